/- Texts of mine, one behind the other: OctN, OctC, OctR, OctD, OctE, OctU. No statement of the seat is proved here. -/
import Derived.Test.YtkfcklmkikaioaaGreatDoorWk1
section
namespace Go.Proofs.YtkfcklmkikaioaaGreatDoor
open Go.RowKit
set_option linter.all false
theorem Wr.foot_lt {w : World} {g base : Nat} {code : Int} {v : Value} {bs : List UInt8} (h : Wr w g base code v bs) {b : Nat} (hb : foot g v b) : b < w.heap.size := by
  rcases hb with rfl | hb
  · exact h.1.lt
  · exact (h.2.lt b hb).2
theorem Wr.foot_ge {w : World} {g base : Nat} {code : Int} {v : Value} {bs : List UInt8} (h : Wr w g base code v bs) (hg : base ≤ g) {b : Nat} (hb : foot g v b) : base ≤ b := by
  rcases hb with rfl | hb
  · exact hg
  · exact (h.2.lt b hb).1
theorem Wr.only {w w' : World} {g base : Nat} {code : Int} {v : Value} {bs : List UInt8} {S : Nat → Prop} (h : Wr w g base code v bs) (ho : Only S w w') (hn : ∀ b, foot g v b → ¬ S b) : Wr w' g base code v bs :=
  ⟨h.1.only ho (hn g (.inl rfl)), owns_only h.2 ho fun b hb => hn b (.inr hb)⟩
theorem Wr.fail {w w' : World} {g base : Nat} {code code' : Int} {v : Value} {bs : List UInt8} (h : Wr w g base code v bs)
    (hb : Blk w' g 69 (#[Value.int .i64 code, v].setIfInBounds 0 (.int .i64 code'))) (ho : Only (one g) w w') : Wr w' g base code' v bs :=
  ⟨by simpa using hb, owns_only h.2 ho fun b hb' => by rintro rfl; exact own_blk_ne h.2 h.1 (by decide) hb'⟩
theorem one_foot {w w' : World} {g : Nat} {v : Value} (ho : Only (one g) w w') : Only (foot g v) w w' := ho.mono fun _ _ h => .inl h
def putS (code : Int) (bs x : List UInt8) : List UInt8 := if code = 0 then bs ++ x else bs
set_option maxHeartbeats 400000 in
theorem writer_raw (g base : Nat) (code : Int) (v pv : Value) (bs : List UInt8) (pss : List (List UInt8)) (S : Nat → Prop) (w : World) (h : Wr w g base code v bs) (hp : Parts w S pv pss)
    (hS : ∀ b, S b → ¬ foot g v b) (hb : bs.length + pss.flatten.length ≤ 140737488355328) (hbase : base ≤ w.heap.size) (hpl : pss.length ≤ 1000) :
    Calls Tryz.prog 132 #[.pointer (some ⟨g, 0, none⟩), pv] w fun e w' => e = .returned (.pointer (some ⟨g, 0, none⟩)) ∧
      ∃ v', Wr w' g base code v' (putS code bs pss.flatten) ∧ Only (foot g v) w w' ∧ Moved w v v' := by
  by_cases hc : code = 0
  · subst hc
    exact writer_raw_ok g base v pv bs pss S w h hp hS hb hbase hpl
  · have h2 : (code != 0) = true := by simp [hc]
    have h3 : Hid (putS code bs pss.flatten = bs) := by simp [Hid, putS, hc]
    obtain ⟨b, off, c, rfl, _⟩ := hp
    have H := Lib.hid h
    clear h hc
    go_enter Tryz.func132, Tryz.ntmps132
    go_wp2_with (go_at_call 30; refine (writer_err _ _ _ _ _ _ H.out).mono ?_; rintro e w' ⟨rfl, rfl⟩)
    go_ret
    rw [h3.out]
    exact ⟨rfl, v, H.out, Only.refl _ _, Moved.refl _ _⟩
def numCode (code : Int) (n : Nat) (width : Int) : Int := if isW width = true then (if n / 2 ^ (8 * width.toNat) = 0 then code else first_ code 2) else first_ code 1
def numBs (code : Int) (bs : List UInt8) (n : Nat) (width : Int) : List UInt8 := if isW width = true then (if n / 2 ^ (8 * width.toNat) = 0 then putS code bs (leBytes n width.toNat) else bs) else bs
theorem run_sliceAt_hm {P : Program} (t e : TypeId) (n m : Nat) (ht : P.underlying t = some (.array n e)) (i : TypeInfo) (hi : P.info? e = some i) (hm : m ≤ n) (a : Addr) (w : World) :
    (Instr.sliceAt t (.pointer (some a)) none (some (.int .i64 (m : Int))) (some (.int .i64 (m : Int)))).run P w = .ok (.slice (some a) m m) w := by
  have h2 : (m : Int) ≤ (n : Int) := by omega
  simp [Instr.sliceAt, Instr.sureAddr, run_underlying ht, Instr.sliceBounds, run_sliceBound, sizeOf, typeInfo, hi, Addr.add, h2]
theorem leBytes_length (n m : Nat) : (leBytes n m).length = m := by simp [leBytes]
theorem leBytes_at (n m j : Nat) (hj : j < (leBytes n m).length) : (leBytes n m)[j] = leByte n j := by simp [leBytes]
theorem leBytes_byt (n m : Nat) (hm : m ≤ 8) {w : World} {g : Nat} (hb : Blk w g 159 (leArr n 8)) : Byt w (fun b => b = g) (.slice (some ⟨g, 0, none⟩) m m) (leBytes n m) := by
  refine ⟨_, m, by rw [leBytes_length], by rw [leBytes_length]; omega, by simp only [maxLen]; omega, by simp, fun _ => ⟨g, 0, rfl, rfl, hb.lt, fun j hj => ?_⟩⟩
  have hj' : j < m := by rw [leBytes_length] at hj; exact hj
  rw [leBytes_at]
  have := hb.cell_ (leArr_at n 8 j (by omega))
  rw [if_pos (by omega)] at this
  simpa using this
theorem parts_one {w : World} {S : Nat → Prop} {x : Value} {bs : List UInt8} {t : TypeId} (h : Byt w S x bs) (hS : S w.heap.size) : Parts (w.alloc (.cells #[x] t)) S (.slice (some ⟨w.heap.size, 0, none⟩) 1 1) [bs] := by
  refine ⟨_, _, 1, rfl, by simp, hS, fun j hj => ?_⟩
  have hj0 : j = 0 := by simp at hj; omega
  subst hj0
  exact ⟨x, by simp, h.alloc _⟩
theorem parts_two {w : World} {S : Nat → Prop} {x y : Value} {bs cs : List UInt8} {t : TypeId} (h : Byt w S x bs) (h' : Byt w S y cs) (hS : S w.heap.size) : Parts (w.alloc (.cells #[x, y] t)) S (.slice (some ⟨w.heap.size, 0, none⟩) 2 2) [bs, cs] := by
  refine ⟨_, _, 2, rfl, by simp, hS, fun j hj => ?_⟩
  have hj0 : j = 0 ∨ j = 1 := by simp at hj; omega
  rcases hj0 with rfl | rfl
  · exact ⟨x, by simp, h.alloc _⟩
  · exact ⟨y, by simp, h'.alloc _⟩
set_option maxHeartbeats 400000 in
theorem writer_number (g base : Nat) (code width : Int) (n : Nat) (v : Value) (bs : List UInt8) (w : World) (h : Wr w g base code v bs) (hn : n < 18446744073709551616)
    (hb : bs.length + 8 ≤ 140737488355328) (hbase : base ≤ w.heap.size) :
    Calls Tryz.prog 59 #[.pointer (some ⟨g, 0, none⟩), .int .u64 (n : Int), .int .i64 width] w fun e w' => e = .returned (.pointer (some ⟨g, 0, none⟩)) ∧
      ∃ v', Wr w' g base (numCode code n width) v' (numBs code bs n width) ∧ Only (foot g v) w w' ∧ Moved w v v' := by
  by_cases hw : isW width = true
  · have hr : 1 ≤ width ∧ width ≤ 8 := by simpa [isW] using hw
    obtain ⟨m, rfl⟩ : ∃ m : Nat, width = m := ⟨width.toNat, by omega⟩
    obtain ⟨hm1, hm2⟩ : 1 ≤ m ∧ m ≤ 8 := by omega
    clear hr
    by_cases h0 : n / 2 ^ (8 * m) = 0
    · have ht : ((n : Int) / 2 ^ (8 * m) != 0) = false := by
        have : (n : Int) / 2 ^ (8 * m) = ((n / 2 ^ (8 * m) : Nat) : Int) := by push_cast; rfl
        rw [this, h0]; rfl
      have hcode : Hid (numCode code n (m : Int) = code) := by simp [Hid, numCode, hw, h0]
      have hbs : Hid (numBs code bs n (m : Int) = putS code bs (leBytes n m)) := by simp [Hid, numBs, hw, h0]
      have HW := Lib.hid hw
      have H := Lib.hid h
      clear h h0 hw
      obtain ⟨i0, hi0, _⟩ := info_parts u8_info
      have hsl := fun a w => run_sliceAt_hm 159 5 8 m Tryz.underlying159 i0 hi0 hm2 a w
      clear hi0
      go_enter Tryz.func59, Tryz.ntmps59
      go_wp2_with (first
        | (go_at_call 130; refine (isWidth_any _ _).mono ?_; rintro e w' ⟨rfl, rfl⟩; rw [HW.out])
        | (go_at_call 131; refine (lowest_any n hn _).mono ?_; rintro e w1 ⟨rfl, ho1⟩)
        | (refine wpList_store_row rfl 159 _ _ rfl w1.heap.size (leArr n 8) rfl rfl 159 _ (Blk.new w1 _ _) (by rw [leArr_size]; kernel_rfl) (by rw [leArr_size]; rfl) (leArr_one n 8) ?_
           have hb2 := (Blk.new w1 159 #[Value.int .u8 0, .int .u8 0, .int .u8 0, .int .u8 0, .int .u8 0, .int .u8 0, .int .u8 0, .int .u8 0]).setRow (leArr n 8)
           have ho2 := (ho1.alloc (.cells #[Value.int .u8 0, .int .u8 0, .int .u8 0, .int .u8 0, .int .u8 0, .int .u8 0, .int .u8 0, .int .u8 0] 159)).setRow (.inr ho1.size) (leArr n 8)
           have hg2 := ho1.size
           generalize (w1.alloc (.cells #[Value.int .u8 0, .int .u8 0, .int .u8 0, .int .u8 0, .int .u8 0, .int .u8 0, .int .u8 0, .int .u8 0] 159)).setRow w1.heap.size (leArr n 8) = w2 at *
           generalize w1.heap.size = g2 at *
           clear ho1
           have HR := writer_raw g base code v _ bs [leBytes n m] (fun k => w.heap.size ≤ k) (w2.alloc (.cells #[.slice (some ⟨g2, 0, none⟩) m m] 35))
             (H.out.only (ho2.alloc _) (fun _ _ h => h)) (parts_one ((leBytes_byt n m hm2 hb2).mono (fun b _ hbg => hbg ▸ hg2)) ho2.size) (fun b hb1 hb2 => by have := H.out.foot_lt hb2; omega) (by simp [leBytes_length]; omega) (by have := ho2.size; simp; omega) (by simp)
           have HO := Lib.hid ho2
           clear ho2)
        | (go_at_call 132; refine HR.mono ?_; rintro e w3 ⟨rfl, v3, h3, o3, m3⟩))
      go_ret
      rw [hcode.out, hbs.out]
      exact ⟨rfl, v3, by simpa using h3, (HO.out.alloc _).of_none.trans o3, (Moved.refl w v).trans m3 (HO.out.alloc _).size⟩
    · have ht : ((n : Int) / 2 ^ (8 * m) != 0) = true := by
        have : (n : Int) / 2 ^ (8 * m) = ((n / 2 ^ (8 * m) : Nat) : Int) := by push_cast; rfl
        rw [this]; simp only [bne_iff_ne, ne_eq]; omega
      have hcode : Hid (numCode code n (m : Int) = first_ code 2) := by simp [Hid, numCode, hw, h0]
      have hbs : Hid (numBs code bs n (m : Int) = bs) := by simp [Hid, numBs, hw, h0]
      have HW := Lib.hid hw
      have H := Lib.hid h
      clear h h0 hw
      go_enter Tryz.func59, Tryz.ntmps59
      go_wp2_with (first
        | (go_at_call 130; refine (isWidth_any _ _).mono ?_; rintro e w' ⟨rfl, rfl⟩; rw [HW.out])
        | (go_at_call 118; refine (fault_fail _ _ _ _ _ _ H.out.1 rfl).mono ?_; rintro e w1 ⟨rfl, hb1, ho1⟩))
      go_ret
      rw [hcode.out, hbs.out]
      exact ⟨rfl, v, H.out.fail hb1 ho1, one_foot ho1, Moved.refl _ _⟩
  · have hw' : isW width = false := by simpa using hw
    have hcode : Hid (numCode code n width = first_ code 1) := by simp [Hid, numCode, hw']
    have hbs : Hid (numBs code bs n width = bs) := by simp [Hid, numBs, hw']
    have HW := Lib.hid hw'
    have H := Lib.hid h
    clear h hw hw'
    go_enter Tryz.func59, Tryz.ntmps59
    go_wp2_with (first
      | (go_at_call 130; refine (isWidth_any _ _).mono ?_; rintro e w' ⟨rfl, rfl⟩; rw [HW.out])
      | (go_at_call 118; refine (fault_fail _ _ _ _ _ _ H.out.1 rfl).mono ?_; rintro e w1 ⟨rfl, hb1, ho1⟩))
    go_ret
    rw [hcode.out, hbs.out]
    exact ⟨rfl, v, H.out.fail hb1 ho1, one_foot ho1, Moved.refl _ _⟩
end Go.Proofs.YtkfcklmkikaioaaGreatDoor
end
section
namespace Go.Proofs.YtkfcklmkikaioaaGreatDoor
open Go.RowKit
set_option linter.all false
set_option maxHeartbeats 400000 in
theorem bytes_clone (x : Value) (bs : List UInt8) (S : Nat → Prop) (w : World) (h : Byt w S x bs) (hb : bs.length ≤ 140737488355328) :
    Calls Tryz.prog 88 #[x] w fun e w' => ∃ A n c, e = .returned (.slice A n c) ∧ w'.ownsRow w.heap.size 5 1 (.slice A n c) bs.length (byts bs) ∧ Only none_ w w' := by
  obtain ⟨i0, hi0, hz0, hz1, hz2⟩ := info_parts u8_info
  obtain ⟨A, c, rfl, h1, h2, h3, h4⟩ := h
  have H : Hid (Byt w S (.slice A bs.length c) bs) := ⟨A, c, rfl, h1, h2, h3, h4⟩
  rcases A with _ | ad
  · have hn : Hid (bs = []) := List.eq_nil_of_length_eq_zero (by have := h3 rfl; omega)
    have hnil := fun w a n c => Lib.run_eql_slice_nil (P := Tryz.prog) w 35 5 a n c 0 0 Tryz.underlying35
    clear h4
    go_enter Tryz.func88, Tryz.ntmps88
    go_wp2
    go_ret
    rw [hn.out]
    exact ⟨_, _, _, rfl, World.ownsRow_nil _ _ _ _, Only.refl _ _⟩
  · clear h4
    have hnil := fun w a n c => Lib.run_eql_slice_nil (P := Tryz.prog) w 35 5 a n c 0 0 Tryz.underlying35
    go_enter Tryz.func88, Tryz.ntmps88
    go_wp2_with (first
      | (at_builtin; refine wpList_append_byt _ rfl (.tmp 5) (.tmp 6) _ rfl w.heap.size 5 i0 (.int .u8 0) Tryz.underlying35 hi0 hz0 hz1 hz2 rfl (.slice (some ⟨w.heap.size, 0, none⟩) 0 0) [] rfl (World.ownsRow_made w #[] 0 (Nat.le_refl _) (by simp [maxLen]) rfl) S _ bs rfl (H.out.alloc _) (by simpa using hb) (by simp) ?_; intro A2 n2 c2 w2 hown2 hgrow2 hmv2))
    go_ret
    exact ⟨_, _, _, rfl, by simpa using hown2, ((Only.refl none_ w).alloc _).grown hgrow2 (fun k hk => .inr (by simp [Value.ownBlock] at hk; omega))⟩
theorem writer_bytes (g base : Nat) (code : Int) (v : Value) (bs : List UInt8) (w : World) (h : Wr w g base code v bs) (hb : bs.length ≤ 140737488355328) :
    Calls Tryz.prog 29 #[.pointer (some ⟨g, 0, none⟩)] w fun e w' => ∃ A n c, e = .returned (.slice A n c) ∧ w'.ownsRow w.heap.size 5 1 (.slice A n c) bs.length (byts bs) ∧ Only none_ w w' := by
  have hc := h.c1
  have H := Lib.hid h
  clear h
  go_enter Tryz.func29, Tryz.ntmps29
  go_wp2_with (first
      | (go_at_call 88; refine (bytes_clone _ bs _ _ (Byt.of_own H.out.2) hb).mono ?_; rintro e w1 ⟨A, n, c, rfl, h1, o1⟩))
  go_ret
  exact ⟨_, _, _, rfl, h1, o1⟩
end Go.Proofs.YtkfcklmkikaioaaGreatDoor
end
section
namespace Go.Proofs.YtkfcklmkikaioaaGreatDoor
open Go.RowKit
set_option linter.all false
def Rd (w : World) (g : Nat) (S : Nat → Prop) (code : Int) (bs : List UInt8) : Prop :=
  ∃ A c, Blk w g 139 #[.int .i64 code, .slice A bs.length c] ∧ Byt w S (.slice A bs.length c) bs ∧ ¬ S g
theorem Rd.only {w w' : World} {g : Nat} {S T : Nat → Prop} {code : Int} {bs : List UInt8} (h : Rd w g S code bs) (ho : Only T w w') (hg : ¬ T g) (hn : ∀ b, S b → ¬ T b) : Rd w' g S code bs := by
  obtain ⟨A, c, hb, hy, hs⟩ := h
  exact ⟨A, c, hb.only ho hg, hy.only ho hn, hs⟩
theorem Rd.lt {w : World} {g : Nat} {S : Nat → Prop} {code : Int} {bs : List UInt8} (h : Rd w g S code bs) : g < w.heap.size := by
  obtain ⟨A, c, hb, _⟩ := h
  exact hb.lt
theorem reader_err (g : Nat) (S : Nat → Prop) (code : Int) (bs : List UInt8) (w : World) (h : Rd w g S code bs) :
    Calls Tryz.prog 89 #[.pointer (some ⟨g, 0, none⟩)] w fun e w' => e = .returned (.int .i64 code) ∧ w = w' := by
  obtain ⟨A, c, hb, hy⟩ := h
  exact fault_err _ _ _ _ _ hb rfl
theorem reader_fail (g : Nat) (S : Nat → Prop) (code k : Int) (bs : List UInt8) (w : World) (h : Rd w g S code bs) :
    Calls Tryz.prog 118 #[.pointer (some ⟨g, 0, none⟩), .int .i64 k] w fun e w' => e = .returned (.tuple #[]) ∧ Rd w' g S (first_ code k) bs ∧ Only (one g) w w' := by
  obtain ⟨A, c, hb, hy, hs⟩ := h
  refine (fault_fail _ _ _ _ k _ hb rfl).mono ?_
  rintro e w' ⟨rfl, h1, h2⟩
  exact ⟨rfl, ⟨A, c, by simpa using h1, hy.only h2 (fun b hb e => hs (e ▸ hb)), hs⟩, h2⟩
theorem reader_left (g : Nat) (S : Nat → Prop) (code : Int) (bs : List UInt8) (w : World) (h : Rd w g S code bs) :
    Calls Tryz.prog 117 #[.pointer (some ⟨g, 0, none⟩)] w fun e w' => e = .returned (.int .i64 (bs.length : Int)) ∧ w = w' := by
  obtain ⟨A, c, hb, hy, hs⟩ := h
  have h1 : w.cell? ⟨g, 1, none⟩ = some (.slice A bs.length c) := hb.cell_ rfl
  clear hb hy
  go_enter Tryz.func117, Tryz.ntmps117
  go_wp2
  go_ret
  exact ⟨rfl, rfl⟩
def doneCode (code : Int) (bs : List UInt8) : Int := if 0 < bs.length then first_ code 4 else code
theorem reader_done (g : Nat) (S : Nat → Prop) (code : Int) (bs : List UInt8) (w : World) (h : Rd w g S code bs) :
    Calls Tryz.prog 42 #[.pointer (some ⟨g, 0, none⟩)] w fun e w' => e = .returned (.int .i64 (doneCode code bs)) ∧ Rd w' g S (doneCode code bs) bs ∧ Only (one g) w w' := by
  have H := Lib.hid h
  clear h
  by_cases h0 : 0 < bs.length
  · have HD : Hid (doneCode code bs = first_ code 4) := by simp only [Hid, doneCode, if_pos h0]
    go_enter Tryz.func42, Tryz.ntmps42
    go_wp2_with (first
      | (go_at_call 117; refine (reader_left _ _ _ _ _ H.out).mono ?_; rintro e w' ⟨rfl, rfl⟩)
      | (go_at_call 118; refine (reader_fail _ _ _ _ _ _ H.out).mono ?_; rintro e w1 ⟨rfl, h1, o1⟩; have H1 := Lib.hid h1; clear h1)
      | (go_at_call 89; refine (reader_err _ _ _ _ _ H1.out).mono ?_; rintro e w' ⟨rfl, rfl⟩))
    go_ret
    rw [HD.out]
    exact ⟨rfl, H1.out, o1⟩
  · have HD : Hid (doneCode code bs = code) := by simp only [Hid, doneCode, if_neg h0]
    go_enter Tryz.func42, Tryz.ntmps42
    go_wp2_with (first
      | (go_at_call 117; refine (reader_left _ _ _ _ _ H.out).mono ?_; rintro e w' ⟨rfl, rfl⟩)
      | (go_at_call 89; refine (reader_err _ _ _ _ _ H.out).mono ?_; rintro e w' ⟨rfl, rfl⟩))
    go_ret
    rw [HD.out]
    exact ⟨rfl, H.out, Only.refl _ _⟩
end Go.Proofs.YtkfcklmkikaioaaGreatDoor
end
section
namespace Go.Proofs.YtkfcklmkikaioaaGreatDoor
open Go.RowKit
set_option linter.all false
theorem take_ok (g : Nat) (S : Nat → Prop) (bs : List UInt8) (n : Nat) (w : World) (h : Rd w g S 0 bs) (hn : n ≤ bs.length) (_hm : bs.length ≤ 9223372036854775807) :
    Calls Tryz.prog 133 #[.pointer (some ⟨g, 0, none⟩), .int .i64 (n : Int)] w fun e w' =>
      ∃ A c, e = .returned (.tuple #[.slice A n c, .bool true]) ∧ Byt w' S (.slice A n c) (bs.take n) ∧ Rd w' g S 0 (bs.drop n) ∧ Only (one g) w w' := by
  obtain ⟨A, c, hb, hy, hs⟩ := h
  have h1 : w.cell? ⟨g, 1, none⟩ = some (.slice A bs.length c) := hb.cell_ rfl
  have h0 := hb.frozen 1
  obtain ⟨i0, hi0, _, hz1, _⟩ := info_parts u8_info
  obtain ⟨A1, r1, b1⟩ := byt_hi Tryz.underlying35 hi0 hy n hn _ rfl
  obtain ⟨A2, L2, c2, r2, b2⟩ := byt_lo Tryz.underlying35 hi0 hz1 hy n hn _ rfl
  have HB := Lib.hid hb
  have HE : ∀ w', w = w' → Rd w' g S 0 bs := by rintro w' rfl; exact ⟨A, c, hb, hy, hs⟩
  have HH := Lib.hid HE
  have B1 := Lib.hid b1
  have B2 := Lib.hid b2
  clear hb hy HE b1 b2 hi0 hz1
  go_enter Tryz.func133, Tryz.ntmps133
  go_wp2_with (first
      | (go_at_call 89; refine (reader_err _ _ _ _ _ (HH.out _ rfl)).mono ?_; rintro e w' ⟨rfl, rfl⟩))
  go_ret2
  have o1 : Only (one g) w (w.setCell ⟨g, 1, none⟩ (.slice A2 L2 c2)) := (Only.refl (one g) w).setCell (.inl (show one g g from rfl)) _
  have hL : L2 = (bs.drop n).length := by
    obtain ⟨_, _, he, _⟩ := B2.out
    injection he
  refine ⟨A1, c, rfl, B1.out.only o1 (fun b hb e => hs (e ▸ hb)), ⟨A2, c2, ?_, ?_, hs⟩, o1⟩
  · rw [← hL]
    exact HB.out.set_ 1 (.slice A2 L2 c2)
  · rw [← hL]
    exact B2.out.only o1 (fun b hb e => hs (e ▸ hb))
def takeCode (code : Int) (bs : List UInt8) (n : Nat) : Int := if bs.length < n then first_ code 6 else code
theorem take_no (g : Nat) (S : Nat → Prop) (code : Int) (bs : List UInt8) (n : Nat) (w : World) (h : Rd w g S code bs) (hn : code ≠ 0 ∨ bs.length < n) (_hm : bs.length ≤ 9223372036854775807) :
    Calls Tryz.prog 133 #[.pointer (some ⟨g, 0, none⟩), .int .i64 (n : Int)] w fun e w' =>
      e = .returned (.tuple #[.slice none 0 0, .bool false]) ∧ Rd w' g S (takeCode code bs n) bs ∧ Only (one g) w w' := by
  have H := Lib.hid h
  obtain ⟨A, c, hb, hy, hs⟩ := h
  have h1 : w.cell? ⟨g, 1, none⟩ = some (.slice A bs.length c) := hb.cell_ rfl
  clear hb hy
  by_cases h0 : bs.length < n
  · have HT : Hid (takeCode code bs n = first_ code 6) := by simp only [Hid, takeCode, if_pos h0]
    have hf : (first_ code 6 != 0) = true := by unfold first_; split <;> simp_all
    clear hn
    go_enter Tryz.func133, Tryz.ntmps133
    go_wp2_with (first
      | (go_at_call 118; refine (reader_fail _ _ _ _ _ _ H.out).mono ?_; rintro e w1 ⟨rfl, h2, o2⟩; have H2 := Lib.hid h2; clear h2)
      | (go_at_call 89; refine (reader_err _ _ _ _ _ H2.out).mono ?_; rintro e w' ⟨rfl, rfl⟩))
    go_ret2
    rw [HT.out]
    exact ⟨rfl, H2.out, o2⟩
  · have HT : Hid (takeCode code bs n = code) := by simp only [Hid, takeCode, if_neg h0]
    have hf : (code != 0) = true := by rcases hn with h | h <;> simp_all
    clear hn
    go_enter Tryz.func133, Tryz.ntmps133
    go_wp2_with (first
      | (go_at_call 89; refine (reader_err _ _ _ _ _ H.out).mono ?_; rintro e w' ⟨rfl, rfl⟩))
    go_ret2
    rw [HT.out]
    exact ⟨rfl, H.out, Only.refl _ _⟩
end Go.Proofs.YtkfcklmkikaioaaGreatDoor
end
section
namespace Go.Proofs.YtkfcklmkikaioaaGreatDoor
open Go.RowKit
set_option linter.all false
theorem read_any (x : Value) (bs : List UInt8) (S : Nat → Prop) (w : World) (h : Byt w S x bs) (hb : bs.length ≤ 140737488355328) :
    Calls Tryz.prog 41 #[x] w fun e w' => ∃ g S, e = .returned (.pointer (some ⟨g, 0, none⟩)) ∧ w.heap.size ≤ g ∧ Rd w' g S 0 bs ∧ (∀ b, S b → w.heap.size ≤ b ∧ b < w'.heap.size) ∧ Only none_ w w' := by
  have H := Lib.hid h
  clear h
  go_enter Tryz.func41, Tryz.ntmps41
  go_wp2_with (first
      | (go_at_call 88; refine (bytes_clone _ _ _ _ H.out hb).mono ?_; rintro e w2 ⟨A3, n3, c3, rfl, hw3, o3⟩))
  go_ret
  have h5 : Byt w2 (fun b => w.heap.size ≤ b ∧ b < w2.heap.size) (.slice A3 n3 c3) bs := by
    refine (Byt.of_own hw3).mono fun b hb hk => ?_
    have := hw3.lt b hk
    exact ⟨this.1, by omega⟩
  refine ⟨_, (fun b => w.heap.size ≤ b ∧ b < w2.heap.size), rfl, o3.size, ?_, fun b hb => ⟨hb.1, by simp only [World.size_alloc]; omega⟩, o3.alloc _⟩
  have h6 := h5
  obtain ⟨_, _, he, _⟩ := h6
  injection he with e1 e2 e3
  subst e2
  exact ⟨A3, c3, Blk.new _ _ _, h5.alloc _, fun h => absurd h.2 (Nat.lt_irrefl _)⟩
end Go.Proofs.YtkfcklmkikaioaaGreatDoor
end
section
namespace Go.Proofs.YtkfcklmkikaioaaGreatDoor
open Go.RowKit
set_option linter.all false
def leVal : List UInt8 → Nat
  | [] => 0
  | b :: r => b.toNat + 256 * leVal r
theorem leVal_lt : ∀ bs : List UInt8, leVal bs < 256 ^ bs.length
  | [] => by simp [leVal]
  | b :: r => by
    have h1 := leVal_lt r
    have h2 := b.toNat_lt
    simp only [leVal, List.length_cons, Nat.pow_succ]
    omega
theorem leVal_snoc : ∀ (bs : List UInt8) (b : UInt8), leVal (bs ++ [b]) = leVal bs + 256 ^ bs.length * b.toNat
  | [], b => by simp [leVal]
  | x :: r, b => by
    simp only [List.cons_append, leVal, leVal_snoc r b, List.length_cons, Nat.pow_succ]
    rw [Nat.mul_add, Nat.mul_comm (256 ^ r.length) 256, Nat.mul_assoc]
    omega
def numR (code : Int) (bs : List UInt8) (width : Int) : Int × List UInt8 × Nat :=
  if isW width = true then (if code = 0 ∧ width.toNat ≤ bs.length then (0, bs.drop width.toNat, leVal (bs.take width.toNat)) else (takeCode code bs width.toNat, bs, 0)) else (first_ code 1, bs, 0)
theorem or_step (v z k : Nat) (hk : k < 8) (hv : v < 256 ^ k) (hz : z < 256) :
    bits .or .u64 (v : Int) (IntKind.u64.wrap ((z : Int) * 2 ^ (8 * k))) = ((v + 256 ^ k * z : Nat) : Int) := by
  have e1 : (256 : Nat) ^ k = 2 ^ (8 * k) := by rw [Nat.pow_mul]
  rw [e1] at hv ⊢
  have h1 : 2 ^ (8 * k) * 256 ≤ 18446744073709551616 := by
    have : 2 ^ (8 * k) ≤ 2 ^ 56 := Nat.pow_le_pow_right (by omega) (by omega)
    omega
  have h2 : z * 2 ^ (8 * k) < 18446744073709551616 := by
    have : z * 2 ^ (8 * k) < 256 * 2 ^ (8 * k) := Nat.mul_lt_mul_of_pos_right hz (Nat.two_pow_pos _)
    rw [Nat.mul_comm 256] at this
    omega
  have e2 : ((z : Int) * 2 ^ (8 * k)) = ((z * 2 ^ (8 * k) : Nat) : Int) := by push_cast; rfl
  have e3 : IntKind.u64.wrap ((z * 2 ^ (8 * k) : Nat) : Int) = ((z * 2 ^ (8 * k) : Nat) : Int) := IntWalk.u64_in _ (by omega)
  rw [e2, e3, u64_or_nat _ _ (by omega) h2, Nat.or_comm, nat_join (8 * k) (z * 2 ^ (8 * k)) v (by simp) hv, Nat.mul_comm z, Nat.add_comm]
theorem le_take (xs : List UInt8) (k : Nat) (hk : k < xs.length) : leVal (xs.take (k + 1)) = leVal (xs.take k) + 256 ^ k * xs[k].toNat := by
  rw [List.take_succ_eq_append_getElem hk, leVal_snoc]
  congr 2
  rw [List.length_take, Nat.min_eq_left (by omega)]
theorem le_take_lt (xs : List UInt8) (k : Nat) (hk : k ≤ xs.length) : leVal (xs.take k) < 256 ^ k := by
  have := leVal_lt (xs.take k)
  rwa [List.length_take, Nat.min_eq_left hk] at this
set_option maxHeartbeats 400000 in
theorem reader_number (g : Nat) (S : Nat → Prop) (code : Int) (bs : List UInt8) (width : Int) (w : World) (h : Rd w g S code bs) (hm : bs.length ≤ 140737488355328) :
    Calls Tryz.prog 61 #[.pointer (some ⟨g, 0, none⟩), .int .i64 width] w fun e w' =>
      e = .returned (.int .u64 ((numR code bs width).2.2 : Int)) ∧ Rd w' g S (numR code bs width).1 (numR code bs width).2.1 ∧ Only (one g) w w' := by
  have H := Lib.hid h
  clear h
  by_cases hw : isW width = true
  · have hr : 1 ≤ width ∧ width ≤ 8 := by simpa [isW] using hw
    obtain ⟨m, rfl⟩ : ∃ m : Nat, width = m := ⟨width.toNat, by omega⟩
    obtain ⟨hm1, hm2⟩ : 1 ≤ m ∧ m ≤ 8 := by omega
    clear hr
    have HW := Lib.hid hw
    by_cases h1 : code = 0 ∧ m ≤ bs.length
    · obtain ⟨rfl, h1⟩ := h1
      have HR : Hid (numR 0 bs (m : Int) = (0, bs.drop m, leVal (bs.take m))) := by simp only [Hid, numR, hw, Int.toNat_natCast, h1, true_and, if_true]
      clear hw
      obtain ⟨xs, hxs⟩ : ∃ xs, xs = bs.take m := ⟨_, rfl⟩
      have hxl : Hid (xs.length = m) := by rw [hxs]; simp only [Hid, List.length_take]; omega
      rw [← hxs] at HR
      have HT := take_ok g S bs m w H.out h1 (by omega)
      rw [← hxs] at HT
      clear hxs
      go_enter Tryz.func61, Tryz.ntmps61
      go_wp2_with (first
        | (go_at_call 130; refine (isWidth_any _ _).mono ?_; rintro e w' ⟨rfl, rfl⟩; rw [HW.out])
        | (go_at_call 133; refine HT.mono ?_; rintro e w1 ⟨A, c, rfl, hb2, h2, o2⟩; have H2 := Lib.hid h2; clear h2))
      obtain ⟨A', c', he, _, _, _, hcs⟩ := hb2
      injection he with e1 e2 e3
      subst e1 e3
      obtain ⟨b, off, rfl, _, _, hc⟩ := hcs (by rw [hxl.out]; omega)
      have HC := Lib.hid hc
      clear hcs hc e2
      go_loop [7, 25] (fun v i => ∃ k : Nat, k ≤ m ∧ i = .int .i64 k ∧ v = .int .u64 (leVal (xs.take k))) (fun _ i => m - (intOf i).toNat)
      case atStart => exact ⟨0, by omega, rfl, by simp [leVal]⟩
      case round =>
        obtain ⟨k, hk, rfl, rfl⟩ := hrel
        by_cases hlt : k < m
        · have hz : w1.cell? ⟨b, off + k, none⟩ = some (.int .u8 ((xs[k]'(by rw [hxl.out]; exact hlt)).toNat : Int)) := HC.out k _
          obtain ⟨z, hzz⟩ : ∃ z, z = xs[k]'(by rw [hxl.out]; exact hlt) := ⟨_, rfl⟩
          rw [← hzz] at hz
          have hz8 := z.toNat_lt
          have HS : Hid (bits .or .u64 (leVal (xs.take k) : Int) (IntKind.u64.wrap ((z.toNat : Int) * 2 ^ (8 * k))) = (leVal (xs.take (k + 1)) : Int)) := by
            have h5 := le_take xs k (by rw [hxl.out]; exact hlt)
            rw [← hzz] at h5
            rw [Hid, h5]
            exact or_step _ _ k (by omega) (le_take_lt xs k (by rw [hxl.out]; exact hk)) hz8
          clear hzz
          go_wp2
          go_round
          case rel => exact ⟨k + 1, by omega, by go_num, by rw [HS.out]⟩
          case measure => simp [intOf]; omega
        · have HK : Hid (xs.take k = xs) := List.take_of_length_le (by rw [hxl.out]; omega)
          go_wp2
          go_ret
          rw [HR.out, HK.out]
          exact ⟨rfl, H2.out, o2⟩
    · have HR : Hid (numR code bs (m : Int) = (takeCode code bs m, bs, 0)) := by simp only [Hid, numR, hw, Int.toNat_natCast, h1, if_true, if_false]
      have h2 : code ≠ 0 ∨ bs.length < m := by
        by_cases hc : code = 0
        · exact .inr (by have : ¬ m ≤ bs.length := fun h => h1 ⟨hc, h⟩; omega)
        · exact .inl hc
      clear h1 hw
      have HC := Lib.hid h2
      clear h2
      go_enter Tryz.func61, Tryz.ntmps61
      go_wp2_with (first
        | (go_at_call 130; refine (isWidth_any _ _).mono ?_; rintro e w' ⟨rfl, rfl⟩; rw [HW.out])
        | (go_at_call 133; refine (take_no _ _ _ _ _ _ H.out HC.out (by omega)).mono ?_; rintro e w1 ⟨rfl, h2, o2⟩; have H2 := Lib.hid h2; clear h2))
      refine wp_loop_rounds 1 ?_
      rw [rounds_succ]
      go_wp2
      go_ret
      rw [HR.out]
      exact ⟨rfl, H2.out, o2⟩
  · have hw' : isW width = false := by simpa using hw
    have HR : Hid (numR code bs width = (first_ code 1, bs, 0)) := by simp [Hid, numR, hw']
    have HW := Lib.hid hw'
    clear hw hw'
    go_enter Tryz.func61, Tryz.ntmps61
    go_wp2_with (first
      | (go_at_call 130; refine (isWidth_any _ _).mono ?_; rintro e w' ⟨rfl, rfl⟩; rw [HW.out])
      | (go_at_call 118; refine (reader_fail _ _ _ _ _ _ H.out).mono ?_; rintro e w1 ⟨rfl, h2, o2⟩; have H2 := Lib.hid h2; clear h2))
    go_ret
    rw [HR.out]
    exact ⟨rfl, H2.out, o2⟩
end Go.Proofs.YtkfcklmkikaioaaGreatDoor
end
