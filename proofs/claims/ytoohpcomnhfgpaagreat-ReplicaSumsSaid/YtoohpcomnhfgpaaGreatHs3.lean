/- Texts of mine, one behind the other: OctN, OctC, OctT, OctG, EnZ, EoA, SmM, RpM, RcP. No statement of the seat is proved here. -/
import Derived.Test.YtoohpcomnhfgpaaGreatHs2
import Derived.Test.YtoohpcomnhfgpaaGreatHs1
import Derived.Deep.RegionHeld3
import Derived.Laws.Bits64
import Derived.Maps.OwnOps
import Derived.Maps.OwnSet
section
namespace Go.Proofs.YtoohpcomnhfgpaaGreat
open Go.RowKit
set_option linter.all false
theorem Wr.foot_lt {w : World} {g base : Nat} {code : Int} {v : Value} {bs : List UInt8} (h : Wr w g base code v bs) {b : Nat} (hb : foot g v b) : b < w.heap.size := by
  rcases hb with rfl | hb
  · exact h.1.lt
  · exact (h.2.lt b hb).2
theorem Wr.foot_ge {w : World} {g base : Nat} {code : Int} {v : Value} {bs : List UInt8} (h : Wr w g base code v bs) (hg : base ≤ g) {b : Nat} (hb : foot g v b) : base ≤ b := by
  rcases hb with rfl | hb
  · exact hg
  · exact (h.2.lt b hb).1
theorem Wr.only {w w' : World} {g base : Nat} {code : Int} {v : Value} {bs : List UInt8} {S : Nat → Prop} (h : Wr w g base code v bs) (ho : Only S w w') (hn : ∀ b, foot g v b → ¬ S b) : Wr w' g base code v bs :=
  ⟨h.1.only ho (hn g (.inl rfl)), owns_only h.2 ho fun b hb => hn b (.inr hb)⟩
theorem Wr.fail {w w' : World} {g base : Nat} {code code' : Int} {v : Value} {bs : List UInt8} (h : Wr w g base code v bs)
    (hb : Blk w' g 318 (#[Value.int .i64 code, v].setIfInBounds 0 (.int .i64 code'))) (ho : Only (one g) w w') : Wr w' g base code' v bs :=
  ⟨by simpa using hb, owns_only h.2 ho fun b hb' => by rintro rfl; exact own_blk_ne h.2 h.1 (by decide) hb'⟩
theorem one_foot {w w' : World} {g : Nat} {v : Value} (ho : Only (one g) w w') : Only (foot g v) w w' := ho.mono fun _ _ h => .inl h
def putS (code : Int) (bs x : List UInt8) : List UInt8 := if code = 0 then bs ++ x else bs
set_option maxHeartbeats 400000 in
theorem writer_raw (g base : Nat) (code : Int) (v pv : Value) (bs : List UInt8) (pss : List (List UInt8)) (S : Nat → Prop) (w : World) (h : Wr w g base code v bs) (hp : Parts w S pv pss)
    (hS : ∀ b, S b → ¬ foot g v b) (hb : bs.length + pss.flatten.length ≤ 140737488355328) (hbase : base ≤ w.heap.size) (hpl : pss.length ≤ 1000) :
    Calls Tryz.prog 268 #[.pointer (some ⟨g, 0, none⟩), pv] w fun e w' => e = .returned (.pointer (some ⟨g, 0, none⟩)) ∧
      ∃ v', Wr w' g base code v' (putS code bs pss.flatten) ∧ Only (foot g v) w w' ∧ Moved w v v' := by
  by_cases hc : code = 0
  · subst hc
    exact writer_raw_ok g base v pv bs pss S w h hp hS hb hbase hpl
  · have h2 : (code != 0) = true := by simp [hc]
    have h3 : Hid (putS code bs pss.flatten = bs) := by simp [Hid, putS, hc]
    obtain ⟨b, off, c, rfl, _⟩ := hp
    have H := Lib.hid h
    clear h hc
    go_enter Tryz.func268, Tryz.ntmps268
    go_wp2_with (go_at_call 211; refine (writer_err _ _ _ _ _ _ H.out).mono ?_; rintro e w' ⟨rfl, rfl⟩)
    go_ret
    rw [h3.out]
    exact ⟨rfl, v, H.out, Only.refl _ _, Moved.refl _ _⟩
def numCode (code : Int) (n : Nat) (width : Int) : Int := if isW width = true then (if n / 2 ^ (8 * width.toNat) = 0 then code else first_ code 2) else first_ code 1
def numBs (code : Int) (bs : List UInt8) (n : Nat) (width : Int) : List UInt8 := if isW width = true then (if n / 2 ^ (8 * width.toNat) = 0 then putS code bs (leBytes n width.toNat) else bs) else bs
theorem run_sliceAt_hm {P : Program} (t e : TypeId) (n m : Nat) (ht : P.underlying t = some (.array n e)) (i : TypeInfo) (hi : P.info? e = some i) (hm : m ≤ n) (a : Addr) (w : World) :
    (Instr.sliceAt t (.pointer (some a)) none (some (.int .i64 (m : Int))) (some (.int .i64 (m : Int)))).run P w = .ok (.slice (some a) m m) w := by
  have h2 : (m : Int) ≤ (n : Int) := by omega
  simp [Instr.sliceAt, Instr.sureAddr, run_underlying ht, Instr.sliceBounds, run_sliceBound, sizeOf, typeInfo, hi, Addr.add, h2]
theorem leBytes_length (n m : Nat) : (leBytes n m).length = m := by simp [leBytes]
theorem leBytes_at (n m j : Nat) (hj : j < (leBytes n m).length) : (leBytes n m)[j] = leByte n j := by simp [leBytes]
theorem leBytes_byt (n m : Nat) (hm : m ≤ 8) {w : World} {g : Nat} (hb : Blk w g 374 (leArr n 8)) : Byt w (fun b => b = g) (.slice (some ⟨g, 0, none⟩) m m) (leBytes n m) := by
  refine ⟨_, m, by rw [leBytes_length], by rw [leBytes_length]; omega, by simp only [maxLen]; omega, by simp, fun _ => ⟨g, 0, rfl, rfl, hb.lt, fun j hj => ?_⟩⟩
  have hj' : j < m := by rw [leBytes_length] at hj; exact hj
  rw [leBytes_at]
  have := hb.cell_ (leArr_at n 8 j (by omega))
  rw [if_pos (by omega)] at this
  simpa using this
theorem parts_one {w : World} {S : Nat → Prop} {x : Value} {bs : List UInt8} {t : TypeId} (h : Byt w S x bs) (hS : S w.heap.size) : Parts (w.alloc (.cells #[x] t)) S (.slice (some ⟨w.heap.size, 0, none⟩) 1 1) [bs] := by
  refine ⟨_, _, 1, rfl, by simp, hS, fun j hj => ?_⟩
  have hj0 : j = 0 := by simp at hj; omega
  subst hj0
  exact ⟨x, by simp, h.alloc _⟩
theorem parts_two {w : World} {S : Nat → Prop} {x y : Value} {bs cs : List UInt8} {t : TypeId} (h : Byt w S x bs) (h' : Byt w S y cs) (hS : S w.heap.size) : Parts (w.alloc (.cells #[x, y] t)) S (.slice (some ⟨w.heap.size, 0, none⟩) 2 2) [bs, cs] := by
  refine ⟨_, _, 2, rfl, by simp, hS, fun j hj => ?_⟩
  have hj0 : j = 0 ∨ j = 1 := by simp at hj; omega
  rcases hj0 with rfl | rfl
  · exact ⟨x, by simp, h.alloc _⟩
  · exact ⟨y, by simp, h'.alloc _⟩
set_option maxHeartbeats 400000 in
theorem writer_number (g base : Nat) (code width : Int) (n : Nat) (v : Value) (bs : List UInt8) (w : World) (h : Wr w g base code v bs) (hn : n < 18446744073709551616)
    (hb : bs.length + 8 ≤ 140737488355328) (hbase : base ≤ w.heap.size) :
    Calls Tryz.prog 239 #[.pointer (some ⟨g, 0, none⟩), .int .u64 (n : Int), .int .i64 width] w fun e w' => e = .returned (.pointer (some ⟨g, 0, none⟩)) ∧
      ∃ v', Wr w' g base (numCode code n width) v' (numBs code bs n width) ∧ Only (foot g v) w w' ∧ Moved w v v' := by
  by_cases hw : isW width = true
  · have hr : 1 ≤ width ∧ width ≤ 8 := by simpa [isW] using hw
    obtain ⟨m, rfl⟩ : ∃ m : Nat, width = m := ⟨width.toNat, by omega⟩
    obtain ⟨hm1, hm2⟩ : 1 ≤ m ∧ m ≤ 8 := by omega
    clear hr
    by_cases h0 : n / 2 ^ (8 * m) = 0
    · have ht : ((n : Int) / 2 ^ (8 * m) != 0) = false := by
        have : (n : Int) / 2 ^ (8 * m) = ((n / 2 ^ (8 * m) : Nat) : Int) := by push_cast; rfl
        rw [this, h0]; rfl
      have hcode : Hid (numCode code n (m : Int) = code) := by simp [Hid, numCode, hw, h0]
      have hbs : Hid (numBs code bs n (m : Int) = putS code bs (leBytes n m)) := by simp [Hid, numBs, hw, h0]
      have HW := Lib.hid hw
      have H := Lib.hid h
      clear h h0 hw
      obtain ⟨i0, hi0, _⟩ := info_parts u8_info
      have hsl := fun a w => run_sliceAt_hm 374 5 8 m Tryz.underlying374 i0 hi0 hm2 a w
      clear hi0
      go_enter Tryz.func239, Tryz.ntmps239
      go_wp2_with (first
        | (go_at_call 269; refine (isWidth_any _ _).mono ?_; rintro e w' ⟨rfl, rfl⟩; rw [HW.out])
        | (go_at_call 270; refine (lowest_any n hn _).mono ?_; rintro e w1 ⟨rfl, ho1⟩)
        | (refine wpList_store_row rfl 374 _ _ rfl w1.heap.size (leArr n 8) rfl rfl 374 _ (Blk.new w1 _ _) (by rw [leArr_size]; kernel_rfl) (by rw [leArr_size]; rfl) (leArr_one n 8) ?_
           have hb2 := (Blk.new w1 374 #[Value.int .u8 0, .int .u8 0, .int .u8 0, .int .u8 0, .int .u8 0, .int .u8 0, .int .u8 0, .int .u8 0]).setRow (leArr n 8)
           have ho2 := (ho1.alloc (.cells #[Value.int .u8 0, .int .u8 0, .int .u8 0, .int .u8 0, .int .u8 0, .int .u8 0, .int .u8 0, .int .u8 0] 374)).setRow (.inr ho1.size) (leArr n 8)
           have hg2 := ho1.size
           generalize (w1.alloc (.cells #[Value.int .u8 0, .int .u8 0, .int .u8 0, .int .u8 0, .int .u8 0, .int .u8 0, .int .u8 0, .int .u8 0] 374)).setRow w1.heap.size (leArr n 8) = w2 at *
           generalize w1.heap.size = g2 at *
           clear ho1
           have HR := writer_raw g base code v _ bs [leBytes n m] (fun k => w.heap.size ≤ k) (w2.alloc (.cells #[.slice (some ⟨g2, 0, none⟩) m m] 114))
             (H.out.only (ho2.alloc _) (fun _ _ h => h)) (parts_one ((leBytes_byt n m hm2 hb2).mono (fun b _ hbg => hbg ▸ hg2)) ho2.size) (fun b hb1 hb2 => by have := H.out.foot_lt hb2; omega) (by simp [leBytes_length]; omega) (by have := ho2.size; simp; omega) (by simp)
           have HO := Lib.hid ho2
           clear ho2)
        | (go_at_call 268; refine HR.mono ?_; rintro e w3 ⟨rfl, v3, h3, o3, m3⟩))
      go_ret
      rw [hcode.out, hbs.out]
      exact ⟨rfl, v3, by simpa using h3, (HO.out.alloc _).of_none.trans o3, (Moved.refl w v).trans m3 (HO.out.alloc _).size⟩
    · have ht : ((n : Int) / 2 ^ (8 * m) != 0) = true := by
        have : (n : Int) / 2 ^ (8 * m) = ((n / 2 ^ (8 * m) : Nat) : Int) := by push_cast; rfl
        rw [this]; simp only [bne_iff_ne, ne_eq]; omega
      have hcode : Hid (numCode code n (m : Int) = first_ code 2) := by simp [Hid, numCode, hw, h0]
      have hbs : Hid (numBs code bs n (m : Int) = bs) := by simp [Hid, numBs, hw, h0]
      have HW := Lib.hid hw
      have H := Lib.hid h
      clear h h0 hw
      go_enter Tryz.func239, Tryz.ntmps239
      go_wp2_with (first
        | (go_at_call 269; refine (isWidth_any _ _).mono ?_; rintro e w' ⟨rfl, rfl⟩; rw [HW.out])
        | (go_at_call 220; refine (fault_fail _ _ _ _ _ _ H.out.1 rfl).mono ?_; rintro e w1 ⟨rfl, hb1, ho1⟩))
      go_ret
      rw [hcode.out, hbs.out]
      exact ⟨rfl, v, H.out.fail hb1 ho1, one_foot ho1, Moved.refl _ _⟩
  · have hw' : isW width = false := by simpa using hw
    have hcode : Hid (numCode code n width = first_ code 1) := by simp [Hid, numCode, hw']
    have hbs : Hid (numBs code bs n width = bs) := by simp [Hid, numBs, hw']
    have HW := Lib.hid hw'
    have H := Lib.hid h
    clear h hw hw'
    go_enter Tryz.func239, Tryz.ntmps239
    go_wp2_with (first
      | (go_at_call 269; refine (isWidth_any _ _).mono ?_; rintro e w' ⟨rfl, rfl⟩; rw [HW.out])
      | (go_at_call 220; refine (fault_fail _ _ _ _ _ _ H.out.1 rfl).mono ?_; rintro e w1 ⟨rfl, hb1, ho1⟩))
    go_ret
    rw [hcode.out, hbs.out]
    exact ⟨rfl, v, H.out.fail hb1 ho1, one_foot ho1, Moved.refl _ _⟩
end Go.Proofs.YtoohpcomnhfgpaaGreat
end
section
namespace Go.Proofs.YtoohpcomnhfgpaaGreat
open Go.RowKit
set_option linter.all false
set_option maxHeartbeats 400000 in
theorem bytes_clone (x : Value) (bs : List UInt8) (S : Nat → Prop) (w : World) (h : Byt w S x bs) (hb : bs.length ≤ 140737488355328) :
    Calls Tryz.prog 168 #[x] w fun e w' => ∃ A n c, e = .returned (.slice A n c) ∧ w'.ownsRow w.heap.size 5 1 (.slice A n c) bs.length (byts bs) ∧ Only none_ w w' := by
  obtain ⟨i0, hi0, hz0, hz1, hz2⟩ := info_parts u8_info
  obtain ⟨A, c, rfl, h1, h2, h3, h4⟩ := h
  have H : Hid (Byt w S (.slice A bs.length c) bs) := ⟨A, c, rfl, h1, h2, h3, h4⟩
  rcases A with _ | ad
  · have hn : Hid (bs = []) := List.eq_nil_of_length_eq_zero (by have := h3 rfl; omega)
    have hnil := fun w a n c => Lib.run_eql_slice_nil (P := Tryz.prog) w 114 5 a n c 0 0 Tryz.underlying114
    clear h4
    go_enter Tryz.func168, Tryz.ntmps168
    go_wp2
    go_ret
    rw [hn.out]
    exact ⟨_, _, _, rfl, World.ownsRow_nil _ _ _ _, Only.refl _ _⟩
  · clear h4
    have hnil := fun w a n c => Lib.run_eql_slice_nil (P := Tryz.prog) w 114 5 a n c 0 0 Tryz.underlying114
    go_enter Tryz.func168, Tryz.ntmps168
    go_wp2_with (first
      | (at_builtin; refine wpList_append_byt _ rfl (.tmp 5) (.tmp 6) _ rfl w.heap.size 5 i0 (.int .u8 0) Tryz.underlying114 hi0 hz0 hz1 hz2 rfl (.slice (some ⟨w.heap.size, 0, none⟩) 0 0) [] rfl (World.ownsRow_made w #[] 0 (Nat.le_refl _) (by simp [maxLen]) rfl) S _ bs rfl (H.out.alloc _) (by simpa using hb) (by simp) ?_; intro A2 n2 c2 w2 hown2 hgrow2 hmv2))
    go_ret
    exact ⟨_, _, _, rfl, by simpa using hown2, ((Only.refl none_ w).alloc _).grown hgrow2 (fun k hk => .inr (by simp [Value.ownBlock] at hk; omega))⟩
theorem writer_bytes (g base : Nat) (code : Int) (v : Value) (bs : List UInt8) (w : World) (h : Wr w g base code v bs) (hb : bs.length ≤ 140737488355328) :
    Calls Tryz.prog 210 #[.pointer (some ⟨g, 0, none⟩)] w fun e w' => ∃ A n c, e = .returned (.slice A n c) ∧ w'.ownsRow w.heap.size 5 1 (.slice A n c) bs.length (byts bs) ∧ Only none_ w w' := by
  have hc := h.c1
  have H := Lib.hid h
  clear h
  go_enter Tryz.func210, Tryz.ntmps210
  go_wp2_with (first
      | (go_at_call 168; refine (bytes_clone _ bs _ _ (Byt.of_own H.out.2) hb).mono ?_; rintro e w1 ⟨A, n, c, rfl, h1, o1⟩))
  go_ret
  exact ⟨_, _, _, rfl, h1, o1⟩
end Go.Proofs.YtoohpcomnhfgpaaGreat
end
section
namespace Go.Proofs.YtoohpcomnhfgpaaGreat
open Go.RowKit
set_option linter.all false
def bitN (b : Bool) : Nat := if b then 1 else 0
theorem num_bit (code : Int) (b : Bool) : numCode code (bitN b) 1 = code := by cases b <;> simp [numCode, isW, bitN]
theorem bs_bit (code : Int) (bs : List UInt8) (b : Bool) : numBs code bs (bitN b) 1 = putS code bs [UInt8.ofNat (bitN b)] := by
  cases b <;> simp [numBs, isW, bitN, leBytes, leByte, List.range, List.range.loop]
theorem writer_flag (g base : Nat) (code : Int) (b : Bool) (v : Value) (bs : List UInt8) (w : World) (h : Wr w g base code v bs) 
    (hb : bs.length + 8 ≤ 140737488355328) (hbase : base ≤ w.heap.size) :
    Calls Tryz.prog 238 #[.pointer (some ⟨g, 0, none⟩), .bool b] w fun e w' => e = .returned (.pointer (some ⟨g, 0, none⟩)) ∧
      ∃ v', Wr w' g base code v' (putS code bs [UInt8.ofNat (bitN b)]) ∧ Only (foot g v) w w' ∧ Moved w v v' := by
  have HN := writer_number g base code 1 (bitN b) v bs w h (by cases b <;> simp [bitN]) hb hbase
  rw [num_bit, bs_bit] at HN
  clear h
  cases b
  all_goals
    go_enter Tryz.func238, Tryz.ntmps238
    go_wp2_with (first | (go_at_call 239; refine HN.mono ?_; rintro e w3 ⟨rfl, v3, h3, o3, m3⟩))
    go_ret
    exact ⟨rfl, v3, h3, o3, m3⟩
def textCode (code : Int) (s : List UInt8) : Int := if 255 < s.length then first_ code 2 else code
def textBs (code : Int) (bs s : List UInt8) : List UInt8 := if 255 < s.length then bs else putS code bs (UInt8.ofNat s.length :: s)
theorem byt_of_string (w : World) (s : ByteArray) (cap : Nat) (hs : s.size ≤ cap) (hm : cap ≤ maxLen) (t : TypeId) (fr : Nat × Nat) :
    Byt (w.alloc (.cells (bytesRow s cap) t fr)) (fun b => b = w.heap.size) (.slice (some ⟨w.heap.size, 0, none⟩) s.size cap) s.data.toList := by
  have hl : s.data.toList.length = s.size := Array.length_toList
  refine ⟨_, cap, by rw [hl], by omega, hm, by simp, fun _ => ⟨_, 0, rfl, rfl, by simp, fun j hj => ?_⟩⟩
  have hj' : j < s.data.size := by simpa using hj
  have := World.cell?_alloc_mark w (bytesRow s cap) t fr j
  rw [bytesRow_at s cap j hj'] at this
  simpa [byt] using this
theorem byt_one (w : World) (n : Nat) (hn : n ≤ 255) (t : TypeId) : Byt (w.alloc (.cells #[.int .u8 (n : Int)] t)) (fun b => b = w.heap.size) (.slice (some ⟨w.heap.size, 0, none⟩) 1 1) [UInt8.ofNat n] := by
  refine ⟨_, 1, rfl, by simp, by simp [maxLen], by simp, fun _ => ⟨_, 0, rfl, rfl, by simp, fun j hj => ?_⟩⟩
  have hj0 : j = 0 := by simp at hj; omega
  subst hj0
  have : (UInt8.ofNat n).toNat = n := by simp; omega
  simp [byt, this]
theorem text_parts (w : World) (s : ByteArray) (hs : s.size ≤ 255) (tb tp : TypeId) (cap : Nat) (hc : s.size ≤ cap) (hm : cap ≤ maxLen) (fr : Nat × Nat) :
    Parts (((w.alloc (.cells #[.int .u8 (s.size : Int)] tb)).alloc (.cells (bytesRow s cap) tb fr)).alloc (.cells #[.slice (some ⟨w.heap.size, 0, none⟩) 1 1, .slice (some ⟨w.heap.size + 1, 0, none⟩) s.size cap] tp)) (fun k => w.heap.size ≤ k)
      (.slice (some ⟨w.heap.size + 1 + 1, 0, none⟩) 2 2) [[UInt8.ofNat s.size], s.data.toList] := by
  have h1 := ((byt_one w s.size hs tb).alloc (.cells (bytesRow s cap) tb fr)).mono (T := fun k => w.heap.size ≤ k) (fun b _ hb => by simp only [hb]; omega)
  have h2 := (byt_of_string (w.alloc (.cells #[.int .u8 (s.size : Int)] tb)) s cap hc hm tb fr).mono (T := fun k => w.heap.size ≤ k) (fun b _ hb => by simp only [hb, World.size_alloc]; omega)
  simp only [World.size_alloc] at h2
  have := parts_two (t := tp) h1 h2 (by simp only [World.size_alloc]; omega)
  simpa only [World.size_alloc] using this
set_option maxHeartbeats 400000 in
theorem writer_text (g base : Nat) (code : Int) (s : ByteArray) (v : Value) (bs : List UInt8) (w : World) (h : Wr w g base code v bs) 
    (hb : bs.length + 300 ≤ 140737488355328) (hbase : base ≤ w.heap.size) (hs : s.size ≤ 9223372036854775807) :
    Calls Tryz.prog 237 #[.pointer (some ⟨g, 0, none⟩), .string s] w fun e w' => e = .returned (.pointer (some ⟨g, 0, none⟩)) ∧
      ∃ v', Wr w' g base (textCode code s.data.toList) v' (textBs code bs s.data.toList) ∧ Only (foot g v) w w' ∧ Moved w v v' := by
  have hl : s.data.toList.length = s.size := Array.length_toList
  by_cases h0 : 255 < s.size
  · have hcode : Hid (textCode code s.data.toList = first_ code 2) := by rw [Hid, textCode, hl, if_pos h0]
    have hbs : Hid (textBs code bs s.data.toList = bs) := by rw [Hid, textBs, hl, if_pos h0]
    have H := Lib.hid h
    clear h hl
    go_enter Tryz.func237, Tryz.ntmps237
    go_wp2_with (first
        | (go_at_call 220; refine (fault_fail _ _ _ _ _ _ H.out.1 rfl).mono ?_; rintro e w1 ⟨rfl, hb1, ho1⟩))
    go_ret
    rw [hcode.out, hbs.out]
    exact ⟨rfl, v, H.out.fail hb1 ho1, one_foot ho1, Moved.refl _ _⟩
  · have hcode : Hid (textCode code s.data.toList = code) := by rw [Hid, textCode, hl, if_neg h0]
    have hbs : Hid (textBs code bs s.data.toList = putS code bs (UInt8.ofNat s.data.toList.length :: s.data.toList)) := by rw [Hid, textBs, hl, if_neg h0]
    have H := Lib.hid h
    have HL := Lib.hid hl
    clear h hl
    have hcv := fun w => run_bytes_of_string (P := Tryz.prog) w 9 114 5 s Tryz.underlying9 Tryz.underlying114 Tryz.underlying5
    go_enter Tryz.func237, Tryz.ntmps237
    go_wp2_with fail
    have hW1 := (((Only.refl none_ w).alloc (.cells #[.int .u8 (s.size : Int)] 5)).alloc (.cells (bytesRow s (grownCap (w.alloc (.cells #[.int .u8 (s.size : Int)] 5)) s.size 0 5)) 5
      ((bytesRow s (grownCap (w.alloc (.cells #[.int .u8 (s.size : Int)] 5)) s.size 0 5)).size, (bytesRow s (grownCap (w.alloc (.cells #[.int .u8 (s.size : Int)] 5)) s.size 0 5)).size + 1))).alloc
      (.cells #[.slice (some ⟨w.heap.size, 0, none⟩) 1 1, .slice (some ⟨w.heap.size + 1, 0, none⟩) s.size (grownCap (w.alloc (.cells #[.int .u8 (s.size : Int)] 5)) s.size 0 5)] 114)
    have hpp := text_parts w s (by omega) 5 114 (grownCap (w.alloc (.cells #[.int .u8 (s.size : Int)] 5)) s.size 0 5) (grownCap_ge _ _ _ _) (grownCap_le_maxLen _ _ _ _ (by simp only [maxLen]; omega))
      ((bytesRow s (grownCap (w.alloc (.cells #[.int .u8 (s.size : Int)] 5)) s.size 0 5)).size, (bytesRow s (grownCap (w.alloc (.cells #[.int .u8 (s.size : Int)] 5)) s.size 0 5)).size + 1)
    generalize (((w.alloc (.cells #[.int .u8 (s.size : Int)] 5)).alloc (.cells (bytesRow s (grownCap (w.alloc (.cells #[.int .u8 (s.size : Int)] 5)) s.size 0 5)) 5
      ((bytesRow s (grownCap (w.alloc (.cells #[.int .u8 (s.size : Int)] 5)) s.size 0 5)).size, (bytesRow s (grownCap (w.alloc (.cells #[.int .u8 (s.size : Int)] 5)) s.size 0 5)).size + 1))).alloc
      (.cells #[.slice (some ⟨w.heap.size, 0, none⟩) 1 1, .slice (some ⟨w.heap.size + 1, 0, none⟩) s.size (grownCap (w.alloc (.cells #[.int .u8 (s.size : Int)] 5)) s.size 0 5)] 114)) = w2 at *
    refine (writer_raw g base code v _ bs [[UInt8.ofNat s.size], s.data.toList] (fun k => w.heap.size ≤ k) w2.drew (H.out.only (S := none_) hW1.drew (fun _ _ h => h)) hpp (fun b hb1 hb2 => by have := H.out.foot_lt hb2; omega)
      (by have := HL.out; simp only [List.flatten_cons, List.flatten_nil, List.length_append, List.length_cons, List.length_nil]; omega) (by have := hW1.size; simp; omega) (by simp)).mono ?_
    rintro e w3 ⟨rfl, v3, h3, o3, m3⟩
    go_wp2
    go_ret
    rw [hcode.out, hbs.out, HL.out]
    exact ⟨rfl, v3, by simpa using h3, hW1.drew.of_none.trans o3, (Moved.refl w v).trans m3 hW1.size⟩
end Go.Proofs.YtoohpcomnhfgpaaGreat
end
section
namespace Go.Proofs.YtoohpcomnhfgpaaGreat
open Go.RowKit
set_option linter.all false
set_option maxRecDepth 100000
structure Lw (B : World) (g : Nat) (bs : List UInt8) (v : Value) (w : World) : Prop where
  wr : Wr w g g 0 v bs
  ho : Only none_ B w
  ge : B.heap.size ≤ g
section
variable {B w w' : World} {g h : Nat} {bs bs' : List UInt8} {v v' : Value} {t : TypeId} {cs : Array Value}
theorem Lw.new (B : World) : Lw B B.heap.size [] (.slice none 0 0) (B.alloc (.cells #[.int .i64 0, .slice none 0 0] 318)) :=
  ⟨⟨Blk.new _ _ _, World.ownsRow_nil _ _ _ _⟩, (Only.refl _ _).alloc _, Nat.le_refl _⟩
theorem Lw.far (s : Lw B g bs v w) {k : Nat} (hf : foot g v k) : B.heap.size ≤ k ∧ k < w.heap.size := ⟨Nat.le_trans s.ge (s.wr.foot_ge (Nat.le_refl _) hf), s.wr.foot_lt hf⟩
theorem Lw.step (s : Lw B g bs v w) (hw : Wr w' g g 0 v' bs') (o : Only (foot g v) w w') : Lw B g bs' v' w' :=
  ⟨hw, s.ho.trans' o (fun k hk hf => by have := s.far hf; omega), s.ge⟩
theorem Lw.keep (s : Lw B g bs v w) (o : Only none_ w w') : Lw B g bs v w' := ⟨s.wr.only o (fun _ _ h => h), s.ho.trans o, s.ge⟩
theorem Lw.box (s : Lw B g bs v w) (b : Blk w h t cs) (o : Only (foot g v) w w') (h1 : 5 ≠ t) (h2 : t ≠ 318) : Blk w' h t cs :=
  b.only o (fun hf => hf.elim (fun e => Blk.ne_ b s.wr.1 h2 e) (fun e => own_blk_ne s.wr.2 b h1 e))
theorem lw_text (s : Lw B g bs v w) (x : ByteArray) (hx : x.size ≤ 255) (hl : bs.length ≤ 1000000) :
    Calls Tryz.prog 237 #[.pointer (some ⟨g, 0, none⟩), .string x] w fun e w' => e = .returned (.pointer (some ⟨g, 0, none⟩)) ∧ ∃ v', Lw B g (bs ++ (UInt8.ofNat x.size :: x.data.toList)) v' w' ∧ Only (foot g v) w w' := by
  have hlen : x.data.toList.length = x.size := Array.length_toList
  have e1 : textCode 0 x.data.toList = 0 := by rw [textCode, if_neg (by omega)]
  have e2 : textBs 0 bs x.data.toList = bs ++ (UInt8.ofNat x.size :: x.data.toList) := by rw [textBs, if_neg (by omega), hlen]; rfl
  refine (writer_text g g 0 x v bs w s.wr (by omega) (Nat.le_of_lt s.wr.1.lt) (by omega)).mono ?_
  rintro e w' ⟨rfl, v', h', o', _⟩
  rw [e1, e2] at h'
  exact ⟨rfl, v', s.step h' o', o'⟩
theorem lw_flag (s : Lw B g bs v w) (b : Bool) (hl : bs.length ≤ 1000000) :
    Calls Tryz.prog 238 #[.pointer (some ⟨g, 0, none⟩), .bool b] w fun e w' => e = .returned (.pointer (some ⟨g, 0, none⟩)) ∧ ∃ v', Lw B g (bs ++ [UInt8.ofNat (bitN b)]) v' w' ∧ Only (foot g v) w w' := by
  refine (writer_flag g g 0 b v bs w s.wr (by omega) (Nat.le_of_lt s.wr.1.lt)).mono ?_
  rintro e w' ⟨rfl, v', h', o', _⟩
  exact ⟨rfl, v', s.step h' o', o'⟩
theorem lw_num (s : Lw B g bs v w) (n m : Nat) (hm : 1 ≤ m ∧ m ≤ 8) (hn : n < 2 ^ (8 * m)) (hl : bs.length ≤ 1000000) :
    Calls Tryz.prog 239 #[.pointer (some ⟨g, 0, none⟩), .int .u64 (n : Int), .int .i64 (m : Int)] w fun e w' => e = .returned (.pointer (some ⟨g, 0, none⟩)) ∧ ∃ v', Lw B g (bs ++ leBytes n m) v' w' ∧ Only (foot g v) w w' := by
  have hw : isW (m : Int) = true := by simp [isW]; omega
  have hz : n / 2 ^ (8 * m) = 0 := Nat.div_eq_of_lt hn
  have e1 : numCode 0 n (m : Int) = 0 := by rw [numCode, if_pos hw, Int.toNat_natCast, if_pos hz]
  have e2 : numBs 0 bs n (m : Int) = bs ++ leBytes n m := by rw [numBs, if_pos hw, Int.toNat_natCast, if_pos hz]; rfl
  have hb : n < 18446744073709551616 := by
    have : 2 ^ (8 * m) ≤ 2 ^ 64 := Nat.pow_le_pow_right (by omega) (by omega)
    omega
  refine (writer_number g g 0 (m : Int) n v bs w s.wr hb (by omega) (Nat.le_of_lt s.wr.1.lt)).mono ?_
  rintro e w' ⟨rfl, v', h', o', _⟩
  rw [e1, e2] at h'
  exact ⟨rfl, v', s.step h' o', o'⟩
theorem lw_bytes (s : Lw B g bs v w) (hl : bs.length ≤ 1000000) :
    Calls Tryz.prog 210 #[.pointer (some ⟨g, 0, none⟩)] w fun e w' => ∃ A n c, e = .returned (.slice A n c) ∧ w'.ownsRow w.heap.size 5 1 (.slice A n c) bs.length (byts bs) ∧ Only none_ w w' :=
  writer_bytes g g 0 v bs w s.wr (by omega)
theorem lw_err (s : Lw B g bs v w) :
    Calls Tryz.prog 211 #[.pointer (some ⟨g, 0, none⟩)] w fun e w' => e = .returned (.int .i64 0) ∧ w = w' := writer_err g g 0 v bs w s.wr
end
end Go.Proofs.YtoohpcomnhfgpaaGreat
end
section
namespace Go.Proofs.YtoohpcomnhfgpaaGreat
open Go.RowKit
set_option linter.all false
set_option maxRecDepth 100000
structure Ne where
  k : ByteArray
  v : ByteArray
  d : Bool
  s1 : Nat
  s2 : Nat
  a1 : Nat
  a2 : Nat
  p : Nat
  q : Nat
def Ne.en (e : Ne) : En := ⟨e.k, e.v, e.d, ⟨e.s1, e.s2⟩, ⟨e.a1, e.a2⟩, e.p, e.q⟩
def Ne.ok (e : Ne) : Prop := e.k.size ≤ 255 ∧ e.v.size ≤ 255 ∧ e.s1 < 4294967296 ∧ e.s2 < 256 ∧ e.a1 < 4294967296 ∧ e.a2 < 256 ∧ e.p < 65536 ∧ e.q < 4294967296
def txtB (x : ByteArray) : List UInt8 := UInt8.ofNat x.size :: x.data.toList
theorem txtB_len (x : ByteArray) : (txtB x).length = x.size + 1 := by
  show x.data.toList.length + 1 = _
  rw [Array.length_toList]; rfl
def layB (e : Ne) : List UInt8 := txtB e.k ++ [UInt8.ofNat (bitN e.d)] ++ txtB e.v ++ leBytes e.s1 4 ++ leBytes e.s2 1 ++ leBytes e.a1 4 ++ leBytes e.a2 1 ++ leBytes e.p 2 ++ leBytes e.q 4
theorem first3 {w : World} {g : Nat} {t : TypeId} {a b c d e f h i j : Value} (x : Blk w g t #[a, b, c, d, e, f, h, i, j]) : w.cell? ⟨g, 0, none⟩ = some a ∧ w.cell? ⟨g, 1, none⟩ = some b ∧ w.cell? ⟨g, 2, none⟩ = some c :=
  ⟨x.cell_ rfl, x.cell_ rfl, x.cell_ rfl⟩
theorem last2 {w : World} {g : Nat} {t : TypeId} {a b c d e f h i j : Value} (x : Blk w g t #[a, b, c, d, e, f, h, i, j]) : w.cell? ⟨g, 7, none⟩ = some i ∧ w.cell? ⟨g, 8, none⟩ = some j := ⟨x.cell_ rfl, x.cell_ rfl⟩
theorem both2 {w : World} {g : Nat} {t : TypeId} {a b : Value} (x : Blk w g t #[a, b]) : w.cell? ⟨g, 0, none⟩ = some a ∧ w.cell? ⟨g, 1, none⟩ = some b := ⟨x.cell_ rfl, x.cell_ rfl⟩
theorem leBytes_len (n k : Nat) : (leBytes n k).length = k := by simp [leBytes]
set_option maxHeartbeats 3200000 in
theorem lay_any (B : World) (g : Nat) (e : Ne) (bs : List UInt8) (v : Value) (w : World) (he : e.ok) (s : Lw B g bs v w) (hl : bs.length ≤ 900000) :
    Calls Tryz.prog 209 #[.pointer (some ⟨g, 0, none⟩), .agg #[.string e.en.k, .string e.en.v, .bool e.en.d, .int .i64 e.en.s.c, .int .i64 e.en.s.s, .int .i64 e.en.a.c, .int .i64 e.en.a.s, .int .i64 e.en.p, .int .i64 e.en.g]] w fun E w' => E = .returned (.tuple #[]) ∧ ∃ v', Lw B g (bs ++ layB e) v' w' := by
  obtain ⟨k, x, d, s1, s2, a1, a2, p, q⟩ := e
  obtain ⟨hk, hv, h1, h2, h3, h4, h5, h6⟩ := he
  have HF : Hid (layB ⟨k, x, d, s1, s2, a1, a2, p, q⟩ = txtB k ++ [UInt8.ofNat (bitN d)] ++ txtB x ++ leBytes s1 4 ++ leBytes s2 1 ++ leBytes a1 4 ++ leBytes a2 1 ++ leBytes p 2 ++ leBytes q 4) := rfl
  dsimp only at hk hv h1 h2 h3 h4 h5 h6
  show Calls Tryz.prog 209 #[.pointer (some ⟨g, 0, none⟩), .agg #[.string k, .string x, .bool d, .int .i64 (s1 : Int), .int .i64 (s2 : Int), .int .i64 (a1 : Int), .int .i64 (a2 : Int), .int .i64 (p : Int), .int .i64 (q : Int)]] w _
  have u1 : IntKind.u64.wrap (s1 : Int) = (s1 : Int) := IntWalk.u64_in _ (by omega)
  have u2 : IntKind.u64.wrap (s2 : Int) = (s2 : Int) := IntWalk.u64_in _ (by omega)
  have u3 : IntKind.u64.wrap (a1 : Int) = (a1 : Int) := IntWalk.u64_in _ (by omega)
  have u4 : IntKind.u64.wrap (a2 : Int) = (a2 : Int) := IntWalk.u64_in _ (by omega)
  have u5 : IntKind.u64.wrap (p : Int) = (p : Int) := IntWalk.u64_in _ (by omega)
  have u6 : IntKind.u64.wrap (q : Int) = (q : Int) := IntWalk.u64_in _ (by omega)
  obtain ⟨b1, e1⟩ : ∃ b, bs ++ txtB k = b := ⟨_, rfl⟩
  obtain ⟨b2, e2⟩ : ∃ b, b1 ++ [UInt8.ofNat (bitN d)] = b := ⟨_, rfl⟩
  obtain ⟨b3, e3⟩ : ∃ b, b2 ++ txtB x = b := ⟨_, rfl⟩
  obtain ⟨b4, e4⟩ : ∃ b, b3 ++ leBytes s1 4 = b := ⟨_, rfl⟩
  obtain ⟨b5, e5⟩ : ∃ b, b4 ++ leBytes s2 1 = b := ⟨_, rfl⟩
  obtain ⟨b6, e6⟩ : ∃ b, b5 ++ leBytes a1 4 = b := ⟨_, rfl⟩
  obtain ⟨b7, e7⟩ : ∃ b, b6 ++ leBytes a2 1 = b := ⟨_, rfl⟩
  obtain ⟨b8, e8⟩ : ∃ b, b7 ++ leBytes p 2 = b := ⟨_, rfl⟩
  obtain ⟨b9, e9⟩ : ∃ b, b8 ++ leBytes q 4 = b := ⟨_, rfl⟩
  have EB : Hid (bs ++ layB ⟨k, x, d, s1, s2, a1, a2, p, q⟩ = b9) := by
    rw [Hid, HF.out, ← e9, ← e8, ← e7, ← e6, ← e5, ← e4, ← e3, ← e2, ← e1]
    simp only [List.append_assoc]
  have n1 : b1.length = bs.length + (k.size + 1) := by rw [← e1, List.length_append, txtB_len]
  have n2 : b2.length = b1.length + 1 := by rw [← e2, List.length_append]; rfl
  have n3 : b3.length = b2.length + (x.size + 1) := by rw [← e3, List.length_append, txtB_len]
  have n4 : b4.length = b3.length + 4 := by rw [← e4, List.length_append, leBytes_len]
  have n5 : b5.length = b4.length + 1 := by rw [← e5, List.length_append, leBytes_len]
  have n6 : b6.length = b5.length + 4 := by rw [← e6, List.length_append, leBytes_len]
  have n7 : b7.length = b6.length + 1 := by rw [← e7, List.length_append, leBytes_len]
  have n8 : b8.length = b7.length + 2 := by rw [← e8, List.length_append, leBytes_len]
  have HN : Hid (bs.length ≤ 1000000 ∧ b1.length ≤ 1000000 ∧ b2.length ≤ 1000000 ∧ b3.length ≤ 1000000 ∧ b4.length ≤ 1000000 ∧ b5.length ≤ 1000000 ∧ b6.length ≤ 1000000 ∧ b7.length ≤ 1000000 ∧ b8.length ≤ 1000000) := by
    refine ⟨?_, ?_, ?_, ?_, ?_, ?_, ?_, ?_, ?_⟩ <;> omega
  have E1 := Lib.hid e1
  have E2 := Lib.hid e2
  have E3 := Lib.hid e3
  have E4 := Lib.hid e4
  have E5 := Lib.hid e5
  have E6 := Lib.hid e6
  have E7 := Lib.hid e7
  have E8 := Lib.hid e8
  have E9 := Lib.hid e9
  have HK := Lib.hid hk
  have HX := Lib.hid hv
  have A1 : Hid (s1 < 2 ^ (8 * 4)) := h1
  have A2 : Hid (s2 < 2 ^ (8 * 1)) := h2
  have A3 : Hid (a1 < 2 ^ (8 * 4)) := h3
  have A4 : Hid (a2 < 2 ^ (8 * 1)) := h4
  have A5 : Hid (p < 2 ^ (8 * 2)) := h5
  have A6 : Hid (q < 2 ^ (8 * 4)) := h6
  have L0 := Lib.hid (s.keep (((Only.refl none_ w).alloc (.cells #[.string k, .string x, .bool d, .int .i64 (s1 : Int), .int .i64 (s2 : Int), .int .i64 (a1 : Int), .int .i64 (a2 : Int), .int .i64 (p : Int), .int .i64 (q : Int)] 82)).drew))
  have X0 := Lib.hid (Blk.new w 82 #[.string k, .string x, .bool d, .int .i64 (s1 : Int), .int .i64 (s2 : Int), .int .i64 (a1 : Int), .int .i64 (a2 : Int), .int .i64 (p : Int), .int .i64 (q : Int)]).drew
  have y0 := first3 X0.out
  have ix0 := fun w => (run_index_two _ _ _ _ _ (show #[.int .i64 (s1 : Int), .int .i64 (s2 : Int), .int .i64 (a1 : Int), .int .i64 (a2 : Int)] = _ from rfl) w).1
  have ix1 := fun w => (run_index_two _ _ _ _ _ (show #[.int .i64 (s1 : Int), .int .i64 (s2 : Int), .int .i64 (a1 : Int), .int .i64 (a2 : Int)] = _ from rfl) w).2
  clear s hl hk hv h1 h2 h3 h4 h5 h6 e1 e2 e3 e4 e5 e6 e7 e8 e9 n1 n2 n3 n4 n5 n6 n7 n8
  have tok1 : True := trivial
  go_enter Tryz.func209, Tryz.ntmps209
  go_wp2_with fail
  go_region_held3 (fun w' => w'.cell? ⟨w.heap.size, 0, none⟩ = some (.string k) ∧ w'.cell? ⟨w.heap.size, 1, none⟩ = some (.string x) ∧ w'.cell? ⟨w.heap.size, 2, none⟩ = some (.bool d))
    (first | with_reducible exact y0 | with_reducible exact y1 | with_reducible exact y2 | with_reducible exact y3)
    (first
      | (go_at_call 237; have _t := tok1; refine (lw_text L0.out k HK.out HN.out.1).mono ?_; rintro e w1 ⟨rfl, v1, l1, o1⟩
         have L1 : Hid (Lw B g b1 v1 w1) := E1.out ▸ l1
         have X1 := Lib.hid (L0.out.box X0.out o1 (by decide) (by decide))
         have y1 := first3 X1.out
         clear l1 o1 tok1
         have tok2 : True := trivial)
      | (go_at_call 238; refine (lw_flag L1.out d HN.out.2.1).mono ?_; rintro e w2 ⟨rfl, v2, l2, o2⟩
         have L2 : Hid (Lw B g b2 v2 w2) := E2.out ▸ l2
         have X2 := Lib.hid (L1.out.box X1.out o2 (by decide) (by decide))
         have y2 := first3 X2.out
         clear l2 o2)
      | (go_at_call 237; have _t := tok2; refine (lw_text L2.out x HX.out HN.out.2.2.1).mono ?_; rintro e w3 ⟨rfl, v3, l3, o3⟩
         have L3 : Hid (Lw B g b3 v3 w3) := E3.out ▸ l3
         have X3 := Lib.hid (L2.out.box X2.out o3 (by decide) (by decide))
         have y3 := first3 X3.out
         clear l3 o3 tok2))
  all_goals go_wp2_with (first
    | (refine wpl_load rfl 82 _ rfl w.heap.size rfl 82 #[.string k, .string x, .bool d, .int .i64 (s1 : Int), .int .i64 (s2 : Int), .int .i64 (a1 : Int), .int .i64 (a2 : Int), .int .i64 (p : Int), .int .i64 (q : Int)] _ X3.out Tryz.underlying82 rfl (by kernel_rfl) ?_)
    | (go_at_call 191; refine (en_stamps ⟨k, x, d, ⟨s1, s2⟩, ⟨a1, a2⟩, p, q⟩ _).mono ?_; rintro e w4 ⟨rfl, o4⟩
       have L4 := Lib.hid (L3.out.keep o4)
       have X4 := Lib.hid (X3.out.only o4 (fun h => h))
       clear o4))
  refine wp_loop_rounds 3 ?_
  rw [rounds_succ]
  have La5 := Lib.hid (L4.out.keep (((Only.refl none_ w4).alloc (.cells #[.int .i64 (s1 : Int), .int .i64 (s2 : Int)] 80)).drew))
  have Xa5 := Lib.hid (X4.out.only (((Only.refl none_ w4).alloc (.cells #[.int .i64 (s1 : Int), .int .i64 (s2 : Int)] 80)).drew) (fun h => h))
  have Sa5 := Lib.hid (Blk.new w4 80 #[.int .i64 (s1 : Int), .int .i64 (s2 : Int)]).drew
  have ya5 := both2 Sa5.out
  have tokn5 : True := trivial
  go_wp2_with fail
  go_region_held3 (fun w' => w'.cell? ⟨w4.heap.size, 0, none⟩ = some (.int .i64 (s1 : Int)) ∧ w'.cell? ⟨w4.heap.size, 1, none⟩ = some (.int .i64 (s2 : Int)))
    (first | with_reducible exact ya5 | with_reducible exact yb5 | with_reducible exact yc5)
    (first
      | (go_at_call 239; have _t := tokn5; refine (lw_num La5.out s1 4 (by omega) A1.out HN.out.2.2.2.1).mono ?_; rintro e w5 ⟨rfl, v5, l, o⟩
         have L5 : Hid (Lw B g b4 v5 w5) := E4.out ▸ l
         have X5 := Lib.hid (La5.out.box Xa5.out o (by decide) (by decide))
         have S5 := Lib.hid (La5.out.box Sa5.out o (by decide) (by decide))
         have yb5 := both2 S5.out
         clear l o tokn5
         have tokm5 : True := trivial)
      | (go_at_call 239; have _t := tokm5; refine (lw_num L5.out s2 1 (by omega) A2.out HN.out.2.2.2.2.1).mono ?_; rintro e w6 ⟨rfl, v6, l, o⟩
         have L6 : Hid (Lw B g b5 v6 w6) := E5.out ▸ l
         have X6 := Lib.hid (L5.out.box X5.out o (by decide) (by decide))
         have S6 := Lib.hid (L5.out.box S5.out o (by decide) (by decide))
         have yc5 := both2 S6.out
         clear l o tokm5))
  all_goals go_wp2_with fail
  rw [rounds_succ]
  have La7 := Lib.hid (L6.out.keep (((Only.refl none_ w6).alloc (.cells #[.int .i64 (a1 : Int), .int .i64 (a2 : Int)] 80)).drew))
  have Xa7 := Lib.hid (X6.out.only (((Only.refl none_ w6).alloc (.cells #[.int .i64 (a1 : Int), .int .i64 (a2 : Int)] 80)).drew) (fun h => h))
  have Sa7 := Lib.hid (Blk.new w6 80 #[.int .i64 (a1 : Int), .int .i64 (a2 : Int)]).drew
  have ya7 := both2 Sa7.out
  have tokn7 : True := trivial
  go_wp2_with fail
  go_region_held3 (fun w' => w'.cell? ⟨w6.heap.size, 0, none⟩ = some (.int .i64 (a1 : Int)) ∧ w'.cell? ⟨w6.heap.size, 1, none⟩ = some (.int .i64 (a2 : Int)))
    (first | with_reducible exact ya7 | with_reducible exact yb7 | with_reducible exact yc7)
    (first
      | (go_at_call 239; have _t := tokn7; refine (lw_num La7.out a1 4 (by omega) A3.out HN.out.2.2.2.2.2.1).mono ?_; rintro e w7 ⟨rfl, v7, l, o⟩
         have L7 : Hid (Lw B g b6 v7 w7) := E6.out ▸ l
         have X7 := Lib.hid (La7.out.box Xa7.out o (by decide) (by decide))
         have S7 := Lib.hid (La7.out.box Sa7.out o (by decide) (by decide))
         have yb7 := both2 S7.out
         clear l o tokn7
         have tokm7 : True := trivial)
      | (go_at_call 239; have _t := tokm7; refine (lw_num L7.out a2 1 (by omega) A4.out HN.out.2.2.2.2.2.2.1).mono ?_; rintro e w8 ⟨rfl, v8, l, o⟩
         have L8 : Hid (Lw B g b7 v8 w8) := E7.out ▸ l
         have X8 := Lib.hid (L7.out.box X7.out o (by decide) (by decide))
         have S8 := Lib.hid (L7.out.box S7.out o (by decide) (by decide))
         have yc7 := both2 S8.out
         clear l o tokm7))
  all_goals go_wp2_with fail
  rw [rounds_succ]
  have L9 := Lib.hid (L8.out.keep ((Only.refl none_ w8).drew))
  have X9 := Lib.hid (X8.out.only ((Only.refl none_ w8).drew) (fun h => h))
  have y9 := last2 X9.out
  have tokA : True := trivial
  go_wp2_with fail
  go_region_held3 (fun w' => w'.cell? ⟨w.heap.size, 7, none⟩ = some (.int .i64 (p : Int)) ∧ w'.cell? ⟨w.heap.size, 8, none⟩ = some (.int .i64 (q : Int)))
    (first | with_reducible exact y9 | with_reducible exact y10 | with_reducible exact y11)
    (first
      | (go_at_call 239; have _t := tokA; refine (lw_num L9.out p 2 (by omega) A5.out HN.out.2.2.2.2.2.2.2.1).mono ?_; rintro e w10 ⟨rfl, v10, l, o⟩
         have L10 : Hid (Lw B g b8 v10 w10) := E8.out ▸ l
         have X10 := Lib.hid (L9.out.box X9.out o (by decide) (by decide))
         have y10 := last2 X10.out
         clear l o tokA
         have tokB : True := trivial)
      | (go_at_call 239; have _t := tokB; refine (lw_num L10.out q 4 (by omega) A6.out HN.out.2.2.2.2.2.2.2.2).mono ?_; rintro e w11 ⟨rfl, v11, l, o⟩
         have L11 : Hid (Lw B g b9 v11 w11) := E9.out ▸ l
         have X11 := Lib.hid (L10.out.box X10.out o (by decide) (by decide))
         have y11 := last2 X11.out
         clear l o tokB))
  all_goals go_wp2_with fail
  go_end0
  rw [EB.out]
  exact ⟨rfl, v11, L11.out⟩
end Go.Proofs.YtoohpcomnhfgpaaGreat
end
section
namespace Go.Proofs.YtoohpcomnhfgpaaGreat
open Go.RowKit
set_option maxRecDepth 100000
theorem chk_ne {e : En} (h : enCheck e = 0) : ∃ m : Ne, e = m.en ∧ m.ok ∧ m.k.size ≤ 16 ∧ m.v.size ≤ 32 := by
  obtain ⟨k, v, d, ⟨sc, ss⟩, ⟨ac, as_⟩, p, q⟩ := e
  unfold enCheck at h
  have e1 : enKeyBad ⟨k, v, d, ⟨sc, ss⟩, ⟨ac, as_⟩, p, q⟩ = false := by
    cases hb : enKeyBad ⟨k, v, d, ⟨sc, ss⟩, ⟨ac, as_⟩, p, q⟩ with
    | false => rfl
    | true => rw [hb, if_pos rfl] at h; omega
  rw [e1, if_neg (by simp)] at h
  have e2 : enValBad ⟨k, v, d, ⟨sc, ss⟩, ⟨ac, as_⟩, p, q⟩ = false := by
    cases hb : enValBad ⟨k, v, d, ⟨sc, ss⟩, ⟨ac, as_⟩, p, q⟩ with
    | false => rfl
    | true => rw [hb, if_pos rfl] at h; omega
  rw [e2, if_neg (by simp)] at h
  have e3 : enStBad ⟨k, v, d, ⟨sc, ss⟩, ⟨ac, as_⟩, p, q⟩ = false := by
    cases hb : enStBad ⟨k, v, d, ⟨sc, ss⟩, ⟨ac, as_⟩, p, q⟩ with
    | false => rfl
    | true => rw [hb, if_pos rfl] at h; omega
  rw [e3, if_neg (by simp)] at h
  have e4 : enRestBad ⟨k, v, d, ⟨sc, ss⟩, ⟨ac, as_⟩, p, q⟩ = false := by
    cases hb : enRestBad ⟨k, v, d, ⟨sc, ss⟩, ⟨ac, as_⟩, p, q⟩ with
    | false => rfl
    | true => rw [hb, if_pos rfl] at h; omega
  simp only [enKeyBad, Bool.or_eq_false_iff, decide_eq_false_iff_not] at e1
  simp only [enValBad, Bool.or_eq_false_iff, decide_eq_false_iff_not] at e2
  simp only [enStBad, Bool.or_eq_false_iff, Bool.not_eq_false', Bool.and_eq_true, stGood, stSite, decide_eq_true_eq] at e3
  have hp : 0 ≤ p ∧ p ≤ 4095 ∧ 0 ≤ q ∧ q ≤ 2147483647 := by
    cases d
    · simp only [enRestBad, enLive, Bool.not_eq_false', if_false, Bool.false_eq_true, Bool.and_eq_true, beq_iff_eq] at e4
      omega
    · simp only [enRestBad, enCert, Bool.not_eq_false', if_true, Bool.and_eq_true, decide_eq_true_eq] at e4
      omega
  refine ⟨⟨k, v, d, sc.toNat, ss.toNat, ac.toNat, as_.toNat, p.toNat, q.toNat⟩, ?_, ⟨?_, ?_, ?_, ?_, ?_, ?_, ?_, ?_⟩, ?_, ?_⟩
  · simp only [Ne.en]
    congr 1
    · congr 1 <;> omega
    · congr 1 <;> omega
    · omega
    · omega
  all_goals dsimp only
  all_goals omega
end Go.Proofs.YtoohpcomnhfgpaaGreat
end
section
namespace Go.Proofs.YtoohpcomnhfgpaaGreat
open Go.RowKit
set_option maxRecDepth 100000
set_option linter.all false
def fnvS (n : Nat) (b : UInt8) : Nat := (n ^^^ b.toNat) * 1099511628211 % 18446744073709551616
def fnv (bs : List UInt8) : Nat := bs.foldl fnvS 14695981039346656037
theorem fnvS_lt (n : Nat) (b : UInt8) : fnvS n b < 18446744073709551616 := Nat.mod_lt _ (by omega)
theorem foldl_lt (bs : List UInt8) : ∀ n : Nat, n < 18446744073709551616 → bs.foldl fnvS n < 18446744073709551616 := by
  induction bs with
  | nil => exact fun n h => h
  | cons b bs ih => exact fun n _ => ih _ (fnvS_lt n b)
theorem fnv_lt (bs : List UInt8) : fnv bs < 18446744073709551616 := by
  unfold fnv
  refine foldl_lt bs _ ?_
  decide +kernel
theorem fnv_succ {bs : List UInt8} {k : Nat} {b : UInt8} (h : bs[k]? = some b) : fnv (bs.take (k + 1)) = fnvS (fnv (bs.take k)) b := by
  obtain ⟨hk, hb⟩ := List.getElem?_eq_some_iff.1 h
  unfold fnv
  rw [List.take_succ_eq_append_getElem hk, List.foldl_append, hb, List.foldl_cons, List.foldl_nil]
theorem fnv_xor (n : Nat) (b : UInt8) (hn : n < 18446744073709551616) : bits .xor .u64 (n : Int) (b.toNat : Int) = ((n ^^^ b.toNat : Nat) : Int) :=
  bits_xor_u64_nat n b.toNat hn (Nat.lt_trans b.toNat_lt (by omega))
theorem fnv_mul (n : Nat) (b : UInt8) : ((n ^^^ b.toNat : Nat) : Int) * 1099511628211 % 18446744073709551616 = ((fnvS n b : Nat) : Int) := by
  unfold fnvS
  omega
theorem fnv_wrap (n : Nat) (b : UInt8) : IntKind.u64.wrap (((n ^^^ b.toNat : Nat) : Int) * 1099511628211) = ((fnvS n b : Nat) : Int) := by
  rw [IntKind.wrap_u64]; exact fnv_mul n b
def neOf (e : En) : Ne := ⟨e.k, e.v, e.d, e.s.c.toNat, e.s.s.toNat, e.a.c.toNat, e.a.s.toNat, e.p.toNat, e.g.toNat⟩
theorem neOf_en (m : Ne) : neOf m.en = m := by
  obtain ⟨k, x, d, s1, s2, a1, a2, p, q⟩ := m
  simp [neOf, Ne.en]
def frontB (e : Ne) : List UInt8 := txtB e.k ++ [UInt8.ofNat (bitN e.d)] ++ txtB e.v ++ leBytes e.s1 4 ++ leBytes e.s2 1 ++ leBytes e.a1 4 ++ leBytes e.a2 1
theorem front_len (e : Ne) : (layB e).length = (frontB e).length + 6 := by
  simp only [layB, frontB, List.length_append, leBytes_len]
theorem front_take (e : Ne) : (layB e).take (frontB e).length = frontB e := by
  have : layB e = frontB e ++ (leBytes e.p 2 ++ leBytes e.q 4) := by
    simp only [layB, frontB, List.append_assoc]
  rw [this]
  exact List.take_left
def hsh (e : En) : Nat := if enCheck e = 0 then fnv (frontB (neOf e)) else 0
theorem hsh_lt (e : En) : hsh e < 18446744073709551616 := by
  unfold hsh; split
  · exact fnv_lt _
  · omega
theorem hsh_yes (m : Ne) (h : enCheck m.en = 0) : hsh m.en = fnv (frontB m) := by rw [hsh, if_pos h, neOf_en]
theorem hsh_no (e : En) (h : enCheck e ≠ 0) : hsh e = 0 := by rw [hsh, if_neg h]
theorem hsh_age (e : En) (p g : Int) (h : enCheck e = 0) (h2 : enCheck ⟨e.k, e.v, e.d, e.s, e.a, p, g⟩ = 0) : hsh ⟨e.k, e.v, e.d, e.s, e.a, p, g⟩ = hsh e := by
  rw [hsh, if_pos h2, hsh, if_pos h]
  rfl
def w64 (z : Int) : Int := z % 18446744073709551616
theorem w64_wrap (z : Int) : IntKind.u64.wrap z = w64 z := IntKind.wrap_u64 z
def sumH (l : List En) : Int := (l.map fun e => (hsh e : Int)).sum
theorem sumH_append (l m : List En) : sumH (l ++ m) = sumH l + sumH m := by
  unfold sumH
  rw [List.map_append]
  induction l with
  | nil => simp
  | cons a l ih => simp only [List.map_cons, List.cons_append, List.sum_cons, ih]; omega
theorem sumH_succ {l : List En} {k : Nat} {e : En} (h : l[k]? = some e) : sumH (l.take (k + 1)) = sumH (l.take k) + hsh e := by
  obtain ⟨hk, hb⟩ := List.getElem?_eq_some_iff.1 h
  rw [List.take_succ_eq_append_getElem hk, sumH_append, hb]
  simp [sumH]
theorem w64_add (a b : Int) : w64 (w64 a + b) = w64 (a + b) := by unfold w64; omega
theorem w64_add2 (a b : Int) : w64 (a + w64 b) = w64 (a + b) := by unfold w64; omega
theorem w64_in (a : Int) : 0 ≤ w64 a ∧ w64 a ≤ 18446744073709551615 := by unfold w64; omega
end Go.Proofs.YtoohpcomnhfgpaaGreat
end
section
namespace Go.Proofs.YtoohpcomnhfgpaaGreat
open Go.RowKit
set_option linter.all false
structure Ro where
  n : Int
  q : Int
  r : Int
  t1 : Int
  t2 : Int
def roBad (o : Ro) : Bool := !(decide (1 ≤ o.n ∧ o.n ≤ 12) && decide (1 ≤ o.q ∧ o.q ≤ 64) && decide (1 ≤ o.r ∧ o.r ≤ o.n) && decide (0 ≤ o.t1 ∧ o.t1 ≤ 2147483647) && decide (o.t1 ≤ o.t2 ∧ o.t2 ≤ (if o.t1 = 0 then 0 else 2147483647)))
def roCheck (o : Ro) : Int := if roBad o = true then 14 else 0
theorem ro_ok {o : Ro} (h : roBad o = false) : (1 ≤ o.n ∧ o.n ≤ 12) ∧ (1 ≤ o.q ∧ o.q ≤ 64) ∧ (1 ≤ o.r ∧ o.r ≤ o.n) ∧ (0 ≤ o.t1 ∧ o.t1 ≤ 2147483647) ∧ (o.t1 ≤ o.t2 ∧ o.t2 ≤ 2147483647) ∧ (o.t1 = 0 → o.t2 = 0) := by
  simp only [roBad, Bool.not_eq_false', Bool.and_eq_true, decide_eq_true_eq] at h
  obtain ⟨⟨⟨⟨h1, h2⟩, h3⟩, h4⟩, h5⟩ := h
  refine ⟨h1, h2, h3, h4, ⟨h5.1, ?_⟩, fun e => ?_⟩
  · have := h5.2; split at this <;> omega
  · have := h5.2; rw [if_pos e] at this; omega
def roRoom (o : Ro) : Int := o.n * o.q
theorem ro_room {o : Ro} (h : roBad o = false) : 1 ≤ roRoom o ∧ roRoom o ≤ 768 := by
  obtain ⟨⟨a1, a2⟩, ⟨b1, b2⟩, _⟩ := ro_ok h
  unfold roRoom
  constructor
  · have := Int.mul_le_mul a1 b1 (by omega) (by omega); simpa using this
  · have := Int.mul_le_mul a2 b2 (by omega) (by omega); simpa using this
def withK (k : ByteArray) : List ByteArray → List ByteArray
  | [] => [k]
  | x :: r => if lt_ x k = true then x :: withK k r else if x = k then x :: r else k :: x :: r
theorem mem_withK (k y : ByteArray) : ∀ l : List ByteArray, y ∈ withK k l ↔ y = k ∨ y ∈ l
  | [] => by simp [withK]
  | x :: r => by
    unfold withK
    split
    · simp only [List.mem_cons, mem_withK k y r]
      constructor
      · rintro (h | h | h)
        · exact .inr (.inl h)
        · exact .inl h
        · exact .inr (.inr h)
      · rintro (h | h | h)
        · exact .inr (.inl h)
        · exact .inl h
        · exact .inr (.inr h)
    · split
      · next h => subst h; simp
      · simp
def RisK (l : List ByteArray) : Prop := l.Pairwise fun x y => lt_ x y = true
theorem ris_withK {k : ByteArray} : ∀ {l : List ByteArray}, RisK l → RisK (withK k l)
  | [], _ => List.pairwise_singleton _ _
  | x :: r, h => by
    have h' := List.pairwise_cons.1 h
    unfold withK
    by_cases h1 : lt_ x k = true
    · rw [if_pos h1]
      refine List.pairwise_cons.2 ⟨fun y hy => ?_, ris_withK h'.2⟩
      rcases (mem_withK k y r).1 hy with rfl | hy
      · exact h1
      · exact h'.1 y hy
    · rw [if_neg h1]
      split
      · exact h
      · next h2 =>
        have h3 : lt_ k x = true := by
          cases e : lt_ k x with
          | true => rfl
          | false => exact absurd (lt_tri (by simpa using h1) e) h2
        refine List.pairwise_cons.2 ⟨fun y hy => ?_, h⟩
        rcases List.mem_cons.1 hy with rfl | hy
        · exact h3
        · exact lt_tr h3 (h'.1 y hy)
theorem withK_in {k : ByteArray} : ∀ {l : List ByteArray}, RisK l → k ∈ l → withK k l = l
  | [], _, h => by cases h
  | x :: r, h, hk => by
    have h' := List.pairwise_cons.1 h
    unfold withK
    rcases List.mem_cons.1 hk with rfl | hk
    · rw [if_neg (by rw [lt_irr]; simp), if_pos rfl]
    · rw [if_pos (h'.1 k hk), withK_in h'.2 hk]
theorem withK_out {k : ByteArray} : ∀ {l : List ByteArray}, k ∉ l → (withK k l).Perm (k :: l)
  | [], _ => .refl _
  | x :: r, h => by
    unfold withK
    split
    · exact ((withK_out (fun e => h (List.mem_cons_of_mem _ e))).cons x).trans (List.Perm.swap _ _ _)
    · split
      · next e => exact absurd (by rw [e]; exact List.mem_cons_self) h
      · exact .refl _
def hasK (l : List ByteArray) (k : ByteArray) : Bool := l.any fun x => decide (x = k)
theorem hasK_iff (l : List ByteArray) (k : ByteArray) : hasK l k = true ↔ k ∈ l := by
  simp [hasK]
structure Rm where
  tab : List En
  gr : List En
  own : List ByteArray
  c : Int
  log : List En
def rmZero : Rm := ⟨[], [], [], 0, []⟩
def seeC (c : Int) (a : St) : Int := if stGood a = true ∧ c < a.c then a.c else c
def fullM (o : Ro) (l : List En) (k : ByteArray) : Bool := !hasE l k && decide (roRoom o ≤ (l.length : Int))
def noteM (site : Int) (o : Ro) (m : Rm) (e : En) : Rm :=
  { m with gr := (buryE (enDuty e site) o.t2 m.gr e).1, own := if e.s.s = site then withK e.k m.own else m.own, c := seeC m.c e.a, log := m.log ++ [e] }
def setM (site : Int) (o : Ro) (m : Rm) (e : En) : Rm := { noteM site o m e with tab := setE e m.tab }
def recallM (site : Int) (o : Ro) (m : Rm) (e : En) : Rm := { noteM site o m e with tab := match lookE m.tab e.k with
  | none => setE e m.tab
  | some was => if enNewer e was = true then setE e m.tab else m.tab }
def openM (site : Int) (o : Ro) : List En → Rm → Option Rm
  | [], m => some m
  | e :: l, m => if fullM o m.tab e.k = true then none else openM site o l (recallM site o m e)
def stampE (e : En) (s : St) : En := { e with s := s, a := s }
structure Rr where
  m : Rm
  e : En
  z : Int
  add : Option En
def downM (site : Int) (o : Ro) (m : Rm) (e : En) (j : Int) : Rr := if j = 0 then ⟨setM site o m e, e, 0, some e⟩ else ⟨m, enZero, j, some e⟩
def writeM (site : Int) (o : Ro) (m : Rm) (e : En) (j : Int) : Rr :=
  if ((!hasK m.own e.k && decide (o.q ≤ (m.own.length : Int))) || fullM o m.tab e.k) = true then ⟨m, enZero, 7, none⟩
  else if m.c = 4294967295 then ⟨m, enZero, 8, none⟩
  else downM site o { m with c := m.c + 1 } (stampE e ⟨m.c + 1, site⟩) j
def putE (k v : ByteArray) (s : St) : En := ⟨k, v, false, s, s, 0, 0⟩
def delE (k : ByteArray) (s : St) (p : Int) : En := ⟨k, ⟨#[]⟩, true, s, s, p, 0⟩
def putR (site : Int) (o : Ro) (m : Rm) (k v : ByteArray) (j : Int) : Rr :=
  if enCheck (putE k v ⟨1, site⟩) ≠ 0 then ⟨m, enZero, enCheck (putE k v ⟨1, site⟩), none⟩ else writeM site o m (putE k v ⟨1, site⟩) j
def liveM (l : List En) (k : ByteArray) : Bool := match lookE l k with
  | none => false
  | some e => !e.d
def delR (site : Int) (o : Ro) (m : Rm) (k : ByteArray) (j : Int) : Rr :=
  if enCheck (putE k ⟨#[]⟩ ⟨1, site⟩) ≠ 0 then ⟨m, enZero, enCheck (putE k ⟨#[]⟩ ⟨1, site⟩), none⟩
  else if liveM m.tab k = false then ⟨m, enZero, 3, none⟩
  else writeM site o m (delE k ⟨1, site⟩ (enKeepers site o.r o.n)) j
def ageM (o : Ro) (l : List En) (e : En) : Int := if e.d = false ∨ o.t1 = 0 then 0 else match lookE l e.k with
  | none => e.g + 1
  | some was => if was.d = true ∧ was.g < e.g + 1 then was.g else e.g + 1
structure Mr where
  m : Rm
  kind : Int
  e : En
  z : Int
  add : Option En
def youngM (o : Ro) (l : List En) (e : En) : List En := match lookE l e.k with
  | none => l
  | some was => if (was.d && e.d) = true then setE { was with g := ageM o l e } l else l
def newsM (l : List En) (e : En) : Bool := match lookE l e.k with
  | none => true
  | some was => enNewer e was
def lateM (o : Ro) (e : En) : Bool := e.d && !decide (o.t1 = 0) && decide (o.t1 ≤ e.g + 1)
def takeM (kind : Int) (r : Rr) : Mr := if r.z = 0 then ⟨r.m, kind, r.e, 0, r.add⟩ else ⟨r.m, 0, enZero, r.z, r.add⟩
def wokeR (site : Int) (o : Ro) (m : Rm) (k : ByteArray) (j : Int) : Rr :=
  if m.c = 4294967295 then ⟨m, enZero, 8, none⟩
  else downM site o { m with c := m.c + 1 } (enWake ((lookE m.gr k).getD enZero) ⟨m.c + 1, site⟩).1 j
def mergeR (site : Int) (o : Ro) (m : Rm) (e : En) (j : Int) : Mr :=
  if enCheck e ≠ 0 then ⟨m, 0, enZero, enCheck e, none⟩
  else if newsM m.tab e = false then ⟨{ m with c := seeC m.c e.a, tab := youngM o m.tab e }, 0, enZero, 0, none⟩
  else if lateM o e = true then ⟨{ m with c := seeC m.c e.a }, 0, enZero, 0, none⟩
  else if fullM o m.tab e.k = true then ⟨{ m with c := seeC m.c e.a }, 0, enZero, 7, none⟩
  else if overE m.gr e = true then takeM 2 (wokeR site o { m with c := seeC m.c e.a } e.k j)
  else takeM 1 (downM site o { m with c := seeC m.c e.a } { e with g := ageM o m.tab e } j)
def oldM (e : En) : En := if e.d = true then olderE e else e
def goesM (t1 : Int) (e : En) : Bool := e.d && decide (t1 ≤ e.g + 1)
def tabTick (t1 : Int) (l : List En) : List En := (l.filter fun e => !goesM t1 e).map oldM
def tickR (o : Ro) (m : Rm) : Rm × List ByteArray :=
  if o.t1 = 0 then (m, []) else ({ m with tab := tabTick o.t1 m.tab, gr := (tickE o.t2 m.gr).1 }, (m.tab.filter (goesM o.t1)).map (·.k))
def mkOf (e : En) : Mk := ⟨e.a, e.k⟩
end Go.Proofs.YtoohpcomnhfgpaaGreat
end
section
namespace Go.Proofs.YtoohpcomnhfgpaaGreat
open Go.RowKit Go.ChangeMaps Go.MapKept
set_option linter.all false
def mEnt (m : Mk) : Value × Value := (.string m.k, .agg #[.int .i64 m.a.c, .int .i64 m.a.s])
def Mp (w : World) (b : Nat) (l : List Mk) : Prop :=
  ∃ es clock, w.heap[b]? = some (.map es clock) ∧ (es.toList.map fun e => (e.key, e.val)).Perm (l.map mEnt) ∧ ∀ m ∈ l, m.k.size ≤ maxLen
section
variable {P : Program} {t k e : TypeId} {w w' : World} {b : Nat} {l : List Mk}
theorem Mp.lt (h : Mp w b l) : b < w.heap.size := by
  obtain ⟨es, clock, hb, _⟩ := h
  exact (Array.getElem?_eq_some_iff.1 hb).1
theorem Mp.only {S : Nat → Prop} (h : Mp w b l) (o : Only S w w') (hn : ¬ S b) : Mp w' b l := by
  have hlt := h.lt
  obtain ⟨es, clock, hb, r⟩ := h
  exact ⟨es, clock, (o.block b hlt hn).trans hb, r⟩
theorem Mp.made (w : World) : Mp (w.alloc (.map #[] 0)) w.heap.size [] := ⟨#[], 0, (MapKept.heap_alloc w _).1, by simp, by simp⟩
theorem Mp.ne_blk {g : Nat} {ty : TypeId} {cs : Array Value} (h : Mp w b l) (h' : Blk w g ty cs) : b ≠ g := by
  rintro rfl
  obtain ⟨es, clock, hb, _⟩ := h
  unfold Blk at h'
  rw [hb] at h'
  cases h'
theorem Mp.perm {l' : List Mk} (h : Mp w b l) (hp : l.Perm l') : Mp w b l' := by
  obtain ⟨es, clock, hb, h1, h2⟩ := h
  exact ⟨es, clock, hb, h1.trans (hp.map mEnt), fun m hm => h2 m (hp.mem_iff.2 hm)⟩
theorem mp_keys (hk : P.underlying k = some .string) {es : Array MapEntry} (h1 : (es.toList.map fun e => (e.key, e.val)).Perm (l.map mEnt)) (h2 : ∀ m ∈ l, m.k.size ≤ maxLen) : ∀ x ∈ es.toList, ∃ q, keyOf P k x.key = some q := by
  intro x hx
  have hm : (x.key, x.val) ∈ l.map mEnt := h1.mem_iff.1 (List.mem_map.2 ⟨x, hx, rfl⟩)
  obtain ⟨m, hml, e⟩ := List.mem_map.1 hm
  have e1 : x.key = .string m.k := by injection e with e _; exact e.symm
  exact ⟨_, by rw [e1]; exact Go.WideMaps.keyOf_string_mk hk (h2 m hml)⟩
theorem mp_find (hk : P.underlying k = some .string) {es : Array MapEntry} (h1 : (es.toList.map fun e => (e.key, e.val)).Perm (l.map mEnt)) (h2 : ∀ m ∈ l, m.k.size ≤ maxLen) (x : ByteArray) (hx : x.size ≤ maxLen) (w : World) :
    ((Instr.findKey k (.string x) es.toList).run P w = .ok none w ∧ ∀ m ∈ l, m.k ≠ x) ∨
    ∃ j e0 m, (Instr.findKey k (.string x) es.toList).run P w = .ok (some (j, e0.val)) w ∧ es.toList[j]? = some e0 ∧ m ∈ l ∧ m.k = x ∧ (e0.key, e0.val) = mEnt m := by
  rcases (Maps.string_keyed hk).find w (Go.WideMaps.keyOf_string_mk hk hx) es.toList (mp_keys hk h1 h2) with ⟨g1, g2⟩ | ⟨j, e0, g1, g2, g3⟩
  · refine .inl ⟨g1, fun m hm e => ?_⟩
    have : mEnt m ∈ es.toList.map fun e => (e.key, e.val) := h1.mem_iff.2 (List.mem_map.2 ⟨m, hm, rfl⟩)
    obtain ⟨y, hy, ey⟩ := List.mem_map.1 this
    refine g2 y hy ?_
    have e2 : y.key = .string m.k := by injection ey
    rw [e2, e]
  · have hm : (e0.key, e0.val) ∈ l.map mEnt := h1.mem_iff.1 (List.mem_map.2 ⟨e0, List.mem_of_getElem? g2, rfl⟩)
    obtain ⟨m, hml, e⟩ := List.mem_map.1 hm
    refine .inr ⟨j, e0, m, g1, g2, hml, ?_, e.symm⟩
    have e2 : e0.key = .string m.k := by injection e with e _; exact e.symm
    rw [g3] at e2
    injection e2 with e2
    exact e2.symm
theorem keys_inj {m m' : Mk} (h : Keys_ l) (hm : m ∈ l) (hm' : m' ∈ l) (e : m.k = m'.k) : m = m' := by
  obtain ⟨i, hi, rfl⟩ := List.mem_iff_getElem.1 hm
  obtain ⟨j, hj, rfl⟩ := List.mem_iff_getElem.1 hm'
  rcases Nat.lt_trichotomy i j with h1 | rfl | h1
  · exact absurd e (List.pairwise_iff_getElem.1 h i j hi hj h1)
  · rfl
  · exact absurd e.symm (List.pairwise_iff_getElem.1 h j i hj hi h1)
theorem mp_look_yes (hk : P.underlying k = some .string) (ht : P.underlying t = some (.map k e)) (h : Mp w b l) (hl : Keys_ l) {m : Mk} (hm : m ∈ l) :
    (Instr.lookup t (.map (some b)) (.string m.k) true).run P w = .ok (.tuple #[.agg #[.int .i64 m.a.c, .int .i64 m.a.s], .bool true]) w := by
  obtain ⟨es, clock, hb, h1, h2⟩ := h
  rcases mp_find hk h1 h2 m.k (h2 m hm) w with ⟨_, g2⟩ | ⟨j, e0, m', g1, _, g3, g4, g5⟩
  · exact absurd rfl (g2 m hm)
  · obtain rfl := keys_inj hl hm g3 g4.symm
    have e1 : e0.val = .agg #[.int .i64 m.a.c, .int .i64 m.a.s] := by injection g5
    simp [Instr.lookup, run_underlying ht, MapKept.run_getObj_map hb, (Maps.string_keyed hk).check w _ (Go.WideMaps.keyOf_string_mk hk (h2 m hm)), g1, Result.andThen, e1]
theorem mp_look_no (hk : P.underlying k = some .string) (ht : P.underlying t = some (.map k e)) {z : Value} (hz : (zeroValue e).run P w = .ok z w) (h : Mp w b l) {x : ByteArray} (hx : x.size ≤ maxLen) (hno : ∀ m ∈ l, m.k ≠ x) :
    (Instr.lookup t (.map (some b)) (.string x) true).run P w = .ok (.tuple #[z, .bool false]) w := by
  obtain ⟨es, clock, hb, h1, h2⟩ := h
  rcases mp_find hk h1 h2 x hx w with ⟨g1, _⟩ | ⟨j, e0, m', _, _, g3, g4, _⟩
  · simp [Instr.lookup, run_underlying ht, MapKept.run_getObj_map hb, (Maps.string_keyed hk).check w _ (Go.WideMaps.keyOf_string_mk hk hx), g1, hz, Result.andThen]
  · exact absurd g4 (hno m' g3)
theorem only_block (hb : b < w.heap.size) (o : Obj) : Only (one b) w (setBlock w b o) :=
  ⟨rfl, rfl, rfl, by simp [setBlock], fun i hi hn => by
    have : i ≠ b := fun e => hn e
    simp [setBlock, Array.getElem?_setIfInBounds, this.symm]⟩
theorem mp_put (hk : P.underlying k = some .string) (ht : P.underlying t = some (.map k e)) (h : Mp w b l) (m : Mk) (hx : m.k.size ≤ maxLen) (hno : ∀ y ∈ l, y.k ≠ m.k) :
    ∃ w', (Instr.mapUpdate t (.map (some b)) (.string m.k) (.agg #[.int .i64 m.a.c, .int .i64 m.a.s])).run P w = .ok () w' ∧ Mp w' b (m :: l) ∧ Only (one b) w w' := by
  have hlt := h.lt
  obtain ⟨es, clock, hb, h1, h2⟩ := h
  rcases mp_find hk h1 h2 m.k hx w with ⟨g1, _⟩ | ⟨j, e0, m', _, _, g3, g4, _⟩
  · refine ⟨setBlock w b (.map (es.push ⟨.string m.k, .agg #[.int .i64 m.a.c, .int .i64 m.a.s], clock⟩) (clock + 1)), ?_, ⟨_, _, heap_setBlock_same hb _, ?_, ?_⟩, only_block hlt _⟩
    · simp [Instr.mapUpdate, run_underlying ht, MapKept.run_getObj_map hb, (Maps.string_keyed hk).check w false (Go.WideMaps.keyOf_string_mk hk hx), g1, MapKept.run_setObj_map _ hb, Result.andThen, setBlock]
    · rw [Array.toList_push, List.map_append, List.map_singleton, List.map_cons]
      exact (List.perm_append_singleton _ _).trans (h1.cons _)
    · intro y hy
      rcases List.mem_cons.1 hy with rfl | hy
      · exact hx
      · exact h2 y hy
  · exact absurd g4 (hno m' g3)
theorem mp_del (hk : P.underlying k = some .string) (ht : P.underlying t = some (.map k e)) (h : Mp w b l) (hl : Keys_ l) {m : Mk} (hm : m ∈ l) :
    ∃ w', (∀ ty, (Builtin.delete_ #[t, k] ty #[.map (some b), .string m.k]).run P w = .ok (.tuple #[]) w') ∧ Mp w' b (dropM l m.k) ∧ Only (one b) w w' := by
  have hlt := h.lt
  obtain ⟨es, clock, hb, h1, h2⟩ := h
  rcases mp_find hk h1 h2 m.k (h2 m hm) w with ⟨_, g2⟩ | ⟨j, e0, m', g1, g2, g3, g4, g5⟩
  · exact absurd rfl (g2 m hm)
  · obtain rfl := keys_inj hl hm g3 g4.symm
    have hjl : j < es.toList.length := (List.getElem?_eq_some_iff.1 g2).1
    have hjs : j < es.size := by simpa using hjl
    have hsub : (es.eraseIdxIfInBounds j).toList = es.toList.eraseIdx j := by
      unfold Array.eraseIdxIfInBounds
      rw [dif_pos hjs]
      simp
    obtain ⟨i, hi, hmi⟩ := List.mem_iff_getElem.1 hm
    refine ⟨setBlock w b (.map (es.eraseIdxIfInBounds j) clock), fun ty => ?_, ⟨_, _, heap_setBlock_same hb _, ?_, fun y hy => h2 y ((drop_sub l m.k).subset hy)⟩, only_block hlt _⟩
    · simp [Builtin.delete_, run_underlying ht, MapKept.run_getObj_map hb, (Maps.string_keyed hk).check w _ (Go.WideMaps.keyOf_string_mk hk (h2 m hm)), g1, MapKept.run_setObj_map _ hb, Result.andThen, setBlock]
    · have p1 : (mEnt m :: ((es.eraseIdxIfInBounds j).toList.map fun e => (e.key, e.val))).Perm (es.toList.map fun e => (e.key, e.val)) := by
        have e1 : es.toList = es.toList.take j ++ e0 :: es.toList.drop (j + 1) := by
          have e2 : es.toList[j] = e0 := by rw [List.getElem?_eq_getElem hjl] at g2; injection g2
          rw [← e2, List.getElem_cons_drop, List.take_append_drop]
        have e3 : (es.eraseIdxIfInBounds j).toList = es.toList.take j ++ es.toList.drop (j + 1) := by rw [hsub, List.eraseIdx_eq_take_drop_succ]
        have e4 : (es.toList.map fun e => (e.key, e.val)) = ((es.toList.take j).map fun e => (e.key, e.val)) ++ mEnt m :: ((es.toList.drop (j + 1)).map fun e => (e.key, e.val)) := by
          have := congrArg (List.map fun e : MapEntry => (e.key, e.val)) e1
          rw [List.map_append, List.map_cons, g5] at this
          exact this
        rw [e3, e4, List.map_append]
        exact List.perm_middle.symm
      have p2 : (l.map mEnt).Perm (mEnt m :: (dropM l m.k).map mEnt) := by
        have e1 : l = l.take i ++ l[i] :: l.drop (i + 1) := by rw [List.getElem_cons_drop, List.take_append_drop]
        have e2 := drop_at hl i hi
        rw [hmi] at e1 e2
        rw [e2]
        have e3 : l.map mEnt = (l.take i).map mEnt ++ mEnt m :: (l.drop (i + 1)).map mEnt := by
          have := congrArg (List.map mEnt) e1
          rw [List.map_append, List.map_cons] at this
          exact this
        rw [e3, List.map_append]
        exact List.perm_middle
      exact (p1.trans (h1.trans p2)).cons_inv
end
theorem wpList_upd {P : Program} (w : World) {ops : Array Oper} {rest : List Oper} {o : Oper} {a : Act} {Q : Exit → Act → World → Prop}
    (hg : o.guard = none) (m x v : Operand) (t : TypeId) (hop : o.op = Op.mapUpdate t m x v) (vm key val : Value) (hm : a.eval m = vm) (hx : a.eval x = key) (hv : a.eval v = val) {w' : World}
    (hr : (Instr.mapUpdate t vm key val).run P w = .ok () w') (hK : wpList P ops Q rest (a.put o.dst undef) w') : wpList P ops Q (o :: rest) a w := by
  refine wpList_plain hg fun K' hK' => ?_
  unfold Oper.wp
  simp [execOp, hop, hm, hx, hv, hr, Result.andThen]
  exact hK' _ _ hK
end Go.Proofs.YtoohpcomnhfgpaaGreat
end
