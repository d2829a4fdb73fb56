import Derived.Test.YthhfpjecgdedgaaOctW
namespace Go.Proofs.Ythhfpjecgdedgaa
open Go.RowKit
set_option linter.all false
theorem Wr.foot_lt {w : World} {g base : Nat} {code : Int} {v : Value} {bs : List UInt8} (h : Wr w g base code v bs) {b : Nat} (hb : foot g v b) : b < w.heap.size := by
  rcases hb with rfl | hb
  · exact h.1.lt
  · exact (h.2.lt b hb).2
theorem Wr.foot_ge {w : World} {g base : Nat} {code : Int} {v : Value} {bs : List UInt8} (h : Wr w g base code v bs) (hg : base ≤ g) {b : Nat} (hb : foot g v b) : base ≤ b := by
  rcases hb with rfl | hb
  · exact hg
  · exact (h.2.lt b hb).1
theorem Wr.only {w w' : World} {g base : Nat} {code : Int} {v : Value} {bs : List UInt8} {S : Nat → Prop} (h : Wr w g base code v bs) (ho : Only S w w') (hn : ∀ b, foot g v b → ¬ S b) : Wr w' g base code v bs :=
  ⟨h.1.only ho (hn g (.inl rfl)), owns_only h.2 ho fun b hb => hn b (.inr hb)⟩
theorem Wr.fail {w w' : World} {g base : Nat} {code code' : Int} {v : Value} {bs : List UInt8} (h : Wr w g base code v bs)
    (hb : Blk w' g 67 (#[Value.int .i64 code, v].setIfInBounds 0 (.int .i64 code'))) (ho : Only (one g) w w') : Wr w' g base code' v bs :=
  ⟨by simpa using hb, owns_only h.2 ho fun b hb' => by rintro rfl; exact own_blk_ne h.2 h.1 (by decide) hb'⟩
theorem one_foot {w w' : World} {g : Nat} {v : Value} (ho : Only (one g) w w') : Only (foot g v) w w' := ho.mono fun _ _ h => .inl h

/-- What is put behind whatever stood there: nothing behind an error. -/
def putS (code : Int) (bs x : List UInt8) : List UInt8 := if code = 0 then bs ++ x else bs

set_option maxHeartbeats 400000 in
theorem writer_raw (g base : Nat) (code : Int) (v pv : Value) (bs : List UInt8) (pss : List (List UInt8)) (S : Nat → Prop) (w : World) (h : Wr w g base code v bs) (hp : Parts w S pv pss)
    (hS : ∀ b, S b → ¬ foot g v b) (hb : bs.length + pss.flatten.length ≤ 140737488355328) (hbase : base ≤ w.heap.size) (hpl : pss.length ≤ 1000) :
    Calls Try.prog 48 #[.pointer (some ⟨g, 0, none⟩), pv] w fun e w' => e = .returned (.pointer (some ⟨g, 0, none⟩)) ∧
      ∃ v', Wr w' g base code v' (putS code bs pss.flatten) ∧ Only (foot g v) w w' ∧ Moved w v v' := by
  by_cases hc : code = 0
  · subst hc
    exact writer_raw_ok g base v pv bs pss S w h hp hS hb hbase hpl
  · have h2 : (code != 0) = true := by simp [hc]
    have h3 : Hid (putS code bs pss.flatten = bs) := by simp [Hid, putS, hc]
    obtain ⟨b, off, c, rfl, _⟩ := hp
    have H := Lib.hid h
    clear h hc
    go_enter Try.func48, Try.ntmps48
    go_wp2_with (go_at_call 57; refine (writer_err _ _ _ _ _ _ H.out).mono ?_; rintro e w' ⟨rfl, rfl⟩)
    go_ret
    rw [h3.out]
    exact ⟨rfl, v, H.out, Only.refl _ _, Moved.refl _ _⟩

def numCode (code : Int) (n : Nat) (width : Int) : Int := if isW width = true then (if n / 2 ^ (8 * width.toNat) = 0 then code else first_ code 2) else first_ code 1
def numBs (code : Int) (bs : List UInt8) (n : Nat) (width : Int) : List UInt8 := if isW width = true then (if n / 2 ^ (8 * width.toNat) = 0 then putS code bs (leBytes n width.toNat) else bs) else bs

theorem run_sliceAt_hm {P : Program} (t e : TypeId) (n m : Nat) (ht : P.underlying t = some (.array n e)) (i : TypeInfo) (hi : P.info? e = some i) (hm : m ≤ n) (a : Addr) (w : World) :
    (Instr.sliceAt t (.pointer (some a)) none (some (.int .i64 (m : Int))) (some (.int .i64 (m : Int)))).run P w = .ok (.slice (some a) m m) w := by
  have h2 : (m : Int) ≤ (n : Int) := by omega
  simp [Instr.sliceAt, Instr.sureAddr, run_underlying ht, Instr.sliceBounds, run_sliceBound, sizeOf, typeInfo, hi, Addr.add, h2]
theorem leBytes_succ (n m : Nat) : leBytes n (m + 1) = leBytes n m ++ [leByte n m] := by simp [leBytes, List.range_succ]
theorem leBytes_length (n m : Nat) : (leBytes n m).length = m := by simp [leBytes]
theorem leBytes_at (n m j : Nat) (hj : j < (leBytes n m).length) : (leBytes n m)[j] = leByte n j := by simp [leBytes]
theorem leBytes_byt (n m : Nat) (hm : m ≤ 8) {w : World} {g : Nat} (hb : Blk w g 85 (leArr n 8)) : Byt w (fun b => b = g) (.slice (some ⟨g, 0, none⟩) m m) (leBytes n m) := by
  refine ⟨_, m, by rw [leBytes_length], by rw [leBytes_length]; omega, by simp only [maxLen]; omega, by simp, fun _ => ⟨g, 0, rfl, rfl, hb.lt, fun j hj => ?_⟩⟩
  have hj' : j < m := by rw [leBytes_length] at hj; exact hj
  rw [leBytes_at]
  have := hb.cell_ (leArr_at n 8 j (by omega))
  rw [if_pos (by omega)] at this
  simpa using this

/-- A slice of one or two slices of bytes, laid in a new block. -/
theorem parts_one {w : World} {S : Nat → Prop} {x : Value} {bs : List UInt8} {t : TypeId} (h : Byt w S x bs) (hS : S w.heap.size) : Parts (w.alloc (.cells #[x] t)) S (.slice (some ⟨w.heap.size, 0, none⟩) 1 1) [bs] := by
  refine ⟨_, _, 1, rfl, by simp, hS, fun j hj => ?_⟩
  have hj0 : j = 0 := by simp at hj; omega
  subst hj0
  exact ⟨x, by simp, h.alloc _⟩
theorem parts_two {w : World} {S : Nat → Prop} {x y : Value} {bs cs : List UInt8} {t : TypeId} (h : Byt w S x bs) (h' : Byt w S y cs) (hS : S w.heap.size) : Parts (w.alloc (.cells #[x, y] t)) S (.slice (some ⟨w.heap.size, 0, none⟩) 2 2) [bs, cs] := by
  refine ⟨_, _, 2, rfl, by simp, hS, fun j hj => ?_⟩
  have hj0 : j = 0 ∨ j = 1 := by simp at hj; omega
  rcases hj0 with rfl | rfl
  · exact ⟨x, by simp, h.alloc _⟩
  · exact ⟨y, by simp, h'.alloc _⟩

set_option maxHeartbeats 400000 in
theorem writer_number (g base : Nat) (code width : Int) (n : Nat) (v : Value) (bs : List UInt8) (w : World) (h : Wr w g base code v bs) (hn : n < 18446744073709551616)
    (hb : bs.length + 8 ≤ 140737488355328) (hbase : base ≤ w.heap.size) :
    Calls Try.prog 37 #[.pointer (some ⟨g, 0, none⟩), .int .u64 (n : Int), .int .i64 width] w fun e w' => e = .returned (.pointer (some ⟨g, 0, none⟩)) ∧
      ∃ v', Wr w' g base (numCode code n width) v' (numBs code bs n width) ∧ Only (foot g v) w w' ∧ Moved w v v' := by
  by_cases hw : isW width = true
  · have hr : 1 ≤ width ∧ width ≤ 8 := by simpa [isW] using hw
    obtain ⟨m, rfl⟩ : ∃ m : Nat, width = m := ⟨width.toNat, by omega⟩
    obtain ⟨hm1, hm2⟩ : 1 ≤ m ∧ m ≤ 8 := by omega
    clear hr
    by_cases h0 : n / 2 ^ (8 * m) = 0
    · have ht : ((n : Int) / 2 ^ (8 * m) != 0) = false := by
        have : (n : Int) / 2 ^ (8 * m) = ((n / 2 ^ (8 * m) : Nat) : Int) := by push_cast; rfl
        rw [this, h0]; rfl
      have hcode : Hid (numCode code n (m : Int) = code) := by simp [Hid, numCode, hw, h0]
      have hbs : Hid (numBs code bs n (m : Int) = putS code bs (leBytes n m)) := by simp [Hid, numBs, hw, h0]
      have HW := Lib.hid hw
      have H := Lib.hid h
      clear h h0 hw
      obtain ⟨i0, hi0, _⟩ := info_parts u8_info
      have hsl := fun a w => run_sliceAt_hm 85 5 8 m Try.underlying85 i0 hi0 hm2 a w
      clear hi0
      go_enter Try.func37, Try.ntmps37
      go_wp2_with (first
        | (go_at_call 45; refine (isWidth_any _ _).mono ?_; rintro e w' ⟨rfl, rfl⟩; rw [HW.out])
        | (go_at_call 47; refine (lowest_any n hn _).mono ?_; rintro e w1 ⟨rfl, ho1⟩)
        | (refine wpList_store_row rfl 85 _ _ rfl w1.heap.size (leArr n 8) rfl rfl 85 _ (Blk.new w1 _ _) (by rw [leArr_size]; kernel_rfl) (by rw [leArr_size]; rfl) (leArr_one n 8) ?_
           have hb2 := (Blk.new w1 85 #[Value.int .u8 0, .int .u8 0, .int .u8 0, .int .u8 0, .int .u8 0, .int .u8 0, .int .u8 0, .int .u8 0]).setRow (leArr n 8)
           have ho2 := (ho1.alloc (.cells #[Value.int .u8 0, .int .u8 0, .int .u8 0, .int .u8 0, .int .u8 0, .int .u8 0, .int .u8 0, .int .u8 0] 85)).setRow (.inr ho1.size) (leArr n 8)
           have hg2 := ho1.size
           generalize (w1.alloc (.cells #[Value.int .u8 0, .int .u8 0, .int .u8 0, .int .u8 0, .int .u8 0, .int .u8 0, .int .u8 0, .int .u8 0] 85)).setRow w1.heap.size (leArr n 8) = w2 at *
           generalize w1.heap.size = g2 at *
           clear ho1
           have HR := writer_raw g base code v _ bs [leBytes n m] (fun k => w.heap.size ≤ k) (w2.alloc (.cells #[.slice (some ⟨g2, 0, none⟩) m m] 48))
             (H.out.only (ho2.alloc _) (fun _ _ h => h)) (parts_one ((leBytes_byt n m hm2 hb2).mono (fun b _ hbg => hbg ▸ hg2)) ho2.size) (fun b hb1 hb2 => by have := H.out.foot_lt hb2; omega) (by simp [leBytes_length]; omega) (by have := ho2.size; simp; omega) (by simp)
           have HO := Lib.hid ho2
           clear ho2)
        | (go_at_call 48; refine HR.mono ?_; rintro e w3 ⟨rfl, v3, h3, o3, m3⟩))
      go_ret
      rw [hcode.out, hbs.out]
      exact ⟨rfl, v3, by simpa using h3, (HO.out.alloc _).of_none.trans o3, (Moved.refl w v).trans m3 (HO.out.alloc _).size⟩
    · have ht : ((n : Int) / 2 ^ (8 * m) != 0) = true := by
        have : (n : Int) / 2 ^ (8 * m) = ((n / 2 ^ (8 * m) : Nat) : Int) := by push_cast; rfl
        rw [this]; simp only [bne_iff_ne, ne_eq]; omega
      have hcode : Hid (numCode code n (m : Int) = first_ code 2) := by simp [Hid, numCode, hw, h0]
      have hbs : Hid (numBs code bs n (m : Int) = bs) := by simp [Hid, numBs, hw, h0]
      have HW := Lib.hid hw
      have H := Lib.hid h
      clear h h0 hw
      go_enter Try.func37, Try.ntmps37
      go_wp2_with (first
        | (go_at_call 45; refine (isWidth_any _ _).mono ?_; rintro e w' ⟨rfl, rfl⟩; rw [HW.out])
        | (go_at_call 46; refine (fault_fail _ _ _ _ _ _ H.out.1 rfl).mono ?_; rintro e w1 ⟨rfl, hb1, ho1⟩))
      go_ret
      rw [hcode.out, hbs.out]
      exact ⟨rfl, v, H.out.fail hb1 ho1, one_foot ho1, Moved.refl _ _⟩
  · have hw' : isW width = false := by simpa using hw
    have hcode : Hid (numCode code n width = first_ code 1) := by simp [Hid, numCode, hw']
    have hbs : Hid (numBs code bs n width = bs) := by simp [Hid, numBs, hw']
    have HW := Lib.hid hw'
    have H := Lib.hid h
    clear h hw hw'
    go_enter Try.func37, Try.ntmps37
    go_wp2_with (first
      | (go_at_call 45; refine (isWidth_any _ _).mono ?_; rintro e w' ⟨rfl, rfl⟩; rw [HW.out])
      | (go_at_call 46; refine (fault_fail _ _ _ _ _ _ H.out.1 rfl).mono ?_; rintro e w1 ⟨rfl, hb1, ho1⟩))
    go_ret
    rw [hcode.out, hbs.out]
    exact ⟨rfl, v, H.out.fail hb1 ho1, one_foot ho1, Moved.refl _ _⟩
end Go.Proofs.Ythhfpjecgdedgaa
