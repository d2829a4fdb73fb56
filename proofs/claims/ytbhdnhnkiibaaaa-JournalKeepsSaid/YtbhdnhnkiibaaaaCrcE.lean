/- What Mark and Holds of package crc's table do. No statement of the seat is proved here. -/
import Derived.Test.YtbhdnhnkiibaaaaCrcD
namespace Go.Proofs.Ytbhdnhnkiibaaaa
open Go.RowKit
attribute [local go_sem ↓] Go.wp_at_zero Go.wp_at_succ

theorem equal_any (x y : Value) (xs ys : List UInt8) (S T : Nat → Prop) (w : World) (hx : Byt w S x xs) (hy : Byt w T y ys) :
    Calls Try.prog 107 #[x, y] w fun e w' => e = .returned (.bool (xs == ys)) ∧ w = w' := by
  have k1 := run_bytes_string w _ _ _ hx
  have k2 := run_bytes_string w _ _ _ hy
  obtain ⟨A1, L1, c1, rfl⟩ : ∃ A L c, x = .slice A L c := by obtain ⟨A, c, h, _⟩ := hx; exact ⟨A, _, c, h⟩
  obtain ⟨A2, L2, c2, rfl⟩ : ∃ A L c, y = .slice A L c := by obtain ⟨A, c, h, _⟩ := hy; exact ⟨A, _, c, h⟩
  clear hx hy
  go_enter Try.func107, Try.ntmps107
  go_wp2
  go_ret
  exact ⟨rfl, rfl⟩

/-- A new slice of bytes with room: what is made. -/
theorem make_room (L : Nat) (hL : L ≤ 1000000) : ∃ M : Array Value, M.size = L + 4 ∧ ∀ w : World, (Instr.makeSlice 71 (.int .i64 0) (.int .i64 ((L : Int) + 4))).run Try.prog w = .ok (.slice (some ⟨w.heap.size, 0, none⟩) 0 (L + 4)) (w.alloc (.cells M 5)) := by
  obtain ⟨i0, hi0, hz0, hz1, hz2⟩ := info_parts u8_info
  refine ⟨madeCells (Value.int .u8 0).cells (((L : Int) + 4).toNat * i0.size), ?_, fun w => ?_⟩
  · rw [hz1]
    have : ∀ n, (madeCells (Value.int .u8 0).cells n).size = n := fun n => by simp [madeCells, Value.cells]
    rw [this]
    omega
  · rw [run_makeSlice w 71 5 i0 (.int .u8 0) Try.underlying71 hi0 hz0 .i64 .i64 0 ((L : Int) + 4) (by omega) (by omega) (by rw [hz1]; omega) (by rw [hz2]; omega) (by omega)]
    rw [show ((L : Int) + 4).toNat = L + 4 from by omega]
    rfl
theorem sum_bytes {w : World} {g : Nat} (s : Nat) (hs : s < 4294967296) (h : Blk w g 170 (sumArr s 4)) : Byt w (fun b => b = g) (.slice (some ⟨g, 0, none⟩) 4 4) (lowB s) := by
  refine ⟨_, 4, rfl, by simp [lowB], by simp [maxLen], by simp, fun _ => ⟨g, 0, rfl, rfl, h.lt, fun j hj => ?_⟩⟩
  rw [Nat.zero_add, h.cell, ← Array.getElem?_toList, sumArr_byts s hs]
  simp [byts, hj]

set_option maxHeartbeats 400000 in
theorem tab_mark {tt : TypeId} (g : Nat) (S : Nat → Prop) (x : Value) (bs : List UInt8) (w : World) (h : Tab tt w g) (hx : Byt w S x bs) (hS : ∀ b, S b → b ≠ g) (hl : bs.length ≤ 1000000) :
    Calls Try.prog 83 #[.pointer (some ⟨g, 0, none⟩), x] w fun e w' => ∃ A n c, e = .returned (.slice A n c) ∧ w'.ownsRow w.heap.size 5 1 (.slice A n c) (crcMark bs).length (byts (crcMark bs)) ∧ Tab tt w' g ∧ Only (one g) w w' := by
  have hv : ∃ A L c, L = bs.length ∧ x = .slice A L c := by obtain ⟨A, c, h, _⟩ := hx; exact ⟨A, _, c, rfl, h⟩
  obtain ⟨A, L, c, hL, rfl⟩ := hv
  have hL6 : L ≤ 1000000 := by omega
  have hgw := h.lt
  have HX := Lib.hid (hx.mono (T := fun b => b ≠ g) (fun b _ h => hS b h))
  have O1 : Hid (Only none_ w (w.alloc (.cells #[.slice A L c] 71))) := (Only.refl _ _).alloc _
  have HOf := tab_of g (fun b => b ≠ g) _ [bs] (w.alloc (.cells #[.slice A L c] 71)) (h.only O1.out (fun h => h)) (rows_one (t := 71) (S := fun b => b ≠ g) HX.out (by omega) w.heap.size rfl) (fun _ h => h)
  rw [List.flatten_cons, List.flatten_nil, List.append_nil] at HOf
  have hsl := sum_lt bs
  have HLo := lowest4_any (crcSum bs) hsl
  have hgh : Hid (g < w.heap.size) := hgw
  obtain ⟨M, hMs, hmk⟩ := make_room L hL6
  have HMs := Lib.hid hMs
  obtain ⟨i0, hi0, hz0, hz1, hz2⟩ := info_parts u8_info
  have hc1 : ([] : List UInt8).length + bs.length ≤ 140737488355328 := by simp; omega
  have hc2 : ([] ++ bs : List UInt8).length + (lowB (crcSum bs)).length ≤ 140737488355328 := by simp [lowB]; omega
  have HM : Hid (crcMark bs = [] ++ bs ++ lowB (crcSum bs)) := rfl
  clear hMs
  have HLn := Lib.hid hL
  clear hx h hgw hL hl
  go_enter Try.func83, Try.ntmps83
  go_wp2_with (first
    | (at_builtin; refine wpList_append_byt _ rfl (.tmp 16) (.tmp 17) _ rfl w3.heap.size 5 i0 (.int .u8 0) Try.underlying71 hi0 hz0 hz1 hz2 rfl (.slice (some ⟨w3.heap.size, 0, none⟩) 0 (L + 4)) [] rfl X3.out _ _ bs rfl HX3.out hc1 hs3 ?_; intro A4 n4 c4 w4 hown4 hgrow4 hmv4
       have X4 := Lib.hid hown4
       have hb4 := Lib.hid (hb3a.out.grown' hgrow4 (fun e => hne3 (by simpa [Value.ownBlock] using e)))
       have O4 : Hid (Only none_ w3 w4) := ((Only.refl none_ w3).alloc _).grown hgrow4 (fun k hk => .inr (by simp [Value.ownBlock] at hk; omega))
       have S4 := sum_bytes _ hsl hb4.out
       have hs4 : w3.heap.size ≤ w4.heap.size := O4.out.size
       clear hown4 hgrow4 hmv4)
    | (at_builtin; refine wpList_append_byt _ rfl (.tmp 19) (.tmp 20) _ rfl w3.heap.size 5 i0 (.int .u8 0) Try.underlying71 hi0 hz0 hz1 hz2 rfl _ _ rfl X4.out _ _ _ rfl S4 hc2 hs4 ?_; intro A5 n5 c5 w5 hown5 hgrow5 hmv5
       have ON5 : Only none_ w3 w5 := O4.out.grown hgrow5 (fun k hk => .inr (X4.out.lt k hk).1)
       have O5 : Hid (Only (one g) w w5) := O3.out.trans ON5.of_none
       have T5 : Hid (Tab tt w5 g) := T3.out.only ON5 (fun h => h)
       have X5 := Lib.hid (owns_base hown5 O3.out.size)
       clear hgrow5 hmv5 ON5 hown5)
    | (go_at_call 100; refine HOf.mono ?_; rintro e w1 ⟨rfl, t1, o1⟩)
    | (go_at_call 99; refine (HLo _).mono ?_; rintro e w2 ⟨rfl, o2⟩
       have T2 := t1.only o2 (fun h => h)
       have O2 : Only (one g) w w2 := (O1.out.of_none.trans o1).trans o2.of_none)
    | (refine wpList_store_row rfl 170 _ _ rfl w2.heap.size (sumArr (crcSum bs) 4) rfl rfl 170 _ (Blk.new w2 _ _) (by rw [sumArr_size]; kernel_rfl) (by rw [sumArr_size]; rfl) (sumArr_one _ 4) ?_
       have hb3 := Lib.hid ((Blk.new w2 170 #[Value.int .u8 0, .int .u8 0, .int .u8 0, .int .u8 0]).setRow (sumArr (crcSum bs) 4))
       have hon := ((Only.refl none_ w2).alloc (.cells #[Value.int .u8 0, .int .u8 0, .int .u8 0, .int .u8 0] 170)).setRow (.inr (Nat.le_refl _)) (sumArr (crcSum bs) 4)
       have T3 := Lib.hid (T2.only hon (fun h => h))
       have O3 := Lib.hid (O2.trans hon.of_none)
       have hg3 : Hid (w.heap.size ≤ w2.heap.size) := O2.size
       clear hon T2 O2 o1 t1 o2
       generalize (w2.alloc (.cells #[Value.int .u8 0, .int .u8 0, .int .u8 0, .int .u8 0] 170)).setRow w2.heap.size (sumArr (crcSum bs) 4) = w3 at *
       generalize w2.heap.size = g3 at *
       have hne3 : w3.heap.size ≠ g3 := by have := hb3.out.lt; omega
       have hs3 : w3.heap.size ≤ (w3.alloc (.cells M 5)).heap.size := by simp
       have hb3a := Lib.hid (hb3.out.alloc (.cells M 5))
       have X3 : Hid ((w3.alloc (.cells M 5)).ownsRow w3.heap.size 5 1 (.slice (some ⟨w3.heap.size, 0, none⟩) 0 (L + 4)) ([] : List UInt8).length (byts [])) := World.ownsRow_made w3 M (L + 4) (Nat.le_refl _) (by simp only [maxLen]; omega) (by have := HMs.out; omega)
       have HX3 := Lib.hid ((HX.out.only O3.out (fun _ h => h)).alloc (.cells M 5))))
  go_ret
  exact ⟨_, _, _, rfl, by rw [HM.out]; exact X5.out, T5.out, O5.out⟩

theorem holds_eq (bs : List UInt8) (n : Nat) (h4 : 4 ≤ bs.length) (hn : n = bs.length - 4) : crcHolds bs = (bs.drop n == lowB (crcSum (bs.take n))) := by
  subst hn
  rw [crcHolds, show decide (4 ≤ bs.length) = true from by simp [h4], Bool.true_and, crcMark, Bool.eq_iff_iff, beq_iff_eq, beq_iff_eq]
  constructor
  · intro h
    conv at h => rhs; rw [← List.take_append_drop (bs.length - 4) bs]
    exact (List.append_cancel_left h).symm
  · intro h
    rw [← h, List.take_append_drop]

set_option maxHeartbeats 400000 in
theorem tab_holds {tt : TypeId} (g : Nat) (S : Nat → Prop) (x : Value) (bs : List UInt8) (w : World) (h : Tab tt w g) (hx : Byt w S x bs) (hS : ∀ b, S b → b ≠ g) (hl : bs.length ≤ 1000000) :
    Calls Try.prog 92 #[.pointer (some ⟨g, 0, none⟩), x] w fun e w' => e = .returned (.bool (crcHolds bs)) ∧ Tab tt w' g ∧ Only (one g) w w' := by
  have hv : ∃ A L c, L = bs.length ∧ x = .slice A L c := by obtain ⟨A, c, h, _⟩ := hx; exact ⟨A, _, c, rfl, h⟩
  obtain ⟨A, L, c, hL, rfl⟩ := hv
  have hL6 : L ≤ 1000000 := by omega
  by_cases h4 : 4 ≤ L
  · obtain ⟨i0, hi0, hz0, hz1, hz2⟩ := info_parts u8_info
    have HX0 : Byt w (fun b => b ≠ g) (.slice A L c) bs := hx.mono (fun b _ h => hS b h)
    obtain ⟨n, hn⟩ : ∃ n, n = L - 4 := ⟨_, rfl⟩
    have HE : Hid (crcHolds bs = (bs.drop n == lowB (crcSum (bs.take n)))) := holds_eq bs n (by omega) (by omega)
    obtain ⟨A1, hsl1, hb1⟩ := byt_hi Try.underlying71 hi0 HX0 n (by omega) ((L : Int) - 4) (by omega)
    obtain ⟨A2, L2, c2, hsl2, hb2⟩ := byt_lo Try.underlying71 hi0 hz1 HX0 n (by omega) ((L : Int) - 4) (by omega)
    have hgw := h.lt
    have O1 : Hid (Only none_ w (w.alloc (.cells #[.slice A1 n c] 71))) := (Only.refl _ _).alloc _
    have HOf := tab_of g (fun b => b ≠ g) _ [bs.take n] (w.alloc (.cells #[.slice A1 n c] 71)) (h.only O1.out (fun h => h)) (rows_one (t := 71) (S := fun b => b ≠ g) hb1 (by omega) w.heap.size rfl) (fun _ h => h)
    rw [List.flatten_cons, List.flatten_nil, List.append_nil] at HOf
    have hs := sum_lt (bs.take n)
    have HLo := lowest4_any (crcSum (bs.take n)) hs
    have HB2 := Lib.hid hb2
    have hd4 : ((L : Int) - 4 < 0) = False := by simp; omega
    clear hx h hgw hL hl hi0 hz0 hz1 hz2 hb1 hb2 HX0 hn
    go_enter Try.func92, Try.ntmps92
    go_wp2_with (first
      | (go_at_call 100; refine HOf.mono ?_; rintro e w1 ⟨rfl, t1, o1⟩)
      | (go_at_call 99; refine (HLo _).mono ?_; rintro e w2 ⟨rfl, o2⟩
         have T2 := t1.only o2 (fun h => h)
         have O2 : Only (one g) w w2 := (O1.out.of_none.trans o1).trans o2.of_none)
      | (refine wpList_store_row rfl 170 _ _ rfl w2.heap.size (sumArr (crcSum (bs.take n)) 4) rfl rfl 170 _ (Blk.new w2 _ _) (by rw [sumArr_size]; kernel_rfl) (by rw [sumArr_size]; rfl) (sumArr_one _ 4) ?_
         have hb3 := (Blk.new w2 170 #[Value.int .u8 0, .int .u8 0, .int .u8 0, .int .u8 0]).setRow (sumArr (crcSum (bs.take n)) 4)
         have hon := ((Only.refl none_ w2).alloc (.cells #[Value.int .u8 0, .int .u8 0, .int .u8 0, .int .u8 0] 170)).setRow (.inr (Nat.le_refl _)) (sumArr (crcSum (bs.take n)) 4)
         have T3 := Lib.hid (T2.only hon (fun h => h))
         have O3 := Lib.hid (O2.trans hon.of_none)
         clear hon T2 O2 o1 t1 o2
         generalize (w2.alloc (.cells #[Value.int .u8 0, .int .u8 0, .int .u8 0, .int .u8 0] 170)).setRow w2.heap.size (sumArr (crcSum (bs.take n)) 4) = w3 at *
         generalize w2.heap.size = g3 at *
         have S3 := Lib.hid (sum_bytes _ hs hb3)
         have B3 := Lib.hid (HB2.out.only O3.out (fun _ h => h))
         clear hb3))
    go_quiet ((go_at_call 107; exact Calls.quiet_of_same ((equal_any _ _ _ _ _ _ _ (B3.out.drewN _) (S3.out.drewN _)).mono fun _ _ ⟨h1, h2⟩ => ⟨h1, h2.symm⟩)))
    go_wp2
    go_ret
    rw [HE.out]
    exact ⟨rfl, T3.out, O3.out.drewN _⟩
  · have HE : Hid (crcHolds bs = false) := by rw [Hid, crcHolds]; simp; omega
    have hd4 : ((L : Int) - 4 < 0) = True := by simp; omega
    have H := Lib.hid h
    clear hx h hL hl
    go_enter Try.func92, Try.ntmps92
    go_wp2
    go_ret
    rw [HE.out]
    exact ⟨rfl, H.out, Only.refl _ _⟩
end Go.Proofs.Ytbhdnhnkiibaaaa
