/- The call of CrcEvens answers yes, and changes nothing that was there, if the calls of a table do what is asked of them. The statement itself is proved in another text. -/
import Derived.Test.YtimhedjbpjakkaaCrcG
import Derived.StillTailTactics
namespace Go.Proofs.Ytimhedjbpjakkaa
open Go.RowKit
attribute [local go_sem ↓] Go.wp_at_zero Go.wp_at_succ

/-- A row of bytes of which the first k are laid. -/
def fillArr (f : Nat → UInt8) (L k : Nat) : Array Value := ((List.range L).map fun j => if j < k then byt (f j) else .int .u8 0).toArray
theorem fillArr_size (f : Nat → UInt8) (L k : Nat) : (fillArr f L k).size = L := by simp [fillArr]
theorem fillArr_at (f : Nat → UInt8) (L k j : Nat) (hj : j < L) : (fillArr f L k)[j]? = some (if j < k then byt (f j) else .int .u8 0) := by
  simp [fillArr, hj]
theorem fillArr_set (f : Nat → UInt8) (L k : Nat) (hk : k < L) : (fillArr f L k).setIfInBounds k (byt (f k)) = fillArr f L (k + 1) := by
  apply Array.ext_getElem?
  intro i
  rw [Array.getElem?_setIfInBounds, fillArr_size]
  by_cases hi : i < L
  · rw [fillArr_at _ _ _ _ hi, fillArr_at _ _ _ _ hi]
    by_cases hik : k = i
    · subst hik
      rw [if_pos rfl, if_pos hk, if_pos (by omega)]
    · rw [if_neg hik]
      by_cases h1 : i < k
      · rw [if_pos h1, if_pos (by omega)]
      · rw [if_neg h1, if_neg (by omega)]
  · rw [if_neg (by omega), Array.getElem?_eq_none (by rw [fillArr_size]; omega), Array.getElem?_eq_none (by rw [fillArr_size]; omega)]
theorem make_zeros (f : Nat → UInt8) (L : Nat) (hL : L ≤ 1000000) (w : World) : (Instr.makeSlice 22 (.int .i64 (L : Int)) (.int .i64 (L : Int))).run Try.prog w = .ok (.slice (some ⟨w.heap.size, 0, none⟩) L L) (w.alloc (.cells (fillArr f L 0) 5)) := by
  obtain ⟨i0, hi0, hz0, hz1, hz2⟩ := info_parts u8_info
  rw [run_makeSlice w 22 5 i0 (.int .u8 0) Try.underlying22 hi0 hz0 .i64 .i64 L L (by omega) (by omega) (by rw [hz1]; omega) (by rw [hz2]; omega) (by omega)]
  rw [show ((L : Int)).toNat = L from rfl, hz1, Nat.mul_one]
  have : madeCells (Value.int .u8 0).cells L = fillArr f L 0 := by
    apply Array.ext_getElem?
    intro i
    by_cases hi : i < L
    · rw [fillArr_at _ _ _ _ hi, if_neg (by omega)]
      simp [madeCells, Value.cells, hi, Nat.mod_one]
    · rw [Array.getElem?_eq_none (by simp [madeCells, Value.cells]; omega), Array.getElem?_eq_none (by rw [fillArr_size]; omega)]
  rw [this]
theorem fillArr_byt {w : World} {g L : Nat} {us : List UInt8} (hL : us.length = L) (hm : L ≤ maxLen) (h : Blk w g 5 (fillArr (fun j => us.getD j 0) L L)) : Byt w (fun b => b = g) (.slice (some ⟨g, 0, none⟩) L L) us := by
  subst hL
  refine ⟨_, _, rfl, Nat.le_refl _, hm, by simp, fun _ => ⟨g, 0, rfl, rfl, h.lt, fun j hj => ?_⟩⟩
  rw [Nat.zero_add, h.cell, fillArr_at _ _ _ _ hj, if_pos hj]
  simp [hj]
/-- A byte of a slice, and where it lies. -/
theorem byt_pick {w : World} {S : Nat → Prop} {A : Option Addr} {L c : Nat} {bs : List UInt8} (h : Byt w S (.slice A L c) bs) (hp : 0 < L) : ∃ b off, A = some ⟨b, off, none⟩ ∧ S b ∧ ∀ j (hj : j < L), w.cell? ⟨b, off + j, none⟩ = some (byt (bs.getD j 0)) := by
  obtain ⟨A', c', he, h1, h2, h3, h4⟩ := h
  injection he with e1 e2 e3
  subst e1 e2
  obtain ⟨b, off, rfl, hs, _, hc⟩ := h4 hp
  refine ⟨b, off, rfl, hs, fun j hj => ?_⟩
  rw [hc j hj]
  simp [hj]

section
variable {Tb : World → Nat → Prop} (C : TabC Tb)
include C
set_option maxRecDepth 100000 in
set_option maxHeartbeats 1600000 in
theorem evens_short (x y z : Value) (xs ys zs : List UInt8) (S : Nat → Prop) (W : World) (hx : Byt W S x xs) (hy : Byt W S y ys) (hz : Byt W S z zs) (hS : ∀ b, S b → b < W.heap.size) (hl : xs.length ≤ 200) (hm : ys.length = xs.length) (hn : zs.length = xs.length) :
    Calls Try.prog 8 #[x, y, z] W fun e w' => e = .returned (.bool true) ∧ Below W.heap.size W w' := by
  obtain ⟨L, hL⟩ : ∃ L, L = xs.length := ⟨_, rfl⟩
  have hv : ∀ {u : Value} {us : List UInt8}, Byt W S u us → us.length = xs.length → ∃ A c, u = .slice A L c := fun h e => by obtain ⟨A, c, h, _⟩ := h; exact ⟨A, c, by rw [hL, ← e]; exact h⟩
  obtain ⟨A, c, rfl⟩ := hv hx rfl
  obtain ⟨D, d, rfl⟩ := hv hy hm
  obtain ⟨E, f, rfl⟩ := hv hz hn
  have HX := Lib.hid hx
  have HY := Lib.hid hy
  have HZ := Lib.hid hz
  have hL2 : L ≤ 200 := by omega
  have HLx := Lib.hid hL
  have HLy := Lib.hid hm
  have HLz := Lib.hid hn
  have hzz := run_zero_tab
  clear hx hy hz hL hl hm hn hv
  go_enter Try.func8, Try.ntmps8
  go_wp2_with (first
    | (go_at_call 9; refine (speaks_any C _).mono ?_; rintro e W1 ⟨rfl, o1⟩))
  have P0 := Lib.hid (Pk.start C W1)
  have hgW : Hid (W1.heap.size < (W1.alloc (.cells tabZero 38)).heap.size) := by simp [Hid]
  have OB : Hid (Only none_ W (W1.alloc (.cells tabZero 38))) := o1.alloc _
  have hWg : Hid (W.heap.size ≤ W1.heap.size) := o1.size
  have FX := Lib.hid (byt_low HX.out hS OB.out hWg.out)
  have FY := Lib.hid (byt_low HY.out hS OB.out hWg.out)
  have FZ := Lib.hid (byt_low HZ.out hS OB.out hWg.out)
  clear HX HY HZ
  generalize W1.alloc (.cells tabZero 38) = W2 at *
  generalize W1.heap.size = g at *
  clear o1
  obtain ⟨us, hus⟩ : ∃ us, us = List.zipWith (· ^^^ ·) (List.zipWith (· ^^^ ·) xs ys) zs := ⟨_, rfl⟩
  have HU := Lib.hid hus
  have HUl : Hid (us.length = L) := by rw [Hid, hus, HLx.out]; simp [HLy.out, HLz.out]
  have HJ : Hid (crcSum us = crcSum xs ^^^ crcSum ys ^^^ crcSum zs) := by rw [Hid, hus]; exact sum_xor3 xs ys zs HLy.out HLz.out
  obtain ⟨F, hF⟩ : ∃ F : Nat → UInt8, F = fun j => us.getD j 0 := ⟨_, rfl⟩
  have HF := Lib.hid hF
  have hat : ∀ k, k < L → F k = xs.getD k 0 ^^^ ys.getD k 0 ^^^ zs.getD k 0 := fun k hk => by
    have h1 : k < xs.length := by have := HLx.out; omega
    have h2 : k < ys.length := by have := HLy.out; omega
    have h3 : k < zs.length := by have := HLz.out; omega
    simp [hF, hus, List.getElem?_zipWith, h1, h2, h3]
  have HAT := Lib.hid hat
  clear hus hat hF
  have hmk := make_zeros F L (by omega) W2
  have B0 := Lib.hid (Blk.new W2 5 (fillArr F L 0))
  have PB := Lib.hid (Pk.alloc C P0.out (.cells (fillArr F L 0) 5))
  go_wp2_with fail
  have hgm : Hid (g < W2.heap.size) := hgW.out
  generalize W2.alloc (.cells (fillArr F L 0) 5) = W3 at *
  clear hmk
  go_loopw [37] (fun k wr => ∃ j : Nat, j ≤ L ∧ k = .int .i64 j ∧ Blk wr W2.heap.size 5 (fillArr F L j) ∧ Pk Tb W2 g wr) (fun k _ => L - (intOf k).toNat)
  case atStart => exact ⟨0, by omega, rfl, B0.out, PB.out⟩
  case round =>
    obtain ⟨k, hk, rfl, hb, hp⟩ := hrel
    have HB := Lib.hid hb
    have HP := Lib.hid hp
    by_cases hlt : k < L
    · obtain ⟨bx, ox, rfl, sx, cx⟩ := byt_pick (FX.out.only hp.ho (fun _ h e => by have := low_far h; exact this e)) (by omega)
      obtain ⟨by_, oy, rfl, sy, cy⟩ := byt_pick (FY.out.only hp.ho (fun _ h e => by have := low_far h; exact this e)) (by omega)
      obtain ⟨bz, oz, rfl, sz, cz⟩ := byt_pick (FZ.out.only hp.ho (fun _ h e => by have := low_far h; exact this e)) (by omega)
      have hcx := cx k hlt
      have hcy := cy k hlt
      have hcz := cz k hlt
      have hcm := hb.cell_ (fillArr_at F L k k hlt)
      rw [if_neg (by omega)] at hcm
      have hfm := hb.frozen k
      have hu := HAT.out k hlt
      obtain ⟨p, hpx⟩ : ∃ p, p = xs.getD k 0 := ⟨_, rfl⟩
      obtain ⟨q, hqx⟩ : ∃ q, q = ys.getD k 0 := ⟨_, rfl⟩
      obtain ⟨r, hrx⟩ : ∃ r, r = zs.getD k 0 := ⟨_, rfl⟩
      rw [← hpx] at hcx hu
      rw [← hqx] at hcy hu
      rw [← hrx] at hcz hu
      simp only [byt] at hcx hcy hcz
      have hp8 := p.toNat_lt
      have hq8 := q.toNat_lt
      have hr8 := r.toNat_lt
      have x1 := u8_xor_nat p.toNat q.toNat (by omega) (by omega)
      have x2 := u8_xor_nat (p.toNat ^^^ q.toNat) r.toNat (Nat.xor_lt_two_pow (n := 8) (by omega) (by omega)) (by omega)
      have HS : Hid (Value.int .u8 ((p.toNat ^^^ q.toNat ^^^ r.toNat : Nat) : Int) = byt (F k)) := by rw [Hid, hu]; simp [byt]
      clear hpx hqx hrx cx cy cz sx sy sz hu hb hp
      go_wp2_with fail
      go_still_tail 17, (by kernel_rfl)
      go_wp2_with fail
      refine ⟨⟨k + 1, by omega, by go_num, ?_, ?_⟩, by simp [intOf]; omega⟩
      · have := HB.out.drew.set_ k (.int .u8 ((p.toNat ^^^ q.toNat ^^^ r.toNat : Nat) : Int))
        rw [HS.out, fillArr_set F L k hlt] at this
        rw [HS.out]
        exact this
      · exact ⟨C.only HP.out.tb (((Only.refl (one W2.heap.size) wr).drew).setCell (.inl (show one W2.heap.size W2.heap.size from rfl)) _) (fun e => by have := hgm.out; simp only [one] at e; omega), HP.out.ho.drew.setCell (.inr (Nat.le_refl _)) _⟩
    · obtain rfl : k = L := by omega
      have HW : Hid (Byt wr (far g) (.slice (some ⟨W2.heap.size, 0, none⟩) k k) us) := (fillArr_byt HUl.out (by simp only [maxLen]; omega) (by rw [← HF.out]; exact hb)).mono (fun b _ hb e => by have := hgm.out; omega)
      have GX := Lib.hid ((FX.out.mono (T := far g) (fun _ _ h => low_far h)).only hp.ho (fun _ h e => h e))
      have GY := Lib.hid ((FY.out.mono (T := far g) (fun _ _ h => low_far h)).only hp.ho (fun _ h e => h e))
      have GZ := Lib.hid ((FZ.out.mono (T := far g) (fun _ _ h => low_far h)).only hp.ho (fun _ h e => h e))
      have x1 := u32_xor_nat (crcSum xs) (crcSum ys) (sum_lt _) (sum_lt _)
      have x2 := u32_xor_nat (crcSum xs ^^^ crcSum ys) (crcSum zs) (Nat.xor_lt_two_pow (n := 32) (sum_lt _) (sum_lt _)) (sum_lt _)
      have tok1 : True := trivial
      clear hb hp
      go_wp2_with (first
        | (go_at_call 12; have _t := tok1; refine (pkO_box C HP.out HW.out _ _ rfl).mono ?_; rintro e w3 ⟨rfl, p3, o3⟩; clear tok1; have tok2 : True := trivial
           rw [HJ.out]
           have P3 := Lib.hid p3
           have X3 := Lib.hid (GX.out.only o3 (fun _ h e => h e))
           have Y3 := Lib.hid (GY.out.only o3 (fun _ h e => h e))
           have Z3 := Lib.hid (GZ.out.only o3 (fun _ h e => h e)))
        | (go_at_call 12; have _t := tok2; refine (pkO_box C P3.out X3.out _ _ rfl).mono ?_; rintro e w4 ⟨rfl, p4, o4⟩; clear tok2; have tok3 : True := trivial
           have P4 := Lib.hid p4
           have Y4 := Lib.hid (Y3.out.only o4 (fun _ h e => h e))
           have Z4 := Lib.hid (Z3.out.only o4 (fun _ h e => h e)))
        | (go_at_call 12; have _t := tok3; refine (pkO_box C P4.out Y4.out _ _ rfl).mono ?_; rintro e w5 ⟨rfl, p5, o5⟩; clear tok3
           have P5 := Lib.hid p5
           have Z5 := Lib.hid (Z4.out.only o5 (fun _ h e => h e)))
        | (go_at_call 12; refine (pkO_box C P5.out Z5.out _ _ rfl).mono ?_; rintro e w6 ⟨rfl, p6, o6⟩))
      go_ret
      exact ⟨rfl, Pk.below p6 OB.out hWg.out⟩
theorem evens_long (x y z : Value) (A D E : Option Addr) (L c M d N f : Nat) (W : World) (hx : x = .slice A L c) (hy : y = .slice D M d) (hz : z = .slice E N f) (h : 200 < L ∨ M ≠ L ∨ N ≠ L) :
    Calls Try.prog 8 #[x, y, z] W fun e w' => e = .returned (.bool true) ∧ Below W.heap.size W w' := by
  subst hx hy hz
  have hor : (200 < L) ∨ (L ≤ 200 ∧ M ≠ L) ∨ (L ≤ 200 ∧ M = L ∧ N ≠ L) := by omega
  clear h
  rcases hor with h1 | ⟨h1, h2⟩ | ⟨h1, h2, h3⟩
  · have tok : True := trivial
    go_enter Try.func8, Try.ntmps8
    go_wp2_with (first
      | (go_at_call 9; have _t := tok; refine (speaks_any C _).mono ?_; rintro e W1 ⟨rfl, o1⟩; clear tok)
      | (go_at_call 9; refine (speaks_any C _).mono ?_; rintro e W2 ⟨rfl, o2⟩))
    go_ret
    exact ⟨rfl, (o1.trans o2).below (Nat.le_refl _) (fun k hk => hk.elim)⟩
  · have h2' : ((M : Int) != (L : Int)) = true := by simp; omega
    have tok : True := trivial
    clear h2
    go_enter Try.func8, Try.ntmps8
    go_wp2_with (first
      | (go_at_call 9; have _t := tok; refine (speaks_any C _).mono ?_; rintro e W1 ⟨rfl, o1⟩; clear tok)
      | (go_at_call 9; refine (speaks_any C _).mono ?_; rintro e W2 ⟨rfl, o2⟩))
    go_ret
    exact ⟨rfl, (o1.trans o2).below (Nat.le_refl _) (fun k hk => hk.elim)⟩
  · subst h2
    have h3' : ((N : Int) != (M : Int)) = true := by simp; omega
    have tok : True := trivial
    clear h3
    go_enter Try.func8, Try.ntmps8
    go_wp2_with (first
      | (go_at_call 9; have _t := tok; refine (speaks_any C _).mono ?_; rintro e W1 ⟨rfl, o1⟩; clear tok)
      | (go_at_call 9; refine (speaks_any C _).mono ?_; rintro e W2 ⟨rfl, o2⟩))
    go_ret
    exact ⟨rfl, (o1.trans o2).below (Nat.le_refl _) (fun k hk => hk.elim)⟩
end
end Go.Proofs.Ytimhedjbpjakkaa
