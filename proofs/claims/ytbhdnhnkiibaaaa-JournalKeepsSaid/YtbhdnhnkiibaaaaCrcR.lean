/- What the document's own calls of layer 2 give. No statement of the seat is proved here. -/
import Derived.Test.YtbhdnhnkiibaaaaChecked
import Derived.Test.YtbhdnhnkiibaaaaCrcM
import Derived.Test.YtbhdnhnkiibaaaaByt
import Derived.Laws.BitsAllLaws
import Derived.Deep.LoopGhost
import Derived.Deep.RegionHeld3
import Derived.Deep.DrawnRows
import Derived.Deep.QuietTactic
import Derived.BigQuiet
import Derived.Test.YtbhdnhnkiibaaaaPhase
namespace Go.Proofs.Ytbhdnhnkiibaaaa
open Go.RowKit
attribute [local go_sem ↓] Go.wp_at_zero Go.wp_at_succ

theorem cstN_succ : ∀ n v, cstN (n + 1) v = cst (cstN n v)
  | 0, _ => rfl
  | n + 1, v => cstN_succ n (cst v)

/-- One move as the walk meets it. -/
theorem cst_odd {u : Nat} (hu : u < 4294967296) (h : u % 2 = 1) : bits .xor .u32 ((u : Int) / 2) 3988292384 = ((cst u : Nat) : Int) := by
  have := u32_xor_nat (u / 2) 3988292384 (by omega) (by omega)
  rw [cst, if_pos h, ← this]
  rfl
theorem cst_even {u : Nat} (h : ¬ u % 2 = 1) : (u : Int) / 2 = ((cst u : Nat) : Int) := by
  rw [cst, if_neg h]
  rfl

theorem moved_any (v : Nat) (hv : v < 4294967296) (w : World) :
    Calls Try.prog 111 #[.int .u32 (v : Int)] w fun e w' => e = .returned (.int .u32 (cstN 8 v : Nat)) ∧ w = w' := by
  go_enter Try.func111, Try.ntmps111
  go_wp2
  go_loop [0, 3] (fun x k => ∃ j : Nat, j ≤ 8 ∧ k = .int .i64 j ∧ x = .int .u32 (cstN j v : Nat)) (fun _ k => 8 - (intOf k).toNat)
  case atStart => exact ⟨0, by omega, rfl, rfl⟩
  case round =>
    obtain ⟨j, hj, rfl, rfl⟩ := hrel
    have hs := cstN_succ j v
    have hu := cstN_lt j hv
    by_cases h8 : j < 8
    · obtain ⟨u, hue⟩ : ∃ u, u = cstN j v := ⟨_, rfl⟩
      rw [← hue] at hs hu ⊢
      have HS := Lib.hid hs
      clear hs hue
      by_cases h : u % 2 = 1
      · have hq : ((u : Int) % 2 == 1) = true := by have : (u : Int) % 2 = 1 := by omega
                                                    simp [this]
        have hx := cst_odd hu h
        clear h
        go_wp2
        go_round
        case rel => exact ⟨j + 1, by omega, by go_num, by rw [HS.out]⟩
        case measure => simp [intOf]; omega
      · have hq : ((u : Int) % 2 == 1) = false := by have : (u : Int) % 2 = 0 := by omega
                                                     simp [this]
        have hx := cst_even h
        clear h
        go_wp2
        go_round
        case rel => exact ⟨j + 1, by omega, by go_num, by rw [HS.out, ← hx]⟩
        case measure => simp [intOf]; omega
    · obtain rfl : j = 8 := by omega
      go_wp2
      go_ret
      exact ⟨rfl, rfl⟩
theorem turned_any (v : Nat) (hv : v < 4294967296) (w : World) :
    Calls Try.prog 110 #[.int .u32 (v : Int)] w fun e w' => e = .returned (.int .u32 (4294967295 ^^^ v : Nat)) ∧ w = w' := by
  have h : (4294967295 : Int) - (v : Int) = ((4294967295 - v : Nat) : Int) := by omega
  have HF := Lib.hid (flip32 v hv)
  go_enter Try.func110, Try.ntmps110
  go_wp2
  go_ret
  rw [← HF.out]
  exact ⟨rfl, rfl⟩
theorem refMore_any (s : Nat) (hs : s < 4294967296) (x : Value) (bs : List UInt8) (S : Nat → Prop) (w : World) (hx : Byt w S x bs) :
    Calls Try.prog 104 #[.int .u32 (s : Int), x] w fun e w' => e = .returned (.int .u32 (crcMore s bs : Nat)) ∧ w = w' := by
  obtain ⟨A, c, rfl, h1, h2, h3, h4⟩ := hx
  have hF : 4294967295 ^^^ s < 4294967296 := Nat.xor_lt_two_pow (n := 32) (by omega) hs
  have HM : Hid (crcMore s bs = 4294967295 ^^^ crcRun (4294967295 ^^^ s) bs) := rfl
  obtain ⟨f, hf⟩ : ∃ f, f = 4294967295 ^^^ s := ⟨_, rfl⟩
  have HT := turned_any s hs
  rw [← hf] at hF HM HT
  have HB := Lib.hid h4
  simp only [maxLen] at h2
  have hL : bs.length ≤ 9223372036854775807 := Nat.le_trans h1 h2
  clear h1 h2 h3 h4 hf
  go_enter Try.func104, Try.ntmps104
  go_wp2_with (go_at_call 110; refine (HT _).mono ?_; rintro e w' ⟨rfl, rfl⟩)
  go_loop [5, 6] (fun x k => ∃ j : Nat, j ≤ bs.length ∧ k = .int .i64 j ∧ x = .int .u32 (crcRun f (bs.take j) : Nat)) (fun _ k => bs.length - (intOf k).toNat)
  case atStart => exact ⟨0, by omega, rfl, rfl⟩
  case round =>
    obtain ⟨j, hj, rfl, rfl⟩ := hrel
    have hu := run_lt (bs.take j) hF
    by_cases hlb : j < bs.length
    · have hlt : (j : Int) < (bs.length : Int) := by omega
      have hs := run_snoc (bs.take j) bs[j] f
      rw [List.take_append_getElem hlb] at hs
      obtain ⟨b, off, rfl, _, _, hc⟩ := HB.out (by omega)
      have hcj := hc j hlb
      obtain ⟨z, hz⟩ : ∃ z, z = bs[j] := ⟨_, rfl⟩
      obtain ⟨u, hue⟩ : ∃ u, u = crcRun f (bs.take j) := ⟨_, rfl⟩
      rw [← hz] at hs hcj
      rw [← hue] at hs hu ⊢
      have HS := Lib.hid hs
      have hz8 := z.toNat_lt
      have hxx := u32_xor_nat u z.toNat hu (by omega)
      have hux : u ^^^ z.toNat < 4294967296 := Nat.xor_lt_two_pow (n := 32) hu (by omega)
      simp only [byt] at hcj
      clear hs hue hz hc
      go_wp2_with (go_at_call 111; refine (moved_any _ hux _).mono ?_; rintro e w' ⟨rfl, rfl⟩)
      go_round
      case rel => exact ⟨j + 1, by omega, by go_num, by rw [HS.out]⟩
      case measure => simp [intOf]; omega
    · have hjL : bs.take j = bs := List.take_of_length_le (by omega)
      rw [hjL] at hu ⊢
      clear hjL
      go_wp2_with (go_at_call 110; refine (turned_any _ hu _).mono ?_; rintro e w' ⟨rfl, rfl⟩)
      go_ret
      rw [HM.out]
      exact ⟨rfl, rfl⟩
theorem refSum_any (x : Value) (bs : List UInt8) (S : Nat → Prop) (w : World) (hx : Byt w S x bs) :
    Calls Try.prog 90 #[x] w fun e w' => e = .returned (.int .u32 (crcSum bs : Nat)) ∧ w = w' := by
  go_enter Try.func90, Try.ntmps90
  go_wp2_with (go_at_call 104; refine (refMore_any 0 (by omega) x bs S _ hx).mono ?_; rintro e w' ⟨rfl, rfl⟩)
  go_ret
  exact ⟨rfl, rfl⟩
theorem refLow_any (s : Nat) (hs : s < 4294967296) (w : World) :
    Calls Try.prog 89 #[.int .u32 (s : Int)] w fun e w' => ∃ A c, e = .returned (.slice A 4 c) ∧ w'.ownsRow w.heap.size 5 1 (.slice A 4 c) 4 (byts (lowB s)) ∧ Only none_ w w' := by
  go_enter Try.func89, Try.ntmps89
  go_wp2
  go_ret
  have hb : ∀ n : Nat, n < 256 → Value.int .u8 (n : Int) = byt (UInt8.ofNat n) := fun n h => by
    unfold byt
    rw [UInt8.toNat_ofNat']
    congr 1
    omega
  have e0 : Value.int .u8 ((s : Int) % 256) = byt (UInt8.ofNat (s % 256)) := hb (s % 256) (by omega)
  have e1 : Value.int .u8 ((s : Int) / 256 % 256) = byt (UInt8.ofNat (s / 256 % 256)) := hb (s / 256 % 256) (by omega)
  have e2 : Value.int .u8 ((s : Int) / 65536 % 256) = byt (UInt8.ofNat (s / 65536 % 256)) := hb (s / 65536 % 256) (by omega)
  have e3 : Value.int .u8 ((s : Int) / 16777216) = byt (UInt8.ofNat (s / 16777216)) := hb (s / 16777216) (by omega)
  rw [e0, e1, e2, e3]
  exact ⟨_, _, rfl, World.ownsRow_lit (e := 5) (size := 1) w #[byt (UInt8.ofNat (s % 256)), byt (UInt8.ofNat (s / 256 % 256)), byt (UInt8.ofNat (s / 65536 % 256)), byt (UInt8.ofNat (s / 16777216))] 4 (Nat.le_refl _) (by simp [maxLen]) rfl, (Only.refl none_ w).alloc _⟩
theorem refMark_any (x : Value) (bs : List UInt8) (S : Nat → Prop) (w : World) (hx : Byt w S x bs) (hl : bs.length ≤ 1000000) :
    Calls Try.prog 75 #[x] w fun e w' => ∃ A n c, e = .returned (.slice A n c) ∧ w'.ownsRow w.heap.size 5 1 (.slice A n c) (crcMark bs).length (byts (crcMark bs)) ∧ Only none_ w w' := by
  have hv : ∃ A L c, x = .slice A L c := by obtain ⟨A, c, h, _⟩ := hx; exact ⟨A, _, c, h⟩
  obtain ⟨A, L, c, rfl⟩ := hv
  have H1 := Lib.hid (hx.alloc (.cells #[] 5))
  have H0 : Hid (Byt w (fun k => S k ∧ k < w.heap.size) (.slice A L c) bs) := hx.mono (fun k hk hs => ⟨hs, hk⟩)
  have O1 := Lib.hid ((Only.refl none_ w).alloc (.cells #[] 5))
  have X1 : Hid ((w.alloc (.cells #[] 5)).ownsRow w.heap.size 5 1 (.slice (some ⟨w.heap.size, 0, none⟩) 0 0) ([] : List UInt8).length (byts [])) := by
    have := World.ownsRow_made (base := w.heap.size) (e := 5) (size := 1) w #[] 0 (by simp) (by simp [maxLen]) rfl
    simpa [byts, Hid] using this
  obtain ⟨i0, hi0, hz0, hz1, hz2⟩ := info_parts u8_info
  have hc1 : ([] : List UInt8).length + bs.length ≤ 140737488355328 := by simp; omega
  have hc2 : ([] ++ bs : List UInt8).length + (lowB (crcSum bs)).length ≤ 140737488355328 := by simp [low_len]; omega
  have hS := sum_lt bs
  have HM : Hid (crcMark bs = [] ++ bs ++ lowB (crcSum bs)) := rfl
  have hsz : w.heap.size ≤ (w.alloc (.cells #[] 5)).heap.size := by simp
  clear hx hl
  go_enter Try.func75, Try.ntmps75
  go_wp2_with (first
    | (at_builtin; refine wpList_append_byt _ rfl (.tmp 3) (.tmp 4) _ rfl w.heap.size 5 i0 (.int .u8 0) Try.underlying71 hi0 hz0 hz1 hz2 rfl (.slice (some ⟨w.heap.size, 0, none⟩) 0 0) [] rfl X1.out _ _ bs rfl H1.out hc1 hsz ?_
       intro A2 n2 c2 W2 hown2 hgrow2 hmv2
       have X2 := Lib.hid hown2
       have O2 : Hid (Only none_ w W2) := O1.out.grown hgrow2 (fun k hk => .inr (by simp [Value.ownBlock] at hk; omega))
       have H2 : Hid (Byt W2 (fun k => S k ∧ k < w.heap.size) (.slice A L c) bs) := (H0.out.only O2.out (fun _ _ h => h))
       clear hown2 hgrow2 hmv2)
    | (go_at_call 90; refine (refSum_any _ bs _ _ H2.out).mono ?_; rintro e w' ⟨rfl, rfl⟩)
    | (go_at_call 89; refine (refLow_any _ hS _).mono ?_; rintro e W3 ⟨A3, c3, rfl, h3, o3⟩
       have X3 := Lib.hid (owns_only X2.out o3 (fun _ _ h => h))
       have B3 := Lib.hid (Byt.of_own (n := 4) h3)
       have O3 := Lib.hid (O2.out.trans o3)
       have hsz3 : w.heap.size ≤ W3.heap.size := O3.out.size
       clear h3 o3)
    | (at_builtin; refine wpList_append_byt _ rfl (.tmp 5) (.tmp 8) _ rfl w.heap.size 5 i0 (.int .u8 0) Try.underlying71 hi0 hz0 hz1 hz2 rfl _ _ rfl X3.out _ _ _ rfl B3.out hc2 hsz3 ?_
       intro A4 n4 c4 W4 hown4 hgrow4 hmv4
       have O4 : Hid (Only none_ w W4) := O3.out.grown hgrow4 (fun k hk => .inr (X3.out.lt k hk).1)
       clear hmv4 hgrow4))
  go_ret
  exact ⟨_, _, _, rfl, by rw [HM.out]; exact hown4, O4.out⟩
end Go.Proofs.Ytbhdnhnkiibaaaa
