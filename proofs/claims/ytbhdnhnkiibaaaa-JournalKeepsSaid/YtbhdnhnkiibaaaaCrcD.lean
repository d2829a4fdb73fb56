/- What More, Of and Join of package crc's table do. No statement of the seat is proved here. -/
import Derived.Test.YtbhdnhnkiibaaaaCrcC
namespace Go.Proofs.Ytbhdnhnkiibaaaa
open Go.RowKit
attribute [local go_sem ↓] Go.wp_at_zero Go.wp_at_succ

theorem xor_small (u z : Nat) (hz : z < 256) : cstN 8 (u ^^^ z) = u / 256 ^^^ cstN 8 (u % 256 ^^^ z) := by
  rw [cstN_row, xor_div256, xor_mod256, show z / 256 = 0 from by omega, show z % 256 = z from by omega, Nat.xor_zero]

theorem u32_turn (s : Nat) (hs : s < 4294967296) : bits .xor .u32 IntKind.u32.max (s : Int) = ((4294967295 ^^^ s : Nat) : Int) :=
  u32_xor_nat 4294967295 s (by omega) hs
set_option maxHeartbeats 400000 in
theorem tab_more {tt : TypeId} (g : Nat) (S : Nat → Prop) (s : Nat) (x : Value) (bs : List UInt8) (w : World) (h : Tab tt w g) (hs : s < 4294967296) (hx : Byt w S x bs) (hS : ∀ b, S b → b ≠ g) :
    Calls Try.prog 109 #[.pointer (some ⟨g, 0, none⟩), .int .u32 (s : Int), x] w fun e w' => e = .returned (.int .u32 (crcMore s bs : Nat)) ∧ Tab tt w' g ∧ Only (one g) w w' := by
  have hv : ∃ A L c, L = bs.length ∧ x = .slice A L c := by obtain ⟨A, c, h, _⟩ := hx; exact ⟨A, _, c, rfl, h⟩
  obtain ⟨A, L, c, hL, rfl⟩ := hv
  have hLm : L ≤ 9223372036854775807 := by obtain ⟨_, c', he, h1, h2, _⟩ := hx; simp only [maxLen] at h2; omega
  have ht := u32_turn s hs
  have hF : 4294967295 ^^^ s < 4294967296 := Nat.xor_lt_two_pow (n := 32) (by omega) hs
  have HM : Hid (crcMore s bs = 4294967295 ^^^ crcRun (4294967295 ^^^ s) bs) := rfl
  have HL := Lib.hid hL
  have HX := Lib.hid hx
  have HD := made_any g w h
  obtain ⟨f, hf⟩ : ∃ f, f = 4294967295 ^^^ s := ⟨_, rfl⟩
  rw [← hf] at hF HM ht
  clear hx hL h hf
  go_enter Try.func109, Try.ntmps109
  go_wp2_with (go_at_call 114; refine HD.mono ?_; rintro e w1 ⟨rfl, t1, o1⟩
               have HT := Lib.hid t1
               have HO := Lib.hid o1
               clear t1 o1)
  go_loop [8, 17] (fun x k => ∃ j : Nat, j ≤ L ∧ k = .int .i64 j ∧ x = .int .u32 (crcRun f (bs.take j) : Nat)) (fun _ k => L - (intOf k).toNat)
  case atStart => exact ⟨0, by omega, rfl, rfl⟩
  case round =>
    obtain ⟨j, hj, rfl, rfl⟩ := hrel
    have hu := run_lt (bs.take j) hF
    by_cases hlb : j < L
    · have hlB : j < bs.length := by have := HL.out; omega
      have hs := run_snoc (bs.take j) bs[j] f
      rw [List.take_append_getElem hlB] at hs
      obtain ⟨A', c', he, _, _, _, h4⟩ := (HX.out.only HO.out hS)
      obtain ⟨b, off, rfl, _, _, hc⟩ := h4 (by omega)
      injection he with he
      subst he
      have hcj := hc j hlB
      obtain ⟨z, hz⟩ : ∃ z, z = bs[j] := ⟨_, rfl⟩
      obtain ⟨u, hue⟩ : ∃ u, u = crcRun f (bs.take j) := ⟨_, rfl⟩
      rw [← hz] at hs hcj
      rw [← hue] at hs hu ⊢
      have hz8 := z.toNat_lt
      rw [xor_small u z.toNat (by omega)] at hs
      have HS := Lib.hid hs
      have hx8 : bits .xor .u8 ((u : Int) % 256) (z.toNat : Int) = ((u % 256 ^^^ z.toNat : Nat) : Int) := u8_xor_nat (u % 256) z.toNat (by omega) (by omega)
      have hr8 : u % 256 ^^^ z.toNat < 256 := Nat.xor_lt_two_pow (n := 8) (by omega) (by omega)
      obtain ⟨r, hr⟩ : ∃ r, r = u % 256 ^^^ z.toNat := ⟨_, rfl⟩
      rw [← hr] at hs hx8 hr8 HS
      have hrow := Blk.cell_ (t := tt) HT.out (rowCells_row 1 0 256 r hr8)
      have hrow0 := Blk.cell_ (t := tt) HT.out (rowCells_row 1 0 256 0 (by omega))
      rw [if_pos (by omega)] at hrow hrow0
      have hx32 : bits .xor .u32 ((u : Int) / 256) ((cstN 8 r : Nat) : Int) = ((u / 256 ^^^ cstN 8 r : Nat) : Int) := u32_xor_nat (u / 256) (cstN 8 r) (by omega) (cstN_lt 8 (by omega))
      simp only [byt] at hcj
      clear hs hue hz hc hr h4
      go_wp2_with fail
      exact ⟨⟨j + 1, by omega, by go_num, by rw [HS.out]⟩, by simp [intOf]; omega⟩
    · have hjL : bs.take j = bs := List.take_of_length_le (by have := HL.out; omega)
      rw [hjL] at hu ⊢
      have ht2 := u32_turn _ hu
      clear hjL
      go_wp2
      go_ret
      rw [HM.out]
      exact ⟨rfl, HT.out.tab, HO.out⟩

set_option maxHeartbeats 400000 in
theorem tab_of {tt : TypeId} (g : Nat) (S : Nat → Prop) (pv : Value) (pss : List (List UInt8)) (w : World) (h : Tab tt w g) (hp : Rows_ w S pv pss) (hS : ∀ b, S b → b ≠ g) :
    Calls Try.prog 100 #[.pointer (some ⟨g, 0, none⟩), pv] w fun e w' => e = .returned (.int .u32 (crcSum pss.flatten : Nat)) ∧ Tab tt w' g ∧ Only (one g) w w' := by
  obtain ⟨A, c, rfl, hm, hc⟩ := hp
  obtain ⟨L, hL⟩ : ∃ L, L = pss.length := ⟨_, rfl⟩
  have hLm : L ≤ 9223372036854775807 := by simp only [maxLen] at hm; omega
  have HL := Lib.hid hL
  have HC := Lib.hid hc
  have HT := Lib.hid h
  rw [← hL]
  clear hm hc hL h
  go_enter Try.func100, Try.ntmps100
  go_wp2
  go_loopw [5, 10] (fun x k wr => ∃ j : Nat, j ≤ L ∧ k = .int .i64 j ∧ x = .int .u32 (crcSum (pss.take j).flatten : Nat) ∧ Tab tt wr g ∧ Only (one g) w wr) (fun _ k _ => L - (intOf k).toNat)
  case atStart => exact ⟨0, by omega, rfl, by rw [List.take_zero, List.flatten_nil, sum_nil]; rfl, HT.out, Only.refl _ _⟩
  case round =>
    obtain ⟨j, hj, rfl, rfl, ht, ho⟩ := hrel
    have hu := sum_lt (pss.take j).flatten
    by_cases hlb : j < L
    · have hlB : j < pss.length := by have := HL.out; omega
      obtain ⟨b, off, rfl, hSb, hbw, hc⟩ := HC.out (by omega)
      obtain ⟨x, hcx, hbx⟩ := hc j hlB
      have hs : Hid (crcSum (pss.take (j + 1)).flatten = crcMore (crcSum (pss.take j).flatten) pss[j]) := by
        rw [Hid, ← sum_append, ← List.take_append_getElem hlB, List.flatten_append, List.flatten_cons, List.flatten_nil, List.append_nil]
      have hcj := (ho.cell (p := ⟨b, off + j, none⟩) hbw (hS _ hSb)).trans hcx
      have HM := tab_more g S (crcSum (pss.take j).flatten) x pss[j] _ ht hu (hbx.only ho hS) hS
      have HO := Lib.hid ho
      rw [← hs.out] at HM
      clear hc hcx hbx ht ho hs
      go_wp2_with (go_at_call 109; refine HM.mono ?_; rintro e w2 ⟨rfl, t2, o2⟩)
      go_roundw
      case rel => exact ⟨j + 1, by omega, by go_num, rfl, t2, HO.out.trans o2⟩
      case measure => simp [intOf]; omega
    · have hjL : Hid (pss.take j = pss) := List.take_of_length_le (by have := HL.out; omega)
      have HO := Lib.hid ho
      have HT2 := Lib.hid ht
      clear ho ht
      go_wp2
      go_ret
      rw [hjL.out]
      exact ⟨rfl, HT2.out, HO.out⟩
end Go.Proofs.Ytbhdnhnkiibaaaa
