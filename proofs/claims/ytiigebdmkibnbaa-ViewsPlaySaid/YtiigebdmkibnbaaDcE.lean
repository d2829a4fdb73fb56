/- The document's dice: Draw, Pick, Without, Some, Same. No statement of the seat is proved here. -/
import Derived.Test.YtiigebdmkibnbaaDcC
import Derived.BigQuiet
import Derived.Deep.RegionLaw
namespace Go.Proofs.Ytiigebdmkibnbaa
open Go.RowKit
set_option linter.all false
set_option maxRecDepth 100000

/-- What the document's Draw tells. -/
def RdR (S : Nat → Prop) (zs : List Int) (n : Int) (w : World) (e : Ending) (w' : World) : Prop :=
  ∃ A L c, e = .returned (.tuple #[.slice A L c, .int .i64 (drN zs n)]) ∧ Nm w' S (.slice A L c) (drL zs n) ∧ Only none_ w w'

set_option maxHeartbeats 3200000 in
theorem rf_draw (X : Value) (zs : List Int) (n : Int) (S : Nat → Prop) (w : World) (hX : Nm w S X zs) (h1 : -9223372036854775808 ≤ n) (h2 : n ≤ 4611686018427387904) :
    Calls Try.prog 51 #[X, .int .i64 n] w fun e w' => RdR S zs n w e w' := by
  obtain ⟨i0, hi0, hz0, hz1, hz2⟩ := info_parts int_info
  obtain ⟨A, c, rfl⟩ := hX.shape
  obtain ⟨L, hL⟩ : ∃ L, zs.length = L := ⟨_, rfl⟩
  have F : Hid (Nm w S (.slice A L c) zs) := by rw [← hL]; exact hX
  rw [hL]
  by_cases hn : n < 1
  · have hd1 : decide (n < 1) = true := by simpa using hn
    have HN : Hid (drN zs n = 0 ∧ drL zs n = zs) := ⟨drN_low hn, drL_low hn⟩
    clear hX hL
    go_enter Try.func51, Try.ntmps51
    go_wp2_with fail
    go_ret2
    exact ⟨_, _, _, by rw [HN.out.1]; rfl, by rw [HN.out.2]; exact F.out, Only.refl _ _⟩
  · have hd1 : decide (n < 1) = false := by simpa using hn
    cases zs with
    | nil =>
      have hL0 : L = 0 := by rw [← hL]; rfl
      subst hL0
      have HN : Hid (drN [] n = 0 ∧ drL [] n = []) := ⟨drN_nil n, drL_nil n⟩
      clear hX hL
      go_enter Try.func51, Try.ntmps51
      go_wp2_with fail
      go_ret2
      exact ⟨_, _, _, by rw [HN.out.1]; rfl, by rw [HN.out.2]; exact F.out, Only.refl _ _⟩
    | cons z zs =>
      have hL1 : 0 < L := by rw [← hL]; simp
      have hLi : (0 : Int) < (L : Int) := by omega
      have hLn : ¬ ((L : Int) = 0) := by omega
      have hLn2 : ¬ (L = 0) := by omega
      have HN : Hid (drN (z :: zs) n = z % n ∧ drL (z :: zs) n = zs) := ⟨drN_cons (by omega), drL_cons (by omega)⟩
      obtain ⟨b, off, hA, _, hbl, hc0⟩ := nm_at F.out (j := 0) (z := z) rfl
      subst hA
      rw [Nat.add_zero] at hc0
      obtain ⟨A1, L1, c1, hsl, hn1⟩ := nm_lo Try.underlying22 hi0 hz1 F.out 1 (by omega) (1 : Int) rfl
      have hn1' : Nm w S (.slice A1 L1 c1) zs := by simpa using hn1
      have R1 := Lib.hid hn1'
      clear hn1'
      have hnz : n ≠ 0 := by omega
      have hr2 := tmod_64 (z := z) (n := n) (by omega)
      have hr3 := tmod_two (z := z) (n := n) (by omega)
      have hr4 := Int.emod_nonneg z (show n ≠ 0 by omega)
      have hr5 := Int.emod_lt_of_pos z (show 0 < n by omega)
      obtain ⟨r, hr⟩ : ∃ r, Int.tmod z n = r := ⟨_, rfl⟩
      rw [hr] at hr2 hr3
      obtain ⟨q, hq⟩ : ∃ q, z % n = q := ⟨_, rfl⟩
      rw [hq] at hr3 hr4 hr5
      have hwr : IntKind.i64.wrap r = r := IntWalk.i64_in _ (by omega)
      obtain ⟨s, hs⟩ : ∃ s, r + n = s := ⟨_, rfl⟩
      rw [hs] at hr3
      have hws : IntKind.i64.wrap (r + n) = s := by rw [← hs]; exact IntWalk.i64_in _ (by omega)
      have hwq : IntKind.i64.wrap q = q := IntWalk.i64_in _ (by omega)
      have HQ := Lib.hid hq
      clear hX hL hn1 hs hq
      go_enter Try.func51, Try.ntmps51
      go_wp2_with fail
      go_quiet (fail)
      go_wp2_with fail
      go_ret2
      exact ⟨_, _, _, by rw [HN.out.1, HQ.out]; rfl, by rw [HN.out.2]; exact R1.out, (Only.refl none_ w).drewN _⟩

set_option maxHeartbeats 3200000 in
theorem rf_pick (X Y : Value) (zs ys : List Int) (S T : Nat → Prop) (w : World) (hX : Nm w S X zs) (hY : Nm w T Y ys) (hl : ys.length ≤ 100000) :
    Calls Try.prog 42 #[X, Y] w fun e w' => ∃ A L c, e = .returned (.tuple #[.slice A L c, .int .i64 (pkN zs ys), .bool (!ys.isEmpty)]) ∧ Nm w' S (.slice A L c) (pkL zs ys) ∧ Only none_ w w' := by
  obtain ⟨A, c, rfl⟩ := hX.shape
  obtain ⟨A2, c2, rfl⟩ := hY.shape
  obtain ⟨L0, hL0⟩ : ∃ L0, zs.length = L0 := ⟨_, rfl⟩
  have F : Hid (Nm w S (.slice A L0 c) zs) := by rw [← hL0]; exact hX
  rw [hL0]
  by_cases hy : ys = []
  · subst hy
    have HN : Hid (pkN zs [] = 0 ∧ pkL zs [] = zs) := ⟨rfl, if_pos rfl⟩
    clear hX hY hL0
    go_enter Try.func42, Try.ntmps42
    go_wp2_with fail
    go_ret3
    exact ⟨_, _, _, by rw [HN.out.1]; rfl, by rw [HN.out.2]; exact F.out, Only.refl _ _⟩
  · obtain ⟨L, hL⟩ : ∃ L, ys.length = L := ⟨_, rfl⟩
    have hLp : 0 < L := by rw [← hL]; exact List.length_pos_iff.2 hy
    have hb : (!ys.isEmpty) = true := by simpa [List.isEmpty_iff] using hy
    have hd := drN_pos (zs := zs) (n := (L : Int)) (by omega)
    obtain ⟨i, hi⟩ : ∃ i, (drN zs L).toNat = i := ⟨_, rfl⟩
    have hiz : drN zs L = (i : Int) := by omega
    obtain ⟨x, hx⟩ : ∃ x, ys[i]? = some x := ⟨_, List.getElem?_eq_getElem (by omega)⟩
    obtain ⟨b, off, hA, hSb, hbl, hcx⟩ := nm_at hY hx
    subst hA
    have HN : Hid (pkN zs ys = x ∧ pkL zs ys = drL zs L) := ⟨by rw [pkN, hL, hi, List.getD_eq_getElem?_getD, hx]; rfl, by rw [pkL, if_neg hy, hL]⟩
    have HI := Lib.hid hiz
    have HD : Hid (Calls Try.prog 51 #[.slice A L0 c, .int .i64 L] w fun e w' => RdR S zs L w e w') := rf_draw _ zs (L : Int) S w F.out (by omega) (by omega)
    have hii : (i : Int) < (L : Int) := by omega
    rw [hb, hL]
    have hL00 : ¬ ((L : Int) = 0) := by omega
    have hL01 : ¬ (L = 0) := by omega
    clear hX hY hy hd hi hiz hx hL hb hL0 F
    go_enter Try.func42, Try.ntmps42
    go_wp2_with (first
      | (go_at_call 51; refine HD.out.mono ?_; rintro E w1 ⟨A1, L1, c1, rfl, n1, o1⟩
         rw [HI.out]
         have cx1 := (o1.cell (p := ⟨b, off + i, none⟩) hbl (fun e => e)).trans hcx
         have R : Hid (Nm w1 S (.slice A1 L1 c1) (drL zs L) ∧ Only none_ w w1) := ⟨n1, o1⟩
         clear n1 o1))
    go_quiet (fail)
    go_wp2_with fail
    go_ret3
    exact ⟨_, _, _, by rw [HN.out.1]; rfl, by rw [HN.out.2]; exact R.out.1, R.out.2.drewN _⟩

end Go.Proofs.Ytiigebdmkibnbaa
