/- The document's Same and Some of dice. No statement of the seat is proved here. -/
import Derived.Test.YtiigebdmkibnbaaDcE
namespace Go.Proofs.Ytiigebdmkibnbaa
open Go.RowKit
set_option linter.all false
set_option maxRecDepth 100000

set_option maxHeartbeats 3200000 in
theorem rf_same (X Y : Value) (xs ys : List Int) (S T : Nat → Prop) (w : World) (hX : Nm w S X xs) (hY : Nm w T Y ys) :
    Calls Try.prog 29 #[X, Y] w fun e w' => e = .returned (.bool (decide (xs = ys))) ∧ Only none_ w w' := by
  obtain ⟨A, c, rfl⟩ := hX.shape
  obtain ⟨A2, c2, rfl⟩ := hY.shape
  have hmx : xs.length ≤ maxLen := by obtain ⟨A', c', e, _, h1, h2, _⟩ := hX; omega
  by_cases hl : xs.length = ys.length
  · obtain ⟨L, hL⟩ : ∃ L, xs.length = L := ⟨_, rfl⟩
    have hL2 : ys.length = L := by omega
    rw [hL] at hmx
    have HX : Hid (Nm w S (.slice A L c) xs) := by rw [← hL]; exact hX
    have HY : Hid (Nm w T (.slice A2 L c2) ys) := by rw [← hL2]; exact hY
    have HL := Lib.hid hL
    have HL2 := Lib.hid hL2
    have hLm : L ≤ 9223372036854775807 := by simp only [maxLen] at hmx; omega
    rw [hL, hL2]
    have O0 := Lib.hid (Only.refl none_ w)
    clear hX hY hl hL hL2 hmx
    go_enter Try.func29, Try.ntmps29
    go_wp2_with fail
    go_loopw [5] (fun i wr => ∃ k : Nat, k ≤ L ∧ i = .int .i64 (k : Int) ∧ xs.take k = ys.take k ∧ Only none_ w wr) (fun i _ => L - (intOf i).toNat)
    case atStart => exact ⟨0, Nat.zero_le _, rfl, rfl, O0.out⟩
    case round =>
      obtain ⟨k, hk, rfl, htk, ho⟩ := hrel
      have HW := Lib.hid ho
      have HT := Lib.hid htk
      clear ho htk
      by_cases hlt : k < L
      · obtain ⟨x, hx⟩ : ∃ x, xs[k]? = some x := ⟨_, List.getElem?_eq_getElem (by have := HL.out; omega)⟩
        obtain ⟨y, hy⟩ : ∃ y, ys[k]? = some y := ⟨_, List.getElem?_eq_getElem (by have := HL2.out; omega)⟩
        obtain ⟨b, off, hA, _, _, hcx⟩ := nm_at (HX.out.keep HW.out) hx
        obtain ⟨b2, off2, hA2, _, _, hcy⟩ := nm_at (HY.out.keep HW.out) hy
        subst hA hA2
        have hki : (k : Int) < (L : Int) := by omega
        by_cases hxy : x = y
        · subst hxy
          have HS : Hid (xs.take (k + 1) = ys.take (k + 1)) := by
            rw [Hid, List.take_add_one, List.take_add_one, HT.out, hx, hy]
          clear hx hy
          go_wp2_with fail
          go_quiet (fail)
          go_wp2_with fail
          go_roundw
          case rel => exact ⟨k + 1, by omega, by go_num, HS.out, by first | exact HW.out | exact HW.out.drew | exact HW.out.drewN _⟩
          case measure => simp [intOf]; omega
        · have HF : Hid (decide (xs = ys) = false) := by
            rw [Hid, decide_eq_false_iff_not]
            intro e
            rw [e, hy] at hx
            injection hx with hx
            exact hxy hx.symm
          have hne : decide (x = y) = false := by simpa using hxy
          have hne2 : ¬ (x = y) := hxy
          clear hx hy
          go_wp2_with fail
          go_quiet (fail)
          go_wp2_with fail
          go_ret
          exact ⟨by rw [HF.out]; rfl, by first | exact HW.out | exact HW.out.drew | exact HW.out.drewN _⟩
      · obtain rfl : k = L := by omega
        have HF : Hid (decide (xs = ys) = true) := by
          rw [Hid, decide_eq_true_eq]
          have := HT.out
          rwa [← HL.out, List.take_length, HL.out, ← HL2.out, List.take_length] at this
        go_wp2_with fail
        go_ret
        exact ⟨by rw [HF.out]; rfl, HW.out⟩
  · have HF : Hid (decide (xs = ys) = false) := by
      rw [Hid, decide_eq_false_iff_not]
      intro e
      exact hl (by rw [e])
    have h1 : ¬ ((xs.length : Int) = (ys.length : Int)) := by omega
    generalize xs.length = L1 at h1 hl ⊢
    generalize ys.length = L2 at h1 hl ⊢
    clear hX hY hmx
    go_enter Try.func29, Try.ntmps29
    go_wp2_with fail
    go_ret
    exact ⟨by rw [HF.out]; rfl, Only.refl _ _⟩

def slen : Value → Nat
  | .slice _ n _ => n
  | _ => 0
/-- What holds ahead of a round of the document's Some. -/
structure Rs14 (w : World) (S : Nat → Prop) (zs ys : List Int) (j : Nat) (l of_ out : Value) (wr : World) : Prop where
  l : Nm wr (fun b => S b ∧ b < w.heap.size) l (sqN zs ys j).l
  r : Nm wr (fun b => ¬ ownb out b) of_ (sqN zs ys j).rest
  ow : wr.ownsRow w.heap.size 3 1 out j (nums (sqN zs ys j).out)
  ho : Only none_ w wr

end Go.Proofs.Ytiigebdmkibnbaa
