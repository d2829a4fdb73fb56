/- Whether rows of bytes are few, and short; rows appended to a list of the call's own. No statement of the seat is proved here. -/
import Derived.Test.YtbhdnhnkiibaaaaJnA
import Derived.Test.YtbhdnhnkiibaaaaJnL
import Derived.Test.YtbhdnhnkiibaaaaOpn
import Derived.Lib.AppendZeros
namespace Go.Proofs.Ytbhdnhnkiibaaaa
open Go.RowKit
set_option maxRecDepth 100000
set_option linter.all false

def fewR (l : List (List UInt8)) : Bool := decide (∀ a ∈ l, a.length ≤ 600) && decide (l.length ≤ 20)
theorem fewR_yes {l : List (List UInt8)} (h : fewR l = true) : (∀ a ∈ l, a.length ≤ 600) ∧ l.length ≤ 20 := by
  simpa [fewR] using h

set_option maxHeartbeats 1600000 in
theorem rows_few (pv : Value) (l : List (List UInt8)) (S : Nat → Prop) (w : World) (hp : Rows_ w S pv l) :
    Calls Try.prog 30 #[pv] w fun e w' => e = .returned (.bool (fewR l)) ∧ w = w' := by
  have hv : ∃ A c, pv = .slice A l.length c ∧ l.length ≤ maxLen := by obtain ⟨A, c, h, h1, _⟩ := hp; exact ⟨A, c, h, h1⟩
  obtain ⟨A, c, rfl, hmx⟩ := hv
  obtain ⟨L, hL⟩ : ∃ L, L = l.length := ⟨_, rfl⟩
  rw [← hL] at hp hmx ⊢
  have hLm : L ≤ 9223372036854775807 := by simp only [maxLen] at hmx; omega
  have HP := Lib.hid hp
  have HL := Lib.hid hL
  clear hp hL hmx
  go_enter Try.func30, Try.ntmps30
  go_wp2_with fail
  go_loop [7] (fun k => ∃ j : Nat, j ≤ L ∧ k = .int .i64 j ∧ ∀ a ∈ l.take j, a.length ≤ 600) (fun k => L - (intOf k).toNat)
  case atStart => exact ⟨0, by omega, rfl, by simp⟩
  case round =>
    obtain ⟨j, hj, rfl, hall⟩ := hrel
    by_cases hlb : j < L
    · obtain ⟨b, off, A1, L1, c1, rfl, hq1, hq2, hc, hp, hL1, hq3⟩ := rows_cell HP.out j hlb
      by_cases h6 : L1 ≤ 600
      · have h6' : ¬ 600 < L1 := by omega
        have hall2 : Hid (∀ a ∈ l.take (j + 1), a.length ≤ 600) := by
          rw [Hid, ← List.take_append_getElem hp]
          intro a ha
          rcases List.mem_append.1 ha with h | h
          · exact hall a h
          · have e : a = l[j] := by simpa using h
            rw [e]; omega
        clear hall hL1 hq3 hp hq1 hq2
        go_wp2_with fail
        go_round
        case rel => exact ⟨j + 1, by omega, by go_num, hall2.out⟩
        case measure => simp [intOf]; omega
      · have h6' : 600 < L1 := by omega
        have hF : Hid (fewR l = false) := by
          simp only [Hid, fewR, Bool.and_eq_false_iff, decide_eq_false_iff_not]
          refine .inl (fun hh => ?_)
          have := hh l[j] (List.getElem_mem hp)
          omega
        clear hall hL1 hq3 hp hq1 hq2
        go_wp2_with fail
        go_ret
        exact ⟨by rw [hF.out]; rfl, rfl⟩
    · have hk : l.take j = l := List.take_of_length_le (by have := HL.out; omega)
      rw [hk] at hall
      have hF : Hid (fewR l = decide ((L : Int) ≤ 20)) := by
        simp only [Hid, fewR, HL.out, decide_eq_true hall, Bool.true_and]
        congr 1
        rw [eq_iff_iff]; omega
      clear hk hall
      go_wp2_with fail
      go_ret
      exact ⟨by rw [hF.out]; rfl, rfl⟩

theorem run_append_rows (w : World) (ty : TypeId) (base : Nat) (T : Nat → Prop) (v : Value) (pss : List (List UInt8)) (hl : Lst w base T v pss) (y : Value) (qss : List (List UInt8))
    (hy : Rows_ w (fun b => T b ∧ v.ownBlock ≠ some b) y qss) (hb : base ≤ w.heap.size) (hn : pss.length + qss.length ≤ 2000000) :
    ∃ A' n' c' w', (Builtin.append_ #[70, 70] ty #[v, y]).run Try.prog w = .ok (.slice A' n' c') w' ∧ Lst w' base T (.slice A' n' c') (pss ++ qss) ∧ Only (ownb v) w w' ∧ Moved w v (.slice A' n' c') := by
  obtain ⟨xs, h1, h2⟩ := hl
  obtain ⟨i0, hi0, hz0, hz1, hz2⟩ : ∃ i, Try.prog.info? 71 = some i ∧ i.zero = some (.slice none 0 0) ∧ i.size = 1 ∧ i.bytes = 24 := by
    have := rows_info
    cases h : Try.prog.info? 71 with
    | none => rw [h] at this; cases this
    | some i => rw [h] at this; simp at this; exact ⟨i, rfl, this.1, this.2.1, this.2.2⟩
  have hxl : xs.length = pss.length := by have := h1.1; simpa using this
  obtain ⟨A, c, rfl, hm, hc⟩ := hy
  rcases Nat.eq_zero_or_pos qss.length with h0 | h0
  · have hq : qss = [] := List.eq_nil_of_length_eq_zero h0
    subst hq
    obtain ⟨A', c', rfl⟩ : ∃ A' c', v = .slice A' pss.length c' := Lst.shape ⟨xs, h1, h2⟩
    have hkey : (Builtin.append_ #[70, 70] ty #[.slice A' pss.length c', .slice A 0 c]).run Try.prog w = .ok (.slice A' pss.length c') w := by
      rcases h1.2 with ⟨e1, _⟩ | ⟨g, cap, cur, e1, _, _, hnc, _⟩
      · injection e1 with e1 e2 e3
        subst e1 e3
        rcases A with _ | ad <;> simp [Builtin.append_, run_underlying Try.underlying70, sizeOf, typeInfo, hi0, Builtin.lenOf, Builtin.firstCells, e2, loadCells, loadCellsFrom]
      · injection e1 with e1 e2 e3
        subst e1 e3
        rcases A with _ | ad <;> simp [Builtin.append_, run_underlying Try.underlying70, sizeOf, typeInfo, hi0, Builtin.lenOf, Builtin.firstCells, hnc, storeCells, loadCells, loadCellsFrom]
    refine ⟨A', pss.length, c', w, hkey, ?_, Only.refl _ _, Moved.refl _ _⟩
    rw [List.append_nil]
    exact ⟨xs, h1, h2⟩
  · obtain ⟨b, off, rfl, hS, hbw, hcells⟩ := hc h0
    obtain ⟨ys, hyl, hys⟩ := list_of qss.length (fun j u => w.cell? ⟨b, off + j, none⟩ = some u ∧ ∃ hj : j < qss.length, Byt w (fun b => T b ∧ v.ownBlock ≠ some b) u qss[j]) (fun j hj => by
      obtain ⟨x, hx, hy⟩ := hcells j hj
      exact ⟨x, hx, hj, hy⟩)
    have hcel : ∀ j u, ys[j]? = some u → w.cell? ((⟨b, off, none⟩ : Addr).add j) = some u := by
      intro j u hu
      obtain ⟨hj, e⟩ := List.getElem?_eq_some_iff.1 hu
      have e2 : (⟨b, off, none⟩ : Addr).add j = ⟨b, off + j, none⟩ := by unfold Addr.add; split <;> simp_all
      rw [e2, ← e]
      exact (hys j hj).1
    have hone : ∀ u ∈ ys, u.oneCell' = true := by
      intro u hu
      obtain ⟨j, hj, e⟩ := List.mem_iff_getElem.1 hu
      obtain ⟨_, _, hb⟩ := hys j hj
      rw [← e]
      exact one_of_byt hb
    obtain ⟨v', w', hrun, h5, h6, _, h7⟩ := run_append_own_at (P := Try.prog) w base 70 ty 71 i0 (.slice none 0 0) 1 24 Try.underlying70 hi0 hz0 hz1 hz2 rfl (by omega) v pss.length xs h1 ⟨b, off, none⟩ qss.length c ys (by omega) hcel hone (by simp only [maxLen]; omega) (by omega) hb
    have hM : Moved w v v' := fun k hk => by
      rcases h7 with h7 | h7
      · exact .inl (h7 ▸ hk)
      · rw [h7] at hk; injection hk with hk; exact .inr (by omega)
    have O2 : Only (ownb v) w w' := (Only.refl _ w).grown h6 (fun k hk => .inl hk)
    obtain ⟨A', n', c', rfl⟩ : ∃ A' n' c', v' = .slice A' n' c' := own_shape h5
    have key : ∀ {b : Nat}, b < w.heap.size → T b ∧ v.ownBlock ≠ some b → T b ∧ (Value.slice A' n' c').ownBlock ≠ some b := fun hlt h => ⟨h.1, fun e => by
      rcases hM _ e with h1 | h1
      · exact h.2 h1
      · omega⟩
    refine ⟨A', n', c', w', hrun, ⟨xs ++ ys, by rw [List.length_append]; exact h5, fun j hj => ?_⟩, O2, hM⟩
    rw [List.length_append] at hj
    by_cases hjl : j < pss.length
    · obtain ⟨z, hz, hbz⟩ := h2 j hjl
      refine ⟨z, by rw [List.getElem?_append_left (by omega)]; exact hz, ?_⟩
      rw [List.getElem_append_left hjl]
      exact (hbz.mono (T := fun b => (T b ∧ v.ownBlock ≠ some b) ∧ b < w.heap.size) (fun b hb h => ⟨h, hb⟩)).only O2 (fun b h => h.1.2) |>.mono (fun b _ h => key h.2 h.1)
    · obtain ⟨_, hj2, hbz⟩ := hys (j - pss.length) (by omega)
      refine ⟨ys[j - pss.length], by rw [List.getElem?_append_right (by omega), hxl, List.getElem?_eq_getElem], ?_⟩
      have e : (pss ++ qss)[j]'(by rw [List.length_append]; exact hj) = qss[j - pss.length] := List.getElem_append_right (by omega)
      rw [e]
      exact (hbz.mono (T := fun b => (T b ∧ v.ownBlock ≠ some b) ∧ b < w.heap.size) (fun b hb h => ⟨h, hb⟩)).only O2 (fun b h => h.1.2) |>.mono (fun b _ h => key h.2 h.1)
end Go.Proofs.Ytbhdnhnkiibaaaa
