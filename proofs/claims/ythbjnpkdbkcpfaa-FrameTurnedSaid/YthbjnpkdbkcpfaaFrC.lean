/- Whether two frames are the same, by the program and by the document. No statement of the seat is proved here. -/
import Derived.Test.YthbjnpkdbkcpfaaFrB
import Derived.Test.YthbjnpkdbkcpfaaCrcE
import Derived.Deep.RegionHeld3
import Derived.ChangeKeysEq
import Derived.Laws.StructEq
namespace Go.Proofs.Ythbjnpkdbkcpfaa
open Go.RowKit

set_option maxHeartbeats 1600000 in
theorem refSame_any (x y : Fr) (vx vy : Value) (S T : Nat → Prop) (w : World) (hx : FrV w S vx x) (hy : FrV w T vy y) :
    Calls Try.prog 13 #[vx, vy] w fun e w' => e = .returned (.bool (frSame x y)) ∧ Only none_ w w' := by
  obtain ⟨A, c, rfl, h1⟩ := hx
  obtain ⟨A', c', rfl, h2⟩ := hy
  rcases x with ⟨f, t, k, bs⟩
  rcases y with ⟨f', t', k', bs'⟩
  simp only at h1 h2
  have HS : Hid (frSame ⟨f, t, k, bs⟩ ⟨f', t', k', bs'⟩ = ((f == f' && t == t' && k == k') && (bs == bs'))) := rfl
  have c1 := run_bytes_string ((w.alloc (.cells #[.int .i64 f, .int .i64 t, .int .i64 k, .slice A bs.length c] 24)).alloc (.cells #[.int .i64 f', .int .i64 t', .int .i64 k', .slice A' bs'.length c'] 24)) _ _ _ ((h1.alloc _).alloc _)
  have c2 := run_bytes_string ((w.alloc (.cells #[.int .i64 f, .int .i64 t, .int .i64 k, .slice A bs.length c] 24)).alloc (.cells #[.int .i64 f', .int .i64 t', .int .i64 k', .slice A' bs'.length c'] 24)) _ _ _ ((h2.alloc _).alloc _)
  clear h1 h2
  obtain ⟨L, hL⟩ : ∃ L, L = bs.length := ⟨_, rfl⟩
  obtain ⟨L', hL'⟩ : ∃ L, L = bs'.length := ⟨_, rfl⟩
  rw [← hL, ← hL'] at c1 c2 ⊢
  clear hL hL'
  cases h1 : f == f'
  · rw [h1] at HS
    go_enter Try.func13, Try.ntmps13
    go_wp2
    go_ret
    rw [HS.out]
    exact ⟨rfl, ((Only.refl none_ w).alloc _).alloc _⟩
  · cases h2 : t == t'
    · rw [h1, h2] at HS
      go_enter Try.func13, Try.ntmps13
      go_wp2
      go_ret
      rw [HS.out]
      exact ⟨rfl, ((Only.refl none_ w).alloc _).alloc _⟩
    · cases h3 : k == k'
      · rw [h1, h2, h3] at HS
        go_enter Try.func13, Try.ntmps13
        go_wp2
        go_ret
        rw [HS.out]
        exact ⟨rfl, ((Only.refl none_ w).alloc _).alloc _⟩
      · rw [h1, h2, h3] at HS
        go_enter Try.func13, Try.ntmps13
        go_wp2
        go_ret
        rw [HS.out]
        exact ⟨rfl, ((Only.refl none_ w).alloc _).alloc _⟩

theorem int_info : (Try.prog.info? 3).map (fun i => (i.size, i.bytes)) = some (1, 8) := by kernel_rfl
theorem run_eql_three (w : World) (a b c a' b' c' : Int) : (binOp .eql 66 (.agg #[.int .i64 a, .int .i64 b, .int .i64 c]) (.agg #[.int .i64 a', .int .i64 b', .int .i64 c'])).run Try.prog w = .ok (.bool (a == a' && b == b' && c == c')) w := by
  obtain ⟨i, hi, _⟩ : ∃ i, Try.prog.info? 3 = some i ∧ True := by
    have := int_info
    cases h : Try.prog.info? 3 with
    | none => rw [h] at this; cases this
    | some i => exact ⟨i, rfl, trivial⟩
  have c1 : Try.prog.cellsOf 3 = 1 := by kernel_rfl
  have e : ∀ (a b : Int), (Op.equalIn 9999 3 (.int .i64 a) (.int .i64 b)).run Try.prog w = .ok (a == b) w := fun a b => run_equalIn_int w 9998 3 .i64 .i64 a b Try.underlying3
  rw [run_eql_struct, run_equalIn_array w 9999 _ _ Try.underlying66 hi, c1]
  simp only [List.range, List.range.loop, Op.eqItems, part, isAgg, Sem.run_bind, run_underlying Try.underlying3, Result.andThen_ok, Sem.run_pure]
  simp [e]
  cases h1 : a == a' <;> cases h2 : b == b' <;> cases h3 : c == c' <;> simp_all

/-- The cells of a struct of four. -/
abbrev Four (w : World) (g : Nat) (a b c d : Value) : Prop := w.cell? ⟨g, 0, none⟩ = some a ∧ w.cell? ⟨g, 1, none⟩ = some b ∧ w.cell? ⟨g, 2, none⟩ = some c ∧ w.cell? ⟨g, 3, none⟩ = some d
theorem Four.only {w w' : World} {g : Nat} {a b c d : Value} {S : Nat → Prop} (h : Four w g a b c d) (ho : Only S w w') (hn : ¬ S g) : Four w' g a b c d := by
  obtain ⟨h0, h1, h2, h3⟩ := h
  have hg : g < w.heap.size := World.block_lt_of_cell? w _ h0
  exact ⟨(ho.cell (p := ⟨g, 0, none⟩) hg hn).trans h0, (ho.cell (p := ⟨g, 1, none⟩) hg hn).trans h1, (ho.cell (p := ⟨g, 2, none⟩) hg hn).trans h2, (ho.cell (p := ⟨g, 3, none⟩) hg hn).trans h3⟩
theorem four_of_blk {w : World} {g : Nat} {t : TypeId} {a b c d : Value} (h : Blk w g t #[a, b, c, d]) : Four w g a b c d := ⟨h.cell_ rfl, h.cell_ rfl, h.cell_ rfl, h.cell_ rfl⟩

theorem two_four {W2 w w' : World} {g h : Nat} {a b c d a' b' c' d' : Value} (k : Four w g a b c d ∧ Four w h a' b' c' d' ∧ Only none_ W2 w) (o : Only none_ w w') : Four w' g a b c d ∧ Four w' h a' b' c' d' ∧ Only none_ W2 w' :=
  ⟨k.1.only o (fun h => h), k.2.1.only o (fun h => h), k.2.2.trans o⟩

set_option maxHeartbeats 1600000 in
theorem frSame_any (x y : Fr) (vx vy : Value) (S T : Nat → Prop) (w : World) (hx : FrV w S vx x) (hy : FrV w T vy y) :
    Calls Try.prog 12 #[vx, vy] w fun e w' => e = .returned (.bool (frSame x y)) ∧ Only none_ w w' := by
  obtain ⟨A, c, rfl, h1⟩ := hx
  obtain ⟨A', c', rfl, h2⟩ := hy
  rcases x with ⟨f, t, k, bs⟩
  rcases y with ⟨f', t', k', bs'⟩
  simp only at h1 h2
  have HS : Hid (frSame ⟨f, t, k, bs⟩ ⟨f', t', k', bs'⟩ = ((f == f' && t == t' && k == k') && (bs == bs'))) := rfl
  obtain ⟨L, hL⟩ : ∃ L, L = bs.length := ⟨_, rfl⟩
  obtain ⟨L', hL'⟩ : ∃ L, L = bs'.length := ⟨_, rfl⟩
  rw [← hL] at h1 ⊢
  rw [← hL'] at h2 ⊢
  clear hL hL'
  have HX := Lib.hid ((h1.alloc (.cells #[.int .i64 f, .int .i64 t, .int .i64 k, .slice A L c] 47)).alloc (.cells #[.int .i64 f', .int .i64 t', .int .i64 k', .slice A' L' c'] 47))
  have HY := Lib.hid ((h2.alloc (.cells #[.int .i64 f, .int .i64 t, .int .i64 k, .slice A L c] 47)).alloc (.cells #[.int .i64 f', .int .i64 t', .int .i64 k', .slice A' L' c'] 47))
  have O2 := Lib.hid (((Only.refl none_ w).alloc (.cells #[.int .i64 f, .int .i64 t, .int .i64 k, .slice A L c] 47)).alloc (.cells #[.int .i64 f', .int .i64 t', .int .i64 k', .slice A' L' c'] 47))
  have B1 := Lib.hid (four_of_blk ((Blk.new w 47 #[.int .i64 f, .int .i64 t, .int .i64 k, .slice A L c]).alloc (.cells #[.int .i64 f', .int .i64 t', .int .i64 k', .slice A' L' c'] 47)))
  have B2 := four_of_blk (Blk.new (w.alloc (.cells #[.int .i64 f, .int .i64 t, .int .i64 k, .slice A L c] 47)) 47 #[.int .i64 f', .int .i64 t', .int .i64 k', .slice A' L' c'])
  simp only [World.size_alloc] at B2
  clear h1 h2
  have heq := fun w => run_eql_three w f t k f' t' k'
  cases h1 : (f == f' && t == t' && k == k')
  · rw [h1] at HS
    go_enter Try.func12, Try.ntmps12
    go_wp2
    have H2 := Lib.hid B2
    clear B2
    generalize (w.alloc (.cells #[.int .i64 f, .int .i64 t, .int .i64 k, .slice A L c] 47)).alloc (.cells #[.int .i64 f', .int .i64 t', .int .i64 k', .slice A' L' c'] 47) = W2 at *
    generalize hg1 : w.heap.size = g1 at *
    clear hg1
    have K0 : Four W2.drew g1 (.int .i64 f) (.int .i64 t) (.int .i64 k) (.slice A L c) ∧ Four W2.drew (g1 + 1) (.int .i64 f') (.int .i64 t') (.int .i64 k') (.slice A' L' c') ∧ Only none_ W2 W2.drew := ⟨B1.out, H2.out, (Only.refl none_ W2).drew⟩
    first
      | (go_region_with (first
            | (go_at_call 19; refine (head_any _ _ _ _ _ _ _).mono ?_; rintro e w1 ⟨rfl, o1⟩; have k1 := two_four (by assumption) o1; clear o1)))
      | fail
    all_goals
      go_wp2_with fail
      go_ret
      rw [HS.out]
      exact ⟨rfl, O2.out.trans k1.2.2⟩
  · rw [h1] at HS
    go_enter Try.func12, Try.ntmps12
    go_wp2
    have H2 := Lib.hid B2
    clear B2
    generalize (w.alloc (.cells #[.int .i64 f, .int .i64 t, .int .i64 k, .slice A L c] 47)).alloc (.cells #[.int .i64 f', .int .i64 t', .int .i64 k', .slice A' L' c'] 47) = W2 at *
    generalize hg1 : w.heap.size = g1 at *
    clear hg1
    go_region_held3 (fun w' => Four w' g1 (.int .i64 f) (.int .i64 t) (.int .i64 k) (.slice A L c) ∧ Four w' (g1 + 1) (.int .i64 f') (.int .i64 t') (.int .i64 k') (.slice A' L' c') ∧ Only none_ W2 w')
      (first | exact ⟨B1.out, H2.out, (Only.refl none_ W2).drew⟩ | assumption)
      (first
        | (go_at_call 19; refine (head_any _ _ _ _ _ _ _).mono ?_; rintro e w1 ⟨rfl, o1⟩; have k1 := two_four (by assumption) o1; clear o1)
        | (go_at_call 26; refine (equal_any _ _ _ _ _ _ _ (HX.out.only k1.2.2 (fun _ _ h => h)) (HY.out.only k1.2.2 (fun _ _ h => h))).mono ?_; rintro e w' ⟨rfl, rfl⟩))
    all_goals
      go_wp2_with fail
      go_ret
      rw [HS.out]
      exact ⟨rfl, O2.out.trans k1.2.2⟩
end Go.Proofs.Ythbjnpkdbkcpfaa
