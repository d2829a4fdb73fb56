/- Texts of mine, one behind the other: WiC. No statement of the seat is proved here. -/
import Derived.Test.YtkfcklmkikaioaaGreatDoorWk9
import Derived.BigQuiet
import Derived.Deep.DeepCutAuto
import Derived.Deep.Cut
section
namespace Go.Proofs.YtkfcklmkikaioaaGreatDoor
open Go.RowKit
set_option linter.all false
set_option maxRecDepth 100000
def wNm (k : Nat) : ByteArray :=
  match k with
  | 1 => ⟨#[106, 111, 105, 110]⟩
  | 2 => ⟨#[102, 111, 114, 119, 97, 114, 100]⟩
  | 3 => ⟨#[110, 101, 105, 103, 104, 98, 111, 114]⟩
  | 4 => ⟨#[97, 99, 99, 101, 112, 116]⟩
  | 5 => ⟨#[114, 101, 102, 117, 115, 101]⟩
  | 6 => ⟨#[112, 97, 114, 116]⟩
  | 7 => ⟨#[115, 104, 117, 102, 102, 108, 101]⟩
  | 8 => ⟨#[115, 119, 97, 112]⟩
  | 9 => ⟨#[98, 101, 97, 116]⟩
  | 10 => ⟨#[103, 111, 115, 115, 105, 112]⟩
  | 11 => ⟨#[104, 97, 118, 101]⟩
  | 12 => ⟨#[103, 114, 97, 102, 116]⟩
  | 13 => ⟨#[112, 114, 117, 110, 101]⟩
  | 14 => ⟨#[114, 117, 109, 111, 114, 115]⟩
  | 15 => ⟨#[101, 99, 104, 111]⟩
  | 16 => ⟨#[99, 104, 101, 99, 107]⟩
  | 17 => ⟨#[109, 97, 116, 99, 104]⟩
  | 18 => ⟨#[112, 101, 101, 108]⟩
  | 19 => ⟨#[112, 105, 108, 101]⟩
  | _ => ⟨#[]⟩
structure Kd (w : World) : Prop where
  lt : 0 < w.heap.size
  at_ : ∀ k : Nat, k < 20 → ∀ j u, (shRow (wNm k) (wFld k) (wLo k) (wUp k)).toList[j]? = some u → w.cell? ⟨0, k * 4 + j, none⟩ = some u
theorem Kd.only {w w' : World} {T : Nat → Prop} (h : Kd w) (o : Only T w w') (hn : ¬ T 0) : Kd w' :=
  ⟨Nat.lt_of_lt_of_le h.lt o.size, fun k hk j u hu => (o.cell (p := ⟨0, k * 4 + j, none⟩) h.lt hn).trans (h.at_ k hk j u hu)⟩
theorem Kd.keep {w w' : World} (h : Kd w) (o : Only none_ w w') : Kd w' := h.only o (fun h => h)
theorem has_tab : ∀ k, k < 20 → ∀ i, i < 9 → (bits BinOp.and IntKind.i64 (wFld (k : Nat)) (2 ^ i) != 0) = wHas (k : Nat) i := by decide +kernel
set_option maxHeartbeats 1600000 in
theorem wi_has (nm : ByteArray) (fl lo up : Int) (i : Nat) (z y : Int) (hi : i < 9) (hz : z = i) (hy : y = 2 ^ i) (w : World) : Calls Tryz.prog 28 #[.agg #[.string nm, .int .i64 fl, .int .i64 lo, .int .i64 up], .int .i64 z] w fun E w' => E = .returned (.bool (bits BinOp.and IntKind.i64 fl y != 0)) ∧ Only none_ w w' := by
  have B := Blk.new w 77 #[.string nm, .int .i64 fl, .int .i64 lo, .int .i64 up]
  have O := Lib.hid ((Only.refl none_ w).alloc (.cells #[.string nm, .int .i64 fl, .int .i64 lo, .int .i64 up] 77))
  have c1 := B.cell_ (i := 1) rfl
  clear B
  rcases (by omega : i = 0 ∨ i = 1 ∨ i = 2 ∨ i = 3 ∨ i = 4 ∨ i = 5 ∨ i = 6 ∨ i = 7 ∨ i = 8) with rfl | rfl | rfl | rfl | rfl | rfl | rfl | rfl | rfl
  all_goals
    clear hi
    subst hz hy
    simp only [Int.reducePow]
    go_enter Tryz.func28, Tryz.ntmps28
    go_wp2_with fail
    go_quiet (fail)
    go_wp2_with fail
    go_ret
    exact ⟨rfl, O.out.drewN nq⟩
def nils18 : Array Value := #[Value.nilFunc, Value.nilFunc, Value.nilFunc, Value.nilFunc, Value.nilFunc, Value.nilFunc, Value.nilFunc, Value.nilFunc, Value.nilFunc, Value.nilFunc, Value.nilFunc, Value.nilFunc, Value.nilFunc, Value.nilFunc, Value.nilFunc, Value.nilFunc, Value.nilFunc, Value.nilFunc]
def rulesA : Array Value := #[.func (.func 91) #[] #[], .func (.func 92) #[] #[], .func (.func 94) #[] #[], .func (.func 95) #[] #[], .func (.func 96) #[] #[], .func (.func 97) #[] #[], .func (.func 98) #[] #[], .func (.func 99) #[] #[], .func (.func 101) #[] #[], .func (.func 102) #[] #[], .func (.func 103) #[] #[], .func (.func 104) #[] #[], .func (.func 105) #[] #[], .func (.func 107) #[] #[], .func (.func 109) #[] #[], .func (.func 110) #[] #[], .func (.func 113) #[] #[], .func (.func 114) #[] #[]]
set_option maxHeartbeats 1600000 in
theorem wi_rules (w : World) : Calls Tryz.prog 34 #[] w fun E w' => E = .returned (.agg rulesA) ∧ Only none_ w w' := by
  have B := Lib.hid (Blk.new w 91 nils18)
  have F := Lib.hid (B.out.setRow rulesA)
  have O := Lib.hid (((Only.refl none_ w).alloc (.cells nils18 91)).setRow (g := w.heap.size) (.inr (Nat.le_refl _)) rulesA)
  go_enter Tryz.func34, Tryz.ntmps34
  go_upto_region 1 with fail
  refine wp_region_lit ?_
  go_wp2_with (first
    | (refine wpList_store_row rfl 91 _ _ rfl w.heap.size rulesA rfl rfl 91 _ B.out (by kernel_rfl) rfl (by simp [rulesA, Value.oneCell']) ?_))
  exact bodyPost_ret (results_cell_row rfl _ _ w.heap.size 91 _ (0, 0) _ rfl F.out Tryz.underlying91 rfl (by kernel_rfl)) rfl ⟨rfl, O.out⟩
def nfR (i : Nat) : Nat :=
  match i with
  | 0 => 91
  | 1 => 94
  | 2 => 96
  | 3 => 98
  | 4 => 101
  | 5 => 103
  | 6 => 105
  | 7 => 109
  | _ => 113
def mfR (i : Nat) : Nat :=
  match i with
  | 0 => 92
  | 1 => 95
  | 2 => 97
  | 3 => 99
  | 4 => 102
  | 5 => 104
  | 6 => 107
  | 7 => 110
  | _ => 114
theorem nine_ways {i : Nat} (h : i < 9) : i = 0 ∨ i = 1 ∨ i = 2 ∨ i = 3 ∨ i = 4 ∨ i = 5 ∨ i = 6 ∨ i = 7 ∨ i = 8 := by omega
theorem run_index_rule (i : Nat) (hi : i < 9) (w : World) :
    (Instr.index 91 (.agg rulesA) (.int .i64 i)).run Tryz.prog w = .ok (.agg #[.func (.func (nfR i)) #[] #[], .func (.func (mfR i)) #[] #[]]) w := by
  obtain ⟨i0, hi0, hz0⟩ : ∃ i0, Tryz.prog.info? 90 = some i0 ∧ i0.size = 2 := by
    have : (Tryz.prog.info? 90).map (·.size) = some 2 := by kernel_rfl
    cases h : Tryz.prog.info? 90 with
    | none => rw [h] at this; cases this
    | some i0 => rw [h] at this; simp at this; exact ⟨i0, rfl, this⟩
  rcases nine_ways hi with rfl | rfl | rfl | rfl | rfl | rfl | rfl | rfl | rfl
  all_goals simp [rulesA, nfR, mfR, Instr.index, asIntOf, run_underlying Tryz.underlying91, sizeOf, typeInfo, hi0, hz0, part, isAgg, run_underlying Tryz.underlying90]
theorem wi_none (i : Nat) (hi : i < 9) (g : Nat) (S : Nat → Prop) (m : Ms) (vp vm ve : Value) (w : World) (h : Mb 45 g S m vp vm ve w) :
    Calls Tryz.prog (nfR i) #[.pointer (some ⟨g, 0, none⟩)] w fun e w' => e = .returned (.bool (wNone m i)) ∧ Only none_ w w' := by
  rcases nine_ways hi with rfl | rfl | rfl | rfl | rfl | rfl | rfl | rfl | rfl
  · exact wi_none0 g S m vp vm ve w h
  · exact wi_none1 g S m vp vm ve w h
  · exact wi_none2 g S m vp vm ve w h
  · exact wi_none3 g S m vp vm ve w h
  · exact wi_none4 g S m vp vm ve w h
  · exact wi_none5 g S m vp vm ve w h
  · exact wi_none6 g S m vp vm ve w h
  · exact wi_none7 g S m vp vm ve w h
  · exact wi_none8 g S m vp vm ve w h
theorem wi_may (i : Nat) (hi : i < 9) (g : Nat) (S : Nat → Prop) (m : Ms) (vp vm ve : Value) (nm : ByteArray) (fl lo up : Int) (w : World) (h : Mb 45 g S m vp vm ve w) (hl : m.ps.length ≤ 4096 ∧ m.ms.length ≤ 4096 ∧ m.es.length ≤ 4096) :
    Calls Tryz.prog (mfR i) #[.pointer (some ⟨g, 0, none⟩), .agg #[.string nm, .int .i64 fl, .int .i64 lo, .int .i64 up]] w fun e w' => e = .returned (.bool (wMay m lo up i)) ∧ Only none_ w w' := by
  rcases nine_ways hi with rfl | rfl | rfl | rfl | rfl | rfl | rfl | rfl | rfl
  · exact wi_may0 g S m vp vm ve nm fl lo up w h hl
  · exact wi_may1 g S m vp vm ve nm fl lo up w h hl
  · exact wi_may2 g S m vp vm ve nm fl lo up w h hl
  · exact wi_may3 g S m vp vm ve nm fl lo up w h hl
  · exact wi_may4 g S m vp vm ve nm fl lo up w h hl
  · exact wi_may5 g S m vp vm ve nm fl lo up w h hl
  · exact wi_may6 g S m vp vm ve nm fl lo up w h hl
  · exact wi_may7 g S m vp vm ve nm fl lo up w h hl
  · exact wi_may8 g S m vp vm ve nm fl lo up w h hl
theorem enter_of (f : Nat) (h : ((Tryz.prog.funcs[f]?).map fun fn => (fn.name == "runtime.NumGoroutine", fn.body.isNone)) = some (false, false)) (args : Array Value) (w : World) :
    (callFunc f args).run Tryz.prog w = .ok (.enter f args) w := by
  cases hf : Tryz.prog.funcs[f]? with
  | none => rw [hf] at h; cases h
  | some fn =>
    rw [hf] at h
    simp only [Option.map_some, Option.some.injEq, Prod.mk.injEq] at h
    have h1 : ¬ fn.name = "runtime.NumGoroutine" := by simpa using h.1
    have h2 : ¬ fn.body = none := by intro e; have := h.2; rw [e] at this; cases this
    unfold callFunc
    simp [hf, h1, h2]
theorem none_enter (i : Nat) (hi : i < 9) (args : Array Value) (w : World) : (callFunc (nfR i) args).run Tryz.prog w = .ok (.enter (nfR i) args) w := by
  rcases nine_ways hi with rfl | rfl | rfl | rfl | rfl | rfl | rfl | rfl | rfl <;> exact enter_of _ (by kernel_rfl) args w
theorem may_enter (i : Nat) (hi : i < 9) (args : Array Value) (w : World) : (callFunc (mfR i) args).run Tryz.prog w = .ok (.enter (mfR i) args) w := by
  rcases nine_ways hi with rfl | rfl | rfl | rfl | rfl | rfl | rfl | rfl | rfl <;> exact enter_of _ (by kernel_rfl) args w
end Go.Proofs.YtkfcklmkikaioaaGreatDoor
end
