/- Lists of rows of bytes that a call makes of its own: append of one row. No statement of the seat is proved here. -/
import Derived.Test.YtbhdnhnkiibaaaaApp
import Derived.Test.YtbhdnhnkiibaaaaRws
namespace Go.Proofs.Ytbhdnhnkiibaaaa
open Go.RowKit
set_option maxRecDepth 100000
set_option linter.all false

theorem rows_info : (Try.prog.info? 71).map (fun i => (i.zero, i.size, i.bytes)) = some (some (.slice none 0 0), 1, 24) := by kernel_rfl
/-- A slice of the call's own, whose elements are rows of bytes in blocks of which T holds, and which aren't its own block. -/
def Lst (w : World) (base : Nat) (T : Nat → Prop) (v : Value) (pss : List (List UInt8)) : Prop :=
  ∃ xs : List Value, w.ownsRow base 71 1 v pss.length xs ∧ ∀ j (hj : j < pss.length), ∃ x, xs[j]? = some x ∧ Byt w (fun b => T b ∧ v.ownBlock ≠ some b) x pss[j]
section
variable {w w' : World} {base : Nat} {T U : Nat → Prop} {v : Value} {pss : List (List UInt8)}
theorem Lst.nil (w : World) (base : Nat) (T : Nat → Prop) : Lst w base T (.slice none 0 0) [] := ⟨[], World.ownsRow_nil _ _ _ _, fun j hj => by simp at hj⟩
theorem Lst.made (w : World) (base : Nat) (T : Nat → Prop) (hb : base ≤ w.heap.size) : Lst (w.alloc (.cells #[] 71)) base T (.slice (some ⟨w.heap.size, 0, none⟩) 0 0) [] :=
  ⟨[], World.ownsRow_made w #[] 0 hb (by simp [maxLen]) rfl, fun j hj => by simp at hj⟩
theorem Lst.shape (h : Lst w base T v pss) : ∃ A c, v = .slice A pss.length c := by
  obtain ⟨xs, h, _⟩ := h
  rcases h.2 with ⟨rfl, h0⟩ | ⟨g, cap, cur, rfl, _⟩
  · exact ⟨none, 0, by rw [h0]⟩
  · exact ⟨_, cap, rfl⟩
theorem Lst.only (h : Lst w base T v pss) (ho : Only U w w') (hv : ∀ b, v.ownBlock = some b → ¬ U b) (hn : ∀ b, T b → ¬ U b) : Lst w' base T v pss := by
  obtain ⟨xs, h1, h2⟩ := h
  refine ⟨xs, owns_only h1 ho hv, fun j hj => ?_⟩
  obtain ⟨x, hx, hb⟩ := h2 j hj
  exact ⟨x, hx, hb.only ho (fun b hb => hn b hb.1)⟩
theorem Lst.keep (h : Lst w base T v pss) (ho : Only none_ w w') : Lst w' base T v pss := h.only ho (fun _ _ h => h) (fun _ _ h => h)
theorem Lst.based {base' : Nat} (h : Lst w base T v pss) (hb : base' ≤ base) : Lst w base' T v pss := by
  obtain ⟨xs, h1, h2⟩ := h
  exact ⟨xs, owns_base h1 hb, h2⟩
theorem Lst.mono {T' : Nat → Prop} (h : Lst w base T v pss) (hk : ∀ b, b < w.heap.size → T b → T' b) : Lst w base T' v pss := by
  obtain ⟨xs, h1, h2⟩ := h
  refine ⟨xs, h1, fun j hj => ?_⟩
  obtain ⟨x, hx, hb⟩ := h2 j hj
  exact ⟨x, hx, hb.mono (fun b hlt h => ⟨hk b hlt h.1, h.2⟩)⟩
theorem Lst.own_lt (h : Lst w base T v pss) (b : Nat) (hb : v.ownBlock = some b) : base ≤ b ∧ b < w.heap.size := by
  obtain ⟨xs, h1, _⟩ := h
  exact h1.lt b hb
theorem Lst.rows (h : Lst w base T v pss) : Rows_ w (fun b => T b ∨ v.ownBlock = some b) v pss := by
  obtain ⟨xs, h1, h2⟩ := h
  have hl : xs.length = pss.length := by have := h1.1; simpa using this
  rcases h1.2 with ⟨hv, h0⟩ | ⟨g, cap, cur, hv, hb, hh, hnc, hcm, hcs, htk⟩
  · have : pss = [] := List.eq_nil_of_length_eq_zero h0
    subst this
    rw [hv]
    exact Rows_.nil _ _
  · refine ⟨some ⟨g, 0, none⟩, cap, hv, by omega, fun hp => ⟨g, 0, rfl, .inr (by rw [hv]; rfl), Blk.lt (t := 71) hh, fun j hj => ?_⟩⟩
    obtain ⟨x, hx, hy⟩ := h2 j hj
    have e1 : (⟨g, 0, none⟩ : Addr).add j = ⟨g, 0 + j, none⟩ := by unfold Addr.add; split <;> simp_all
    have := h1.cells (g := g) (by rw [hv]; rfl) j x hx
    rw [e1] at this
    exact ⟨x, this, hy.mono (fun b _ h => .inl h.1)⟩
end
theorem one_of_byt {w : World} {S : Nat → Prop} {x : Value} {bs : List UInt8} (h : Byt w S x bs) : x.oneCell' = true := by
  obtain ⟨A, c, rfl, _⟩ := h
  rfl
section
variable (w : World)
theorem wpList_append_lst {ops : Array Oper} {rest : List Oper} {o : Oper} {a : Act} {Q : Exit → Act → World → Prop} (hgd : o.guard = none) (s x : Operand)
    (ho : o.op = .call { callee := .builtin .append, args := #[s, x], argTypes := #[70, 70] })
    (base : Nat) (T : Nat → Prop) (v : Value) (pss : List (List UInt8)) (hs : a.eval s = v) (hl : Lst w base T v pss) (y : Value) (ps : List UInt8) (hx : a.eval x = .slice (some ⟨w.heap.size, 0, none⟩) 1 1)
    (hy : Byt w (fun b => T b ∧ v.ownBlock ≠ some b) y ps) (hb : base ≤ w.heap.size) (hn : pss.length ≤ 2000000)
    (h : ∀ A' n' c' w', Lst w' base T (.slice A' n' c') (pss ++ [ps]) → Only (ownb v) w w' → Moved w v (.slice A' n' c') → wpList Try.prog ops Q rest (a.put o.dst (.slice A' n' c')) w') : wpList Try.prog ops Q (o :: rest) a (w.alloc (.cells #[y] 71)) := by
  obtain ⟨xs, h1, h2⟩ := hl
  obtain ⟨i0, hi0, hz0, hz1, hz2⟩ : ∃ i, Try.prog.info? 71 = some i ∧ i.zero = some (.slice none 0 0) ∧ i.size = 1 ∧ i.bytes = 24 := by
    have := rows_info
    cases h : Try.prog.info? 71 with
    | none => rw [h] at this; cases this
    | some i => rw [h] at this; simp at this; exact ⟨i, rfl, this.1, this.2.1, this.2.2⟩
  have O1 := (Only.refl none_ w).alloc (.cells #[y] 71)
  have hxl : xs.length = pss.length := by have := h1.1; simpa using this
  refine wpList_append_cel _ hgd s x 70 ho base 71 i0 (.slice none 0 0) 1 24 Try.underlying70 hi0 hz0 hz1 hz2 rfl (by omega) v pss.length xs hs (owns_only h1 O1 (fun _ _ h => h)) _ _ 1 [y] hx
    (cel_made w 71 1 1 #[y] rfl (by simp [maxLen])) (by simp [one_of_byt hy]) (by simp only [maxLen]; omega) (by omega) (by rw [World.size_alloc]; omega) ?_
  intro A' n' c' w' hown hgrow hmv
  have O2 : Only (ownb v) w w' := O1.of_none.grown hgrow (fun k hk => .inl hk)
  have hM : Moved w v (.slice A' n' c') := fun k hk => (hmv k hk).imp id (fun h => by rw [World.size_alloc] at h; omega)
  have key : ∀ {b : Nat}, b < w.heap.size → T b ∧ v.ownBlock ≠ some b → T b ∧ (Value.slice A' n' c').ownBlock ≠ some b := fun hlt h => ⟨h.1, fun e => by
    rcases hM _ e with h1 | h1
    · exact h.2 h1
    · omega⟩
  refine h A' n' c' w' ⟨xs ++ [y], by simpa using hown, fun j hj => ?_⟩ O2 hM
  rw [List.length_append, List.length_cons, List.length_nil] at hj
  by_cases hjl : j < pss.length
  · obtain ⟨z, hz, hbz⟩ := h2 j hjl
    refine ⟨z, by rw [List.getElem?_append_left (by omega)]; exact hz, ?_⟩
    rw [List.getElem_append_left hjl]
    exact (hbz.mono (T := fun b => (T b ∧ v.ownBlock ≠ some b) ∧ b < w.heap.size) (fun b hb h => ⟨h, hb⟩)).only O2 (fun b h => h.1.2) |>.mono (fun b _ h => key h.2 h.1)
  · have hj' : j = pss.length := by omega
    subst hj'
    refine ⟨y, by rw [List.getElem?_append_right (by omega), hxl]; simp, ?_⟩
    have e : (pss ++ [ps])[pss.length]'(by simp) = ps := by simp
    rw [e]
    exact (hy.mono (T := fun b => (T b ∧ v.ownBlock ≠ some b) ∧ b < w.heap.size) (fun b hb h => ⟨h, hb⟩)).only O2 (fun b h => h.1.2) |>.mono (fun b _ h => key h.2 h.1)
end
end Go.Proofs.Ytbhdnhnkiibaaaa
