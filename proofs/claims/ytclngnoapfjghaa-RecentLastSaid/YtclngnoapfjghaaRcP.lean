/- A map of acts by keys, as a list of marks: what is looked up, put and dropped in it. No statement of the seat is proved here. -/
import Derived.Test.YtclngnoapfjghaaRcM
import Derived.Test.YtclngnoapfjghaaBase
import Derived.Maps.OwnOps
import Derived.Maps.OwnSet
namespace Go.Proofs.Ytclngnoapfjghaa
open Go.RowKit Go.ChangeMaps Go.MapKept
set_option linter.all false

/-- What a mark is in the map. -/
def mEnt (m : Mk) : Value × Value := (.string m.k, .agg #[.int .i64 m.a.c, .int .i64 m.a.s])
/-- A map that has just these marks. -/
def Mp (w : World) (b : Nat) (l : List Mk) : Prop :=
  ∃ es clock, w.heap[b]? = some (.map es clock) ∧ (es.toList.map fun e => (e.key, e.val)).Perm (l.map mEnt) ∧ ∀ m ∈ l, m.k.size ≤ maxLen
section
variable {P : Program} {t k e : TypeId} {w w' : World} {b : Nat} {l : List Mk}
theorem Mp.lt (h : Mp w b l) : b < w.heap.size := by
  obtain ⟨es, clock, hb, _⟩ := h
  exact (Array.getElem?_eq_some_iff.1 hb).1
theorem Mp.only {S : Nat → Prop} (h : Mp w b l) (o : Only S w w') (hn : ¬ S b) : Mp w' b l := by
  have hlt := h.lt
  obtain ⟨es, clock, hb, r⟩ := h
  exact ⟨es, clock, (o.block b hlt hn).trans hb, r⟩
theorem Mp.made (w : World) : Mp (w.alloc (.map #[] 0)) w.heap.size [] := ⟨#[], 0, (MapKept.heap_alloc w _).1, by simp, by simp⟩
theorem Mp.ne_blk {g : Nat} {ty : TypeId} {cs : Array Value} (h : Mp w b l) (h' : Blk w g ty cs) : b ≠ g := by
  rintro rfl
  obtain ⟨es, clock, hb, _⟩ := h
  unfold Blk at h'
  rw [hb] at h'
  cases h'
theorem Mp.perm {l' : List Mk} (h : Mp w b l) (hp : l.Perm l') : Mp w b l' := by
  obtain ⟨es, clock, hb, h1, h2⟩ := h
  exact ⟨es, clock, hb, h1.trans (hp.map mEnt), fun m hm => h2 m (hp.mem_iff.2 hm)⟩
theorem mp_keys (hk : P.underlying k = some .string) {es : Array MapEntry} (h1 : (es.toList.map fun e => (e.key, e.val)).Perm (l.map mEnt)) (h2 : ∀ m ∈ l, m.k.size ≤ maxLen) : ∀ x ∈ es.toList, ∃ q, keyOf P k x.key = some q := by
  intro x hx
  have hm : (x.key, x.val) ∈ l.map mEnt := h1.mem_iff.1 (List.mem_map.2 ⟨x, hx, rfl⟩)
  obtain ⟨m, hml, e⟩ := List.mem_map.1 hm
  have e1 : x.key = .string m.k := by injection e with e _; exact e.symm
  exact ⟨_, by rw [e1]; exact Go.WideMaps.keyOf_string_mk hk (h2 m hml)⟩
/-- A key is searched for: there is none, or its mark. -/
theorem mp_find (hk : P.underlying k = some .string) {es : Array MapEntry} (h1 : (es.toList.map fun e => (e.key, e.val)).Perm (l.map mEnt)) (h2 : ∀ m ∈ l, m.k.size ≤ maxLen) (x : ByteArray) (hx : x.size ≤ maxLen) (w : World) :
    ((Instr.findKey k (.string x) es.toList).run P w = .ok none w ∧ ∀ m ∈ l, m.k ≠ x) ∨
    ∃ j e0 m, (Instr.findKey k (.string x) es.toList).run P w = .ok (some (j, e0.val)) w ∧ es.toList[j]? = some e0 ∧ m ∈ l ∧ m.k = x ∧ (e0.key, e0.val) = mEnt m := by
  rcases (Maps.string_keyed hk).find w (Go.WideMaps.keyOf_string_mk hk hx) es.toList (mp_keys hk h1 h2) with ⟨g1, g2⟩ | ⟨j, e0, g1, g2, g3⟩
  · refine .inl ⟨g1, fun m hm e => ?_⟩
    have : mEnt m ∈ es.toList.map fun e => (e.key, e.val) := h1.mem_iff.2 (List.mem_map.2 ⟨m, hm, rfl⟩)
    obtain ⟨y, hy, ey⟩ := List.mem_map.1 this
    refine g2 y hy ?_
    have e2 : y.key = .string m.k := by injection ey
    rw [e2, e]
  · have hm : (e0.key, e0.val) ∈ l.map mEnt := h1.mem_iff.1 (List.mem_map.2 ⟨e0, List.mem_of_getElem? g2, rfl⟩)
    obtain ⟨m, hml, e⟩ := List.mem_map.1 hm
    refine .inr ⟨j, e0, m, g1, g2, hml, ?_, e.symm⟩
    have e2 : e0.key = .string m.k := by injection e with e _; exact e.symm
    rw [g3] at e2
    injection e2 with e2
    exact e2.symm
theorem keys_inj {m m' : Mk} (h : Keys_ l) (hm : m ∈ l) (hm' : m' ∈ l) (e : m.k = m'.k) : m = m' := by
  obtain ⟨i, hi, rfl⟩ := List.mem_iff_getElem.1 hm
  obtain ⟨j, hj, rfl⟩ := List.mem_iff_getElem.1 hm'
  rcases Nat.lt_trichotomy i j with h1 | rfl | h1
  · exact absurd e (List.pairwise_iff_getElem.1 h i j hi hj h1)
  · rfl
  · exact absurd e.symm (List.pairwise_iff_getElem.1 h j i hj hi h1)

theorem mp_look_yes (hk : P.underlying k = some .string) (ht : P.underlying t = some (.map k e)) (h : Mp w b l) (hl : Keys_ l) {m : Mk} (hm : m ∈ l) :
    (Instr.lookup t (.map (some b)) (.string m.k) true).run P w = .ok (.tuple #[.agg #[.int .i64 m.a.c, .int .i64 m.a.s], .bool true]) w := by
  obtain ⟨es, clock, hb, h1, h2⟩ := h
  rcases mp_find hk h1 h2 m.k (h2 m hm) w with ⟨_, g2⟩ | ⟨j, e0, m', g1, _, g3, g4, g5⟩
  · exact absurd rfl (g2 m hm)
  · obtain rfl := keys_inj hl hm g3 g4.symm
    have e1 : e0.val = .agg #[.int .i64 m.a.c, .int .i64 m.a.s] := by injection g5
    simp [Instr.lookup, run_underlying ht, MapKept.run_getObj_map hb, (Maps.string_keyed hk).check w _ (Go.WideMaps.keyOf_string_mk hk (h2 m hm)), g1, Result.andThen, e1]
theorem mp_look_no (hk : P.underlying k = some .string) (ht : P.underlying t = some (.map k e)) {z : Value} (hz : (zeroValue e).run P w = .ok z w) (h : Mp w b l) {x : ByteArray} (hx : x.size ≤ maxLen) (hno : ∀ m ∈ l, m.k ≠ x) :
    (Instr.lookup t (.map (some b)) (.string x) true).run P w = .ok (.tuple #[z, .bool false]) w := by
  obtain ⟨es, clock, hb, h1, h2⟩ := h
  rcases mp_find hk h1 h2 x hx w with ⟨g1, _⟩ | ⟨j, e0, m', _, _, g3, g4, _⟩
  · simp [Instr.lookup, run_underlying ht, MapKept.run_getObj_map hb, (Maps.string_keyed hk).check w _ (Go.WideMaps.keyOf_string_mk hk hx), g1, hz, Result.andThen]
  · exact absurd g4 (hno m' g3)
theorem only_block (hb : b < w.heap.size) (o : Obj) : Only (one b) w (setBlock w b o) :=
  ⟨rfl, rfl, rfl, by simp [setBlock], fun i hi hn => by
    have : i ≠ b := fun e => hn e
    simp [setBlock, Array.getElem?_setIfInBounds, this.symm]⟩
theorem mp_put (hk : P.underlying k = some .string) (ht : P.underlying t = some (.map k e)) (h : Mp w b l) (m : Mk) (hx : m.k.size ≤ maxLen) (hno : ∀ y ∈ l, y.k ≠ m.k) :
    ∃ w', (Instr.mapUpdate t (.map (some b)) (.string m.k) (.agg #[.int .i64 m.a.c, .int .i64 m.a.s])).run P w = .ok () w' ∧ Mp w' b (m :: l) ∧ Only (one b) w w' := by
  have hlt := h.lt
  obtain ⟨es, clock, hb, h1, h2⟩ := h
  rcases mp_find hk h1 h2 m.k hx w with ⟨g1, _⟩ | ⟨j, e0, m', _, _, g3, g4, _⟩
  · refine ⟨setBlock w b (.map (es.push ⟨.string m.k, .agg #[.int .i64 m.a.c, .int .i64 m.a.s], clock⟩) (clock + 1)), ?_, ⟨_, _, heap_setBlock_same hb _, ?_, ?_⟩, only_block hlt _⟩
    · simp [Instr.mapUpdate, run_underlying ht, MapKept.run_getObj_map hb, (Maps.string_keyed hk).check w false (Go.WideMaps.keyOf_string_mk hk hx), g1, MapKept.run_setObj_map _ hb, Result.andThen, setBlock]
    · rw [Array.toList_push, List.map_append, List.map_singleton, List.map_cons]
      exact (List.perm_append_singleton _ _).trans (h1.cons _)
    · intro y hy
      rcases List.mem_cons.1 hy with rfl | hy
      · exact hx
      · exact h2 y hy
  · exact absurd g4 (hno m' g3)
theorem mp_del (hk : P.underlying k = some .string) (ht : P.underlying t = some (.map k e)) (h : Mp w b l) (hl : Keys_ l) {m : Mk} (hm : m ∈ l) :
    ∃ w', (∀ ty, (Builtin.delete_ #[t, k] ty #[.map (some b), .string m.k]).run P w = .ok (.tuple #[]) w') ∧ Mp w' b (dropM l m.k) ∧ Only (one b) w w' := by
  have hlt := h.lt
  obtain ⟨es, clock, hb, h1, h2⟩ := h
  rcases mp_find hk h1 h2 m.k (h2 m hm) w with ⟨_, g2⟩ | ⟨j, e0, m', g1, g2, g3, g4, g5⟩
  · exact absurd rfl (g2 m hm)
  · obtain rfl := keys_inj hl hm g3 g4.symm
    have hjl : j < es.toList.length := (List.getElem?_eq_some_iff.1 g2).1
    have hjs : j < es.size := by simpa using hjl
    have hsub : (es.eraseIdxIfInBounds j).toList = es.toList.eraseIdx j := by
      unfold Array.eraseIdxIfInBounds
      rw [dif_pos hjs]
      simp
    obtain ⟨i, hi, hmi⟩ := List.mem_iff_getElem.1 hm
    refine ⟨setBlock w b (.map (es.eraseIdxIfInBounds j) clock), fun ty => ?_, ⟨_, _, heap_setBlock_same hb _, ?_, fun y hy => h2 y ((drop_sub l m.k).subset hy)⟩, only_block hlt _⟩
    · simp [Builtin.delete_, run_underlying ht, MapKept.run_getObj_map hb, (Maps.string_keyed hk).check w _ (Go.WideMaps.keyOf_string_mk hk (h2 m hm)), g1, MapKept.run_setObj_map _ hb, Result.andThen, setBlock]
    · have p1 : (mEnt m :: ((es.eraseIdxIfInBounds j).toList.map fun e => (e.key, e.val))).Perm (es.toList.map fun e => (e.key, e.val)) := by
        have e1 : es.toList = es.toList.take j ++ e0 :: es.toList.drop (j + 1) := by
          have e2 : es.toList[j] = e0 := by rw [List.getElem?_eq_getElem hjl] at g2; injection g2
          rw [← e2, List.getElem_cons_drop, List.take_append_drop]
        have e3 : (es.eraseIdxIfInBounds j).toList = es.toList.take j ++ es.toList.drop (j + 1) := by rw [hsub, List.eraseIdx_eq_take_drop_succ]
        have e4 : (es.toList.map fun e => (e.key, e.val)) = ((es.toList.take j).map fun e => (e.key, e.val)) ++ mEnt m :: ((es.toList.drop (j + 1)).map fun e => (e.key, e.val)) := by
          have := congrArg (List.map fun e : MapEntry => (e.key, e.val)) e1
          rw [List.map_append, List.map_cons, g5] at this
          exact this
        rw [e3, e4, List.map_append]
        exact List.perm_middle.symm
      have p2 : (l.map mEnt).Perm (mEnt m :: (dropM l m.k).map mEnt) := by
        have e1 : l = l.take i ++ l[i] :: l.drop (i + 1) := by rw [List.getElem_cons_drop, List.take_append_drop]
        have e2 := drop_at hl i hi
        rw [hmi] at e1 e2
        rw [e2]
        have e3 : l.map mEnt = (l.take i).map mEnt ++ mEnt m :: (l.drop (i + 1)).map mEnt := by
          have := congrArg (List.map mEnt) e1
          rw [List.map_append, List.map_cons] at this
          exact this
        rw [e3, List.map_append]
        exact List.perm_middle
      exact (p1.trans (h1.trans p2)).cons_inv
end

/-- A store into such a map, at the operation. -/
theorem wpList_upd {P : Program} (w : World) {ops : Array Oper} {rest : List Oper} {o : Oper} {a : Act} {Q : Exit → Act → World → Prop}
    (hg : o.guard = none) (m x v : Operand) (t : TypeId) (hop : o.op = Op.mapUpdate t m x v) (vm key val : Value) (hm : a.eval m = vm) (hx : a.eval x = key) (hv : a.eval v = val) {w' : World}
    (hr : (Instr.mapUpdate t vm key val).run P w = .ok () w') (hK : wpList P ops Q rest (a.put o.dst undef) w') : wpList P ops Q (o :: rest) a w := by
  refine wpList_plain hg fun K' hK' => ?_
  unfold Oper.wp
  simp [execOp, hop, hm, hx, hv, hr, Result.andThen]
  exact hK' _ _ hK
end Go.Proofs.Ytclngnoapfjghaa
