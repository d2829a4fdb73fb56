/- Acts with views: how they lie, how they came in. No statement of the seat is proved here. -/
import Derived.Test.YtiigebdmkibnbaaOpenZ
import Derived.Test.YtiigebdmkibnbaaVwI
import Derived.Test.YtiigebdmkibnbaaVwH
import Derived.Lib.SmallJoins
namespace Go.Proofs.Ytiigebdmkibnbaa
open Go.Joins Go.ChangeShapes Go.WideShapes Go.RowKit Go.Deep
set_option linter.all false
set_option maxRecDepth 100000

/-- An act: its kind, its node, who is asked for. -/
structure Va where
  k : Int
  p : Int
  q : Int
def vaRow (a : Va) : List Value := [.int .i64 a.k, .int .i64 a.p, .int .i64 a.q]
theorem vaRow_length (a : Va) : (vaRow a).length = 3 := rfl
theorem trod_v3 {H : Type} {enc : TypeId × Value → H} {P : Program} {w : World} {base : Nat} {spare : Nat → Bool} {held : Bool} {t : TypeId} {f0 f1 f2 : Field} {fuel : Nat} {cs : List Value} {x : DataW H × List MemPlace} (ht : P.underlying t = some (.struct #[f0, f1, f2])) (h : DataW.trod enc P w base spare held fuel t cs = some x) :
    ∃ y0 y1 y2 n, DataW.trod enc P w base spare held n f0.type ((cs.drop f0.offset).take (P.cellsOf f0.type)) = some y0 ∧ DataW.trod enc P w base spare held n f1.type ((cs.drop f1.offset).take (P.cellsOf f1.type)) = some y1 ∧ DataW.trod enc P w base spare held n f2.type ((cs.drop f2.offset).take (P.cellsOf f2.type)) = some y2 := by
  obtain ⟨xs, n, _, _, _, hlen, hf⟩ := DataW.trod_struct ht h
  match xs, hlen with
  | [y0, y1, y2], _ => exact ⟨y0, y1, y2, n, by simpa using hf 0 f0 rfl, by simpa using hf 1 f1 rfl, by simpa using hf 2 f2 rfl⟩
theorem va_cells {H : Type} {enc : TypeId × Value → H} {W : World} (n : Nat) (r : List Value) (y : DataW H × List MemPlace) (hr : r.length = 3) (h : DataW.trod enc Try.prog W 0 (fun _ => true) true n 37 r = some y) :
    ∃ a : Va, r = vaRow a ∧ True := by
  obtain ⟨y0, y1, y2, n', h0, h1, h2⟩ := trod_v3 Try.underlying37 h
  match r, hr with
  | [r0, r1, r2], _ =>
      have e0 : Try.prog.cellsOf 3 = 1 := by kernel_rfl
      simp only [e0, List.drop_zero, List.drop_succ_cons, List.take_succ_cons, List.take_zero] at h0 h1 h2
      obtain ⟨k, q0, _, w0⟩ := DataW.trod_int Try.underlying3 h0
      obtain ⟨m, q1, _, w1⟩ := DataW.trod_int Try.underlying3 h1
      obtain ⟨o, q2, _, w2⟩ := DataW.trod_int Try.underlying3 h2
      simp only [List.cons.injEq, and_true] at q0 q1 q2
      subst q0 q1 q2
      exact ⟨⟨k, m, o⟩, rfl, trivial⟩
theorem vas_arg {H : Type} {enc : TypeId × Value → H} {W : World} {a : Option Addr} {len cap : Nat} {d : DataW H} {p : List MemPlace} (h : DataW.Trod enc Try.prog W 0 (fun _ => true) true 23 (.slice a len cap) d p) :
    ∃ l : List Va, len = l.length ∧ Cel W (fun b => b < W.heap.size) (.slice a len cap) len 3 (l.flatMap vaRow) := by
  obtain ⟨l, h1, h2, _⟩ := cel_in vaRow (fun _ => True) Try.underlying23 (by kernel_rfl) vaRow_length (by omega) (fun n r y hr ht => va_cells n r y hr ht) h
  exact ⟨l, h1, h2⟩
/-- One act of a slice: where it lies. -/
theorem va_at {W w : World} {A : Option Addr} {L c j : Nat} {l : List Va} (h : Cel W (fun b => b < W.heap.size) (.slice A L c) L 3 (l.flatMap vaRow)) {a : Va} (ha : l[j]? = some a) (hl : L = l.length) (o : Only none_ W w) :
    ∃ (b off : Nat), A = some ⟨b, off, none⟩ ∧ w.cell? ⟨b, off + j * 3, none⟩ = some (.int .i64 a.k) ∧ w.cell? ⟨b, off + j * 3 + 1, none⟩ = some (.int .i64 a.p) ∧ w.cell? ⟨b, off + j * 3 + 2, none⟩ = some (.int .i64 a.q) := by
  obtain ⟨A', c', hv, _, _, _, _, h4⟩ := h
  injection hv with e1 e2 e3
  subst e1 e3
  have hj : j < l.length := (List.getElem?_eq_some_iff.1 ha).1
  obtain ⟨b, off, rfl, _, hlt, hc⟩ := h4 (by omega)
  have f := flat_at vaRow vaRow_length l j a ha
  have c0 := (o.cell (p := ⟨b, off + (j * 3 + 0), none⟩) hlt (fun h => h)).trans (hc _ _ (f 0 (by omega)))
  have c1 := (o.cell (p := ⟨b, off + (j * 3 + 1), none⟩) hlt (fun h => h)).trans (hc _ _ (f 1 (by omega)))
  have c2 := (o.cell (p := ⟨b, off + (j * 3 + 2), none⟩) hlt (fun h => h)).trans (hc _ _ (f 2 (by omega)))
  exact ⟨b, off, rfl, c0, c1, c2⟩
/-- A byte's rest, as the walk reckons it. -/
theorem rem_u8 {z n : Int} (h0 : 0 ≤ z) (h1 : z < 256) (hn : 0 < n) : Int.tmod z n = z % n ∧ 0 ≤ z % n ∧ z % n < n :=
  ⟨Int.tmod_eq_emod_of_nonneg h0, Int.emod_nonneg _ (by omega), Int.emod_lt_of_pos _ hn⟩
/-- Views and dice between two acts. -/
structure Vl (W : World) (d : Nat) (s : Vm) (vA vP : Value) (dd : Nat) (vd : Value) (zs : List Int) (w : World) : Prop where
  vs : Vs w W.heap.size d s vA vP dd vd zs
  ho : Only none_ W w
theorem Vl.keep {W w w' : World} {d : Nat} {s : Vm} {vA vP : Value} {dd : Nat} {vd : Value} {zs : List Int} (h : Vl W d s vA vP dd vd zs w) (o : Only none_ w w') : Vl W d s vA vP dd vd zs w' := ⟨h.vs.keep o, h.ho.trans o⟩
theorem Vl.step {W w w' : World} {d : Nat} {s s' : Vm} {vA vP : Value} {dd : Nat} {vd : Value} {zs zs' : List Int} (h : Vl W d s vA vP dd vd zs w) (r : VsR W.heap.size d vA vP dd vd s' zs' w w') :
    ∃ vA' vP' vd', Vl W d s' vA' vP' dd vd' zs' w' ∧ Only (vsb d vA vP dd vd) w w' := by
  obtain ⟨vA', vP', vd', h1, h2, h3⟩ := r
  exact ⟨vA', vP', vd', ⟨h1, h.ho.trans' h2 (fun k hk e => by have := (h.vs.foot e).1; omega)⟩, h2⟩
/-- A box of an act stays. -/
theorem Vl.box {W w w' : World} {d : Nat} {s : Vm} {vA vP : Value} {dd : Nat} {vd : Value} {zs : List Int} {g : Nat} {cs : Array Value} (h : Vl W d s vA vP dd vd zs w) (hb : Blk w g 37 cs) (o : Only (vsb d vA vP dd vd) w w') : Blk w' g 37 cs :=
  hb.only o (h.vs.far hb (by decide) (by decide) (by decide))
/-- What holds once one is raised, as it is asked. -/
theorem mv_raise {s : Vm} {p : Int} {zs : List Int} (h : Vok s) (hm : rsOk s p = true) :
    decide (p ∈ (rsV s p zs).act) = true ∧ decide (p ∈ s.act) = false ∧ ((decide (s.act.length = s.a) = true ∧ 0 ≤ rsG s p zs ∧ decide (rsG s p zs ∈ (rsV s p zs).act) = false ∧ decide (rsG s p zs ∈ (rsV s p zs).pas) = true) ∨ (decide (s.act.length = s.a) = false ∧ rsG s p zs = -1)) := by
  obtain ⟨k1, k2, k3⟩ := rs_node hm
  obtain ⟨_, f3, f4, f5, _⟩ := rs_facts (zs := zs) h hm
  have e0 : rsG s p zs = vputG s.act s.a zs := by rw [rsG, hm]; rfl
  rw [e0]
  refine ⟨by simpa using (f3 p).2 (.inr rfl), by simpa using k3, ?_⟩
  by_cases hl : s.act.length = s.a
  · obtain ⟨g1, g2, g3⟩ := f5 hl
    refine .inl ⟨by simpa using hl, (h.ua.2 _ g1).1, ?_, by simpa using g2⟩
    rw [decide_eq_false_iff_not]
    intro e
    rcases (f3 _).1 e with h1 | h1
    · exact h1.2 rfl
    · exact k3 (h1 ▸ g1)
  · exact .inr ⟨by simpa using hl, f4.2 hl⟩
end Go.Proofs.Ytiigebdmkibnbaa
