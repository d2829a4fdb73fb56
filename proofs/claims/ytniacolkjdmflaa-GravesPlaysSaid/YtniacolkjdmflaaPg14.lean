/- Texts of mine, one behind the other: Rgi, OpenT, OpenE, OpenN, SlG, GvD. No statement of the seat is proved here. -/
import Derived.Test.YtniacolkjdmflaaPg12
import Derived.Test.YtniacolkjdmflaaPg13
import Derived.Test.YtniacolkjdmflaaPg2
import Derived.Test.YtniacolkjdmflaaPg5
import Derived.Test.YtniacolkjdmflaaPg3
section
namespace Go.Proofs.Ytniacolkjdmflaa
open Go.RowKit
set_option maxRecDepth 100000
set_option linter.all false

theorem wplIn_append_cel {P : Program} {w : World} {ops : Array Oper} {rest : List Oper} {o : Oper} {a : Act} {Q : Exit → Act → World → Prop} {l m0 : Nat} (hgd : o.guard = none) (s x : Operand) (t : TypeId)
    (ho : o.op = .call { callee := .builtin .append, args := #[s, x], argTypes := #[t, t] })
    (base : Nat) (e : TypeId) (i : TypeInfo) (z : Value) (size bytes : Nat) (ht : P.underlying t = some (.slice e)) (hi : P.info? e = some i) (hz : i.zero = some z)
    (hsize : i.size = size) (hby : i.bytes = bytes) (hzs : z.cells.size = size) (hsz : 0 < size) (v : Value) (n : Nat) (xs : List Value) (hs : a.eval s = v) (hown : w.ownsRow base e size v n xs)
    (S : Nat → Prop) (A : Value) (m : Nat) (ys : List Value) (hx : a.eval x = A) (hr : Cel w S A m size ys) (h1 : ∀ u ∈ ys, u.oneCell' = true) (h63 : n + m ≤ maxLen) (hbytes : (n + m) * bytes ≤ 140737488355328) (hbase : base ≤ w.heap.size)
    (h : ∀ A' n' c' w', w'.ownsRow base e size (.slice A' n' c') (n + m) (xs ++ ys) → w.grownBy w' v.ownBlock → Moved w v (.slice A' n' c') → wpListIn (Fence.wide.inRound l) m0 P ops Q rest (a.put o.dst (.slice A' n' c')) w') : wpListIn (Fence.wide.inRound l) m0 P ops Q (o :: rest) a w :=
  wpListIn_plain hgd fun _ hK => opIn_round l m0 (fun c e => by rw [ho] at e; cases e) (wp_append_cel w s x t ho base e i z size bytes ht hi hz hsize hby hzs hsz v n xs hs hown S A m ys hx hr h1 h63 hbytes hbase fun A' n' c' w' h2 h3 h4 => hK _ _ (h A' n' c' w' h2 h3 h4))

theorem blk_turn {W W' : World} {b : Nat} {t : TypeId} {cs : Array Value} {row : Option Nat} (h : Blk W b t cs) (hg : W.grownBy W' row) (hr : ∀ r, row = some r → ∃ o : Obj, W.heap[r]? = some o ∧ o.isCells = false) : Blk W' b t cs := by
  refine h.grown' hg ?_
  intro e
  obtain ⟨o, ho, hc⟩ := hr b e
  unfold Blk at h
  rw [h] at ho
  cases ho
  cases hc
theorem own_turn {W W' : World} {base : Nat} {e : TypeId} {size n : Nat} {v : Value} {xs : List Value} {row : Option Nat} (h : W.ownsRow base e size v n xs) (hg : W.grownBy W' row) (hr : ∀ r, row = some r → ∃ o : Obj, W.heap[r]? = some o ∧ o.isCells = false) : W'.ownsRow base e size v n xs := by
  rcases h.2 with ⟨rfl, _⟩ | ⟨g, cap, cur, rfl, _, hh, _⟩
  · exact h.kept hg (.inl rfl)
  · refine h.kept hg (.inr ?_)
    intro e'
    obtain ⟨o, ho, hc⟩ := hr g (by rw [← e']; rfl)
    rw [hh] at ho
    cases ho
    cases hc
theorem own_keeps {W W' : World} {base : Nat} {e : TypeId} {size n : Nat} {v : Value} {xs : List Value} (h : W.ownsRow base e size v n xs) (hg : W.grownBy W' v.ownBlock) : KeepsOthers W W' := by
  refine KeepsOthers.of_grownBy hg ?_
  intro j o hj ho
  rcases h.2 with ⟨rfl, _⟩ | ⟨g, cap, cur, rfl, _, hh, _⟩
  · cases hj
  · have : g = j := by simpa [Value.ownBlock] using hj
    subst this
    rw [hh] at ho
    cases ho
    rfl
/-- What changes cells alone. -/
theorem only_keeps {W W' : World} {S : Nat → Prop} (o : Only S W W') (hS : ∀ k x, S k → W.heap[k]? = some x → x.isCells = true) : KeepsOthers W W' :=
  ⟨o.size, fun k x hk hc => (o.block k (lt_of_obj hk) (fun hs => by rw [hS k x hs hk] at hc; cases hc)).trans hk⟩
theorem blk_is {W : World} {b : Nat} {t : TypeId} {cs : Array Value} (h : Blk W b t cs) {x : Obj} (hx : W.heap[b]? = some x) : x.isCells = true := by
  unfold Blk at h
  rw [h] at hx
  cases hx
  rfl
theorem own_is {W : World} {base : Nat} {e : TypeId} {size n : Nat} {v : Value} {xs : List Value} (h : W.ownsRow base e size v n xs) {k : Nat} (hk : v.ownBlock = some k) {x : Obj} (hx : W.heap[k]? = some x) : x.isCells = true := by
  rcases h.2 with ⟨rfl, _⟩ | ⟨g, cap, cur, rfl, _, hh, _⟩
  · cases hk
  · have : g = k := by simpa [Value.ownBlock] using hk
    subst this
    rw [hh] at hx
    cases hx
    rfl

theorem own_count {w : World} {base : Nat} {e : TypeId} {k n n' c : Nat} {A : Option Addr} {xs : List Value} (h : w.ownsRow base e k (.slice A n' c) n xs) : n' = n := by
  rcases h.2 with ⟨e1, h0⟩ | ⟨g, cap, cur, e1, _⟩
  · injection e1 with _ e2 _; omega
  · injection e1 with _ e2 _
/-- A variable in cell i of a block, and what it owns. -/
def Tv (b i : Nat) (W : World) (k : Nat) : Prop := k = b ∨ ∃ u, W.cell? ⟨b, i, none⟩ = some u ∧ u.ownBlock = some k
theorem tv_stab {b i N : Nat} (h : b < N) : Stab (Tv b i) N := fun W W' hk k ht => by
  rcases ht with rfl | ⟨u, hu, ho⟩
  · exact .inl rfl
  · have e : W'.cell? ⟨b, i, none⟩ = W.cell? ⟨b, i, none⟩ := World.cell?_of_block (hk b h)
    exact .inr ⟨u, e.symm.trans hu, ho⟩
theorem stab_or {T U : World → Nat → Prop} {N : Nat} (h : Stab T N) (k : Stab U N) : Stab (fun W b => T W b ∨ U W b) N := fun W W' hk b ht => ht.imp (h W W' hk b) (k W W' hk b)
theorem tv_at {b i k : Nat} {W : World} {v : Value} (h : W.cell? ⟨b, i, none⟩ = some v) : Tv b i W k ↔ (k = b ∨ v.ownBlock = some k) := by
  constructor
  · rintro (h1 | ⟨u, hu, ho⟩)
    · exact .inl h1
    · rw [h] at hu; injection hu with hu; subst hu; exact .inr ho
  · rintro (h1 | h1)
    · exact .inl h1
    · exact .inr ⟨v, h, h1⟩
theorem kr_alloc {T : World → Nat → Prop} {N l : Nat} {W : World} (hT : Stab T N) (hN : N ≤ W.heap.size) (o : Obj) : Kc T W (W.alloc o) ∧ Ko l W (W.alloc o) :=
  ⟨Kc.alloc hT hN o, fun k x _ hk _ => (Below.heap_alloc W o k (lt_of_obj hk)).trans hk⟩
theorem ko_of {l : Nat} {W W' : World} (h : KeepsOthers W W') : Ko l W W' := fun k o _ hk hc => h.same k o hk hc
end Go.Proofs.Ytniacolkjdmflaa
end
section
namespace Go.Proofs.Ytniacolkjdmflaa
open Go.Joins Go.ChangeShapes Go.WideShapes Go.RowKit Go.Deep
set_option maxRecDepth 100000

def stRow (x : St) : List Value := [.int .i64 x.c, .int .i64 x.s]
theorem stRow_length (x : St) : (stRow x).length = 2 := rfl

/-- A stamp among the cells of an argument. -/
theorem stamp_cells {H : Type} {enc : TypeId × Value → H} {W : World} (n : Nat) (r : List Value) (y : DataW H × List MemPlace) (hr : r.length = 2) (h : DataW.trod enc Try.prog W 0 (fun _ => true) true n 24 r = some y) :
    ∃ x : St, r = stRow x ∧ (-9223372036854775808 ≤ x.c ∧ x.c ≤ 9223372036854775807) := by
  obtain ⟨y0, y1, n', _, _, h0, h1⟩ := trod_struct2 Try.underlying24 h
  match r, hr with
  | [r0, r1], _ =>
    have e0 : Try.prog.cellsOf 3 = 1 := by kernel_rfl
    simp only [e0, List.drop_zero, List.drop_succ_cons, List.take_succ_cons, List.take_zero] at h0 h1
    obtain ⟨c, q0, _, w0⟩ := DataW.trod_int Try.underlying3 h0
    obtain ⟨s, q1, _, w1⟩ := DataW.trod_int Try.underlying3 h1
    simp only [List.cons.injEq, and_true] at q0 q1
    subst q0 q1
    exact ⟨⟨c, s⟩, rfl, bounds_i64 w0⟩

theorem stamp_arg {H : Type} {enc : TypeId × Value → H} {W : World} {r : Reach} {base : Nat} {cs : Array Value} {d : DataW H} {p : List MemPlace} (hv : Value.okWide Try.prog W r base 24 (.agg cs)) (h : DataW.Trod enc Try.prog W 0 (fun _ => true) true 24 (.agg cs) d p) :
    ∃ x : St, cs = #[.int .i64 x.c, .int .i64 x.s] := by
  obtain ⟨v0, v1, y0, y1, n, he, _, _, t0, t1⟩ := open_agg2 Try.underlying24 (by kernel_rfl) (by kernel_rfl) hv h
  injection he with he
  subst he
  obtain ⟨c, e0, _⟩ := DataW.trod_int Try.underlying3 t0
  obtain ⟨s, e1, _⟩ := DataW.trod_int Try.underlying3 t1
  injection e0 with e0
  injection e1 with e1
  subst e0 e1
  exact ⟨⟨c, s⟩, rfl⟩
end Go.Proofs.Ytniacolkjdmflaa
end
section
namespace Go.Proofs.Ytniacolkjdmflaa
open Go.Joins Go.ChangeShapes Go.WideShapes Go.RowKit Go.Deep
set_option maxRecDepth 100000

theorem trod_struct7 {H : Type} {enc : TypeId × Value → H} {P : Program} {w : World} {base : Nat} {spare : Nat → Bool} {held : Bool} {t : TypeId} {f0 f1 f2 f3 f4 f5 f6 : Field} {fuel : Nat} {cs : List Value} {x : DataW H × List MemPlace} (ht : P.underlying t = some (.struct #[f0, f1, f2, f3, f4, f5, f6])) (h : DataW.trod enc P w base spare held fuel t cs = some x) :
    ∃ y0 y1 y2 y3 y4 y5 y6 n, DataW.trod enc P w base spare held n f0.type ((cs.drop f0.offset).take (P.cellsOf f0.type)) = some y0 ∧ DataW.trod enc P w base spare held n f1.type ((cs.drop f1.offset).take (P.cellsOf f1.type)) = some y1 ∧ DataW.trod enc P w base spare held n f2.type ((cs.drop f2.offset).take (P.cellsOf f2.type)) = some y2 ∧ DataW.trod enc P w base spare held n f3.type ((cs.drop f3.offset).take (P.cellsOf f3.type)) = some y3 ∧ DataW.trod enc P w base spare held n f4.type ((cs.drop f4.offset).take (P.cellsOf f4.type)) = some y4 ∧ DataW.trod enc P w base spare held n f5.type ((cs.drop f5.offset).take (P.cellsOf f5.type)) = some y5 ∧ DataW.trod enc P w base spare held n f6.type ((cs.drop f6.offset).take (P.cellsOf f6.type)) = some y6 := by
  obtain ⟨xs, n, _, _, _, hlen, hf⟩ := DataW.trod_struct ht h
  match xs, hlen with
  | [y0, y1, y2, y3, y4, y5, y6], _ => exact ⟨y0, y1, y2, y3, y4, y5, y6, n, by simpa using hf 0 f0 rfl, by simpa using hf 1 f1 rfl, by simpa using hf 2 f2 rfl, by simpa using hf 3 f3 rfl, by simpa using hf 4 f4 rfl, by simpa using hf 5 f5 rfl, by simpa using hf 6 f6 rfl⟩

theorem entry_arg {H : Type} {enc : TypeId × Value → H} {W : World} {cs : Array Value} {d : DataW H} {p : List MemPlace} (hs : cs.size = Try.prog.cellsOf 26) (h : DataW.Trod enc Try.prog W 0 (fun _ => true) true 26 (.agg cs) d p) :
    ∃ e : En, cs = #[.string e.k, .string e.v, .bool e.d, .int .i64 e.s.c, .int .i64 e.s.s, .int .i64 e.a.c, .int .i64 e.a.s, .int .i64 e.p, .int .i64 e.g] := by
  have c9 : Try.prog.cellsOf 26 = 9 := by kernel_rfl
  rw [c9] at hs
  obtain ⟨fuel, hf⟩ := h
  obtain ⟨y0, y1, y2, y3, y4, y5, y6, n, g0, g1, g2, g3, g4, g5, g6⟩ := trod_struct7 Try.underlying26 hf
  obtain ⟨l⟩ := cs
  match l, hs with
  | [c0, c1, c2, c3, c4, c5, c6, c7, c8], _ =>
      have e9 : Try.prog.cellsOf 9 = 1 := by kernel_rfl
      have e4 : Try.prog.cellsOf 4 = 1 := by kernel_rfl
      have e3 : Try.prog.cellsOf 3 = 1 := by kernel_rfl
      have e2 : Try.prog.cellsOf 24 = 2 := by kernel_rfl
      simp only [Value.cells, e9, e4, e3, e2, List.drop_zero, List.drop_succ_cons, List.take_succ_cons, List.take_zero] at g0 g1 g2 g3 g4 g5 g6
      obtain ⟨s0, q0, _, _⟩ := DataW.trod_string Try.underlying9 g0
      obtain ⟨s1, q1, _, _⟩ := DataW.trod_string Try.underlying9 g1
      obtain ⟨b2, q2, _⟩ := DataW.trod_bool Try.underlying4 g2
      obtain ⟨t3, q3, _⟩ := stamp_cells n _ _ rfl g3
      obtain ⟨t4, q4, _⟩ := stamp_cells n _ _ rfl g4
      obtain ⟨n5, q5, _, _⟩ := DataW.trod_int Try.underlying3 g5
      obtain ⟨n6, q6, _, _⟩ := DataW.trod_int Try.underlying3 g6
      simp only [stRow, List.cons.injEq, and_true] at q0 q1 q2 q3 q4 q5 q6
      obtain ⟨q3, q3'⟩ := q3
      obtain ⟨q4, q4'⟩ := q4
      subst q0 q1 q2 q3 q3' q4 q4' q5 q6
      exact ⟨⟨s0, s1, b2, t3, t4, n5, n6⟩, rfl⟩
end Go.Proofs.Ytniacolkjdmflaa
end
section
namespace Go.Proofs.Ytniacolkjdmflaa
open Go.Joins Go.ChangeShapes Go.WideShapes Go.RowKit Go.Deep
set_option maxRecDepth 100000

def enRow (e : En) : List Value := [.string e.k, .string e.v, .bool e.d, .int .i64 e.s.c, .int .i64 e.s.s, .int .i64 e.a.c, .int .i64 e.a.s, .int .i64 e.p, .int .i64 e.g]
theorem enRow_length (e : En) : (enRow e).length = 9 := rfl
theorem en_cells {H : Type} {enc : TypeId × Value → H} {W : World} (n : Nat) (r : List Value) (y : DataW H × List MemPlace) (hr : r.length = 9) (h : DataW.trod enc Try.prog W 0 (fun _ => true) true n 26 r = some y) :
    ∃ x : En, r = enRow x ∧ True := by
  obtain ⟨y0, y1, y2, y3, y4, y5, y6, n, g0, g1, g2, g3, g4, g5, g6⟩ := trod_struct7 Try.underlying26 h
  match r, hr with
  | [c0, c1, c2, c3, c4, c5, c6, c7, c8], _ =>
      have e9 : Try.prog.cellsOf 9 = 1 := by kernel_rfl
      have e4 : Try.prog.cellsOf 4 = 1 := by kernel_rfl
      have e3 : Try.prog.cellsOf 3 = 1 := by kernel_rfl
      have e2 : Try.prog.cellsOf 24 = 2 := by kernel_rfl
      simp only [e9, e4, e3, e2, List.drop_zero, List.drop_succ_cons, List.take_succ_cons, List.take_zero] at g0 g1 g2 g3 g4 g5 g6
      obtain ⟨s0, q0, _, _⟩ := DataW.trod_string Try.underlying9 g0
      obtain ⟨s1, q1, _, _⟩ := DataW.trod_string Try.underlying9 g1
      obtain ⟨b2, q2, _⟩ := DataW.trod_bool Try.underlying4 g2
      obtain ⟨t3, q3, _⟩ := stamp_cells n _ _ rfl g3
      obtain ⟨t4, q4, _⟩ := stamp_cells n _ _ rfl g4
      obtain ⟨n5, q5, _, _⟩ := DataW.trod_int Try.underlying3 g5
      obtain ⟨n6, q6, _, _⟩ := DataW.trod_int Try.underlying3 g6
      simp only [stRow, List.cons.injEq, and_true] at q0 q1 q2 q3 q4 q5 q6
      obtain ⟨q3, q3'⟩ := q3
      obtain ⟨q4, q4'⟩ := q4
      subst q0 q1 q2 q3 q3' q4 q4' q5 q6
      exact ⟨⟨s0, s1, b2, t3, t4, n5, n6⟩, rfl, trivial⟩
theorem entries_arg {H : Type} {enc : TypeId × Value → H} {W : World} {a : Option Addr} {len cap : Nat} {d : DataW H} {p : List MemPlace} (h : DataW.Trod enc Try.prog W 0 (fun _ => true) true 34 (.slice a len cap) d p) :
    ∃ l : List En, len = l.length ∧ Cel W (fun b => b < W.heap.size) (.slice a len cap) len 9 (l.flatMap enRow) := by
  obtain ⟨l, h1, h2, _⟩ := cel_in enRow _ Try.underlying34 (by kernel_rfl) enRow_length (by omega) (fun n r y hr ht => en_cells n r y hr ht) h
  exact ⟨l, h1, h2⟩
end Go.Proofs.Ytniacolkjdmflaa
end
section
namespace Go.Proofs.Ytniacolkjdmflaa
open Go.RowKit
set_option linter.all false

/-- A slice of n elements of type e, k cells each, that read as l; it lies from block B on, and is the call's own. -/
def SlO {α : Type} (f : α → List Value) (k B : Nat) (e : TypeId) (n : Nat) (l : List α) (v : Value) (w : World) : Prop := ∃ A c, v = .slice A n c ∧ w.ownsRow B e k (.slice A n c) n (l.flatMap f)
section
variable {α : Type} {f : α → List Value} {k B M n : Nat} {e : TypeId} {l : List α} {v : Value} {w w' : World}
theorem SlO.only {S : Nat → Prop} (h : SlO f k B e n l v w) (o : Only S w w') (hn : ∀ b, v.ownBlock = some b → ¬ S b) : SlO f k B e n l v w' := by
  obtain ⟨A, c, e1, h⟩ := h
  subst e1
  exact ⟨A, c, rfl, owns_only h o hn⟩
theorem SlO.keep (h : SlO f k B e n l v w) (o : Only none_ w w') : SlO f k B e n l v w' := h.only o (fun _ _ h => h)
theorem SlO.of (h : w.ownsRow B e k v l.length (l.flatMap f)) (hn : l.length = n) (hb : M ≤ B) : SlO f k M e n l v w := by
  subst hn
  have h := owns_base h hb
  rcases h.2 with ⟨rfl, h0⟩ | ⟨_, _, _, rfl, _⟩
  · exact ⟨none, 0, by rw [h0], by rw [h0]; rw [h0] at h; exact h⟩
  · exact ⟨_, _, rfl, h⟩
/-- What is read at an element. -/
theorem own_elem {A : Option Addr} {c : Nat} (hk : ∀ x, (f x).length = k) (h0 : 0 < k) (h : w.ownsRow M e k (.slice A n c) n (l.flatMap f)) (hn : l.length = n) {i : Nat} {m : α} (hm : l[i]? = some m) :
    ∃ b, A = some ⟨b, 0, none⟩ ∧ ∀ j u, (f m)[j]? = some u → w.cell? ⟨b, i * k + j, none⟩ = some u := by
  obtain ⟨hi, he⟩ := List.getElem?_eq_some_iff.1 hm
  rcases id h.2 with ⟨h1, h2⟩ | ⟨b, cap, cur, h1, hb, hh, hnc, hcm, hcs, htk⟩
  · omega
  · injection h1 with h1 h2 h3
    subst h1
    have e1 : ∀ j : Nat, (⟨b, 0, none⟩ : Addr).add j = ⟨b, j, none⟩ := fun j => by unfold Addr.add; split <;> simp_all
    refine ⟨b, rfl, fun j u hu => ?_⟩
    have hj : j < k := by have := (List.getElem?_eq_some_iff.1 hu).1; rwa [hk] at this
    have := h.cells (g := b) rfl (i * k + j) u (by rw [flat_at f hk l i m hm j hj]; exact hu)
    rwa [e1] at this
/-- The same, at a block that is known. -/
theorem own_elem_at {b c : Nat} (hk : ∀ x, (f x).length = k) (h0 : 0 < k) (h : w.ownsRow M e k (.slice (some ⟨b, 0, none⟩) n c) n (l.flatMap f)) (hn : l.length = n) {i : Nat} {m : α} (hm : l[i]? = some m) :
    ∀ j u, (f m)[j]? = some u → w.cell? ⟨b, i * k + j, none⟩ = some u := by
  obtain ⟨b', e1, h1⟩ := own_elem hk h0 h hn hm
  injection e1 with e1
  injection e1 with e1
  subst e1
  exact h1
/-- Its first cell, as addresses are spelled. -/
theorem own_elem_0 {b c : Nat} (hk : ∀ x, (f x).length = k) (h0 : 0 < k) (h : w.ownsRow M e k (.slice (some ⟨b, 0, none⟩) n c) n (l.flatMap f)) (hn : l.length = n) {i : Nat} {m : α} (hm : l[i]? = some m) {u : Value} (hu : (f m)[0]? = some u) :
    w.cell? ⟨b, i * k, none⟩ = some u := own_elem_at hk h0 h hn hm 0 u hu
/-- A slice that came in, at an element. -/
theorem in_elem {S : Nat → Prop} {A : Option Addr} {c : Nat} (hk : ∀ x, (f x).length = k) (h0 : 0 < k) (h : Cel w S (.slice A n c) n k (l.flatMap f)) (hn : l.length = n) {i : Nat} {m : α} (hm : l[i]? = some m) :
    ∃ b off, A = some ⟨b, off, none⟩ ∧ S b ∧ b < w.heap.size ∧ ∀ w', Only none_ w w' → ∀ j u, (f m)[j]? = some u → w'.cell? ⟨b, off + i * k + j, none⟩ = some u := by
  obtain ⟨hi, he⟩ := List.getElem?_eq_some_iff.1 hm
  obtain ⟨A', c', e1, _, _, _, _, h4⟩ := h
  injection e1 with e1 _ e3
  subst e1 e3
  obtain ⟨b, off, rfl, hs, hlt, hc⟩ := h4 (by omega)
  refine ⟨b, off, rfl, hs, hlt, fun w' o j u hu => ?_⟩
  have hj : j < k := by have := (List.getElem?_eq_some_iff.1 hu).1; rwa [hk] at this
  rw [Nat.add_assoc]
  exact (o.cell (p := ⟨b, off + (i * k + j), none⟩) hlt (fun h => h)).trans (hc _ _ (by rw [flat_at f hk l i m hm j hj]; exact hu))
/-- One element in a block, as a slice. -/
theorem one_elem {b : Nat} {t : TypeId} {cs : Array Value} (h : Blk w b t cs) (hk : cs.size = k) : Cel w (fun j => j = b) (.slice (some ⟨b, 0, none⟩) 1 1) 1 k cs.toList :=
  ⟨_, 1, rfl, by simp [hk], Nat.le_refl _, by simp [maxLen], fun e => (by cases e), fun _ => ⟨b, 0, rfl, rfl, h.lt, fun j u hu => by rw [Nat.zero_add, h.cell]; simpa using hu⟩⟩
end
/-- Rows of unlike types share no block. -/
theorem own_apart {w : World} {b b' s s' n n' : Nat} {e e' : TypeId} {v v' : Value} {xs ys : List Value} (h : w.ownsRow b e s v n xs) (h' : w.ownsRow b' e' s' v' n' ys) (hne : e ≠ e') : ∀ k, v.ownBlock = some k → v'.ownBlock ≠ some k := by
  intro k hk hk'
  rcases h.2 with ⟨rfl, _⟩ | ⟨g, cap, cur, rfl, _, hh, _⟩
  · cases hk
  · rcases h'.2 with ⟨rfl, _⟩ | ⟨g', cap', cur', rfl, _, hh', _⟩
    · cases hk'
    · have e1 : some g = some k := hk
      have e2 : some g' = some k := hk'
      injection e1 with e1
      injection e2 with e2
      subst e1
      subst e2
      rw [hh] at hh'
      injection hh' with hh'
      injection hh' with _ hh' _
      exact hne hh'
end Go.Proofs.Ytniacolkjdmflaa
end
section
namespace Go.Proofs.Ytniacolkjdmflaa
open Go.RowKit Go.Shelf
set_option maxRecDepth 100000
set_option linter.all false
attribute [local go_sem] Oper.semAt_some

/-- Graves in block g, their table in block tb, v the value of its pairs; all that was there in B is as it was. -/
structure Gv (B : World) (g tb : Nat) (site t2 : Int) (l : List En) (v : Value) (w : World) : Prop where
  bk : Blk w g 60 #[.pointer (some ⟨tb, 0, none⟩), .string ⟨#[]⟩, .pointer none, .int .i64 site, .int .i64 t2]
  ge : B.heap.size ≤ g
  t : Se.Tb B tb 4096 (prs l) v w
/-- Their blocks. -/
def gfoot (g tb : Nat) (v : Value) : Nat → Prop := fun k => k = g ∨ foot tb v k
section
variable {B w w' : World} {g tb : Nat} {site t2 : Int} {l : List En} {v : Value}
theorem Gv.keep (s : Gv B g tb site t2 l v w) (o : Only none_ w w') : Gv B g tb site t2 l v w' := ⟨s.bk.only o (fun h => h), s.ge, s.t.keep o⟩
theorem Gv.apart {S : Nat → Prop} (s : Gv B g tb site t2 l v w) (o : Only S w w') (hn : ∀ k, gfoot g tb v k → ¬ S k) (hS : ∀ k, S k → B.heap.size ≤ k) : Gv B g tb site t2 l v w' :=
  ⟨s.bk.only o (hn g (.inl rfl)), s.ge, s.t.apart o (fun k hk => hn k (.inr hk)) hS⟩
theorem Gv.sh (s : Gv B g tb site t2 l v w) : Sh w g tb := ⟨s.bk.cell_ (i := 0) rfl, s.bk.cell_ (i := 2) rfl⟩
theorem Gv.ho (s : Gv B g tb site t2 l v w) : Only none_ B w := s.t.ho
theorem Gv.ml (s : Gv B g tb site t2 l v w) : l.length ≤ 4096 := by have := s.t.ml; rwa [prs_length] at this
theorem Gv.ris (s : Gv B g tb site t2 l v w) : RisE l := ris_prs s.t.rs
theorem Gv.foot_ge (s : Gv B g tb site t2 l v w) {k : Nat} (h : gfoot g tb v k) : B.heap.size ≤ k ∧ k < w.heap.size := by
  rcases h with rfl | h
  · exact ⟨s.ge, s.bk.lt⟩
  · exact s.t.foot_ge h
end
theorem prs_rows (l : List En) : (prs l).flatMap (fun p => enRow p.v) = l.flatMap enRow := by
  unfold prs
  rw [List.flatMap_map]

theorem api_info : (Try.prog.info? 51).map (fun i => (i.zero, i.size, i.bytes)) = some (some (.agg #[.string ⟨#[]⟩, .string ⟨#[]⟩, .bool false, .int .i64 0, .int .i64 0, .int .i64 0, .int .i64 0, .int .i64 0, .int .i64 0]), 9, 88) := by kernel_rfl
theorem row_one (e : En) : ∀ u ∈ enRow e, u.oneCell' = true := by
  intro u hu
  simp only [enRow, List.mem_cons, List.not_mem_nil, or_false] at hu
  rcases hu with rfl | rfl | rfl | rfl | rfl | rfl | rfl | rfl | rfl <;> rfl

/-- Between two rounds: the list so far, in a variable of its own. -/
structure Av (w : World) (M box : Nat) (pre : List (Pr En)) (W : World) : Prop where
  ex : ∃ v', Blk W box 67 #[v'] ∧ W.ownsRow M 51 9 v' pre.length (pre.flatMap fun p => enRow p.v)
  ho : Only none_ w W
  sz : M ≤ W.heap.size
theorem Av.own (w : World) (M box : Nat) (hs : w.heap.size ≤ M) : OwnFrom M (Av w M box) := by
  intro s W W' row h hg hr
  obtain ⟨v', b1, ow⟩ := h.ex
  have hr' := fun r e => (hr r e).2
  exact ⟨⟨v', blk_turn b1 hg hr', own_turn ow hg hr'⟩, h.ho.grown hg (fun k e => .inr (Nat.le_trans hs (hr k e).1)), Nat.le_trans h.sz hg.size⟩

set_option maxHeartbeats 12800000 in
theorem gv_all (B : World) (g tb : Nat) (site t2 : Int) (l : List En) (v : Value) (w : World) (h : Gv B g tb site t2 l v w) :
    Calls Try.prog 28 #[.pointer (some ⟨g, 0, none⟩)] w fun E w' => ∃ v', E = .returned v' ∧ w'.ownsRow w.heap.size 51 9 v' l.length (l.flatMap enRow) ∧ Only none_ w w' := by
  obtain ⟨i0, hi0, hz0, hz1, hz2⟩ := info_parts api_info
  obtain ⟨w2, hw2⟩ : ∃ w2, (w.alloc (.cells #[.slice none 0 0] 67)).alloc (.cells #[.pointer (some ⟨g, 0, none⟩)] 56) = w2 := ⟨_, rfl⟩
  have o2 : Only none_ w w2 := by rw [← hw2]; exact ((Only.refl none_ w).alloc _).alloc _
  have hsz : w2.heap.size = w.heap.size + 2 := by rw [← hw2, World.size_alloc, World.size_alloc]
  have bB : Blk w2 w.heap.size 67 #[.slice none 0 0] := by rw [← hw2]; exact (Blk.new w _ _).alloc _
  have bS : Blk w2 (w.heap.size + 1) 56 #[.pointer (some ⟨g, 0, none⟩)] := by
    rw [← hw2]
    have := Blk.new (w.alloc (.cells #[.slice none 0 0] 67)) 56 #[.pointer (some ⟨g, 0, none⟩)]
    rwa [World.size_alloc] at this
  have hgl := h.bk.lt
  have h2 := h.keep o2
  have hml := h.ml
  have HE := Lib.hid (sh_each g (w.alloc (.cells #[.slice none 0 0] 67)))
  rw [World.size_alloc, hw2] at HE
  have hT : Stab (Tv w.heap.size 0) (w.heap.size + 1) := tv_stab (by omega)
  have htv : ∀ b, Tv w.heap.size 0 w2 b → b = w.heap.size := fun b hb => by
    rcases (tv_at (bB.cell_ (i := 0) rfl)).1 hb with h1 | h1
    · exact h1
    · cases h1
  have GO := Lib.hid (each1_goes (Tv w.heap.size 0) (w.heap.size + 1) hT (w.heap.size + 1) g tb l v B w2 (by omega) (fun b hb => by rw [htv b hb]; omega) bS h2.sh (fun hb => by have := htv _ hb; omega) (by omega) h2.t)
  have HT := Lib.hid hT
  have NUM : Hid (w2.heap.size = w.heap.size + 2 ∧ l.length ≤ 4096) := ⟨hsz, hml⟩
  have I0 : Hid (Av w w2.heap.size w.heap.size [] w2) := ⟨⟨_, bB, World.ownsRow_nil _ _ _ _⟩, o2, Nat.le_refl _⟩
  have HPR := Lib.hid (prs_rows l)
  have HPL := Lib.hid (prs_length l)
  clear h h2 hgl hml bB bS o2 hT htv
  refine (callsIn_wide (n := 5)).1 ?_
  refine callsIn_of_wp_marks Try.func28 rfl trivial ?_ rfl
  simp only [Try.ntmps28, List.append_toArray, List.size_toArray, List.length_cons, List.length_nil, Nat.reduceAdd, Nat.reduceSub, Array.replicate_succ, Array.replicate_zero, List.push_toArray, List.append_toArray, List.nil_append, List.cons_append]
  clear hw2 hsz
  gi_wp2_with (refine ⟨trivial, ?_⟩; refine (callsIn_wide.2 HE.out).mono ?_; rintro e w2 ⟨rfl, rfl⟩)
  refine range_goes (n := 4) (gf := 75) (lb := #[.pointer (some ⟨w.heap.size + 1, 0, none⟩)]) rfl (enters_of Try.func75 (by kernel_rfl) rfl)
    GO.out (Below.refl _ _) (fun _ => rfl) (fun h k => h.trans k) (fun X r r' hr => ⟨Kc.putObj HT.out _ (by have := NUM.out; omega) hr rfl, fun k o hk ho _ => (World.putObj_heap_other hk).trans ho⟩)
    (Av w w2.heap.size w.heap.size) (Av.own w w2.heap.size w.heap.size (by have := NUM.out; omega)) I0.out ?hround ?hdone
  case hround =>
    intro pre x X hlx hi hlen
    have HI := Lib.hid hi
    have HLN : Hid (pre.length + 1 ≤ 4096) := by have h1 := NUM.out; have h2 := HPL.out; have h3 := hlen.length_le; simp only [List.length_append, List.length_cons, List.length_nil] at h3; rw [Hid]; omega
    clear hi hlen
    obtain ⟨kk, vk, vv, vd, ⟨sc, ss⟩, ⟨ac, as_⟩, vp, vg⟩ := x
    gi_wp2
    have hwX : w.heap.size + 2 ≤ X.heap.size := by have := NUM.out; have := HI.out.sz; omega
    refine ⟨(KeepsOthers.alloc _ _).from _, own_new (Av.own w w2.heap.size w.heap.size (by have := NUM.out; omega)) ((Only.refl none_ X).alloc _) HI.out, fun r ⟨r0, hr0⟩ hi2 => ?_⟩
    have k1 : Kc (Tv w.heap.size 0) X ((X.alloc (.cells #[.string vk, .string vv, .bool vd, .int .i64 sc, .int .i64 ss, .int .i64 ac, .int .i64 as_, .int .i64 vp, .int .i64 vg] 51)).putObj (w2.heap.size + 1) (.loop r)) := (Kc.alloc HT.out (by omega) _).trans (Kc.putObj HT.out _ (by have := NUM.out; omega) hr0 rfl)
    have ko1 : Ko (w2.heap.size + 1) X ((X.alloc (.cells #[.string vk, .string vv, .bool vd, .int .i64 sc, .int .i64 ss, .int .i64 ac, .int .i64 as_, .int .i64 vp, .int .i64 vg] 51)).putObj (w2.heap.size + 1) (.loop r)) := fun k o hk ho _ => (World.putObj_heap_other hk).trans ((Below.heap_alloc X _ k (lt_of_obj ho)).trans ho)
    have BE : Hid (Blk ((X.alloc (.cells #[.string vk, .string vv, .bool vd, .int .i64 sc, .int .i64 ss, .int .i64 ac, .int .i64 as_, .int .i64 vp, .int .i64 vg] 51)).putObj (w2.heap.size + 1) (.loop r)) X.heap.size 51 #[.string vk, .string vv, .bool vd, .int .i64 sc, .int .i64 ss, .int .i64 ac, .int .i64 as_, .int .i64 vp, .int .i64 vg]) :=
      (Blk.new X _ _).grown' (grownBy_putObj' _ _ _) (fun e => by injection e with e; omega)
    generalize (X.alloc (.cells #[.string vk, .string vv, .bool vd, .int .i64 sc, .int .i64 ss, .int .i64 ac, .int .i64 as_, .int .i64 vp, .int .i64 vg] 51)).putObj (w2.heap.size + 1) (.loop r) = Y at hi2 BE k1 ko1
    have K1 := Lib.hid k1
    have KO1 := Lib.hid ko1
    clear k1 ko1 hr0
    obtain ⟨v2, b2, ow2⟩ := hi2.ex
    obtain ⟨A2, n2, c2, rfl⟩ := own_shape ow2
    obtain ⟨k, hk⟩ : ∃ k, pre.length = k := ⟨_, rfl⟩
    have HK := Lib.hid hk
    rw [hk] at ow2
    obtain rfl : n2 = k := own_count ow2
    clear hk
    have cB := b2.cell_ (i := 0) rfl
    have z0 := BE.out.cell_ (i := 0) rfl
    have z1 := BE.out.cell_ (i := 1) rfl
    have z2 := BE.out.cell_ (i := 2) rfl
    have z3 := BE.out.cell_ (i := 3) rfl
    have z4 := BE.out.cell_ (i := 4) rfl
    have z5 := BE.out.cell_ (i := 5) rfl
    have z6 := BE.out.cell_ (i := 6) rfl
    have z7 := BE.out.cell_ (i := 7) rfl
    have z8 := BE.out.cell_ (i := 8) rfl
    have O3 := Lib.hid ((Only.refl none_ Y).alloc (.cells #[.string vk, .string vv, .bool vd, .int .i64 sc, .int .i64 ss, .int .i64 ac, .int .i64 as_, .int .i64 vp, .int .i64 vg] 51))
    have OW3 := Lib.hid (owns_only ow2 O3.out (fun _ _ h => h))
    have B3 := Lib.hid (b2.only O3.out (fun h => h))
    have CM := Lib.hid (cel_made Y 51 9 1 #[.string vk, .string vv, .bool vd, .int .i64 sc, .int .i64 ss, .int .i64 ac, .int .i64 as_, .int .i64 vp, .int .i64 vg] rfl (by simp [maxLen]))
    have ONE : Hid (∀ u ∈ (#[.string vk, .string vv, .bool vd, .int .i64 sc, .int .i64 ss, .int .i64 ac, .int .i64 as_, .int .i64 vp, .int .i64 vg] : Array Value).toList, u.oneCell' = true) := row_one ⟨vk, vv, vd, ⟨sc, ss⟩, ⟨ac, as_⟩, vp, vg⟩
    have MX : Hid (n2 + 1 ≤ maxLen ∧ (n2 + 1) * 88 ≤ 140737488355328) := by have := HLN.out; have := HK.out; simp only [Hid, maxLen]; omega
    have SZ : Hid (w2.heap.size ≤ (Y.alloc (.cells #[.string vk, .string vv, .bool vd, .int .i64 sc, .int .i64 ss, .int .i64 ac, .int .i64 as_, .int .i64 vp, .int .i64 vg] 51)).heap.size) := by have := hi2.sz; rw [Hid, World.size_alloc]; omega
    have AV := Lib.hid hi2
    have B2 := Lib.hid b2
    have OW2 := Lib.hid ow2
    clear ow2 b2 hi2 HI hlx hwX
    gi_wp2_with (first
      | (gi_at_builtin; refine wplIn_append_cel rfl (.tmp 12) (.tmp 14) 67 rfl w2.heap.size 51 i0 _ 9 88 Try.underlying67 hi0 hz0 hz1 hz2 rfl (by omega) (.slice A2 n2 c2) n2 _ rfl OW3.out _ _ 1 _ rfl CM.out ONE.out MX.out.1 MX.out.2 SZ.out ?_
         intro A5 n5 c5 w5 hown5 hgrow5 hmv5
         have O5 : Hid (Only (fun k => (Value.slice A2 n2 c2).ownBlock = some k) Y w5) := (O3.out.of_none).trans' ((Only.refl (fun k => (Value.slice A2 n2 c2).ownBlock = some k) _).grown hgrow5 (fun k e => .inl e)) (fun k _ h => h)
         have B5 : Hid (Blk w5 w.heap.size 67 #[.slice A2 n2 c2]) := B3.out.grown' hgrow5 (own_blk_ne OW3.out B3.out (by decide))
         have q5 := B5.out.cell_ (i := 0) rfl
         have f5 := B5.out.frozen 0
         have H5 := Lib.hid (And.intro hown5 hmv5)
         clear hown5 hgrow5 hmv5))
    have o6 : Only (one w.heap.size) w5 (w5.setCell ⟨w.heap.size, 0, none⟩ (.slice A5 n5 c5)) := (Only.refl (one w.heap.size) w5).setCell (.inl (show one w.heap.size w.heap.size from rfl)) _
    have O6 : Only (fun k => k = w.heap.size ∨ (Value.slice A2 n2 c2).ownBlock = some k) Y (w5.setCell ⟨w.heap.size, 0, none⟩ (.slice A5 n5 c5)) :=
      (O5.out.mono (fun k _ h => .inr h)).trans' o6 (fun k _ e => .inl e)
    have B6 := B5.out.set_ 0 (.slice A5 n5 c5)
    have hne : (Value.slice A5 n5 c5).ownBlock ≠ some w.heap.size := own_blk_ne H5.out.1 B5.out (by decide)
    have KE := only_keeps O6 (fun k x hS hx => by
      rcases hS with rfl | hS
      · exact blk_is B2.out hx
      · exact own_is OW2.out hS hx)
    have hX : X.heap.size = X.heap.size := rfl
    refine ⟨KE.from _, ⟨K1.out.trans (Kc.of_only O6 (fun b _ hS => (tv_at (B2.out.cell_ (i := 0) rfl)).2 hS) (fun b hb => ?_)), fun k o hk ho hc => KE.same k o (KO1.out k o hk ho hc) hc⟩, ⟨⟨_, B6, ?_⟩, ?_, Nat.le_trans AV.out.sz O6.size⟩⟩
    · rcases (tv_at (B6.cell_ (i := 0) rfl)).1 hb with h1 | h1
      · exact .inl (.inl h1)
      · rcases H5.out.2 b h1 with h2 | h2
        · exact .inl ((tv_at (B2.out.cell_ (i := 0) rfl)).2 (.inr h2))
        · exact .inr (by rw [World.size_alloc] at h2; omega)
    · have hr := owns_only H5.out.1 o6 (fun b hb e => hne (by rw [hb, show b = w.heap.size from e]))
      rw [List.length_append, List.flatMap_append, HK.out]
      exact hr
    · exact AV.out.ho.trans' O6 (fun b hb hS => by
        rcases hS with rfl | hS
        · omega
        · have h1 := (OW2.out.lt b hS).1; have h2 := NUM.out; omega)
  case hdone =>
    intro D X hD hi hdef
    obtain ⟨v2, b2, ow2⟩ := hi.ex
    obtain ⟨A2, n2, c2, rfl⟩ := own_shape ow2
    have cB := b2.cell_ (i := 0) rfl
    have OW := Lib.hid ow2
    have HO := Lib.hid hi.ho
    have HDF := Lib.hid hdef
    clear ow2 hi b2 hdef
    gi_wp2
    refine ⟨by simp, .inl ⟨_, _, rfl, run_takeDeferred HDF.out, ?_⟩⟩
    have hDg := grownBy_putObj' X D (.deferred none)
    have hDr : ∀ r, some D = some r → ∃ o : Obj, X.heap[r]? = some o ∧ o.isCells = false := fun r e => by cases e; exact ⟨_, HDF.out, rfl⟩
    refine ⟨_, results_tmp rfl _ _ _, _, rfl, ?_, HO.out.grown hDg (fun k e => by cases e; exact .inr (by have := NUM.out; omega))⟩
    have := own_turn OW.out hDg hDr
    rw [HPR.out, HPL.out] at this
    exact owns_base this (by have := NUM.out; omega)
end Go.Proofs.Ytniacolkjdmflaa
end
