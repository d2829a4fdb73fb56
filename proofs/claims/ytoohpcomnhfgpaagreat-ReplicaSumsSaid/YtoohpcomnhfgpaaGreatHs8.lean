/- Texts of mine, one behind the other: TbXr, Rgi, OpenT, OpenE, OpenN, SlG, GvD, StL, GvE, GvF, GvG, CrcM, CrcX, OctR, OctD, OctE, OctU. No statement of the seat is proved here. -/
import Derived.OrdersIn
import Derived.RangeFuncCalls
import Derived.OwnWalkIn
import Derived.Test.YtoohpcomnhfgpaaGreatHs1
import Derived.Test.YtoohpcomnhfgpaaGreatHs7
import Derived.Test.YtoohpcomnhfgpaaGreatHs4
import Derived.LoopTactic
import Derived.Deep.RegionHeld3
import Derived.Test.YtoohpcomnhfgpaaGreatHs2
import Derived.Deep.DeepCutAuto
import Derived.WalkKit
import Derived.Test.YtoohpcomnhfgpaaGreatHs3
section
namespace Go.Proofs.YtoohpcomnhfgpaaGreat
set_option linter.all false
theorem opIn_round {P : Program} {o : Oper} {a : Act} {w : World} {K : Act → World → Prop} {Q : Exit → Act → World → Prop} (l n : Nat) (hd : ∀ c, o.op ≠ .defer c) (h : o.wp P a w K Q) : o.wpIn (Fence.wide.inRound l) n P a w K Q := by
  refine ⟨fun _ _ => trivial, ?_⟩
  rw [Oper.semAt_plain _ _ _ hd]
  unfold Oper.wp at h
  generalize (execOp a.eval o).run P w = r at *
  cases r with
  | ok x w' =>
    cases x with
    | enter f args => exact ⟨(fun h => by cases h), CallsIn.inRound l (callsIn_wide.2 h)⟩
    | row row args => exact ⟨(fun h => by cases h), fun c cs _ => let ⟨v, w', r, s⟩ := h c cs; ⟨v, w', r, stepsIn_wide.2 s⟩⟩
    | round _ _ _ _ _ => exact h.elim
    | _ => exact h
  | halt x w' => cases x <;> exact h
theorem anyIn_round {P : Program} {md : Region.Mode} {ops : Array Oper} {Q : Exit → Act → World → Prop} (l n : Nat) (hd : ∀ (i : Nat) (o : Oper), ops[i]? = some o → ∀ c, o.op ≠ .defer c) (hQ : ¬ LetsOut Q) :
    ∀ (fuel : Nat) (listed : Array Bool) (a : Act) (w : World), wpAny P md ops Q fuel listed a w → wpAnyIn (Fence.wide.inRound l) n P md ops Q fuel listed a w
  | 0, _, _, _, h => h
  | fuel + 1, listed, a, w, h => by
    refine ⟨h.1, fun i hi => ?_⟩
    have h1 := h.2 i hi
    unfold wpOp at h1
    unfold wpOpIn
    cases ho : ops[i]? with
    | none => rw [ho] at h1; exact anyIn_round l n hd hQ fuel _ _ _ h1
    | some o =>
      rw [ho] at h1
      dsimp only at h1 ⊢
      split
      · rename_i hw
        rw [if_pos hw] at h1
        rcases h1 with h1 | ⟨_, h1⟩
        · exact Oper.wpIn_mono (fun a w => anyIn_round l n hd hQ fuel _ a w) (opIn_round l n (hd i o ho) h1)
        · exact absurd h1 hQ
      · rename_i hw
        rw [if_neg hw] at h1
        exact ⟨fun _ _ => trivial, anyIn_round l n hd hQ fuel _ _ _ h1⟩
def noDefer (o : Oper) : Bool := match o.op with | .defer _ => false | _ => true
theorem region_round {P : Program} {ops : Array Oper} {Q : Exit → Act → World → Prop} {id : Nat} {a : Act} {w : World} (l n : Nat) (hm : P.follows .mixedOrders = true) (hd : ops.all noDefer = true) (hQ : ¬ LetsOut Q)
    (h : wpAny P .any ops Q ops.size (Array.replicate ops.size false) a w.drew) : (Code.region id ops true).wpIn (Fence.wide.inRound l) n P Q a w :=
  wpIn_region_any hm (anyIn_round l n (fun i o ho c e => by
    have h1 := (Array.all_eq_true.1 hd) i (Array.getElem?_eq_some_iff.1 ho).1
    rw [(Array.getElem?_eq_some_iff.1 ho).2] at h1
    simp [noDefer, e] at h1) hQ _ _ _ _ h)
end Go.Proofs.YtoohpcomnhfgpaaGreat
end
section
namespace Go.Proofs.YtoohpcomnhfgpaaGreat
open Go.RowKit
set_option maxRecDepth 100000
set_option linter.all false
theorem wplIn_append_cel {P : Program} {w : World} {ops : Array Oper} {rest : List Oper} {o : Oper} {a : Act} {Q : Exit → Act → World → Prop} {l m0 : Nat} (hgd : o.guard = none) (s x : Operand) (t : TypeId)
    (ho : o.op = .call { callee := .builtin .append, args := #[s, x], argTypes := #[t, t] })
    (base : Nat) (e : TypeId) (i : TypeInfo) (z : Value) (size bytes : Nat) (ht : P.underlying t = some (.slice e)) (hi : P.info? e = some i) (hz : i.zero = some z)
    (hsize : i.size = size) (hby : i.bytes = bytes) (hzs : z.cells.size = size) (hsz : 0 < size) (v : Value) (n : Nat) (xs : List Value) (hs : a.eval s = v) (hown : w.ownsRow base e size v n xs)
    (S : Nat → Prop) (A : Value) (m : Nat) (ys : List Value) (hx : a.eval x = A) (hr : Cel w S A m size ys) (h1 : ∀ u ∈ ys, u.oneCell' = true) (h63 : n + m ≤ maxLen) (hbytes : (n + m) * bytes ≤ 140737488355328) (hbase : base ≤ w.heap.size)
    (h : ∀ A' n' c' w', w'.ownsRow base e size (.slice A' n' c') (n + m) (xs ++ ys) → w.grownBy w' v.ownBlock → Moved w v (.slice A' n' c') → wpListIn (Fence.wide.inRound l) m0 P ops Q rest (a.put o.dst (.slice A' n' c')) w') : wpListIn (Fence.wide.inRound l) m0 P ops Q (o :: rest) a w :=
  wpListIn_plain hgd fun _ hK => opIn_round l m0 (fun c e => by rw [ho] at e; cases e) (wp_append_cel w s x t ho base e i z size bytes ht hi hz hsize hby hzs hsz v n xs hs hown S A m ys hx hr h1 h63 hbytes hbase fun A' n' c' w' h2 h3 h4 => hK _ _ (h A' n' c' w' h2 h3 h4))
theorem blk_turn {W W' : World} {b : Nat} {t : TypeId} {cs : Array Value} {row : Option Nat} (h : Blk W b t cs) (hg : W.grownBy W' row) (hr : ∀ r, row = some r → ∃ o : Obj, W.heap[r]? = some o ∧ o.isCells = false) : Blk W' b t cs := by
  refine h.grown' hg ?_
  intro e
  obtain ⟨o, ho, hc⟩ := hr b e
  unfold Blk at h
  rw [h] at ho
  cases ho
  cases hc
theorem own_turn {W W' : World} {base : Nat} {e : TypeId} {size n : Nat} {v : Value} {xs : List Value} {row : Option Nat} (h : W.ownsRow base e size v n xs) (hg : W.grownBy W' row) (hr : ∀ r, row = some r → ∃ o : Obj, W.heap[r]? = some o ∧ o.isCells = false) : W'.ownsRow base e size v n xs := by
  rcases h.2 with ⟨rfl, _⟩ | ⟨g, cap, cur, rfl, _, hh, _⟩
  · exact h.kept hg (.inl rfl)
  · refine h.kept hg (.inr ?_)
    intro e'
    obtain ⟨o, ho, hc⟩ := hr g (by rw [← e']; rfl)
    rw [hh] at ho
    cases ho
    cases hc
theorem only_keeps {W W' : World} {S : Nat → Prop} (o : Only S W W') (hS : ∀ k x, S k → W.heap[k]? = some x → x.isCells = true) : KeepsOthers W W' :=
  ⟨o.size, fun k x hk hc => (o.block k (lt_of_obj hk) (fun hs => by rw [hS k x hs hk] at hc; cases hc)).trans hk⟩
theorem blk_is {W : World} {b : Nat} {t : TypeId} {cs : Array Value} (h : Blk W b t cs) {x : Obj} (hx : W.heap[b]? = some x) : x.isCells = true := by
  unfold Blk at h
  rw [h] at hx
  cases hx
  rfl
theorem own_is {W : World} {base : Nat} {e : TypeId} {size n : Nat} {v : Value} {xs : List Value} (h : W.ownsRow base e size v n xs) {k : Nat} (hk : v.ownBlock = some k) {x : Obj} (hx : W.heap[k]? = some x) : x.isCells = true := by
  rcases h.2 with ⟨rfl, _⟩ | ⟨g, cap, cur, rfl, _, hh, _⟩
  · cases hk
  · have : g = k := by simpa [Value.ownBlock] using hk
    subst this
    rw [hh] at hx
    cases hx
    rfl
theorem own_count {w : World} {base : Nat} {e : TypeId} {k n n' c : Nat} {A : Option Addr} {xs : List Value} (h : w.ownsRow base e k (.slice A n' c) n xs) : n' = n := by
  rcases h.2 with ⟨e1, h0⟩ | ⟨g, cap, cur, e1, _⟩
  · injection e1 with _ e2 _; omega
  · injection e1 with _ e2 _
def Tv (b i : Nat) (W : World) (k : Nat) : Prop := k = b ∨ ∃ u, W.cell? ⟨b, i, none⟩ = some u ∧ u.ownBlock = some k
theorem tv_stab {b i N : Nat} (h : b < N) : Stab (Tv b i) N := fun W W' hk k ht => by
  rcases ht with rfl | ⟨u, hu, ho⟩
  · exact .inl rfl
  · have e : W'.cell? ⟨b, i, none⟩ = W.cell? ⟨b, i, none⟩ := World.cell?_of_block (hk b h)
    exact .inr ⟨u, e.symm.trans hu, ho⟩
theorem stab_or {T U : World → Nat → Prop} {N : Nat} (h : Stab T N) (k : Stab U N) : Stab (fun W b => T W b ∨ U W b) N := fun W W' hk b ht => ht.imp (h W W' hk b) (k W W' hk b)
theorem tv_at {b i k : Nat} {W : World} {v : Value} (h : W.cell? ⟨b, i, none⟩ = some v) : Tv b i W k ↔ (k = b ∨ v.ownBlock = some k) := by
  constructor
  · rintro (h1 | ⟨u, hu, ho⟩)
    · exact .inl h1
    · rw [h] at hu; injection hu with hu; subst hu; exact .inr ho
  · rintro (h1 | h1)
    · exact .inl h1
    · exact .inr ⟨v, h, h1⟩
end Go.Proofs.YtoohpcomnhfgpaaGreat
end
section
namespace Go.Proofs.YtoohpcomnhfgpaaGreat
open Go.Joins Go.ChangeShapes Go.WideShapes Go.RowKit Go.Deep
set_option maxRecDepth 100000
def stRow (x : St) : List Value := [.int .i64 x.c, .int .i64 x.s]
theorem stamp_cells {H : Type} {enc : TypeId × Value → H} {W : World} (n : Nat) (r : List Value) (y : DataW H × List MemPlace) (hr : r.length = 2) (h : DataW.trod enc Tryz.prog W 0 (fun _ => true) true n 48 r = some y) :
    ∃ x : St, r = stRow x ∧ (-9223372036854775808 ≤ x.c ∧ x.c ≤ 9223372036854775807) := by
  obtain ⟨y0, y1, n', _, _, h0, h1⟩ := trod_struct2 Tryz.underlying48 h
  match r, hr with
  | [r0, r1], _ =>
    have e0 : Tryz.prog.cellsOf 3 = 1 := by kernel_rfl
    simp only [e0, List.drop_zero, List.drop_succ_cons, List.take_succ_cons, List.take_zero] at h0 h1
    obtain ⟨c, q0, _, w0⟩ := DataW.trod_int Tryz.underlying3 h0
    obtain ⟨s, q1, _, w1⟩ := DataW.trod_int Tryz.underlying3 h1
    simp only [List.cons.injEq, and_true] at q0 q1
    subst q0 q1
    exact ⟨⟨c, s⟩, rfl, bounds_i64 w0⟩
end Go.Proofs.YtoohpcomnhfgpaaGreat
end
section
namespace Go.Proofs.YtoohpcomnhfgpaaGreat
open Go.Joins Go.ChangeShapes Go.WideShapes Go.RowKit Go.Deep
set_option maxRecDepth 100000
theorem trod_struct7 {H : Type} {enc : TypeId × Value → H} {P : Program} {w : World} {base : Nat} {spare : Nat → Bool} {held : Bool} {t : TypeId} {f0 f1 f2 f3 f4 f5 f6 : Field} {fuel : Nat} {cs : List Value} {x : DataW H × List MemPlace} (ht : P.underlying t = some (.struct #[f0, f1, f2, f3, f4, f5, f6])) (h : DataW.trod enc P w base spare held fuel t cs = some x) :
    ∃ y0 y1 y2 y3 y4 y5 y6 n, DataW.trod enc P w base spare held n f0.type ((cs.drop f0.offset).take (P.cellsOf f0.type)) = some y0 ∧ DataW.trod enc P w base spare held n f1.type ((cs.drop f1.offset).take (P.cellsOf f1.type)) = some y1 ∧ DataW.trod enc P w base spare held n f2.type ((cs.drop f2.offset).take (P.cellsOf f2.type)) = some y2 ∧ DataW.trod enc P w base spare held n f3.type ((cs.drop f3.offset).take (P.cellsOf f3.type)) = some y3 ∧ DataW.trod enc P w base spare held n f4.type ((cs.drop f4.offset).take (P.cellsOf f4.type)) = some y4 ∧ DataW.trod enc P w base spare held n f5.type ((cs.drop f5.offset).take (P.cellsOf f5.type)) = some y5 ∧ DataW.trod enc P w base spare held n f6.type ((cs.drop f6.offset).take (P.cellsOf f6.type)) = some y6 := by
  obtain ⟨xs, n, _, _, _, hlen, hf⟩ := DataW.trod_struct ht h
  match xs, hlen with
  | [y0, y1, y2, y3, y4, y5, y6], _ => exact ⟨y0, y1, y2, y3, y4, y5, y6, n, by simpa using hf 0 f0 rfl, by simpa using hf 1 f1 rfl, by simpa using hf 2 f2 rfl, by simpa using hf 3 f3 rfl, by simpa using hf 4 f4 rfl, by simpa using hf 5 f5 rfl, by simpa using hf 6 f6 rfl⟩
end Go.Proofs.YtoohpcomnhfgpaaGreat
end
section
namespace Go.Proofs.YtoohpcomnhfgpaaGreat
open Go.Joins Go.ChangeShapes Go.WideShapes Go.RowKit Go.Deep
set_option maxRecDepth 100000
def enRow (e : En) : List Value := [.string e.k, .string e.v, .bool e.d, .int .i64 e.s.c, .int .i64 e.s.s, .int .i64 e.a.c, .int .i64 e.a.s, .int .i64 e.p, .int .i64 e.g]
theorem enRow_length (e : En) : (enRow e).length = 9 := rfl
theorem en_cells {H : Type} {enc : TypeId × Value → H} {W : World} (n : Nat) (r : List Value) (y : DataW H × List MemPlace) (hr : r.length = 9) (h : DataW.trod enc Tryz.prog W 0 (fun _ => true) true n 50 r = some y) :
    ∃ x : En, r = enRow x ∧ True := by
  obtain ⟨y0, y1, y2, y3, y4, y5, y6, n, g0, g1, g2, g3, g4, g5, g6⟩ := trod_struct7 Tryz.underlying50 h
  match r, hr with
  | [c0, c1, c2, c3, c4, c5, c6, c7, c8], _ =>
      have e9 : Tryz.prog.cellsOf 9 = 1 := by kernel_rfl
      have e4 : Tryz.prog.cellsOf 4 = 1 := by kernel_rfl
      have e3 : Tryz.prog.cellsOf 3 = 1 := by kernel_rfl
      have e2 : Tryz.prog.cellsOf 48 = 2 := by kernel_rfl
      simp only [e9, e4, e3, e2, List.drop_zero, List.drop_succ_cons, List.take_succ_cons, List.take_zero] at g0 g1 g2 g3 g4 g5 g6
      obtain ⟨s0, q0, _, _⟩ := DataW.trod_string Tryz.underlying9 g0
      obtain ⟨s1, q1, _, _⟩ := DataW.trod_string Tryz.underlying9 g1
      obtain ⟨b2, q2, _⟩ := DataW.trod_bool Tryz.underlying4 g2
      obtain ⟨t3, q3, _⟩ := stamp_cells n _ _ rfl g3
      obtain ⟨t4, q4, _⟩ := stamp_cells n _ _ rfl g4
      obtain ⟨n5, q5, _, _⟩ := DataW.trod_int Tryz.underlying3 g5
      obtain ⟨n6, q6, _, _⟩ := DataW.trod_int Tryz.underlying3 g6
      simp only [stRow, List.cons.injEq, and_true] at q0 q1 q2 q3 q4 q5 q6
      obtain ⟨q3, q3'⟩ := q3
      obtain ⟨q4, q4'⟩ := q4
      subst q0 q1 q2 q3 q3' q4 q4' q5 q6
      exact ⟨⟨s0, s1, b2, t3, t4, n5, n6⟩, rfl, trivial⟩
end Go.Proofs.YtoohpcomnhfgpaaGreat
end
section
namespace Go.Proofs.YtoohpcomnhfgpaaGreat
open Go.RowKit
set_option linter.all false
def SlO {α : Type} (f : α → List Value) (k B : Nat) (e : TypeId) (n : Nat) (l : List α) (v : Value) (w : World) : Prop := ∃ A c, v = .slice A n c ∧ w.ownsRow B e k (.slice A n c) n (l.flatMap f)
section
variable {α : Type} {f : α → List Value} {k B M n : Nat} {e : TypeId} {l : List α} {v : Value} {w w' : World}
theorem SlO.only {S : Nat → Prop} (h : SlO f k B e n l v w) (o : Only S w w') (hn : ∀ b, v.ownBlock = some b → ¬ S b) : SlO f k B e n l v w' := by
  obtain ⟨A, c, e1, h⟩ := h
  subst e1
  exact ⟨A, c, rfl, owns_only h o hn⟩
theorem SlO.keep (h : SlO f k B e n l v w) (o : Only none_ w w') : SlO f k B e n l v w' := h.only o (fun _ _ h => h)
theorem SlO.of (h : w.ownsRow B e k v l.length (l.flatMap f)) (hn : l.length = n) (hb : M ≤ B) : SlO f k M e n l v w := by
  subst hn
  have h := owns_base h hb
  rcases h.2 with ⟨rfl, h0⟩ | ⟨_, _, _, rfl, _⟩
  · exact ⟨none, 0, by rw [h0], by rw [h0]; rw [h0] at h; exact h⟩
  · exact ⟨_, _, rfl, h⟩
theorem in_elem {S : Nat → Prop} {A : Option Addr} {c : Nat} (hk : ∀ x, (f x).length = k) (h0 : 0 < k) (h : Cel w S (.slice A n c) n k (l.flatMap f)) (hn : l.length = n) {i : Nat} {m : α} (hm : l[i]? = some m) :
    ∃ b off, A = some ⟨b, off, none⟩ ∧ S b ∧ b < w.heap.size ∧ ∀ w', Only none_ w w' → ∀ j u, (f m)[j]? = some u → w'.cell? ⟨b, off + i * k + j, none⟩ = some u := by
  obtain ⟨hi, he⟩ := List.getElem?_eq_some_iff.1 hm
  obtain ⟨A', c', e1, _, _, _, _, h4⟩ := h
  injection e1 with e1 _ e3
  subst e1 e3
  obtain ⟨b, off, rfl, hs, hlt, hc⟩ := h4 (by omega)
  refine ⟨b, off, rfl, hs, hlt, fun w' o j u hu => ?_⟩
  have hj : j < k := by have := (List.getElem?_eq_some_iff.1 hu).1; rwa [hk] at this
  rw [Nat.add_assoc]
  exact (o.cell (p := ⟨b, off + (i * k + j), none⟩) hlt (fun h => h)).trans (hc _ _ (by rw [flat_at f hk l i m hm j hj]; exact hu))
end
theorem own_apart {w : World} {b b' s s' n n' : Nat} {e e' : TypeId} {v v' : Value} {xs ys : List Value} (h : w.ownsRow b e s v n xs) (h' : w.ownsRow b' e' s' v' n' ys) (hne : e ≠ e') : ∀ k, v.ownBlock = some k → v'.ownBlock ≠ some k := by
  intro k hk hk'
  rcases h.2 with ⟨rfl, _⟩ | ⟨g, cap, cur, rfl, _, hh, _⟩
  · cases hk
  · rcases h'.2 with ⟨rfl, _⟩ | ⟨g', cap', cur', rfl, _, hh', _⟩
    · cases hk'
    · have e1 : some g = some k := hk
      have e2 : some g' = some k := hk'
      injection e1 with e1
      injection e2 with e2
      subst e1
      subst e2
      rw [hh] at hh'
      injection hh' with hh'
      injection hh' with _ hh' _
      exact hne hh'
end Go.Proofs.YtoohpcomnhfgpaaGreat
end
section
namespace Go.Proofs.YtoohpcomnhfgpaaGreat
open Go.RowKit Go.Shelf
set_option maxRecDepth 100000
set_option linter.all false
attribute [local go_sem] Oper.semAt_some
structure Gv (B : World) (g tb : Nat) (site t2 : Int) (l : List En) (v : Value) (w : World) : Prop where
  bk : Blk w g 263 #[.pointer (some ⟨tb, 0, none⟩), .string ⟨#[]⟩, .pointer none, .int .i64 site, .int .i64 t2]
  ge : B.heap.size ≤ g
  t : Se.Tb B tb 4096 (prs l) v w
def gfoot (g tb : Nat) (v : Value) : Nat → Prop := fun k => k = g ∨ foot tb v k
section
variable {B w w' : World} {g tb : Nat} {site t2 : Int} {l : List En} {v : Value}
theorem Gv.keep (s : Gv B g tb site t2 l v w) (o : Only none_ w w') : Gv B g tb site t2 l v w' := ⟨s.bk.only o (fun h => h), s.ge, s.t.keep o⟩
theorem Gv.apart {S : Nat → Prop} (s : Gv B g tb site t2 l v w) (o : Only S w w') (hn : ∀ k, gfoot g tb v k → ¬ S k) (hS : ∀ k, S k → B.heap.size ≤ k) : Gv B g tb site t2 l v w' :=
  ⟨s.bk.only o (hn g (.inl rfl)), s.ge, s.t.apart o (fun k hk => hn k (.inr hk)) hS⟩
theorem Gv.sh (s : Gv B g tb site t2 l v w) : Sh w g tb := ⟨s.bk.cell_ (i := 0) rfl, s.bk.cell_ (i := 2) rfl⟩
theorem Gv.ho (s : Gv B g tb site t2 l v w) : Only none_ B w := s.t.ho
theorem Gv.ml (s : Gv B g tb site t2 l v w) : l.length ≤ 4096 := by have := s.t.ml; rwa [prs_length] at this
theorem Gv.ris (s : Gv B g tb site t2 l v w) : RisE l := ris_prs s.t.rs
theorem Gv.foot_ge (s : Gv B g tb site t2 l v w) {k : Nat} (h : gfoot g tb v k) : B.heap.size ≤ k ∧ k < w.heap.size := by
  rcases h with rfl | h
  · exact ⟨s.ge, s.bk.lt⟩
  · exact s.t.foot_ge h
end
theorem prs_rows (l : List En) : (prs l).flatMap (fun p => enRow p.v) = l.flatMap enRow := by
  unfold prs
  rw [List.flatMap_map]
theorem api_info : (Tryz.prog.info? 82).map (fun i => (i.zero, i.size, i.bytes)) = some (some (.agg #[.string ⟨#[]⟩, .string ⟨#[]⟩, .bool false, .int .i64 0, .int .i64 0, .int .i64 0, .int .i64 0, .int .i64 0, .int .i64 0]), 9, 88) := by kernel_rfl
theorem row_one (e : En) : ∀ u ∈ enRow e, u.oneCell' = true := by
  intro u hu
  simp only [enRow, List.mem_cons, List.not_mem_nil, or_false] at hu
  rcases hu with rfl | rfl | rfl | rfl | rfl | rfl | rfl | rfl | rfl <;> rfl
structure Av (w : World) (M box : Nat) (pre : List (Pr En)) (W : World) : Prop where
  ex : ∃ v', Blk W box 96 #[v'] ∧ W.ownsRow M 82 9 v' pre.length (pre.flatMap fun p => enRow p.v)
  ho : Only none_ w W
  sz : M ≤ W.heap.size
theorem Av.own (w : World) (M box : Nat) (hs : w.heap.size ≤ M) : OwnFrom M (Av w M box) := by
  intro s W W' row h hg hr
  obtain ⟨v', b1, ow⟩ := h.ex
  have hr' := fun r e => (hr r e).2
  exact ⟨⟨v', blk_turn b1 hg hr', own_turn ow hg hr'⟩, h.ho.grown hg (fun k e => .inr (Nat.le_trans hs (hr k e).1)), Nat.le_trans h.sz hg.size⟩
end Go.Proofs.YtoohpcomnhfgpaaGreat
end
section
namespace Go.Proofs.YtoohpcomnhfgpaaGreat
open Go.RowKit
set_option linter.all false
set_option maxRecDepth 100000
def stCells : List St → List Value
  | [] => []
  | x :: l => .int .i64 x.c :: .int .i64 x.s :: stCells l
theorem stCells_at : ∀ (l : List St) (k : Nat) (y : St), l[k]? = some y → (stCells l)[k * 2]? = some (.int .i64 y.c) ∧ (stCells l)[k * 2 + 1]? = some (.int .i64 y.s)
  | [], k, y, h => by simp at h
  | x :: l, 0, y, h => by
    have : x = y := by simpa using h
    subst this
    exact ⟨rfl, rfl⟩
  | x :: l, k + 1, y, h => by
    obtain ⟨h1, h2⟩ := stCells_at l k y (by simpa using h)
    rw [show (k + 1) * 2 = k * 2 + 1 + 1 from by omega]
    exact ⟨h1, h2⟩
structure MaxAt (B : World) (g : Nat) (m : St) (w : World) : Prop where
  blk : Blk w g 80 #[.int .i64 m.c, .int .i64 m.s]
  ho : Only (one g) B w
structure MaxIn (B : World) (b o g : Nat) (y m : St) (w : World) : Prop where
  y0 : w.cell? ⟨b, o, none⟩ = some (.int .i64 y.c)
  y1 : w.cell? ⟨b, o + 1, none⟩ = some (.int .i64 y.s)
  blk : Blk w g 80 #[.int .i64 m.c, .int .i64 m.s]
  ho : Only none_ B w
  lt : b < B.heap.size
section
variable {B w w' : World} {b o g : Nat} {y m : St}
theorem MaxIn.keep (h : MaxIn B b o g y m w) (k : Only none_ w w') : MaxIn B b o g y m w' :=
  ⟨(k.cell (p := ⟨b, o, none⟩) (Nat.lt_of_lt_of_le h.lt h.ho.size) (fun x => x)).trans h.y0, (k.cell (p := ⟨b, o + 1, none⟩) (Nat.lt_of_lt_of_le h.lt h.ho.size) (fun x => x)).trans h.y1, h.blk.only k (fun x => x), h.ho.trans k, h.lt⟩
theorem MaxIn.cells (h : MaxIn B b o g y m w) : (w.cell? ⟨b, o, none⟩ = some (.int .i64 y.c) ∧ w.cell? ⟨b, o + 1, none⟩ = some (.int .i64 y.s)) ∧ w.cell? ⟨g, 0, none⟩ = some (.int .i64 m.c) ∧ w.cell? ⟨g, 1, none⟩ = some (.int .i64 m.s) :=
  ⟨⟨h.y0, h.y1⟩, h.blk.cell_ rfl, h.blk.cell_ rfl⟩
end
theorem fold_snoc {l : List St} {k : Nat} (h : k < l.length) (x : St) : (l.take (k + 1)).foldl stMax x = stMax ((l.take k).foldl stMax x) l[k] := by
  rw [List.take_succ_eq_append_getElem h, List.foldl_append]
  rfl
set_option maxHeartbeats 1600000 in
theorem maxFunc (x : St) (l : List St) (v : Value) (S : Nat → Prop) (w : World) (hx : Cel w S v (l.length + 1) 2 (stCells (x :: l))) (hS : ∀ b, S b → b < w.heap.size) (hl : l.length + 1 ≤ 9223372036854775807) :
    Calls Tryz.prog 281 #[v, .func (.func 140) #[] #[]] w fun e w' => e = .returned (.agg #[.int .i64 (stLatest (x :: l)).c, .int .i64 (stLatest (x :: l)).s]) ∧ Only none_ w w' := by
  obtain ⟨A, c, rfl, h0, h1, h2, h3, h4⟩ := hx
  obtain ⟨b, off, rfl, hb, hlt, hc⟩ := h4 (by omega)
  have c0 : w.cell? ⟨b, off, none⟩ = _ := hc 0 _ rfl
  have c1 := hc 1 _ rfl
  obtain ⟨L, hL⟩ : ∃ L, L = l.length + 1 := ⟨_, rfl⟩
  rw [← hL] at h1 hl ⊢
  have hL1 : decide ((L : Int) < 1) = false := by rw [hL]; simp; omega
  have hLp : (0 : Int) < (L : Int) := by rw [hL]; omega
  have hLn : 0 < L := by omega
  have HL := Lib.hid hL
  have HC := Lib.hid hc
  have HR := Lib.hid (Blk.new w 80 #[.int .i64 0, .int .i64 0])
  clear h3 h4 hc h0 hL
  go_enter Tryz.func281, Tryz.ntmps281
  go_wp2_with fail
  have M0 := Lib.hid (MaxAt.mk (B := (w.alloc (.cells #[.int .i64 0, .int .i64 0] 80)).alloc (.cells #[.int .i64 x.c, .int .i64 x.s] 80)) (Blk.new (w.alloc (.cells #[.int .i64 0, .int .i64 0] 80)) 80 #[.int .i64 x.c, .int .i64 x.s]) (Only.refl _ _))
  have O0 := Lib.hid (((Only.refl none_ w).alloc (.cells #[.int .i64 0, .int .i64 0] 80)).alloc (.cells #[.int .i64 x.c, .int .i64 x.s] 80))
  have R0 := Lib.hid (HR.out.alloc (.cells #[.int .i64 x.c, .int .i64 x.s] 80))
  have HG : Hid (w.heap.size + 1 = (w.alloc (.cells #[.int .i64 0, .int .i64 0] 80)).heap.size) := by simp [Hid]
  rw [← HG.out] at M0
  have HGB : Hid (b < w.heap.size) := hlt
  clear HR c0 c1 hlt
  generalize (w.alloc (.cells #[.int .i64 0, .int .i64 0] 80)).alloc (.cells #[.int .i64 x.c, .int .i64 x.s] 80) = W2 at *
  clear HG
  go_loopw [6] (fun i wr => ∃ k : Nat, k ≤ l.length ∧ i = .int .i64 ((k : Int) + 1) ∧ MaxAt W2 (w.heap.size + 1) ((l.take k).foldl stMax x) wr) (fun i _ => l.length + 1 - (intOf i).toNat)
  case atStart => exact ⟨0, Nat.zero_le _, rfl, M0.out⟩
  case round =>
    obtain ⟨k, hk, rfl, hm⟩ := hrel
    have HM := Lib.hid hm
    clear hm
    by_cases hlt : k < l.length
    · have hkL : decide ((k : Int) + 1 < (L : Int)) = true := by have := HL.out; simp; omega
      have hkn : k + 1 < L := by have := HL.out; omega
      have hkI : (k : Int) + 1 < (L : Int) := by omega
      have hk0 : (0 : Int) ≤ (k : Int) + 1 := by omega
      have HF := Lib.hid (fold_snoc hlt x)
      obtain ⟨y, hy⟩ : ∃ y, y = l[k] := ⟨_, rfl⟩
      rw [← hy] at HF
      have hyat : (x :: l)[k + 1]? = some y := by rw [hy]; simp [hlt]
      obtain ⟨ya, yb⟩ := stCells_at _ _ _ hyat
      obtain ⟨m, hmm⟩ : ∃ m, m = (l.take k).foldl stMax x := ⟨_, rfl⟩
      rw [← hmm] at HM HF
      have HI : Hid (MaxIn wr b (off + (k + 1) * 2) (w.heap.size + 1) y m wr) := by
        have o1 := (O0.out.of_none (S := one (w.heap.size + 1))).trans HM.out.ho
        have hne : ¬ one (w.heap.size + 1) b := fun e => by have : b = w.heap.size + 1 := e; have := HGB.out; omega
        exact ⟨(o1.cell (p := ⟨b, off + (k + 1) * 2, none⟩) HGB.out hne).trans (HC.out _ _ ya), (o1.cell (p := ⟨b, off + ((k + 1) * 2 + 1), none⟩) HGB.out hne).trans (HC.out _ _ yb), HM.out.blk, Only.refl _ _, Nat.lt_of_lt_of_le HGB.out o1.size⟩
      have HMo := Lib.hid HM.out.ho
      obtain ⟨r, hr⟩ : ∃ r, stCmp y m = r := ⟨_, rfl⟩
      have HR := Lib.hid hr
      clear HM hmm hy hyat ya yb
      have z0 := Lib.hid (HI.out.blk.frozen 0)
      have z1 := Lib.hid (HI.out.blk.frozen 1)
      by_cases hp : 0 < r
      · have hX : Hid (stMax m y = y) := by rw [Hid, stMax, hr, if_pos hp]
        clear hr
        go_wp2_with fail
        have t0 := HI.out.keep (Only.refl none_ wr).drew
        go_region_held3 (fun w' => (w'.cell? ⟨b, off + (k + 1) * 2, none⟩ = some (.int .i64 y.c) ∧ w'.cell? ⟨b, off + (k + 1) * 2 + 1, none⟩ = some (.int .i64 y.s)) ∧ w'.cell? ⟨w.heap.size + 1, 0, none⟩ = some (.int .i64 m.c) ∧ w'.cell? ⟨w.heap.size + 1, 1, none⟩ = some (.int .i64 m.s))
          (with_reducible exact MaxIn.cells (by assumption))
          (first
            | (go_at_call 140; refine (st_compare _ _ _ _ _).mono ?_; rintro e w5 ⟨rfl, o5⟩; rw [HR.out]; have t5 := MaxIn.keep (by assumption) o5; clear o5))
        obtain ⟨⟨y0, y1⟩, m0, m1⟩ := t5.cells
        have z0 := t5.blk.frozen 0
        have z1 := t5.blk.frozen 1
        have T5 := Lib.hid t5
        clear t0 t5
        go_wp2_with fail
        go_roundw
        case rel =>
          refine ⟨k + 1, by omega, by go_num, ?_, ?_⟩
          · rw [HF.out, hX.out]
            have := (T5.out.blk.set_ 0 (.int .i64 y.c)).set_ 1 (.int .i64 y.s)
            simpa using this
          · exact (((HMo.out).trans T5.out.ho.of_none).setCell (p := ⟨w.heap.size + 1, 0, none⟩) (.inl rfl) _).setCell (p := ⟨w.heap.size + 1, 1, none⟩) (.inl rfl) _
        case measure => simp [intOf]; omega
      · have hX : Hid (stMax m y = m) := by rw [Hid, stMax, hr, if_neg hp]
        clear hr
        go_wp2_with fail
        have t0 := HI.out.keep (Only.refl none_ wr).drew
        go_region_held3 (fun w' => (w'.cell? ⟨b, off + (k + 1) * 2, none⟩ = some (.int .i64 y.c) ∧ w'.cell? ⟨b, off + (k + 1) * 2 + 1, none⟩ = some (.int .i64 y.s)) ∧ w'.cell? ⟨w.heap.size + 1, 0, none⟩ = some (.int .i64 m.c) ∧ w'.cell? ⟨w.heap.size + 1, 1, none⟩ = some (.int .i64 m.s))
          (with_reducible exact MaxIn.cells (by assumption))
          (first
            | (go_at_call 140; refine (st_compare _ _ _ _ _).mono ?_; rintro e w5 ⟨rfl, o5⟩; rw [HR.out]; have t5 := MaxIn.keep (by assumption) o5; clear o5))
        have T5 := Lib.hid t5
        clear t0 t5
        go_wp2_with fail
        go_roundw
        case rel =>
          refine ⟨k + 1, by omega, by go_num, ?_, (HMo.out).trans T5.out.ho.of_none⟩
          rw [HF.out, hX.out]
          exact T5.out.blk
        case measure => simp [intOf]; omega
    · have hkL : decide ((k : Int) + 1 < (L : Int)) = false := by have := HL.out; simp; omega
      obtain ⟨m, hmm⟩ : ∃ m, m = (l.take k).foldl stMax x := ⟨_, rfl⟩
      rw [← hmm] at HM
      have m0 := HM.out.blk.cell_ (i := 0) rfl
      have m1 := HM.out.blk.cell_ (i := 1) rfl
      have HME : Hid (stLatest (x :: l) = m) := by rw [Hid, hmm, List.take_of_length_le (by omega)]; rfl
      have RR := Lib.hid (R0.out.only HM.out.ho (fun e => by have : w.heap.size = w.heap.size + 1 := e; omega))
      have r0 := RR.out.cell_ (i := 0) rfl
      have r1 := RR.out.cell_ (i := 1) rfl
      have z0 := RR.out.frozen 0
      have z1 := RR.out.frozen 1
      clear hmm
      go_wp2_with fail
      have q0 := (RR.out.set_ 0 (.int .i64 m.c)).cell_ (i := 0) (u := .int .i64 m.c) (by simp)
      have q1 := ((RR.out.set_ 0 (.int .i64 m.c)).set_ 1 (.int .i64 m.s)).cell_ (i := 1) (u := .int .i64 m.s) (by simp)
      have o1 := (O0.out.of_none (S := one (w.heap.size + 1))).trans HM.out.ho
      have o2 := (o1.setCell (p := ⟨w.heap.size, 0, none⟩) (.inr (Nat.le_refl _)) (.int .i64 m.c)).setCell (p := ⟨w.heap.size, 1, none⟩) (.inr (Nat.le_refl _)) (.int .i64 m.s)
      exact bodyPost_ret (v := .agg #[.int .i64 m.c, .int .i64 m.s]) (by simp [results, Tryz.results281, go_sem, q0, q1]) rfl
        ⟨by rw [HME.out], o2.mono (fun g hg e => by have : g = w.heap.size + 1 := e; omega)⟩
theorem st_latest (l : List St) (v : Value) (S : Nat → Prop) (w : World) (hx : Cel w S v l.length 2 (stCells l)) (hS : ∀ b, S b → b < w.heap.size) (hl : l.length ≤ 9223372036854775807) :
    Calls Tryz.prog 260 #[v] w fun e w' => e = .returned (.agg #[.int .i64 (stLatest l).c, .int .i64 (stLatest l).s]) ∧ Only none_ w w' := by
  have HR := Lib.hid (Blk.new w 80 #[.int .i64 0, .int .i64 0])
  have O := Lib.hid ((Only.refl none_ w).alloc (.cells #[.int .i64 0, .int .i64 0] 80))
  cases l with
  | nil =>
    obtain ⟨A, c, rfl, _⟩ := hx
    go_enter Tryz.func260, Tryz.ntmps260
    go_wp2_with fail
    exact bodyPost_ret (v := .agg #[.int .i64 0, .int .i64 0]) (by simp [results, Tryz.results260, go_sem]) rfl ⟨rfl, O.out⟩
  | cons x l =>
    have HX := Lib.hid (hx.alloc (.cells #[.int .i64 0, .int .i64 0] 80))
    have HS : Hid (∀ b, S b → b < (w.alloc (.cells #[.int .i64 0, .int .i64 0] 80)).heap.size) := fun b hb => by have := hS b hb; simp; omega
    obtain ⟨A, c, rfl, _⟩ := hx
    obtain ⟨L, hL⟩ : ∃ L, L = (x :: l).length := ⟨_, rfl⟩
    have hlen : l.length + 1 ≤ 9223372036854775807 := by simpa using hl
    have hLz : ((L : Int) == 0) = false := by rw [hL, beq_eq_false_iff_ne]; simp; omega
    have HX2 : Hid (Cel (w.alloc (.cells #[.int .i64 0, .int .i64 0] 80)) S (.slice A L c) (l.length + 1) 2 (stCells (x :: l))) := by rw [hL]; exact HX.out
    obtain ⟨m, hm⟩ : ∃ m, stLatest (x :: l) = m := ⟨_, rfl⟩
    have HM := Lib.hid hm
    rw [← hL, hm]
    clear hL hS hl HX hm
    go_enter Tryz.func260, Tryz.ntmps260
    go_wp2_with (go_at_call 281; refine (maxFunc x l _ S _ HX2.out HS.out hlen).mono ?_; rintro e w1 ⟨rfl, o1⟩; rw [HM.out]
                 have R1 := Lib.hid (HR.out.only o1 (fun h => h))
                 have O1 := Lib.hid (O.out.trans o1)
                 have r0 := R1.out.cell_ (i := 0) rfl
                 have r1 := R1.out.cell_ (i := 1) rfl
                 have z0 := R1.out.frozen 0
                 have z1 := R1.out.frozen 1
                 clear o1)
    have q0 := (R1.out.set_ 0 (.int .i64 m.c)).cell_ (i := 0) (u := .int .i64 m.c) (by simp)
    have q1 := ((R1.out.set_ 0 (.int .i64 m.c)).set_ 1 (.int .i64 m.s)).cell_ (i := 1) (u := .int .i64 m.s) (by simp)
    have o2 := (O1.out.setCell (p := ⟨w.heap.size, 0, none⟩) (.inr (Nat.le_refl _)) (.int .i64 m.c)).setCell (p := ⟨w.heap.size, 1, none⟩) (.inr (Nat.le_refl _)) (.int .i64 m.s)
    exact bodyPost_ret (v := .agg #[.int .i64 m.c, .int .i64 m.s]) (by simp [results, Tryz.results260, go_sem, q0, q1]) rfl ⟨rfl, o2⟩
end Go.Proofs.YtoohpcomnhfgpaaGreat
end
section
namespace Go.Proofs.YtoohpcomnhfgpaaGreat
open Go.RowKit
set_option maxRecDepth 100000
set_option linter.all false
def gvJoin (was e : En) : En := if stLater e.s was.s = true then e else if stEq was.s e.s = true then gvTurn was e else was
theorem gvTurn_is (was e : En) : gvTurn was e = { was with a := stLatest [was.a, e.a], g := min was.g e.g } := by
  have h1 : stLatest [was.a, e.a] = if stLater e.a was.a = true then e.a else was.a := by
    show stMax was.a e.a = _
    unfold stMax
    by_cases h : stLater e.a was.a = true
    · rw [if_pos h, if_pos ((stCmp_pos _ _).2 h)]
    · rw [if_neg h, if_neg (fun h2 => h ((stCmp_pos _ _).1 h2))]
  have h2 : min was.g e.g = if e.g < was.g then e.g else was.g := by
    split <;> omega
  rw [h1, h2]
  rfl
structure Jv (B : World) (b : Nat) (was e r : En) (w : World) : Prop where
  x : Blk w b 82 #[.string was.k, .string was.v, .bool was.d, .int .i64 was.s.c, .int .i64 was.s.s, .int .i64 was.a.c, .int .i64 was.a.s, .int .i64 was.p, .int .i64 was.g]
  y : Blk w (b + 1) 82 #[.string e.k, .string e.v, .bool e.d, .int .i64 e.s.c, .int .i64 e.s.s, .int .i64 e.a.c, .int .i64 e.a.s, .int .i64 e.p, .int .i64 e.g]
  z : Blk w (b + 1 + 1) 82 #[.string r.k, .string r.v, .bool r.d, .int .i64 r.s.c, .int .i64 r.s.s, .int .i64 r.a.c, .int .i64 r.a.s, .int .i64 r.p, .int .i64 r.g]
  ho : Only none_ B w
  ge : B.heap.size ≤ b
theorem Jv.keep {B w w' : World} {b : Nat} {was e r : En} (h : Jv B b was e r w) (o : Only none_ w w') : Jv B b was e r w' := ⟨h.x.only o (fun h => h), h.y.only o (fun h => h), h.z.only o (fun h => h), h.ho.trans o, h.ge⟩
set_option maxHeartbeats 6400000 in
theorem gv_joined (was e : En) (w : World) :
    Calls Tryz.prog 225 #[.agg #[.string was.k, .string was.v, .bool was.d, .int .i64 was.s.c, .int .i64 was.s.s, .int .i64 was.a.c, .int .i64 was.a.s, .int .i64 was.p, .int .i64 was.g], .agg #[.string e.k, .string e.v, .bool e.d, .int .i64 e.s.c, .int .i64 e.s.s, .int .i64 e.a.c, .int .i64 e.a.s, .int .i64 e.p, .int .i64 e.g]] w fun E w' => E = .returned (.agg #[.string (gvJoin was e).k, .string (gvJoin was e).v, .bool (gvJoin was e).d, .int .i64 (gvJoin was e).s.c, .int .i64 (gvJoin was e).s.s, .int .i64 (gvJoin was e).a.c, .int .i64 (gvJoin was e).a.s, .int .i64 (gvJoin was e).p, .int .i64 (gvJoin was e).g]) ∧ Only none_ w w' := by
  have J0 : Jv w w.heap.size was e enZero (((w.alloc (.cells #[.string was.k, .string was.v, .bool was.d, .int .i64 was.s.c, .int .i64 was.s.s, .int .i64 was.a.c, .int .i64 was.a.s, .int .i64 was.p, .int .i64 was.g] 82)).alloc (.cells #[.string e.k, .string e.v, .bool e.d, .int .i64 e.s.c, .int .i64 e.s.s, .int .i64 e.a.c, .int .i64 e.a.s, .int .i64 e.p, .int .i64 e.g] 82)).alloc (.cells #[.string ⟨#[]⟩, .string ⟨#[]⟩, .bool false, .int .i64 0, .int .i64 0, .int .i64 0, .int .i64 0, .int .i64 0, .int .i64 0] 82)) := by
    refine ⟨((Blk.new w _ _).alloc _).alloc _, ?_, ?_, (((Only.refl none_ w).alloc _).alloc _).alloc _, Nat.le_refl _⟩
    · have := (Blk.new (w.alloc (.cells #[.string was.k, .string was.v, .bool was.d, .int .i64 was.s.c, .int .i64 was.s.s, .int .i64 was.a.c, .int .i64 was.a.s, .int .i64 was.p, .int .i64 was.g] 82)) 82 #[.string e.k, .string e.v, .bool e.d, .int .i64 e.s.c, .int .i64 e.s.s, .int .i64 e.a.c, .int .i64 e.a.s, .int .i64 e.p, .int .i64 e.g]).alloc (.cells #[.string ⟨#[]⟩, .string ⟨#[]⟩, .bool false, .int .i64 0, .int .i64 0, .int .i64 0, .int .i64 0, .int .i64 0, .int .i64 0] 82)
      rwa [World.size_alloc] at this
    · have := Blk.new ((w.alloc (.cells #[.string was.k, .string was.v, .bool was.d, .int .i64 was.s.c, .int .i64 was.s.s, .int .i64 was.a.c, .int .i64 was.a.s, .int .i64 was.p, .int .i64 was.g] 82)).alloc (.cells #[.string e.k, .string e.v, .bool e.d, .int .i64 e.s.c, .int .i64 e.s.s, .int .i64 e.a.c, .int .i64 e.a.s, .int .i64 e.p, .int .i64 e.g] 82)) 82 #[.string ⟨#[]⟩, .string ⟨#[]⟩, .bool false, .int .i64 0, .int .i64 0, .int .i64 0, .int .i64 0, .int .i64 0, .int .i64 0]
      rwa [World.size_alloc, World.size_alloc] at this
  obtain ⟨y0, y1, y2, y3, y4, y5, y6, y7, y8⟩ := nine_of J0.y
  obtain ⟨x0, x1, x2, x3, x4, x5, x6, x7, x8⟩ := nine_of J0.x
  have HJ0 := Lib.hid J0
  have HC := Lib.hid (st_compare e.s.c e.s.s was.s.c was.s.s)
  have hcs : stCmp ⟨e.s.c, e.s.s⟩ ⟨was.s.c, was.s.s⟩ = stCmp e.s was.s := rfl
  rw [hcs] at HC
  clear hcs J0
  by_cases h1 : stLater e.s was.s = true
  · have hr : gvJoin was e = e := by rw [gvJoin, if_pos h1]
    rw [hr]
    have hp := (stCmp_pos _ _).2 h1
    generalize stCmp e.s was.s = z at hp HC
    clear h1 hr
    go_enter Tryz.func225, Tryz.ntmps225
    go_wp2_with (first
      | (go_at_call 140; refine (HC.out _).mono ?_; rintro E w1 ⟨rfl, o1⟩
         have J1 := Lib.hid (HJ0.out.keep o1)
         clear o1)
      | (refine wpl_load rfl 82 _ rfl (w.heap.size + 1) rfl _ #[.string e.k, .string e.v, .bool e.d, .int .i64 e.s.c, .int .i64 e.s.s, .int .i64 e.a.c, .int .i64 e.a.s, .int .i64 e.p, .int .i64 e.g] _ J1.out.y Tryz.underlying82 rfl (by kernel_rfl) ?_)
      | (refine wpList_store_row rfl 82 _ _ rfl (w.heap.size + 1 + 1) #[.string e.k, .string e.v, .bool e.d, .int .i64 e.s.c, .int .i64 e.s.s, .int .i64 e.a.c, .int .i64 e.a.s, .int .i64 e.p, .int .i64 e.g] rfl rfl _ _ J1.out.z (by kernel_rfl) rfl (en_cells_one e) ?_))
    refine bodyPost_ret (results_cell_row rfl _ _ (w.heap.size + 1 + 1) 82 #[.string e.k, .string e.v, .bool e.d, .int .i64 e.s.c, .int .i64 e.s.s, .int .i64 e.a.c, .int .i64 e.a.s, .int .i64 e.p, .int .i64 e.g] (0, 0) _ rfl (J1.out.z.setRow _) Tryz.underlying82 rfl (by kernel_rfl)) rfl ?_
    exact ⟨rfl, J1.out.ho.setRow (.inr (by omega)) _⟩
  · by_cases h2 : stEq was.s e.s = true
    · have hr : gvJoin was e = gvTurn was e := by rw [gvJoin, if_neg h1, if_pos h2]
      rw [hr, gvTurn_is]
      have hp : stCmp e.s was.s = 0 := (stCmp_zero _ _).2 ((stEq_iff _ _).1 h2).symm
      obtain ⟨ac, hac⟩ : ∃ a, stLatest [was.a, e.a] = a := ⟨_, rfl⟩
      obtain ⟨mg, hmg⟩ : ∃ m, min was.g e.g = m := ⟨_, rfl⟩
      rw [hac, hmg]
      have hmn : ∀ ts t w, (Builtin.min_ ts t #[.int .i64 was.g, .int .i64 e.g]).run Tryz.prog w = .ok (.int .i64 mg) w := fun ts t w => by
        rw [run_min_int2, ← hmg]
        by_cases hk : e.g < was.g
        · rw [if_pos hk, Int.min_eq_right (by omega)]
        · rw [if_neg hk, Int.min_eq_left (by omega)]
      rw [hp] at HC
      have HLT := Lib.hid (fun (X : World) => st_latest [was.a, e.a] (.slice (some ⟨X.heap.size, 0, none⟩) 2 2) (fun b => b = X.heap.size) (X.alloc (.cells #[.int .i64 was.a.c, .int .i64 was.a.s, .int .i64 e.a.c, .int .i64 e.a.s] 80)) (cel_made X 80 2 2 #[.int .i64 was.a.c, .int .i64 was.a.s, .int .i64 e.a.c, .int .i64 e.a.s] rfl (by simp [maxLen])) (fun b hb => by subst hb; rw [World.size_alloc]; omega) (by simp))
      rw [hac] at HLT
      clear h1 h2 hr hp hac hmg
      go_enter Tryz.func225, Tryz.ntmps225
      go_wp2_with (first
        | (go_at_call 140; refine (HC.out _).mono ?_; rintro E w1 ⟨rfl, o1⟩
           have J1 := Lib.hid (HJ0.out.keep o1)
           obtain ⟨s0, s1, s2, s3, s4, s5, s6, s7, s8⟩ := nine_of J1.out.x
           obtain ⟨t0, t1, t2, t3, t4, t5, t6, t7, t8⟩ := nine_of J1.out.y
           clear o1)
        | (go_at_call 260; refine (HLT.out w1).mono ?_; rintro E w2 ⟨rfl, o2⟩
           have J2 := Lib.hid (J1.out.keep (((Only.refl none_ w1).alloc _).trans o2))
           have J3 : Hid (Jv w w.heap.size { was with a := ac } e enZero (w2.setRow w.heap.size (putAt [.string was.k, .string was.v, .bool was.d, .int .i64 was.s.c, .int .i64 was.s.s, .int .i64 was.a.c, .int .i64 was.a.s, .int .i64 was.p, .int .i64 was.g] 5 [.int .i64 ac.c, .int .i64 ac.s]).toArray)) :=
             ⟨J2.out.x.setRow _, J2.out.y.setRow_far (by omega) _, J2.out.z.setRow_far (by omega) _, J2.out.ho.setRow (.inr (Nat.le_refl _)) _, J2.out.ge⟩
           have k8 := J3.out.x.cell_ (i := 8) rfl
           have f8 := J3.out.x.frozen 8
           have g8 := J3.out.y.cell_ (i := 8) rfl
           have J4 : Hid (Jv w w.heap.size { was with a := ac, g := mg } e enZero ((w2.setRow w.heap.size (putAt [.string was.k, .string was.v, .bool was.d, .int .i64 was.s.c, .int .i64 was.s.s, .int .i64 was.a.c, .int .i64 was.a.s, .int .i64 was.p, .int .i64 was.g] 5 [.int .i64 ac.c, .int .i64 ac.s]).toArray).setCell ⟨w.heap.size, 8, none⟩ (.int .i64 mg))) :=
             ⟨J3.out.x.set_ 8 _, J3.out.y.far (show w.heap.size + 1 ≠ w.heap.size by omega) _, J3.out.z.far (show w.heap.size + 1 + 1 ≠ w.heap.size by omega) _, J3.out.ho.setCell (p := ⟨w.heap.size, 8, none⟩) (.inr (Nat.le_refl _)) _, J3.out.ge⟩
           clear o2)
        | (refine wpl_store_part rfl 80 _ _ rfl w.heap.size 5 #[.int .i64 ac.c, .int .i64 ac.s] rfl rfl 82 [.string was.k, .string was.v, .bool was.d, .int .i64 was.s.c, .int .i64 was.s.s, .int .i64 was.a.c, .int .i64 was.a.s, .int .i64 was.p, .int .i64 was.g] J2.out.x (by kernel_rfl) (by simp) (by simp [Value.oneCell']) ?_)
        | (refine wpl_load rfl 82 _ rfl w.heap.size rfl _ #[.string ({ was with a := ac, g := mg } : En).k, .string ({ was with a := ac, g := mg } : En).v, .bool ({ was with a := ac, g := mg } : En).d, .int .i64 ({ was with a := ac, g := mg } : En).s.c, .int .i64 ({ was with a := ac, g := mg } : En).s.s, .int .i64 ({ was with a := ac, g := mg } : En).a.c, .int .i64 ({ was with a := ac, g := mg } : En).a.s, .int .i64 ({ was with a := ac, g := mg } : En).p, .int .i64 ({ was with a := ac, g := mg } : En).g] _ J4.out.x Tryz.underlying82 rfl (by kernel_rfl) ?_)
        | (refine wpList_store_row rfl 82 _ _ rfl (w.heap.size + 1 + 1) #[.string ({ was with a := ac, g := mg } : En).k, .string ({ was with a := ac, g := mg } : En).v, .bool ({ was with a := ac, g := mg } : En).d, .int .i64 ({ was with a := ac, g := mg } : En).s.c, .int .i64 ({ was with a := ac, g := mg } : En).s.s, .int .i64 ({ was with a := ac, g := mg } : En).a.c, .int .i64 ({ was with a := ac, g := mg } : En).a.s, .int .i64 ({ was with a := ac, g := mg } : En).p, .int .i64 ({ was with a := ac, g := mg } : En).g] rfl rfl _ _ J4.out.z (by kernel_rfl) rfl (en_cells_one _) ?_))
      refine bodyPost_ret (results_cell_row rfl _ _ (w.heap.size + 1 + 1) 82 #[.string ({ was with a := ac, g := mg } : En).k, .string ({ was with a := ac, g := mg } : En).v, .bool ({ was with a := ac, g := mg } : En).d, .int .i64 ({ was with a := ac, g := mg } : En).s.c, .int .i64 ({ was with a := ac, g := mg } : En).s.s, .int .i64 ({ was with a := ac, g := mg } : En).a.c, .int .i64 ({ was with a := ac, g := mg } : En).a.s, .int .i64 ({ was with a := ac, g := mg } : En).p, .int .i64 ({ was with a := ac, g := mg } : En).g] (0, 0) _ rfl (J4.out.z.setRow _) Tryz.underlying82 rfl (by kernel_rfl)) rfl ?_
      exact ⟨rfl, J4.out.ho.setRow (.inr (by omega)) _⟩
    · have hr : gvJoin was e = was := by rw [gvJoin, if_neg h1, if_neg h2]
      rw [hr]
      have hp1 : ¬ 0 < stCmp e.s was.s := fun h => h1 ((stCmp_pos _ _).1 h)
      have hp2 : stCmp e.s was.s ≠ 0 := fun h => h2 ((stEq_iff _ _).2 ((stCmp_zero _ _).1 h).symm)
      have hp : stCmp e.s was.s < 0 := by omega
      generalize stCmp e.s was.s = z at hp HC
      clear h1 h2 hr hp1 hp2
      go_enter Tryz.func225, Tryz.ntmps225
      go_wp2_with (first
        | (go_at_call 140; refine (HC.out _).mono ?_; rintro E w1 ⟨rfl, o1⟩
           have J1 := Lib.hid (HJ0.out.keep o1)
           have hz1 : ((z : Int) == 0) = false := by simp; omega
           have hz2 : ¬ (z = 0) := by omega
           have hz3 : ¬ (0 < z) := by omega
           clear o1)
        | (refine wpl_load rfl 82 _ rfl w.heap.size rfl _ #[.string was.k, .string was.v, .bool was.d, .int .i64 was.s.c, .int .i64 was.s.s, .int .i64 was.a.c, .int .i64 was.a.s, .int .i64 was.p, .int .i64 was.g] _ J1.out.x Tryz.underlying82 rfl (by kernel_rfl) ?_)
        | (refine wpList_store_row rfl 82 _ _ rfl (w.heap.size + 1 + 1) #[.string was.k, .string was.v, .bool was.d, .int .i64 was.s.c, .int .i64 was.s.s, .int .i64 was.a.c, .int .i64 was.a.s, .int .i64 was.p, .int .i64 was.g] rfl rfl _ _ J1.out.z (by kernel_rfl) rfl (en_cells_one was) ?_))
      refine bodyPost_ret (results_cell_row rfl _ _ (w.heap.size + 1 + 1) 82 #[.string was.k, .string was.v, .bool was.d, .int .i64 was.s.c, .int .i64 was.s.s, .int .i64 was.a.c, .int .i64 was.a.s, .int .i64 was.p, .int .i64 was.g] (0, 0) _ rfl (J1.out.z.setRow _) Tryz.underlying82 rfl (by kernel_rfl)) rfl ?_
      exact ⟨rfl, J1.out.ho.setRow (.inr (by omega)) _⟩
end Go.Proofs.YtoohpcomnhfgpaaGreat
end
section
namespace Go.Proofs.YtoohpcomnhfgpaaGreat
open Go.RowKit
set_option maxRecDepth 100000
set_option linter.all false
theorem hasE_look (l : List En) (k : ByteArray) : hasE l k = (lookE l k).isSome := by
  unfold hasE lookE
  rw [Bool.eq_iff_iff, List.any_eq_true, List.find?_isSome]
theorem overE_look (l : List En) (e : En) : overE l e = match lookE l e.k with | none => false | some was => stLater was.s e.s := rfl
def Gk (wa : World) (e : En) (hs : Bool) (s5 s6 : Value) (w' : World) : Prop := ∃ b, s5 = .pointer (some ⟨b, 0, none⟩) ∧ s6 = .bool hs ∧ wa.heap.size ≤ b ∧ Blk w' b 82 #[.string e.k, .string e.v, .bool e.d, .int .i64 e.s.c, .int .i64 e.s.s, .int .i64 e.a.c, .int .i64 e.a.s, .int .i64 e.p, .int .i64 e.g] ∧ Only none_ wa w'
theorem Gk.of {wa w1 : World} {e x : En} {hs : Bool} {b : Nat} (o : Only none_ wa w1) (h : Blk w1 b 82 #[.string x.k, .string x.v, .bool x.d, .int .i64 x.s.c, .int .i64 x.s.s, .int .i64 x.a.c, .int .i64 x.a.s, .int .i64 x.p, .int .i64 x.g]) (hb : wa.heap.size ≤ b) : Gk wa e hs (.pointer (some ⟨b, 0, none⟩)) (.bool hs) (fill9 w1 b (.string e.k) (.string e.v) (.bool e.d) (.int .i64 e.s.c) (.int .i64 e.s.s) (.int .i64 e.a.c) (.int .i64 e.a.s) (.int .i64 e.p) (.int .i64 e.g)) :=
  ⟨b, rfl, rfl, hb, fill9_blk h _ _ _ _ _ _ _ _ _, fill9_only o (.inr hb) _ _ _ _ _ _ _ _ _⟩
set_option maxHeartbeats 6400000 in
theorem gv_over (B : World) (g tb : Nat) (site t2 : Int) (l : List En) (v : Value) (e : En) (w : World) (h : Gv B g tb site t2 l v w) :
    Calls Tryz.prog 150 #[.pointer (some ⟨g, 0, none⟩), .agg #[.string e.k, .string e.v, .bool e.d, .int .i64 e.s.c, .int .i64 e.s.s, .int .i64 e.a.c, .int .i64 e.a.s, .int .i64 e.p, .int .i64 e.g]] w fun E w' => E = .returned (.bool (overE l e)) ∧ Only none_ w w' := by
  have O0 := Lib.hid ((Only.refl none_ w).alloc (.cells #[.string e.k, .string e.v, .bool e.d, .int .i64 e.s.c, .int .i64 e.s.s, .int .i64 e.a.c, .int .i64 e.a.s, .int .i64 e.p, .int .i64 e.g] 82))
  have B0 := Lib.hid (Blk.new w 82 #[.string e.k, .string e.v, .bool e.d, .int .i64 e.s.c, .int .i64 e.s.s, .int .i64 e.a.c, .int .i64 e.a.s, .int .i64 e.p, .int .i64 e.g])
  obtain ⟨e', he'⟩ : ∃ x, (lookE l e.k).getD enZero = x := ⟨_, rfl⟩
  have HG := Lib.hid (fun (w' : World) (o : Only none_ (w.alloc (.cells #[.string e.k, .string e.v, .bool e.d, .int .i64 e.s.c, .int .i64 e.s.s, .int .i64 e.a.c, .int .i64 e.a.s, .int .i64 e.p, .int .i64 e.g] 82)) w') => sh_get B g tb l v e.k e' he' w' ((h.keep (O0.out.trans o)).sh) ((h.keep (O0.out.trans o)).t))
  obtain ⟨hs, hhs⟩ : ∃ x, hasE l e.k = x := ⟨_, rfl⟩
  rw [hhs] at HG
  have HZ : stLater e'.s e.s = decide (0 < stCmp e'.s e.s) := by
    rw [Bool.eq_iff_iff, decide_eq_true_eq]; exact (stCmp_pos _ _).symm
  have HR : Hid (overE l e = (hs && decide (0 < stCmp e'.s e.s))) := by
    have hl := hasE_look l e.k
    rw [Hid, ← HZ, overE_look, ← hhs, ← he', hl]
    cases lookE l e.k <;> rfl
  have HC := Lib.hid (st_compare e'.s.c e'.s.s e.s.c e.s.s)
  have hcs : stCmp ⟨e'.s.c, e'.s.s⟩ ⟨e.s.c, e.s.s⟩ = stCmp e'.s e.s := rfl
  rw [hcs] at HC
  rw [HR.out]
  generalize stCmp e'.s e.s = z at HC ⊢
  clear h he' hhs HR HZ hcs
  go_enter Tryz.func150, Tryz.ntmps150
  go_upto_region 1 with fail
  obtain ⟨wa, hwa⟩ : ∃ wa, w.alloc (.cells #[.string e.k, .string e.v, .bool e.d, .int .i64 e.s.c, .int .i64 e.s.s, .int .i64 e.a.c, .int .i64 e.a.s, .int .i64 e.p, .int .i64 e.g] 82) = wa := ⟨_, rfl⟩
  rw [hwa] at HG B0 O0 ⊢
  go_cut [5, 6] (fun s5 s6 w' => Gk wa e' hs s5 s6 w')
  case rest =>
    obtain ⟨b, rfl, rfl, hb, B6, o6⟩ := hcut
    obtain ⟨t0, t1, t2, t3, t4, t5, t6, t7, t8⟩ := nine_of B6
    obtain ⟨u0, u1, u2, u3, u4, u5, u6, u7, u8⟩ := nine_of (B0.out.only o6 (fun h => h))
    have O6 := Lib.hid (O0.out.trans o6)
    clear o6 B6
    cases hs with
    | false =>
      go_wp2_with fail
      go_ret
      exact ⟨rfl, O6.out⟩
    | true =>
      go_wp2_with (first
        | (go_at_call 140; refine (HC.out _).mono ?_; rintro E w7 ⟨rfl, o7⟩
           have O7 := Lib.hid (O6.out.trans o7)
           clear o7))
      go_ret
      exact ⟨by simp, O7.out⟩
  case first =>
    obtain ⟨t0, t1, t2, t3, t4, t5, t6, t7, t8⟩ := nine_of (Blk.drew B0.out)
    obtain ⟨u0, u1, u2, u3, u4, u5, u6, u7, u8⟩ := nine_of (Blk.drew (B0.out.alloc (.cells #[.string ⟨#[]⟩, .string ⟨#[]⟩, .bool false, .int .i64 0, .int .i64 0, .int .i64 0, .int .i64 0, .int .i64 0, .int .i64 0] 82)))
    have BN := Lib.hid (Blk.drew (Blk.new wa 82 #[.string ⟨#[]⟩, .string ⟨#[]⟩, .bool false, .int .i64 0, .int .i64 0, .int .i64 0, .int .i64 0, .int .i64 0, .int .i64 0]))
    go_region_law (first
      | (refine Se.step_call (by simp [Region.wanted]) 195 #[.pointer (some ⟨g, 0, none⟩), .string e.k] (by go_simp; try (with_reducible rfl)) ?_
         refine (HG.out _ (by first | exact (Only.refl none_ wa).drew | exact ((Only.refl none_ wa).alloc _).drew)).mono ?_
         rintro E w1 ⟨rfl, o1⟩
         refine ⟨_, rfl, ?_⟩
         have O1 : Hid (Only none_ wa w1) := by first | exact ((Only.refl none_ wa).drew).trans o1 | exact (((Only.refl none_ wa).alloc _).drew).trans o1
         try (have B1 := Lib.hid (BN.out.only o1 (fun h => h)); have q1 := nine_of B1.out; have z1 := frozen9 B1.out)
         have B2 := Lib.hid (Blk.new w1 82 #[.string ⟨#[]⟩, .string ⟨#[]⟩, .bool false, .int .i64 0, .int .i64 0, .int .i64 0, .int .i64 0, .int .i64 0, .int .i64 0])
         have q2 := nine_of B2.out
         have z2 := frozen9 B2.out
         clear o1))
    all_goals go_wp2_with fail
    all_goals go_meet
    all_goals first
      | exact ⟨_, rfl, rfl, O1.out.size, Blk.new _ _ _, O1.out.alloc _⟩
      | exact Gk.of (x := enZero) O1.out B1.out (Nat.le_refl _)
end Go.Proofs.YtoohpcomnhfgpaaGreat
end
section
namespace Go.Proofs.YtoohpcomnhfgpaaGreat
open Go.RowKit
set_option maxRecDepth 100000
set_option linter.all false
def LeftG (B : World) (g tb : Nat) (site t2 : Int) (v : Value) (w : World) (l' : List En) (w' : World) : Prop := ∃ tb' v', Gv B g tb' site t2 l' v' w' ∧ Only (gfoot g tb v) w w' ∧ ∀ k, gfoot g tb' v' k → gfoot g tb v k ∨ w.heap.size ≤ k
theorem LeftG.after0 {B w w1 w' : World} {g tb : Nat} {site t2 : Int} {v : Value} {l' : List En} (o : Only none_ w w1) (h : LeftG B g tb site t2 v w1 l' w') : LeftG B g tb site t2 v w l' w' := by
  obtain ⟨tb', v', h1, h2, h3⟩ := h
  exact ⟨tb', v', h1, o.of_none.trans' h2 (fun k _ h => h), fun k hk => (h3 k hk).imp id (fun h => Nat.le_trans o.size h)⟩
theorem LeftG.same {B w : World} {g tb : Nat} {site t2 : Int} {v : Value} {l : List En} (h : Gv B g tb site t2 l v w) : LeftG B g tb site t2 v w l w := ⟨tb, v, h, Only.refl _ _, fun _ h => .inl h⟩
theorem LeftG.of_put {B w w' : World} {g tb : Nat} {site t2 : Int} {v : Value} {l l' : List En} (h : Gv B g tb site t2 l v w) (hL : Se.LeftT B tb 4096 v w (prs l') w') : LeftG B g tb site t2 v w l' w' := by
  obtain ⟨v', h1, h2, h3⟩ := hL
  have hgt : ¬ foot tb v g := by
    rintro (e | e)
    · exact Blk.ne_ h.bk h.t.bk (by decide) e
    · exact own_blk_ne h.t.ow h.bk (by decide) e
  refine ⟨tb, v', ⟨h.bk.only h2 hgt, h.ge, h1⟩, h2.mono (fun k _ hk => .inr hk), fun k hk => ?_⟩
  rcases hk with rfl | rfl | hk
  · exact .inl (.inl rfl)
  · exact .inl (.inr (.inl rfl))
  · exact (h3 k hk).imp (fun e => .inr (.inr e)) id
theorem bury_is {duty : Bool} {t2 : Int} {l : List En} {e : En} (h : takes duty t2 e = true) :
    buryE duty t2 l e = if enEq (gvJoin ((lookE l e.k).getD enZero) e) ((lookE l e.k).getD enZero) = true then (l, false) else (setE (gvJoin ((lookE l e.k).getD enZero) e) l, true) := by
  have ht : (decide (enCheck e = 0) && duty && decide (e.g < t2)) = true := h
  have hl : l.find? (fun x => decide (x.k = e.k)) = lookE l e.k := rfl
  have i : ∀ a : St, stLater a a = false := fun a => (later_false _ _).2 (by omega)
  unfold buryE
  rw [if_pos ht, hl]
  simp only [Bool.and_eq_true, decide_eq_true_eq] at ht
  have hc := ht.1.1
  cases hw : lookE l e.k with
  | none =>
    have hk : 1 ≤ e.s.c := by
      unfold enCheck at hc
      split at hc
      · cases hc
      · next hk =>
        split at hc
        · cases hc
        · split at hc
          · cases hc
          · next hs =>
            simp [enStBad, stGood] at hs
            omega
    have h1 : stLater e.s enZero.s = true := (later_def _ _).2 (.inl (by show (0 : Int) < e.s.c; omega))
    have h2 : gvJoin enZero e = e := by rw [gvJoin, if_pos h1]
    have h3 : enEq e enZero = false := by
      cases h3 : enEq e enZero with
      | false => rfl
      | true =>
        have := (enEq_iff _ _).1 h3
        have h4 := hk
        rw [this] at h4
        exact absurd h4 (by decide)
    simp only [Option.getD_none, h2, h3]
    simp
  | some was =>
    simp only [Option.getD_some]
    cases h1 : stLater was.s e.s with
    | true =>
      have h2 : stLater e.s was.s = false := (later_false _ _).2 (by rw [later_def] at h1; omega)
      have h3 : stEq was.s e.s = false := by
        cases h3 : stEq was.s e.s with
        | false => rfl
        | true => rw [(stEq_iff _ _).1 h3, i] at h1; cases h1
      simp [gvJoin, h2, h3, enEq_refl]
    | false =>
      cases h2 : stEq was.s e.s with
      | true =>
        have h3 : stLater e.s was.s = false := by rw [(stEq_iff _ _).1 h2]; exact i _
        have h4 : enEq was (gvTurn was e) = enEq (gvTurn was e) was := by
          rw [Bool.eq_iff_iff, enEq_iff, enEq_iff]
          exact ⟨Eq.symm, Eq.symm⟩
        simp [gvJoin, h2, h3, h4]
      | false =>
        have h3 := stEq_false h2 h1
        have h4 : enEq e was = false := by
          cases h4 : enEq e was with
          | false => rfl
          | true =>
            have := (enEq_iff _ _).1 h4
            rw [this, (stEq_iff _ _).2 rfl] at h2
            cases h2
        simp [gvJoin, h3, h4]
set_option maxHeartbeats 1600000 in
theorem gv_new (B : World) (site t2 : Int) (w : World) (hB : Only none_ B w) (h1 : stSite site = true) (h2 : 0 ≤ t2 ∧ t2 ≤ 2147483647) :
    Calls Tryz.prog 113 #[.int .i64 site, .int .i64 t2] w fun E w' => ∃ g tb, E = .returned (.tuple #[.pointer (some ⟨g, 0, none⟩), .int .i64 0]) ∧ w.heap.size ≤ g ∧ w.heap.size ≤ tb ∧ Gv B g tb site t2 [] (.slice none 0 0) w' ∧ Only none_ w w' := by
  have HN := Lib.hid (sh_new B w hB)
  have HB := Lib.hid hB.size
  simp only [stSite, decide_eq_true_eq] at h1
  have k1 : ¬ site < 0 := by omega
  have k2 : ¬ 12 ≤ site := by omega
  have k3 : ¬ t2 < 0 := by omega
  have k4 : ¬ 2147483647 < t2 := by omega
  clear hB h1 h2
  go_enter Tryz.func113, Tryz.ntmps113
  go_wp2_with (first
    | (go_at_call 155; refine HN.out.mono ?_; rintro E w1 ⟨tb, rfl, hg, ht, o1⟩
       have F := Lib.hid (And.intro hg (And.intro ht o1))
       clear hg ht o1))
  go_ret2
  have o2 := F.out.2.2.alloc (.cells #[.pointer (some ⟨tb, 0, none⟩), .string ⟨#[]⟩, .pointer none, .int .i64 site, .int .i64 t2] 263)
  have hs := F.out.2.2.size
  have hb := HB.out
  exact ⟨w1.heap.size, tb, rfl, hs, F.out.1, ⟨Blk.new _ _ _, by omega, F.out.2.1.keep ((Only.refl none_ w1).alloc _)⟩, o2⟩
end Go.Proofs.YtoohpcomnhfgpaaGreat
end
section
namespace Go.Proofs.YtoohpcomnhfgpaaGreat
def cst (v : Nat) : Nat := if v % 2 = 1 then v / 2 ^^^ 3988292384 else v / 2
def cstN : Nat → Nat → Nat
  | 0, v => v
  | n + 1, v => cstN n (cst v)
def crcRun (v : Nat) : List UInt8 → Nat
  | [] => v
  | b :: r => crcRun (cstN 8 (v ^^^ b.toNat)) r
def crcMore (s : Nat) (bs : List UInt8) : Nat := 4294967295 ^^^ crcRun (4294967295 ^^^ s) bs
def crcSum (bs : List UInt8) : Nat := crcMore 0 bs
def lowB (s : Nat) : List UInt8 := [UInt8.ofNat (s % 256), UInt8.ofNat (s / 256 % 256), UInt8.ofNat (s / 65536 % 256), UInt8.ofNat (s / 16777216)]
def crcMark (bs : List UInt8) : List UInt8 := bs ++ lowB (crcSum bs)
def crcHolds (bs : List UInt8) : Bool := decide (4 ≤ bs.length) && (crcMark (bs.take (bs.length - 4)) == bs)
theorem xor_same (x y p : Nat) : x ^^^ p ^^^ (y ^^^ p) = x ^^^ y := by
  rw [Nat.xor_assoc, Nat.xor_comm y p, ← Nat.xor_assoc p p y, Nat.xor_self, Nat.zero_xor]
theorem xor_back (x p : Nat) : p ^^^ (p ^^^ x) = x := by
  rw [← Nat.xor_assoc, Nat.xor_self, Nat.zero_xor]
theorem xor_move (x y p : Nat) : x ^^^ p ^^^ y = x ^^^ y ^^^ p := by
  rw [Nat.xor_assoc, Nat.xor_comm p y, ← Nat.xor_assoc]
theorem xor_div256 (x y : Nat) : (x ^^^ y) / 256 = x / 256 ^^^ y / 256 := by
  have := @Nat.xor_div_two_pow x y 8
  simpa using this
theorem xor_mod256 (x y : Nat) : (x ^^^ y) % 256 = x % 256 ^^^ y % 256 := by
  have := @Nat.xor_mod_two_pow x y 8
  simpa using this
theorem xor_add256 (x y : Nat) (h : x < 256) : x ^^^ 256 * y = x + 256 * y := by
  have h1 := xor_div256 x (256 * y)
  have h2 := xor_mod256 x (256 * y)
  rw [show x / 256 = 0 from by omega, show 256 * y / 256 = y from by omega, Nat.zero_xor] at h1
  rw [show x % 256 = x from by omega, show 256 * y % 256 = 0 from by omega, Nat.xor_zero] at h2
  omega
theorem cst_xor (a b : Nat) : cst (a ^^^ b) = cst a ^^^ cst b := by
  have h1 : (a ^^^ b) / 2 = a / 2 ^^^ b / 2 := Nat.xor_div_two
  have h2 := @Nat.xor_mod_two_pow a b 1
  simp only [Nat.pow_one] at h2
  unfold cst
  rw [h1]
  rcases Nat.mod_two_eq_zero_or_one a with ha | ha <;> rcases Nat.mod_two_eq_zero_or_one b with hb | hb <;> rw [ha, hb] at h2 <;> rw [h2] <;> simp [ha, hb]
  · rw [Nat.xor_assoc]
  · exact xor_move _ _ _
  · exact (xor_same _ _ _).symm
theorem cst_lt {v : Nat} (h : v < 4294967296) : cst v < 4294967296 := by
  unfold cst
  split
  · exact Nat.xor_lt_two_pow (n := 32) (by omega) (by omega)
  · omega
theorem cst_two (y : Nat) : cst (2 * y) = y := by
  unfold cst
  rw [if_neg (by omega)]
  omega
theorem cstN_xor : ∀ n a b, cstN n (a ^^^ b) = cstN n a ^^^ cstN n b
  | 0, _, _ => rfl
  | n + 1, a, b => by rw [cstN, cst_xor, cstN_xor n]; rfl
theorem cstN_lt : ∀ n {v}, v < 4294967296 → cstN n v < 4294967296
  | 0, _, h => h
  | n + 1, _, h => cstN_lt n (cst_lt h)
theorem cstN_pow : ∀ k y, cstN k (2 ^ k * y) = y
  | 0, y => by simp [cstN]
  | k + 1, y => by
    rw [cstN, Nat.pow_succ, Nat.mul_assoc, Nat.mul_left_comm, cst_two, cstN_pow k]
theorem cstN_256 (y : Nat) : cstN 8 (256 * y) = y := cstN_pow 8 y
theorem cstN_row (v : Nat) : cstN 8 v = v / 256 ^^^ cstN 8 (v % 256) := by
  have h : v = v % 256 ^^^ 256 * (v / 256) := by rw [xor_add256 _ _ (by omega)]; omega
  conv => lhs; rw [h, cstN_xor, cstN_256, Nat.xor_comm]
theorem run_cons (v : Nat) (b : UInt8) (r : List UInt8) : crcRun v (b :: r) = crcRun (cstN 8 (v ^^^ b.toNat)) r := rfl
theorem run_append : ∀ (a b : List UInt8) (v : Nat), crcRun v (a ++ b) = crcRun (crcRun v a) b
  | [], _, _ => rfl
  | x :: a, b, v => by rw [List.cons_append, run_cons, run_cons, run_append a b]
theorem run_snoc (a : List UInt8) (b : UInt8) (v : Nat) : crcRun v (a ++ [b]) = cstN 8 (crcRun v a ^^^ b.toNat) := by rw [run_append]; rfl
theorem run_lt : ∀ (bs : List UInt8) {v : Nat}, v < 4294967296 → crcRun v bs < 4294967296
  | [], _, h => h
  | b :: r, v, h => by
    rw [run_cons]
    exact run_lt r (cstN_lt 8 (Nat.xor_lt_two_pow (n := 32) h (by have := b.toNat_lt; omega)))
theorem more_lt {s : Nat} (h : s < 4294967296) (bs : List UInt8) : crcMore s bs < 4294967296 :=
  Nat.xor_lt_two_pow (n := 32) (by omega) (run_lt bs (Nat.xor_lt_two_pow (n := 32) (by omega) h))
theorem sum_lt (bs : List UInt8) : crcSum bs < 4294967296 := more_lt (by omega) bs
theorem more_append (s : Nat) (a b : List UInt8) : crcMore s (a ++ b) = crcMore (crcMore s a) b := by
  unfold crcMore
  rw [run_append, xor_back]
theorem more_nil (s : Nat) : crcMore s [] = s := by
  unfold crcMore
  exact xor_back _ _
theorem sum_append (a b : List UInt8) : crcSum (a ++ b) = crcMore (crcSum a) b := more_append 0 a b
theorem sum_nil : crcSum [] = 0 := more_nil 0
end Go.Proofs.YtoohpcomnhfgpaaGreat
end
section
namespace Go.Proofs.YtoohpcomnhfgpaaGreat
theorem cstN_next : ∀ n v, cstN (n + 1) v = cst (cstN n v)
  | 0, _ => rfl
  | n + 1, v => cstN_next n (cst v)
end Go.Proofs.YtoohpcomnhfgpaaGreat
end
section
namespace Go.Proofs.YtoohpcomnhfgpaaGreat
open Go.RowKit
set_option linter.all false
def Rd (w : World) (g : Nat) (S : Nat → Prop) (code : Int) (bs : List UInt8) : Prop :=
  ∃ A c, Blk w g 331 #[.int .i64 code, .slice A bs.length c] ∧ Byt w S (.slice A bs.length c) bs ∧ ¬ S g
theorem Rd.only {w w' : World} {g : Nat} {S T : Nat → Prop} {code : Int} {bs : List UInt8} (h : Rd w g S code bs) (ho : Only T w w') (hg : ¬ T g) (hn : ∀ b, S b → ¬ T b) : Rd w' g S code bs := by
  obtain ⟨A, c, hb, hy, hs⟩ := h
  exact ⟨A, c, hb.only ho hg, hy.only ho hn, hs⟩
theorem Rd.lt {w : World} {g : Nat} {S : Nat → Prop} {code : Int} {bs : List UInt8} (h : Rd w g S code bs) : g < w.heap.size := by
  obtain ⟨A, c, hb, _⟩ := h
  exact hb.lt
theorem reader_err (g : Nat) (S : Nat → Prop) (code : Int) (bs : List UInt8) (w : World) (h : Rd w g S code bs) :
    Calls Tryz.prog 221 #[.pointer (some ⟨g, 0, none⟩)] w fun e w' => e = .returned (.int .i64 code) ∧ w = w' := by
  obtain ⟨A, c, hb, hy⟩ := h
  exact fault_err _ _ _ _ _ hb rfl
theorem reader_fail (g : Nat) (S : Nat → Prop) (code k : Int) (bs : List UInt8) (w : World) (h : Rd w g S code bs) :
    Calls Tryz.prog 220 #[.pointer (some ⟨g, 0, none⟩), .int .i64 k] w fun e w' => e = .returned (.tuple #[]) ∧ Rd w' g S (first_ code k) bs ∧ Only (one g) w w' := by
  obtain ⟨A, c, hb, hy, hs⟩ := h
  refine (fault_fail _ _ _ _ k _ hb rfl).mono ?_
  rintro e w' ⟨rfl, h1, h2⟩
  exact ⟨rfl, ⟨A, c, by simpa using h1, hy.only h2 (fun b hb e => hs (e ▸ hb)), hs⟩, h2⟩
theorem reader_left (g : Nat) (S : Nat → Prop) (code : Int) (bs : List UInt8) (w : World) (h : Rd w g S code bs) :
    Calls Tryz.prog 222 #[.pointer (some ⟨g, 0, none⟩)] w fun e w' => e = .returned (.int .i64 (bs.length : Int)) ∧ w = w' := by
  obtain ⟨A, c, hb, hy, hs⟩ := h
  have h1 : w.cell? ⟨g, 1, none⟩ = some (.slice A bs.length c) := hb.cell_ rfl
  clear hb hy
  go_enter Tryz.func222, Tryz.ntmps222
  go_wp2
  go_ret
  exact ⟨rfl, rfl⟩
def doneCode (code : Int) (bs : List UInt8) : Int := if 0 < bs.length then first_ code 4 else code
theorem reader_done (g : Nat) (S : Nat → Prop) (code : Int) (bs : List UInt8) (w : World) (h : Rd w g S code bs) :
    Calls Tryz.prog 176 #[.pointer (some ⟨g, 0, none⟩)] w fun e w' => e = .returned (.int .i64 (doneCode code bs)) ∧ Rd w' g S (doneCode code bs) bs ∧ Only (one g) w w' := by
  have H := Lib.hid h
  clear h
  by_cases h0 : 0 < bs.length
  · have HD : Hid (doneCode code bs = first_ code 4) := by simp only [Hid, doneCode, if_pos h0]
    go_enter Tryz.func176, Tryz.ntmps176
    go_wp2_with (first
      | (go_at_call 222; refine (reader_left _ _ _ _ _ H.out).mono ?_; rintro e w' ⟨rfl, rfl⟩)
      | (go_at_call 220; refine (reader_fail _ _ _ _ _ _ H.out).mono ?_; rintro e w1 ⟨rfl, h1, o1⟩; have H1 := Lib.hid h1; clear h1)
      | (go_at_call 221; refine (reader_err _ _ _ _ _ H1.out).mono ?_; rintro e w' ⟨rfl, rfl⟩))
    go_ret
    rw [HD.out]
    exact ⟨rfl, H1.out, o1⟩
  · have HD : Hid (doneCode code bs = code) := by simp only [Hid, doneCode, if_neg h0]
    go_enter Tryz.func176, Tryz.ntmps176
    go_wp2_with (first
      | (go_at_call 222; refine (reader_left _ _ _ _ _ H.out).mono ?_; rintro e w' ⟨rfl, rfl⟩)
      | (go_at_call 221; refine (reader_err _ _ _ _ _ H.out).mono ?_; rintro e w' ⟨rfl, rfl⟩))
    go_ret
    rw [HD.out]
    exact ⟨rfl, H.out, Only.refl _ _⟩
end Go.Proofs.YtoohpcomnhfgpaaGreat
end
section
namespace Go.Proofs.YtoohpcomnhfgpaaGreat
open Go.RowKit
set_option linter.all false
theorem take_ok (g : Nat) (S : Nat → Prop) (bs : List UInt8) (n : Nat) (w : World) (h : Rd w g S 0 bs) (hn : n ≤ bs.length) (_hm : bs.length ≤ 9223372036854775807) :
    Calls Tryz.prog 277 #[.pointer (some ⟨g, 0, none⟩), .int .i64 (n : Int)] w fun e w' =>
      ∃ A c, e = .returned (.tuple #[.slice A n c, .bool true]) ∧ Byt w' S (.slice A n c) (bs.take n) ∧ Rd w' g S 0 (bs.drop n) ∧ Only (one g) w w' := by
  obtain ⟨A, c, hb, hy, hs⟩ := h
  have h1 : w.cell? ⟨g, 1, none⟩ = some (.slice A bs.length c) := hb.cell_ rfl
  have h0 := hb.frozen 1
  obtain ⟨i0, hi0, _, hz1, _⟩ := info_parts u8_info
  obtain ⟨A1, r1, b1⟩ := byt_hi Tryz.underlying114 hi0 hy n hn _ rfl
  obtain ⟨A2, L2, c2, r2, b2⟩ := byt_lo Tryz.underlying114 hi0 hz1 hy n hn _ rfl
  have HB := Lib.hid hb
  have HE : ∀ w', w = w' → Rd w' g S 0 bs := by rintro w' rfl; exact ⟨A, c, hb, hy, hs⟩
  have HH := Lib.hid HE
  have B1 := Lib.hid b1
  have B2 := Lib.hid b2
  clear hb hy HE b1 b2 hi0 hz1
  go_enter Tryz.func277, Tryz.ntmps277
  go_wp2_with (first
      | (go_at_call 221; refine (reader_err _ _ _ _ _ (HH.out _ rfl)).mono ?_; rintro e w' ⟨rfl, rfl⟩))
  go_ret2
  have o1 : Only (one g) w (w.setCell ⟨g, 1, none⟩ (.slice A2 L2 c2)) := (Only.refl (one g) w).setCell (.inl (show one g g from rfl)) _
  have hL : L2 = (bs.drop n).length := by
    obtain ⟨_, _, he, _⟩ := B2.out
    injection he
  refine ⟨A1, c, rfl, B1.out.only o1 (fun b hb e => hs (e ▸ hb)), ⟨A2, c2, ?_, ?_, hs⟩, o1⟩
  · rw [← hL]
    exact HB.out.set_ 1 (.slice A2 L2 c2)
  · rw [← hL]
    exact B2.out.only o1 (fun b hb e => hs (e ▸ hb))
def takeCode (code : Int) (bs : List UInt8) (n : Nat) : Int := if bs.length < n then first_ code 6 else code
theorem take_no (g : Nat) (S : Nat → Prop) (code : Int) (bs : List UInt8) (n : Nat) (w : World) (h : Rd w g S code bs) (hn : code ≠ 0 ∨ bs.length < n) (_hm : bs.length ≤ 9223372036854775807) :
    Calls Tryz.prog 277 #[.pointer (some ⟨g, 0, none⟩), .int .i64 (n : Int)] w fun e w' =>
      e = .returned (.tuple #[.slice none 0 0, .bool false]) ∧ Rd w' g S (takeCode code bs n) bs ∧ Only (one g) w w' := by
  have H := Lib.hid h
  obtain ⟨A, c, hb, hy, hs⟩ := h
  have h1 : w.cell? ⟨g, 1, none⟩ = some (.slice A bs.length c) := hb.cell_ rfl
  clear hb hy
  by_cases h0 : bs.length < n
  · have HT : Hid (takeCode code bs n = first_ code 6) := by simp only [Hid, takeCode, if_pos h0]
    have hf : (first_ code 6 != 0) = true := by unfold first_; split <;> simp_all
    clear hn
    go_enter Tryz.func277, Tryz.ntmps277
    go_wp2_with (first
      | (go_at_call 220; refine (reader_fail _ _ _ _ _ _ H.out).mono ?_; rintro e w1 ⟨rfl, h2, o2⟩; have H2 := Lib.hid h2; clear h2)
      | (go_at_call 221; refine (reader_err _ _ _ _ _ H2.out).mono ?_; rintro e w' ⟨rfl, rfl⟩))
    go_ret2
    rw [HT.out]
    exact ⟨rfl, H2.out, o2⟩
  · have HT : Hid (takeCode code bs n = code) := by simp only [Hid, takeCode, if_neg h0]
    have hf : (code != 0) = true := by rcases hn with h | h <;> simp_all
    clear hn
    go_enter Tryz.func277, Tryz.ntmps277
    go_wp2_with (first
      | (go_at_call 221; refine (reader_err _ _ _ _ _ H.out).mono ?_; rintro e w' ⟨rfl, rfl⟩))
    go_ret2
    rw [HT.out]
    exact ⟨rfl, H.out, Only.refl _ _⟩
end Go.Proofs.YtoohpcomnhfgpaaGreat
end
section
namespace Go.Proofs.YtoohpcomnhfgpaaGreat
open Go.RowKit
set_option linter.all false
theorem read_any (x : Value) (bs : List UInt8) (S : Nat → Prop) (w : World) (h : Byt w S x bs) (hb : bs.length ≤ 140737488355328) :
    Calls Tryz.prog 174 #[x] w fun e w' => ∃ g S, e = .returned (.pointer (some ⟨g, 0, none⟩)) ∧ w.heap.size ≤ g ∧ Rd w' g S 0 bs ∧ (∀ b, S b → w.heap.size ≤ b ∧ b < w'.heap.size) ∧ Only none_ w w' := by
  have H := Lib.hid h
  clear h
  go_enter Tryz.func174, Tryz.ntmps174
  go_wp2_with (first
      | (go_at_call 168; refine (bytes_clone _ _ _ _ H.out hb).mono ?_; rintro e w2 ⟨A3, n3, c3, rfl, hw3, o3⟩))
  go_ret
  have h5 : Byt w2 (fun b => w.heap.size ≤ b ∧ b < w2.heap.size) (.slice A3 n3 c3) bs := by
    refine (Byt.of_own hw3).mono fun b hb hk => ?_
    have := hw3.lt b hk
    exact ⟨this.1, by omega⟩
  refine ⟨_, (fun b => w.heap.size ≤ b ∧ b < w2.heap.size), rfl, o3.size, ?_, fun b hb => ⟨hb.1, by simp only [World.size_alloc]; omega⟩, o3.alloc _⟩
  have h6 := h5
  obtain ⟨_, _, he, _⟩ := h6
  injection he with e1 e2 e3
  subst e2
  exact ⟨A3, c3, Blk.new _ _ _, h5.alloc _, fun h => absurd h.2 (Nat.lt_irrefl _)⟩
end Go.Proofs.YtoohpcomnhfgpaaGreat
end
section
namespace Go.Proofs.YtoohpcomnhfgpaaGreat
open Go.RowKit
set_option linter.all false
def leVal : List UInt8 → Nat
  | [] => 0
  | b :: r => b.toNat + 256 * leVal r
theorem leVal_lt : ∀ bs : List UInt8, leVal bs < 256 ^ bs.length
  | [] => by simp [leVal]
  | b :: r => by
    have h1 := leVal_lt r
    have h2 := b.toNat_lt
    simp only [leVal, List.length_cons, Nat.pow_succ]
    omega
theorem leVal_snoc : ∀ (bs : List UInt8) (b : UInt8), leVal (bs ++ [b]) = leVal bs + 256 ^ bs.length * b.toNat
  | [], b => by simp [leVal]
  | x :: r, b => by
    simp only [List.cons_append, leVal, leVal_snoc r b, List.length_cons, Nat.pow_succ]
    rw [Nat.mul_add, Nat.mul_comm (256 ^ r.length) 256, Nat.mul_assoc]
    omega
def numR (code : Int) (bs : List UInt8) (width : Int) : Int × List UInt8 × Nat :=
  if isW width = true then (if code = 0 ∧ width.toNat ≤ bs.length then (0, bs.drop width.toNat, leVal (bs.take width.toNat)) else (takeCode code bs width.toNat, bs, 0)) else (first_ code 1, bs, 0)
theorem or_step (v z k : Nat) (hk : k < 8) (hv : v < 256 ^ k) (hz : z < 256) :
    bits .or .u64 (v : Int) (IntKind.u64.wrap ((z : Int) * 2 ^ (8 * k))) = ((v + 256 ^ k * z : Nat) : Int) := by
  have e1 : (256 : Nat) ^ k = 2 ^ (8 * k) := by rw [Nat.pow_mul]
  rw [e1] at hv ⊢
  have h1 : 2 ^ (8 * k) * 256 ≤ 18446744073709551616 := by
    have : 2 ^ (8 * k) ≤ 2 ^ 56 := Nat.pow_le_pow_right (by omega) (by omega)
    omega
  have h2 : z * 2 ^ (8 * k) < 18446744073709551616 := by
    have : z * 2 ^ (8 * k) < 256 * 2 ^ (8 * k) := Nat.mul_lt_mul_of_pos_right hz (Nat.two_pow_pos _)
    rw [Nat.mul_comm 256] at this
    omega
  have e2 : ((z : Int) * 2 ^ (8 * k)) = ((z * 2 ^ (8 * k) : Nat) : Int) := by push_cast; rfl
  have e3 : IntKind.u64.wrap ((z * 2 ^ (8 * k) : Nat) : Int) = ((z * 2 ^ (8 * k) : Nat) : Int) := IntWalk.u64_in _ (by omega)
  rw [e2, e3, u64_or_nat _ _ (by omega) h2, Nat.or_comm, nat_join (8 * k) (z * 2 ^ (8 * k)) v (by simp) hv, Nat.mul_comm z, Nat.add_comm]
theorem le_take (xs : List UInt8) (k : Nat) (hk : k < xs.length) : leVal (xs.take (k + 1)) = leVal (xs.take k) + 256 ^ k * xs[k].toNat := by
  rw [List.take_succ_eq_append_getElem hk, leVal_snoc]
  congr 2
  rw [List.length_take, Nat.min_eq_left (by omega)]
theorem le_take_lt (xs : List UInt8) (k : Nat) (hk : k ≤ xs.length) : leVal (xs.take k) < 256 ^ k := by
  have := leVal_lt (xs.take k)
  rwa [List.length_take, Nat.min_eq_left hk] at this
set_option maxHeartbeats 400000 in
theorem reader_number (g : Nat) (S : Nat → Prop) (code : Int) (bs : List UInt8) (width : Int) (w : World) (h : Rd w g S code bs) (hm : bs.length ≤ 140737488355328) :
    Calls Tryz.prog 251 #[.pointer (some ⟨g, 0, none⟩), .int .i64 width] w fun e w' =>
      e = .returned (.int .u64 ((numR code bs width).2.2 : Int)) ∧ Rd w' g S (numR code bs width).1 (numR code bs width).2.1 ∧ Only (one g) w w' := by
  have H := Lib.hid h
  clear h
  by_cases hw : isW width = true
  · have hr : 1 ≤ width ∧ width ≤ 8 := by simpa [isW] using hw
    obtain ⟨m, rfl⟩ : ∃ m : Nat, width = m := ⟨width.toNat, by omega⟩
    obtain ⟨hm1, hm2⟩ : 1 ≤ m ∧ m ≤ 8 := by omega
    clear hr
    have HW := Lib.hid hw
    by_cases h1 : code = 0 ∧ m ≤ bs.length
    · obtain ⟨rfl, h1⟩ := h1
      have HR : Hid (numR 0 bs (m : Int) = (0, bs.drop m, leVal (bs.take m))) := by simp only [Hid, numR, hw, Int.toNat_natCast, h1, true_and, if_true]
      clear hw
      obtain ⟨xs, hxs⟩ : ∃ xs, xs = bs.take m := ⟨_, rfl⟩
      have hxl : Hid (xs.length = m) := by rw [hxs]; simp only [Hid, List.length_take]; omega
      rw [← hxs] at HR
      have HT := take_ok g S bs m w H.out h1 (by omega)
      rw [← hxs] at HT
      clear hxs
      go_enter Tryz.func251, Tryz.ntmps251
      go_wp2_with (first
        | (go_at_call 269; refine (isWidth_any _ _).mono ?_; rintro e w' ⟨rfl, rfl⟩; rw [HW.out])
        | (go_at_call 277; refine HT.mono ?_; rintro e w1 ⟨A, c, rfl, hb2, h2, o2⟩; have H2 := Lib.hid h2; clear h2))
      obtain ⟨A', c', he, _, _, _, hcs⟩ := hb2
      injection he with e1 e2 e3
      subst e1 e3
      obtain ⟨b, off, rfl, _, _, hc⟩ := hcs (by rw [hxl.out]; omega)
      have HC := Lib.hid hc
      clear hcs hc e2
      go_loop [7, 25] (fun v i => ∃ k : Nat, k ≤ m ∧ i = .int .i64 k ∧ v = .int .u64 (leVal (xs.take k))) (fun _ i => m - (intOf i).toNat)
      case atStart => exact ⟨0, by omega, rfl, by simp [leVal]⟩
      case round =>
        obtain ⟨k, hk, rfl, rfl⟩ := hrel
        by_cases hlt : k < m
        · have hz : w1.cell? ⟨b, off + k, none⟩ = some (.int .u8 ((xs[k]'(by rw [hxl.out]; exact hlt)).toNat : Int)) := HC.out k _
          obtain ⟨z, hzz⟩ : ∃ z, z = xs[k]'(by rw [hxl.out]; exact hlt) := ⟨_, rfl⟩
          rw [← hzz] at hz
          have hz8 := z.toNat_lt
          have HS : Hid (bits .or .u64 (leVal (xs.take k) : Int) (IntKind.u64.wrap ((z.toNat : Int) * 2 ^ (8 * k))) = (leVal (xs.take (k + 1)) : Int)) := by
            have h5 := le_take xs k (by rw [hxl.out]; exact hlt)
            rw [← hzz] at h5
            rw [Hid, h5]
            exact or_step _ _ k (by omega) (le_take_lt xs k (by rw [hxl.out]; exact hk)) hz8
          clear hzz
          go_wp2
          go_round
          case rel => exact ⟨k + 1, by omega, by go_num, by rw [HS.out]⟩
          case measure => simp [intOf]; omega
        · have HK : Hid (xs.take k = xs) := List.take_of_length_le (by rw [hxl.out]; omega)
          go_wp2
          go_ret
          rw [HR.out, HK.out]
          exact ⟨rfl, H2.out, o2⟩
    · have HR : Hid (numR code bs (m : Int) = (takeCode code bs m, bs, 0)) := by simp only [Hid, numR, hw, Int.toNat_natCast, h1, if_true, if_false]
      have h2 : code ≠ 0 ∨ bs.length < m := by
        by_cases hc : code = 0
        · exact .inr (by have : ¬ m ≤ bs.length := fun h => h1 ⟨hc, h⟩; omega)
        · exact .inl hc
      clear h1 hw
      have HC := Lib.hid h2
      clear h2
      go_enter Tryz.func251, Tryz.ntmps251
      go_wp2_with (first
        | (go_at_call 269; refine (isWidth_any _ _).mono ?_; rintro e w' ⟨rfl, rfl⟩; rw [HW.out])
        | (go_at_call 277; refine (take_no _ _ _ _ _ _ H.out HC.out (by omega)).mono ?_; rintro e w1 ⟨rfl, h2, o2⟩; have H2 := Lib.hid h2; clear h2))
      refine wp_loop_rounds 1 ?_
      rw [rounds_succ]
      go_wp2
      go_ret
      rw [HR.out]
      exact ⟨rfl, H2.out, o2⟩
  · have hw' : isW width = false := by simpa using hw
    have HR : Hid (numR code bs width = (first_ code 1, bs, 0)) := by simp [Hid, numR, hw']
    have HW := Lib.hid hw'
    clear hw hw'
    go_enter Tryz.func251, Tryz.ntmps251
    go_wp2_with (first
      | (go_at_call 269; refine (isWidth_any _ _).mono ?_; rintro e w' ⟨rfl, rfl⟩; rw [HW.out])
      | (go_at_call 220; refine (reader_fail _ _ _ _ _ _ H.out).mono ?_; rintro e w1 ⟨rfl, h2, o2⟩; have H2 := Lib.hid h2; clear h2))
    go_ret
    rw [HR.out]
    exact ⟨rfl, H2.out, o2⟩
end Go.Proofs.YtoohpcomnhfgpaaGreat
end
