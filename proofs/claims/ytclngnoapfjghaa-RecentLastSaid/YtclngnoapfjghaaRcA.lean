/- An index beside the document's: what lies where while acts are done. No statement of the seat is proved here. -/
import Derived.Test.YtclngnoapfjghaaRcX
namespace Go.Proofs.Ytclngnoapfjghaa
open Go.RowKit
set_option maxRecDepth 100000
set_option linter.all false

theorem own_ne_map {w : World} {b base n k : Nat} {e : TypeId} {v : Value} {xs : List Value} {l : List Mk} (h : w.ownsRow base e k v n xs) (hm : Mp w b l) : v.ownBlock ≠ some b := by
  intro hk
  obtain ⟨es, clock, hb, _⟩ := hm
  rcases h.2 with ⟨rfl, _⟩ | ⟨g, cap, cur, rfl, _, hh, _⟩
  · cases hk
  · have e1 : some g = some b := hk
    injection e1 with e1
    subst e1
    rw [hb] at hh
    cases hh
theorem owns_apart {w : World} {b b' s s' n n' : Nat} {e e' : TypeId} {v v' : Value} {xs ys : List Value} (h : w.ownsRow b e s v n xs) (h' : w.ownsRow b' e' s' v' n' ys) (hne : e ≠ e') : ∀ k, v.ownBlock = some k → v'.ownBlock ≠ some k := by
  intro k hk hk'
  rcases h.2 with ⟨rfl, _⟩ | ⟨g, cap, cur, rfl, _, hh, _⟩
  · cases hk
  · rcases h'.2 with ⟨rfl, _⟩ | ⟨g', cap', cur', rfl, _, hh', _⟩
    · cases hk'
    · have e1 : some g = some k := hk
      have e2 : some g' = some k := hk'
      injection e1 with e1
      injection e2 with e2
      subst e1
      subst e2
      rw [hh] at hh'
      injection hh' with hh'
      injection hh' with _ hh' _
      exact hne hh'
theorem Rc.base {N N' g mb : Nat} {l q : List Mk} {v : Value} {w : World} (h : Rc N g mb l q v w) (hn : N' ≤ N) : Rc N' g mb l q v w :=
  ⟨h.bk, owns_base h.ow hn, h.mp, Nat.le_trans hn h.gn, Nat.le_trans hn h.mn, h.ix, h.ml⟩
/-- A block of another type is none of an index'. -/
theorem Rc.ne_blk {N g mb : Nat} {l q : List Mk} {v : Value} {w : World} {h : Nat} {t : TypeId} {cs : Array Value} (s : Rc N g mb l q v w) (hb : Blk w h t cs) (h1 : t ≠ 90) (h2 : 39 ≠ t) : ¬ Ft g mb v h := by
  rintro (rfl | rfl | e)
  · exact hb.ne_ s.bk h1 rfl
  · exact s.mp.ne_blk hb rfl
  · exact own_blk_ne s.ow hb h2 e
theorem Rc.ne_row {N g mb : Nat} {l q : List Mk} {v : Value} {w : World} {base k n : Nat} {e : TypeId} {mv : Value} {xs : List Value} (s : Rc N g mb l q v w) (hr : w.ownsRow base e k mv n xs) (h1 : e ≠ 90) (h2 : e ≠ 39) : ∀ b, mv.ownBlock = some b → ¬ Ft g mb v b := by
  rintro b hb (rfl | rfl | hf)
  · exact own_blk_ne hr s.bk h1 hb
  · exact own_ne_map hr s.mp hb
  · exact owns_apart hr s.ow h2 b hb hf

/-- An index, and the document's list. -/
structure Prs (W : World) (g mb : Nat) (v mv : Value) (l q : List Mk) (w : World) : Prop where
  rc : Rc W.heap.size g mb l l v w
  rf : w.ownsRow W.heap.size 31 3 mv q.length (q.flatMap mkI)
  ho : Only none_ W w
section
variable {W w w' : World} {g mb : Nat} {v mv : Value} {l q : List Mk}
theorem Prs.keep (h : Prs W g mb v mv l q w) (o : Only none_ w w') : Prs W g mb v mv l q w' := ⟨h.rc.keep o, owns_only h.rf o (fun _ _ h => h), h.ho.trans o⟩
theorem Prs.idx (h : Prs W g mb v mv l q w) {l' : List Mk} (r : LeftR W.heap.size g mb v w l' w') : ∃ v', Prs W g mb v' mv l' q w' := by
  obtain ⟨v', rc', o, _⟩ := r
  exact ⟨v', rc', owns_only h.rf o (h.rc.ne_row h.rf (by decide) (by decide)), h.ho.trans' o (fun k hk hf => by have := (h.rc.foot hf).1; omega)⟩
theorem Prs.ref (h : Prs W g mb v mv l q w) {mv' : Value} {q' : List Mk} (own : w'.ownsRow w.heap.size 31 3 mv' q'.length (q'.flatMap mkI)) (o : Only none_ w w') : Prs W g mb v mv' l q' w' :=
  ⟨h.rc.keep o, owns_base own h.rc.sz, h.ho.trans o⟩
theorem Prs.shape (h : Prs W g mb v mv l q w) : ∃ A c, mv = .slice A q.length c := by
  rcases h.rf.2 with ⟨rfl, h0⟩ | ⟨_, _, _, rfl, _⟩
  · exact ⟨none, 0, by rw [h0]⟩
  · exact ⟨_, _, rfl⟩
theorem Prs.cel {A : Option Addr} {n c : Nat} (h : Prs W g mb v (.slice A n c) l q w) (hn : n = q.length) : Cel w (ownb (.slice A n c)) (.slice A n c) n 3 (q.flatMap mkI) := by
  have := Cel.of_own h.rf
  rwa [← hn] at this
/-- What the document does with its list. -/
theorem Prs.find {A : Option Addr} {n c : Nat} (h : Prs W g mb v (.slice A n c) l q w) (hn : n = q.length) (hq : n ≤ 100) (x : ByteArray) :
    Calls Try.prog 12 #[.slice A n c, .string x] w fun e w' => e = .returned (.int .i64 (fndM q x)) ∧ w = w' := rm_find _ q A n c x w (h.cel hn) hn (by omega)
theorem Prs.rput {A : Option Addr} {n c : Nat} (h : Prs W g mb v (.slice A n c) l q w) (hn : n = q.length) (hq : n ≤ 100) (m : Mk) :
    Calls Try.prog 13 #[.slice A n c, .agg #[.int .i64 m.a.c, .int .i64 m.a.s, .string m.k]] w fun e w' => ∃ A' n' c', e = .returned (.slice A' n' c') ∧ n' = (putM q m).length ∧ Prs W g mb v (.slice A' n' c') l (putM q m) w' ∧ Only none_ w w' :=
  (rm_put _ q A n c m w (h.cel hn) hn (by omega)).mono fun e w' ⟨v', he, own, o⟩ => by
    have p := h.ref own o
    obtain ⟨A', c', rfl⟩ := p.shape
    exact ⟨A', _, c', he, rfl, p, o⟩
theorem Prs.rdrop {A : Option Addr} {n c : Nat} (h : Prs W g mb v (.slice A n c) l q w) (hn : n = q.length) (hq : n ≤ 100) (x : ByteArray) :
    Calls Try.prog 16 #[.slice A n c, .string x] w fun e w' => ∃ A' n' c', e = .returned (.slice A' n' c') ∧ n' = (dropM q x).length ∧ Prs W g mb v (.slice A' n' c') l (dropM q x) w' ∧ Only none_ w w' :=
  (rm_drop _ q A n c x w (h.cel hn) hn (by omega)).mono fun e w' ⟨v', he, r⟩ => by
    have p := h.ref r.ow r.ho
    obtain ⟨A', c', rfl⟩ := p.shape
    exact ⟨A', _, c', he, rfl, p, r.ho⟩
end
/-- A slice of marks of the call's own, from block B on. -/
def Sli (B : Nat) (e : TypeId) (n : Nat) (l : List Mk) (v : Value) (w : World) : Prop := ∃ A c, v = .slice A n c ∧ w.ownsRow B e 3 (.slice A n c) n (l.flatMap mkI)
theorem Sli.keep {B n : Nat} {e : TypeId} {l : List Mk} {v : Value} {w w' : World} (h : Sli B e n l v w) (o : Only none_ w w') : Sli B e n l v w' := by
  obtain ⟨A, c, e1, h⟩ := h
  exact ⟨A, c, e1, owns_only h o (fun _ _ h => h)⟩
theorem Sli.of {B M n : Nat} {e : TypeId} {l : List Mk} {v : Value} {w : World} (h : w.ownsRow B e 3 v l.length (l.flatMap mkI)) (hn : l.length = n) (hb : M ≤ B) : Sli M e n l v w := by
  subst hn
  have h := owns_base h hb
  rcases h.2 with ⟨rfl, h0⟩ | ⟨_, _, _, rfl, _⟩
  · exact ⟨none, 0, by rw [h0], by rw [h0]; rw [h0] at h; exact h⟩
  · exact ⟨_, _, rfl, h⟩
theorem sl_newest {N g mb : Nat} {q : List Mk} {v : Value} {w0 w : World} (h : Rc N g mb q q v w0) (k : Int) (o : Only none_ w0 w) {n : Nat} {l : List Mk} (hl : belM q mkTop k = l) (hn : l.length = n) :
    Calls Try.prog 23 #[.pointer (some ⟨g, 0, none⟩), .int .i64 k] w fun e w' => ∃ v, e = .returned v ∧ Sli w0.heap.size 39 n l v w' ∧ Only none_ w w' :=
  (rc_newest N g mb q q v k w (h.keep o)).mono fun e w' ⟨v', he, own, o'⟩ => ⟨v', he, Sli.of (hl ▸ own) hn o.size, o'⟩
theorem sl_below {N g mb : Nat} {q : List Mk} {v : Value} {w0 w : World} (h : Rc N g mb q q v w0) (m : Mk) (k : Int) (o : Only none_ w0 w) {n : Nat} {l : List Mk} (hl : belM q m k = l) (hn : l.length = n) :
    Calls Try.prog 25 #[.pointer (some ⟨g, 0, none⟩), .agg #[.int .i64 m.a.c, .int .i64 m.a.s, .string m.k], .int .i64 k] w fun e w' => ∃ v, e = .returned v ∧ Sli w0.heap.size 39 n l v w' ∧ Only none_ w w' :=
  (rc_below N g mb q q v m k w (h.keep o)).mono fun e w' ⟨v', he, own, o'⟩ => ⟨v', he, Sli.of (hl ▸ own) hn o.size, o'⟩
theorem sl_rbelow {A : Option Addr} {c nq : Nat} {q : List Mk} {w0 w : World} {S : Nat → Prop} (h : Cel w0 S (.slice A nq c) nq 3 (q.flatMap mkI)) (hq : nq = q.length) (hq2 : nq ≤ 1000) (m : Mk) (k : Int) (o : Only none_ w0 w) {n : Nat} {l : List Mk} (hl : belM q m k = l) (hn : l.length = n) :
    Calls Try.prog 24 #[.slice A nq c, .agg #[.int .i64 m.a.c, .int .i64 m.a.s, .string m.k], .int .i64 k] w fun e w' => ∃ v, e = .returned v ∧ Sli w0.heap.size 31 n l v w' ∧ Only none_ w w' :=
  (rm_below S q A nq c m k w (h.only o (fun _ _ h => h)) hq hq2).mono fun e w' ⟨v', he, own, o'⟩ => ⟨v', he, Sli.of (hl ▸ own) hn o.size, o'⟩
theorem sl_tos {M : Nat} {A : Option Addr} {n c : Nat} {l : List Mk} {w0 w : World} (h : w.ownsRow M 39 3 (.slice A n c) n (l.flatMap mkI)) (o : Only none_ w0 w) (hn : l.length = n) (hl : n ≤ 1000) :
    Calls Try.prog 22 #[.slice A n c] w fun e w' => ∃ v, e = .returned v ∧ Sli w0.heap.size 31 n l v w' ∧ Only none_ w w' :=
  (mk_tos _ l A n c w (Cel.of_own h) hn.symm hl).mono fun e w' ⟨v', he, r⟩ => ⟨v', he, Sli.of r.ow hn o.size, r.ho⟩
theorem sl_same {M M' : Nat} {A B : Option Addr} {n c d : Nat} {l : List Mk} {w : World} {e e' : TypeId} (h : w.ownsRow M e 3 (.slice A n c) n (l.flatMap mkI)) (h' : w.ownsRow M' e' 3 (.slice B n d) n (l.flatMap mkI)) (hn : l.length = n) (hl : n ≤ 4096) :
    Calls Try.prog 21 #[.slice A n c, .slice B n d] w fun e w' => e = .returned (.bool true) ∧ Only none_ w w' :=
  rm_same _ _ l A B n c d w (Cel.of_own h) (Cel.of_own h') hn.symm hl
/-- And an act in a box. -/
structure Pbx (W : World) (g mb h1 : Nat) (a : Ra) (v mv : Value) (l q : List Mk) (w : World) : Prop where
  p : Prs W g mb v mv l q w
  x : Blk w h1 33 #[.int .i64 a.kind, .int .i64 a.m.a.c, .int .i64 a.m.a.s, .string a.m.k, .int .i64 a.b.a.c, .int .i64 a.b.a.s, .string a.b.k, .int .i64 a.n]
section
variable {W w w' : World} {g mb h1 : Nat} {a : Ra} {v mv : Value} {l q : List Mk}
theorem Pbx.keep (h : Pbx W g mb h1 a v mv l q w) (o : Only none_ w w') : Pbx W g mb h1 a v mv l q w' := ⟨h.p.keep o, h.x.only o (fun h => h)⟩
theorem Pbx.idx (h : Pbx W g mb h1 a v mv l q w) {l' : List Mk} (r : LeftR W.heap.size g mb v w l' w') : ∃ v', Pbx W g mb h1 a v' mv l' q w' := by
  obtain ⟨v', p'⟩ := h.p.idx r
  obtain ⟨_, _, o, _⟩ := r
  exact ⟨v', p', h.x.only o (h.p.rc.ne_blk h.x (by decide) (by decide))⟩
structure Pcs (w : World) (h1 : Nat) (kd mc ms : Int) (mk : ByteArray) (bc bs : Int) (bk : ByteArray) (n : Int) : Prop where
  c0 : w.cell? ⟨h1, 0, none⟩ = some (.int .i64 kd)
  c1 : w.cell? ⟨h1, 1, none⟩ = some (.int .i64 mc)
  c2 : w.cell? ⟨h1, 2, none⟩ = some (.int .i64 ms)
  c3 : w.cell? ⟨h1, 3, none⟩ = some (.string mk)
  c4 : w.cell? ⟨h1, 4, none⟩ = some (.int .i64 bc)
  c5 : w.cell? ⟨h1, 5, none⟩ = some (.int .i64 bs)
  c6 : w.cell? ⟨h1, 6, none⟩ = some (.string bk)
  c7 : w.cell? ⟨h1, 7, none⟩ = some (.int .i64 n)
theorem Pbx.cells (h : Pbx W g mb h1 a v mv l q w) : Pcs w h1 a.kind a.m.a.c a.m.a.s a.m.k a.b.a.c a.b.a.s a.b.k a.n :=
  ⟨h.x.cell_ rfl, h.x.cell_ rfl, h.x.cell_ rfl, h.x.cell_ rfl, h.x.cell_ rfl, h.x.cell_ rfl, h.x.cell_ rfl, h.x.cell_ rfl⟩
end
/-- What an act makes of a list. -/
def raDo (a : Ra) (l : List Mk) : List Mk := if a.kind = 0 then putM l a.m else dropM l a.m.k
theorem raDo_len (a : Ra) (l : List Mk) : (raDo a l).length ≤ l.length + 1 := by
  unfold raDo; split
  · exact mput_len l a.m
  · have := mdrop_len l a.m.k; omega
/-- What holds where the two ways of an act meet. -/
def MetA (W : World) (g mb h1 : Nat) (a : Ra) (l : List Mk) (s : Value) (w : World) : Prop := ∃ v A n c, s = .slice A n c ∧ n = l.length ∧ Pbx W g mb h1 a v (.slice A n c) l l w
end Go.Proofs.Ytclngnoapfjghaa
