/- Two indexes and a list of the last marks: plain facts, and what lies where. No statement of the seat is proved here. -/
import Derived.Test.YtclngnoapfjghaaRcGm
namespace Go.Proofs.Ytclngnoapfjghaa
open Go.RowKit
set_option maxRecDepth 100000
set_option linter.all false

theorem ins_perm (m : Mk) : ∀ l : List Mk, (insM m l).Perm (m :: l)
  | [] => List.Perm.refl _
  | x :: r => by
    unfold insM; split
    · exact List.Perm.refl _
    · exact ((ins_perm m r).cons x).trans (List.Perm.swap m x r)
theorem drop_perm {l l' : List Mk} (h : l.Perm l') (k : ByteArray) : (dropM l k).Perm (dropM l' k) := h.filter _
theorem put_perm {q ll : List Mk} (h : q.Perm ll) (m : Mk) : (putM q m).Perm (dropM ll m.k ++ [m]) :=
  (ins_perm m _).trans (((drop_perm h m.k).cons m).trans (List.perm_append_singleton m _).symm)
theorem desc_ext : ∀ {l l' : List Mk}, Desc l → Desc l' → (∀ x, x ∈ l ↔ x ∈ l') → l = l'
  | [], [], _, _, _ => rfl
  | [], y :: r, _, _, h => by have := (h y).2 List.mem_cons_self; cases this
  | x :: r, [], _, _, h => by have := (h x).1 List.mem_cons_self; cases this
  | x :: l, y :: l', h, h', e => by
    have a := List.pairwise_cons.1 h
    have b := List.pairwise_cons.1 h'
    have hxy : x = y := by
      rcases List.mem_cons.1 ((e x).1 List.mem_cons_self) with hx | hx
      · exact hx
      · rcases List.mem_cons.1 ((e y).2 List.mem_cons_self) with hy | hy
        · exact hy.symm
        · have h1 := b.1 x hx
          have h2 := later_asym (a.1 y hy)
          rw [h1] at h2
          cases h2
    subst hxy
    congr 1
    refine desc_ext a.2 b.2 fun z => ⟨fun hz => ?_, fun hz => ?_⟩
    · rcases List.mem_cons.1 ((e z).1 (List.mem_cons_of_mem _ hz)) with rfl | h1
      · have := a.1 _ hz; rw [later_irr] at this; cases this
      · exact h1
    · rcases List.mem_cons.1 ((e z).2 (List.mem_cons_of_mem _ hz)) with rfl | h1
      · have := b.1 _ hz; rw [later_irr] at this; cases this
      · exact h1
theorem ixl_ext {l l' : List Mk} (h : Ixl l) (h' : Ixl l') (hp : l.Perm l') : l = l' := desc_ext h.ds h'.ds fun x => hp.mem_iff
theorem keys_perm {l l' : List Mk} (h : Keys_ l) (hp : l.Perm l') : Keys_ l' := List.Perm.pairwise hp h fun e => e.symm
/-- The next from the end on. -/
theorem last_back {ll yq : List Mk} {n i e : Nat} (hk : Keys_ ll) (hn : ll.length = n) (hi : i < n) (he : e = n - 1 - i) (hp : yq.Perm (ll.drop (n - i))) {m : Mk} (hm : ll[e]? = some m) : (putM yq m).Perm (ll.drop (n - (i + 1))) := by
  obtain ⟨hlt, hme⟩ := List.getElem?_eq_some_iff.1 hm
  have hd : ll.drop e = m :: ll.drop (e + 1) := by rw [List.drop_eq_getElem_cons hlt, hme]
  have e1 : n - i = e + 1 := by omega
  have e2 : n - (i + 1) = e := by omega
  rw [e1] at hp
  rw [e2, hd]
  have hkd : Keys_ (m :: ll.drop (e + 1)) := by rw [← hd]; exact hk.sublist (List.drop_sublist _ _)
  have hno : hasM yq m.k = false := by
    cases h : hasM yq m.k with
    | false => rfl
    | true =>
      obtain ⟨x, hx, hxe⟩ := List.any_eq_true.1 h
      exact absurd (by simpa using hxe : x.k = m.k).symm ((List.pairwise_cons.1 hkd).1 x (hp.mem_iff.1 hx))
  rw [putM, drop_not hno]
  exact (ins_perm m _).trans (hp.cons m)
theorem drop_front {ll r : List Mk} {j : Nat} (hk : Keys_ ll) (hp : r.Perm (ll.drop j)) {m : Mk} (hm : ll[j]? = some m) : hasM r m.k = true ∧ (dropM r m.k).Perm (ll.drop (j + 1)) := by
  obtain ⟨hlt, hme⟩ := List.getElem?_eq_some_iff.1 hm
  have hd : ll.drop j = m :: ll.drop (j + 1) := by rw [List.drop_eq_getElem_cons hlt, hme]
  rw [hd] at hp
  refine ⟨has_mem (hp.mem_iff.2 List.mem_cons_self), ?_⟩
  have hkd : Keys_ (m :: ll.drop (j + 1)) := by rw [← hd]; exact hk.sublist (List.drop_sublist _ _)
  have h1 := drop_perm hp m.k
  have h2 : dropM (m :: ll.drop (j + 1)) m.k = ll.drop (j + 1) := by
    rw [dropM, List.filter_cons_of_neg (by simp)]
    exact List.filter_eq_self.2 fun x hx => by simpa using fun e => (List.pairwise_cons.1 hkd).1 x hx e.symm
  rwa [h2] at h1

/-- Two indexes, and the document's list. -/
structure Gz (W : World) (g mb : Nat) (v : Value) (q : List Mk) (g' mb' : Nat) (v' : Value) (q' : List Mk) (lv : Value) (ll : List Mk) (w : World) : Prop where
  x : Rc W.heap.size g mb q q v w
  y : Rc W.heap.size g' mb' q' q' v' w
  dj : ∀ k, Ft g mb v k → ¬ Ft g' mb' v' k
  rf : w.ownsRow W.heap.size 31 3 lv ll.length (ll.flatMap mkI)
  ho : Only none_ W w
section
variable {W w w' : World} {g mb g' mb' : Nat} {v v' lv : Value} {q q' ll : List Mk}
theorem Gz.keep (h : Gz W g mb v q g' mb' v' q' lv ll w) (o : Only none_ w w') : Gz W g mb v q g' mb' v' q' lv ll w' :=
  ⟨h.x.keep o, h.y.keep o, h.dj, owns_only h.rf o (fun _ _ h => h), h.ho.trans o⟩
theorem Gz.swap (h : Gz W g mb v q g' mb' v' q' lv ll w) : Gz W g' mb' v' q' g mb v q lv ll w :=
  ⟨h.y, h.x, fun k h1 h2 => h.dj k h2 h1, h.rf, h.ho⟩
theorem Gz.left (h : Gz W g mb v q g' mb' v' q' lv ll w) {q2 : List Mk} (r : LeftR W.heap.size g mb v w q2 w') : ∃ v2, Gz W g mb v2 q2 g' mb' v' q' lv ll w' := by
  obtain ⟨v2, rc2, o, mv⟩ := r
  refine ⟨v2, rc2, h.y.far o (fun k h1 h2 => h.dj k h2 h1), fun k h1 h2 => ?_, owns_only h.rf o (h.x.ne_row h.rf (by decide) (by decide)), h.ho.trans' o (fun k hk hf => by have := (h.x.foot hf).1; omega)⟩
  have hk := (h.y.foot h2).2
  exact h.dj k (mv_foot mv k hk h1) h2
theorem Gz.right (h : Gz W g mb v q g' mb' v' q' lv ll w) {q2 : List Mk} (r : LeftR W.heap.size g' mb' v' w q2 w') : ∃ v2, Gz W g mb v q g' mb' v2 q2 lv ll w' := by
  obtain ⟨v2, h2⟩ := h.swap.left r
  exact ⟨v2, h2.swap⟩
theorem Gz.list (h : Gz W g mb v q g' mb' v' q' lv ll w) (o : Only none_ w w') {lv2 : Value} {ll2 : List Mk} {n : Nat} {xs : List Value} (own : w'.ownsRow w.heap.size 31 3 lv2 n xs) (hn : n = ll2.length) (hx : xs = ll2.flatMap mkI) : Gz W g mb v q g' mb' v' q' lv2 ll2 w' := by
  subst hn hx
  exact ⟨h.x.keep o, h.y.keep o, h.dj, owns_base own h.x.sz, h.ho.trans o⟩
theorem Gz.row {A : Option Addr} {n c : Nat} (h : Gz W g mb v q g' mb' v' q' (.slice A n c) ll w) (hn : ll.length = n) : w.ownsRow W.heap.size 31 3 (.slice A n c) n (ll.flatMap mkI) := by
  have := h.rf
  rwa [hn] at this
end
theorem blk_cel {w : World} {b : Nat} {t : TypeId} {m : Mk} (h : Blk w b t #[.int .i64 m.a.c, .int .i64 m.a.s, .string m.k]) : Cel w (fun k => k = b) (.slice (some ⟨b, 0, none⟩) 1 1) 1 3 [.int .i64 m.a.c, .int .i64 m.a.s, .string m.k] :=
  ⟨_, 1, rfl, rfl, Nat.le_refl _, by simp [maxLen], fun e => (by cases e), fun _ => ⟨b, 0, rfl, rfl, h.lt, fun j u hu => by rw [Nat.zero_add, h.cell]; simpa using hu⟩⟩
theorem sl_rdrop {A : Option Addr} {c nq : Nat} {q : List Mk} {w0 w : World} {S : Nat → Prop} (h : Cel w0 S (.slice A nq c) nq 3 (q.flatMap mkI)) (hq : nq = q.length) (hq2 : nq ≤ 1000) (x : ByteArray) (o : Only none_ w0 w) {n : Nat} {l : List Mk} (hl : dropM q x = l) (hn : l.length = n) :
    Calls Try.prog 16 #[.slice A nq c, .string x] w fun e w' => ∃ v, e = .returned v ∧ Sli w0.heap.size 31 n l v w' ∧ Only none_ w w' :=
  (rm_drop S q A nq c x w (h.only o (fun _ _ h => h)) hq (by omega)).mono fun e w' ⟨v', he, r⟩ => ⟨v', he, Sli.of (hl ▸ r.ow) hn o.size, r.ho⟩
end Go.Proofs.Ytclngnoapfjghaa
