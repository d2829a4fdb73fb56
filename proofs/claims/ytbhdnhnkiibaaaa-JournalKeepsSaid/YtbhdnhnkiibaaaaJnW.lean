/- A disk, its journal, and lists beside it: what holds from round to round. No statement of the seat is proved here. -/
import Derived.Test.YtbhdnhnkiibaaaaJnV
import Derived.Test.YtbhdnhnkiibaaaaJnT
import Derived.Test.YtbhdnhnkiibaaaaJnU
namespace Go.Proofs.Ytbhdnhnkiibaaaa
open Go.RowKit
set_option maxRecDepth 100000
set_option linter.all false

/-- Those of some bytes that may be records. -/
def okL (l : List (List UInt8)) : List (List UInt8) := l.filter fun r => decide (recCode r.length = 0)
theorem okL_ok (l : List (List UInt8)) : ∀ r ∈ okL l, Rok r := fun r hr => by
  have := (List.mem_filter.1 hr).2
  exact (rok_iff r).1 (by simpa using this)
theorem okL_len (l : List (List UInt8)) : (okL l).length ≤ l.length := List.length_filter_le _ _
theorem okL_snoc (l : List (List UInt8)) (k : Nat) (hk : k < l.length) : okL (l.take (k + 1)) = if recCode l[k].length = 0 then okL (l.take k) ++ [l[k]] else okL (l.take k) := by
  rw [okL, List.take_succ_eq_append_getElem hk, List.filter_append]
  split
  · next h => simp [okL, h]
  · next h => simp [okL, h]
theorem flatB_le (l : List (List UInt8)) (h : ∀ r ∈ l, Rok r) : (flatB l).length ≤ 522 * l.length := by
  induction l with
  | nil => simp [flatB]
  | cons r l ih =>
    have h1 := ih (fun r hr => h r (by simp [hr]))
    have h2 := (h r (by simp)).2
    rw [flatB_cons, List.length_append, List.length_cons, recB_len]
    omega
theorem read_all (l : List (List UInt8)) (h : ∀ r ∈ l, Rok r) : jnRead (flatB l) = (l, (flatB l).length, 0) := by
  have := read_flat l h [] nil_read
  rwa [List.append_nil] at this

/-- A disk with just these records, all safe. -/
def dvOf (l : List (List UInt8)) : Dv := ⟨true, -1, flatB l, (flatB l).length⟩
theorem open_all (l : List (List UInt8)) (h : ∀ r ∈ l, Rok r) : opC (dvOf l) = 0 ∧ opD (dvOf l) = dvOf l ∧ (jnRead (dvOf l).bs).1 = l := by
  have hr := read_all l h
  have hb : (dvOf l).bs = flatB l := rfl
  refine ⟨?_, ?_, by rw [hb, hr]⟩
  · exact op_code rfl (by rw [hb, hr]) (by rw [hb, hr]; exact fun h => Nat.lt_irrefl _ h.1)
  · unfold opD
    rw [if_neg (by show ¬ true = false; decide), hb, hr, if_neg (by simp), if_neg (Nat.lt_irrefl _)]
theorem add_all (l : List (List UInt8)) (b : List UInt8) (hl : (flatB l).length + 522 ≤ 1048576) : adC b (dvOf l) = recCode b.length ∧ adD b (dvOf l) = if recCode b.length = 0 then dvOf (l ++ [b]) else dvOf l := by
  by_cases hz : recCode b.length = 0
  · have h5 := (rec_ok hz).2
    have hF : adF b (dvOf l) = 0 := if_neg (by show ¬ 1048576 < (flatB l).length + (recB b).length; rw [recB_len]; omega)
    have hc : chCode (dvOf l) 0 = 0 := by simp [chCode, dvOf]
    have h1 : adD1 b (dvOf l) = ⟨true, -1, flatB l ++ recB b, (flatB l).length⟩ := by
      rw [adD1, hF]
      simp [chD, dvOf, burnt, dApp]
    have hc2 : chCode (adD1 b (dvOf l)) 0 = 0 := by rw [h1]; simp [chCode]
    constructor
    · rw [adC, if_neg (by simp [hz]), hF, if_neg (by simp [hc]), hc2, hz]
    · rw [adD, if_neg (by simp [hz]), hF, if_neg (by simp [hc]), if_pos hz, h1]
      simp [chD, burnt, dSync, dvOf, flatB_append, flatB_one]
  · constructor
    · rw [adC, if_pos hz]
    · rw [adD, if_pos hz, if_neg hz]

theorem Lst.cell {w : World} {base : Nat} {T : Nat → Prop} {A : Option Addr} {L c : Nat} {pss : List (List UInt8)} (h : Lst w base T (.slice A L c) pss) (j : Nat) (hj : j < L) :
    ∃ b A1 L1 c1, A = some ⟨b, 0, none⟩ ∧ w.cell? ⟨b, j, none⟩ = some (.slice A1 L1 c1) ∧ ∃ hp : j < pss.length, L1 = pss[j].length ∧ Byt w T (.slice A1 L1 c1) pss[j] := by
  obtain ⟨A', c', e⟩ := h.shape
  injection e with e1 e2 e3
  subst e1 e2 e3
  obtain ⟨xs, h1, h2⟩ := h
  obtain ⟨x, hx, hb⟩ := h2 j hj
  rcases h1.2 with ⟨e1, e2⟩ | ⟨g, cap, cur, e1, hb', hh, hnc, hcm, hcs, htk⟩
  · omega
  · injection e1 with e1 e2 e3
    subst e1
    have e1 : (⟨g, 0, none⟩ : Addr).add j = ⟨g, 0 + j, none⟩ := by unfold Addr.add; split <;> simp_all
    have hc := h1.cells (g := g) rfl j x hx
    rw [e1, Nat.zero_add] at hc
    obtain ⟨A1, c1, rfl⟩ : ∃ A1 c1, x = .slice A1 pss[j].length c1 := by obtain ⟨A1, c1, e, _⟩ := hb; exact ⟨A1, c1, e⟩
    exact ⟨g, A1, _, c1, rfl, hc, hj, rfl, hb.mono (fun b _ h => h.1)⟩

/-- The disk, the bytes of both, the records of both, all that are to be added: none has a part in another. -/
structure Jj (W : World) (g : Nat) (D : Dv) (ob : List UInt8) (oa xs : List (List UInt8)) (v vb va vl : Value) (w : World) : Prop where
  d : Dsk W g D v w
  b : w.ownsRow W.heap.size 5 1 vb ob.length (byts ob)
  a : Lst w W.heap.size (fun b => b < W.heap.size) va oa
  l : Lst w W.heap.size (fun b => b < W.heap.size) vl xs
  db : ∀ k, foot g v k → vb.ownBlock ≠ some k
  da : ∀ k, foot g v k → va.ownBlock ≠ some k
  dl : ∀ k, foot g v k → vl.ownBlock ≠ some k
  ba : ∀ k, vb.ownBlock = some k → va.ownBlock ≠ some k
  bl : ∀ k, vb.ownBlock = some k → vl.ownBlock ≠ some k
  al : ∀ k, va.ownBlock = some k → vl.ownBlock ≠ some k
section
variable {W w w' : World} {g : Nat} {D D' : Dv} {ob ob' : List UInt8} {oa oa' xs : List (List UInt8)} {v vb va vl v' vb' va' : Value}
theorem Jj.keep (s : Jj W g D ob oa xs v vb va vl w) (o : Only none_ w w') : Jj W g D ob oa xs v vb va vl w' :=
  ⟨s.d.keep o, owns_only s.b o (fun _ _ h => h), s.a.keep o, s.l.keep o, s.db, s.da, s.dl, s.ba, s.bl, s.al⟩
theorem Jj.lt (s : Jj W g D ob oa xs v vb va vl w) : (∀ k, vb.ownBlock = some k → k < w.heap.size) ∧ (∀ k, va.ownBlock = some k → k < w.heap.size) ∧ (∀ k, vl.ownBlock = some k → k < w.heap.size) :=
  ⟨fun k h => (s.b.lt k h).2, fun k h => (s.a.own_lt k h).2, fun k h => (s.l.own_lt k h).2⟩
theorem Jj.foot_old (s : Jj W g D ob oa xs v vb va vl w) {k : Nat} (h : foot g v k) : W.heap.size ≤ k := (s.d.foot_ge h).1
/-- A call that works on the disk, and on a block j. -/
theorem Jj.disk (s : Jj W g D ob oa xs v vb va vl w) (j : Nat) (d' : Dsk W g D' v' w') (o : Only (fun k => foot g v k ∨ k = j) w w') (m : Moved w v v')
    (hj : W.heap.size ≤ j ∧ vb.ownBlock ≠ some j ∧ va.ownBlock ≠ some j ∧ vl.ownBlock ≠ some j) : Jj W g D' ob oa xs v' vb va vl w' := by
  have far : ∀ (u : Value), (∀ k, foot g v k → u.ownBlock ≠ some k) → (∀ k, u.ownBlock = some k → k < w.heap.size) → ∀ k, foot g v' k → u.ownBlock ≠ some k := by
    rintro u h1 h2 k (rfl | hk) e
    · exact h1 _ (.inl rfl) e
    · rcases m k hk with h3 | h3
      · exact h1 _ (.inr h3) e
      · have := h2 k e; omega
  have hT : ∀ b, b < W.heap.size → ¬ (foot g v b ∨ b = j) := fun b hb h => by
    rcases h with h | h
    · have := s.foot_old h; omega
    · omega
  exact ⟨d', owns_only s.b o (fun k hk h => h.elim (fun h => s.db k h hk) (fun h => hj.2.1 (h ▸ hk))), s.a.only o (fun k hk h => h.elim (fun h => s.da k h hk) (fun h => hj.2.2.1 (h ▸ hk))) hT,
    s.l.only o (fun k hk h => h.elim (fun h => s.dl k h hk) (fun h => hj.2.2.2 (h ▸ hk))) hT, far vb s.db s.lt.1, far va s.da s.lt.2.1, far vl s.dl s.lt.2.2, s.ba, s.bl, s.al⟩
/-- More bytes behind both. -/
theorem Jj.bytes (s : Jj W g D ob oa xs v vb va vl w) (b' : w'.ownsRow W.heap.size 5 1 vb' ob'.length (byts ob')) (o : Only (ownb vb) w w') (m : Moved w vb vb') : Jj W g D ob' oa xs v vb' va vl w' := by
  have far : ∀ (p : Nat → Prop), (∀ k, p k → vb.ownBlock ≠ some k) → (∀ k, p k → k < w.heap.size) → ∀ k, p k → vb'.ownBlock ≠ some k := fun p h1 h2 k hk e => by
    rcases m k e with h3 | h3
    · exact h1 k hk h3
    · have := h2 k hk; omega
  refine ⟨s.d.apart o (fun k hk e => s.db k hk e) (fun k e => (s.b.lt k e).1), b', s.a.only o (fun k hk e => s.ba k e hk) (fun b hb e => by have := (s.b.lt b e).1; omega), s.l.only o (fun k hk e => s.bl k e hk) (fun b hb e => by have := (s.b.lt b e).1; omega),
    far _ s.db (fun k hk => (s.d.foot_ge hk).2), s.da, s.dl, fun k hk e => far (fun k => va.ownBlock = some k) (fun k h e => s.ba k e h) s.lt.2.1 k e hk, fun k hk e => far (fun k => vl.ownBlock = some k) (fun k h e => s.bl k e h) s.lt.2.2 k e hk, s.al⟩
/-- One more record. -/
theorem Jj.rows (s : Jj W g D ob oa xs v vb va vl w) (a' : Lst w' W.heap.size (fun b => b < W.heap.size) va' oa') (o : Only (ownb va) w w') (m : Moved w va va') : Jj W g D ob oa' xs v vb va' vl w' := by
  have far : ∀ (p : Nat → Prop), (∀ k, p k → va.ownBlock ≠ some k) → (∀ k, p k → k < w.heap.size) → ∀ k, p k → va'.ownBlock ≠ some k := fun p h1 h2 k hk e => by
    rcases m k e with h3 | h3
    · exact h1 k hk h3
    · have := h2 k hk; omega
  refine ⟨s.d.apart o (fun k hk e => s.da k hk e) (fun k e => (s.a.own_lt k e).1), owns_only s.b o (fun k hk e => s.ba k hk e), a', s.l.only o (fun k hk e => s.al k e hk) (fun b hb e => by have := (s.a.own_lt b e).1; omega),
    s.db, far _ s.da (fun k hk => (s.d.foot_ge hk).2), s.dl, far (fun k => vb.ownBlock = some k) s.ba s.lt.1, s.bl, fun k hk e => far (fun k => vl.ownBlock = some k) (fun k h e => s.al k e h) s.lt.2.2 k e hk⟩
end
end Go.Proofs.Ytbhdnhnkiibaaaa
