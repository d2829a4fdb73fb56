/- Texts of mine, one behind the other: EoA, SmM, RpM, RcP, Mq, StC, Sl, App, TbA, TbS. No statement of the seat is proved here. -/
import Derived.Test.YtoohpcomnhfgpaaGreatHn3
import Derived.Laws.Bits64
import Derived.Test.YtoohpcomnhfgpaaGreatHn1
import Derived.Test.YtoohpcomnhfgpaaGreatHn2
import Derived.Maps.OwnOps
import Derived.Maps.OwnSet
import Derived.Laws.LoneSync
import Derived.Lib.AppendZerosOnto
import Derived.Lib.Overlaps
import Derived.Laws.CopyRow
import Derived.Laws.Externs
section
namespace Go.Proofs.YtoohpcomnhfgpaaGreat
open Go.RowKit
set_option maxRecDepth 100000
theorem chk_ne {e : En} (h : enCheck e = 0) : ∃ m : Ne, e = m.en ∧ m.ok ∧ m.k.size ≤ 16 ∧ m.v.size ≤ 32 := by
  obtain ⟨k, v, d, ⟨sc, ss⟩, ⟨ac, as_⟩, p, q⟩ := e
  unfold enCheck at h
  have e1 : enKeyBad ⟨k, v, d, ⟨sc, ss⟩, ⟨ac, as_⟩, p, q⟩ = false := by
    cases hb : enKeyBad ⟨k, v, d, ⟨sc, ss⟩, ⟨ac, as_⟩, p, q⟩ with
    | false => rfl
    | true => rw [hb, if_pos rfl] at h; omega
  rw [e1, if_neg (by simp)] at h
  have e2 : enValBad ⟨k, v, d, ⟨sc, ss⟩, ⟨ac, as_⟩, p, q⟩ = false := by
    cases hb : enValBad ⟨k, v, d, ⟨sc, ss⟩, ⟨ac, as_⟩, p, q⟩ with
    | false => rfl
    | true => rw [hb, if_pos rfl] at h; omega
  rw [e2, if_neg (by simp)] at h
  have e3 : enStBad ⟨k, v, d, ⟨sc, ss⟩, ⟨ac, as_⟩, p, q⟩ = false := by
    cases hb : enStBad ⟨k, v, d, ⟨sc, ss⟩, ⟨ac, as_⟩, p, q⟩ with
    | false => rfl
    | true => rw [hb, if_pos rfl] at h; omega
  rw [e3, if_neg (by simp)] at h
  have e4 : enRestBad ⟨k, v, d, ⟨sc, ss⟩, ⟨ac, as_⟩, p, q⟩ = false := by
    cases hb : enRestBad ⟨k, v, d, ⟨sc, ss⟩, ⟨ac, as_⟩, p, q⟩ with
    | false => rfl
    | true => rw [hb, if_pos rfl] at h; omega
  simp only [enKeyBad, Bool.or_eq_false_iff, decide_eq_false_iff_not] at e1
  simp only [enValBad, Bool.or_eq_false_iff, decide_eq_false_iff_not] at e2
  simp only [enStBad, Bool.or_eq_false_iff, Bool.not_eq_false', Bool.and_eq_true, stGood, stSite, decide_eq_true_eq] at e3
  have hp : 0 ≤ p ∧ p ≤ 4095 ∧ 0 ≤ q ∧ q ≤ 2147483647 := by
    cases d
    · simp only [enRestBad, enLive, Bool.not_eq_false', if_false, Bool.false_eq_true, Bool.and_eq_true, beq_iff_eq] at e4
      omega
    · simp only [enRestBad, enCert, Bool.not_eq_false', if_true, Bool.and_eq_true, decide_eq_true_eq] at e4
      omega
  refine ⟨⟨k, v, d, sc.toNat, ss.toNat, ac.toNat, as_.toNat, p.toNat, q.toNat⟩, ?_, ⟨?_, ?_, ?_, ?_, ?_, ?_, ?_, ?_⟩, ?_, ?_⟩
  · simp only [Ne.en]
    congr 1
    · congr 1 <;> omega
    · congr 1 <;> omega
    · omega
    · omega
  all_goals dsimp only
  all_goals omega
end Go.Proofs.YtoohpcomnhfgpaaGreat
end
section
namespace Go.Proofs.YtoohpcomnhfgpaaGreat
open Go.RowKit
set_option maxRecDepth 100000
set_option linter.all false
def fnvS (n : Nat) (b : UInt8) : Nat := (n ^^^ b.toNat) * 1099511628211 % 18446744073709551616
def fnv (bs : List UInt8) : Nat := bs.foldl fnvS 14695981039346656037
theorem fnvS_lt (n : Nat) (b : UInt8) : fnvS n b < 18446744073709551616 := Nat.mod_lt _ (by omega)
theorem foldl_lt (bs : List UInt8) : ∀ n : Nat, n < 18446744073709551616 → bs.foldl fnvS n < 18446744073709551616 := by
  induction bs with
  | nil => exact fun n h => h
  | cons b bs ih => exact fun n _ => ih _ (fnvS_lt n b)
theorem fnv_lt (bs : List UInt8) : fnv bs < 18446744073709551616 := by
  unfold fnv
  refine foldl_lt bs _ ?_
  decide +kernel
theorem fnv_succ {bs : List UInt8} {k : Nat} {b : UInt8} (h : bs[k]? = some b) : fnv (bs.take (k + 1)) = fnvS (fnv (bs.take k)) b := by
  obtain ⟨hk, hb⟩ := List.getElem?_eq_some_iff.1 h
  unfold fnv
  rw [List.take_succ_eq_append_getElem hk, List.foldl_append, hb, List.foldl_cons, List.foldl_nil]
theorem fnv_xor (n : Nat) (b : UInt8) (hn : n < 18446744073709551616) : bits .xor .u64 (n : Int) (b.toNat : Int) = ((n ^^^ b.toNat : Nat) : Int) :=
  bits_xor_u64_nat n b.toNat hn (Nat.lt_trans b.toNat_lt (by omega))
theorem fnv_mul (n : Nat) (b : UInt8) : ((n ^^^ b.toNat : Nat) : Int) * 1099511628211 % 18446744073709551616 = ((fnvS n b : Nat) : Int) := by
  unfold fnvS
  omega
theorem fnv_wrap (n : Nat) (b : UInt8) : IntKind.u64.wrap (((n ^^^ b.toNat : Nat) : Int) * 1099511628211) = ((fnvS n b : Nat) : Int) := by
  rw [IntKind.wrap_u64]; exact fnv_mul n b
def neOf (e : En) : Ne := ⟨e.k, e.v, e.d, e.s.c.toNat, e.s.s.toNat, e.a.c.toNat, e.a.s.toNat, e.p.toNat, e.g.toNat⟩
theorem neOf_en (m : Ne) : neOf m.en = m := by
  obtain ⟨k, x, d, s1, s2, a1, a2, p, q⟩ := m
  simp [neOf, Ne.en]
def frontB (e : Ne) : List UInt8 := txtB e.k ++ [UInt8.ofNat (bitN e.d)] ++ txtB e.v ++ leBytes e.s1 4 ++ leBytes e.s2 1 ++ leBytes e.a1 4 ++ leBytes e.a2 1
theorem front_len (e : Ne) : (layB e).length = (frontB e).length + 6 := by
  simp only [layB, frontB, List.length_append, leBytes_len]
theorem front_take (e : Ne) : (layB e).take (frontB e).length = frontB e := by
  have : layB e = frontB e ++ (leBytes e.p 2 ++ leBytes e.q 4) := by
    simp only [layB, frontB, List.append_assoc]
  rw [this]
  exact List.take_left
def hsh (e : En) : Nat := if enCheck e = 0 then fnv (frontB (neOf e)) else 0
theorem hsh_yes (m : Ne) (h : enCheck m.en = 0) : hsh m.en = fnv (frontB m) := by rw [hsh, if_pos h, neOf_en]
theorem hsh_no (e : En) (h : enCheck e ≠ 0) : hsh e = 0 := by rw [hsh, if_neg h]
theorem hsh_age (e : En) (p g : Int) (h : enCheck e = 0) (h2 : enCheck ⟨e.k, e.v, e.d, e.s, e.a, p, g⟩ = 0) : hsh ⟨e.k, e.v, e.d, e.s, e.a, p, g⟩ = hsh e := by
  rw [hsh, if_pos h2, hsh, if_pos h]
  rfl
def w64 (z : Int) : Int := z % 18446744073709551616
theorem w64_wrap (z : Int) : IntKind.u64.wrap z = w64 z := IntKind.wrap_u64 z
def sumH (l : List En) : Int := (l.map fun e => (hsh e : Int)).sum
theorem w64_add (a b : Int) : w64 (w64 a + b) = w64 (a + b) := by unfold w64; omega
theorem w64_add2 (a b : Int) : w64 (a + w64 b) = w64 (a + b) := by unfold w64; omega
end Go.Proofs.YtoohpcomnhfgpaaGreat
end
section
namespace Go.Proofs.YtoohpcomnhfgpaaGreat
open Go.RowKit
set_option linter.all false
structure Ro where
  n : Int
  q : Int
  r : Int
  t1 : Int
  t2 : Int
def roBad (o : Ro) : Bool := !(decide (1 ≤ o.n ∧ o.n ≤ 12) && decide (1 ≤ o.q ∧ o.q ≤ 64) && decide (1 ≤ o.r ∧ o.r ≤ o.n) && decide (0 ≤ o.t1 ∧ o.t1 ≤ 2147483647) && decide (o.t1 ≤ o.t2 ∧ o.t2 ≤ (if o.t1 = 0 then 0 else 2147483647)))
def roCheck (o : Ro) : Int := if roBad o = true then 14 else 0
theorem ro_ok {o : Ro} (h : roBad o = false) : (1 ≤ o.n ∧ o.n ≤ 12) ∧ (1 ≤ o.q ∧ o.q ≤ 64) ∧ (1 ≤ o.r ∧ o.r ≤ o.n) ∧ (0 ≤ o.t1 ∧ o.t1 ≤ 2147483647) ∧ (o.t1 ≤ o.t2 ∧ o.t2 ≤ 2147483647) ∧ (o.t1 = 0 → o.t2 = 0) := by
  simp only [roBad, Bool.not_eq_false', Bool.and_eq_true, decide_eq_true_eq] at h
  obtain ⟨⟨⟨⟨h1, h2⟩, h3⟩, h4⟩, h5⟩ := h
  refine ⟨h1, h2, h3, h4, ⟨h5.1, ?_⟩, fun e => ?_⟩
  · have := h5.2; split at this <;> omega
  · have := h5.2; rw [if_pos e] at this; omega
def roRoom (o : Ro) : Int := o.n * o.q
theorem ro_room {o : Ro} (h : roBad o = false) : 1 ≤ roRoom o ∧ roRoom o ≤ 768 := by
  obtain ⟨⟨a1, a2⟩, ⟨b1, b2⟩, _⟩ := ro_ok h
  unfold roRoom
  constructor
  · have := Int.mul_le_mul a1 b1 (by omega) (by omega); simpa using this
  · have := Int.mul_le_mul a2 b2 (by omega) (by omega); simpa using this
def withK (k : ByteArray) : List ByteArray → List ByteArray
  | [] => [k]
  | x :: r => if lt_ x k = true then x :: withK k r else if x = k then x :: r else k :: x :: r
theorem mem_withK (k y : ByteArray) : ∀ l : List ByteArray, y ∈ withK k l ↔ y = k ∨ y ∈ l
  | [] => by simp [withK]
  | x :: r => by
    unfold withK
    split
    · simp only [List.mem_cons, mem_withK k y r]
      constructor
      · rintro (h | h | h)
        · exact .inr (.inl h)
        · exact .inl h
        · exact .inr (.inr h)
      · rintro (h | h | h)
        · exact .inr (.inl h)
        · exact .inl h
        · exact .inr (.inr h)
    · split
      · next h => subst h; simp
      · simp
def RisK (l : List ByteArray) : Prop := l.Pairwise fun x y => lt_ x y = true
theorem ris_withK {k : ByteArray} : ∀ {l : List ByteArray}, RisK l → RisK (withK k l)
  | [], _ => List.pairwise_singleton _ _
  | x :: r, h => by
    have h' := List.pairwise_cons.1 h
    unfold withK
    by_cases h1 : lt_ x k = true
    · rw [if_pos h1]
      refine List.pairwise_cons.2 ⟨fun y hy => ?_, ris_withK h'.2⟩
      rcases (mem_withK k y r).1 hy with rfl | hy
      · exact h1
      · exact h'.1 y hy
    · rw [if_neg h1]
      split
      · exact h
      · next h2 =>
        have h3 : lt_ k x = true := by
          cases e : lt_ k x with
          | true => rfl
          | false => exact absurd (lt_tri (by simpa using h1) e) h2
        refine List.pairwise_cons.2 ⟨fun y hy => ?_, h⟩
        rcases List.mem_cons.1 hy with rfl | hy
        · exact h3
        · exact lt_tr h3 (h'.1 y hy)
theorem withK_in {k : ByteArray} : ∀ {l : List ByteArray}, RisK l → k ∈ l → withK k l = l
  | [], _, h => by cases h
  | x :: r, h, hk => by
    have h' := List.pairwise_cons.1 h
    unfold withK
    rcases List.mem_cons.1 hk with rfl | hk
    · rw [if_neg (by rw [lt_irr]; simp), if_pos rfl]
    · rw [if_pos (h'.1 k hk), withK_in h'.2 hk]
theorem withK_out {k : ByteArray} : ∀ {l : List ByteArray}, k ∉ l → (withK k l).Perm (k :: l)
  | [], _ => .refl _
  | x :: r, h => by
    unfold withK
    split
    · exact ((withK_out (fun e => h (List.mem_cons_of_mem _ e))).cons x).trans (List.Perm.swap _ _ _)
    · split
      · next e => exact absurd (by rw [e]; exact List.mem_cons_self) h
      · exact .refl _
def hasK (l : List ByteArray) (k : ByteArray) : Bool := l.any fun x => decide (x = k)
theorem hasK_iff (l : List ByteArray) (k : ByteArray) : hasK l k = true ↔ k ∈ l := by
  simp [hasK]
structure Rm where
  tab : List En
  gr : List En
  own : List ByteArray
  c : Int
  log : List En
def rmZero : Rm := ⟨[], [], [], 0, []⟩
def seeC (c : Int) (a : St) : Int := if stGood a = true ∧ c < a.c then a.c else c
def fullM (o : Ro) (l : List En) (k : ByteArray) : Bool := !hasE l k && decide (roRoom o ≤ (l.length : Int))
def noteM (site : Int) (o : Ro) (m : Rm) (e : En) : Rm :=
  { m with gr := (buryE (enDuty e site) o.t2 m.gr e).1, own := if e.s.s = site then withK e.k m.own else m.own, c := seeC m.c e.a, log := m.log ++ [e] }
def setM (site : Int) (o : Ro) (m : Rm) (e : En) : Rm := { noteM site o m e with tab := setE e m.tab }
def stampE (e : En) (s : St) : En := { e with s := s, a := s }
structure Rr where
  m : Rm
  e : En
  z : Int
  add : Option En
def downM (site : Int) (o : Ro) (m : Rm) (e : En) (j : Int) : Rr := if j = 0 then ⟨setM site o m e, e, 0, some e⟩ else ⟨m, enZero, j, some e⟩
def writeM (site : Int) (o : Ro) (m : Rm) (e : En) (j : Int) : Rr :=
  if ((!hasK m.own e.k && decide (o.q ≤ (m.own.length : Int))) || fullM o m.tab e.k) = true then ⟨m, enZero, 7, none⟩
  else if m.c = 4294967295 then ⟨m, enZero, 8, none⟩
  else downM site o { m with c := m.c + 1 } (stampE e ⟨m.c + 1, site⟩) j
def putE (k v : ByteArray) (s : St) : En := ⟨k, v, false, s, s, 0, 0⟩
def putR (site : Int) (o : Ro) (m : Rm) (k v : ByteArray) (j : Int) : Rr :=
  if enCheck (putE k v ⟨1, site⟩) ≠ 0 then ⟨m, enZero, enCheck (putE k v ⟨1, site⟩), none⟩ else writeM site o m (putE k v ⟨1, site⟩) j
def ageM (o : Ro) (l : List En) (e : En) : Int := if e.d = false ∨ o.t1 = 0 then 0 else match lookE l e.k with
  | none => e.g + 1
  | some was => if was.d = true ∧ was.g < e.g + 1 then was.g else e.g + 1
structure Mr where
  m : Rm
  kind : Int
  e : En
  z : Int
  add : Option En
def youngM (o : Ro) (l : List En) (e : En) : List En := match lookE l e.k with
  | none => l
  | some was => if (was.d && e.d) = true then setE { was with g := ageM o l e } l else l
def newsM (l : List En) (e : En) : Bool := match lookE l e.k with
  | none => true
  | some was => enNewer e was
def lateM (o : Ro) (e : En) : Bool := e.d && !decide (o.t1 = 0) && decide (o.t1 ≤ e.g + 1)
def takeM (kind : Int) (r : Rr) : Mr := if r.z = 0 then ⟨r.m, kind, r.e, 0, r.add⟩ else ⟨r.m, 0, enZero, r.z, r.add⟩
def wokeR (site : Int) (o : Ro) (m : Rm) (k : ByteArray) (j : Int) : Rr :=
  if m.c = 4294967295 then ⟨m, enZero, 8, none⟩
  else downM site o { m with c := m.c + 1 } (enWake ((lookE m.gr k).getD enZero) ⟨m.c + 1, site⟩).1 j
def mergeR (site : Int) (o : Ro) (m : Rm) (e : En) (j : Int) : Mr :=
  if enCheck e ≠ 0 then ⟨m, 0, enZero, enCheck e, none⟩
  else if newsM m.tab e = false then ⟨{ m with c := seeC m.c e.a, tab := youngM o m.tab e }, 0, enZero, 0, none⟩
  else if lateM o e = true then ⟨{ m with c := seeC m.c e.a }, 0, enZero, 0, none⟩
  else if fullM o m.tab e.k = true then ⟨{ m with c := seeC m.c e.a }, 0, enZero, 7, none⟩
  else if overE m.gr e = true then takeM 2 (wokeR site o { m with c := seeC m.c e.a } e.k j)
  else takeM 1 (downM site o { m with c := seeC m.c e.a } { e with g := ageM o m.tab e } j)
def mkOf (e : En) : Mk := ⟨e.a, e.k⟩
end Go.Proofs.YtoohpcomnhfgpaaGreat
end
section
namespace Go.Proofs.YtoohpcomnhfgpaaGreat
open Go.RowKit Go.ChangeMaps Go.MapKept
set_option linter.all false
def mEnt (m : Mk) : Value × Value := (.string m.k, .agg #[.int .i64 m.a.c, .int .i64 m.a.s])
def Mp (w : World) (b : Nat) (l : List Mk) : Prop :=
  ∃ es clock, w.heap[b]? = some (.map es clock) ∧ (es.toList.map fun e => (e.key, e.val)).Perm (l.map mEnt) ∧ ∀ m ∈ l, m.k.size ≤ maxLen
section
variable {P : Program} {t k e : TypeId} {w w' : World} {b : Nat} {l : List Mk}
theorem Mp.lt (h : Mp w b l) : b < w.heap.size := by
  obtain ⟨es, clock, hb, _⟩ := h
  exact (Array.getElem?_eq_some_iff.1 hb).1
theorem Mp.only {S : Nat → Prop} (h : Mp w b l) (o : Only S w w') (hn : ¬ S b) : Mp w' b l := by
  have hlt := h.lt
  obtain ⟨es, clock, hb, r⟩ := h
  exact ⟨es, clock, (o.block b hlt hn).trans hb, r⟩
theorem Mp.made (w : World) : Mp (w.alloc (.map #[] 0)) w.heap.size [] := ⟨#[], 0, (MapKept.heap_alloc w _).1, by simp, by simp⟩
theorem Mp.ne_blk {g : Nat} {ty : TypeId} {cs : Array Value} (h : Mp w b l) (h' : Blk w g ty cs) : b ≠ g := by
  rintro rfl
  obtain ⟨es, clock, hb, _⟩ := h
  unfold Blk at h'
  rw [hb] at h'
  cases h'
theorem Mp.perm {l' : List Mk} (h : Mp w b l) (hp : l.Perm l') : Mp w b l' := by
  obtain ⟨es, clock, hb, h1, h2⟩ := h
  exact ⟨es, clock, hb, h1.trans (hp.map mEnt), fun m hm => h2 m (hp.mem_iff.2 hm)⟩
theorem mp_keys (hk : P.underlying k = some .string) {es : Array MapEntry} (h1 : (es.toList.map fun e => (e.key, e.val)).Perm (l.map mEnt)) (h2 : ∀ m ∈ l, m.k.size ≤ maxLen) : ∀ x ∈ es.toList, ∃ q, keyOf P k x.key = some q := by
  intro x hx
  have hm : (x.key, x.val) ∈ l.map mEnt := h1.mem_iff.1 (List.mem_map.2 ⟨x, hx, rfl⟩)
  obtain ⟨m, hml, e⟩ := List.mem_map.1 hm
  have e1 : x.key = .string m.k := by injection e with e _; exact e.symm
  exact ⟨_, by rw [e1]; exact Go.WideMaps.keyOf_string_mk hk (h2 m hml)⟩
theorem mp_find (hk : P.underlying k = some .string) {es : Array MapEntry} (h1 : (es.toList.map fun e => (e.key, e.val)).Perm (l.map mEnt)) (h2 : ∀ m ∈ l, m.k.size ≤ maxLen) (x : ByteArray) (hx : x.size ≤ maxLen) (w : World) :
    ((Instr.findKey k (.string x) es.toList).run P w = .ok none w ∧ ∀ m ∈ l, m.k ≠ x) ∨
    ∃ j e0 m, (Instr.findKey k (.string x) es.toList).run P w = .ok (some (j, e0.val)) w ∧ es.toList[j]? = some e0 ∧ m ∈ l ∧ m.k = x ∧ (e0.key, e0.val) = mEnt m := by
  rcases (Maps.string_keyed hk).find w (Go.WideMaps.keyOf_string_mk hk hx) es.toList (mp_keys hk h1 h2) with ⟨g1, g2⟩ | ⟨j, e0, g1, g2, g3⟩
  · refine .inl ⟨g1, fun m hm e => ?_⟩
    have : mEnt m ∈ es.toList.map fun e => (e.key, e.val) := h1.mem_iff.2 (List.mem_map.2 ⟨m, hm, rfl⟩)
    obtain ⟨y, hy, ey⟩ := List.mem_map.1 this
    refine g2 y hy ?_
    have e2 : y.key = .string m.k := by injection ey
    rw [e2, e]
  · have hm : (e0.key, e0.val) ∈ l.map mEnt := h1.mem_iff.1 (List.mem_map.2 ⟨e0, List.mem_of_getElem? g2, rfl⟩)
    obtain ⟨m, hml, e⟩ := List.mem_map.1 hm
    refine .inr ⟨j, e0, m, g1, g2, hml, ?_, e.symm⟩
    have e2 : e0.key = .string m.k := by injection e with e _; exact e.symm
    rw [g3] at e2
    injection e2 with e2
    exact e2.symm
theorem keys_inj {m m' : Mk} (h : Keys_ l) (hm : m ∈ l) (hm' : m' ∈ l) (e : m.k = m'.k) : m = m' := by
  obtain ⟨i, hi, rfl⟩ := List.mem_iff_getElem.1 hm
  obtain ⟨j, hj, rfl⟩ := List.mem_iff_getElem.1 hm'
  rcases Nat.lt_trichotomy i j with h1 | rfl | h1
  · exact absurd e (List.pairwise_iff_getElem.1 h i j hi hj h1)
  · rfl
  · exact absurd e.symm (List.pairwise_iff_getElem.1 h j i hj hi h1)
theorem mp_look_yes (hk : P.underlying k = some .string) (ht : P.underlying t = some (.map k e)) (h : Mp w b l) (hl : Keys_ l) {m : Mk} (hm : m ∈ l) :
    (Instr.lookup t (.map (some b)) (.string m.k) true).run P w = .ok (.tuple #[.agg #[.int .i64 m.a.c, .int .i64 m.a.s], .bool true]) w := by
  obtain ⟨es, clock, hb, h1, h2⟩ := h
  rcases mp_find hk h1 h2 m.k (h2 m hm) w with ⟨_, g2⟩ | ⟨j, e0, m', g1, _, g3, g4, g5⟩
  · exact absurd rfl (g2 m hm)
  · obtain rfl := keys_inj hl hm g3 g4.symm
    have e1 : e0.val = .agg #[.int .i64 m.a.c, .int .i64 m.a.s] := by injection g5
    simp [Instr.lookup, run_underlying ht, MapKept.run_getObj_map hb, (Maps.string_keyed hk).check w _ (Go.WideMaps.keyOf_string_mk hk (h2 m hm)), g1, Result.andThen, e1]
theorem mp_look_no (hk : P.underlying k = some .string) (ht : P.underlying t = some (.map k e)) {z : Value} (hz : (zeroValue e).run P w = .ok z w) (h : Mp w b l) {x : ByteArray} (hx : x.size ≤ maxLen) (hno : ∀ m ∈ l, m.k ≠ x) :
    (Instr.lookup t (.map (some b)) (.string x) true).run P w = .ok (.tuple #[z, .bool false]) w := by
  obtain ⟨es, clock, hb, h1, h2⟩ := h
  rcases mp_find hk h1 h2 x hx w with ⟨g1, _⟩ | ⟨j, e0, m', _, _, g3, g4, _⟩
  · simp [Instr.lookup, run_underlying ht, MapKept.run_getObj_map hb, (Maps.string_keyed hk).check w _ (Go.WideMaps.keyOf_string_mk hk hx), g1, hz, Result.andThen]
  · exact absurd g4 (hno m' g3)
theorem only_block (hb : b < w.heap.size) (o : Obj) : Only (one b) w (setBlock w b o) :=
  ⟨rfl, rfl, rfl, by simp [setBlock], fun i hi hn => by
    have : i ≠ b := fun e => hn e
    simp [setBlock, Array.getElem?_setIfInBounds, this.symm]⟩
theorem mp_put (hk : P.underlying k = some .string) (ht : P.underlying t = some (.map k e)) (h : Mp w b l) (m : Mk) (hx : m.k.size ≤ maxLen) (hno : ∀ y ∈ l, y.k ≠ m.k) :
    ∃ w', (Instr.mapUpdate t (.map (some b)) (.string m.k) (.agg #[.int .i64 m.a.c, .int .i64 m.a.s])).run P w = .ok () w' ∧ Mp w' b (m :: l) ∧ Only (one b) w w' := by
  have hlt := h.lt
  obtain ⟨es, clock, hb, h1, h2⟩ := h
  rcases mp_find hk h1 h2 m.k hx w with ⟨g1, _⟩ | ⟨j, e0, m', _, _, g3, g4, _⟩
  · refine ⟨setBlock w b (.map (es.push ⟨.string m.k, .agg #[.int .i64 m.a.c, .int .i64 m.a.s], clock⟩) (clock + 1)), ?_, ⟨_, _, heap_setBlock_same hb _, ?_, ?_⟩, only_block hlt _⟩
    · simp [Instr.mapUpdate, run_underlying ht, MapKept.run_getObj_map hb, (Maps.string_keyed hk).check w false (Go.WideMaps.keyOf_string_mk hk hx), g1, MapKept.run_setObj_map _ hb, Result.andThen, setBlock]
    · rw [Array.toList_push, List.map_append, List.map_singleton, List.map_cons]
      exact (List.perm_append_singleton _ _).trans (h1.cons _)
    · intro y hy
      rcases List.mem_cons.1 hy with rfl | hy
      · exact hx
      · exact h2 y hy
  · exact absurd g4 (hno m' g3)
theorem mp_del (hk : P.underlying k = some .string) (ht : P.underlying t = some (.map k e)) (h : Mp w b l) (hl : Keys_ l) {m : Mk} (hm : m ∈ l) :
    ∃ w', (∀ ty, (Builtin.delete_ #[t, k] ty #[.map (some b), .string m.k]).run P w = .ok (.tuple #[]) w') ∧ Mp w' b (dropM l m.k) ∧ Only (one b) w w' := by
  have hlt := h.lt
  obtain ⟨es, clock, hb, h1, h2⟩ := h
  rcases mp_find hk h1 h2 m.k (h2 m hm) w with ⟨_, g2⟩ | ⟨j, e0, m', g1, g2, g3, g4, g5⟩
  · exact absurd rfl (g2 m hm)
  · obtain rfl := keys_inj hl hm g3 g4.symm
    have hjl : j < es.toList.length := (List.getElem?_eq_some_iff.1 g2).1
    have hjs : j < es.size := by simpa using hjl
    have hsub : (es.eraseIdxIfInBounds j).toList = es.toList.eraseIdx j := by
      unfold Array.eraseIdxIfInBounds
      rw [dif_pos hjs]
      simp
    obtain ⟨i, hi, hmi⟩ := List.mem_iff_getElem.1 hm
    refine ⟨setBlock w b (.map (es.eraseIdxIfInBounds j) clock), fun ty => ?_, ⟨_, _, heap_setBlock_same hb _, ?_, fun y hy => h2 y ((drop_sub l m.k).subset hy)⟩, only_block hlt _⟩
    · simp [Builtin.delete_, run_underlying ht, MapKept.run_getObj_map hb, (Maps.string_keyed hk).check w _ (Go.WideMaps.keyOf_string_mk hk (h2 m hm)), g1, MapKept.run_setObj_map _ hb, Result.andThen, setBlock]
    · have p1 : (mEnt m :: ((es.eraseIdxIfInBounds j).toList.map fun e => (e.key, e.val))).Perm (es.toList.map fun e => (e.key, e.val)) := by
        have e1 : es.toList = es.toList.take j ++ e0 :: es.toList.drop (j + 1) := by
          have e2 : es.toList[j] = e0 := by rw [List.getElem?_eq_getElem hjl] at g2; injection g2
          rw [← e2, List.getElem_cons_drop, List.take_append_drop]
        have e3 : (es.eraseIdxIfInBounds j).toList = es.toList.take j ++ es.toList.drop (j + 1) := by rw [hsub, List.eraseIdx_eq_take_drop_succ]
        have e4 : (es.toList.map fun e => (e.key, e.val)) = ((es.toList.take j).map fun e => (e.key, e.val)) ++ mEnt m :: ((es.toList.drop (j + 1)).map fun e => (e.key, e.val)) := by
          have := congrArg (List.map fun e : MapEntry => (e.key, e.val)) e1
          rw [List.map_append, List.map_cons, g5] at this
          exact this
        rw [e3, e4, List.map_append]
        exact List.perm_middle.symm
      have p2 : (l.map mEnt).Perm (mEnt m :: (dropM l m.k).map mEnt) := by
        have e1 : l = l.take i ++ l[i] :: l.drop (i + 1) := by rw [List.getElem_cons_drop, List.take_append_drop]
        have e2 := drop_at hl i hi
        rw [hmi] at e1 e2
        rw [e2]
        have e3 : l.map mEnt = (l.take i).map mEnt ++ mEnt m :: (l.drop (i + 1)).map mEnt := by
          have := congrArg (List.map mEnt) e1
          rw [List.map_append, List.map_cons] at this
          exact this
        rw [e3, List.map_append]
        exact List.perm_middle
      exact (p1.trans (h1.trans p2)).cons_inv
end
theorem wpList_upd {P : Program} (w : World) {ops : Array Oper} {rest : List Oper} {o : Oper} {a : Act} {Q : Exit → Act → World → Prop}
    (hg : o.guard = none) (m x v : Operand) (t : TypeId) (hop : o.op = Op.mapUpdate t m x v) (vm key val : Value) (hm : a.eval m = vm) (hx : a.eval x = key) (hv : a.eval v = val) {w' : World}
    (hr : (Instr.mapUpdate t vm key val).run P w = .ok () w') (hK : wpList P ops Q rest (a.put o.dst undef) w') : wpList P ops Q (o :: rest) a w := by
  refine wpList_plain hg fun K' hK' => ?_
  unfold Oper.wp
  simp [execOp, hop, hm, hx, hv, hr, Result.andThen]
  exact hK' _ _ hK
end Go.Proofs.YtoohpcomnhfgpaaGreat
end
section
namespace Go.Proofs.YtoohpcomnhfgpaaGreat
open Go.RowKit Go.ChangeMaps Go.MapKept
set_option linter.all false
def kEnt (k : ByteArray) : Value × Value := (.string k, .agg #[])
def Mq (w : World) (b : Nat) (l : List ByteArray) : Prop :=
  ∃ es clock, w.heap[b]? = some (.map es clock) ∧ (es.toList.map fun e => (e.key, e.val)).Perm (l.map kEnt) ∧ (∀ k ∈ l, k.size ≤ maxLen) ∧ Stamped es clock
section
variable {P : Program} {t k e : TypeId} {w w' : World} {b : Nat} {l : List ByteArray}
theorem Mq.lt (h : Mq w b l) : b < w.heap.size := by
  obtain ⟨es, clock, hb, _⟩ := h
  exact (Array.getElem?_eq_some_iff.1 hb).1
theorem Mq.only {S : Nat → Prop} (h : Mq w b l) (o : Only S w w') (hn : ¬ S b) : Mq w' b l := by
  have hlt := h.lt
  obtain ⟨es, clock, hb, r⟩ := h
  exact ⟨es, clock, (o.block b hlt hn).trans hb, r⟩
theorem Mq.made (w : World) : Mq (w.alloc (.map #[] 0)) w.heap.size [] := ⟨#[], 0, (MapKept.heap_alloc w _).1, by simp, by simp, stamped_empty 0⟩
theorem Mq.perm {l' : List ByteArray} (h : Mq w b l) (hp : l.Perm l') : Mq w b l' := by
  obtain ⟨es, clock, hb, h1, h2, h4⟩ := h
  exact ⟨es, clock, hb, h1.trans (hp.map kEnt), fun m hm => h2 m (hp.mem_iff.2 hm), h4⟩
theorem mq_keys (hk : P.underlying k = some .string) {es : Array MapEntry} (h1 : (es.toList.map fun e => (e.key, e.val)).Perm (l.map kEnt)) (h2 : ∀ m ∈ l, m.size ≤ maxLen) : ∀ x ∈ es.toList, ∃ q, keyOf P k x.key = some q := by
  intro x hx
  have hm : (x.key, x.val) ∈ l.map kEnt := h1.mem_iff.1 (List.mem_map.2 ⟨x, hx, rfl⟩)
  obtain ⟨m, hml, e⟩ := List.mem_map.1 hm
  have e1 : x.key = .string m := by injection e with e _; exact e.symm
  exact ⟨_, by rw [e1]; exact Go.WideMaps.keyOf_string_mk hk (h2 m hml)⟩
theorem mq_find (hk : P.underlying k = some .string) {es : Array MapEntry} (h1 : (es.toList.map fun e => (e.key, e.val)).Perm (l.map kEnt)) (h2 : ∀ m ∈ l, m.size ≤ maxLen) (x : ByteArray) (hx : x.size ≤ maxLen) (w : World) :
    ((Instr.findKey k (.string x) es.toList).run P w = .ok none w ∧ x ∉ l) ∨
    ∃ j e0, (Instr.findKey k (.string x) es.toList).run P w = .ok (some (j, e0.val)) w ∧ es.toList[j]? = some e0 ∧ x ∈ l ∧ (e0.key, e0.val) = kEnt x := by
  rcases (Maps.string_keyed hk).find w (Go.WideMaps.keyOf_string_mk hk hx) es.toList (mq_keys hk h1 h2) with ⟨g1, g2⟩ | ⟨j, e0, g1, g2, g3⟩
  · refine .inl ⟨g1, fun hm => ?_⟩
    have : kEnt x ∈ es.toList.map fun e => (e.key, e.val) := h1.mem_iff.2 (List.mem_map.2 ⟨x, hm, rfl⟩)
    obtain ⟨y, hy, ey⟩ := List.mem_map.1 this
    refine g2 y hy ?_
    injection ey
  · have hm : (e0.key, e0.val) ∈ l.map kEnt := h1.mem_iff.1 (List.mem_map.2 ⟨e0, List.mem_of_getElem? g2, rfl⟩)
    obtain ⟨m, hml, e⟩ := List.mem_map.1 hm
    have e2 : e0.key = .string m := by injection e with e _; exact e.symm
    have e3 : m = x := by rw [g3] at e2; injection e2 with e2; exact e2.symm
    subst e3
    exact .inr ⟨j, e0, g1, g2, hml, e.symm⟩
theorem mq_look (hk : P.underlying k = some .string) (ht : P.underlying t = some (.map k e)) (hz : (zeroValue e).run P w = .ok (.agg #[]) w) (h : Mq w b l) {x : ByteArray} (hx : x.size ≤ maxLen) :
    (Instr.lookup t (.map (some b)) (.string x) true).run P w = .ok (.tuple #[.agg #[], .bool (hasK l x)]) w := by
  obtain ⟨es, clock, hb, h1, h2, h4⟩ := h
  rcases mq_find hk h1 h2 x hx w with ⟨g1, g2⟩ | ⟨j, e0, g1, _, g3, g5⟩
  · have : hasK l x = false := by cases e : hasK l x with
      | false => rfl
      | true => exact absurd ((hasK_iff l x).1 e) g2
    rw [this]
    simp [Instr.lookup, run_underlying ht, MapKept.run_getObj_map hb, (Maps.string_keyed hk).check w _ (Go.WideMaps.keyOf_string_mk hk hx), g1, hz, Result.andThen]
  · rw [(hasK_iff l x).2 g3]
    have e1 : e0.val = .agg #[] := by injection g5
    simp [Instr.lookup, run_underlying ht, MapKept.run_getObj_map hb, (Maps.string_keyed hk).check w _ (Go.WideMaps.keyOf_string_mk hk hx), g1, Result.andThen, e1]
theorem mq_put (hk : P.underlying k = some .string) (ht : P.underlying t = some (.map k e)) (h : Mq w b l) (hr : RisK l) (x : ByteArray) (hx : x.size ≤ maxLen) :
    ∃ w', (Instr.mapUpdate t (.map (some b)) (.string x) (.agg #[])).run P w = .ok () w' ∧ Mq w' b (withK x l) ∧ Only (one b) w w' := by
  have hlt := h.lt
  obtain ⟨es, clock, hb, h1, h2, h4⟩ := h
  have h3 : ∀ y ∈ withK x l, y.size ≤ maxLen := fun y hy => by
    rcases (mem_withK x y l).1 hy with rfl | hy
    · exact hx
    · exact h2 y hy
  rcases mq_find hk h1 h2 x hx w with ⟨g1, g2⟩ | ⟨j, e0, g1, g2, g3, g5⟩
  · refine ⟨setBlock w b (.map (es.push ⟨.string x, .agg #[], clock⟩) (clock + 1)), ?_, ⟨_, _, heap_setBlock_same hb _, ?_, h3, stamped_push h4 (fun y hy e => ?_)⟩, only_block hlt _⟩
    · simp [Instr.mapUpdate, run_underlying ht, MapKept.run_getObj_map hb, (Maps.string_keyed hk).check w false (Go.WideMaps.keyOf_string_mk hk hx), g1, MapKept.run_setObj_map _ hb, Result.andThen, setBlock]
    · rw [Array.toList_push, List.map_append, List.map_singleton]
      have p1 : ((l.map kEnt) ++ [kEnt x]).Perm ((withK x l).map kEnt) := by
        have := (withK_out g2).symm.map kEnt
        rw [List.map_cons] at this
        exact (List.perm_append_singleton _ _).trans this
      exact (h1.append_right _).trans p1
    · have hm : (y.key, y.val) ∈ l.map kEnt := h1.mem_iff.1 (List.mem_map.2 ⟨y, hy, rfl⟩)
      obtain ⟨m, hml, em⟩ := List.mem_map.1 hm
      have e1 : y.key = .string m := by injection em with em _; exact em.symm
      rw [e1] at e
      injection e with e
      exact g2 (e ▸ hml)
  · have ek : e0.key = .string x := by injection g5
    have ev : e0.val = .agg #[] := by injection g5
    have hj : es[j]? = some e0 := by rw [← Array.getElem?_toList]; exact g2
    have e1 : es.modify j (fun e => { e with key := .string x, val := .agg #[] }) = es := by
      refine Array.ext_getElem? fun i => ?_
      rw [Array.getElem?_modify]
      split
      · next e =>
        subst e
        rw [hj]
        obtain ⟨a, b', c⟩ := e0
        cases ek; cases ev; rfl
      · rfl
    refine ⟨setBlock w b (.map (es.modify j fun e => { e with key := .string x, val := .agg #[] }) clock), ?_, ⟨_, _, heap_setBlock_same hb _, ?_, h3, by rw [e1]; exact h4⟩, only_block hlt _⟩
    · have hst := (Maps.string_keyed hk).stays w (Go.WideMaps.keyOf_string_mk hk hx)
      simp [Instr.mapUpdate, run_underlying ht, MapKept.run_getObj_map hb, (Maps.string_keyed hk).check w false (Go.WideMaps.keyOf_string_mk hk hx), g1, MapKept.run_setObj_map _ hb, Result.andThen, setBlock, hj, ek, hst]
    · rw [withK_in hr g3]
      rw [e1]; exact h1
end
end Go.Proofs.YtoohpcomnhfgpaaGreat
end
section
namespace Go.Proofs.YtoohpcomnhfgpaaGreat
open Go.RowKit
set_option maxRecDepth 100000
theorem load64 (a : Addr) (n : Int) (w : World) (hc : w.cell? a = some (.int .i64 n)) :
    Calls Tryz.prog 105 #[.pointer (some a)] w fun e w' => e = .returned (.int .i64 n) ∧ w = w' := by
  have hl := run_call_load (P := Tryz.prog) Tryz.func164 (by kernel_rfl) (by kernel_rfl) (by kernel_rfl) .i64 (by kernel_rfl) hc
  go_enter Tryz.func105, Tryz.ntmps105
  go_wp2
  go_ret
  exact ⟨rfl, rfl⟩
theorem store64 (a : Addr) (n : Int) (x : Value) (w : World) (hc : w.cell? a = some x) (hz : w.frozen? a = false) :
    Calls Tryz.prog 173 #[.pointer (some a), .int .i64 n] w fun e w' => e = .returned (.tuple #[]) ∧ w' = w.setCell a (.int .i64 n) := by
  have hst := run_call_store (P := Tryz.prog) Tryz.func218 (by kernel_rfl) (by kernel_rfl) (by kernel_rfl) (by kernel_rfl) (k := .i64) (y := n) hc hz
  go_enter Tryz.func173, Tryz.ntmps173
  go_wp2
  go_end0
  exact ⟨rfl, rfl⟩
theorem cas64 (a : Addr) (n m : Int) (w : World) (hc : w.cell? a = some (.int .i64 n)) (hz : w.frozen? a = false) :
    Calls Tryz.prog 193 #[.pointer (some a), .int .i64 n, .int .i64 m] w fun e w' => e = .returned (.bool true) ∧ w' = w.setCell a (.int .i64 m) := by
  have hst := run_call_cas_hit (P := Tryz.prog) Tryz.func231 (by kernel_rfl) (by kernel_rfl) (by kernel_rfl) .i64 (by kernel_rfl) (y := m) hc hz
  go_enter Tryz.func193, Tryz.ntmps193
  go_wp2
  go_ret
  exact ⟨rfl, rfl⟩
def Clk (w : World) (g : Nat) (s n : Int) : Prop := Blk w g 187 #[.int .i64 s, .int .i64 n]
section
variable {w w' : World} {g : Nat} {s n : Int}
theorem Clk.site (h : Clk w g s n) : w.cell? ⟨g, 0, none⟩ = some (.int .i64 s) := Blk.cell_ (t := 187) h rfl
theorem Clk.count (h : Clk w g s n) : w.cell? ⟨g, 1, none⟩ = some (.int .i64 n) := Blk.cell_ (t := 187) h rfl
theorem Clk.free (h : Clk w g s n) (i : Nat) : w.frozen? ⟨g, i, none⟩ = false := Blk.frozen (t := 187) h i
theorem Clk.lt (h : Clk w g s n) : g < w.heap.size := Blk.lt (t := 187) h
theorem Clk.only {S : Nat → Prop} (h : Clk w g s n) (ho : Only S w w') (hn : ¬ S g) : Clk w' g s n := Blk.only (t := 187) h ho hn
theorem Clk.set_ (h : Clk w g s n) (m : Int) : Clk (w.setCell ⟨g, 1, none⟩ (.int .i64 m)) g s m := by
  have := Blk.set_ (t := 187) h 1 (.int .i64 m)
  unfold Clk
  simpa using this
theorem Clk.alloc (h : Clk w g s n) (o : Obj) : Clk (w.alloc o) g s n := Blk.alloc (t := 187) h o
end
theorem clk_now (g : Nat) (s n : Int) (w : World) (h : Clk w g s n) :
    Calls Tryz.prog 58 #[.pointer (some ⟨g, 0, none⟩)] w fun e w' => e = .returned (.int .i64 n) ∧ w = w' := by
  have h0 := h.site
  have h1 := h.count
  have H := Lib.hid h
  clear h
  go_enter Tryz.func58, Tryz.ntmps58
  go_wp2_with (go_at_call 105; refine (load64 _ n _ h1).mono ?_; rintro e w' ⟨rfl, rfl⟩)
  go_ret
  exact ⟨rfl, rfl⟩
theorem clk_site (g : Nat) (s n : Int) (w : World) (h : Clk w g s n) :
    Calls Tryz.prog 75 #[.pointer (some ⟨g, 0, none⟩)] w fun e w' => e = .returned (.int .i64 s) ∧ w = w' := by
  have h0 := h.site
  have H := Lib.hid h
  clear h
  go_enter Tryz.func75, Tryz.ntmps75
  go_wp2
  go_ret
  exact ⟨rfl, rfl⟩
theorem clk_move (g : Nat) (s n m : Int) (w : World) (h : Clk w g s n) :
    Calls Tryz.prog 144 #[.pointer (some ⟨g, 0, none⟩), .int .i64 n, .int .i64 m] w fun e w' => e = .returned (.bool true) ∧ w' = w.setCell ⟨g, 1, none⟩ (.int .i64 m) := by
  have h0 := h.site
  have h1 := h.count
  have h2 := h.free 1
  have H := Lib.hid h
  clear h
  go_enter Tryz.func144, Tryz.ntmps144
  go_wp2_with (go_at_call 193; refine (cas64 _ n m _ h1 h2).mono ?_; rintro e w' ⟨rfl, rfl⟩)
  go_ret
  exact ⟨rfl, rfl⟩
theorem clk_new (s n : Int) (w : World) (hs : stSite s = true) (h0 : 0 ≤ n) (h1 : n ≤ 4294967295) :
    Calls Tryz.prog 111 #[.int .i64 s, .int .i64 n] w fun e w' => e = .returned (.tuple #[.pointer (some ⟨w.heap.size, 0, none⟩), .int .i64 0]) ∧ Clk w' w.heap.size s n ∧ Only none_ w w' := by
  have HS := Lib.hid hs
  have HC := Lib.hid (Blk.new w 187 #[.int .i64 s, .int .i64 n])
  have O := Lib.hid ((Only.refl none_ w).alloc (.cells #[.int .i64 s, .int .i64 n] 187))
  clear hs
  go_enter Tryz.func111, Tryz.ntmps111
  go_wp2_with (first
    | (go_at_call 172; refine (st_isSite _ _).mono ?_; rintro e w' ⟨rfl, rfl⟩; rw [HS.out])
    | (go_at_call 173; refine (store64 _ n (.int .i64 0) _ (by simp) (by simp)).mono ?_; rintro e w' ⟨rfl, rfl⟩))
  go_ret2
  exact ⟨rfl, HC.out, O.out⟩
end Go.Proofs.YtoohpcomnhfgpaaGreat
end
section
namespace Go.Proofs.YtoohpcomnhfgpaaGreat
open Go.RowKit
def Cel (w : World) (S : Nat → Prop) (v : Value) (n k : Nat) (cs : List Value) : Prop :=
  ∃ A c, v = .slice A n c ∧ cs.length = n * k ∧ n ≤ c ∧ c ≤ maxLen ∧ (A = none → c = 0) ∧
    (0 < n → ∃ b off, A = some ⟨b, off, none⟩ ∧ S b ∧ b < w.heap.size ∧ ∀ j u, cs[j]? = some u → w.cell? ⟨b, off + j, none⟩ = some u)
section
variable {w w' : World} {S T : Nat → Prop} {v : Value} {n k : Nat} {cs : List Value}
theorem Cel.mono (h : Cel w S v n k cs) (hk : ∀ b, b < w.heap.size → S b → T b) : Cel w T v n k cs := by
  obtain ⟨A, c, rfl, h0, h1, h2, h3, h4⟩ := h
  refine ⟨A, c, rfl, h0, h1, h2, h3, fun hp => ?_⟩
  obtain ⟨b, off, rfl, hs, hlt, hc⟩ := h4 hp
  exact ⟨b, off, rfl, hk b hlt hs, hlt, hc⟩
theorem Cel.only (h : Cel w S v n k cs) (ho : Only T w w') (hn : ∀ b, S b → ¬ T b) : Cel w' S v n k cs := by
  obtain ⟨A, c, rfl, h0, h1, h2, h3, h4⟩ := h
  refine ⟨A, c, rfl, h0, h1, h2, h3, fun hp => ?_⟩
  obtain ⟨b, off, rfl, hs, hlt, hc⟩ := h4 hp
  exact ⟨b, off, rfl, hs, Nat.lt_of_lt_of_le hlt ho.size, fun j u hu => (ho.cell (p := ⟨b, off + j, none⟩) hlt (hn _ hs)).trans (hc j u hu)⟩
theorem Cel.drew (h : Cel w S v n k cs) : Cel w.drew S v n k cs := h
theorem Cel.drewN (h : Cel w S v n k cs) (m : Nat) : Cel (w.drewN m) S v n k cs := h
theorem Cel.alloc (h : Cel w S v n k cs) (o : Obj) : Cel (w.alloc o) S v n k cs := h.only ((Only.refl none_ w).alloc o) fun _ _ x => x
theorem Cel.nil (w : World) (S : Nat → Prop) (k : Nat) : Cel w S (.slice none 0 0) 0 k [] := ⟨none, 0, rfl, by simp, by simp, by simp [maxLen], fun _ => rfl, by simp⟩
theorem Cel.of_own {base : Nat} {e : TypeId} (h : w.ownsRow base e k v n cs) : Cel w (ownb v) v n k cs := by
  have hl : cs.length = n * k := by have := h.1; simpa using this
  rcases h.2 with ⟨hv, hn⟩ | ⟨g, cap, cur, hv, hb, hh, hnc, hcm, hcs, ht⟩
  · subst hn hv
    exact ⟨none, 0, rfl, hl, by simp, by simp [maxLen], fun _ => rfl, by simp⟩
  · subst hv
    refine ⟨_, cap, rfl, hl, hnc, hcm, by simp, fun hp => ⟨g, 0, rfl, by simp [ownb, Value.ownBlock], Blk.lt (t := e) hh, fun j u hu => ?_⟩⟩
    have e1 : (⟨g, 0, none⟩ : Addr).add j = ⟨g, 0 + j, none⟩ := by unfold Addr.add; split <;> simp_all
    have := h.cells (g := g) (by simp [Value.ownBlock]) j u hu
    rw [← e1]
    exact this
end
end Go.Proofs.YtoohpcomnhfgpaaGreat
end
section
namespace Go.Proofs.YtoohpcomnhfgpaaGreat
open Go.RowKit
section
variable {P : Program} (w : World)
theorem run_append_cel (base : Nat) (t ty e : TypeId) (i : TypeInfo) (z : Value) (size bytes : Nat) (ht : P.underlying t = some (.slice e)) (hi : P.info? e = some i) (hz : i.zero = some z)
    (hsize : i.size = size) (hby : i.bytes = bytes) (hzs : z.cells.size = size) (hsz : 0 < size) (v : Value) (n : Nat) (xs : List Value) (hown : w.ownsRow base e size v n xs)
    (S : Nat → Prop) (A : Value) (m : Nat) (ys : List Value) (hr : Cel w S A m size ys) (h1 : ∀ u ∈ ys, u.oneCell' = true) (h63 : n + m ≤ maxLen) (hbytes : (n + m) * bytes ≤ 140737488355328) (hbase : base ≤ w.heap.size) :
    ∃ v' w', (Builtin.append_ #[t, t] ty #[v, A]).run P w = .ok v' w' ∧ w'.ownsRow base e size v' (n + m) (xs ++ ys) ∧ w.grownBy w' v.ownBlock ∧ Moved w v v' := by
  obtain ⟨B, c, rfl, g0, g1, g2, g3, g4⟩ := hr
  rcases B with _ | ad
  · have hm : m = 0 := by have := g3 rfl; omega
    subst hm
    have hy : ys = [] := List.eq_nil_of_length_eq_zero (by omega)
    subst hy
    refine ⟨v, w, ?_, by simpa using hown, ⟨rfl, rfl, rfl, Nat.le_refl _, fun _ _ _ => rfl⟩, Moved.refl _ _⟩
    rcases hown.2 with ⟨rfl, _⟩ | ⟨g, cap, cur, rfl, _, _, hnc, _⟩
    · simp [Builtin.append_, run_underlying ht, sizeOf, typeInfo, hi, Builtin.lenOf, Builtin.firstCells]
    · simp [Builtin.append_, run_underlying ht, sizeOf, typeInfo, hi, Builtin.lenOf, Builtin.firstCells, hnc, storeCells]
  · have hcells : ∀ j u, ys[j]? = some u → w.cell? (ad.add j) = some u := by
      intro j u hu
      have hj : j < ys.length := (List.getElem?_eq_some_iff.1 hu).1
      have hm : 0 < m := by
        rcases Nat.eq_zero_or_pos m with h | h
        · subst h; rw [g0] at hj; omega
        · exact h
      obtain ⟨g, off, e1, _, _, hc⟩ := g4 hm
      injection e1 with e1
      subst e1
      have e2 : (⟨g, off, none⟩ : Addr).add j = ⟨g, off + j, none⟩ := by unfold Addr.add; split <;> simp_all
      rw [e2]
      exact hc j u hu
    obtain ⟨v', w', hrun, h5, h6, _, h7⟩ := run_append_own_at (P := P) w base t ty e i z size bytes ht hi hz hsize hby hzs hsz v n xs hown ad m c ys g0 hcells h1 h63 hbytes hbase
    refine ⟨v', w', hrun, h5, h6, fun k hk => ?_⟩
    rcases h7 with h7 | h7
    · exact .inl (h7 ▸ hk)
    · rw [h7] at hk; injection hk with hk; exact .inr (by omega)
theorem wp_append_cel {o : Oper} {a : Act} {K : Act → World → Prop} {Q : Exit → Act → World → Prop} (s x : Operand) (t : TypeId)
    (ho : o.op = .call { callee := .builtin .append, args := #[s, x], argTypes := #[t, t] })
    (base : Nat) (e : TypeId) (i : TypeInfo) (z : Value) (size bytes : Nat) (ht : P.underlying t = some (.slice e)) (hi : P.info? e = some i) (hz : i.zero = some z)
    (hsize : i.size = size) (hby : i.bytes = bytes) (hzs : z.cells.size = size) (hsz : 0 < size) (v : Value) (n : Nat) (xs : List Value) (hs : a.eval s = v) (hown : w.ownsRow base e size v n xs)
    (S : Nat → Prop) (A : Value) (m : Nat) (ys : List Value) (hx : a.eval x = A) (hr : Cel w S A m size ys) (h1 : ∀ u ∈ ys, u.oneCell' = true) (h63 : n + m ≤ maxLen) (hbytes : (n + m) * bytes ≤ 140737488355328) (hbase : base ≤ w.heap.size)
    (h : ∀ A' n' c' w', w'.ownsRow base e size (.slice A' n' c') (n + m) (xs ++ ys) → w.grownBy w' v.ownBlock → Moved w v (.slice A' n' c') → K (a.put o.dst (.slice A' n' c')) w') : o.wp P a w K Q := by
  obtain ⟨v', w', hrun, h2, h3, h4⟩ := run_append_cel (P := P) w base t o.type e i z size bytes ht hi hz hsize hby hzs hsz v n xs hown S A m ys hr h1 h63 hbytes hbase
  unfold Oper.wp execOp
  simp only [ho, resolve, invoke, builtin, Sem.run_bind, Sem.run_pure, Result.andThen_ok, List.map_toArray, List.map_cons, List.map_nil, hs, hx, hrun]
  obtain ⟨A', n', c', rfl⟩ : ∃ A' n' c', v' = .slice A' n' c' := by
    rcases h2.2 with ⟨rfl, _⟩ | ⟨_, _, _, rfl, _⟩ <;> exact ⟨_, _, _, rfl⟩
  exact h A' n' c' w' h2 h3 h4
theorem wpList_append_cel {ops : Array Oper} {rest : List Oper} {o : Oper} {a : Act} {Q : Exit → Act → World → Prop} (hgd : o.guard = none) (s x : Operand) (t : TypeId)
    (ho : o.op = .call { callee := .builtin .append, args := #[s, x], argTypes := #[t, t] })
    (base : Nat) (e : TypeId) (i : TypeInfo) (z : Value) (size bytes : Nat) (ht : P.underlying t = some (.slice e)) (hi : P.info? e = some i) (hz : i.zero = some z)
    (hsize : i.size = size) (hby : i.bytes = bytes) (hzs : z.cells.size = size) (hsz : 0 < size) (v : Value) (n : Nat) (xs : List Value) (hs : a.eval s = v) (hown : w.ownsRow base e size v n xs)
    (S : Nat → Prop) (A : Value) (m : Nat) (ys : List Value) (hx : a.eval x = A) (hr : Cel w S A m size ys) (h1 : ∀ u ∈ ys, u.oneCell' = true) (h63 : n + m ≤ maxLen) (hbytes : (n + m) * bytes ≤ 140737488355328) (hbase : base ≤ w.heap.size)
    (h : ∀ A' n' c' w', w'.ownsRow base e size (.slice A' n' c') (n + m) (xs ++ ys) → w.grownBy w' v.ownBlock → Moved w v (.slice A' n' c') → wpList P ops Q rest (a.put o.dst (.slice A' n' c')) w') : wpList P ops Q (o :: rest) a w :=
  wpList_plain hgd fun _ hK => wp_append_cel w s x t ho base e i z size bytes ht hi hz hsize hby hzs hsz v n xs hs hown S A m ys hx hr h1 h63 hbytes hbase fun A' n' c' w' h2 h3 h4 => hK _ _ (h A' n' c' w' h2 h3 h4)
end
theorem own_made (w : World) (base : Nat) (e : TypeId) (size : Nat) (n : Nat) (cs : Array Value) (hn : cs.size = n * size) (hm : n ≤ maxLen) (hb : base ≤ w.heap.size) :
    (w.alloc (.cells cs e)).ownsRow base e size (.slice (some ⟨w.heap.size, 0, none⟩) n n) n cs.toList := by
  refine ⟨by simpa using hn, .inr ⟨w.heap.size, n, cs, rfl, hb, heap_alloc_new w _, Nat.le_refl _, hm, hn, ?_⟩⟩
  rw [← hn]
  exact List.take_of_length_le (by simp)
theorem cel_made (w : World) (e : TypeId) (size : Nat) (n : Nat) (cs : Array Value) (hn : cs.size = n * size) (hm : n ≤ maxLen) :
    Cel (w.alloc (.cells cs e)) (fun b => b = w.heap.size) (.slice (some ⟨w.heap.size, 0, none⟩) n n) n size cs.toList := by
  have := Cel.of_own (own_made w w.heap.size e size n cs hn hm (Nat.le_refl _))
  exact this.mono fun b _ hb => by simpa [ownb, Value.ownBlock] using hb.symm
end Go.Proofs.YtoohpcomnhfgpaaGreat
end
section
namespace Go.Proofs.YtoohpcomnhfgpaaGreat
open Go.RowKit
set_option linter.all false
section
variable {P : Program}
structure Rw_ (w : World) (base g : Nat) (e : TypeId) (k cap : Nat) (cur : List Value) : Prop where
  ge : base ≤ g
  bk : w.heap[g]? = some (.cells cur.toArray e (0, 0))
  cm : cap ≤ maxLen
  cs : cur.length = cap * k
theorem Rw_.own {w : World} {base g : Nat} {e : TypeId} {k cap : Nat} {cur : List Value} (h : Rw_ w base g e k cap cur) (n : Nat) (xs : List Value) (hn : n ≤ cap) (hx : cur.take (n * k) = xs) :
    w.ownsRow base e k (.slice (some ⟨g, 0, none⟩) n cap) n xs := by
  refine ⟨?_, .inr ⟨g, cap, cur.toArray, rfl, h.ge, h.bk, hn, h.cm, by simpa using h.cs, by simpa using hx⟩⟩
  rw [← hx, List.length_take, h.cs]
  exact Nat.min_eq_left (Nat.mul_le_mul_right k hn)
theorem own_rw {w : World} {base : Nat} {e : TypeId} {k n c : Nat} {A : Option Addr} {xs : List Value} (h : w.ownsRow base e k (.slice A n c) n xs) (hp : 0 < n) :
    ∃ g cur, A = some ⟨g, 0, none⟩ ∧ Rw_ w base g e k c cur ∧ n ≤ c ∧ cur.take (n * k) = xs := by
  rcases h.2 with ⟨_, h0⟩ | ⟨g, cap, cur, e1, hb, hh, hnc, hcm, hcs, htk⟩
  · omega
  · injection e1 with e1 _ e3
    subst e1 e3
    exact ⟨g, cur.toList, rfl, ⟨hb, by simpa using hh, hcm, by simpa using hcs⟩, hnc, htk⟩
theorem Rw_.set {w : World} {base g : Nat} {e : TypeId} {k cap : Nat} {cur cur' : List Value} (h : Rw_ w base g e k cap cur) (hl : cur'.length = cur.length) : Rw_ (w.setRow g cur'.toArray) base g e k cap cur' :=
  ⟨h.ge, setRow_heap w g _ cur'.toArray e (0, 0) h.bk, h.cm, hl.trans h.cs⟩
theorem Rw_.cell {w : World} {base g : Nat} {e : TypeId} {k cap : Nat} {cur : List Value} (h : Rw_ w base g e k cap cur) (j : Nat) : w.cell? ⟨g, j, none⟩ = cur[j]? := by
  rw [cell_of_row w g j _ e (0, 0) h.bk]; simp
theorem Rw_.drew {w : World} {base g : Nat} {e : TypeId} {k cap : Nat} {cur : List Value} (h : Rw_ w base g e k cap cur) : Rw_ w.drew base g e k cap cur := ⟨h.ge, h.bk, h.cm, h.cs⟩
theorem Rw_.lt {w : World} {base g : Nat} {e : TypeId} {k cap : Nat} {cur : List Value} (h : Rw_ w base g e k cap cur) : g < w.heap.size := Blk.lt (t := e) h.bk
theorem Rw_.only {w w' : World} {base g : Nat} {e : TypeId} {k cap : Nat} {cur : List Value} {S : Nat → Prop} (h : Rw_ w base g e k cap cur) (o : Only S w w') (hS : ¬ S g) : Rw_ w' base g e k cap cur := ⟨h.ge, (o.block g h.lt hS).trans h.bk, h.cm, h.cs⟩
theorem only_row {w : World} (g : Nat) (cs : Array Value) : Only (one g) w (w.setRow g cs) := (Only.refl (one g) w).setRow (.inl (show one g g from rfl)) cs
def putAt (cur : List Value) (o : Nat) (cs : List Value) : List Value := cur.take o ++ cs ++ cur.drop (o + cs.length)
theorem putAt_len {cur cs : List Value} {o : Nat} (h : o + cs.length ≤ cur.length) : (putAt cur o cs).length = cur.length := by simp [putAt]; omega
theorem putAt_take {cur cs : List Value} {o m : Nat} (h : m ≤ o) (ho : o ≤ cur.length) : (putAt cur o cs).take m = cur.take m := by
  unfold putAt
  rw [List.append_assoc, List.take_append_of_le_length (by simp; omega), List.take_take, Nat.min_eq_left h]
theorem putAt_get {cur cs : List Value} {o : Nat} (ho : o + cs.length ≤ cur.length) (j : Nat) : (putAt cur o cs)[j]? = if o ≤ j ∧ j < o + cs.length then cs[j - o]? else cur[j]? := by
  unfold putAt
  have h1 : (cur.take o).length = o := by simp; omega
  by_cases hj : j < o
  · rw [if_neg (by omega), List.append_assoc, List.getElem?_append_left (by omega), List.getElem?_take, if_pos hj]
  · by_cases hj2 : j < o + cs.length
    · rw [if_pos ⟨by omega, hj2⟩, List.append_assoc, List.getElem?_append_right (by omega), h1, List.getElem?_append_left (by omega)]
    · rw [if_neg (by omega), List.append_assoc, List.getElem?_append_right (by omega), h1, List.getElem?_append_right (by omega), List.getElem?_drop]
      congr 1
      omega
theorem run_store_row (w : World) (base g o : Nat) (e : TypeId) (k cap : Nat) (cur vs : List Value) (h : Rw_ w base g e k cap cur) (hl : o + vs.length ≤ cur.length) (h1 : ∀ v ∈ vs, v.oneCell' = true) :
    (storeCells ⟨g, o, none⟩ vs 0).run P w = .ok () (w.setRow g (putAt cur o vs).toArray) := by
  have := run_storeCells_at P g o e vs 0 cur.toArray w h.bk (by simpa using hl) h1
  simpa [putAt] using this
theorem run_copy_k (w : World) (t sT ty e : TypeId) (i : TypeInfo) (k : Nat) (ht : P.underlying t = some (.slice e)) (hi : P.info? e = some i) (hk : i.size = k)
    (base g o dLen dCap cap : Nat) (cur : List Value) (h : Rw_ w base g e k cap cur) (a : Addr) (sLen sCap : Nat) (cs : List Value) (hc : cs.length = Nat.min sLen dLen * k)
    (hsrc : ∀ j v, cs[j]? = some v → w.cell? (a.add j) = some v) (hfit : o + cs.length ≤ cur.length) (h1 : ∀ v ∈ cs, v.oneCell' = true) :
    (Builtin.copy_ #[t, sT] ty #[.slice (some ⟨g, o, none⟩) dLen dCap, .slice (some a) sLen sCap]).run P w = .ok (goInt (Nat.min sLen dLen)) (w.setRow g (putAt cur o cs).toArray) := by
  have hl := run_loadCells_list (P := P) w a cs hsrc
  have hst := run_store_row (P := P) w base g o e k cap cur cs h hfit h1
  rw [hc] at hl
  simp [Builtin.copy_, run_underlying ht, Builtin.lenOf, Builtin.firstCells, sizeOf, typeInfo, hi, hk, hl, hst]
theorem run_append_room (w : World) (t ty e : TypeId) (i : TypeInfo) (k : Nat) (ht : P.underlying t = some (.slice e)) (hi : P.info? e = some i) (hk : i.size = k)
    (base g sLen sCap cap : Nat) (cur : List Value) (h : Rw_ w base g e k cap cur) (a : Addr) (m c : Nat) (cs : List Value) (hc : cs.length = m * k) (hroom : sLen + m ≤ sCap)
    (hsrc : ∀ j v, cs[j]? = some v → w.cell? (a.add j) = some v) (hfit : sLen * k + cs.length ≤ cur.length) (h1 : ∀ v ∈ cs, v.oneCell' = true) :
    (Builtin.append_ #[t, t] ty #[.slice (some ⟨g, 0, none⟩) sLen sCap, .slice (some a) m c]).run P w = .ok (.slice (some ⟨g, 0, none⟩) (sLen + m) sCap) (w.setRow g (putAt cur (sLen * k) cs).toArray) := by
  have hl := run_loadCells_list (P := P) w a cs hsrc
  rw [hc] at hl
  have hst := run_store_row (P := P) w base g (sLen * k) e k cap cur cs h hfit h1
  have ha : (⟨g, 0, none⟩ : Addr).add (sLen * k) = ⟨g, sLen * k, none⟩ := by unfold Addr.add; split <;> simp_all
  simp [Builtin.append_, run_underlying ht, sizeOf, typeInfo, hi, hk, Builtin.lenOf, Builtin.firstCells, hl, hroom, ha, hst]
theorem run_clear_row (w : World) (t ty e : TypeId) (i : TypeInfo) (z : Value) (k : Nat) (ht : P.underlying t = some (.slice e)) (hi : P.info? e = some i) (hz : i.zero = some z) (hzs : z.cells.size = k) (hz1 : ∀ v ∈ z.cells.toList, v.oneCell' = true)
    (base g o m c cap : Nat) (cur : List Value) (h : Rw_ w base g e k cap cur) (hm : 0 < m) (hfit : o + m * k ≤ cur.length) :
    ∃ cs : List Value, cs.length = m * k ∧ (Builtin.clear_ #[t] ty #[.slice (some ⟨g, o, none⟩) m c]).run P w = .ok (.tuple #[]) (w.setRow g (putAt cur o cs).toArray) := by
  have hlen : (Builtin.zeroCells z.cells m).toList.length = m * k := by simp [Builtin.zeroCells, hzs]
  refine ⟨(Builtin.zeroCells z.cells m).toList, hlen, ?_⟩
  have h1 : ∀ v ∈ (Builtin.zeroCells z.cells m).toList, v.oneCell' = true := by
    intro v hv
    simp only [Builtin.zeroCells, Array.toList_map, List.mem_map] at hv
    obtain ⟨j, hj, rfl⟩ := hv
    have hj' : j < m * z.cells.size := by simpa using hj
    have hp : 0 < z.cells.size := by
      rcases Nat.eq_zero_or_pos z.cells.size with h0 | h0
      · rw [h0] at hj'; omega
      · exact h0
    have hmod : j % z.cells.size < z.cells.size := Nat.mod_lt _ hp
    rw [getElem!_pos z.cells _ hmod]
    exact hz1 _ (by simp)
  have hst := run_store_row (P := P) w base g o e k cap cur _ h (by rw [hlen]; exact hfit) h1
  obtain ⟨m', rfl⟩ : ∃ m', m = m' + 1 := ⟨m - 1, by omega⟩
  simp [Builtin.clear_, run_underlying ht, zeroValue, typeInfo, hi, hz, hst]
theorem wp_copy_run {o : Oper} {a : Act} {w : World} {K : Act → World → Prop} {Q : Exit → Act → World → Prop} (d s : Operand) (t t' : TypeId)
    (ho : o.op = .call { callee := .builtin .copy, args := #[d, s], argTypes := #[t, t'] }) (v u : Value) (hd : a.eval d = v) (hs : a.eval s = u) {v' : Value} {w' : World}
    (hr : (Builtin.copy_ #[t, t'] o.type #[v, u]).run P w = .ok v' w') (h : K (a.put o.dst v') w') : o.wp P a w K Q := by
  unfold Oper.wp execOp
  simp only [ho, resolve, invoke, builtin, Sem.run_bind, Sem.run_pure, Result.andThen_ok, List.map_toArray, List.map_cons, List.map_nil, hd, hs, hr]
  exact h
theorem step_copy_run {ops : Array Oper} {o : Oper} {a : Act} {w : World} {K : Act → World → Prop} {Q : Exit → Act → World → Prop} {E : Prop} (hgd : o.guard = none) (d s : Operand) (t t' : TypeId)
    (ho : o.op = .call { callee := .builtin .copy, args := #[d, s], argTypes := #[t, t'] }) (v u : Value) (hd : a.eval d = v) (hs : a.eval s = u) {v' : Value} {w' : World}
    (hr : (Builtin.copy_ #[t, t'] o.type #[v, u]).run P w = .ok v' w') (hK : K (a.put o.dst v') w') :
    if Region.wanted o (yielded ops a.tmps) = true then Oper.wp P o a w K Q else E := by
  rw [if_pos (by simp [Region.wanted, hgd])]
  exact wp_copy_run d s t t' ho v u hd hs hr hK
theorem wp_append_run2 {o : Oper} {a : Act} {w : World} {K : Act → World → Prop} {Q : Exit → Act → World → Prop} (d s : Operand) (t t' : TypeId)
    (ho : o.op = .call { callee := .builtin .append, args := #[d, s], argTypes := #[t, t'] }) (v u : Value) (hd : a.eval d = v) (hs : a.eval s = u) {v' : Value} {w' : World}
    (hr : (Builtin.append_ #[t, t'] o.type #[v, u]).run P w = .ok v' w') (h : K (a.put o.dst v') w') : o.wp P a w K Q := by
  unfold Oper.wp execOp
  simp only [ho, resolve, invoke, builtin, Sem.run_bind, Sem.run_pure, Result.andThen_ok, List.map_toArray, List.map_cons, List.map_nil, hd, hs, hr]
  exact h
theorem wpList_append_run2 {ops : Array Oper} {rest : List Oper} {o : Oper} {a : Act} {w : World} {Q : Exit → Act → World → Prop} (hgd : o.guard = none) (d s : Operand) (t t' : TypeId)
    (ho : o.op = .call { callee := .builtin .append, args := #[d, s], argTypes := #[t, t'] }) (v u : Value) (hd : a.eval d = v) (hs : a.eval s = u) {v' : Value} {w' : World}
    (hr : (Builtin.append_ #[t, t'] o.type #[v, u]).run P w = .ok v' w') (h : wpList P ops Q rest (a.put o.dst v') w') : wpList P ops Q (o :: rest) a w :=
  wpList_plain hgd fun _ hK => wp_append_run2 d s t t' ho v u hd hs hr (hK _ _ h)
theorem step_append_run2 {ops : Array Oper} {o : Oper} {a : Act} {w : World} {K : Act → World → Prop} {Q : Exit → Act → World → Prop} {E : Prop} (hgd : o.guard = none) (d s : Operand) (t t' : TypeId)
    (ho : o.op = .call { callee := .builtin .append, args := #[d, s], argTypes := #[t, t'] }) (v u : Value) (hd : a.eval d = v) (hs : a.eval s = u) {v' : Value} {w' : World}
    (hr : (Builtin.append_ #[t, t'] o.type #[v, u]).run P w = .ok v' w') (hK : K (a.put o.dst v') w') :
    if Region.wanted o (yielded ops a.tmps) = true then Oper.wp P o a w K Q else E := by
  rw [if_pos (by simp [Region.wanted, hgd])]
  exact wp_append_run2 d s t t' ho v u hd hs hr hK
end
end Go.Proofs.YtoohpcomnhfgpaaGreat
end
section
namespace Go.Proofs.YtoohpcomnhfgpaaGreat
open Go.RowKit
set_option linter.all false
section
variable {P : Program} {t e : TypeId} {i : TypeInfo} {k : Nat}
theorem sl_lo (ht : P.underlying t = some (.slice e)) (hi : P.info? e = some i) (hk : i.size = k) (g o n c p : Nat) (hp : p ≤ n) (hnc : p < c) (y : Int) (hy : y = p) (w : World) :
    (Instr.sliceAt t (.slice (some ⟨g, o, none⟩) n c) (some (.int .i64 y)) none none).run P w = .ok (.slice (some ⟨g, o + p * k, none⟩) (n - p) (c - p)) w := by
  subst hy
  have h1 : (p : Int) ≤ (n : Int) := by omega
  have h2 : ¬ (c = p) := by omega
  simp [Instr.sliceAt, Instr.slice, run_underlying ht, Instr.sliceBounds, run_sliceBound, sizeOf, typeInfo, hi, hk, h1, h2, Addr.add]
theorem sl_lo_end (ht : P.underlying t = some (.slice e)) (hi : P.info? e = some i) (g o n c p : Nat) (hp : p ≤ n) (hpc : p = c) (y : Int) (hy : y = p) (w : World) :
    (Instr.sliceAt t (.slice (some ⟨g, o, none⟩) n c) (some (.int .i64 y)) none none).run P w = .ok (.slice (some ⟨g, o, none⟩) (n - p) (c - p)) w := by
  subst hy hpc
  have h1 : (p : Int) ≤ (n : Int) := by omega
  simp [Instr.sliceAt, Instr.slice, run_underlying ht, Instr.sliceBounds, run_sliceBound, sizeOf, typeInfo, hi, h1]
theorem sl_lo_any (ht : P.underlying t = some (.slice e)) (hi : P.info? e = some i) (A : Option Addr) (n c p : Nat) (hp : p ≤ n) (y : Int) (hy : y = p) :
    ∃ A', ∀ w, (Instr.sliceAt t (.slice A n c) (some (.int .i64 y)) none none).run P w = .ok (.slice A' (n - p) (c - p)) w := by
  subst hy
  have h1 : (p : Int) ≤ (n : Int) := by omega
  refine ⟨if c = p then A else A.map (·.add (p * i.size)), fun w => ?_⟩
  simp [Instr.sliceAt, Instr.slice, run_underlying ht, Instr.sliceBounds, run_sliceBound, sizeOf, typeInfo, hi, h1]
theorem sl_hi (ht : P.underlying t = some (.slice e)) (hi : P.info? e = some i) (g o n c q : Nat) (hq : q ≤ c) (z : Int) (hz : z = q) (w : World) :
    (Instr.sliceAt t (.slice (some ⟨g, o, none⟩) n c) none (some (.int .i64 z)) none).run P w = .ok (.slice (some ⟨g, o, none⟩) q c) w := by
  subst hz
  have h1 : (q : Int) ≤ (c : Int) := by omega
  simp [Instr.sliceAt, Instr.slice, run_underlying ht, Instr.sliceBounds, run_sliceBound, sizeOf, typeInfo, hi, h1, Addr.add]
theorem sl_mid (ht : P.underlying t = some (.slice e)) (hi : P.info? e = some i) (hk : i.size = k) (g o n c p q : Nat) (hpq : p ≤ q) (hq : q ≤ c) (hpc : p < c) (y z : Int) (hy : y = p) (hz : z = q) (w : World) :
    (Instr.sliceAt t (.slice (some ⟨g, o, none⟩) n c) (some (.int .i64 y)) (some (.int .i64 z)) none).run P w = .ok (.slice (some ⟨g, o + p * k, none⟩) (q - p) (c - p)) w := by
  subst hy hz
  have h1 : (q : Int) ≤ (c : Int) := by omega
  have h2 : (p : Int) ≤ (q : Int) := by omega
  have h3 : ¬ (c = p) := by omega
  simp [Instr.sliceAt, Instr.slice, run_underlying ht, Instr.sliceBounds, run_sliceBound, sizeOf, typeInfo, hi, hk, h1, h2, h3, Addr.add]
theorem sl_lo0 (ht : P.underlying t = some (.slice e)) (hi : P.info? e = some i) (hk : i.size = k) (g n c p : Nat) (hp : p ≤ n) (hnc : p < c) (y : Int) (hy : y = p) (w : World) :
    (Instr.sliceAt t (.slice (some ⟨g, 0, none⟩) n c) (some (.int .i64 y)) none none).run P w = .ok (.slice (some ⟨g, p * k, none⟩) (n - p) (c - p)) w := by
  have := sl_lo ht hi hk g 0 n c p hp hnc y hy w
  rwa [Nat.zero_add] at this
theorem sl_mid0 (ht : P.underlying t = some (.slice e)) (hi : P.info? e = some i) (hk : i.size = k) (g n c p q : Nat) (hpq : p ≤ q) (hq : q ≤ c) (hpc : p < c) (y z : Int) (hy : y = p) (hz : z = q) (w : World) :
    (Instr.sliceAt t (.slice (some ⟨g, 0, none⟩) n c) (some (.int .i64 y)) (some (.int .i64 z)) none).run P w = .ok (.slice (some ⟨g, p * k, none⟩) (q - p) (c - p)) w := by
  have := sl_mid ht hi hk g 0 n c p q hpq hq hpc y z hy hz w
  rwa [Nat.zero_add] at this
theorem sl_three (ht : P.underlying t = some (.slice e)) (hi : P.info? e = some i) (A : Option Addr) (n c p q m : Nat) (hpq : p ≤ q) (hq : q ≤ m) (hm : m ≤ c) (x y z : Int) (hx : x = p) (hy : y = q) (hz : z = m) :
    ∃ A', ∀ w, (Instr.sliceAt t (.slice A n c) (some (.int .i64 x)) (some (.int .i64 y)) (some (.int .i64 z))).run P w = .ok (.slice A' (q - p) (m - p)) w := by
  subst hx hy hz
  have h1 : (q : Int) ≤ (m : Int) := by omega
  have h2 : (p : Int) ≤ (q : Int) := by omega
  have h3 : (m : Int) ≤ (c : Int) := by omega
  refine ⟨if m = p then A else A.map (·.add (p * i.size)), fun w => ?_⟩
  simp [Instr.sliceAt, Instr.slice, run_underlying ht, Instr.sliceBounds, run_sliceBound, sizeOf, typeInfo, hi, h1, h2, h3]
theorem app_zero (w : World) (tn ty : TypeId) (z : Value) (kq kn : IntKind) (ht : P.underlying t = some (.slice e)) (htn : P.underlying tn = some (.int kn)) (hi : P.info? e = some i) (hz : i.zero = some z) (hk : i.size = k) (hzs : z.cells.size = k)
    (base g sLen sCap cap : Nat) (cur : List Value) (h : Rw_ w base g e k cap cur) (hs : sLen ≤ cap) (m : Nat) (h0 : 0 < m) (hk0 : 0 < k) (hg : sCap < sLen + m) (h63 : sLen + m ≤ 1000000) (hb : i.bytes ≤ 100000) (hbase : base ≤ w.heap.size) :
    ∃ G cur' w', (Builtin.append_ #[t, tn] ty #[.slice (some ⟨g, 0, none⟩) sLen sCap, .int kq m]).run P w = .ok (.slice (some ⟨w.heap.size, 0, none⟩) (sLen + m) G) w' ∧ Rw_ w' base w.heap.size e k G cur' ∧ sLen + m ≤ G ∧
      cur'.take (sLen * k) = cur.take (sLen * k) ∧ Only none_ w w' ∧ w'.heap.size = w.heap.size + 1 := by
  have hmul : (sLen + m) * i.bytes ≤ 140737488355328 := Nat.le_trans (Nat.mul_le_mul h63 hb) (by decide)
  have hmul2 : m * i.bytes ≤ 281474976710656 := Nat.le_trans (Nat.mul_le_mul (show m ≤ 1000000 by omega) hb) (by decide)
  have hl : (cur.take (sLen * k)).length = sLen * k := by
    rw [List.length_take, h.cs]; exact Nat.min_eq_left (Nat.mul_le_mul_right k hs)
  have hold : (Builtin.firstCells i.size sLen (.slice (some ⟨g, 0, none⟩) sLen sCap)).run P w.drew = .ok (cur.take (sLen * k)).toArray w.drew := by
    have h2 := run_loadCells_list (P := P) w.drew ⟨g, 0, none⟩ (cur.take (sLen * k)) (fun j v hj => by
      have e1 : (⟨g, 0, none⟩ : Addr).add j = ⟨g, 0 + j, none⟩ := by unfold Addr.add; split <;> simp_all
      rw [e1, Nat.zero_add]
      refine (h.cell j).trans ?_
      rw [List.getElem?_take] at hj
      split at hj
      · exact hj
      · cases hj)
    rw [hl] at h2
    simpa [Builtin.firstCells, hk] using h2
  have hrun := Lib.run_append_grow_zeros (P := P) w t tn ty e i z kq kn ht htn hi hz (some ⟨g, 0, none⟩) sLen sCap _ hold m h0 (by omega) hg (by omega) hmul2 (growslice_fits hg hmul)
  have hGn := grownCap_ge w (sLen + m) sCap e
  have hG63 := grownCap_le_maxLen w (sLen + m) sCap e (by unfold maxLen; omega)
  generalize grownCap w (sLen + m) sCap e = G at hrun hGn hG63
  have hzl : ∀ q, (Builtin.zeroCells z.cells q).toList.length = q * k := fun q => by simp [Builtin.zeroCells, hzs]
  have earr : ((cur.take (sLen * k)).toArray ++ Builtin.zeroCells z.cells m ++ Builtin.zeroCells z.cells (G - (sLen + m))) = (cur.take (sLen * k) ++ (Builtin.zeroCells z.cells m).toList ++ (Builtin.zeroCells z.cells (G - (sLen + m))).toList).toArray := by simp
  rw [earr] at hrun
  refine ⟨G, _, _, hrun, ⟨hbase, heap_alloc_new w.drew _, hG63, ?_⟩, hGn, ?_, ((Only.refl none_ w).drew).alloc _, by rw [World.size_alloc]; rfl⟩
  · rw [List.length_append, List.length_append, hl, hzl, hzl, ← Nat.add_mul, ← Nat.add_mul]
    congr 1
    omega
  · rw [List.append_assoc, List.take_append_of_le_length (by omega), List.take_of_length_le (by omega)]
end
theorem ins_shift (cur xs ys : List Value) (k n i : Nat) (hc : (n + 1) * k ≤ cur.length) (hx : cur.take (n * k) = xs) (hy : ys.length = k) (hi : i ≤ n) :
    (putAt (putAt cur ((i + 1) * k) (xs.drop (i * k))) (i * k) ys).take ((n + 1) * k) = xs.take (i * k) ++ ys ++ xs.drop (i * k) := by
  have hnk : (n + 1) * k = n * k + k := Nat.succ_mul n k
  have hik : (i + 1) * k = i * k + k := Nat.succ_mul i k
  have hin : i * k ≤ n * k := Nat.mul_le_mul_right k hi
  have hxl : xs.length = n * k := by rw [← hx, List.length_take]; omega
  have hdl : (xs.drop (i * k)).length = n * k - i * k := by rw [List.length_drop, hxl]
  have hl1 : (putAt cur ((i + 1) * k) (xs.drop (i * k))).length = cur.length := putAt_len (by rw [hdl]; omega)
  apply List.ext_getElem?
  intro j
  rw [List.getElem?_take]
  have ht : (xs.take (i * k)).length = i * k := by rw [List.length_take]; omega
  by_cases hj : j < (n + 1) * k
  · rw [if_pos hj, putAt_get (by rw [hl1, hy]; omega), putAt_get (by rw [hdl]; omega)]
    by_cases h1 : j < i * k
    · rw [if_neg (by omega), if_neg (by omega), List.append_assoc, List.getElem?_append_left (by omega), List.getElem?_take, if_pos h1, ← hx, List.getElem?_take, if_pos (by omega)]
    · by_cases h2 : j < i * k + k
      · rw [if_pos (by omega), List.append_assoc, List.getElem?_append_right (by omega), ht, List.getElem?_append_left (by omega)]
      · rw [if_neg (by omega), if_pos (by omega), List.append_assoc, List.getElem?_append_right (by omega), ht, List.getElem?_append_right (by omega), hy]
        congr 1
        omega
  · rw [if_neg hj, List.getElem?_eq_none (by rw [List.length_append, List.length_append, ht, hy, hdl]; omega)]
theorem ins_fresh (cur0 cur xs ys : List Value) (k n i : Nat) (hc : (n + 1) * k ≤ cur.length) (h0 : cur.take (i * k) = cur0.take (i * k)) (hx : cur0.take (n * k) = xs) (hy : ys.length = k) (hxl : xs.length = n * k) (hi : i ≤ n) :
    (putAt (putAt cur (i * k) ys) ((i + 1) * k) (xs.drop (i * k))).take ((n + 1) * k) = xs.take (i * k) ++ ys ++ xs.drop (i * k) := by
  have hnk : (n + 1) * k = n * k + k := Nat.succ_mul n k
  have hik : (i + 1) * k = i * k + k := Nat.succ_mul i k
  have hin : i * k ≤ n * k := Nat.mul_le_mul_right k hi
  have hdl : (xs.drop (i * k)).length = n * k - i * k := by rw [List.length_drop, hxl]
  have hl1 : (putAt cur (i * k) ys).length = cur.length := putAt_len (by rw [hy]; omega)
  have ht : (xs.take (i * k)).length = i * k := by rw [List.length_take]; omega
  apply List.ext_getElem?
  intro j
  rw [List.getElem?_take]
  by_cases hj : j < (n + 1) * k
  · rw [if_pos hj, putAt_get (by rw [hl1, hdl]; omega), putAt_get (by rw [hy]; omega)]
    by_cases h1 : j < i * k
    · have e1 : cur[j]? = cur0[j]? := by
        have := congrArg (fun l => l[j]?) h0
        simpa [List.getElem?_take, h1] using this
      rw [if_neg (by omega), if_neg (by omega), List.append_assoc, List.getElem?_append_left (by omega), List.getElem?_take, if_pos h1, ← hx, List.getElem?_take, if_pos (by omega), e1]
    · by_cases h2 : j < i * k + k
      · rw [if_neg (by omega), if_pos (by omega), List.append_assoc, List.getElem?_append_right (by omega), ht, List.getElem?_append_left (by omega)]
      · rw [if_pos (by omega), List.append_assoc, List.getElem?_append_right (by omega), ht, List.getElem?_append_right (by omega), hy]
        congr 1
        omega
  · rw [if_neg hj, List.getElem?_eq_none (by rw [List.length_append, List.length_append, ht, hy, hdl]; omega)]
theorem del_shift (cur xs cs : List Value) (k n i o : Nat) (hc : n * k ≤ cur.length) (hx : cur.take (n * k) = xs) (hi : i < n) (ho : (n - 1) * k ≤ o) (hol : o + cs.length ≤ cur.length) :
    (putAt (putAt cur (i * k) (xs.drop ((i + 1) * k))) o cs).take ((n - 1) * k) = xs.take (i * k) ++ xs.drop ((i + 1) * k) := by
  obtain ⟨m, rfl⟩ : ∃ m, n = m + 1 := ⟨n - 1, by omega⟩
  have hnk : (m + 1) * k = m * k + k := Nat.succ_mul m k
  have hik : (i + 1) * k = i * k + k := Nat.succ_mul i k
  have hin : i * k ≤ m * k := Nat.mul_le_mul_right k (by omega)
  rw [Nat.add_sub_cancel] at ho ⊢
  have hxl : xs.length = (m + 1) * k := by rw [← hx, List.length_take]; omega
  have hdl : (xs.drop ((i + 1) * k)).length = m * k - i * k := by rw [List.length_drop, hxl]; omega
  have hl1 : (putAt cur (i * k) (xs.drop ((i + 1) * k))).length = cur.length := putAt_len (by rw [hdl]; omega)
  have ht : (xs.take (i * k)).length = i * k := by rw [List.length_take]; omega
  rw [putAt_take ho (by omega)]
  apply List.ext_getElem?
  intro j
  rw [List.getElem?_take]
  by_cases hj : j < m * k
  · rw [if_pos hj, putAt_get (by rw [hdl]; omega)]
    by_cases h1 : j < i * k
    · rw [if_neg (by omega), List.getElem?_append_left (by omega), List.getElem?_take, if_pos h1, ← hx, List.getElem?_take, if_pos (by omega)]
    · rw [if_pos (by omega), List.getElem?_append_right (by omega), ht]
  · rw [if_neg hj, List.getElem?_eq_none (by rw [List.length_append, ht, hdl]; omega)]
end Go.Proofs.YtoohpcomnhfgpaaGreat
end
