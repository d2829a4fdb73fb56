/- Texts of mine, one behind the other: StM, EnM, Base, TbM, GvM, GvN, GvO, EnK, EnS, EnL, EqS, EnA, StA, StB, EnB. No statement of the seat is proved here. -/
import Derived.WalkKit
import Derived.Lib.Hide
import Derived.WalkSpells
import Derived.WalkLawsBesides
import Derived.Maps.AppendAt
import Derived.Deep.AppendLies
import Derived.Deep.Draws
import Derived.Laws.OwnMore
import Derived.Laws.Rows
import Derived.Laws.IdiomStrings
import Derived.Lib.Bytealg
import Derived.Lib.Strings
import Derived.Test.YtoohpcomnhfgpaaGreatChecked
import Derived.Laws.BitsAllLaws
import Derived.ChangeKeysEq
import Derived.Laws.StructEq
import Derived.Deep.QuietTactic
import Derived.BigQuiet
section
namespace Go.Proofs.YtoohpcomnhfgpaaGreat
structure St where
  c : Int
  s : Int
def stZero : St := ⟨0, 0⟩
def stSite (n : Int) : Bool := decide (0 ≤ n ∧ n ≤ 11)
def stGood (x : St) : Bool := decide (1 ≤ x.c ∧ x.c ≤ 4294967295) && stSite x.s
def cmpI (a b : Int) : Int := if a < b then -1 else if b < a then 1 else 0
def stCmp (x y : St) : Int := if x.c = y.c then cmpI x.s y.s else cmpI x.c y.c
def stLater (x y : St) : Bool := if x.c = y.c then decide (y.s < x.s) else decide (y.c < x.c)
def stMax (m y : St) : St := if 0 < stCmp y m then y else m
def stLatest : List St → St
  | [] => stZero
  | x :: l => l.foldl stMax x
theorem St.eq {x y : St} (h1 : x.c = y.c) (h2 : x.s = y.s) : x = y := by cases x; cases y; simp_all
theorem cmpI_pos (a b : Int) : 0 < cmpI a b ↔ b < a := by unfold cmpI; split <;> (try split) <;> omega
theorem cmpI_neg (a b : Int) : cmpI b a = - cmpI a b := by unfold cmpI; split <;> (try split) <;> (try split) <;> omega
theorem cmpI_zero (a b : Int) : cmpI a b = 0 ↔ a = b := by unfold cmpI; split <;> (try split) <;> omega
theorem stCmp_pos (x y : St) : 0 < stCmp x y ↔ stLater x y = true := by
  unfold stCmp stLater
  split
  · rw [cmpI_pos, decide_eq_true_eq]
  · rw [cmpI_pos, decide_eq_true_eq]
theorem stCmp_neg (x y : St) : stCmp y x = - stCmp x y := by
  unfold stCmp
  by_cases h : x.c = y.c
  · rw [if_pos h, if_pos h.symm, cmpI_neg]
  · rw [if_neg h, if_neg (fun e => h e.symm), cmpI_neg]
theorem stCmp_zero (x y : St) : stCmp x y = 0 ↔ x = y := by
  unfold stCmp
  constructor
  · intro h
    split at h
    · next e => exact St.eq e ((cmpI_zero _ _).1 h)
    · next e => exact absurd ((cmpI_zero _ _).1 h) e
  · rintro rfl
    rw [if_pos rfl, cmpI_zero]
theorem later_def (x y : St) : stLater x y = true ↔ y.c < x.c ∨ (x.c = y.c ∧ y.s < x.s) := by
  unfold stLater
  split
  · next h => rw [decide_eq_true_eq]; omega
  · next h => rw [decide_eq_true_eq]; omega
theorem later_false (x y : St) : stLater x y = false ↔ ¬ (y.c < x.c ∨ (x.c = y.c ∧ y.s < x.s)) := by
  rw [← later_def]
  cases stLater x y <;> simp
theorem later_trans {x y z : St} (h1 : stLater x y = false) (h2 : stLater y z = false) : stLater x z = false := by
  rw [later_false] at h1 h2 ⊢
  omega
theorem later_anti {x y : St} (h1 : stLater x y = false) (h2 : stLater y x = false) : x = y := by
  rw [later_false] at h1 h2
  exact St.eq (by omega) (by omega)
end Go.Proofs.YtoohpcomnhfgpaaGreat
end
section
namespace Go.Proofs.YtoohpcomnhfgpaaGreat
set_option maxRecDepth 100000
structure En where
  k : ByteArray
  v : ByteArray
  d : Bool
  s : St
  a : St
  p : Int
  g : Int
def enZero : En := ⟨⟨#[]⟩, ⟨#[]⟩, false, stZero, stZero, 0, 0⟩
def stEq (x y : St) : Bool := x.c == y.c && x.s == y.s
theorem stEq_iff (x y : St) : stEq x y = true ↔ x = y := by
  simp only [stEq, Bool.and_eq_true, beq_iff_eq]
  exact ⟨fun h => St.eq h.1 h.2, fun h => by subst h; exact ⟨rfl, rfl⟩⟩
def enKeyBad (e : En) : Bool := decide (e.k.size < 1) || decide (16 < e.k.size)
def enValBad (e : En) : Bool := decide (32 < e.v.size) || (e.d && decide (0 < e.v.size))
def enStBad (e : En) : Bool := !(stGood e.s && stGood e.a) || stLater e.s e.a
def enLive (e : En) : Bool := stEq e.a e.s && e.p == 0 && e.g == 0
def enCert (e : En) : Bool := decide (1 ≤ e.p) && decide (e.p ≤ 4095) && decide (0 ≤ e.g) && decide (e.g ≤ 2147483647)
def enRestBad (e : En) : Bool := !(if e.d then enCert e else enLive e)
def enCheck (e : En) : Int := if enKeyBad e = true then 9 else if enValBad e = true then 10 else if enStBad e = true then 1 else if enRestBad e = true then 1 else 0
def enNewer (x y : En) : Bool := if stEq x.s y.s = true then stLater x.a y.a else stLater x.s y.s
theorem str_empty (s : ByteArray) : (s.toList == ByteArray.toList ⟨#[]⟩) = decide (s.size = 0) := by
  rw [ByteArray.toList_eq, ByteArray.toList_eq]
  obtain ⟨⟨l⟩⟩ := s
  cases l <;> simp [ByteArray.size]
theorem str_eq {s t : ByteArray} : (s.toList == t.toList) = true ↔ s = t := by
  rw [beq_iff_eq, ByteArray.toList_eq, ByteArray.toList_eq]
  obtain ⟨⟨x⟩⟩ := s
  obtain ⟨⟨y⟩⟩ := t
  simp
def enEq (x y : En) : Bool := (x.k.toList == y.k.toList) && (x.v.toList == y.v.toList) && (x.d == y.d) && stEq x.s y.s && stEq x.a y.a && (x.p == y.p) && (x.g == y.g)
theorem enEq_iff (x y : En) : enEq x y = true ↔ x = y := by
  unfold enEq
  simp only [Bool.and_eq_true, stEq_iff, beq_iff_eq]
  constructor
  · rintro ⟨⟨⟨⟨⟨⟨h1, h2⟩, h3⟩, h4⟩, h5⟩, h6⟩, h7⟩
    have h1 := str_eq.1 (beq_iff_eq.2 h1)
    have h2 := str_eq.1 (beq_iff_eq.2 h2)
    cases x; cases y; simp_all
  · rintro rfl
    simp
theorem enEq_refl (x : En) : enEq x x = true := (enEq_iff x x).2 rfl
theorem stEq_cmp (x y : St) : stEq x y = (stCmp x y == 0) := by
  rw [Bool.eq_iff_iff, stEq_iff, beq_iff_eq, stCmp_zero]
theorem newer_cmp (x y : En) : enNewer x y = if (stCmp x.s y.s != 0) = true then decide (0 < stCmp x.s y.s) else if (stCmp x.a y.a != 0) = true then decide (0 < stCmp x.a y.a) else false := by
  have e : ∀ a b : St, stLater a b = decide (0 < stCmp a b) := fun a b => by rw [Bool.eq_iff_iff, decide_eq_true_eq, stCmp_pos]
  rw [enNewer, stEq_cmp, e, e]
  by_cases h : stCmp x.s y.s = 0
  · by_cases h2 : stCmp x.a y.a = 0
    · simp [h, h2]
    · simp [h, h2]
  · simp [h]
def enChecked (e : En) : En × Int := if enCheck e = 0 then (e, 0) else (enZero, enCheck e)
def enWake (e : En) (a : St) : En × Int := if enCheck e = 0 then (if (e.d && stGood a && stLater a e.a) = true then (⟨e.k, e.v, e.d, e.s, a, e.p, 0⟩, 0) else (enZero, 1)) else (enZero, enCheck e)
theorem wake_ways (e : En) (a : St) (z : Int) (gb lt : Bool) (r : Int) (hz : enCheck e = z) (hg : stGood a = gb) (hl : stLater a e.a = lt) (hr : stCmp a e.a = r) :
    ((z != 0) = true ∧ enWake e a = (enZero, z)) ∨
    ((z != 0) = false ∧ e.d = false ∧ enWake e a = (enZero, 1)) ∨
    ((z != 0) = false ∧ e.d = true ∧ gb = false ∧ enWake e a = (enZero, 1)) ∨
    ((z != 0) = false ∧ e.d = true ∧ gb = true ∧ lt = false ∧ decide (r ≤ 0) = true ∧ enWake e a = (enZero, 1)) ∨
    ((z != 0) = false ∧ e.d = true ∧ gb = true ∧ lt = true ∧ decide (r ≤ 0) = false ∧ enWake e a = (⟨e.k, e.v, true, e.s, a, e.p, 0⟩, 0)) := by
  have hlt : lt = decide (0 < r) := by rw [← hl, Bool.eq_iff_iff, decide_eq_true_eq, ← hr, stCmp_pos]
  unfold enWake
  rw [hz, hg, hl]
  by_cases h0 : z = 0
  · cases hd : e.d
    · simp [h0]
    · cases gb
      · simp [h0]
      · by_cases hp : 0 < r
        · have : ¬ r ≤ 0 := by omega
          simp [h0, hlt, hp, this]
        · have : r ≤ 0 := by omega
          simp [h0, hlt, hp, this]
  · simp [h0]
end Go.Proofs.YtoohpcomnhfgpaaGreat
end
section
namespace Go.Proofs.YtoohpcomnhfgpaaGreat
open Go.RowKit
structure Only (S : Nat → Prop) (w w' : World) : Prop where
  os : w'.os = w.os
  tape : w'.tape = w.tape
  output : w'.output = w.output
  size : w.heap.size ≤ w'.heap.size
  block : ∀ k, k < w.heap.size → ¬ S k → w'.heap[k]? = w.heap[k]?
def none_ : Nat → Prop := fun _ => False
def one (g : Nat) : Nat → Prop := fun k => k = g
def two (g h : Nat) : Nat → Prop := fun k => k = g ∨ k = h
theorem Only.refl (S : Nat → Prop) (w : World) : Only S w w := ⟨rfl, rfl, rfl, Nat.le_refl _, fun _ _ _ => rfl⟩
theorem Only.mono {S T : Nat → Prop} {w w' : World} (h : Only S w w') (k : ∀ g, g < w.heap.size → S g → T g) : Only T w w' :=
  ⟨h.os, h.tape, h.output, h.size, fun g hg hn => h.block g hg (fun hs => hn (k g hg hs))⟩
theorem Only.of_none {S : Nat → Prop} {w w' : World} (h : Only none_ w w') : Only S w w' := h.mono fun _ _ x => x.elim
theorem Only.trans' {S T : Nat → Prop} {a b c : World} (h : Only S a b) (k : Only T b c) (hT : ∀ g, g < a.heap.size → T g → S g) : Only S a c :=
  ⟨k.os.trans h.os, k.tape.trans h.tape, k.output.trans h.output, Nat.le_trans h.size k.size,
    fun i hi hn => (k.block i (Nat.lt_of_lt_of_le hi h.size) (fun ht => hn (hT i hi ht))).trans (h.block i hi hn)⟩
theorem Only.trans {S : Nat → Prop} {a b c : World} (h : Only S a b) (k : Only S b c) : Only S a c := h.trans' k fun _ _ x => x
theorem Only.drew {S : Nat → Prop} {a w : World} (h : Only S a w) : Only S a w.drew := ⟨h.os, h.tape, h.output, h.size, h.block⟩
theorem Only.drewN {S : Nat → Prop} {a w : World} (h : Only S a w) (n : Nat) : Only S a (w.drewN n) := ⟨h.os, h.tape, h.output, h.size, h.block⟩
theorem Only.alloc {S : Nat → Prop} {a w : World} (h : Only S a w) (o : Obj) : Only S a (w.alloc o) :=
  h.trans ⟨rfl, rfl, rfl, by simp, fun k hk _ => Below.heap_alloc _ _ _ hk⟩
theorem Only.setCell {S : Nat → Prop} {a w : World} (h : Only S a w) {p : Addr} (hp : S p.block ∨ a.heap.size ≤ p.block) (u : Value) : Only S a (w.setCell p u) :=
  ⟨h.os, h.tape, h.output, by simpa [World.setCell] using h.size, fun k hk hn => (Below.heap_setCell _ _ _ _ (by
    rintro rfl
    rcases hp with hp | hp
    · exact hn hp
    · omega)).trans (h.block k hk hn)⟩
theorem Only.setRow {S : Nat → Prop} {a w : World} (h : Only S a w) {g : Nat} (hp : S g ∨ a.heap.size ≤ g) (cs : Array Value) : Only S a (w.setRow g cs) :=
  ⟨h.os, h.tape, h.output, by simpa [World.setRow] using h.size, fun k hk hn => (setRow_other w g k cs (by
    rintro rfl
    rcases hp with hp | hp
    · exact hn hp
    · omega)).trans (h.block k hk hn)⟩
theorem Only.grown {S : Nat → Prop} {a w w' : World} {row : Option Nat} (h : Only S a w) (hg : w.grownBy w' row) (hr : ∀ k, row = some k → S k ∨ a.heap.size ≤ k) : Only S a w' :=
  ⟨hg.os.trans h.os, hg.tape.trans h.tape, hg.output.trans h.output, Nat.le_trans h.size hg.size,
    fun k hk hn => (hg.block k (Nat.lt_of_lt_of_le hk h.size) (fun e => by
      rcases hr k e.symm with h1 | h1
      · exact hn h1
      · omega)).trans (h.block k hk hn)⟩
theorem Only.below {S : Nat → Prop} {w w' : World} {B : Nat} (h : Only S w w') (hB : B ≤ w.heap.size) (hS : ∀ k, S k → B ≤ k) : Below B w w' :=
  ⟨h.os, h.tape, h.output, h.size, fun k hk => h.block k (by omega) (fun hs => by have := hS k hs; omega)⟩
theorem Only.of_below {S : Nat → Prop} {w w' : World} (h : Below w.heap.size w w') : Only S w w' :=
  ⟨h.os, h.tape, h.output, h.size, fun k hk _ => h.block k hk⟩
theorem Only.cell {S : Nat → Prop} {w w' : World} (h : Only S w w') {p : Addr} (hp : p.block < w.heap.size) (hn : ¬ S p.block) : w'.cell? p = w.cell? p := World.cell?_of_block (h.block _ hp hn)
def Blk (w : World) (g : Nat) (t : TypeId) (cs : Array Value) : Prop := w.heap[g]? = some (.cells cs t (0, 0))
section
variable {w w' : World} {g : Nat} {t : TypeId} {cs : Array Value}
theorem Blk.lt (h : Blk w g t cs) : g < w.heap.size := by
  rcases Nat.lt_or_ge g w.heap.size with hlt | hge
  · exact hlt
  · unfold Blk at h; rw [Array.getElem?_eq_none hge] at h; cases h
theorem Blk.cell (h : Blk w g t cs) (i : Nat) : w.cell? ⟨g, i, none⟩ = cs[i]? := cell_of_row w g i cs t (0, 0) h
theorem Blk.cell_ (h : Blk w g t cs) {i : Nat} {u : Value} (hu : cs[i]? = some u) : w.cell? ⟨g, i, none⟩ = some u := (h.cell i).trans hu
theorem Blk.frozen (h : Blk w g t cs) (i : Nat) : w.frozen? ⟨g, i, none⟩ = false := by
  unfold Blk at h
  simp [World.frozen?, h]
theorem Blk.new (w : World) (t : TypeId) (cs : Array Value) : Blk (w.alloc (.cells cs t)) w.heap.size t cs := heap_alloc_new w _
theorem Blk.drew (h : Blk w g t cs) : Blk w.drew g t cs := h
theorem Blk.drewN (h : Blk w g t cs) (n : Nat) : Blk (w.drewN n) g t cs := h
theorem Blk.alloc (h : Blk w g t cs) (o : Obj) : Blk (w.alloc o) g t cs := (Below.heap_alloc w o g h.lt).trans h
theorem Blk.set_ (h : Blk w g t cs) (i : Nat) (u : Value) : Blk (w.setCell ⟨g, i, none⟩ u) g t (cs.setIfInBounds i u) := by
  unfold Blk at h ⊢
  simp [World.setCell, Array.getElem?_modify, h]
theorem Blk.setRow (h : Blk w g t cs) (cs' : Array Value) : Blk (w.setRow g cs') g t cs' := setRow_heap w g cs cs' t (0, 0) h
theorem Blk.setRow_far {g' : Nat} (h : Blk w g t cs) (hp : g ≠ g') (cs' : Array Value) : Blk (w.setRow g' cs') g t cs := (setRow_other w g' g cs' hp).trans h
theorem Blk.far (h : Blk w g t cs) {p : Addr} (hp : g ≠ p.block) (u : Value) : Blk (w.setCell p u) g t cs := (Below.heap_setCell w p u g hp).trans h
theorem Blk.only {S : Nat → Prop} (h : Blk w g t cs) (ho : Only S w w') (hn : ¬ S g) : Blk w' g t cs := (ho.block g h.lt hn).trans h
theorem Blk.grown' {row : Option Nat} (h : Blk w g t cs) (hb : w.grownBy w' row) (hg : row ≠ some g) : Blk w' g t cs := (hb.block g h.lt (fun e => hg e.symm)).trans h
theorem Blk.ne_ {g' : Nat} {t' : TypeId} {cs' : Array Value} (h : Blk w g t cs) (h' : Blk w g' t' cs') (hne : t ≠ t') : g ≠ g' := by
  rintro rfl
  unfold Blk at h h'
  rw [h] at h'
  injection h' with h'
  injection h' with _ ht
  exact hne ht
theorem own_blk_ne {base : Nat} {e : TypeId} {size n : Nat} {v : Value} {xs : List Value} (h : w.ownsRow base e size v n xs) (hg : Blk w g t cs) (hne : e ≠ t) : v.ownBlock ≠ some g := by
  rcases h.2 with ⟨rfl, _⟩ | ⟨g', cap, cur, rfl, _, hh, _⟩
  · simp [Value.ownBlock]
  · intro he
    have : g' = g := by simpa [Value.ownBlock] using he
    subst this
    exact Blk.ne_ (t := e) hh hg hne rfl
end
theorem owns_only {w w' : World} {S : Nat → Prop} {base : Nat} {e : TypeId} {size n : Nat} {v : Value} {xs : List Value} (h : w.ownsRow base e size v n xs) (ho : Only S w w') (hn : ∀ g, v.ownBlock = some g → ¬ S g) : w'.ownsRow base e size v n xs := by
  refine ⟨h.1, ?_⟩
  rcases h.2 with h2 | ⟨g, cap, cur, rfl, hb, hh, r⟩
  · exact .inl h2
  · exact .inr ⟨g, cap, cur, rfl, hb, (ho.block g (Blk.lt (t := e) hh) (hn g (by simp [Value.ownBlock]))).trans hh, r⟩
theorem owns_base {w : World} {base base' : Nat} {e : TypeId} {size n : Nat} {v : Value} {xs : List Value} (h : w.ownsRow base e size v n xs) (hb : base' ≤ base) : w.ownsRow base' e size v n xs := by
  refine ⟨h.1, ?_⟩
  rcases h.2 with h2 | ⟨g, cap, cur, rfl, hg, r⟩
  · exact .inl h2
  · exact .inr ⟨g, cap, cur, rfl, by omega, r⟩
def byt (b : UInt8) : Value := .int .u8 (b.toNat : Int)
def byts (bs : List UInt8) : List Value := bs.map byt
@[simp] theorem byts_length (bs : List UInt8) : (byts bs).length = bs.length := by simp [byts]
theorem byts_append (a b : List UInt8) : byts (a ++ b) = byts a ++ byts b := by simp [byts]
theorem byts_oneCell (bs : List UInt8) : ∀ u ∈ byts bs, u.oneCell' = true := by
  intro u hu
  simp only [byts, List.mem_map] at hu
  obtain ⟨b, _, rfl⟩ := hu
  rfl
theorem byts_at {bs : List UInt8} {j : Nat} {u : Value} (h : (byts bs)[j]? = some u) : ∃ b, bs[j]? = some b ∧ u = byt b := by
  simp only [byts, List.getElem?_map, Option.map_eq_some_iff] at h
  obtain ⟨b, hb, rfl⟩ := h
  exact ⟨b, hb, rfl⟩
def Byt (w : World) (S : Nat → Prop) (v : Value) (bs : List UInt8) : Prop :=
  ∃ A c, v = .slice A bs.length c ∧ bs.length ≤ c ∧ c ≤ maxLen ∧ (A = none → c = 0) ∧
    (0 < bs.length → ∃ b off, A = some ⟨b, off, none⟩ ∧ S b ∧ b < w.heap.size ∧ ∀ j (hj : j < bs.length), w.cell? ⟨b, off + j, none⟩ = some (byt bs[j]))
section
variable {w w' : World} {S T : Nat → Prop} {v : Value} {bs : List UInt8}
theorem Byt.mono (h : Byt w S v bs) (hk : ∀ b, b < w.heap.size → S b → T b) : Byt w T v bs := by
  obtain ⟨A, c, rfl, h1, h2, h3, h4⟩ := h
  refine ⟨A, c, rfl, h1, h2, h3, fun hp => ?_⟩
  obtain ⟨b, off, rfl, hs, hlt, hc⟩ := h4 hp
  exact ⟨b, off, rfl, hk b hlt hs, hlt, hc⟩
theorem Byt.keep (h : Byt w S v bs) (hs : w.heap.size ≤ w'.heap.size) (hk : ∀ p : Addr, p.block < w.heap.size → S p.block → w'.cell? p = w.cell? p) : Byt w' S v bs := by
  obtain ⟨A, c, rfl, h1, h2, h3, h4⟩ := h
  refine ⟨A, c, rfl, h1, h2, h3, fun hp => ?_⟩
  obtain ⟨b, off, rfl, hS, hlt, hc⟩ := h4 hp
  exact ⟨b, off, rfl, hS, by omega, fun j hj => (hk _ hlt hS).trans (hc j hj)⟩
theorem Byt.only (h : Byt w S v bs) (ho : Only T w w') (hn : ∀ b, S b → ¬ T b) : Byt w' S v bs :=
  h.keep ho.size fun _ hp hs => ho.cell hp (hn _ hs)
theorem Byt.drew (h : Byt w S v bs) : Byt w.drew S v bs := h
theorem Byt.drewN (h : Byt w S v bs) (n : Nat) : Byt (w.drewN n) S v bs := h
theorem Byt.alloc (h : Byt w S v bs) (o : Obj) : Byt (w.alloc o) S v bs := h.only ((Only.refl none_ w).alloc o) fun _ _ x => x
theorem Byt.nil (w : World) (S : Nat → Prop) : Byt w S (.slice none 0 0) [] := ⟨none, 0, rfl, by simp, by simp [maxLen], fun _ => rfl, by simp⟩
theorem Byt.of_own {base : Nat} {e : TypeId} {n : Nat} (h : w.ownsRow base e 1 v n (byts bs)) : Byt w (fun b => v.ownBlock = some b) v bs := by
  have hl : bs.length = n := by have := h.1; simpa using this
  subst hl
  rcases h.2 with ⟨hv, hn⟩ | ⟨g, cap, cur, hv, hb, hh, hnc, hcm, hcs, ht⟩
  · have : bs = [] := List.eq_nil_of_length_eq_zero hn
    subst this hv
    exact Byt.nil w _
  · subst hv
    refine ⟨_, cap, rfl, hnc, hcm, by simp, fun hp => ⟨g, 0, rfl, by simp [Value.ownBlock], Blk.lt (t := e) hh, fun j hj => ?_⟩⟩
    have := h.cells (g := g) (by simp [Value.ownBlock]) j (byt bs[j]) (by simp [byts, hj])
    simpa [Addr.add] using (show w.cell? ((⟨g, 0, none⟩ : Addr).add j) = _ from this) |> fun h => by
      unfold Addr.add at h
      split at h
      · subst_vars; simpa using h
      · simpa using h
end
def Moved (w : World) (v v' : Value) : Prop := ∀ k, v'.ownBlock = some k → v.ownBlock = some k ∨ w.heap.size ≤ k
theorem Moved.refl (w : World) (v : Value) : Moved w v v := fun _ h => .inl h
theorem Moved.trans {a b : World} {u v x : Value} (h : Moved a u v) (k : Moved b v x) (hs : a.heap.size ≤ b.heap.size) : Moved a u x := fun g hg => by
  rcases k g hg with h1 | h1
  · exact h g h1
  · exact .inr (by omega)
section
variable {P : Program} (w : World)
theorem run_append_byt (base : Nat) (t ty e : TypeId) (i : TypeInfo) (z : Value) (ht : P.underlying t = some (.slice e)) (hi : P.info? e = some i) (hz : i.zero = some z)
    (hsize : i.size = 1) (hby : i.bytes = 1) (hzs : z.cells.size = 1) (v : Value) (xs : List UInt8) (hown : w.ownsRow base e 1 v xs.length (byts xs))
    (S : Nat → Prop) (A : Value) (ys : List UInt8) (hr : Byt w S A ys) (hbytes : xs.length + ys.length ≤ 140737488355328) (hbase : base ≤ w.heap.size) :
    ∃ v' w', (Builtin.append_ #[t, t] ty #[v, A]).run P w = .ok v' w' ∧ w'.ownsRow base e 1 v' (xs ++ ys).length (byts (xs ++ ys)) ∧ w.grownBy w' v.ownBlock ∧ Moved w v v' := by
  obtain ⟨B, c, rfl, h1, h2, h3, h4⟩ := hr
  rcases B with _ | ad
  · have hy : ys = [] := List.eq_nil_of_length_eq_zero (by have := h3 rfl; omega)
    subst hy
    refine ⟨v, w, ?_, by simpa using hown, ⟨rfl, rfl, rfl, Nat.le_refl _, fun _ _ _ => rfl⟩, Moved.refl _ _⟩
    rcases hown.2 with ⟨rfl, _⟩ | ⟨g, cap, cur, rfl, _, _, hnc, _⟩
    · simp [Builtin.append_, run_underlying ht, sizeOf, typeInfo, hi, Builtin.lenOf, Builtin.firstCells]
    · simp [Builtin.append_, run_underlying ht, sizeOf, typeInfo, hi, Builtin.lenOf, Builtin.firstCells, hnc, storeCells]
  · have hcells : ∀ j u, (byts ys)[j]? = some u → w.cell? (ad.add j) = some u := by
      intro j u hu
      obtain ⟨b, hb, rfl⟩ := byts_at hu
      have hj : j < ys.length := (List.getElem?_eq_some_iff.1 hb).1
      obtain ⟨g, off, e1, _, _, hc⟩ := h4 (by omega)
      injection e1 with e1
      subst e1
      have e2 : (⟨g, off, none⟩ : Addr).add j = ⟨g, off + j, none⟩ := by unfold Addr.add; split <;> simp_all
      have e3 : ys[j] = b := by rw [List.getElem?_eq_getElem hj] at hb; injection hb
      rw [e2, hc j hj, e3]
    obtain ⟨v', w', hrun, h5, h6, _, h7⟩ := run_append_own_at (P := P) w base t ty e i z 1 1 ht hi hz hsize hby hzs (by omega) v xs.length (byts xs) hown ad ys.length c (byts ys) (by simp) hcells (byts_oneCell ys) (by simp only [maxLen]; omega) (by omega) hbase
    refine ⟨v', w', hrun, by simpa [byts_append] using h5, h6, fun k hk => ?_⟩
    rcases h7 with h7 | h7
    · exact .inl (h7 ▸ hk)
    · rw [h7] at hk; injection hk with hk; exact .inr (by omega)
theorem wp_append_byt {o : Oper} {a : Act} {K : Act → World → Prop} {Q : Exit → Act → World → Prop} (s x : Operand) (t : TypeId)
    (ho : o.op = .call { callee := .builtin .append, args := #[s, x], argTypes := #[t, t] })
    (base : Nat) (e : TypeId) (i : TypeInfo) (z : Value) (ht : P.underlying t = some (.slice e)) (hi : P.info? e = some i) (hz : i.zero = some z)
    (hsize : i.size = 1) (hby : i.bytes = 1) (hzs : z.cells.size = 1) (v : Value) (xs : List UInt8) (hs : a.eval s = v) (hown : w.ownsRow base e 1 v xs.length (byts xs))
    (S : Nat → Prop) (A : Value) (ys : List UInt8) (hx : a.eval x = A) (hr : Byt w S A ys) (hbytes : xs.length + ys.length ≤ 140737488355328) (hbase : base ≤ w.heap.size)
    (h : ∀ A' n' c' w', w'.ownsRow base e 1 (.slice A' n' c') (xs ++ ys).length (byts (xs ++ ys)) → w.grownBy w' v.ownBlock → Moved w v (.slice A' n' c') → K (a.put o.dst (.slice A' n' c')) w') : o.wp P a w K Q := by
  obtain ⟨v', w', hrun, h2, h3, h4⟩ := run_append_byt (P := P) w base t o.type e i z ht hi hz hsize hby hzs v xs hown S A ys hr hbytes hbase
  unfold Oper.wp execOp
  simp only [ho, resolve, invoke, builtin, Sem.run_bind, Sem.run_pure, Result.andThen_ok, List.map_toArray, List.map_cons, List.map_nil, hs, hx, hrun]
  obtain ⟨A', n', c', rfl⟩ : ∃ A' n' c', v' = .slice A' n' c' := by
    rcases h2.2 with ⟨rfl, _⟩ | ⟨_, _, _, rfl, _⟩ <;> exact ⟨_, _, _, rfl⟩
  exact h A' n' c' w' h2 h3 h4
theorem wpList_append_byt {ops : Array Oper} {rest : List Oper} {o : Oper} {a : Act} {Q : Exit → Act → World → Prop} (hgd : o.guard = none) (s x : Operand) (t : TypeId)
    (ho : o.op = .call { callee := .builtin .append, args := #[s, x], argTypes := #[t, t] })
    (base : Nat) (e : TypeId) (i : TypeInfo) (z : Value) (ht : P.underlying t = some (.slice e)) (hi : P.info? e = some i) (hz : i.zero = some z)
    (hsize : i.size = 1) (hby : i.bytes = 1) (hzs : z.cells.size = 1) (v : Value) (xs : List UInt8) (hs : a.eval s = v) (hown : w.ownsRow base e 1 v xs.length (byts xs))
    (S : Nat → Prop) (A : Value) (ys : List UInt8) (hx : a.eval x = A) (hr : Byt w S A ys) (hbytes : xs.length + ys.length ≤ 140737488355328) (hbase : base ≤ w.heap.size)
    (h : ∀ A' n' c' w', w'.ownsRow base e 1 (.slice A' n' c') (xs ++ ys).length (byts (xs ++ ys)) → w.grownBy w' v.ownBlock → Moved w v (.slice A' n' c') → wpList P ops Q rest (a.put o.dst (.slice A' n' c')) w') : wpList P ops Q (o :: rest) a w :=
  wpList_plain hgd fun _ hK => wp_append_byt w s x t ho base e i z ht hi hz hsize hby hzs v xs hs hown S A ys hx hr hbytes hbase fun A' n' c' w' h2 h3 h4 => hK _ _ (h A' n' c' w' h2 h3 h4)
theorem step_append_byt {ops : Array Oper} {o : Oper} {a : Act} {K : Act → World → Prop} {Q : Exit → Act → World → Prop} {E : Prop} (hgd : o.guard = none) (s x : Operand) (t : TypeId)
    (ho : o.op = .call { callee := .builtin .append, args := #[s, x], argTypes := #[t, t] })
    (base : Nat) (e : TypeId) (i : TypeInfo) (z : Value) (ht : P.underlying t = some (.slice e)) (hi : P.info? e = some i) (hz : i.zero = some z)
    (hsize : i.size = 1) (hby : i.bytes = 1) (hzs : z.cells.size = 1) (v : Value) (xs : List UInt8) (hs : a.eval s = v) (hown : w.ownsRow base e 1 v xs.length (byts xs))
    (S : Nat → Prop) (A : Value) (ys : List UInt8) (hx : a.eval x = A) (hr : Byt w S A ys) (hbytes : xs.length + ys.length ≤ 140737488355328) (hbase : base ≤ w.heap.size)
    (h : ∀ A' n' c' w', w'.ownsRow base e 1 (.slice A' n' c') (xs ++ ys).length (byts (xs ++ ys)) → w.grownBy w' v.ownBlock → Moved w v (.slice A' n' c') → K (a.put o.dst (.slice A' n' c')) w') :
    if Region.wanted o (yielded ops a.tmps) = true then Oper.wp P o a w K Q else E := by
  have hw : Region.wanted o (yielded ops a.tmps) = true := by simp [Region.wanted, hgd]
  rw [if_pos hw]
  exact wp_append_byt w s x t ho base e i z ht hi hz hsize hby hzs v xs hs hown S A ys hx hr hbytes hbase h
end
def ownb (v : Value) : Nat → Prop := fun k => v.ownBlock = some k
theorem own_len {w : World} {base : Nat} {e : TypeId} {A : Option Addr} {n c N : Nat} {xs : List Value} (h : w.ownsRow base e 1 (.slice A n c) N xs) : n = N := by
  rcases h.2 with ⟨h1, h2⟩ | ⟨g, cap, cur, h1, _⟩
  · injection h1 with _ h1 _; omega
  · injection h1
end Go.Proofs.YtoohpcomnhfgpaaGreat
end
section
namespace Go.Proofs.YtoohpcomnhfgpaaGreat
open Go.RowKit
set_option linter.all false
def lt_ (a b : ByteArray) : Bool := Op.bytesLess a.data.toList b.data.toList
theorem less_cmp : ∀ a b : List UInt8, (Op.bytesLess a b = decide (Lib.compareBytes a b < 0)) ∧ (Lib.compareBytes a b = 0 → a = b) ∧ (Lib.compareBytes b a = - Lib.compareBytes a b) ∧ (-1 ≤ Lib.compareBytes a b ∧ Lib.compareBytes a b ≤ 1)
  | [], [] => by simp [Op.bytesLess, Lib.compareBytes]
  | _ :: _, [] => by simp [Op.bytesLess, Lib.compareBytes]
  | [], _ :: _ => by simp [Op.bytesLess, Lib.compareBytes]
  | a :: x, b :: y => by
    obtain ⟨h1, h2, h3, h4⟩ := less_cmp x y
    unfold Op.bytesLess Lib.compareBytes
    rw [h1]
    by_cases hab : a = b
    · subst hab
      have hlt : ¬ a < a := UInt8.lt_irrefl a
      simp only [hlt, decide_false, Bool.false_or, beq_self_eq_true, Bool.true_and, if_false]
      exact ⟨trivial, fun h => by rw [h2 h], h3, h4⟩
    · by_cases hlt : a < b
      · have h5 : ¬ b < a := fun h => UInt8.lt_irrefl a (UInt8.lt_trans hlt h)
        simp [hlt, h5]
      · have h5 : b < a := UInt8.lt_of_le_of_ne (UInt8.not_lt.1 hlt) (Ne.symm hab)
        simp [hlt, h5, hab]
theorem cmp_self : ∀ a : List UInt8, Lib.compareBytes a a = 0
  | [] => rfl
  | a :: x => by unfold Lib.compareBytes; simp [UInt8.lt_irrefl, cmp_self x]
theorem less_trans : ∀ a b c : List UInt8, Op.bytesLess a b = true → Op.bytesLess b c = true → Op.bytesLess a c = true
  | _, [], _ => fun h => by cases ‹List UInt8› <;> simp [Op.bytesLess] at h
  | _, _ :: _, [] => fun _ h => by simp [Op.bytesLess] at h
  | [], _ :: _, _ :: _ => fun _ _ => by simp [Op.bytesLess]
  | a :: x, b :: y, c :: z => fun h k => by
    unfold Op.bytesLess at h k ⊢
    simp only [Bool.or_eq_true, decide_eq_true_eq, Bool.and_eq_true, beq_iff_eq] at h k ⊢
    rcases h with h | ⟨rfl, h⟩
    · rcases k with k | ⟨rfl, k⟩
      · exact .inl (UInt8.lt_trans h k)
      · exact .inl h
    · rcases k with k | ⟨rfl, k⟩
      · exact .inl k
      · exact .inr ⟨rfl, less_trans x y z h k⟩
theorem lt_cmp (a b : ByteArray) : lt_ a b = decide (Lib.compareBytes a.data.toList b.data.toList < 0) := (less_cmp _ _).1
theorem lt_irr (a : ByteArray) : lt_ a a = false := by rw [lt_cmp, cmp_self]; rfl
theorem lt_tr {a b c : ByteArray} (h : lt_ a b = true) (k : lt_ b c = true) : lt_ a c = true := less_trans _ _ _ h k
theorem key_ext {a b : ByteArray} (h : a.data.toList = b.data.toList) : a = b := by
  obtain ⟨⟨a⟩⟩ := a
  obtain ⟨⟨b⟩⟩ := b
  simpa using h
theorem lt_tri {a b : ByteArray} (h : lt_ a b = false) (k : lt_ b a = false) : a = b := by
  obtain ⟨h1, h2, h3, h4⟩ := less_cmp a.data.toList b.data.toList
  rw [lt_cmp] at h k
  rw [h3] at k
  have h5 : Lib.compareBytes a.data.toList b.data.toList = 0 := by
    have e1 := of_decide_eq_false h
    have e2 := of_decide_eq_false k
    omega
  exact key_ext (h2 h5)
theorem cmp_zero (a b : ByteArray) : (Lib.compareBytes a.data.toList b.data.toList == 0) = decide (a = b) := by
  by_cases h : a = b
  · subst h; simp [cmp_self]
  · simp only [h, decide_false, beq_eq_false_iff_ne, ne_eq]
    exact fun e => h (key_ext ((less_cmp _ _).2.1 e))
theorem cmp_neg (a b : ByteArray) : decide (Lib.compareBytes a.data.toList b.data.toList < 0) = lt_ a b := (lt_cmp a b).symm
theorem cmp_i64 (a b : ByteArray) : -1 ≤ Lib.compareBytes a.data.toList b.data.toList ∧ Lib.compareBytes a.data.toList b.data.toList ≤ 1 := (less_cmp _ _).2.2.2
structure Pr (α : Type) where
  k : ByteArray
  v : α
section
variable {α : Type}
def Ris (l : List (Pr α)) : Prop := ∀ i j : Nat, ∀ hi : i < l.length, ∀ hj : j < l.length, i < j → lt_ l[i].k l[j].k = true
def rnk (l : List (Pr α)) (x : ByteArray) : Nat := l.countP fun p => lt_ p.k x
def has (l : List (Pr α)) (x : ByteArray) : Bool := l.any fun p => decide (p.k = x)
theorem rnk_le (l : List (Pr α)) (x : ByteArray) : rnk l x ≤ l.length := List.countP_le_length
theorem ris_nil : Ris ([] : List (Pr α)) := fun i _ h => absurd h (by simp)
theorem ris_tail {p : Pr α} {l : List (Pr α)} (h : Ris (p :: l)) : Ris l := fun i j hi hj hij => h (i + 1) (j + 1) (by simpa using hi) (by simpa using hj) (by omega)
theorem ris_head {p : Pr α} {l : List (Pr α)} (h : Ris (p :: l)) (q : Pr α) (hq : q ∈ l) : lt_ p.k q.k = true := by
  obtain ⟨j, hj, rfl⟩ := List.mem_iff_getElem.1 hq
  exact h 0 (j + 1) (by simp) (by simpa using hj) (by omega)
theorem rnk_at {l : List (Pr α)} (h : Ris l) (x : ByteArray) : ∀ i (hi : i < l.length), lt_ l[i].k x = decide (i < rnk l x) := by
  induction l with
  | nil => intro i hi; simp at hi
  | cons p l ih =>
    intro i hi
    have ih := ih (ris_tail h)
    have hc : rnk (p :: l) x = rnk l x + if lt_ p.k x = true then 1 else 0 := by simp [rnk, List.countP_cons]
    by_cases hp : lt_ p.k x = true
    · rw [hc, if_pos hp]
      cases i with
      | zero => simp [hp]
      | succ i => rw [List.getElem_cons_succ, ih i (by simpa using hi)]; congr 1; simp
    · have hz : rnk l x = 0 := by
        refine List.countP_eq_zero.2 (fun q hq hlt => hp (lt_tr (ris_head h q hq) hlt))
      rw [hc, if_neg hp, hz]
      cases i with
      | zero => simpa using hp
      | succ i =>
        rw [List.getElem_cons_succ, ih i (by simpa using hi), hz]
        simp
theorem rnk_of {l : List (Pr α)} (h : Ris l) (x : ByteArray) (n : Nat) (hn : n ≤ l.length) (h1 : ∀ i (hi : i < l.length), i < n → lt_ l[i].k x = true) (h2 : ∀ (hi : n < l.length), lt_ l[n].k x = false) : n = rnk l x := by
  have hr := rnk_le l x
  rcases Nat.lt_trichotomy n (rnk l x) with hlt | he | hgt
  · have := h2 (by omega)
    rw [rnk_at h] at this
    simp at this; omega
  · exact he
  · have := h1 (rnk l x) (by omega) hgt
    rw [rnk_at h] at this
    simp at this
theorem has_at {l : List (Pr α)} (h : Ris l) (x : ByteArray) : has l x = (decide (rnk l x < l.length) && decide (∃ hi : rnk l x < l.length, l[rnk l x].k = x)) := by
  rw [Bool.eq_iff_iff]
  simp only [has, List.any_eq_true, decide_eq_true_eq, Bool.and_eq_true]
  constructor
  · rintro ⟨p, hp, rfl⟩
    obtain ⟨i, hi, rfl⟩ := List.mem_iff_getElem.1 hp
    have hr : i = rnk l l[i].k := by
      refine rnk_of h _ i (by omega) (fun j hj hji => h j i hj hi hji) (fun _ => lt_irr _)
    have hr2 : rnk l l[i].k < l.length := by omega
    refine ⟨hr2, hr2, ?_⟩
    have : l[rnk l l[i].k] = l[i] := by congr 1; exact hr.symm
    rw [this]
  · rintro ⟨_, hi, e⟩
    exact ⟨_, List.getElem_mem hi, e⟩
theorem not_has {l : List (Pr α)} {x : ByteArray} (h : has l x = false) (i : Nat) (hi : i < l.length) : l[i].k ≠ x := fun e => by
  have : has l x = true := List.any_eq_true.2 ⟨_, List.getElem_mem hi, by simpa using e⟩
  rw [h] at this; cases this
theorem above {l : List (Pr α)} (h : Ris l) {x : ByteArray} (hx : has l x = false) (i : Nat) (hi : i < l.length) (hr : rnk l x ≤ i) : lt_ x l[i].k = true := by
  have h1 : lt_ l[i].k x = false := by rw [rnk_at h]; simp; omega
  cases h2 : lt_ x l[i].k with
  | true => rfl
  | false => exact absurd (lt_tri h1 h2) (not_has hx i hi)
def putL (l : List (Pr α)) (x : ByteArray) (v : α) : List (Pr α) := if has l x then l.set (rnk l x) ⟨x, v⟩ else l.take (rnk l x) ++ ⟨x, v⟩ :: l.drop (rnk l x)
def dropL (l : List (Pr α)) (x : ByteArray) : List (Pr α) := if has l x then l.take (rnk l x) ++ l.drop (rnk l x + 1) else l
theorem ris_set {l : List (Pr α)} (h : Ris l) (n : Nat) (p : Pr α) (hp : ∀ hn : n < l.length, l[n].k = p.k) : Ris (l.set n p) := by
  intro i j hi hj hij
  have hi' : i < l.length := by simpa using hi
  have hj' : j < l.length := by simpa using hj
  have e : ∀ m (hm : m < l.length), ((l.set n p)[m]'(by simpa using hm)).k = l[m].k := by
    intro m hm
    rw [List.getElem_set]
    split
    · next e => subst e; exact (hp hm).symm
    · rfl
  rw [e i hi', e j hj']
  exact h i j hi' hj' hij
theorem ris_put {l : List (Pr α)} (h : Ris l) (x : ByteArray) (v : α) : Ris (putL l x v) := by
  unfold putL
  by_cases hx : has l x = true
  · rw [if_pos hx]
    refine ris_set h _ _ (fun hn => ?_)
    rw [has_at h] at hx
    simp only [Bool.and_eq_true, decide_eq_true_eq] at hx
    obtain ⟨_, _, e⟩ := hx
    exact e
  · have hx' : has l x = false := by simpa using hx
    rw [if_neg hx]
    have hr := rnk_le l x
    have g : ∀ m (hm : m < (l.take (rnk l x) ++ (⟨x, v⟩ : Pr α) :: l.drop (rnk l x)).length), ((l.take (rnk l x) ++ (⟨x, v⟩ : Pr α) :: l.drop (rnk l x))[m]'hm).k = if hlt : m < rnk l x then (l[m]'(by omega)).k else if he : m = rnk l x then x else (l[m - 1]'(by simp at hm; omega)).k := by
      intro m hm
      rw [List.getElem_append]
      by_cases h1 : m < rnk l x
      · rw [dif_pos (by simp; omega), dif_pos h1, List.getElem_take]
      · rw [dif_neg (by simp; omega), dif_neg h1]
        have hl : (l.take (rnk l x)).length = rnk l x := by simp; omega
        by_cases h2 : m = rnk l x
        · rw [dif_pos h2]
          subst h2
          simp only [hl, Nat.sub_self, List.getElem_cons_zero]
        · rw [dif_neg h2]
          obtain ⟨q, hq⟩ : ∃ q, m - (l.take (rnk l x)).length = q + 1 := ⟨m - rnk l x - 1, by rw [hl]; omega⟩
          simp only [hq, List.getElem_cons_succ, List.getElem_drop]
          congr 2
          omega
    intro i j hi hj hij
    rw [g i hi, g j hj]
    have hlen : (l.take (rnk l x) ++ (⟨x, v⟩ : Pr α) :: l.drop (rnk l x)).length = l.length + 1 := by simp; omega
    rw [hlen] at hi hj
    by_cases h1 : j < rnk l x
    · rw [dif_pos (by omega : i < rnk l x), dif_pos h1]
      exact h i j _ _ hij
    · by_cases h2 : j = rnk l x
      · rw [dif_pos (by omega : i < rnk l x), dif_neg h1, dif_pos h2, rnk_at h]
        simp; omega
      · rw [dif_neg h1, dif_neg h2]
        by_cases h3 : i < rnk l x
        · rw [dif_pos h3]
          exact h i (j - 1) _ _ (by omega)
        · rw [dif_neg h3]
          by_cases h4 : i = rnk l x
          · rw [dif_pos h4]
            exact above h hx' (j - 1) _ (by omega)
          · rw [dif_neg h4]
            exact h (i - 1) (j - 1) _ _ (by omega)
theorem ris_cut {l : List (Pr α)} (h : Ris l) (n : Nat) : Ris (l.take n ++ l.drop (n + 1)) := by
  by_cases hn : n < l.length
  · have hl : (l.take n).length = n := by simp; omega
    have g : ∀ m (hm : m < (l.take n ++ l.drop (n + 1)).length), (l.take n ++ l.drop (n + 1))[m]'hm = if hlt : m < n then l[m]'(by omega) else l[m + 1]'(by simp at hm; omega) := by
      intro m hm
      rw [List.getElem_append]
      by_cases h1 : m < n
      · rw [dif_pos (by omega), dif_pos h1, List.getElem_take]
      · rw [dif_neg (by omega), dif_neg h1, List.getElem_drop]
        congr 1
        omega
    intro i j hi hj hij
    rw [g i hi, g j hj]
    by_cases h1 : j < n
    · rw [dif_pos (by omega : i < n), dif_pos h1]; exact h i j _ _ hij
    · rw [dif_neg h1]
      by_cases h2 : i < n
      · rw [dif_pos h2]; exact h i (j + 1) _ _ (by omega)
      · rw [dif_neg h2]; exact h (i + 1) (j + 1) _ _ (by omega)
  · rw [List.take_of_length_le (by omega), List.drop_of_length_le (by omega), List.append_nil]
    exact h
theorem ris_drop {l : List (Pr α)} (h : Ris l) (x : ByteArray) : Ris (dropL l x) := by
  unfold dropL
  split
  · exact ris_cut h _
  · exact h
theorem drop_len (l : List (Pr α)) (x : ByteArray) : (dropL l x).length ≤ l.length := by
  unfold dropL
  split
  · simp; omega
  · exact Nat.le_refl _
end
end Go.Proofs.YtoohpcomnhfgpaaGreat
end
section
namespace Go.Proofs.YtoohpcomnhfgpaaGreat
set_option linter.all false
def hasE (l : List En) (k : ByteArray) : Bool := l.any fun x => decide (x.k = k)
def fndE (l : List En) (k : ByteArray) : Int := if hasE l k = true then ((l.findIdx fun x => decide (x.k = k) : Nat) : Int) else -1
theorem hasE_get {l : List En} {k : ByteArray} (h : hasE l k = true) : ∃ i, ∃ hi : i < l.length, l[i].k = k ∧ fndE l k = i := by
  have hi : (l.findIdx fun x => decide (x.k = k)) < l.length := List.findIdx_lt_length.2 (by
    obtain ⟨x, hx, he⟩ := List.any_eq_true.1 h
    exact ⟨x, hx, he⟩)
  refine ⟨_, hi, ?_, by rw [fndE, if_pos h]⟩
  have := List.findIdx_getElem (w := hi)
  simpa using this
theorem hasE_not {l : List En} {k : ByteArray} (h : hasE l k = false) : ∀ x ∈ l, x.k ≠ k := fun x hx e => by
  have : hasE l k = true := List.any_eq_true.2 ⟨x, hx, by simpa using e⟩
  rw [h] at this; cases this
theorem hasE_mem {l : List En} {x : En} (h : x ∈ l) : hasE l x.k = true := List.any_eq_true.2 ⟨x, h, by simp⟩
def RisE (l : List En) : Prop := l.Pairwise fun x y => lt_ x.k y.k = true
def setE (e : En) : List En → List En
  | [] => [e]
  | x :: r => if lt_ x.k e.k = true then x :: setE e r else e :: (x :: r).filter fun y => !decide (y.k = e.k)
theorem setE_len (e : En) : ∀ l : List En, (setE e l).length ≤ l.length + 1
  | [] => Nat.le_refl _
  | x :: r => by
    unfold setE; split
    · have := setE_len e r; simp; omega
    · have := List.length_filter_le (fun y : En => !decide (y.k = e.k)) (x :: r); simp at this ⊢; omega
theorem lt_ne {a b : ByteArray} (h : lt_ a b = true) : a ≠ b := fun e => by subst e; rw [lt_irr] at h; cases h
theorem setE_none (e : En) : ∀ l : List En, (l.any fun y => !lt_ y.k e.k) = false → setE e l = l ++ [e]
  | [], _ => rfl
  | y :: l, h => by
    rw [List.any_cons, Bool.or_eq_false_iff] at h
    unfold setE
    rw [if_pos (by simpa using h.1), setE_none e l h.2]; rfl
def gvTurn (was e : En) : En := { was with a := if stLater e.a was.a = true then e.a else was.a, g := if e.g < was.g then e.g else was.g }
def buryE (duty : Bool) (t2 : Int) (l : List En) (e : En) : List En × Bool :=
  if (decide (enCheck e = 0) && duty && decide (e.g < t2)) = true then
    match l.find? fun x => decide (x.k = e.k) with
    | none => (setE e l, true)
    | some was =>
      if stLater was.s e.s = true then (l, false)
      else if stEq was.s e.s = true then (if enEq was (gvTurn was e) = true then (l, false) else (setE (gvTurn was e) l, true))
      else (setE e l, true)
  else (l, false)
def overE (l : List En) (e : En) : Bool := match l.find? fun x => decide (x.k = e.k) with
  | none => false
  | some was => stLater was.s e.s
def olderE (e : En) : En := { e with g := e.g + 1 }
def tickE (t2 : Int) (l : List En) : List En × List ByteArray := ((l.map olderE).filter (fun e => decide (e.g < t2)), ((l.map olderE).filter fun e => !decide (e.g < t2)).map (·.k))
end Go.Proofs.YtoohpcomnhfgpaaGreat
end
section
namespace Go.Proofs.YtoohpcomnhfgpaaGreat
set_option linter.all false
def lookE (l : List En) (k : ByteArray) : Option En := l.find? fun x => decide (x.k = k)
theorem look_set {l : List En} (h : RisE l) (e : En) (k : ByteArray) : lookE (setE e l) k = if e.k = k then some e else lookE l k := by
  induction l with
  | nil => unfold setE lookE; by_cases hk : e.k = k <;> simp [hk]
  | cons x r ih =>
    have h' := List.pairwise_cons.1 h
    unfold setE
    by_cases hx : lt_ x.k e.k = true
    · rw [if_pos hx]
      unfold lookE at ih ⊢
      by_cases hxk : x.k = k
      · have hek : ¬ (e.k = k) := fun he => lt_ne hx (hxk.trans he.symm)
        simp [hxk, hek]
      · simp [hxk, ih h'.2]
    · rw [if_neg hx]
      unfold lookE
      by_cases hk : e.k = k
      · simp [hk]
      · simp only [List.find?_cons, hk, decide_false, if_false]
        have : ∀ l : List En, (l.filter fun y => !decide (y.k = e.k)).find? (fun x => decide (x.k = k)) = l.find? fun x => decide (x.k = k) := by
          intro l
          induction l with
          | nil => rfl
          | cons y l ih =>
            by_cases hy : y.k = e.k
            · rw [List.filter_cons_of_neg (by simp [hy]), ih, List.find?_cons_of_neg (by simpa [hy] using hk)]
            · rw [List.filter_cons_of_pos (by simp [hy]), List.find?_cons, List.find?_cons, ih]
        exact this (x :: r)
theorem mem_set {l : List En} {e y : En} (h : y ∈ setE e l) : y = e ∨ (y ∈ l ∧ y.k ≠ e.k) := by
  induction l with
  | nil => simp [setE] at h; exact .inl h
  | cons x r ih =>
    unfold setE at h
    split at h
    · next hx =>
      rcases List.mem_cons.1 h with rfl | h
      · exact .inr ⟨List.mem_cons_self, lt_ne hx⟩
      · rcases ih h with h1 | ⟨h1, h2⟩
        · exact .inl h1
        · exact .inr ⟨List.mem_cons_of_mem _ h1, h2⟩
    · rcases List.mem_cons.1 h with h | h
      · exact .inl h
      · obtain ⟨h1, h2⟩ := List.mem_filter.1 h
        exact .inr ⟨h1, by simpa using h2⟩
theorem risE_set {l : List En} (h : RisE l) (e : En) : RisE (setE e l) := by
  induction l with
  | nil => exact List.pairwise_singleton _ _
  | cons x r ih =>
    have h' := List.pairwise_cons.1 h
    unfold setE
    by_cases hx : lt_ x.k e.k = true
    · rw [if_pos hx]
      refine List.pairwise_cons.2 ⟨fun y hy => ?_, ih h'.2⟩
      rcases mem_set hy with rfl | ⟨h1, _⟩
      · exact hx
      · exact h'.1 y h1
    · rw [if_neg hx]
      refine List.pairwise_cons.2 ⟨fun y hy => ?_, h.sublist List.filter_sublist⟩
      obtain ⟨h1, h2⟩ := List.mem_filter.1 hy
      have hne : y.k ≠ e.k := by simpa using h2
      have hxe : lt_ x.k e.k = false := by simpa using hx
      have hlex : ∀ z : En, z.k ≠ e.k → lt_ z.k e.k = false → lt_ e.k z.k = true := fun z hz hl => by
        cases h3 : lt_ e.k z.k with
        | true => rfl
        | false => exact absurd (lt_tri hl h3) hz
      rcases List.mem_cons.1 h1 with rfl | h1
      · exact hlex _ hne hxe
      · by_cases hx2 : x.k = e.k
        · rw [← hx2]; exact h'.1 y h1
        · exact lt_tr (hlex x hx2 hxe) (h'.1 y h1)
def takes (duty : Bool) (t2 : Int) (e : En) : Bool := decide (enCheck e = 0) && duty && decide (e.g < t2)
theorem stEq_false {x y : St} (h : stEq x y = false) (k : stLater x y = false) : stLater y x = true := by
  cases h2 : stLater y x with
  | true => rfl
  | false =>
    have := (stEq_iff x y).2 (later_anti k h2)
    rw [h] at this; cases this
theorem ris_bury {l : List En} (hr : RisE l) (duty : Bool) (t2 : Int) (e : En) : RisE (buryE duty t2 l e).1 := by
  unfold buryE
  split
  · split
    · exact risE_set hr _
    · split
      · exact hr
      · split
        · split
          · exact hr
          · exact risE_set hr _
        · exact risE_set hr _
  · exact hr
theorem look_mem {l : List En} (h : RisE l) {x : En} (hx : x ∈ l) : lookE l x.k = some x := by
  induction l with
  | nil => cases hx
  | cons y r ih =>
    have h' := List.pairwise_cons.1 h
    unfold lookE at ih ⊢
    rcases List.mem_cons.1 hx with rfl | hx
    · simp
    · have : ¬ (y.k = x.k) := lt_ne (h'.1 x hx)
      rw [List.find?_cons_of_neg (by simpa using this)]
      exact ih h'.2 hx
theorem look_some {l : List En} {k : ByteArray} {x : En} (h : lookE l k = some x) : x ∈ l ∧ x.k = k := ⟨List.mem_of_find?_eq_some h, by have := List.find?_some h; simpa using this⟩
end Go.Proofs.YtoohpcomnhfgpaaGreat
end
section
namespace Go.Proofs.YtoohpcomnhfgpaaGreat
set_option linter.all false
theorem ris_older {l : List En} (h : RisE l) : RisE (l.map olderE) := List.pairwise_map.2 h
theorem look_filter {l : List En} (h : RisE l) (p : En → Bool) (k : ByteArray) : lookE (l.filter p) k = (lookE l k).filter p := by
  induction l with
  | nil => rfl
  | cons x r ih =>
    have h' := List.pairwise_cons.1 h
    have ih := ih h'.2
    unfold lookE at ih ⊢
    by_cases hk : x.k = k
    · rw [List.find?_cons_of_pos (by simpa using hk)]
      by_cases hp : p x = true
      · rw [List.filter_cons_of_pos hp, List.find?_cons_of_pos (by simpa using hk)]
        simp [Option.filter, hp]
      · rw [List.filter_cons_of_neg hp]
        have : (r.filter p).find? (fun x => decide (x.k = k)) = none := List.find?_eq_none.2 fun z hz => by
          have := lt_ne (h'.1 z (List.mem_filter.1 hz).1)
          rw [hk] at this
          simpa using this.symm
        rw [this]
        simp [Option.filter, hp]
    · rw [List.find?_cons_of_neg (by simpa using hk)]
      by_cases hp : p x = true
      · rw [List.filter_cons_of_pos hp, List.find?_cons_of_neg (by simpa using hk)]; exact ih
      · rw [List.filter_cons_of_neg hp]; exact ih
theorem ris_tick {l : List En} (h : RisE l) (t2 : Int) : RisE (tickE t2 l).1 := (ris_older h).sublist List.filter_sublist
theorem mem_bury {l : List En} {duty : Bool} {t2 : Int} {e x : En} (h : x ∈ (buryE duty t2 l e).1) : x ∈ l ∨ (takes duty t2 e = true ∧ (x = e ∨ ∃ was ∈ l, was.k = e.k ∧ x = gvTurn was e)) := by
  unfold buryE at h
  by_cases ht : (decide (enCheck e = 0) && duty && decide (e.g < t2)) = true
  · rw [if_pos ht] at h
    cases hw : l.find? fun x => decide (x.k = e.k) with
    | none =>
      rw [hw] at h
      simp only at h
      rcases mem_set h with rfl | ⟨h1, _⟩
      · exact .inr ⟨ht, .inl rfl⟩
      · exact .inl h1
    | some was =>
      rw [hw] at h
      simp only at h
      have hm := List.mem_of_find?_eq_some hw
      have hk : was.k = e.k := by have := List.find?_some hw; simpa using this
      split at h
      · exact .inl h
      · split at h
        · split at h
          · exact .inl h
          · rcases mem_set h with h1 | ⟨h1, _⟩
            · exact .inr ⟨ht, .inr ⟨was, hm, hk, h1⟩⟩
            · exact .inl h1
        · rcases mem_set h with rfl | ⟨h1, _⟩
          · exact .inr ⟨ht, .inl rfl⟩
          · exact .inl h1
  · rw [if_neg ht] at h
    exact .inl h
theorem cert_of {e : En} (h : enCheck e = 0) (hd : e.d = true) : 1 ≤ e.p ∧ e.p ≤ 4095 ∧ 0 ≤ e.g := by
  unfold enCheck at h
  split at h
  · cases h
  · split at h
    · cases h
    · split at h
      · cases h
      · split at h
        · cases h
        · next hr =>
          unfold enRestBad at hr
          rw [if_pos hd] at hr
          simp [enCert] at hr
          omega
theorem bury_off {l : List En} {duty : Bool} {t2 : Int} {e : En} (h : takes duty t2 e = false) : buryE duty t2 l e = (l, false) := by
  unfold takes at h
  unfold buryE
  rw [if_neg (by rw [h]; simp)]
theorem len_bury (duty : Bool) (t2 : Int) (l : List En) (e : En) : (buryE duty t2 l e).1.length ≤ l.length + 1 := by
  have h := fun e => setE_len e l
  unfold buryE
  split
  · split
    · exact h _
    · split
      · exact Nat.le_succ _
      · split
        · split
          · exact Nat.le_succ _
          · exact h _
        · exact h _
  · exact Nat.le_succ _
theorem len_tick (t2 : Int) (l : List En) : (tickE t2 l).1.length ≤ l.length := by
  unfold tickE
  have := List.length_filter_le (fun e : En => decide (e.g < t2)) (l.map olderE)
  simpa using this
end Go.Proofs.YtoohpcomnhfgpaaGreat
end
section
namespace Go.Proofs.YtoohpcomnhfgpaaGreat
open Go.RowKit
set_option linter.all false
set_option maxRecDepth 100000
def kpP (s n : Nat) : Nat → Nat
  | 0 => 0
  | i + 1 => kpP s n i ||| 2 ^ ((s + i) % n)
theorem kp_small : ∀ n, n ≤ 12 → ∀ s, s < n → ∀ r, r ≤ n → kpP s n r < 4096 := by decide +kernel
def kpOk (site retain nodes : Int) : Prop := 1 ≤ nodes ∧ nodes ≤ 12 ∧ 0 ≤ site ∧ site < nodes ∧ 1 ≤ retain ∧ retain ≤ nodes
instance (a b c : Int) : Decidable (kpOk a b c) := by unfold kpOk; infer_instance
def enKeepers (site retain nodes : Int) : Int := if kpOk site retain nodes then (kpP site.toNat nodes.toNat retain.toNat : Int) else 0
theorem i64_or_small (a b : Nat) (ha : a < 4096) (hb : b < 4096) : bits .or .i64 (a : Int) (b : Int) = ((a ||| b : Nat) : Int) := by
  have hx : a ||| b < 2 ^ 12 := Nat.or_lt_two_pow (by omega) (by omega)
  have e : ∀ c : Nat, c < 4096 → (BitVec.ofInt 64 (c : Int)).toNat = c := fun c hc => by
    rw [BitVec.ofInt_natCast, BitVec.toNat_ofNat]; exact Nat.mod_eq_of_lt (by omega)
  show IntKind.i64.wrap ((BitVec.ofInt 64 (a : Int) ||| BitVec.ofInt 64 (b : Int)).toNat : Int) = _
  rw [BitVec.toNat_or, e a ha, e b hb, IntKind.wrap_i64]
  omega
theorem i64_and_small (a b : Nat) (ha : a < 4096) (hb : b < 4096) : bits .and .i64 (a : Int) (b : Int) = ((a &&& b : Nat) : Int) := by
  have hx : a &&& b < 2 ^ 12 := Nat.and_lt_two_pow _ (by omega)
  have e : ∀ c : Nat, c < 4096 → (BitVec.ofInt 64 (c : Int)).toNat = c := fun c hc => by
    rw [BitVec.ofInt_natCast, BitVec.toNat_ofNat]; exact Nat.mod_eq_of_lt (by omega)
  show IntKind.i64.wrap ((BitVec.ofInt 64 (a : Int) &&& BitVec.ofInt 64 (b : Int)).toNat : Int) = _
  rw [BitVec.toNat_and, e a ha, e b hb, IntKind.wrap_i64]
  omega
theorem pow_small (m : Nat) (h : m < 12) : 2 ^ m < 4096 := by
  have : 2 ^ m < 2 ^ 12 := Nat.pow_lt_pow_right (by omega) h
  omega
theorem en_bit (m : Nat) (h : m < 12) (w : World) :
    Calls Tryz.prog 154 #[.int .i64 (m : Int)] w fun e w' => e = .returned (.int .i64 ((2 ^ m : Nat) : Int)) ∧ w = w' := by
  have hp := pow_small m h
  have h0 : (0 : Int) ≤ (m : Int) := by omega
  have h1 : (m : Int) ≤ 64 := by omega
  go_enter Tryz.func154, Tryz.ntmps154
  go_wp2_with fail
  go_ret
  have e : ((2 : Int) ^ m) = ((2 ^ m : Nat) : Int) := by push_cast; rfl
  rw [e]
  generalize 2 ^ m = v at hp
  rw [IntWalk.wrap64_in _ (by omega)]
  exact ⟨rfl, rfl⟩
theorem en_keepers (site retain nodes : Int) (w : World) :
    Calls Tryz.prog 95 #[.int .i64 site, .int .i64 retain, .int .i64 nodes] w fun e w' => e = .returned (.int .i64 (enKeepers site retain nodes)) ∧ w = w' := by
  by_cases hok : kpOk site retain nodes
  · obtain ⟨h1, h2, h3, h4, h5, h6⟩ := hok
    obtain ⟨s, rfl⟩ := Int.eq_ofNat_of_zero_le h3
    obtain ⟨n, rfl⟩ := Int.eq_ofNat_of_zero_le (show 0 ≤ nodes by omega)
    obtain ⟨r, rfl⟩ := Int.eq_ofNat_of_zero_le (show 0 ≤ retain by omega)
    have d1 : decide ((n : Int) < 1) = false := by simp <;> omega
    have d2 : decide ((12 : Int) < (n : Int)) = false := by simp <;> omega
    have d3 : decide ((s : Int) < 0) = false := by simp <;> omega
    have d4 : decide (n ≤ s) = false := by simp <;> omega
    have d5 : decide ((r : Int) < 1) = false := by simp <;> omega
    have d6 : decide (n < r) = false := by simp <;> omega
    have HR : Hid (enKeepers (s : Int) (r : Int) (n : Int) = (kpP s n r : Int)) := by
      rw [Hid, enKeepers, if_pos ⟨h1, h2, h3, h4, h5, h6⟩]
      rfl
    go_enter Tryz.func95, Tryz.ntmps95
    go_wp2_with fail
    go_loop [7, 8, 34] (fun b _ i => ∃ k : Nat, k ≤ r ∧ i = .int .i64 (k : Int) ∧ b = .int .i64 (kpP s n k : Int)) (fun _ _ i => r - (intOf i).toNat)
    case atStart => exact ⟨0, by omega, rfl, rfl⟩
    case round =>
      obtain ⟨k, hk, rfl, rfl⟩ := hrel
      by_cases hlt : (k : Int) < r
      · have em : ((s : Int) + (k : Int)) % (n : Int) = (((s + k) % n : Nat) : Int) := by push_cast; rfl
        have hm : (s + k) % n < 12 := by
          have := Nat.mod_lt (s + k) (show 0 < n by omega)
          omega
        have HB := en_bit ((s + k) % n) hm w
        rw [← em] at HB
        have hor := i64_or_small (kpP s n k) (2 ^ ((s + k) % n)) (kp_small n (by omega) s (by omega) k (by omega)) (pow_small _ hm)
        have HO : Hid (kpP s n k ||| 2 ^ ((s + k) % n) = kpP s n (k + 1)) := rfl
        rw [HO.out] at hor
        generalize 2 ^ ((s + k) % n) = v at hor HB
        have HB1 := Lib.hid HB
        clear HB em hm HO
        go_wp2_with (go_at_call 154; refine HB1.out.mono ?_; rintro e w' ⟨rfl, rfl⟩)
        go_round
        case rel => exact ⟨k + 1, by omega, by go_num, rfl⟩
        case measure => simp [intOf]; omega
      · obtain rfl : k = r := by omega
        go_wp2_with fail
        go_ret
        rw [HR.out]
        exact ⟨rfl, rfl⟩
  · have HR : Hid (enKeepers site retain nodes = 0) := by rw [Hid, enKeepers, if_neg hok]
    have hall : nodes < 1 ∨ (1 ≤ nodes ∧ 12 < nodes) ∨ (1 ≤ nodes ∧ nodes ≤ 12 ∧ site < 0) ∨ (1 ≤ nodes ∧ nodes ≤ 12 ∧ 0 ≤ site ∧ nodes ≤ site) ∨ (1 ≤ nodes ∧ nodes ≤ 12 ∧ 0 ≤ site ∧ site < nodes ∧ retain < 1) ∨ (1 ≤ nodes ∧ nodes ≤ 12 ∧ 0 ≤ site ∧ site < nodes ∧ 1 ≤ retain ∧ nodes < retain) := by
      unfold kpOk at hok
      omega
    clear hok
    rcases hall with h1 | ⟨h1, h2⟩ | ⟨h1, h2, h3⟩ | ⟨h1, h2, h3, h4⟩ | ⟨h1, h2, h3, h4, h5⟩ | ⟨h1, h2, h3, h4, h5, h6⟩
    all_goals
      go_enter Tryz.func95, Tryz.ntmps95
      go_wp2_with fail
      go_ret
      rw [HR.out]
      exact ⟨rfl, rfl⟩
end Go.Proofs.YtoohpcomnhfgpaaGreat
end
section
namespace Go.Proofs.YtoohpcomnhfgpaaGreat
open Go.RowKit
set_option linter.all false
set_option maxRecDepth 100000
theorem eq_struct {P : Program} {t : TypeId} {fs : Array Field} (ht : P.underlying t = some (.struct fs)) (hp : P.stoodInHeld t = false) (d : Nat) (xs ys : Array Value) (w : World) :
    (Op.equalIn (d + 1) t (.agg xs) (.agg ys)).run P w = (Op.eqFields d xs ys fs.toList).run P w := by
  have e : P.fieldsOf t = fs := by rw [Program.fieldsOf, ht]
  rw [run_equalIn_struct w d t xs ys (by rw [e]; exact ht) hp, e]
theorem eql_of {P : Program} {w : World} {t : TypeId} {xs ys : Array Value} {b : Bool} (h : (Op.equalIn 10000 t (.agg xs) (.agg ys)).run P w = .ok b w) : (binOp .eql t (.agg xs) (.agg ys)).run P w = .ok (.bool b) w := by
  rw [run_eql_struct, h]; rfl
theorem neq_of {P : Program} {w : World} {t : TypeId} {xs ys : Array Value} {b : Bool} (h : (Op.equalIn 10000 t (.agg xs) (.agg ys)).run P w = .ok b w) : (binOp .neq t (.agg xs) (.agg ys)).run P w = .ok (.bool (!b)) w := by
  rw [run_neq_struct, h]; rfl
end Go.Proofs.YtoohpcomnhfgpaaGreat
end
section
namespace Go.Proofs.YtoohpcomnhfgpaaGreat
open Go.RowKit
set_option linter.all false
set_option maxRecDepth 100000
theorem eq_api_stamp (w : World) (x y : St) (d : Nat) : (Op.equalIn (d + 2) 80 (.agg #[.int .i64 x.c, .int .i64 x.s]) (.agg #[.int .i64 y.c, .int .i64 y.s])).run Tryz.prog w = .ok (stEq x y) w := by
  rw [eq_struct Tryz.underlying80 (by kernel_rfl)]
  have e : ∀ (a b : Int), (Op.equalIn (d + 1) 3 (.int .i64 a) (.int .i64 b)).run Tryz.prog w = .ok (a == b) w := fun a b => run_equalIn_int w d 3 .i64 .i64 a b Tryz.underlying3
  simp only [stEq]
  cases h1 : x.c == y.c <;> cases h2 : x.s == y.s <;> simp [Op.eqFields, part, isAgg, run_underlying Tryz.underlying3, e, h1, h2]
theorem eq_api_entry (w : World) (x y : En) (d : Nat) : (Op.equalIn (d + 3) 82 (.agg #[.string x.k, .string x.v, .bool x.d, .int .i64 x.s.c, .int .i64 x.s.s, .int .i64 x.a.c, .int .i64 x.a.s, .int .i64 x.p, .int .i64 x.g]) (.agg #[.string y.k, .string y.v, .bool y.d, .int .i64 y.s.c, .int .i64 y.s.s, .int .i64 y.a.c, .int .i64 y.a.s, .int .i64 y.p, .int .i64 y.g])).run Tryz.prog w = .ok (enEq x y) w := by
  rw [eq_struct Tryz.underlying82 (by kernel_rfl) (d + 2)]
  have e1 : ∀ (a b : ByteArray), (Op.equalIn (d + 2) 9 (.string a) (.string b)).run Tryz.prog w = .ok (a.toList == b.toList) w := fun a b => run_equalIn_string w (d + 1) 9 a b Tryz.underlying9
  have e2 : ∀ (a b : Bool), (Op.equalIn (d + 2) 4 (.bool a) (.bool b)).run Tryz.prog w = .ok (a == b) w := fun a b => run_equalIn_bool w (d + 1) 4 a b Tryz.underlying4
  have e3 : ∀ (a b : Int), (Op.equalIn (d + 2) 3 (.int .i64 a) (.int .i64 b)).run Tryz.prog w = .ok (a == b) w := fun a b => run_equalIn_int w (d + 1) 3 .i64 .i64 a b Tryz.underlying3
  have e4 := eq_api_stamp w x.s y.s d
  have e5 := eq_api_stamp w x.a y.a d
  obtain ⟨i0, hi0, hz0⟩ : ∃ i0, Tryz.prog.info? 80 = some i0 ∧ i0.size = 2 := by
    have : (Tryz.prog.info? 80).map (·.size) = some 2 := by kernel_rfl
    cases h : Tryz.prog.info? 80 with
    | none => rw [h] at this; cases this
    | some i0 => rw [h] at this; simp at this; exact ⟨i0, rfl, this⟩
  have p1 : (part 80 #[.string x.k, .string x.v, .bool x.d, .int .i64 x.s.c, .int .i64 x.s.s, .int .i64 x.a.c, .int .i64 x.a.s, .int .i64 x.p, .int .i64 x.g] 3).run Tryz.prog w = .ok (.agg #[.int .i64 x.s.c, .int .i64 x.s.s]) w := by
    simp [part, isAgg, run_underlying Tryz.underlying80, sizeOf, typeInfo, hi0, hz0]
  have p2 : (part 80 #[.string x.k, .string x.v, .bool x.d, .int .i64 x.s.c, .int .i64 x.s.s, .int .i64 x.a.c, .int .i64 x.a.s, .int .i64 x.p, .int .i64 x.g] 5).run Tryz.prog w = .ok (.agg #[.int .i64 x.a.c, .int .i64 x.a.s]) w := by
    simp [part, isAgg, run_underlying Tryz.underlying80, sizeOf, typeInfo, hi0, hz0]
  have q1 : (part 80 #[.string y.k, .string y.v, .bool y.d, .int .i64 y.s.c, .int .i64 y.s.s, .int .i64 y.a.c, .int .i64 y.a.s, .int .i64 y.p, .int .i64 y.g] 3).run Tryz.prog w = .ok (.agg #[.int .i64 y.s.c, .int .i64 y.s.s]) w := by
    simp [part, isAgg, run_underlying Tryz.underlying80, sizeOf, typeInfo, hi0, hz0]
  have q2 : (part 80 #[.string y.k, .string y.v, .bool y.d, .int .i64 y.s.c, .int .i64 y.s.s, .int .i64 y.a.c, .int .i64 y.a.s, .int .i64 y.p, .int .i64 y.g] 5).run Tryz.prog w = .ok (.agg #[.int .i64 y.a.c, .int .i64 y.a.s]) w := by
    simp [part, isAgg, run_underlying Tryz.underlying80, sizeOf, typeInfo, hi0, hz0]
  have ps : ∀ (cs : Array Value) (i : Nat) (u : Value), cs[i]? = some u → (part 9 cs i).run Tryz.prog w = .ok u w := fun cs i u h => by simp [part, isAgg, run_underlying Tryz.underlying9, h]
  have pb : ∀ (cs : Array Value) (i : Nat) (u : Value), cs[i]? = some u → (part 4 cs i).run Tryz.prog w = .ok u w := fun cs i u h => by simp [part, isAgg, run_underlying Tryz.underlying4, h]
  have pi : ∀ (cs : Array Value) (i : Nat) (u : Value), cs[i]? = some u → (part 3 cs i).run Tryz.prog w = .ok u w := fun cs i u h => by simp [part, isAgg, run_underlying Tryz.underlying3, h]
  have s1 := e1 x.k y.k
  have s2 := e1 x.v y.v
  have s3 := e2 x.d y.d
  have s6 := e3 x.p y.p
  have s7 := e3 x.g y.g
  unfold enEq
  generalize (x.k.toList == y.k.toList) = b1 at *
  generalize (x.v.toList == y.v.toList) = b2 at *
  generalize (x.d == y.d) = b3 at *
  generalize stEq x.s y.s = b4 at *
  generalize stEq x.a y.a = b5 at *
  generalize (x.p == y.p) = b6 at *
  generalize (x.g == y.g) = b7 at *
  have r0 := ps #[.string x.k, .string x.v, .bool x.d, .int .i64 x.s.c, .int .i64 x.s.s, .int .i64 x.a.c, .int .i64 x.a.s, .int .i64 x.p, .int .i64 x.g] 0 _ rfl
  have r1 := ps #[.string y.k, .string y.v, .bool y.d, .int .i64 y.s.c, .int .i64 y.s.s, .int .i64 y.a.c, .int .i64 y.a.s, .int .i64 y.p, .int .i64 y.g] 0 _ rfl
  have r2 := ps #[.string x.k, .string x.v, .bool x.d, .int .i64 x.s.c, .int .i64 x.s.s, .int .i64 x.a.c, .int .i64 x.a.s, .int .i64 x.p, .int .i64 x.g] 1 _ rfl
  have r3 := ps #[.string y.k, .string y.v, .bool y.d, .int .i64 y.s.c, .int .i64 y.s.s, .int .i64 y.a.c, .int .i64 y.a.s, .int .i64 y.p, .int .i64 y.g] 1 _ rfl
  have r4 := pb #[.string x.k, .string x.v, .bool x.d, .int .i64 x.s.c, .int .i64 x.s.s, .int .i64 x.a.c, .int .i64 x.a.s, .int .i64 x.p, .int .i64 x.g] 2 _ rfl
  have r5 := pb #[.string y.k, .string y.v, .bool y.d, .int .i64 y.s.c, .int .i64 y.s.s, .int .i64 y.a.c, .int .i64 y.a.s, .int .i64 y.p, .int .i64 y.g] 2 _ rfl
  have r6 := pi #[.string x.k, .string x.v, .bool x.d, .int .i64 x.s.c, .int .i64 x.s.s, .int .i64 x.a.c, .int .i64 x.a.s, .int .i64 x.p, .int .i64 x.g] 7 _ rfl
  have r7 := pi #[.string y.k, .string y.v, .bool y.d, .int .i64 y.s.c, .int .i64 y.s.s, .int .i64 y.a.c, .int .i64 y.a.s, .int .i64 y.p, .int .i64 y.g] 7 _ rfl
  have r8 := pi #[.string x.k, .string x.v, .bool x.d, .int .i64 x.s.c, .int .i64 x.s.s, .int .i64 x.a.c, .int .i64 x.a.s, .int .i64 x.p, .int .i64 x.g] 8 _ rfl
  have r9 := pi #[.string y.k, .string y.v, .bool y.d, .int .i64 y.s.c, .int .i64 y.s.s, .int .i64 y.a.c, .int .i64 y.a.s, .int .i64 y.p, .int .i64 y.g] 8 _ rfl
  clear ps pb pi e1 e2 e3
  cases b1
  · simp [Op.eqFields, r0, r1, s1]
  cases b2
  · simp [Op.eqFields, r0, r1, r2, r3, s1, s2]
  cases b3
  · simp [Op.eqFields, r0, r1, r2, r3, r4, r5, s1, s2, s3]
  cases b4
  · simp [Op.eqFields, r0, r1, r2, r3, r4, r5, p1, q1, s1, s2, s3, e4]
  cases b5
  · simp [Op.eqFields, r0, r1, r2, r3, r4, r5, p1, q1, p2, q2, s1, s2, s3, e4, e5]
  cases b6
  · simp [Op.eqFields, r0, r1, r2, r3, r4, r5, p1, q1, p2, q2, r6, r7, s1, s2, s3, e4, e5, s6]
  cases b7 <;> simp [Op.eqFields, r0, r1, r2, r3, r4, r5, p1, q1, p2, q2, r6, r7, r8, r9, s1, s2, s3, e4, e5, s6, s7]
end Go.Proofs.YtoohpcomnhfgpaaGreat
end
section
namespace Go.Proofs.YtoohpcomnhfgpaaGreat
open Go.RowKit
set_option maxRecDepth 100000
theorem st_isSite (n : Int) (w : World) :
    Calls Tryz.prog 172 #[.int .i64 n] w fun e w' => e = .returned (.bool (stSite n)) ∧ w = w' := by
  by_cases h1 : 0 ≤ n
  · by_cases h2 : n < 12
    · have H : Hid (stSite n = true) := by simp [Hid, stSite, h1]; omega
      go_enter Tryz.func172, Tryz.ntmps172
      go_wp2
      go_ret
      rw [H.out]
      exact ⟨rfl, rfl⟩
    · have H : Hid (stSite n = false) := by simp [Hid, stSite]; omega
      go_enter Tryz.func172, Tryz.ntmps172
      go_wp2
      go_ret
      rw [H.out]
      exact ⟨rfl, rfl⟩
  · have H : Hid (stSite n = false) := by simp [Hid, stSite]; omega
    go_enter Tryz.func172, Tryz.ntmps172
    go_wp2
    go_ret
    rw [H.out]
    exact ⟨rfl, rfl⟩
theorem st_good (c s : Int) (w : World) :
    Calls Tryz.prog 143 #[.agg #[.int .i64 c, .int .i64 s]] w fun e w' => e = .returned (.bool (stGood ⟨c, s⟩)) ∧ Only none_ w w' := by
  have O := Lib.hid ((Only.refl none_ w).alloc (.cells #[.int .i64 c, .int .i64 s] 80))
  obtain ⟨b, hb⟩ : ∃ b, stSite s = b := ⟨_, rfl⟩
  have HB := Lib.hid hb
  have HG : Hid (stGood ⟨c, s⟩ = (decide (1 ≤ c ∧ c ≤ 4294967295) && b)) := by rw [Hid, stGood, hb]
  clear hb
  by_cases h1 : 1 ≤ c
  · by_cases h2 : c ≤ 4294967295
    · have H : Hid (stGood ⟨c, s⟩ = b) := by rw [Hid, HG.out]; simp [h1, h2]
      go_enter Tryz.func143, Tryz.ntmps143
      go_wp2_with (first
        | (go_at_call 172; refine (st_isSite _ _).mono ?_; rintro e w' ⟨rfl, rfl⟩; rw [HB.out]))
      go_ret
      rw [H.out]
      exact ⟨rfl, O.out⟩
    · have H : Hid (stGood ⟨c, s⟩ = false) := by rw [Hid, HG.out]; simp [h1, h2]
      go_enter Tryz.func143, Tryz.ntmps143
      go_wp2_with fail
      go_ret
      rw [H.out]
      exact ⟨rfl, O.out⟩
  · have H : Hid (stGood ⟨c, s⟩ = false) := by rw [Hid, HG.out]; simp [h1]
    go_enter Tryz.func143, Tryz.ntmps143
    go_wp2_with fail
    go_ret
    rw [H.out]
    exact ⟨rfl, O.out⟩
end Go.Proofs.YtoohpcomnhfgpaaGreat
end
section
namespace Go.Proofs.YtoohpcomnhfgpaaGreat
open Go.RowKit
set_option maxRecDepth 100000
theorem isNaN_int (n : Int) (w : World) :
    Calls Tryz.prog 230 #[.int .i64 n] w fun e w' => e = .returned (.bool false) ∧ w = w' := by
  have h : (n != n) = false := by simp
  go_enter Tryz.func230, Tryz.ntmps230
  go_wp2
  go_ret
  exact ⟨rfl, rfl⟩
theorem cmp_int (a b : Int) (w : World) :
    Calls Tryz.prog 192 #[.int .i64 a, .int .i64 b] w fun e w' => e = .returned (.int .i64 (cmpI a b)) ∧ w = w' := by
  by_cases h1 : a < b
  · have H : Hid (cmpI a b = -1) := by simp [Hid, cmpI, h1]
    go_enter Tryz.func192, Tryz.ntmps192
    go_wp2_with (go_at_call 230; refine (isNaN_int _ _).mono ?_; rintro e w' ⟨rfl, rfl⟩)
    go_ret
    rw [H.out]
    exact ⟨rfl, rfl⟩
  · by_cases h2 : b < a
    · have H : Hid (cmpI a b = 1) := by simp [Hid, cmpI, h1, h2]
      go_enter Tryz.func192, Tryz.ntmps192
      go_wp2_with (go_at_call 230; refine (isNaN_int _ _).mono ?_; rintro e w' ⟨rfl, rfl⟩)
      go_ret
      rw [H.out]
      exact ⟨rfl, rfl⟩
    · have H : Hid (cmpI a b = 0) := by simp [Hid, cmpI, h1, h2]
      go_enter Tryz.func192, Tryz.ntmps192
      go_wp2_with (go_at_call 230; refine (isNaN_int _ _).mono ?_; rintro e w' ⟨rfl, rfl⟩)
      go_ret
      rw [H.out]
      exact ⟨rfl, rfl⟩
theorem st_compare (c s c' s' : Int) (w : World) :
    Calls Tryz.prog 140 #[.agg #[.int .i64 c, .int .i64 s], .agg #[.int .i64 c', .int .i64 s']] w fun e w' => e = .returned (.int .i64 (stCmp ⟨c, s⟩ ⟨c', s'⟩)) ∧ Only none_ w w' := by
  have O := Lib.hid (((Only.refl none_ w).alloc (.cells #[.int .i64 c, .int .i64 s] 80)).alloc (.cells #[.int .i64 c', .int .i64 s'] 80))
  obtain ⟨r, hr⟩ : ∃ r, cmpI c c' = r := ⟨_, rfl⟩
  have HR := Lib.hid hr
  by_cases h : c = c'
  · have hz : (r != 0) = false := by subst h hr; simp [cmpI]
    have H : Hid (stCmp ⟨c, s⟩ ⟨c', s'⟩ = cmpI s s') := by simp [Hid, stCmp, h]
    clear h hr
    go_enter Tryz.func140, Tryz.ntmps140
    go_wp2_with (first
      | (go_at_call 192; refine (cmp_int _ _ _).mono ?_; rintro e w' ⟨rfl, rfl⟩; first | rw [HR.out] | skip))
    go_ret
    rw [H.out]
    exact ⟨rfl, O.out⟩
  · have hz : (r != 0) = true := by
      have := mt (cmpI_zero c c').1 h
      rw [hr] at this
      simpa using this
    have H : Hid (stCmp ⟨c, s⟩ ⟨c', s'⟩ = r) := by simp [Hid, stCmp, h, hr]
    clear h hr
    go_enter Tryz.func140, Tryz.ntmps140
    go_wp2_with (first
      | (go_at_call 192; refine (cmp_int c c' _).mono ?_; rintro e w' ⟨rfl, rfl⟩; rw [HR.out]))
    go_ret
    rw [H.out]
    exact ⟨rfl, O.out⟩
end Go.Proofs.YtoohpcomnhfgpaaGreat
end
section
namespace Go.Proofs.YtoohpcomnhfgpaaGreat
open Go.RowKit
set_option linter.all false
set_option maxRecDepth 100000
theorem en_stamps (e : En) (w : World) :
    Calls Tryz.prog 191 #[.agg #[.string e.k, .string e.v, .bool e.d, .int .i64 e.s.c, .int .i64 e.s.s, .int .i64 e.a.c, .int .i64 e.a.s, .int .i64 e.p, .int .i64 e.g]] w fun E w' => E = .returned (.agg #[.int .i64 e.s.c, .int .i64 e.s.s, .int .i64 e.a.c, .int .i64 e.a.s]) ∧ Only none_ w w' := by
  have O := Lib.hid (((Only.refl none_ w).alloc (.cells #[.string e.k, .string e.v, .bool e.d, .int .i64 e.s.c, .int .i64 e.s.s, .int .i64 e.a.c, .int .i64 e.a.s, .int .i64 e.p, .int .i64 e.g] 82)).alloc (.cells #[.int .i64 e.s.c, .int .i64 e.s.s, .int .i64 e.a.c, .int .i64 e.a.s] 297))
  go_enter Tryz.func191, Tryz.ntmps191
  go_wp2_with fail
  exact bodyPost_ret (v := .agg #[.int .i64 e.s.c, .int .i64 e.s.s, .int .i64 e.a.c, .int .i64 e.a.s]) (by simp [results, Tryz.results191, go_sem]) rfl ⟨rfl, O.out⟩
theorem en_isCert (e : En) (w : World) :
    Calls Tryz.prog 141 #[.agg #[.string e.k, .string e.v, .bool e.d, .int .i64 e.s.c, .int .i64 e.s.s, .int .i64 e.a.c, .int .i64 e.a.s, .int .i64 e.p, .int .i64 e.g]] w fun E w' => E = .returned (.bool (enCert e)) ∧ Only none_ w w' := by
  have O := Lib.hid ((Only.refl none_ w).alloc (.cells #[.string e.k, .string e.v, .bool e.d, .int .i64 e.s.c, .int .i64 e.s.s, .int .i64 e.a.c, .int .i64 e.a.s, .int .i64 e.p, .int .i64 e.g] 82))
  have H : Hid (enCert e = (decide (1 ≤ e.p) && decide (e.p ≤ 4095) && decide (0 ≤ e.g) && decide (e.g ≤ 2147483647))) := rfl
  by_cases h1 : 1 ≤ e.p
  · by_cases h2 : e.p ≤ 4095
    · by_cases h3 : 0 ≤ e.g
      · have H2 : Hid (enCert e = decide (e.g ≤ 2147483647)) := by rw [Hid, H.out]; simp [h1, h2, h3]
        go_enter Tryz.func141, Tryz.ntmps141
        go_wp2
        go_ret
        rw [H2.out]
        exact ⟨rfl, O.out⟩
      · have H2 : Hid (enCert e = false) := by rw [Hid, H.out]; simp [h1, h2, h3]
        go_enter Tryz.func141, Tryz.ntmps141
        go_wp2
        go_ret
        rw [H2.out]
        exact ⟨rfl, O.out⟩
    · have H2 : Hid (enCert e = false) := by rw [Hid, H.out]; simp [h1, h2]
      go_enter Tryz.func141, Tryz.ntmps141
      go_wp2
      go_ret
      rw [H2.out]
      exact ⟨rfl, O.out⟩
  · have H2 : Hid (enCert e = false) := by rw [Hid, H.out]; simp [h1]
    go_enter Tryz.func141, Tryz.ntmps141
    go_wp2
    go_ret
    rw [H2.out]
    exact ⟨rfl, O.out⟩
theorem en_isLive (e : En) (w : World) :
    Calls Tryz.prog 142 #[.agg #[.string e.k, .string e.v, .bool e.d, .int .i64 e.s.c, .int .i64 e.s.s, .int .i64 e.a.c, .int .i64 e.a.s, .int .i64 e.p, .int .i64 e.g]] w fun E w' => E = .returned (.bool (enLive e)) ∧ Only none_ w w' := by
  have O := Lib.hid ((Only.refl none_ w).alloc (.cells #[.string e.k, .string e.v, .bool e.d, .int .i64 e.s.c, .int .i64 e.s.s, .int .i64 e.a.c, .int .i64 e.a.s, .int .i64 e.p, .int .i64 e.g] 82))
  have heq := fun w => eql_of (eq_api_stamp w e.a e.s 9998)
  have H : Hid (enLive e = (stEq e.a e.s && e.p == 0 && e.g == 0)) := rfl
  generalize stEq e.a e.s = b1 at *
  cases b1
  · have H2 : Hid (enLive e = false) := by rw [Hid, H.out]; simp
    go_enter Tryz.func142, Tryz.ntmps142
    go_wp2
    go_ret
    rw [H2.out]
    exact ⟨rfl, O.out⟩
  · cases h : e.p == 0
    · have H2 : Hid (enLive e = false) := by rw [Hid, H.out]; simp [h]
      go_enter Tryz.func142, Tryz.ntmps142
      go_wp2
      go_ret
      rw [H2.out]
      exact ⟨rfl, O.out⟩
    · have H2 : Hid (enLive e = (e.g == 0)) := by rw [Hid, H.out]; simp [h]
      go_enter Tryz.func142, Tryz.ntmps142
      go_wp2
      go_ret
      rw [H2.out]
      exact ⟨rfl, O.out⟩
theorem run_index_two (cs : Array Value) (a b c d : Value) (hcs : cs = #[a, b, c, d]) (w : World) :
    (Instr.index 297 (.agg cs) (.int .i64 0)).run Tryz.prog w = .ok (.agg #[a, b]) w ∧ (Instr.index 297 (.agg cs) (.int .i64 1)).run Tryz.prog w = .ok (.agg #[c, d]) w := by
  obtain ⟨i0, hi0, hz0⟩ : ∃ i0, Tryz.prog.info? 80 = some i0 ∧ i0.size = 2 := by
    have : (Tryz.prog.info? 80).map (·.size) = some 2 := by kernel_rfl
    cases h : Tryz.prog.info? 80 with
    | none => rw [h] at this; cases this
    | some i0 => rw [h] at this; simp at this; exact ⟨i0, rfl, this⟩
  subst hcs
  constructor <;> simp [Instr.index, asIntOf, run_underlying Tryz.underlying297, sizeOf, typeInfo, hi0, hz0, part, isAgg, run_underlying Tryz.underlying80]
set_option maxHeartbeats 800000 in
theorem en_stampsGood (e : En) (w : World) :
    Calls Tryz.prog 139 #[.agg #[.string e.k, .string e.v, .bool e.d, .int .i64 e.s.c, .int .i64 e.s.s, .int .i64 e.a.c, .int .i64 e.a.s, .int .i64 e.p, .int .i64 e.g]] w fun E w' => E = .returned (.bool (stGood e.s && stGood e.a)) ∧ Only none_ w w' := by
  have O := Lib.hid ((Only.refl none_ w).alloc (.cells #[.string e.k, .string e.v, .bool e.d, .int .i64 e.s.c, .int .i64 e.s.s, .int .i64 e.a.c, .int .i64 e.a.s, .int .i64 e.p, .int .i64 e.g] 82))
  have ix0 := fun w => (run_index_two _ _ _ _ _ (show #[.int .i64 e.s.c, .int .i64 e.s.s, .int .i64 e.a.c, .int .i64 e.a.s] = _ from rfl) w).1
  have ix1 := fun w => (run_index_two _ _ _ _ _ (show #[.int .i64 e.s.c, .int .i64 e.s.s, .int .i64 e.a.c, .int .i64 e.a.s] = _ from rfl) w).2
  obtain ⟨b1, hb1⟩ : ∃ b, stGood ⟨e.s.c, e.s.s⟩ = b := ⟨_, rfl⟩
  obtain ⟨b2, hb2⟩ : ∃ b, stGood ⟨e.a.c, e.a.s⟩ = b := ⟨_, rfl⟩
  have H : Hid ((stGood e.s && stGood e.a) = (b1 && b2)) := by rw [← hb1, ← hb2]; rfl
  have H1 := Lib.hid hb1
  have H2 := Lib.hid hb2
  clear hb1 hb2
  have tok : True := trivial
  cases b1
  · go_enter Tryz.func139, Tryz.ntmps139
    go_wp2_with (first
      | (go_at_call 191; refine (en_stamps _ _).mono ?_; rintro e w1 ⟨rfl, o1⟩; have O1 := Lib.hid (O.out.trans o1); clear o1))
    refine wp_loop_rounds 1 ?_
    rw [rounds_succ]
    go_wp2_with (first
      | (go_at_call 143; refine (st_good _ _ _).mono ?_; rintro e w2 ⟨rfl, o2⟩; rw [H1.out]; have O2 := Lib.hid ((O1.out.alloc (.cells #[.int .i64 e.s.c, .int .i64 e.s.s] 80)).trans o2)))
    go_ret
    rw [H.out]
    exact ⟨rfl, O2.out⟩
  · cases b2
    all_goals
      go_enter Tryz.func139, Tryz.ntmps139
      go_wp2_with (first
        | (go_at_call 191; refine (en_stamps _ _).mono ?_; rintro e w1 ⟨rfl, o1⟩; have O1 := Lib.hid (O.out.trans o1); clear o1))
      refine wp_loop_rounds 3 ?_
      rw [rounds_succ]
      go_wp2_with (first
        | (go_at_call 143; refine (st_good _ _ _).mono ?_; rintro e w2 ⟨rfl, o2⟩; rw [H1.out]; have O2 := Lib.hid ((O1.out.alloc (.cells #[.int .i64 e.s.c, .int .i64 e.s.s] 80)).trans o2); clear o2))
      rw [rounds_succ]
      go_wp2_with (first
        | (go_at_call 143; refine (st_good _ _ _).mono ?_; rintro e w3 ⟨rfl, o3⟩; rw [H2.out]; have O3 := Lib.hid ((O2.out.alloc (.cells #[.int .i64 e.a.c, .int .i64 e.a.s] 80)).trans o3); clear o3))
      try rw [rounds_succ]
      try go_wp2_with fail
      go_ret
      rw [H.out]
      exact ⟨rfl, O3.out⟩
end Go.Proofs.YtoohpcomnhfgpaaGreat
end
