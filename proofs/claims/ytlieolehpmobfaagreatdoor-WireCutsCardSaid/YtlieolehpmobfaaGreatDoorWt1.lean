/- Texts of mine, one behind the other: NdB, StM, Base, TbM, RcM, Byt, OctA, OctW, OctN. No statement of the seat is proved here. -/
import Derived.WalkKit
import Derived.Lib.Hide
import Derived.WalkSpells
import Derived.WalkLawsBesides
import Derived.Maps.AppendAt
import Derived.Deep.AppendLies
import Derived.Deep.Draws
import Derived.Laws.OwnMore
import Derived.Laws.Rows
import Derived.Laws.IdiomStrings
import Derived.Lib.Bytealg
import Derived.Lib.Strings
import Derived.Test.YtlieolehpmobfaaGreatDoorChecked
import Derived.Deep.RegionLaw
import Derived.Deep.LoopGhost
section
namespace Go.Proofs.YtlieolehpmobfaaGreatDoor
def nodeB (p : Int) : Bool := decide (0 ≤ p) && decide (p < 12)
end Go.Proofs.YtlieolehpmobfaaGreatDoor
end
section
namespace Go.Proofs.YtlieolehpmobfaaGreatDoor
structure St where
  c : Int
  s : Int
def stZero : St := ⟨0, 0⟩
def stSite (n : Int) : Bool := decide (0 ≤ n ∧ n ≤ 11)
def stGood (x : St) : Bool := decide (1 ≤ x.c ∧ x.c ≤ 4294967295) && stSite x.s
def cmpI (a b : Int) : Int := if a < b then -1 else if b < a then 1 else 0
def stCmp (x y : St) : Int := if x.c = y.c then cmpI x.s y.s else cmpI x.c y.c
def stLater (x y : St) : Bool := if x.c = y.c then decide (y.s < x.s) else decide (y.c < x.c)
theorem St.eq {x y : St} (h1 : x.c = y.c) (h2 : x.s = y.s) : x = y := by cases x; cases y; simp_all
theorem cmpI_pos (a b : Int) : 0 < cmpI a b ↔ b < a := by unfold cmpI; split <;> (try split) <;> omega
theorem cmpI_neg (a b : Int) : cmpI b a = - cmpI a b := by unfold cmpI; split <;> (try split) <;> (try split) <;> omega
theorem cmpI_zero (a b : Int) : cmpI a b = 0 ↔ a = b := by unfold cmpI; split <;> (try split) <;> omega
theorem stCmp_pos (x y : St) : 0 < stCmp x y ↔ stLater x y = true := by
  unfold stCmp stLater
  split
  · rw [cmpI_pos, decide_eq_true_eq]
  · rw [cmpI_pos, decide_eq_true_eq]
theorem stCmp_neg (x y : St) : stCmp y x = - stCmp x y := by
  unfold stCmp
  by_cases h : x.c = y.c
  · rw [if_pos h, if_pos h.symm, cmpI_neg]
  · rw [if_neg h, if_neg (fun e => h e.symm), cmpI_neg]
theorem later_def (x y : St) : stLater x y = true ↔ y.c < x.c ∨ (x.c = y.c ∧ y.s < x.s) := by
  unfold stLater
  split
  · next h => rw [decide_eq_true_eq]; omega
  · next h => rw [decide_eq_true_eq]; omega
theorem later_false (x y : St) : stLater x y = false ↔ ¬ (y.c < x.c ∨ (x.c = y.c ∧ y.s < x.s)) := by
  rw [← later_def]
  cases stLater x y <;> simp
theorem later_anti {x y : St} (h1 : stLater x y = false) (h2 : stLater y x = false) : x = y := by
  rw [later_false] at h1 h2
  exact St.eq (by omega) (by omega)
end Go.Proofs.YtlieolehpmobfaaGreatDoor
end
section
namespace Go.Proofs.YtlieolehpmobfaaGreatDoor
open Go.RowKit
structure Only (S : Nat → Prop) (w w' : World) : Prop where
  os : w'.os = w.os
  tape : w'.tape = w.tape
  output : w'.output = w.output
  size : w.heap.size ≤ w'.heap.size
  block : ∀ k, k < w.heap.size → ¬ S k → w'.heap[k]? = w.heap[k]?
def none_ : Nat → Prop := fun _ => False
def one (g : Nat) : Nat → Prop := fun k => k = g
theorem Only.refl (S : Nat → Prop) (w : World) : Only S w w := ⟨rfl, rfl, rfl, Nat.le_refl _, fun _ _ _ => rfl⟩
theorem Only.mono {S T : Nat → Prop} {w w' : World} (h : Only S w w') (k : ∀ g, g < w.heap.size → S g → T g) : Only T w w' :=
  ⟨h.os, h.tape, h.output, h.size, fun g hg hn => h.block g hg (fun hs => hn (k g hg hs))⟩
theorem Only.of_none {S : Nat → Prop} {w w' : World} (h : Only none_ w w') : Only S w w' := h.mono fun _ _ x => x.elim
theorem Only.trans' {S T : Nat → Prop} {a b c : World} (h : Only S a b) (k : Only T b c) (hT : ∀ g, g < a.heap.size → T g → S g) : Only S a c :=
  ⟨k.os.trans h.os, k.tape.trans h.tape, k.output.trans h.output, Nat.le_trans h.size k.size,
    fun i hi hn => (k.block i (Nat.lt_of_lt_of_le hi h.size) (fun ht => hn (hT i hi ht))).trans (h.block i hi hn)⟩
theorem Only.trans {S : Nat → Prop} {a b c : World} (h : Only S a b) (k : Only S b c) : Only S a c := h.trans' k fun _ _ x => x
theorem Only.drew {S : Nat → Prop} {a w : World} (h : Only S a w) : Only S a w.drew := ⟨h.os, h.tape, h.output, h.size, h.block⟩
theorem Only.drewN {S : Nat → Prop} {a w : World} (h : Only S a w) (n : Nat) : Only S a (w.drewN n) := ⟨h.os, h.tape, h.output, h.size, h.block⟩
theorem Only.alloc {S : Nat → Prop} {a w : World} (h : Only S a w) (o : Obj) : Only S a (w.alloc o) :=
  h.trans ⟨rfl, rfl, rfl, by simp, fun k hk _ => Below.heap_alloc _ _ _ hk⟩
theorem Only.setCell {S : Nat → Prop} {a w : World} (h : Only S a w) {p : Addr} (hp : S p.block ∨ a.heap.size ≤ p.block) (u : Value) : Only S a (w.setCell p u) :=
  ⟨h.os, h.tape, h.output, by simpa [World.setCell] using h.size, fun k hk hn => (Below.heap_setCell _ _ _ _ (by
    rintro rfl
    rcases hp with hp | hp
    · exact hn hp
    · omega)).trans (h.block k hk hn)⟩
theorem Only.setRow {S : Nat → Prop} {a w : World} (h : Only S a w) {g : Nat} (hp : S g ∨ a.heap.size ≤ g) (cs : Array Value) : Only S a (w.setRow g cs) :=
  ⟨h.os, h.tape, h.output, by simpa [World.setRow] using h.size, fun k hk hn => (setRow_other w g k cs (by
    rintro rfl
    rcases hp with hp | hp
    · exact hn hp
    · omega)).trans (h.block k hk hn)⟩
theorem Only.grown {S : Nat → Prop} {a w w' : World} {row : Option Nat} (h : Only S a w) (hg : w.grownBy w' row) (hr : ∀ k, row = some k → S k ∨ a.heap.size ≤ k) : Only S a w' :=
  ⟨hg.os.trans h.os, hg.tape.trans h.tape, hg.output.trans h.output, Nat.le_trans h.size hg.size,
    fun k hk hn => (hg.block k (Nat.lt_of_lt_of_le hk h.size) (fun e => by
      rcases hr k e.symm with h1 | h1
      · exact hn h1
      · omega)).trans (h.block k hk hn)⟩
theorem Only.below {S : Nat → Prop} {w w' : World} {B : Nat} (h : Only S w w') (hB : B ≤ w.heap.size) (hS : ∀ k, S k → B ≤ k) : Below B w w' :=
  ⟨h.os, h.tape, h.output, h.size, fun k hk => h.block k (by omega) (fun hs => by have := hS k hs; omega)⟩
theorem Only.cell {S : Nat → Prop} {w w' : World} (h : Only S w w') {p : Addr} (hp : p.block < w.heap.size) (hn : ¬ S p.block) : w'.cell? p = w.cell? p := World.cell?_of_block (h.block _ hp hn)
def Blk (w : World) (g : Nat) (t : TypeId) (cs : Array Value) : Prop := w.heap[g]? = some (.cells cs t (0, 0))
section
variable {w w' : World} {g : Nat} {t : TypeId} {cs : Array Value}
theorem Blk.lt (h : Blk w g t cs) : g < w.heap.size := by
  rcases Nat.lt_or_ge g w.heap.size with hlt | hge
  · exact hlt
  · unfold Blk at h; rw [Array.getElem?_eq_none hge] at h; cases h
theorem Blk.cell (h : Blk w g t cs) (i : Nat) : w.cell? ⟨g, i, none⟩ = cs[i]? := cell_of_row w g i cs t (0, 0) h
theorem Blk.cell_ (h : Blk w g t cs) {i : Nat} {u : Value} (hu : cs[i]? = some u) : w.cell? ⟨g, i, none⟩ = some u := (h.cell i).trans hu
theorem Blk.frozen (h : Blk w g t cs) (i : Nat) : w.frozen? ⟨g, i, none⟩ = false := by
  unfold Blk at h
  simp [World.frozen?, h]
theorem Blk.new (w : World) (t : TypeId) (cs : Array Value) : Blk (w.alloc (.cells cs t)) w.heap.size t cs := heap_alloc_new w _
theorem Blk.drew (h : Blk w g t cs) : Blk w.drew g t cs := h
theorem Blk.drewN (h : Blk w g t cs) (n : Nat) : Blk (w.drewN n) g t cs := h
theorem Blk.alloc (h : Blk w g t cs) (o : Obj) : Blk (w.alloc o) g t cs := (Below.heap_alloc w o g h.lt).trans h
theorem Blk.set_ (h : Blk w g t cs) (i : Nat) (u : Value) : Blk (w.setCell ⟨g, i, none⟩ u) g t (cs.setIfInBounds i u) := by
  unfold Blk at h ⊢
  simp [World.setCell, Array.getElem?_modify, h]
theorem Blk.setRow (h : Blk w g t cs) (cs' : Array Value) : Blk (w.setRow g cs') g t cs' := setRow_heap w g cs cs' t (0, 0) h
theorem Blk.far (h : Blk w g t cs) {p : Addr} (hp : g ≠ p.block) (u : Value) : Blk (w.setCell p u) g t cs := (Below.heap_setCell w p u g hp).trans h
theorem Blk.only {S : Nat → Prop} (h : Blk w g t cs) (ho : Only S w w') (hn : ¬ S g) : Blk w' g t cs := (ho.block g h.lt hn).trans h
theorem Blk.grown' {row : Option Nat} (h : Blk w g t cs) (hb : w.grownBy w' row) (hg : row ≠ some g) : Blk w' g t cs := (hb.block g h.lt (fun e => hg e.symm)).trans h
theorem Blk.ne_ {g' : Nat} {t' : TypeId} {cs' : Array Value} (h : Blk w g t cs) (h' : Blk w g' t' cs') (hne : t ≠ t') : g ≠ g' := by
  rintro rfl
  unfold Blk at h h'
  rw [h] at h'
  injection h' with h'
  injection h' with _ ht
  exact hne ht
theorem own_blk_ne {base : Nat} {e : TypeId} {size n : Nat} {v : Value} {xs : List Value} (h : w.ownsRow base e size v n xs) (hg : Blk w g t cs) (hne : e ≠ t) : v.ownBlock ≠ some g := by
  rcases h.2 with ⟨rfl, _⟩ | ⟨g', cap, cur, rfl, _, hh, _⟩
  · simp [Value.ownBlock]
  · intro he
    have : g' = g := by simpa [Value.ownBlock] using he
    subst this
    exact Blk.ne_ (t := e) hh hg hne rfl
end
theorem owns_only {w w' : World} {S : Nat → Prop} {base : Nat} {e : TypeId} {size n : Nat} {v : Value} {xs : List Value} (h : w.ownsRow base e size v n xs) (ho : Only S w w') (hn : ∀ g, v.ownBlock = some g → ¬ S g) : w'.ownsRow base e size v n xs := by
  refine ⟨h.1, ?_⟩
  rcases h.2 with h2 | ⟨g, cap, cur, rfl, hb, hh, r⟩
  · exact .inl h2
  · exact .inr ⟨g, cap, cur, rfl, hb, (ho.block g (Blk.lt (t := e) hh) (hn g (by simp [Value.ownBlock]))).trans hh, r⟩
theorem owns_base {w : World} {base base' : Nat} {e : TypeId} {size n : Nat} {v : Value} {xs : List Value} (h : w.ownsRow base e size v n xs) (hb : base' ≤ base) : w.ownsRow base' e size v n xs := by
  refine ⟨h.1, ?_⟩
  rcases h.2 with h2 | ⟨g, cap, cur, rfl, hg, r⟩
  · exact .inl h2
  · exact .inr ⟨g, cap, cur, rfl, by omega, r⟩
def byt (b : UInt8) : Value := .int .u8 (b.toNat : Int)
def byts (bs : List UInt8) : List Value := bs.map byt
@[simp] theorem byts_length (bs : List UInt8) : (byts bs).length = bs.length := by simp [byts]
theorem byts_append (a b : List UInt8) : byts (a ++ b) = byts a ++ byts b := by simp [byts]
theorem byts_oneCell (bs : List UInt8) : ∀ u ∈ byts bs, u.oneCell' = true := by
  intro u hu
  simp only [byts, List.mem_map] at hu
  obtain ⟨b, _, rfl⟩ := hu
  rfl
theorem byts_at {bs : List UInt8} {j : Nat} {u : Value} (h : (byts bs)[j]? = some u) : ∃ b, bs[j]? = some b ∧ u = byt b := by
  simp only [byts, List.getElem?_map, Option.map_eq_some_iff] at h
  obtain ⟨b, hb, rfl⟩ := h
  exact ⟨b, hb, rfl⟩
def Byt (w : World) (S : Nat → Prop) (v : Value) (bs : List UInt8) : Prop :=
  ∃ A c, v = .slice A bs.length c ∧ bs.length ≤ c ∧ c ≤ maxLen ∧ (A = none → c = 0) ∧
    (0 < bs.length → ∃ b off, A = some ⟨b, off, none⟩ ∧ S b ∧ b < w.heap.size ∧ ∀ j (hj : j < bs.length), w.cell? ⟨b, off + j, none⟩ = some (byt bs[j]))
section
variable {w w' : World} {S T : Nat → Prop} {v : Value} {bs : List UInt8}
theorem Byt.mono (h : Byt w S v bs) (hk : ∀ b, b < w.heap.size → S b → T b) : Byt w T v bs := by
  obtain ⟨A, c, rfl, h1, h2, h3, h4⟩ := h
  refine ⟨A, c, rfl, h1, h2, h3, fun hp => ?_⟩
  obtain ⟨b, off, rfl, hs, hlt, hc⟩ := h4 hp
  exact ⟨b, off, rfl, hk b hlt hs, hlt, hc⟩
theorem Byt.keep (h : Byt w S v bs) (hs : w.heap.size ≤ w'.heap.size) (hk : ∀ p : Addr, p.block < w.heap.size → S p.block → w'.cell? p = w.cell? p) : Byt w' S v bs := by
  obtain ⟨A, c, rfl, h1, h2, h3, h4⟩ := h
  refine ⟨A, c, rfl, h1, h2, h3, fun hp => ?_⟩
  obtain ⟨b, off, rfl, hS, hlt, hc⟩ := h4 hp
  exact ⟨b, off, rfl, hS, by omega, fun j hj => (hk _ hlt hS).trans (hc j hj)⟩
theorem Byt.only (h : Byt w S v bs) (ho : Only T w w') (hn : ∀ b, S b → ¬ T b) : Byt w' S v bs :=
  h.keep ho.size fun _ hp hs => ho.cell hp (hn _ hs)
theorem Byt.drew (h : Byt w S v bs) : Byt w.drew S v bs := h
theorem Byt.drewN (h : Byt w S v bs) (n : Nat) : Byt (w.drewN n) S v bs := h
theorem Byt.alloc (h : Byt w S v bs) (o : Obj) : Byt (w.alloc o) S v bs := h.only ((Only.refl none_ w).alloc o) fun _ _ x => x
theorem Byt.nil (w : World) (S : Nat → Prop) : Byt w S (.slice none 0 0) [] := ⟨none, 0, rfl, by simp, by simp [maxLen], fun _ => rfl, by simp⟩
theorem Byt.of_own {base : Nat} {e : TypeId} {n : Nat} (h : w.ownsRow base e 1 v n (byts bs)) : Byt w (fun b => v.ownBlock = some b) v bs := by
  have hl : bs.length = n := by have := h.1; simpa using this
  subst hl
  rcases h.2 with ⟨hv, hn⟩ | ⟨g, cap, cur, hv, hb, hh, hnc, hcm, hcs, ht⟩
  · have : bs = [] := List.eq_nil_of_length_eq_zero hn
    subst this hv
    exact Byt.nil w _
  · subst hv
    refine ⟨_, cap, rfl, hnc, hcm, by simp, fun hp => ⟨g, 0, rfl, by simp [Value.ownBlock], Blk.lt (t := e) hh, fun j hj => ?_⟩⟩
    have := h.cells (g := g) (by simp [Value.ownBlock]) j (byt bs[j]) (by simp [byts, hj])
    simpa [Addr.add] using (show w.cell? ((⟨g, 0, none⟩ : Addr).add j) = _ from this) |> fun h => by
      unfold Addr.add at h
      split at h
      · subst_vars; simpa using h
      · simpa using h
end
def Moved (w : World) (v v' : Value) : Prop := ∀ k, v'.ownBlock = some k → v.ownBlock = some k ∨ w.heap.size ≤ k
theorem Moved.refl (w : World) (v : Value) : Moved w v v := fun _ h => .inl h
theorem Moved.trans {a b : World} {u v x : Value} (h : Moved a u v) (k : Moved b v x) (hs : a.heap.size ≤ b.heap.size) : Moved a u x := fun g hg => by
  rcases k g hg with h1 | h1
  · exact h g h1
  · exact .inr (by omega)
section
variable {P : Program} (w : World)
theorem run_append_byt (base : Nat) (t ty e : TypeId) (i : TypeInfo) (z : Value) (ht : P.underlying t = some (.slice e)) (hi : P.info? e = some i) (hz : i.zero = some z)
    (hsize : i.size = 1) (hby : i.bytes = 1) (hzs : z.cells.size = 1) (v : Value) (xs : List UInt8) (hown : w.ownsRow base e 1 v xs.length (byts xs))
    (S : Nat → Prop) (A : Value) (ys : List UInt8) (hr : Byt w S A ys) (hbytes : xs.length + ys.length ≤ 140737488355328) (hbase : base ≤ w.heap.size) :
    ∃ v' w', (Builtin.append_ #[t, t] ty #[v, A]).run P w = .ok v' w' ∧ w'.ownsRow base e 1 v' (xs ++ ys).length (byts (xs ++ ys)) ∧ w.grownBy w' v.ownBlock ∧ Moved w v v' := by
  obtain ⟨B, c, rfl, h1, h2, h3, h4⟩ := hr
  rcases B with _ | ad
  · have hy : ys = [] := List.eq_nil_of_length_eq_zero (by have := h3 rfl; omega)
    subst hy
    refine ⟨v, w, ?_, by simpa using hown, ⟨rfl, rfl, rfl, Nat.le_refl _, fun _ _ _ => rfl⟩, Moved.refl _ _⟩
    rcases hown.2 with ⟨rfl, _⟩ | ⟨g, cap, cur, rfl, _, _, hnc, _⟩
    · simp [Builtin.append_, run_underlying ht, sizeOf, typeInfo, hi, Builtin.lenOf, Builtin.firstCells]
    · simp [Builtin.append_, run_underlying ht, sizeOf, typeInfo, hi, Builtin.lenOf, Builtin.firstCells, hnc, storeCells]
  · have hcells : ∀ j u, (byts ys)[j]? = some u → w.cell? (ad.add j) = some u := by
      intro j u hu
      obtain ⟨b, hb, rfl⟩ := byts_at hu
      have hj : j < ys.length := (List.getElem?_eq_some_iff.1 hb).1
      obtain ⟨g, off, e1, _, _, hc⟩ := h4 (by omega)
      injection e1 with e1
      subst e1
      have e2 : (⟨g, off, none⟩ : Addr).add j = ⟨g, off + j, none⟩ := by unfold Addr.add; split <;> simp_all
      have e3 : ys[j] = b := by rw [List.getElem?_eq_getElem hj] at hb; injection hb
      rw [e2, hc j hj, e3]
    obtain ⟨v', w', hrun, h5, h6, _, h7⟩ := run_append_own_at (P := P) w base t ty e i z 1 1 ht hi hz hsize hby hzs (by omega) v xs.length (byts xs) hown ad ys.length c (byts ys) (by simp) hcells (byts_oneCell ys) (by simp only [maxLen]; omega) (by omega) hbase
    refine ⟨v', w', hrun, by simpa [byts_append] using h5, h6, fun k hk => ?_⟩
    rcases h7 with h7 | h7
    · exact .inl (h7 ▸ hk)
    · rw [h7] at hk; injection hk with hk; exact .inr (by omega)
theorem wp_append_byt {o : Oper} {a : Act} {K : Act → World → Prop} {Q : Exit → Act → World → Prop} (s x : Operand) (t : TypeId)
    (ho : o.op = .call { callee := .builtin .append, args := #[s, x], argTypes := #[t, t] })
    (base : Nat) (e : TypeId) (i : TypeInfo) (z : Value) (ht : P.underlying t = some (.slice e)) (hi : P.info? e = some i) (hz : i.zero = some z)
    (hsize : i.size = 1) (hby : i.bytes = 1) (hzs : z.cells.size = 1) (v : Value) (xs : List UInt8) (hs : a.eval s = v) (hown : w.ownsRow base e 1 v xs.length (byts xs))
    (S : Nat → Prop) (A : Value) (ys : List UInt8) (hx : a.eval x = A) (hr : Byt w S A ys) (hbytes : xs.length + ys.length ≤ 140737488355328) (hbase : base ≤ w.heap.size)
    (h : ∀ A' n' c' w', w'.ownsRow base e 1 (.slice A' n' c') (xs ++ ys).length (byts (xs ++ ys)) → w.grownBy w' v.ownBlock → Moved w v (.slice A' n' c') → K (a.put o.dst (.slice A' n' c')) w') : o.wp P a w K Q := by
  obtain ⟨v', w', hrun, h2, h3, h4⟩ := run_append_byt (P := P) w base t o.type e i z ht hi hz hsize hby hzs v xs hown S A ys hr hbytes hbase
  unfold Oper.wp execOp
  simp only [ho, resolve, invoke, builtin, Sem.run_bind, Sem.run_pure, Result.andThen_ok, List.map_toArray, List.map_cons, List.map_nil, hs, hx, hrun]
  obtain ⟨A', n', c', rfl⟩ : ∃ A' n' c', v' = .slice A' n' c' := by
    rcases h2.2 with ⟨rfl, _⟩ | ⟨_, _, _, rfl, _⟩ <;> exact ⟨_, _, _, rfl⟩
  exact h A' n' c' w' h2 h3 h4
theorem wpList_append_byt {ops : Array Oper} {rest : List Oper} {o : Oper} {a : Act} {Q : Exit → Act → World → Prop} (hgd : o.guard = none) (s x : Operand) (t : TypeId)
    (ho : o.op = .call { callee := .builtin .append, args := #[s, x], argTypes := #[t, t] })
    (base : Nat) (e : TypeId) (i : TypeInfo) (z : Value) (ht : P.underlying t = some (.slice e)) (hi : P.info? e = some i) (hz : i.zero = some z)
    (hsize : i.size = 1) (hby : i.bytes = 1) (hzs : z.cells.size = 1) (v : Value) (xs : List UInt8) (hs : a.eval s = v) (hown : w.ownsRow base e 1 v xs.length (byts xs))
    (S : Nat → Prop) (A : Value) (ys : List UInt8) (hx : a.eval x = A) (hr : Byt w S A ys) (hbytes : xs.length + ys.length ≤ 140737488355328) (hbase : base ≤ w.heap.size)
    (h : ∀ A' n' c' w', w'.ownsRow base e 1 (.slice A' n' c') (xs ++ ys).length (byts (xs ++ ys)) → w.grownBy w' v.ownBlock → Moved w v (.slice A' n' c') → wpList P ops Q rest (a.put o.dst (.slice A' n' c')) w') : wpList P ops Q (o :: rest) a w :=
  wpList_plain hgd fun _ hK => wp_append_byt w s x t ho base e i z ht hi hz hsize hby hzs v xs hs hown S A ys hx hr hbytes hbase fun A' n' c' w' h2 h3 h4 => hK _ _ (h A' n' c' w' h2 h3 h4)
end
def ownb (v : Value) : Nat → Prop := fun k => v.ownBlock = some k
end Go.Proofs.YtlieolehpmobfaaGreatDoor
end
section
namespace Go.Proofs.YtlieolehpmobfaaGreatDoor
open Go.RowKit
set_option linter.all false
def lt_ (a b : ByteArray) : Bool := Op.bytesLess a.data.toList b.data.toList
theorem less_cmp : ∀ a b : List UInt8, (Op.bytesLess a b = decide (Lib.compareBytes a b < 0)) ∧ (Lib.compareBytes a b = 0 → a = b) ∧ (Lib.compareBytes b a = - Lib.compareBytes a b) ∧ (-1 ≤ Lib.compareBytes a b ∧ Lib.compareBytes a b ≤ 1)
  | [], [] => by simp [Op.bytesLess, Lib.compareBytes]
  | _ :: _, [] => by simp [Op.bytesLess, Lib.compareBytes]
  | [], _ :: _ => by simp [Op.bytesLess, Lib.compareBytes]
  | a :: x, b :: y => by
    obtain ⟨h1, h2, h3, h4⟩ := less_cmp x y
    unfold Op.bytesLess Lib.compareBytes
    rw [h1]
    by_cases hab : a = b
    · subst hab
      have hlt : ¬ a < a := UInt8.lt_irrefl a
      simp only [hlt, decide_false, Bool.false_or, beq_self_eq_true, Bool.true_and, if_false]
      exact ⟨trivial, fun h => by rw [h2 h], h3, h4⟩
    · by_cases hlt : a < b
      · have h5 : ¬ b < a := fun h => UInt8.lt_irrefl a (UInt8.lt_trans hlt h)
        simp [hlt, h5]
      · have h5 : b < a := UInt8.lt_of_le_of_ne (UInt8.not_lt.1 hlt) (Ne.symm hab)
        simp [hlt, h5, hab]
theorem less_trans : ∀ a b c : List UInt8, Op.bytesLess a b = true → Op.bytesLess b c = true → Op.bytesLess a c = true
  | _, [], _ => fun h => by cases ‹List UInt8› <;> simp [Op.bytesLess] at h
  | _, _ :: _, [] => fun _ h => by simp [Op.bytesLess] at h
  | [], _ :: _, _ :: _ => fun _ _ => by simp [Op.bytesLess]
  | a :: x, b :: y, c :: z => fun h k => by
    unfold Op.bytesLess at h k ⊢
    simp only [Bool.or_eq_true, decide_eq_true_eq, Bool.and_eq_true, beq_iff_eq] at h k ⊢
    rcases h with h | ⟨rfl, h⟩
    · rcases k with k | ⟨rfl, k⟩
      · exact .inl (UInt8.lt_trans h k)
      · exact .inl h
    · rcases k with k | ⟨rfl, k⟩
      · exact .inl k
      · exact .inr ⟨rfl, less_trans x y z h k⟩
theorem lt_cmp (a b : ByteArray) : lt_ a b = decide (Lib.compareBytes a.data.toList b.data.toList < 0) := (less_cmp _ _).1
theorem lt_tr {a b c : ByteArray} (h : lt_ a b = true) (k : lt_ b c = true) : lt_ a c = true := less_trans _ _ _ h k
theorem key_ext {a b : ByteArray} (h : a.data.toList = b.data.toList) : a = b := by
  obtain ⟨⟨a⟩⟩ := a
  obtain ⟨⟨b⟩⟩ := b
  simpa using h
theorem lt_tri {a b : ByteArray} (h : lt_ a b = false) (k : lt_ b a = false) : a = b := by
  obtain ⟨h1, h2, h3, h4⟩ := less_cmp a.data.toList b.data.toList
  rw [lt_cmp] at h k
  rw [h3] at k
  have h5 : Lib.compareBytes a.data.toList b.data.toList = 0 := by
    have e1 := of_decide_eq_false h
    have e2 := of_decide_eq_false k
    omega
  exact key_ext (h2 h5)
structure Pr (α : Type) where
  k : ByteArray
  v : α
section
variable {α : Type}
def has (l : List (Pr α)) (x : ByteArray) : Bool := l.any fun p => decide (p.k = x)
end
end Go.Proofs.YtlieolehpmobfaaGreatDoor
end
section
namespace Go.Proofs.YtlieolehpmobfaaGreatDoor
open Go.RowKit
set_option linter.all false
structure Mk where
  a : St
  k : ByteArray
def noKey : ByteArray := ⟨#[]⟩
def mkTop : Mk := ⟨stZero, noKey⟩
def stSame (x y : St) : Bool := decide (x.c = y.c) && decide (x.s = y.s)
theorem stSame_iff (x y : St) : stSame x y = true ↔ x = y := by
  simp only [stSame, Bool.and_eq_true, decide_eq_true_eq]
  exact ⟨fun h => St.eq h.1 h.2, fun h => by subst h; exact ⟨rfl, rfl⟩⟩
def mkLater (x y : Mk) : Bool := if stSame x.a y.a then lt_ y.k x.k else stLater x.a y.a
theorem Mk.eq {x y : Mk} (h1 : x.a = y.a) (h2 : x.k = y.k) : x = y := by cases x; cases y; simp_all
theorem st_irr (x : St) : stLater x x = false := (later_false x x).2 (by omega)
theorem st_tr {x y z : St} (h : stLater x y = true) (k : stLater y z = true) : stLater x z = true := by
  rw [later_def] at h k ⊢; omega
theorem later_def2 (x y : Mk) : mkLater x y = true ↔ stLater x.a y.a = true ∨ (x.a = y.a ∧ lt_ y.k x.k = true) := by
  unfold mkLater
  by_cases h : x.a = y.a
  · rw [if_pos ((stSame_iff _ _).2 h)]
    exact ⟨fun e => .inr ⟨h, e⟩, fun e => e.elim (fun e => by rw [h, st_irr] at e; cases e) (fun e => e.2)⟩
  · rw [if_neg (fun e => h ((stSame_iff _ _).1 e))]
    exact ⟨fun e => .inl e, fun e => e.elim id (fun e => absurd e.1 h)⟩
theorem later_tr {x y z : Mk} (h : mkLater x y = true) (k : mkLater y z = true) : mkLater x z = true := by
  rw [later_def2] at h k ⊢
  rcases h with h | ⟨h, h'⟩
  · rcases k with k | ⟨k, k'⟩
    · exact .inl (st_tr h k)
    · exact .inl (k ▸ h)
  · rcases k with k | ⟨k, k'⟩
    · exact .inl (h ▸ k)
    · exact .inr ⟨h.trans k, lt_tr k' h'⟩
theorem later_tri {x y : Mk} (h : mkLater x y = false) (k : mkLater y x = false) : x = y := by
  have h1 : ¬ (stLater x.a y.a = true ∨ (x.a = y.a ∧ lt_ y.k x.k = true)) := fun e => by rw [(later_def2 x y).2 e] at h; cases h
  have h2 : ¬ (stLater y.a x.a = true ∨ (y.a = x.a ∧ lt_ x.k y.k = true)) := fun e => by rw [(later_def2 y x).2 e] at k; cases k
  have ea : x.a = y.a := later_anti (by simpa using fun e => h1 (.inl e)) (by simpa using fun e => h2 (.inl e))
  refine Mk.eq ea (lt_tri ?_ ?_)
  · cases e : lt_ x.k y.k with
    | false => rfl
    | true => exact absurd (.inr ⟨ea.symm, e⟩) h2
  · cases e : lt_ y.k x.k with
    | false => rfl
    | true => exact absurd (.inr ⟨ea, e⟩) h1
def Desc (l : List Mk) : Prop := l.Pairwise fun x y => mkLater x y = true
def Keys_ (l : List Mk) : Prop := l.Pairwise fun x y => x.k ≠ y.k
def dropM (l : List Mk) (k : ByteArray) : List Mk := l.filter fun x => !decide (x.k = k)
theorem drop_sub (l : List Mk) (k : ByteArray) : (dropM l k).Sublist l := List.filter_sublist
theorem drop_gone (l : List Mk) (k : ByteArray) : ∀ x ∈ dropM l k, x.k ≠ k := fun x hx => by simpa using (List.mem_filter.1 hx).2
def insM (m : Mk) : List Mk → List Mk
  | [] => [m]
  | x :: r => if mkLater m x = true then m :: x :: r else x :: insM m r
def putM (l : List Mk) (m : Mk) : List Mk := insM m (dropM l m.k)
theorem ins_mem (m : Mk) : ∀ (l : List Mk) (y : Mk), y ∈ insM m l ↔ y = m ∨ y ∈ l
  | [], y => by simp [insM]
  | x :: r, y => by
    unfold insM; split
    · simp
    · simp only [List.mem_cons, ins_mem m r y]; constructor
      · rintro (h | h | h)
        · exact .inr (.inl h)
        · exact .inl h
        · exact .inr (.inr h)
      · rintro (h | h | h)
        · exact .inr (.inl h)
        · exact .inl h
        · exact .inr (.inr h)
structure Ixl (l : List Mk) : Prop where
  ds : Desc l
  ks : Keys_ l
theorem Ixl.drop {l : List Mk} (h : Ixl l) (k : ByteArray) : Ixl (dropM l k) := ⟨h.ds.sublist (drop_sub l k), h.ks.sublist (drop_sub l k)⟩
theorem desc_ins {l : List Mk} (h : Desc l) (m : Mk) (hm : m ∉ l) : Desc (insM m l) := by
  induction l with
  | nil => exact List.pairwise_singleton _ _
  | cons p l ih =>
    have h' := List.pairwise_cons.1 h
    unfold insM
    by_cases hp : mkLater m p = true
    · rw [if_pos hp]
      exact List.pairwise_cons.2 ⟨fun q hq => by
        rcases List.mem_cons.1 hq with rfl | hq
        · exact hp
        · exact later_tr hp (h'.1 q hq), h⟩
    · rw [if_neg hp]
      refine List.pairwise_cons.2 ⟨fun q hq => ?_, ih h'.2 (fun e => hm (List.mem_cons_of_mem _ e))⟩
      rcases (ins_mem m l q).1 hq with rfl | hq
      · cases e : mkLater p q with
        | true => rfl
        | false => exact absurd (later_tri (by simpa using hp) e) (fun e => hm (by rw [e]; exact List.mem_cons_self))
      · exact h'.1 q hq
theorem keys_ins {l : List Mk} (h : Keys_ l) (m : Mk) (hm : ∀ x ∈ l, x.k ≠ m.k) : Keys_ (insM m l) := by
  induction l with
  | nil => exact List.pairwise_singleton _ _
  | cons p l ih =>
    have h' := List.pairwise_cons.1 h
    unfold insM
    by_cases hp : mkLater m p = true
    · rw [if_pos hp]
      exact List.pairwise_cons.2 ⟨fun q hq e => hm q hq e.symm, h⟩
    · rw [if_neg hp]
      refine List.pairwise_cons.2 ⟨fun q hq => ?_, ih h'.2 (fun x hx => hm x (List.mem_cons_of_mem _ hx))⟩
      rcases (ins_mem m l q).1 hq with rfl | hq
      · exact hm p List.mem_cons_self
      · exact h'.1 q hq
theorem Ixl.ins {l : List Mk} (h : Ixl l) (m : Mk) (hm : ∀ x ∈ l, x.k ≠ m.k) : Ixl (insM m l) :=
  ⟨desc_ins h.ds m (fun e => hm m e rfl), keys_ins h.ks m hm⟩
theorem Ixl.put {l : List Mk} (h : Ixl l) (m : Mk) : Ixl (putM l m) := (h.drop m.k).ins m (drop_gone l m.k)
def isTop (m : Mk) : Bool := stSame m.a stZero && decide (m.k = noKey)
end Go.Proofs.YtlieolehpmobfaaGreatDoor
end
section
namespace Go.Proofs.YtlieolehpmobfaaGreatDoor
open Go.RowKit
theorem u8_info : (Tryz.prog.info? 5).map (fun i => (i.zero, i.size, i.bytes)) = some (some (.int .u8 0), 1, 1) := by kernel_rfl
section
variable {P : Program} {t e : TypeId} {i : TypeInfo} {w : World} {S : Nat → Prop} {A : Option Addr} {c L : Nat} {bs : List UInt8}
theorem byt_hi (ht : P.underlying t = some (.slice e)) (hi : P.info? e = some i) (h : Byt w S (.slice A L c) bs) (n : Nat) (hn : n ≤ L) (z : Int) (hzn : z = n) :
    ∃ A1, (∀ w', (Instr.sliceAt t (.slice A L c) none (some (.int .i64 z)) none).run P w' = .ok (.slice A1 n c) w') ∧ Byt w S (.slice A1 n c) (bs.take n) := by
  subst hzn
  obtain ⟨A', c', he, h1, h2, h3, h4⟩ := h
  injection he with e1 e2 e3
  subst e1 e2 e3
  refine ⟨if c = 0 then A else A.map (·.add (0 * 1)), fun w' => ?_, ?_⟩
  · have hc : (n : Int) ≤ (c : Int) := by omega
    simp [Instr.sliceAt, Instr.slice, run_underlying ht, Instr.sliceBounds, run_sliceBound, sizeOf, typeInfo, hi, hc]
  · have hl : (bs.take n).length = n := by simp; omega
    refine ⟨_, c, by rw [hl], by omega, h2, fun hA => h3 ?_, fun hp => ?_⟩
    · split at hA
      · exact hA
      · cases A with
        | none => rfl
        | some a => simp at hA
    · obtain ⟨b, off, rfl, hs, hlt, hc⟩ := h4 (by omega)
      rw [if_neg (by omega)]
      refine ⟨b, off, by simp [Addr.add], hs, hlt, fun j hj => ?_⟩
      rw [hc j (by omega)]
      simp
theorem byt_lo (ht : P.underlying t = some (.slice e)) (hi : P.info? e = some i) (hz : i.size = 1) (h : Byt w S (.slice A L c) bs) (n : Nat) (hn : n ≤ L) (z : Int) (hzn : z = n) :
    ∃ A1 L1 c1, (∀ w', (Instr.sliceAt t (.slice A L c) (some (.int .i64 z)) none none).run P w' = .ok (.slice A1 L1 c1) w') ∧ Byt w S (.slice A1 L1 c1) (bs.drop n) := by
  subst hzn
  obtain ⟨A', c', he, h1, h2, h3, h4⟩ := h
  injection he with e1 e2 e3
  subst e1 e2 e3
  refine ⟨if c = n then A else A.map (·.add (n * 1)), bs.length - n, c - n, fun w' => ?_, ?_⟩
  · have hc : (n : Int) ≤ (bs.length : Int) := by omega
    simp [Instr.sliceAt, Instr.slice, run_underlying ht, Instr.sliceBounds, run_sliceBound, sizeOf, typeInfo, hi, hz, hc]
  · have hl : (bs.drop n).length = bs.length - n := by simp
    refine ⟨_, c - n, by rw [hl], by omega, by omega, fun hA => ?_, fun hp => ?_⟩
    · have : A = none := by
        split at hA
        · exact hA
        · cases A with
          | none => rfl
          | some a => simp at hA
      have := h3 this
      omega
    · obtain ⟨b, off, rfl, hs, hlt, hc⟩ := h4 (by omega)
      rw [if_neg (by omega)]
      refine ⟨b, off + n, by simp [Addr.add], hs, hlt, fun j hj => ?_⟩
      rw [Nat.add_assoc, hc (n + j) (by omega)]
      simp
end
section
variable {P : Program} {t e : TypeId} {i : TypeInfo} {w : World} {S : Nat → Prop} {A : Option Addr} {c L : Nat} {bs : List UInt8}
end
theorem run_bytes_string (w : World) (S : Nat → Prop) (x : Value) (bs : List UInt8) (h : Byt w S x bs) : (convert 35 9 x).run Tryz.prog w = .ok (.string ⟨bs.toArray⟩) w := by
  obtain ⟨A, c, rfl, h1, h2, h3, h4⟩ := h
  rcases A with _ | ad
  · have hn : bs = [] := List.eq_nil_of_length_eq_zero (by have := h3 rfl; omega)
    subst hn
    exact run_convert_bytes_nil w 35 5 Tryz.underlying35 Tryz.underlying5 _ _ _ Tryz.underlying9
  · refine run_convert_bytes_back w 35 9 5 ad c bs Tryz.underlying35 Tryz.underlying5 Tryz.underlying9 fun j hj => ?_
    obtain ⟨g, off, e1, _, _, hc⟩ := h4 (by omega)
    injection e1 with e1
    subst e1
    have e2 : (⟨g, off, none⟩ : Addr).add j = ⟨g, off + j, none⟩ := by unfold Addr.add; split <;> simp_all
    rw [e2, hc j hj]; rfl
end Go.Proofs.YtlieolehpmobfaaGreatDoor
end
section
namespace Go.Proofs.YtlieolehpmobfaaGreatDoor
open Go.RowKit
set_option linter.all false
def first_ (c e : Int) : Int := if c = 0 then e else c
theorem fault_err (g : Nat) (t : TypeId) (cs : Array Value) (c : Int) (w : World) (h : Blk w g t cs) (h0 : cs[0]? = some (.int .i64 c)) :
    Calls Tryz.prog 148 #[.pointer (some ⟨g, 0, none⟩)] w fun e w' => e = .returned (.int .i64 c) ∧ w = w' := by
  have hc := h.cell_ h0
  clear h h0
  go_enter Tryz.func148, Tryz.ntmps148
  go_wp2
  go_ret
  exact ⟨rfl, rfl⟩
theorem fault_fail (g : Nat) (t : TypeId) (cs : Array Value) (c k : Int) (w : World) (h : Blk w g t cs) (h0 : cs[0]? = some (.int .i64 c)) :
    Calls Tryz.prog 177 #[.pointer (some ⟨g, 0, none⟩), .int .i64 k] w fun e w' => e = .returned (.tuple #[]) ∧ Blk w' g t (cs.setIfInBounds 0 (.int .i64 (first_ c k))) ∧ Only (one g) w w' := by
  have hc := h.cell_ h0
  have hf := h.frozen 0
  have hB := Lib.hid h
  have hs : Hid (cs.setIfInBounds 0 (.int .i64 c) = cs) := by
    apply Array.ext_getElem?
    intro i
    rw [Array.getElem?_setIfInBounds]
    split
    · next hi => subst hi; split
                 · exact h0.symm
                 · next hi => rw [Array.getElem?_eq_none (by omega)]
    · rfl
  clear h h0
  by_cases h1 : c = 0
  · have h2 : (c == 0) = true := by simp [h1]
    have h3 : Hid (first_ c k = k) := by simp [Hid, first_, h1]
    clear h1
    go_enter Tryz.func177, Tryz.ntmps177
    go_wp2
    go_end0
    refine ⟨rfl, ?_, (Only.refl (one g) w).setCell (.inl (show one g g from rfl)) _⟩
    rw [h3.out]
    exact hB.out.set_ 0 _
  · have h2 : (c == 0) = false := by simp [h1]
    have h3 : Hid (first_ c k = c) := by simp [Hid, first_, h1]
    clear h1
    go_enter Tryz.func177, Tryz.ntmps177
    go_wp2
    go_end0
    refine ⟨rfl, ?_, Only.refl _ _⟩
    rw [h3.out, hs.out]
    exact hB.out
def isW (n : Int) : Bool := decide (1 ≤ n ∧ n ≤ 8)
theorem isWidth_any (n : Int) (w : World) :
    Calls Tryz.prog 229 #[.int .i64 n] w fun e w' => e = .returned (.bool (isW n)) ∧ w = w' := by
  by_cases h1 : 1 ≤ n
  · by_cases h2 : n ≤ 8
    · have H : Hid (isW n = true) := by simp [Hid, isW, h1, h2]
      go_enter Tryz.func229, Tryz.ntmps229
      go_wp2
      go_ret
      rw [H.out]
      exact ⟨rfl, rfl⟩
    · have H : Hid (isW n = false) := by simp [Hid, isW, h2]
      go_enter Tryz.func229, Tryz.ntmps229
      go_wp2
      go_ret
      rw [H.out]
      exact ⟨rfl, rfl⟩
  · have H : Hid (isW n = false) := by simp [Hid, isW, h1]
    go_enter Tryz.func229, Tryz.ntmps229
    go_wp2
    go_ret
    rw [H.out]
    exact ⟨rfl, rfl⟩
end Go.Proofs.YtlieolehpmobfaaGreatDoor
end
section
namespace Go.Proofs.YtlieolehpmobfaaGreatDoor
open Go.RowKit
set_option linter.all false
def Wr (w : World) (g base : Nat) (code : Int) (v : Value) (bs : List UInt8) : Prop :=
  Blk w g 131 #[.int .i64 code, v] ∧ w.ownsRow base 5 1 v bs.length (byts bs)
theorem Wr.c0 {w : World} {g base : Nat} {code : Int} {v : Value} {bs : List UInt8} (h : Wr w g base code v bs) : w.cell? ⟨g, 0, none⟩ = some (.int .i64 code) := h.1.cell_ (i := 0) rfl
theorem Wr.c1 {w : World} {g base : Nat} {code : Int} {v : Value} {bs : List UInt8} (h : Wr w g base code v bs) : w.cell? ⟨g, 1, none⟩ = some v := h.1.cell_ (i := 1) rfl
theorem Wr.app {w w' : World} {g base : Nat} {code : Int} {v : Value} {bs : List UInt8} (h : Wr w g base code v bs) (hg : w.grownBy w' v.ownBlock) : Blk w' g 131 #[.int .i64 code, v] :=
  h.1.grown' hg (own_blk_ne h.2 h.1 (by decide))
def foot (g : Nat) (v : Value) : Nat → Prop := fun k => k = g ∨ v.ownBlock = some k
def Parts (w : World) (S : Nat → Prop) (pv : Value) (pss : List (List UInt8)) : Prop :=
  ∃ b off c, pv = .slice (some ⟨b, off, none⟩) pss.length c ∧ b < w.heap.size ∧ S b ∧ ∀ j (hj : j < pss.length), ∃ x, w.cell? ⟨b, off + j, none⟩ = some x ∧ Byt w S x pss[j]
theorem writer_err (g base : Nat) (code : Int) (v : Value) (bs : List UInt8) (w : World) (h : Wr w g base code v bs) :
    Calls Tryz.prog 63 #[.pointer (some ⟨g, 0, none⟩)] w fun e w' => e = .returned (.int .i64 code) ∧ w = w' := by
  have H := Lib.hid h.1
  clear h
  go_enter Tryz.func63, Tryz.ntmps63
  go_wp2_with (go_at_call 148; refine (fault_err _ _ _ _ _ H.out rfl).mono ?_; rintro e w' ⟨rfl, rfl⟩)
  go_ret
  exact ⟨rfl, rfl⟩
theorem flat_snoc (pss : List (List UInt8)) (k : Nat) (hk : k < pss.length) : (pss.take (k + 1)).flatten = (pss.take k).flatten ++ pss[k] := by
  rw [List.take_succ_eq_append_getElem hk, List.flatten_append]; rw [List.flatten_singleton]
theorem flat_le (pss : List (List UInt8)) (k : Nat) : (pss.take k).flatten.length ≤ pss.flatten.length := by
  conv => rhs; rw [← List.take_append_drop k pss]
  rw [List.flatten_append, List.length_append]; omega
set_option maxHeartbeats 400000 in
theorem writer_raw_ok (g base : Nat) (v pv : Value) (bs : List UInt8) (pss : List (List UInt8)) (S : Nat → Prop) (w : World) (h : Wr w g base 0 v bs) (hp : Parts w S pv pss)
    (hS : ∀ b, S b → ¬ foot g v b) (hb : bs.length + pss.flatten.length ≤ 140737488355328) (hbase : base ≤ w.heap.size) (hpl : pss.length ≤ 1000) :
    Calls Tryz.prog 231 #[.pointer (some ⟨g, 0, none⟩), pv] w fun e w' => e = .returned (.pointer (some ⟨g, 0, none⟩)) ∧
      ∃ v', Wr w' g base 0 v' (bs ++ pss.flatten) ∧ Only (foot g v) w w' ∧ Moved w v v' := by
  obtain ⟨i0, hi0, hz0, hz1, hz2⟩ := info_parts u8_info
  obtain ⟨b, off, c, rfl, hlt, hSb, hcs⟩ := hp
  have H := Lib.hid h
  have HS := Lib.hid hS
  have HC := Lib.hid hcs
  clear h hS hcs
  go_enter Tryz.func231, Tryz.ntmps231
  go_wp2_with (go_at_call 63; refine (writer_err _ _ _ _ _ _ H.out).mono ?_; rintro e w' ⟨rfl, rfl⟩)
  go_loopw [13] (fun i wr => ∃ k : Nat, k ≤ pss.length ∧ i = .int .i64 k ∧ ∃ v', Wr wr g base 0 v' (bs ++ (pss.take k).flatten) ∧ Only (foot g v) w wr ∧ Moved w v v') (fun i _ => pss.length - (intOf i).toNat)
  case atStart => exact ⟨0, Nat.zero_le _, rfl, v, by simpa using H.out, Only.refl _ _, Moved.refl _ _⟩
  case round =>
    obtain ⟨k, hk, rfl, v1, h1, ho, hm⟩ := hrel
    by_cases hlt2 : k < pss.length
    · obtain ⟨x, hcx, hbx⟩ := HC.out k hlt2
      have hx1 : wr.cell? ⟨b, off + k, none⟩ = some x := (ho.cell hlt (HS.out b hSb)).trans hcx
      have hpc := h1.c1
      have hpf := h1.1.frozen 1
      have hbx1 : Byt wr S x pss[k] := hbx.only ho HS.out
      have H1 := Lib.hid h1
      have HO := Lib.hid ho
      have HB := Lib.hid hbx1
      have hfl : Hid ((pss.take (k + 1)).flatten = (pss.take k).flatten ++ pss[k]) := flat_snoc pss k hlt2
      have hle : (bs ++ (pss.take k).flatten).length + pss[k].length ≤ 140737488355328 := by
        have := flat_le pss (k + 1)
        rw [hfl.out] at this
        simp only [List.length_append] at this ⊢
        omega
      clear h1 ho hbx1 hcx hbx
      go_wp2_with (first
        | (at_builtin; refine wpList_append_byt _ rfl (.tmp 21) (.tmp 22) _ rfl base 5 i0 (.int .u8 0) Tryz.underlying35 hi0 hz0 hz1 hz2 rfl v1 _ rfl H1.out.2 S x pss[k] rfl HB.out hle (Nat.le_trans hbase HO.out.size) ?_; intro A2 n2 c2 w2 hown2 hgrow2 hmv2; have hpc2 : w2.cell? ⟨g, 1, none⟩ = some v1 := (H1.out.app hgrow2).cell_ rfl; have hpf2 := (H1.out.app hgrow2).frozen 1))
      have hW : Wr (w2.setCell ⟨g, 1, none⟩ (.slice A2 n2 c2)) g base 0 (.slice A2 n2 c2) (bs ++ (pss.take (k + 1)).flatten) := by
        refine ⟨(H1.out.app hgrow2).set_ 1 _, ?_⟩
        rw [hfl.out, ← List.append_assoc]
        exact owns_only hown2 ((Only.refl (one g) w2).setCell (.inl (show one g g from rfl)) _) (fun b hb hg => own_blk_ne hown2 (H1.out.app hgrow2) (by decide) (by rw [hb]; exact congrArg some hg))
      have hO : Only (foot g v) w (w2.setCell ⟨g, 1, none⟩ (.slice A2 n2 c2)) := (HO.out.grown hgrow2 (fun b hb => (hm b hb).imp .inr id)).setCell (.inl (.inl rfl)) _
      have hM : Moved w v (.slice A2 n2 c2) := hm.trans hmv2 HO.out.size
      go_roundw
      case rel => exact ⟨k + 1, by omega, by go_num, _, hW, hO, hM⟩
      case measure => simp [intOf]; omega
    · have hkk : Hid (pss.take k = pss) := List.take_of_length_le (by omega)
      go_wp2
      go_ret
      rw [hkk.out] at h1
      exact ⟨rfl, v1, h1, ho, hm⟩
def leByte (n k : Nat) : UInt8 := UInt8.ofNat (n / 2 ^ (8 * k))
def leBytes (n width : Nat) : List UInt8 := (List.range width).map (leByte n)
def leArr (n k : Nat) : Array Value := ((List.range 8).map fun j => if j < k then byt (leByte n j) else .int .u8 0).toArray
theorem byt_leByte (n k : Nat) : byt (leByte n k) = .int .u8 ((n : Int) / 2 ^ (8 * k) % 256) := by
  unfold byt leByte
  have : (UInt8.ofNat (n / 2 ^ (8 * k))).toNat = n / 2 ^ (8 * k) % 256 := by simp
  rw [this, Int.natCast_emod, Int.natCast_ediv, Int.natCast_pow]
  rfl
theorem leArr_set (n k : Nat) (hk : k < 8) : (leArr n k).setIfInBounds k (byt (leByte n k)) = leArr n (k + 1) := by
  apply Array.ext_getElem?
  intro i
  rw [Array.getElem?_setIfInBounds]
  simp only [leArr, List.size_toArray, List.length_map, List.length_range, List.getElem?_toArray, List.getElem?_map]
  by_cases hi : i < 8
  · rw [List.getElem?_range hi]
    by_cases hik : k = i
    · subst hik; simp [hk]
    · simp only [hik, if_false, Option.map_some]
      congr 1
      by_cases h1 : i < k
      · rw [if_pos h1, if_pos (by omega)]
      · rw [if_neg h1, if_neg (by omega)]
  · rw [if_neg (by omega)]
    simp [hi]
theorem leArr_size (n k : Nat) : (leArr n k).size = 8 := by simp [leArr]
theorem leArr_at (n k j : Nat) (hj : j < 8) : (leArr n k)[j]? = some (if j < k then byt (leByte n j) else .int .u8 0) := by
  simp [leArr, hj]
theorem leArr_one (n k : Nat) : (leArr n k).all (·.oneCell') = true := by
  simp only [leArr, List.all_toArray, List.all_map, List.all_eq_true, Function.comp]
  intro j _
  split <;> rfl
theorem leArr_cell (n k j : Nat) (hj : j < 8) : ∃ z : Int, (leArr n k)[j]? = some (.int .u8 z) := by
  rw [leArr_at n k j hj]
  split
  · exact ⟨_, rfl⟩
  · exact ⟨_, rfl⟩
set_option maxHeartbeats 400000 in
theorem lowest_any (n : Nat) (_hn : n < 18446744073709551616) (w : World) :
    Calls Tryz.prog 230 #[.int .u64 (n : Int)] w fun e w' => e = .returned (.agg (leArr n 8)) ∧ Only none_ w w' := by
  have h0 : Hid (#[Value.int .u8 0, .int .u8 0, .int .u8 0, .int .u8 0, .int .u8 0, .int .u8 0, .int .u8 0, .int .u8 0] = leArr n 0) := by
    simp [Hid, leArr, List.range, List.range.loop]
  go_enter Tryz.func230, Tryz.ntmps230
  go_wp2
  go_loopw [5] (fun i wr => ∃ k : Nat, k ≤ 8 ∧ i = .int .i64 k ∧ Blk wr (w.heap.size + 1) 269 (leArr n k) ∧ Blk wr w.heap.size 269 (leArr n 0) ∧ Only none_ w wr) (fun i _ => 8 - (intOf i).toNat)
  case atStart =>
    refine ⟨0, by omega, rfl, ?_, ?_, ((Only.refl _ _).alloc _).alloc _⟩
    · rw [← h0.out]
      have := Blk.new (w.alloc (Obj.cells #[Value.int .u8 0, .int .u8 0, .int .u8 0, .int .u8 0, .int .u8 0, .int .u8 0, .int .u8 0, .int .u8 0] 269)) 269 #[Value.int .u8 0, .int .u8 0, .int .u8 0, .int .u8 0, .int .u8 0, .int .u8 0, .int .u8 0, .int .u8 0]
      simpa using this
    · rw [← h0.out]; exact (Blk.new w _ _).alloc _
  case round =>
    obtain ⟨k, hk, rfl, hb, hb0, ho⟩ := hrel
    by_cases hlt : k < 8
    · obtain ⟨z, hz⟩ := leArr_cell n k k hlt
      have hc := hb.cell_ hz
      have hf := hb.frozen k
      have HB := Lib.hid hb
      have HB0 := Lib.hid hb0
      clear hb hz hb0
      go_wp2
      go_roundw
      case rel =>
        refine ⟨k + 1, by omega, by go_num, ?_, HB0.out.far (by simp) _, ho.setCell (.inr (by simp)) _⟩
        have := HB.out.set_ k (byt (leByte n k))
        rw [leArr_set n k hlt, byt_leByte] at this
        exact this
      case measure => simp [intOf]; omega
    · have hk8 : k = 8 := by omega
      subst hk8
      have hs := Lib.hid (leArr_size n 8)
      have HB := Lib.hid hb
      have HB0 := Lib.hid hb0
      have HO := Lib.hid ho
      clear hb hb0 ho
      go_wp2_with (first
        | (refine wpList_load_row rfl 269 _ rfl (w.heap.size + 1) rfl 269 (leArr n 8) (0, 0) _ HB.out Tryz.underlying269 rfl (by rw [hs.out]; kernel_rfl) ?_)
        | (refine wpList_store_row rfl 269 _ _ rfl w.heap.size (leArr n 8) rfl rfl 269 (leArr n 0) HB0.out (by rw [hs.out]; kernel_rfl) (by rw [hs.out, leArr_size]) (leArr_one n 8) ?_))
      refine bodyPost_ret (results_cell_row rfl _ _ w.heap.size 269 (leArr n 8) (0, 0) _ rfl (HB0.out.setRow (leArr n 8)) Tryz.underlying269 rfl (by rw [hs.out]; kernel_rfl)) rfl ⟨rfl, HO.out.setRow (.inr (by simp)) _⟩
end Go.Proofs.YtlieolehpmobfaaGreatDoor
end
section
namespace Go.Proofs.YtlieolehpmobfaaGreatDoor
open Go.RowKit
set_option linter.all false
theorem Wr.foot_lt {w : World} {g base : Nat} {code : Int} {v : Value} {bs : List UInt8} (h : Wr w g base code v bs) {b : Nat} (hb : foot g v b) : b < w.heap.size := by
  rcases hb with rfl | hb
  · exact h.1.lt
  · exact (h.2.lt b hb).2
theorem Wr.foot_ge {w : World} {g base : Nat} {code : Int} {v : Value} {bs : List UInt8} (h : Wr w g base code v bs) (hg : base ≤ g) {b : Nat} (hb : foot g v b) : base ≤ b := by
  rcases hb with rfl | hb
  · exact hg
  · exact (h.2.lt b hb).1
theorem Wr.only {w w' : World} {g base : Nat} {code : Int} {v : Value} {bs : List UInt8} {S : Nat → Prop} (h : Wr w g base code v bs) (ho : Only S w w') (hn : ∀ b, foot g v b → ¬ S b) : Wr w' g base code v bs :=
  ⟨h.1.only ho (hn g (.inl rfl)), owns_only h.2 ho fun b hb => hn b (.inr hb)⟩
theorem Wr.fail {w w' : World} {g base : Nat} {code code' : Int} {v : Value} {bs : List UInt8} (h : Wr w g base code v bs)
    (hb : Blk w' g 131 (#[Value.int .i64 code, v].setIfInBounds 0 (.int .i64 code'))) (ho : Only (one g) w w') : Wr w' g base code' v bs :=
  ⟨by simpa using hb, owns_only h.2 ho fun b hb' => by rintro rfl; exact own_blk_ne h.2 h.1 (by decide) hb'⟩
theorem one_foot {w w' : World} {g : Nat} {v : Value} (ho : Only (one g) w w') : Only (foot g v) w w' := ho.mono fun _ _ h => .inl h
def putS (code : Int) (bs x : List UInt8) : List UInt8 := if code = 0 then bs ++ x else bs
set_option maxHeartbeats 400000 in
theorem writer_raw (g base : Nat) (code : Int) (v pv : Value) (bs : List UInt8) (pss : List (List UInt8)) (S : Nat → Prop) (w : World) (h : Wr w g base code v bs) (hp : Parts w S pv pss)
    (hS : ∀ b, S b → ¬ foot g v b) (hb : bs.length + pss.flatten.length ≤ 140737488355328) (hbase : base ≤ w.heap.size) (hpl : pss.length ≤ 1000) :
    Calls Tryz.prog 231 #[.pointer (some ⟨g, 0, none⟩), pv] w fun e w' => e = .returned (.pointer (some ⟨g, 0, none⟩)) ∧
      ∃ v', Wr w' g base code v' (putS code bs pss.flatten) ∧ Only (foot g v) w w' ∧ Moved w v v' := by
  by_cases hc : code = 0
  · subst hc
    exact writer_raw_ok g base v pv bs pss S w h hp hS hb hbase hpl
  · have h2 : (code != 0) = true := by simp [hc]
    have h3 : Hid (putS code bs pss.flatten = bs) := by simp [Hid, putS, hc]
    obtain ⟨b, off, c, rfl, _⟩ := hp
    have H := Lib.hid h
    clear h hc
    go_enter Tryz.func231, Tryz.ntmps231
    go_wp2_with (go_at_call 63; refine (writer_err _ _ _ _ _ _ H.out).mono ?_; rintro e w' ⟨rfl, rfl⟩)
    go_ret
    rw [h3.out]
    exact ⟨rfl, v, H.out, Only.refl _ _, Moved.refl _ _⟩
def numCode (code : Int) (n : Nat) (width : Int) : Int := if isW width = true then (if n / 2 ^ (8 * width.toNat) = 0 then code else first_ code 2) else first_ code 1
def numBs (code : Int) (bs : List UInt8) (n : Nat) (width : Int) : List UInt8 := if isW width = true then (if n / 2 ^ (8 * width.toNat) = 0 then putS code bs (leBytes n width.toNat) else bs) else bs
theorem run_sliceAt_hm {P : Program} (t e : TypeId) (n m : Nat) (ht : P.underlying t = some (.array n e)) (i : TypeInfo) (hi : P.info? e = some i) (hm : m ≤ n) (a : Addr) (w : World) :
    (Instr.sliceAt t (.pointer (some a)) none (some (.int .i64 (m : Int))) (some (.int .i64 (m : Int)))).run P w = .ok (.slice (some a) m m) w := by
  have h2 : (m : Int) ≤ (n : Int) := by omega
  simp [Instr.sliceAt, Instr.sureAddr, run_underlying ht, Instr.sliceBounds, run_sliceBound, sizeOf, typeInfo, hi, Addr.add, h2]
theorem leBytes_succ (n m : Nat) : leBytes n (m + 1) = leBytes n m ++ [leByte n m] := by simp [leBytes, List.range_succ]
theorem leBytes_length (n m : Nat) : (leBytes n m).length = m := by simp [leBytes]
theorem leBytes_at (n m j : Nat) (hj : j < (leBytes n m).length) : (leBytes n m)[j] = leByte n j := by simp [leBytes]
theorem leBytes_byt (n m : Nat) (hm : m ≤ 8) {w : World} {g : Nat} (hb : Blk w g 269 (leArr n 8)) : Byt w (fun b => b = g) (.slice (some ⟨g, 0, none⟩) m m) (leBytes n m) := by
  refine ⟨_, m, by rw [leBytes_length], by rw [leBytes_length]; omega, by simp only [maxLen]; omega, by simp, fun _ => ⟨g, 0, rfl, rfl, hb.lt, fun j hj => ?_⟩⟩
  have hj' : j < m := by rw [leBytes_length] at hj; exact hj
  rw [leBytes_at]
  have := hb.cell_ (leArr_at n 8 j (by omega))
  rw [if_pos (by omega)] at this
  simpa using this
theorem parts_one {w : World} {S : Nat → Prop} {x : Value} {bs : List UInt8} {t : TypeId} (h : Byt w S x bs) (hS : S w.heap.size) : Parts (w.alloc (.cells #[x] t)) S (.slice (some ⟨w.heap.size, 0, none⟩) 1 1) [bs] := by
  refine ⟨_, _, 1, rfl, by simp, hS, fun j hj => ?_⟩
  have hj0 : j = 0 := by simp at hj; omega
  subst hj0
  exact ⟨x, by simp, h.alloc _⟩
theorem parts_two {w : World} {S : Nat → Prop} {x y : Value} {bs cs : List UInt8} {t : TypeId} (h : Byt w S x bs) (h' : Byt w S y cs) (hS : S w.heap.size) : Parts (w.alloc (.cells #[x, y] t)) S (.slice (some ⟨w.heap.size, 0, none⟩) 2 2) [bs, cs] := by
  refine ⟨_, _, 2, rfl, by simp, hS, fun j hj => ?_⟩
  have hj0 : j = 0 ∨ j = 1 := by simp at hj; omega
  rcases hj0 with rfl | rfl
  · exact ⟨x, by simp, h.alloc _⟩
  · exact ⟨y, by simp, h'.alloc _⟩
set_option maxHeartbeats 400000 in
theorem writer_number (g base : Nat) (code width : Int) (n : Nat) (v : Value) (bs : List UInt8) (w : World) (h : Wr w g base code v bs) (hn : n < 18446744073709551616)
    (hb : bs.length + 8 ≤ 140737488355328) (hbase : base ≤ w.heap.size) :
    Calls Tryz.prog 118 #[.pointer (some ⟨g, 0, none⟩), .int .u64 (n : Int), .int .i64 width] w fun e w' => e = .returned (.pointer (some ⟨g, 0, none⟩)) ∧
      ∃ v', Wr w' g base (numCode code n width) v' (numBs code bs n width) ∧ Only (foot g v) w w' ∧ Moved w v v' := by
  by_cases hw : isW width = true
  · have hr : 1 ≤ width ∧ width ≤ 8 := by simpa [isW] using hw
    obtain ⟨m, rfl⟩ : ∃ m : Nat, width = m := ⟨width.toNat, by omega⟩
    obtain ⟨hm1, hm2⟩ : 1 ≤ m ∧ m ≤ 8 := by omega
    clear hr
    by_cases h0 : n / 2 ^ (8 * m) = 0
    · have ht : ((n : Int) / 2 ^ (8 * m) != 0) = false := by
        have : (n : Int) / 2 ^ (8 * m) = ((n / 2 ^ (8 * m) : Nat) : Int) := by push_cast; rfl
        rw [this, h0]; rfl
      have hcode : Hid (numCode code n (m : Int) = code) := by simp [Hid, numCode, hw, h0]
      have hbs : Hid (numBs code bs n (m : Int) = putS code bs (leBytes n m)) := by simp [Hid, numBs, hw, h0]
      have HW := Lib.hid hw
      have H := Lib.hid h
      clear h h0 hw
      obtain ⟨i0, hi0, _⟩ := info_parts u8_info
      have hsl := fun a w => run_sliceAt_hm 269 5 8 m Tryz.underlying269 i0 hi0 hm2 a w
      clear hi0
      go_enter Tryz.func118, Tryz.ntmps118
      go_wp2_with (first
        | (go_at_call 229; refine (isWidth_any _ _).mono ?_; rintro e w' ⟨rfl, rfl⟩; rw [HW.out])
        | (go_at_call 230; refine (lowest_any n hn _).mono ?_; rintro e w1 ⟨rfl, ho1⟩)
        | (refine wpList_store_row rfl 269 _ _ rfl w1.heap.size (leArr n 8) rfl rfl 269 _ (Blk.new w1 _ _) (by rw [leArr_size]; kernel_rfl) (by rw [leArr_size]; rfl) (leArr_one n 8) ?_
           have hb2 := (Blk.new w1 269 #[Value.int .u8 0, .int .u8 0, .int .u8 0, .int .u8 0, .int .u8 0, .int .u8 0, .int .u8 0, .int .u8 0]).setRow (leArr n 8)
           have ho2 := (ho1.alloc (.cells #[Value.int .u8 0, .int .u8 0, .int .u8 0, .int .u8 0, .int .u8 0, .int .u8 0, .int .u8 0, .int .u8 0] 269)).setRow (.inr ho1.size) (leArr n 8)
           have hg2 := ho1.size
           generalize (w1.alloc (.cells #[Value.int .u8 0, .int .u8 0, .int .u8 0, .int .u8 0, .int .u8 0, .int .u8 0, .int .u8 0, .int .u8 0] 269)).setRow w1.heap.size (leArr n 8) = w2 at *
           generalize w1.heap.size = g2 at *
           clear ho1
           have HR := writer_raw g base code v _ bs [leBytes n m] (fun k => w.heap.size ≤ k) (w2.alloc (.cells #[.slice (some ⟨g2, 0, none⟩) m m] 35))
             (H.out.only (ho2.alloc _) (fun _ _ h => h)) (parts_one ((leBytes_byt n m hm2 hb2).mono (fun b _ hbg => hbg ▸ hg2)) ho2.size) (fun b hb1 hb2 => by have := H.out.foot_lt hb2; omega) (by simp [leBytes_length]; omega) (by have := ho2.size; simp; omega) (by simp)
           have HO := Lib.hid ho2
           clear ho2)
        | (go_at_call 231; refine HR.mono ?_; rintro e w3 ⟨rfl, v3, h3, o3, m3⟩))
      go_ret
      rw [hcode.out, hbs.out]
      exact ⟨rfl, v3, by simpa using h3, (HO.out.alloc _).of_none.trans o3, (Moved.refl w v).trans m3 (HO.out.alloc _).size⟩
    · have ht : ((n : Int) / 2 ^ (8 * m) != 0) = true := by
        have : (n : Int) / 2 ^ (8 * m) = ((n / 2 ^ (8 * m) : Nat) : Int) := by push_cast; rfl
        rw [this]; simp only [bne_iff_ne, ne_eq]; omega
      have hcode : Hid (numCode code n (m : Int) = first_ code 2) := by simp [Hid, numCode, hw, h0]
      have hbs : Hid (numBs code bs n (m : Int) = bs) := by simp [Hid, numBs, hw, h0]
      have HW := Lib.hid hw
      have H := Lib.hid h
      clear h h0 hw
      go_enter Tryz.func118, Tryz.ntmps118
      go_wp2_with (first
        | (go_at_call 229; refine (isWidth_any _ _).mono ?_; rintro e w' ⟨rfl, rfl⟩; rw [HW.out])
        | (go_at_call 177; refine (fault_fail _ _ _ _ _ _ H.out.1 rfl).mono ?_; rintro e w1 ⟨rfl, hb1, ho1⟩))
      go_ret
      rw [hcode.out, hbs.out]
      exact ⟨rfl, v, H.out.fail hb1 ho1, one_foot ho1, Moved.refl _ _⟩
  · have hw' : isW width = false := by simpa using hw
    have hcode : Hid (numCode code n width = first_ code 1) := by simp [Hid, numCode, hw']
    have hbs : Hid (numBs code bs n width = bs) := by simp [Hid, numBs, hw']
    have HW := Lib.hid hw'
    have H := Lib.hid h
    clear h hw hw'
    go_enter Tryz.func118, Tryz.ntmps118
    go_wp2_with (first
      | (go_at_call 229; refine (isWidth_any _ _).mono ?_; rintro e w' ⟨rfl, rfl⟩; rw [HW.out])
      | (go_at_call 177; refine (fault_fail _ _ _ _ _ _ H.out.1 rfl).mono ?_; rintro e w1 ⟨rfl, hb1, ho1⟩))
    go_ret
    rw [hcode.out, hbs.out]
    exact ⟨rfl, v, H.out.fail hb1 ho1, one_foot ho1, Moved.refl _ _⟩
end Go.Proofs.YtlieolehpmobfaaGreatDoor
end
