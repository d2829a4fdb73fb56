/- Texts of mine, one behind the other: RcE, Sl, RcB, App, Opn, RcR, OpenT, OpenE, OpenN, SlG, Fre. No statement of the seat is proved here. -/
import Derived.Test.YtlieolehpmobfaaGreatDoorWt1
import Derived.Test.YtlieolehpmobfaaGreatDoorChecked
import Derived.ChangeKeysEq
import Derived.Laws.StructEq
import Derived.Test.YtlieolehpmobfaaGreatDoorWt4
import Derived.Test.YtlieolehpmobfaaGreatDoorWt3
import Derived.Test.YtlieolehpmobfaaGreatDoorRows
import Derived.ProofKit
import Derived.OpenShut
import Derived.ShutString
import Derived.ChangeOld
import Derived.Deep.Slices
import Derived.Deep.Fields
import Derived.Lib.SmallJoins
import Derived.Test.YtlieolehpmobfaaGreatDoorWt2
import Derived.StillTail
import Derived.RegionTactic
import Derived.WalkKit
section
namespace Go.Proofs.YtlieolehpmobfaaGreatDoor
open Go.RowKit
set_option maxRecDepth 100000
set_option linter.all false
def mkSame (x y : Mk) : Bool := stSame x.a y.a && decide (x.k = y.k)
theorem mkSame_iff (x y : Mk) : mkSame x y = true ↔ x = y := by
  unfold mkSame
  rw [Bool.and_eq_true, stSame_iff, decide_eq_true_eq]
  exact ⟨fun h => Mk.eq h.1 h.2, fun h => by subst h; exact ⟨rfl, rfl⟩⟩
theorem isTop_same (x : Mk) : isTop x = mkSame x mkTop := rfl
theorem eq_struct10 {P : Program} {t : TypeId} {fs : Array Field} (ht : P.underlying t = some (.struct fs)) (hp : P.stoodInHeld t = false) (d : Nat) (xs ys : Array Value) (w : World) :
    (Op.equalIn (d + 1) t (.agg xs) (.agg ys)).run P w = (Op.eqFields d xs ys fs.toList).run P w := by
  have e : P.fieldsOf t = fs := by rw [Program.fieldsOf, ht]
  rw [run_equalIn_struct w d t xs ys (by rw [e]; exact ht) hp, e]
theorem str_same (a b : ByteArray) : (a.toList == b.toList) = decide (a = b) := by
  rw [Bool.eq_iff_iff, beq_iff_eq, decide_eq_true_eq]
  exact ⟨fun h => by
    have e : ∀ x : ByteArray, x.toList = x.data.toList := fun x => by
      rw [ByteArray.toList_eq]
    rw [e, e] at h
    exact key_ext h, fun h => by rw [h]⟩
theorem eqa_stamp (w : World) (x y : St) (d : Nat) : (Op.equalIn (d + 2) 39 (.agg #[.int .i64 x.c, .int .i64 x.s]) (.agg #[.int .i64 y.c, .int .i64 y.s])).run Tryz.prog w = .ok (stSame x y) w := by
  rw [eq_struct10 Tryz.underlying39 (by kernel_rfl)]
  have e : ∀ (a b : Int), (Op.equalIn (d + 1) 3 (.int .i64 a) (.int .i64 b)).run Tryz.prog w = .ok (a == b) w := fun a b => run_equalIn_int w d 3 .i64 .i64 a b Tryz.underlying3
  have e1 : stSame x y = (x.c == y.c && x.s == y.s) := by unfold stSame; simp [Bool.beq_eq_decide_eq]
  rw [e1]
  cases h1 : x.c == y.c <;> cases h2 : x.s == y.s <;> simp [Op.eqFields, part, isAgg, run_underlying Tryz.underlying3, e, h1, h2]
theorem eqr_stamp (w : World) (x y : St) (d : Nat) : (Op.equalIn (d + 2) 25 (.agg #[.int .i64 x.c, .int .i64 x.s]) (.agg #[.int .i64 y.c, .int .i64 y.s])).run Tryz.prog w = .ok (stSame x y) w := by
  rw [eq_struct10 Tryz.underlying25 (by kernel_rfl)]
  have e : ∀ (a b : Int), (Op.equalIn (d + 1) 3 (.int .i64 a) (.int .i64 b)).run Tryz.prog w = .ok (a == b) w := fun a b => run_equalIn_int w d 3 .i64 .i64 a b Tryz.underlying3
  have e1 : stSame x y = (x.c == y.c && x.s == y.s) := by unfold stSame; simp [Bool.beq_eq_decide_eq]
  rw [e1]
  cases h1 : x.c == y.c <;> cases h2 : x.s == y.s <;> simp [Op.eqFields, part, isAgg, run_underlying Tryz.underlying3, e, h1, h2]
theorem eqa_mark (w : World) (x y : Mk) (d : Nat) : (Op.equalIn (d + 3) 41 (.agg #[.int .i64 x.a.c, .int .i64 x.a.s, .string x.k]) (.agg #[.int .i64 y.a.c, .int .i64 y.a.s, .string y.k])).run Tryz.prog w = .ok (mkSame x y) w := by
  rw [eq_struct10 Tryz.underlying41 (by kernel_rfl) (d + 2)]
  have e1 : (Op.equalIn (d + 2) 9 (.string x.k) (.string y.k)).run Tryz.prog w = .ok (x.k.toList == y.k.toList) w := run_equalIn_string w (d + 1) 9 x.k y.k Tryz.underlying9
  rw [str_same] at e1
  have e4 := eqa_stamp w x.a y.a d
  obtain ⟨i0, hi0, hz0⟩ : ∃ i0, Tryz.prog.info? 39 = some i0 ∧ i0.size = 2 := by
    have : (Tryz.prog.info? 39).map (·.size) = some 2 := by kernel_rfl
    cases h : Tryz.prog.info? 39 with
    | none => rw [h] at this; cases this
    | some i0 => rw [h] at this; simp at this; exact ⟨i0, rfl, this⟩
  have p1 : ∀ z : Mk, (part 39 #[.int .i64 z.a.c, .int .i64 z.a.s, .string z.k] 0).run Tryz.prog w = .ok (.agg #[.int .i64 z.a.c, .int .i64 z.a.s]) w := fun z => by
    simp [part, isAgg, run_underlying Tryz.underlying39, sizeOf, typeInfo, hi0, hz0]
  have ps : ∀ (cs : Array Value) (i : Nat) (u : Value), cs[i]? = some u → (part 9 cs i).run Tryz.prog w = .ok u w := fun cs i u h => by simp [part, isAgg, run_underlying Tryz.underlying9, h]
  have r0 := ps #[.int .i64 x.a.c, .int .i64 x.a.s, .string x.k] 2 _ rfl
  have r1 := ps #[.int .i64 y.a.c, .int .i64 y.a.s, .string y.k] 2 _ rfl
  unfold mkSame
  generalize stSame x.a y.a = b1 at *
  generalize decide (x.k = y.k) = b2 at *
  cases b1 <;> cases b2 <;> simp [Op.eqFields, p1, r0, r1, e1, e4]
theorem eqr_mark (w : World) (x y : Mk) (d : Nat) : (Op.equalIn (d + 3) 27 (.agg #[.int .i64 x.a.c, .int .i64 x.a.s, .string x.k]) (.agg #[.int .i64 y.a.c, .int .i64 y.a.s, .string y.k])).run Tryz.prog w = .ok (mkSame x y) w := by
  rw [eq_struct10 Tryz.underlying27 (by kernel_rfl) (d + 2)]
  have e1 : (Op.equalIn (d + 2) 9 (.string x.k) (.string y.k)).run Tryz.prog w = .ok (x.k.toList == y.k.toList) w := run_equalIn_string w (d + 1) 9 x.k y.k Tryz.underlying9
  rw [str_same] at e1
  have e4 := eqr_stamp w x.a y.a d
  obtain ⟨i0, hi0, hz0⟩ : ∃ i0, Tryz.prog.info? 25 = some i0 ∧ i0.size = 2 := by
    have : (Tryz.prog.info? 25).map (·.size) = some 2 := by kernel_rfl
    cases h : Tryz.prog.info? 25 with
    | none => rw [h] at this; cases this
    | some i0 => rw [h] at this; simp at this; exact ⟨i0, rfl, this⟩
  have p1 : ∀ z : Mk, (part 25 #[.int .i64 z.a.c, .int .i64 z.a.s, .string z.k] 0).run Tryz.prog w = .ok (.agg #[.int .i64 z.a.c, .int .i64 z.a.s]) w := fun z => by
    simp [part, isAgg, run_underlying Tryz.underlying25, sizeOf, typeInfo, hi0, hz0]
  have ps : ∀ (cs : Array Value) (i : Nat) (u : Value), cs[i]? = some u → (part 9 cs i).run Tryz.prog w = .ok u w := fun cs i u h => by simp [part, isAgg, run_underlying Tryz.underlying9, h]
  have r0 := ps #[.int .i64 x.a.c, .int .i64 x.a.s, .string x.k] 2 _ rfl
  have r1 := ps #[.int .i64 y.a.c, .int .i64 y.a.s, .string y.k] 2 _ rfl
  unfold mkSame
  generalize stSame x.a y.a = b1 at *
  generalize decide (x.k = y.k) = b2 at *
  cases b1 <;> cases b2 <;> simp [Op.eqFields, p1, r0, r1, e1, e4]
theorem eqlA (w : World) (x y : Mk) : (binOp .eql 41 (.agg #[.int .i64 x.a.c, .int .i64 x.a.s, .string x.k]) (.agg #[.int .i64 y.a.c, .int .i64 y.a.s, .string y.k])).run Tryz.prog w = .ok (.bool (mkSame x y)) w := by
  rw [run_eql_struct, eqa_mark w x y 9997]; rfl
theorem neqA (w : World) (x y : Mk) : (binOp .neq 41 (.agg #[.int .i64 x.a.c, .int .i64 x.a.s, .string x.k]) (.agg #[.int .i64 y.a.c, .int .i64 y.a.s, .string y.k])).run Tryz.prog w = .ok (.bool (!mkSame x y)) w := by
  rw [run_neq_struct, eqa_mark w x y 9997]; rfl
theorem eqlR (w : World) (x y : Mk) : (binOp .eql 27 (.agg #[.int .i64 x.a.c, .int .i64 x.a.s, .string x.k]) (.agg #[.int .i64 y.a.c, .int .i64 y.a.s, .string y.k])).run Tryz.prog w = .ok (.bool (mkSame x y)) w := by
  rw [run_eql_struct, eqr_mark w x y 9997]; rfl
theorem neqR (w : World) (x y : Mk) : (binOp .neq 27 (.agg #[.int .i64 x.a.c, .int .i64 x.a.s, .string x.k]) (.agg #[.int .i64 y.a.c, .int .i64 y.a.s, .string y.k])).run Tryz.prog w = .ok (.bool (!mkSame x y)) w := by
  rw [run_neq_struct, eqr_mark w x y 9997]; rfl
end Go.Proofs.YtlieolehpmobfaaGreatDoor
end
section
namespace Go.Proofs.YtlieolehpmobfaaGreatDoor
open Go.RowKit
def Cel (w : World) (S : Nat → Prop) (v : Value) (n k : Nat) (cs : List Value) : Prop :=
  ∃ A c, v = .slice A n c ∧ cs.length = n * k ∧ n ≤ c ∧ c ≤ maxLen ∧ (A = none → c = 0) ∧
    (0 < n → ∃ b off, A = some ⟨b, off, none⟩ ∧ S b ∧ b < w.heap.size ∧ ∀ j u, cs[j]? = some u → w.cell? ⟨b, off + j, none⟩ = some u)
section
variable {w w' : World} {S T : Nat → Prop} {v : Value} {n k : Nat} {cs : List Value}
theorem Cel.mono (h : Cel w S v n k cs) (hk : ∀ b, b < w.heap.size → S b → T b) : Cel w T v n k cs := by
  obtain ⟨A, c, rfl, h0, h1, h2, h3, h4⟩ := h
  refine ⟨A, c, rfl, h0, h1, h2, h3, fun hp => ?_⟩
  obtain ⟨b, off, rfl, hs, hlt, hc⟩ := h4 hp
  exact ⟨b, off, rfl, hk b hlt hs, hlt, hc⟩
theorem Cel.only (h : Cel w S v n k cs) (ho : Only T w w') (hn : ∀ b, S b → ¬ T b) : Cel w' S v n k cs := by
  obtain ⟨A, c, rfl, h0, h1, h2, h3, h4⟩ := h
  refine ⟨A, c, rfl, h0, h1, h2, h3, fun hp => ?_⟩
  obtain ⟨b, off, rfl, hs, hlt, hc⟩ := h4 hp
  exact ⟨b, off, rfl, hs, Nat.lt_of_lt_of_le hlt ho.size, fun j u hu => (ho.cell (p := ⟨b, off + j, none⟩) hlt (hn _ hs)).trans (hc j u hu)⟩
theorem Cel.drew (h : Cel w S v n k cs) : Cel w.drew S v n k cs := h
theorem Cel.drewN (h : Cel w S v n k cs) (m : Nat) : Cel (w.drewN m) S v n k cs := h
theorem Cel.alloc (h : Cel w S v n k cs) (o : Obj) : Cel (w.alloc o) S v n k cs := h.only ((Only.refl none_ w).alloc o) fun _ _ x => x
theorem Cel.nil (w : World) (S : Nat → Prop) (k : Nat) : Cel w S (.slice none 0 0) 0 k [] := ⟨none, 0, rfl, by simp, by simp, by simp [maxLen], fun _ => rfl, by simp⟩
theorem Cel.of_own {base : Nat} {e : TypeId} (h : w.ownsRow base e k v n cs) : Cel w (ownb v) v n k cs := by
  have hl : cs.length = n * k := by have := h.1; simpa using this
  rcases h.2 with ⟨hv, hn⟩ | ⟨g, cap, cur, hv, hb, hh, hnc, hcm, hcs, ht⟩
  · subst hn hv
    exact ⟨none, 0, rfl, hl, by simp, by simp [maxLen], fun _ => rfl, by simp⟩
  · subst hv
    refine ⟨_, cap, rfl, hl, hnc, hcm, by simp, fun hp => ⟨g, 0, rfl, by simp [ownb, Value.ownBlock], Blk.lt (t := e) hh, fun j u hu => ?_⟩⟩
    have e1 : (⟨g, 0, none⟩ : Addr).add j = ⟨g, 0 + j, none⟩ := by unfold Addr.add; split <;> simp_all
    have := h.cells (g := g) (by simp [Value.ownBlock]) j u hu
    rw [← e1]
    exact this
end
end Go.Proofs.YtlieolehpmobfaaGreatDoor
end
section
namespace Go.Proofs.YtlieolehpmobfaaGreatDoor
open Go.RowKit
set_option maxRecDepth 100000
set_option linter.all false
def mkI (m : Mk) : List Value := [.int .i64 m.a.c, .int .i64 m.a.s, .string m.k]
theorem mkI_len (m : Mk) : (mkI m).length = 3 := rfl
structure Bx2 (w0 : World) (ca cb : Array Value) (w : World) : Prop where
  a : Blk w w0.heap.size 41 ca
  b : Blk w (w0.heap.size + 1) 41 cb
  o : Only none_ w0 w
theorem Bx2.keep {w0 w w' : World} {ca cb : Array Value} (h : Bx2 w0 ca cb w) (o : Only none_ w w') : Bx2 w0 ca cb w' := ⟨h.a.only o (fun h => h), h.b.only o (fun h => h), h.o.trans o⟩
end Go.Proofs.YtlieolehpmobfaaGreatDoor
end
section
namespace Go.Proofs.YtlieolehpmobfaaGreatDoor
open Go.RowKit
section
variable {P : Program} (w : World)
theorem run_append_cel (base : Nat) (t ty e : TypeId) (i : TypeInfo) (z : Value) (size bytes : Nat) (ht : P.underlying t = some (.slice e)) (hi : P.info? e = some i) (hz : i.zero = some z)
    (hsize : i.size = size) (hby : i.bytes = bytes) (hzs : z.cells.size = size) (hsz : 0 < size) (v : Value) (n : Nat) (xs : List Value) (hown : w.ownsRow base e size v n xs)
    (S : Nat → Prop) (A : Value) (m : Nat) (ys : List Value) (hr : Cel w S A m size ys) (h1 : ∀ u ∈ ys, u.oneCell' = true) (h63 : n + m ≤ maxLen) (hbytes : (n + m) * bytes ≤ 140737488355328) (hbase : base ≤ w.heap.size) :
    ∃ v' w', (Builtin.append_ #[t, t] ty #[v, A]).run P w = .ok v' w' ∧ w'.ownsRow base e size v' (n + m) (xs ++ ys) ∧ w.grownBy w' v.ownBlock ∧ Moved w v v' := by
  obtain ⟨B, c, rfl, g0, g1, g2, g3, g4⟩ := hr
  rcases B with _ | ad
  · have hm : m = 0 := by have := g3 rfl; omega
    subst hm
    have hy : ys = [] := List.eq_nil_of_length_eq_zero (by omega)
    subst hy
    refine ⟨v, w, ?_, by simpa using hown, ⟨rfl, rfl, rfl, Nat.le_refl _, fun _ _ _ => rfl⟩, Moved.refl _ _⟩
    rcases hown.2 with ⟨rfl, _⟩ | ⟨g, cap, cur, rfl, _, _, hnc, _⟩
    · simp [Builtin.append_, run_underlying ht, sizeOf, typeInfo, hi, Builtin.lenOf, Builtin.firstCells]
    · simp [Builtin.append_, run_underlying ht, sizeOf, typeInfo, hi, Builtin.lenOf, Builtin.firstCells, hnc, storeCells]
  · have hcells : ∀ j u, ys[j]? = some u → w.cell? (ad.add j) = some u := by
      intro j u hu
      have hj : j < ys.length := (List.getElem?_eq_some_iff.1 hu).1
      have hm : 0 < m := by
        rcases Nat.eq_zero_or_pos m with h | h
        · subst h; rw [g0] at hj; omega
        · exact h
      obtain ⟨g, off, e1, _, _, hc⟩ := g4 hm
      injection e1 with e1
      subst e1
      have e2 : (⟨g, off, none⟩ : Addr).add j = ⟨g, off + j, none⟩ := by unfold Addr.add; split <;> simp_all
      rw [e2]
      exact hc j u hu
    obtain ⟨v', w', hrun, h5, h6, _, h7⟩ := run_append_own_at (P := P) w base t ty e i z size bytes ht hi hz hsize hby hzs hsz v n xs hown ad m c ys g0 hcells h1 h63 hbytes hbase
    refine ⟨v', w', hrun, h5, h6, fun k hk => ?_⟩
    rcases h7 with h7 | h7
    · exact .inl (h7 ▸ hk)
    · rw [h7] at hk; injection hk with hk; exact .inr (by omega)
theorem wp_append_cel {o : Oper} {a : Act} {K : Act → World → Prop} {Q : Exit → Act → World → Prop} (s x : Operand) (t : TypeId)
    (ho : o.op = .call { callee := .builtin .append, args := #[s, x], argTypes := #[t, t] })
    (base : Nat) (e : TypeId) (i : TypeInfo) (z : Value) (size bytes : Nat) (ht : P.underlying t = some (.slice e)) (hi : P.info? e = some i) (hz : i.zero = some z)
    (hsize : i.size = size) (hby : i.bytes = bytes) (hzs : z.cells.size = size) (hsz : 0 < size) (v : Value) (n : Nat) (xs : List Value) (hs : a.eval s = v) (hown : w.ownsRow base e size v n xs)
    (S : Nat → Prop) (A : Value) (m : Nat) (ys : List Value) (hx : a.eval x = A) (hr : Cel w S A m size ys) (h1 : ∀ u ∈ ys, u.oneCell' = true) (h63 : n + m ≤ maxLen) (hbytes : (n + m) * bytes ≤ 140737488355328) (hbase : base ≤ w.heap.size)
    (h : ∀ A' n' c' w', w'.ownsRow base e size (.slice A' n' c') (n + m) (xs ++ ys) → w.grownBy w' v.ownBlock → Moved w v (.slice A' n' c') → K (a.put o.dst (.slice A' n' c')) w') : o.wp P a w K Q := by
  obtain ⟨v', w', hrun, h2, h3, h4⟩ := run_append_cel (P := P) w base t o.type e i z size bytes ht hi hz hsize hby hzs hsz v n xs hown S A m ys hr h1 h63 hbytes hbase
  unfold Oper.wp execOp
  simp only [ho, resolve, invoke, builtin, Sem.run_bind, Sem.run_pure, Result.andThen_ok, List.map_toArray, List.map_cons, List.map_nil, hs, hx, hrun]
  obtain ⟨A', n', c', rfl⟩ : ∃ A' n' c', v' = .slice A' n' c' := by
    rcases h2.2 with ⟨rfl, _⟩ | ⟨_, _, _, rfl, _⟩ <;> exact ⟨_, _, _, rfl⟩
  exact h A' n' c' w' h2 h3 h4
theorem wpList_append_cel {ops : Array Oper} {rest : List Oper} {o : Oper} {a : Act} {Q : Exit → Act → World → Prop} (hgd : o.guard = none) (s x : Operand) (t : TypeId)
    (ho : o.op = .call { callee := .builtin .append, args := #[s, x], argTypes := #[t, t] })
    (base : Nat) (e : TypeId) (i : TypeInfo) (z : Value) (size bytes : Nat) (ht : P.underlying t = some (.slice e)) (hi : P.info? e = some i) (hz : i.zero = some z)
    (hsize : i.size = size) (hby : i.bytes = bytes) (hzs : z.cells.size = size) (hsz : 0 < size) (v : Value) (n : Nat) (xs : List Value) (hs : a.eval s = v) (hown : w.ownsRow base e size v n xs)
    (S : Nat → Prop) (A : Value) (m : Nat) (ys : List Value) (hx : a.eval x = A) (hr : Cel w S A m size ys) (h1 : ∀ u ∈ ys, u.oneCell' = true) (h63 : n + m ≤ maxLen) (hbytes : (n + m) * bytes ≤ 140737488355328) (hbase : base ≤ w.heap.size)
    (h : ∀ A' n' c' w', w'.ownsRow base e size (.slice A' n' c') (n + m) (xs ++ ys) → w.grownBy w' v.ownBlock → Moved w v (.slice A' n' c') → wpList P ops Q rest (a.put o.dst (.slice A' n' c')) w') : wpList P ops Q (o :: rest) a w :=
  wpList_plain hgd fun _ hK => wp_append_cel w s x t ho base e i z size bytes ht hi hz hsize hby hzs hsz v n xs hs hown S A m ys hx hr h1 h63 hbytes hbase fun A' n' c' w' h2 h3 h4 => hK _ _ (h A' n' c' w' h2 h3 h4)
end
theorem own_made (w : World) (base : Nat) (e : TypeId) (size : Nat) (n : Nat) (cs : Array Value) (hn : cs.size = n * size) (hm : n ≤ maxLen) (hb : base ≤ w.heap.size) :
    (w.alloc (.cells cs e)).ownsRow base e size (.slice (some ⟨w.heap.size, 0, none⟩) n n) n cs.toList := by
  refine ⟨by simpa using hn, .inr ⟨w.heap.size, n, cs, rfl, hb, heap_alloc_new w _, Nat.le_refl _, hm, hn, ?_⟩⟩
  rw [← hn]
  exact List.take_of_length_le (by simp)
theorem cel_made (w : World) (e : TypeId) (size : Nat) (n : Nat) (cs : Array Value) (hn : cs.size = n * size) (hm : n ≤ maxLen) :
    Cel (w.alloc (.cells cs e)) (fun b => b = w.heap.size) (.slice (some ⟨w.heap.size, 0, none⟩) n n) n size cs.toList := by
  have := Cel.of_own (own_made w w.heap.size e size n cs hn hm (Nat.le_refl _))
  exact this.mono fun b _ hb => by simpa [ownb, Value.ownBlock] using hb.symm
end Go.Proofs.YtlieolehpmobfaaGreatDoor
end
section
namespace Go.Proofs.YtlieolehpmobfaaGreatDoor
open Go.ChangeShapes Go.WideShapes Go.ChangeAt Go.RowKit
set_option linter.unusedVariables false
theorem own : ownKnob Tryz.prog.godebug = none := by kernel_rfl
theorem laidOut : laidOutB Tryz.prog = true := by kernel_rfl
theorem slice_one {H : Type} {enc : TypeId × Value → H} {P : Program} {w : World} {t e : TypeId} {n : Nat} {x : Value} {y : DataW H × List MemPlace} (ht : P.underlying t = some (.slice e)) (h : DataW.trod enc P w 0 (fun _ => true) true n t [x] = some y) :
    ∃ A l c, x = .slice A l c := by
  rcases Go.Deep.open_slice ht h with ⟨h0, _⟩ | ⟨a, len, cap, m, n, D, Pl, hcs, _⟩
  · simp at h0; exact ⟨_, _, _, h0⟩
  · simp at hcs; exact ⟨_, _, _, hcs⟩
theorem add_plain (b off n : Nat) : (⟨b, off, none⟩ : Addr).add n = ⟨b, off + n, none⟩ := by unfold Addr.add; split <;> simp_all
theorem list_of {α : Type} (n : Nat) (p : Nat → α → Prop) (h : ∀ i, i < n → ∃ a, p i a) : ∃ l : List α, l.length = n ∧ ∀ i (hi : i < l.length), p i l[i] := by
  induction n with
  | zero => exact ⟨[], rfl, fun i hi => absurd hi (by simp)⟩
  | succ n ih =>
    obtain ⟨l, hl, hp⟩ := ih fun i hi => h i (by omega)
    obtain ⟨a, ha⟩ := h n (by omega)
    refine ⟨l ++ [a], by simp [hl], fun i hi => ?_⟩
    by_cases hin : i < l.length
    · rw [List.getElem_append_left hin]; exact hp i hin
    · have : i = n := by simp at hi; omega
      subst this
      rw [List.getElem_append_right (by omega)]
      simpa [hl] using ha
theorem flat_at {α : Type} {k : Nat} (f : α → List Value) (hk : ∀ x, (f x).length = k) : ∀ (l : List α) (i : Nat) (x : α), l[i]? = some x → ∀ j, j < k → (l.flatMap f)[i * k + j]? = (f x)[j]?
  | [], i, x, h => by simp at h
  | y :: l, 0, x, h => fun j hj => by
    have : y = x := by simpa using h
    subst this
    rw [List.flatMap_cons, Nat.zero_mul, Nat.zero_add, List.getElem?_append_left (by rw [hk]; exact hj)]
  | y :: l, i + 1, x, h => fun j hj => by
    have := flat_at f hk l i x (by simpa using h) j hj
    rw [List.flatMap_cons, List.getElem?_append_right (by rw [hk, Nat.succ_mul]; omega), hk, ← this]
    congr 1
    rw [Nat.succ_mul]
    omega
theorem flat_len {α : Type} {k : Nat} (f : α → List Value) (hk : ∀ x, (f x).length = k) : ∀ l : List α, (l.flatMap f).length = l.length * k
  | [] => by simp
  | y :: l => by rw [List.flatMap_cons, List.length_append, hk, flat_len f hk l, List.length_cons, Nat.succ_mul]; omega
theorem cel_in {H : Type} {enc : TypeId × Value → H} {P : Program} {W : World} {t e : TypeId} {k : Nat} {α : Type} (f : α → List Value) (Q : α → Prop) (ht : P.underlying t = some (.slice e)) (hC : P.cellsOf e = k) (hk : ∀ x, (f x).length = k) (h0 : 0 < k)
    (read : ∀ (n : Nat) (r : List Value) (y : DataW H × List MemPlace), r.length = k → DataW.trod enc P W 0 (fun _ => true) true n e r = some y → ∃ x, r = f x ∧ Q x)
    {a : Option Addr} {len cap : Nat} {d : DataW H} {p : List MemPlace} (h : DataW.Trod enc P W 0 (fun _ => true) true t (.slice a len cap) d p) :
    ∃ l : List α, len = l.length ∧ Cel W (fun b => b < W.heap.size) (.slice a len cap) len k (l.flatMap f) ∧ ∀ x ∈ l, Q x := by
  obtain ⟨fuel, hf⟩ := h
  rcases Go.Deep.open_slice ht hf with ⟨hcs, _⟩ | ⟨x, len', cap', m, n, D, Pl, hcs, _, hl, hm, hmm, _, hi⟩
  · simp [Value.cells] at hcs
    obtain ⟨rfl, rfl, rfl⟩ := hcs
    exact ⟨[], rfl, Cel.nil _ _ _, by simp⟩
  · simp [Value.cells] at hcs
    obtain ⟨rfl, rfl, rfl⟩ := hcs
    rw [hC] at hi
    have hlm : len ≤ m := by rw [hmm]; split <;> omega
    obtain ⟨ls, hls, hp⟩ := list_of len (fun i (u : α) => (∀ j, j < k → W.cell? (x.add (i * k + j)) = (f u)[j]?) ∧ Q u) (fun i hil => by
      obtain ⟨r, hr, htr⟩ := hi i (by omega)
      obtain ⟨_, hrl, hat⟩ := World.cells?_some hr
      obtain ⟨u, rfl, hq⟩ := read _ _ _ hrl htr
      refine ⟨u, fun j hj => ?_, hq⟩
      have h2 := hat j hj
      rw [Go.Deep.add_add] at h2
      exact h2)
    subst hls
    refine ⟨ls, rfl, ⟨some x, cap, rfl, flat_len f hk ls, hl, hm, by simp, fun hpos => ?_⟩, fun u hu => ?_⟩
    · have c0 := (hp 0 hpos).1 0 h0
      obtain ⟨b, off, spot⟩ := x
      have hfl : (f ls[0])[0]? = some ((f ls[0])[0]'(by rw [hk]; exact h0)) := List.getElem?_eq_getElem (by rw [hk]; exact h0)
      rw [hfl] at c0
      have hspot : spot = none := by simpa [Addr.add] using World.cell?_spot c0
      subst hspot
      have hlt : b < W.heap.size := World.block_lt_of_cell? W _ (by simpa [Addr.add] using c0)
      refine ⟨b, off, rfl, hlt, hlt, fun j u hu => ?_⟩
      have hjl : j < ls.length * k := by
        have := (List.getElem?_eq_some_iff.1 hu).1
        rw [flat_len f hk] at this
        exact this
      have hdiv : j / k < ls.length := (Nat.div_lt_iff_lt_mul h0).2 hjl
      have hmod : j % k < k := Nat.mod_lt _ h0
      have h3 := (hp (j / k) hdiv).1 (j % k) hmod
      have h4 := flat_at f hk ls (j / k) _ (List.getElem?_eq_getElem hdiv) (j % k) hmod
      have e : j / k * k + j % k = j := Nat.div_add_mod' j k
      rw [e] at h3 h4
      rw [add_plain, ← h4, hu] at h3
      exact h3
    · obtain ⟨j, hj, rfl⟩ := List.mem_iff_getElem.1 hu
      exact (hp j hj).2
end Go.Proofs.YtlieolehpmobfaaGreatDoor
end
section
namespace Go.Proofs.YtlieolehpmobfaaGreatDoor
open Go.RowKit
set_option maxRecDepth 100000
set_option linter.all false
theorem rmark_info : (Tryz.prog.info? 27).map (fun i => (i.zero, i.size, i.bytes)) = some (some (.agg #[.int .i64 0, .int .i64 0, .string ⟨#[]⟩]), 3, 32) := by kernel_rfl
theorem rinfo_parts {P : Program} {e : TypeId} {z : Value} {n m : Nat} (h : (P.info? e).map (fun i => (i.zero, i.size, i.bytes)) = some (some z, n, m)) : ∃ i, P.info? e = some i ∧ i.zero = some z ∧ i.size = n ∧ i.bytes = m := by
  cases hi : P.info? e with
  | none => rw [hi] at h; cases h
  | some i =>
    rw [hi] at h
    simp only [Option.map_some, Option.some.injEq, Prod.mk.injEq] at h
    exact ⟨i, rfl, h.1, h.2.1, h.2.2⟩
structure Rm (B : World) (v : Value) (l : List Mk) (w : World) : Prop where
  ow : w.ownsRow B.heap.size 27 3 v l.length (l.flatMap mkI)
  ho : Only none_ B w
theorem Rm.keep {B w w' : World} {v : Value} {l : List Mk} (t : Rm B v l w) (o : Only none_ w w') : Rm B v l w' := ⟨owns_only t.ow o (fun _ _ h => h), t.ho.trans o⟩
theorem Rm.app {B w w' : World} {v v' : Value} {l l' : List Mk} {n : Nat} {p : List Value} (t : Rm B v l w) (own : w'.ownsRow B.heap.size 27 3 v' n p) (hn : n = l'.length) (hp : p = l'.flatMap mkI) (hg : w.grownBy w' v.ownBlock) : Rm B v' l' w' := by
  subst hn hp
  exact ⟨own, t.ho.grown hg (fun k hk => .inr (t.ow.lt k hk).1)⟩
theorem Rm.shape {B w : World} {v : Value} {l : List Mk} (t : Rm B v l w) : ∃ A c, v = .slice A l.length c := by
  rcases t.ow.2 with ⟨rfl, h0⟩ | ⟨_, _, _, rfl, _⟩
  · exact ⟨none, 0, by rw [h0]⟩
  · exact ⟨_, _, rfl⟩
theorem mkI_one' (m : Mk) : ∀ u ∈ mkI m, u.oneCell' = true := by
  intro u hu
  simp only [mkI, List.mem_cons, List.not_mem_nil, or_false] at hu
  rcases hu with rfl | rfl | rfl <;> rfl
end Go.Proofs.YtlieolehpmobfaaGreatDoor
end
section
namespace Go.Proofs.YtlieolehpmobfaaGreatDoor
open Go.Joins Go.ChangeShapes Go.WideShapes Go.RowKit Go.Deep
set_option maxRecDepth 100000
def stRow (x : St) : List Value := [.int .i64 x.c, .int .i64 x.s]
theorem stamp_cells {H : Type} {enc : TypeId × Value → H} {W : World} (n : Nat) (r : List Value) (y : DataW H × List MemPlace) (hr : r.length = 2) (h : DataW.trod enc Tryz.prog W 0 (fun _ => true) true n 25 r = some y) :
    ∃ x : St, r = stRow x ∧ (-9223372036854775808 ≤ x.c ∧ x.c ≤ 9223372036854775807) := by
  obtain ⟨y0, y1, n', _, _, h0, h1⟩ := trod_struct2 Tryz.underlying25 h
  match r, hr with
  | [r0, r1], _ =>
    have e0 : Tryz.prog.cellsOf 3 = 1 := by kernel_rfl
    simp only [e0, List.drop_zero, List.drop_succ_cons, List.take_succ_cons, List.take_zero] at h0 h1
    obtain ⟨c, q0, _, w0⟩ := DataW.trod_int Tryz.underlying3 h0
    obtain ⟨s, q1, _, w1⟩ := DataW.trod_int Tryz.underlying3 h1
    simp only [List.cons.injEq, and_true] at q0 q1
    subst q0 q1
    exact ⟨⟨c, s⟩, rfl, bounds_i64 w0⟩
end Go.Proofs.YtlieolehpmobfaaGreatDoor
end
section
namespace Go.Proofs.YtlieolehpmobfaaGreatDoor
open Go.Joins Go.ChangeShapes Go.WideShapes Go.RowKit Go.Deep
set_option maxRecDepth 100000
theorem trod_struct7 {H : Type} {enc : TypeId × Value → H} {P : Program} {w : World} {base : Nat} {spare : Nat → Bool} {held : Bool} {t : TypeId} {f0 f1 f2 f3 f4 f5 f6 : Field} {fuel : Nat} {cs : List Value} {x : DataW H × List MemPlace} (ht : P.underlying t = some (.struct #[f0, f1, f2, f3, f4, f5, f6])) (h : DataW.trod enc P w base spare held fuel t cs = some x) :
    ∃ y0 y1 y2 y3 y4 y5 y6 n, DataW.trod enc P w base spare held n f0.type ((cs.drop f0.offset).take (P.cellsOf f0.type)) = some y0 ∧ DataW.trod enc P w base spare held n f1.type ((cs.drop f1.offset).take (P.cellsOf f1.type)) = some y1 ∧ DataW.trod enc P w base spare held n f2.type ((cs.drop f2.offset).take (P.cellsOf f2.type)) = some y2 ∧ DataW.trod enc P w base spare held n f3.type ((cs.drop f3.offset).take (P.cellsOf f3.type)) = some y3 ∧ DataW.trod enc P w base spare held n f4.type ((cs.drop f4.offset).take (P.cellsOf f4.type)) = some y4 ∧ DataW.trod enc P w base spare held n f5.type ((cs.drop f5.offset).take (P.cellsOf f5.type)) = some y5 ∧ DataW.trod enc P w base spare held n f6.type ((cs.drop f6.offset).take (P.cellsOf f6.type)) = some y6 := by
  obtain ⟨xs, n, _, _, _, hlen, hf⟩ := DataW.trod_struct ht h
  match xs, hlen with
  | [y0, y1, y2, y3, y4, y5, y6], _ => exact ⟨y0, y1, y2, y3, y4, y5, y6, n, by simpa using hf 0 f0 rfl, by simpa using hf 1 f1 rfl, by simpa using hf 2 f2 rfl, by simpa using hf 3 f3 rfl, by simpa using hf 4 f4 rfl, by simpa using hf 5 f5 rfl, by simpa using hf 6 f6 rfl⟩
end Go.Proofs.YtlieolehpmobfaaGreatDoor
end
section
namespace Go.Proofs.YtlieolehpmobfaaGreatDoor
open Go.Joins Go.ChangeShapes Go.WideShapes Go.RowKit Go.Deep
set_option maxRecDepth 100000
def enRow (e : En) : List Value := [.string e.k, .string e.v, .bool e.d, .int .i64 e.s.c, .int .i64 e.s.s, .int .i64 e.a.c, .int .i64 e.a.s, .int .i64 e.p, .int .i64 e.g]
theorem enRow_length (e : En) : (enRow e).length = 9 := rfl
theorem en_cells {H : Type} {enc : TypeId × Value → H} {W : World} (n : Nat) (r : List Value) (y : DataW H × List MemPlace) (hr : r.length = 9) (h : DataW.trod enc Tryz.prog W 0 (fun _ => true) true n 123 r = some y) :
    ∃ x : En, r = enRow x ∧ True := by
  obtain ⟨y0, y1, y2, y3, y4, y5, y6, n, g0, g1, g2, g3, g4, g5, g6⟩ := trod_struct7 Tryz.underlying123 h
  match r, hr with
  | [c0, c1, c2, c3, c4, c5, c6, c7, c8], _ =>
      have e9 : Tryz.prog.cellsOf 9 = 1 := by kernel_rfl
      have e4 : Tryz.prog.cellsOf 4 = 1 := by kernel_rfl
      have e3 : Tryz.prog.cellsOf 3 = 1 := by kernel_rfl
      have e2 : Tryz.prog.cellsOf 25 = 2 := by kernel_rfl
      simp only [e9, e4, e3, e2, List.drop_zero, List.drop_succ_cons, List.take_succ_cons, List.take_zero] at g0 g1 g2 g3 g4 g5 g6
      obtain ⟨s0, q0, _, _⟩ := DataW.trod_string Tryz.underlying9 g0
      obtain ⟨s1, q1, _, _⟩ := DataW.trod_string Tryz.underlying9 g1
      obtain ⟨b2, q2, _⟩ := DataW.trod_bool Tryz.underlying4 g2
      obtain ⟨t3, q3, _⟩ := stamp_cells n _ _ rfl g3
      obtain ⟨t4, q4, _⟩ := stamp_cells n _ _ rfl g4
      obtain ⟨n5, q5, _, _⟩ := DataW.trod_int Tryz.underlying3 g5
      obtain ⟨n6, q6, _, _⟩ := DataW.trod_int Tryz.underlying3 g6
      simp only [stRow, List.cons.injEq, and_true] at q0 q1 q2 q3 q4 q5 q6
      obtain ⟨q3, q3'⟩ := q3
      obtain ⟨q4, q4'⟩ := q4
      subst q0 q1 q2 q3 q3' q4 q4' q5 q6
      exact ⟨⟨s0, s1, b2, t3, t4, n5, n6⟩, rfl, trivial⟩
theorem entries_arg {H : Type} {enc : TypeId × Value → H} {W : World} {a : Option Addr} {len cap : Nat} {d : DataW H} {p : List MemPlace} (h : DataW.Trod enc Tryz.prog W 0 (fun _ => true) true 29 (.slice a len cap) d p) :
    ∃ l : List En, len = l.length ∧ Cel W (fun b => b < W.heap.size) (.slice a len cap) len 9 (l.flatMap enRow) := by
  obtain ⟨l, h1, h2, _⟩ := cel_in enRow _ Tryz.underlying29 (by kernel_rfl) enRow_length (by omega) (fun n r y hr ht => en_cells n r y hr ht) h
  exact ⟨l, h1, h2⟩
end Go.Proofs.YtlieolehpmobfaaGreatDoor
end
section
namespace Go.Proofs.YtlieolehpmobfaaGreatDoor
open Go.RowKit
set_option linter.all false
def SlO {α : Type} (f : α → List Value) (k B : Nat) (e : TypeId) (n : Nat) (l : List α) (v : Value) (w : World) : Prop := ∃ A c, v = .slice A n c ∧ w.ownsRow B e k (.slice A n c) n (l.flatMap f)
section
variable {α : Type} {f : α → List Value} {k B M n : Nat} {e : TypeId} {l : List α} {v : Value} {w w' : World}
theorem SlO.only {S : Nat → Prop} (h : SlO f k B e n l v w) (o : Only S w w') (hn : ∀ b, v.ownBlock = some b → ¬ S b) : SlO f k B e n l v w' := by
  obtain ⟨A, c, e1, h⟩ := h
  subst e1
  exact ⟨A, c, rfl, owns_only h o hn⟩
theorem SlO.keep (h : SlO f k B e n l v w) (o : Only none_ w w') : SlO f k B e n l v w' := h.only o (fun _ _ h => h)
theorem SlO.of (h : w.ownsRow B e k v l.length (l.flatMap f)) (hn : l.length = n) (hb : M ≤ B) : SlO f k M e n l v w := by
  subst hn
  have h := owns_base h hb
  rcases h.2 with ⟨rfl, h0⟩ | ⟨_, _, _, rfl, _⟩
  · exact ⟨none, 0, by rw [h0], by rw [h0]; rw [h0] at h; exact h⟩
  · exact ⟨_, _, rfl, h⟩
theorem in_elem {S : Nat → Prop} {A : Option Addr} {c : Nat} (hk : ∀ x, (f x).length = k) (h0 : 0 < k) (h : Cel w S (.slice A n c) n k (l.flatMap f)) (hn : l.length = n) {i : Nat} {m : α} (hm : l[i]? = some m) :
    ∃ b off, A = some ⟨b, off, none⟩ ∧ S b ∧ b < w.heap.size ∧ ∀ w', Only none_ w w' → ∀ j u, (f m)[j]? = some u → w'.cell? ⟨b, off + i * k + j, none⟩ = some u := by
  obtain ⟨hi, he⟩ := List.getElem?_eq_some_iff.1 hm
  obtain ⟨A', c', e1, _, _, _, _, h4⟩ := h
  injection e1 with e1 _ e3
  subst e1 e3
  obtain ⟨b, off, rfl, hs, hlt, hc⟩ := h4 (by omega)
  refine ⟨b, off, rfl, hs, hlt, fun w' o j u hu => ?_⟩
  have hj : j < k := by have := (List.getElem?_eq_some_iff.1 hu).1; rwa [hk] at this
  rw [Nat.add_assoc]
  exact (o.cell (p := ⟨b, off + (i * k + j), none⟩) hlt (fun h => h)).trans (hc _ _ (by rw [flat_at f hk l i m hm j hj]; exact hu))
theorem one_elem {b : Nat} {t : TypeId} {cs : Array Value} (h : Blk w b t cs) (hk : cs.size = k) : Cel w (fun j => j = b) (.slice (some ⟨b, 0, none⟩) 1 1) 1 k cs.toList :=
  ⟨_, 1, rfl, by simp [hk], Nat.le_refl _, by simp [maxLen], fun e => (by cases e), fun _ => ⟨b, 0, rfl, rfl, h.lt, fun j u hu => by rw [Nat.zero_add, h.cell]; simpa using hu⟩⟩
end
theorem own_apart {w : World} {b b' s s' n n' : Nat} {e e' : TypeId} {v v' : Value} {xs ys : List Value} (h : w.ownsRow b e s v n xs) (h' : w.ownsRow b' e' s' v' n' ys) (hne : e ≠ e') : ∀ k, v.ownBlock = some k → v'.ownBlock ≠ some k := by
  intro k hk hk'
  rcases h.2 with ⟨rfl, _⟩ | ⟨g, cap, cur, rfl, _, hh, _⟩
  · cases hk
  · rcases h'.2 with ⟨rfl, _⟩ | ⟨g', cap', cur', rfl, _, hh', _⟩
    · cases hk'
    · have e1 : some g = some k := hk
      have e2 : some g' = some k := hk'
      injection e1 with e1
      injection e2 with e2
      subst e1
      subst e2
      rw [hh] at hh'
      injection hh' with hh'
      injection hh' with _ hh' _
      exact hne hh'
end Go.Proofs.YtlieolehpmobfaaGreatDoor
end
section
namespace Go.Proofs.YtlieolehpmobfaaGreatDoor
open Go.RowKit
set_option linter.all false
abbrev Pst := Value → World → Prop
def putsL (x : Nat → Value) : List Oper → Nat → Act → Act
  | [], _, a => a
  | o :: r, i, a => putsL x r (i + 1) (a.put o.dst (x i))
def knAll (ps : List Pst) (x : Nat → Value) (w : World) : List Edge → Prop
  | [] => True
  | e :: r => (match Region.binds .any e with
      | true => (match ps[e.on]? with
        | some q => q (x e.on) w
        | none => True)
      | false => True) ∧ knAll ps x w r
def knEnd (x : Nat → Value) (w : World) : List Pst → Nat → Prop
  | [], _ => True
  | p :: r, i => p (x i) w ∧ knEnd x w r (i + 1)
section
variable {P : Program} {S : World → Prop} {R : World → World → Prop}
def Got (P : Program) (S : World → Prop) (R : World → World → Prop) (w0 : World) (p : Pst) : Result Next → Prop
  | .ok (.value u) w => p u w ∧ S w ∧ R w0 w
  | .ok .skip w => p undef w ∧ S w ∧ R w0 w
  | .ok (.enter f args) w => Calls P f args w fun e w' => ∃ v, e = .returned v ∧ p v w' ∧ S w' ∧ R w0 w'
  | _ => False
def Owed (P : Program) (S : World → Prop) (R : World → World → Prop) (F : (Nat → Value) → Act) (ps : List Pst) (o : Oper) (p : Pst) : Prop :=
  ∀ x w, S w → knAll ps x w o.after.toList →
    match o.guard with
    | none => Got P S R w p ((execOp (F x).eval o).run P w)
    | some (j, b) => (x j = .bool b ∧ Got P S R w p ((execOp (F x).eval o).run P w)) ∨ ((x j = .bool (!b) ∨ x j = undef) ∧ p undef w ∧ R w w)
def frList (P : Program) (S : World → Prop) (R : World → World → Prop) (F : (Nat → Value) → Act) (K : List Pst → Prop) : List Oper → List Pst → Prop
  | [], ps => K ps
  | o :: r, ps => ∃ p : Pst, (∀ v w w', S w → S w' → R w w' → p v w → p v w') ∧ Owed P S R F ps o p ∧ frList P S R F K r (ps ++ [p])
def frDst : List Oper → Bool
  | [] => true
  | o :: r => (match o.dst with
      | none => true
      | some d => r.all fun o' => !(o'.dst == some d)) && frDst r
def frAft : List Oper → Nat → Bool
  | [], _ => true
  | o :: r, i => (o.after.toList.all fun e => decide (e.on < i)) && frAft r (i + 1)
def frSlot (l : List Oper) (n : Nat) : Bool := l.all fun o => (match o.dst with
  | none => true
  | some d => decide (d < n)) && (match o.guard with
  | none => true
  | some (j, _) => ((l[j]?).bind (·.dst)).isSome)
theorem frAft_at : ∀ (l : List Oper) (k i : Nat) (o : Oper), frAft l k = true → l[i]? = some o → ∀ e ∈ o.after, e.on < k + i
  | [], _, _, _, _, h => by simp at h
  | p :: r, k, 0, o, hk, h => by
    simp only [frAft, Bool.and_eq_true, List.all_eq_true, decide_eq_true_eq] at hk
    simp only [List.getElem?_cons_zero, Option.some.injEq] at h
    subst h
    intro e he
    exact hk.1 e (by simpa using he)
  | p :: r, k, i + 1, o, hk, h => by
    simp only [frAft, Bool.and_eq_true] at hk
    have := frAft_at r (k + 1) i o hk.2 (by simpa using h)
    intro e he
    have := this e he
    omega
theorem put_put (a : Act) (d : Option Tmp) (v u : Value) : (a.put d v).put d u = a.put d u := by
  cases d with
  | none => rfl
  | some d => simp [Act.put]
theorem put_same (a : Act) (d : Tmp) : a.put (some d) (a.tmps.getD d undef) = a := by
  unfold Act.put
  simp only
  congr 1
  apply Array.ext_getElem?
  intro i
  rw [Array.getElem?_setIfInBounds]
  split
  · next h =>
    subst h
    split
    · next h2 => simp [Array.getD, h2]
    · next h2 => simp [h2]
  · rfl
def oldV (l : List Oper) (k : Nat) (a : Act) : Nat → Value := fun i => match (l[i - k]?).bind (·.dst) with
  | some d => a.tmps.getD d undef
  | none => undef
theorem puts_old (a : Act) (x : Nat → Value) : ∀ (l : List Oper) (k : Nat), (∀ i o d, l[i]? = some o → o.dst = some d → x (k + i) = a.tmps.getD d undef) → putsL x l k a = a
  | [], _, _ => rfl
  | o :: r, k, h => by
    rw [putsL]
    have e : a.put o.dst (x k) = a := by
      cases hd : o.dst with
      | none => rfl
      | some d =>
        have := h 0 o d rfl hd
        rw [Nat.add_zero] at this
        rw [this, put_same]
    rw [e]
    exact puts_old a x r (k + 1) fun i o d hi hd => by
      have := h (i + 1) o d (by simpa using hi) hd
      rw [← this]; congr 1; omega
theorem puts_put (x : Nat → Value) (d : Option Tmp) (v : Value) : ∀ (l : List Oper) (k : Nat) (a : Act), (∀ o ∈ l, ∀ e, d = some e → o.dst ≠ some e) → (putsL x l k a).put d v = putsL x l k (a.put d v)
  | [], _, _, _ => rfl
  | o :: r, k, a, h => by
    rw [putsL, putsL, puts_put x d v r (k + 1) _ (fun o ho => h o (List.mem_cons_of_mem _ ho)), Act.put_comm a v (x k) (fun e he => h o List.mem_cons_self e he)]
theorem puts_congr (x y : Nat → Value) : ∀ (l : List Oper) (k : Nat) (a : Act), (∀ i, k ≤ i → x i = y i) → putsL x l k a = putsL y l k a
  | [], _, _, _ => rfl
  | o :: r, k, a, h => by rw [putsL, putsL, h k (Nat.le_refl _)]; exact puts_congr x y r (k + 1) _ fun i hi => h i (by omega)
def updN (x : Nat → Value) (i : Nat) (v : Value) : Nat → Value := fun j => if j = i then v else x j
theorem puts_set (x : Nat → Value) (v : Value) : ∀ (l : List Oper) (k i : Nat) (a : Act) (o : Oper), frDst l = true → l[i]? = some o → (putsL x l k a).put o.dst v = putsL (updN x (k + i) v) l k a
  | [], _, _, _, _, _, h => by simp at h
  | p :: r, k, 0, a, o, hd, h => by
    simp only [List.getElem?_cons_zero, Option.some.injEq] at h
    subst h
    simp only [frDst, Bool.and_eq_true] at hd
    rw [putsL, putsL, puts_put, put_put]
    simp only [Nat.add_zero]
    · have e : updN x k v k = v := by simp [updN]
      rw [e]
      exact puts_congr _ _ _ _ _ fun i hi => by simp only [updN]; rw [if_neg (by omega)]
    · intro o ho e he hc
      have hd := hd.1
      rw [he] at hd
      simp only [List.all_eq_true] at hd
      have := hd o ho
      rw [hc] at this
      simp at this
  | p :: r, k, i + 1, a, o, hd, h => by
    simp only [frDst, Bool.and_eq_true] at hd
    rw [putsL, putsL]
    have e : updN x (k + (i + 1)) v k = x k := by simp only [updN]; rw [if_neg (by omega)]
    rw [e, puts_set x v r (k + 1) i _ o hd.2 (by simpa using h)]
    congr 2
    omega
theorem put_size (a : Act) (d : Option Tmp) (v : Value) : (a.put d v).tmps.size = a.tmps.size := by
  cases d with
  | none => rfl
  | some d => simp [Act.put]
theorem puts_size (x : Nat → Value) : ∀ (l : List Oper) (k : Nat) (a : Act), (putsL x l k a).tmps.size = a.tmps.size
  | [], _, _ => rfl
  | o :: r, k, a => by rw [putsL, puts_size x r (k + 1), put_size]
theorem puts_at (x : Nat → Value) (l : List Oper) (i : Nat) (a : Act) (o : Oper) (d : Tmp) (hd : frDst l = true) (hi : l[i]? = some o) (ho : o.dst = some d) (hs : d < a.tmps.size) : (putsL x l 0 a).tmps[d]? = some (x i) := by
  have h := puts_set x (x i) l 0 i a o hd hi
  have e : updN x (0 + i) (x i) = x := by funext j; simp only [updN, Nat.zero_add]; split <;> simp_all
  rw [e, ho] at h
  have h2 : ((putsL x l 0 a).put (some d) (x i)).tmps[d]? = some (x i) := by
    simp [Act.put, Array.getElem?_setIfInBounds, puts_size, hs]
  rwa [h] at h2
theorem puts_want {x : Nat → Value} {l : List Oper} {a : Act} {o : Oper} {j : Nat} {b : Bool} (hd : frDst l = true) (hs : frSlot l a.tmps.size = true) (ho : o ∈ l) (hg : o.guard = some (j, b)) :
    (x j = .bool b → Region.wanted o (yielded l.toArray (putsL x l 0 a).tmps) = true) ∧ ((x j = .bool (!b) ∨ x j = undef) → Region.wanted o (yielded l.toArray (putsL x l 0 a).tmps) = false) := by
  have hs' := hs
  simp only [frSlot, List.all_eq_true, Bool.and_eq_true] at hs
  have h1 := (hs o ho).2
  rw [hg] at h1
  simp only at h1
  cases hj : l[j]? with
  | none => rw [hj] at h1; cases h1
  | some oj =>
    rw [hj] at h1
    simp only [Option.bind_some] at h1
    cases hdj : oj.dst with
    | none => rw [hdj] at h1; cases h1
    | some d =>
      have hlt : d < a.tmps.size := by
        have h2 := (hs oj (List.mem_of_getElem? hj)).1
        rw [hdj] at h2
        simpa using h2
      have h3 := puts_at x l j a oj d hd hj hdj hlt
      have hy : ∀ v, x j = v → yielded l.toArray (putsL x l 0 a).tmps j = (match v with
        | .bool b => some b
        | _ => none) := by
        intro v hv
        subst hv
        unfold yielded
        simp only [List.getElem?_toArray, hj, Option.bind_some, hdj, h3]
        cases x j <;> rfl
      unfold Region.wanted
      rw [hg]
      simp only
      constructor
      · intro e; rw [hy _ e]; simp
      · rintro (e | e)
        · rw [hy _ e]; cases b <;> rfl
        · rw [hy _ e]; cases b <;> rfl
structure FrInv (l : List Oper) (S : World → Prop) (ps : List Pst) (listed : Array Bool) (x : Nat → Value) (w : World) : Prop where
  sz : listed.size = l.length
  s : S w
  kn : ∀ (j : Nat) (q : Pst), listed.getD j false = true → ps[j]? = some q → q (x j) w
def unl (n : Nat) (listed : Array Bool) : Nat := (List.range n).countP fun i => !listed.getD i true
theorem unl_zero {n : Nat} {listed : Array Bool} (h : unl n listed = 0) (i : Nat) (hi : i < n) : listed.getD i true = true := by
  have := List.countP_eq_zero.1 h i (List.mem_range.2 hi)
  simpa using this
theorem unl_set {n : Nat} {listed : Array Bool} {i : Nat} (hs : listed.size = n) (h : listed.getD i true = false) : unl n (listed.setIfInBounds i true) + 1 ≤ unl n listed := by
  have hi : i < n := by
    rcases Nat.lt_or_ge i n with h1 | h1
    · exact h1
    · rw [Array.getD_eq_getD_getElem?, Array.getElem?_eq_none (by omega)] at h; cases h
  unfold unl
  have e : ∀ m, i < m → (List.range m).countP (fun j => !(listed.setIfInBounds i true).getD j true) + 1 = (List.range m).countP fun j => !listed.getD j true := by
    intro m
    induction m with
    | zero => intro h; omega
    | succ m ih =>
      intro hm
      rw [List.range_succ, List.countP_append, List.countP_append]
      by_cases h1 : i < m
      · have hne : i ≠ m := by omega
        have := ih h1
        simp only [List.countP_singleton, getD_set_ne true hne]
        omega
      · obtain rfl : i = m := by omega
        have e1 : (List.range i).countP (fun j => !(listed.setIfInBounds i true).getD j true) = (List.range i).countP fun j => !listed.getD j true := by
          refine List.countP_congr fun j hj => ?_
          have : i ≠ j := by have := List.mem_range.1 hj; omega
          rw [getD_set_ne true this]
        have e2 : (listed.setIfInBounds i true).getD i true = true := by
          simp [Array.getD_eq_getD_getElem?, Array.getElem?_setIfInBounds]
          split <;> simp
        simp only [List.countP_singleton, e1, e2, h]
        simp
  have := e n hi
  omega
theorem ready_none {l : List Oper} {listed : Array Bool} (ha : frAft l 0 = true) (hs : listed.size = l.length) (h : Region.ready .any l.toArray listed = []) : ∀ i, i < l.length → listed.getD i false = true := by
  intro i
  induction i using Nat.strongRecOn with
  | _ i ih =>
    intro hi
    cases hl : listed.getD i false with
    | true => rfl
    | false =>
      have hm : i ∈ Region.ready .any l.toArray listed := by
        refine mem_ready.2 ⟨getD_in (by omega) hl, l[i], by simp [hi], fun e he _ => ?_⟩
        have := frAft_at l 0 i l[i] ha (List.getElem?_eq_getElem hi) e he
        exact ih e.on (by omega) (by omega)
      rw [h] at hm
      cases hm
theorem knAll_of (ps qs : List Pst) (x : Nat → Value) (w : World) (hpq : ∀ (j : Nat) (q : Pst), qs[j]? = some q → ps[j]? = some q) : ∀ (es : List Edge), (∀ e ∈ es, Region.binds .any e = true → ∀ q : Pst, ps[e.on]? = some q → q (x e.on) w) → knAll qs x w es
  | [], _ => trivial
  | e :: r, h => by
    refine ⟨?_, knAll_of ps qs x w hpq r fun e he => h e (List.mem_cons_of_mem _ he)⟩
    split
    · next hb =>
      split
      · next q hq => exact h e List.mem_cons_self hb q (hpq _ _ hq)
      · trivial
    · trivial
theorem knEnd_of (x : Nat → Value) (w : World) : ∀ (ps : List Pst) (k : Nat), (∀ (j : Nat) (q : Pst), ps[j]? = some q → q (x (k + j)) w) → knEnd x w ps k
  | [], _, _ => trivial
  | p :: r, k, h => ⟨by have := h 0 p rfl; rwa [Nat.add_zero] at this, knEnd_of x w r (k + 1) fun j q hq => by have := h (j + 1) q (by simpa using hq); rw [show k + 1 + j = k + (j + 1) by omega]; exact this⟩
theorem fr_all {F : (Nat → Value) → Act} {K : List Pst → Prop} : ∀ (r : List Oper) (ps : List Pst), frList P S R F K r ps →
    ∃ qs : List Pst, K (ps ++ qs) ∧ qs.length = r.length ∧ ∀ i o p, r[i]? = some o → qs[i]? = some p → (∀ v w w', S w → S w' → R w w' → p v w → p v w') ∧ Owed P S R F (ps ++ qs.take i) o p
  | [], ps, h => ⟨[], by rw [List.append_nil]; exact h, rfl, fun i o p h => by simp at h⟩
  | o :: r, ps, h => by
    obtain ⟨p, h1, h2, h3⟩ := h
    obtain ⟨qs, k1, k2, k3⟩ := fr_all r (ps ++ [p]) h3
    refine ⟨p :: qs, by simpa using k1, by simp [k2], fun i o' p' ho hp => ?_⟩
    cases i with
    | zero =>
      simp only [List.getElem?_cons_zero, Option.some.injEq] at ho hp
      subst ho hp
      refine ⟨h1, ?_⟩
      rw [List.take_zero, List.append_nil]
      exact h2
    | succ i =>
      have := k3 i o' p' (by simpa using ho) (by simpa using hp)
      rw [List.take_succ_cons]
      simpa using this
theorem fr_wp {l : List Oper} {F : (Nat → Value) → Act} {a : Act} {Q : Exit → Act → World → Prop} {ps : List Pst} (hd : frDst l = true) (ha : frAft l 0 = true) (hsl : frSlot l a.tmps.size = true) (hF : ∀ x, putsL x l 0 a = F x) (hlen : ps.length = l.length)
    (hO : ∀ i o p, l[i]? = some o → ps[i]? = some p → (∀ v w w', S w → S w' → R w w' → p v w → p v w') ∧ Owed P S R F (ps.take i) o p)
    (hQ : ∀ x w, S w → knEnd x w ps 0 → Q .normal (F x) w) :
    ∀ (f : Nat) (listed : Array Bool) (x : Nat → Value) (w : World), unl l.length listed ≤ f → FrInv l S ps listed x w → wpAny P .any l.toArray Q f listed (F x) w := by
  have hend : ∀ (listed : Array Bool) (x : Nat → Value) (w : World), FrInv l S ps listed x w → (∀ i, i < l.length → listed.getD i false = true) → Q .normal (F x) w := fun listed x w inv h =>
    hQ x w inv.s (knEnd_of x w ps 0 fun j q hq => by
      have hj : j < ps.length := (List.getElem?_eq_some_iff.1 hq).1
      rw [Nat.zero_add]
      exact inv.kn j q (h j (by omega)) hq)
  intro f
  induction f with
  | zero =>
    intro listed x w hu inv
    have hall : ∀ i, i < l.length → listed.getD i false = true := fun i hi => by
      have h1 := unl_zero (listed := listed) (n := l.length) (by omega) i hi
      cases h2 : listed.getD i false with
      | true => rfl
      | false => rw [getD_in (by have := inv.sz; omega) h2] at h1; cases h1
    refine ⟨?_, hend listed x w inv hall⟩
    refine List.eq_nil_iff_forall_not_mem.2 fun i hi => ?_
    obtain ⟨h1, o, ho, _⟩ := mem_ready.1 hi
    have hil : i < l.length := by simpa using (Array.getElem?_eq_some_iff.1 ho).1
    rw [unl_zero (n := l.length) (by omega) i hil] at h1
    cases h1
  | succ f ih =>
    intro listed x w hu inv
    refine ⟨fun h => hend listed x w inv (ready_none ha inv.sz h), fun i hi => ?_⟩
    obtain ⟨h1, o, ho, hw⟩ := mem_ready.1 hi
    have hil : i < l.length := by simpa using (Array.getElem?_eq_some_iff.1 ho).1
    have hol : l[i]? = some o := by simpa using ho
    have hp : ps[i]? = some ps[i] := List.getElem?_eq_getElem (by omega)
    obtain ⟨_, how⟩ := hO i o _ hol hp
    have hk : knAll (ps.take i) x w o.after.toList := knAll_of ps _ x w (fun j q hq => by
      rw [List.getElem?_take] at hq
      split at hq
      · exact hq
      · cases hq) _ fun e he hb q hq => inv.kn e.on q (hw e (by simpa using he) hb) hq
    have step : ∀ v w', S w' → R w w' → ps[i] v w' → wpAny P .any l.toArray Q f (listed.setIfInBounds i true) ((F x).put o.dst v) w' := by
      intro v w' hS hR hpv
      have e : (F x).put o.dst v = F (updN x i v) := by
        have := puts_set x v l 0 i a o hd hol
        rw [Nat.zero_add] at this
        rw [← hF, this, hF]
      rw [e]
      refine ih _ _ _ (by have := unl_set (n := l.length) inv.sz h1; omega) ⟨by rw [Array.size_setIfInBounds]; exact inv.sz, hS, fun j q hj hq => ?_⟩
      by_cases hji : j = i
      · subst hji
        rw [hp] at hq
        injection hq with hq
        subst hq
        simp only [updN, if_true]
        exact hpv
      · simp only [updN, if_neg hji]
        have hj' : listed.getD j false = true := by
          have : i ≠ j := fun e => hji e.symm
          rwa [getD_set_ne false this] at hj
        have hjl : j < l.length := by
          have := (List.getElem?_eq_some_iff.1 hq).1
          omega
        exact (hO j l[j] q (List.getElem?_eq_getElem hjl) hq).1 _ w w' inv.s hS hR (inv.kn j q hj' hq)
    unfold wpOp
    simp only [ho]
    have hgot : Got P S R w ps[i] ((execOp (F x).eval o).run P w) → o.wp P (F x) w (wpAny P .any l.toArray Q f (listed.setIfInBounds i true)) Q := by
      intro hg
      unfold Oper.wp
      generalize (execOp (F x).eval o).run P w = r at hg ⊢
      cases r with
      | halt z w' => exact hg.elim
      | ok n w' =>
        cases n <;> simp only [Got] at hg <;> simp only [Oper.upon]
        case value u => exact step u w' hg.2.1 hg.2.2 hg.1
        case skip => exact step undef w' hg.2.1 hg.2.2 hg.1
        case enter g args => exact hg.mono fun e w'' ⟨v, he, h1, h2, h3⟩ => by subst he; exact step v w'' h2 h3 h1
    have how := how x w inv.s hk
    cases hgd : o.guard with
    | none =>
      rw [hgd] at how
      rw [if_pos (by simp [Region.wanted, hgd])]
      exact .inl (hgot how)
    | some jb =>
      obtain ⟨j, b⟩ := jb
      rw [hgd] at how
      have hw2 := puts_want (x := x) (a := a) hd hsl (List.mem_of_getElem? hol) hgd
      rw [hF] at hw2
      rcases how with ⟨e, hg⟩ | ⟨e, hg, hr⟩
      · rw [if_pos (hw2.1 e)]
        exact .inl (hgot hg)
      · rw [if_neg (by rw [hw2.2 e]; simp)]
        exact step undef w inv.s hr hg
theorem any_region_free (S : World → Prop) (R : World → World → Prop) {Q : Exit → Act → World → Prop} {a : Act} {w : World} {l : List Oper} {F : (Nat → Value) → Act} (n : Nat) (hn : a.tmps.size = n) (hB : (frDst l && frAft l 0 && frSlot l n) = true) (hF : ∀ x, putsL x l 0 a = F x) (hS : S w.drew)
    (h : frList P S R F (fun ps => ∀ x w', S w' → knEnd x w' ps 0 → Q .normal (F x) w') l []) : wpAny P .any l.toArray Q l.toArray.size (Array.replicate l.toArray.size false) a w.drew := by
  simp only [Bool.and_eq_true] at hB
  obtain ⟨qs, k1, k2, k3⟩ := fr_all l [] h
  rw [List.nil_append] at k1
  have hx : F (oldV l 0 a) = a := by
    rw [← hF]
    refine puts_old a _ l 0 fun i o d hi hd => ?_
    simp only [oldV, Nat.zero_add, Nat.sub_zero, hi, Option.bind_some, hd]
  have inv : FrInv l S qs (Array.replicate l.length false) (oldV l 0 a) w.drew := ⟨by simp, hS, fun j q hj _ => by rw [getD_replicate_false] at hj; cases hj⟩
  have := fr_wp (P := P) (S := S) (R := R) (F := F) (a := a) (Q := Q) hB.1.1 hB.1.2 (hn ▸ hB.2) hF k2 (fun i o p hi hp => by have := k3 i o p hi hp; rwa [List.nil_append] at this) k1 l.length _ _ _ (by
    unfold unl
    have := List.countP_le_length (p := fun i => !(Array.replicate l.length false).getD i true) (l := List.range l.length)
    simpa using this) inv
  rw [hx] at this
  simpa using this
theorem wp_region_free (S : World → Prop) (R : World → World → Prop) {id : Nat} {Q : Exit → Act → World → Prop} {a : Act} {w : World} {l : List Oper} {F : (Nat → Value) → Act} (hm : P.follows .mixedOrders = true) (n : Nat) (hn : a.tmps.size = n) (hB : (frDst l && frAft l 0 && frSlot l n) = true) (hF : ∀ x, putsL x l 0 a = F x) (hS : S w.drew)
    (h : frList P S R F (fun ps => ∀ x w', S w' → knEnd x w' ps 0 → Q .normal (F x) w') l []) : (Code.region id l.toArray true).wp P Q a w :=
  wp_region_any hm (any_region_free S R n hn hB hF hS h)
/-! The steps of a walk. -/
variable {F : (Nat → Value) → Act} {K : List Pst → Prop} {o : Oper} {r : List Oper} {ps : List Pst}
theorem kn_at {x : Nat → Value} {w : World} {j : Nat} {q : Pst} (hj : ps[j]? = some q) : ∀ {es : List Edge}, knAll ps x w es → (es.any fun e => Region.binds .any e && (e.on == j)) = true → q (x j) w
  | [], _, h => by simp at h
  | e :: es, hk, h => by
    simp only [List.any_cons, Bool.or_eq_true, Bool.and_eq_true, beq_iff_eq] at h
    rcases h with ⟨h1, h2⟩ | h
    · have := hk.1
      rw [h1] at this
      simp only [h2, hj] at this
      exact this
    · exact kn_at hj hk.2 h
theorem fr_value {c : Value} (hg : o.guard = none) (hR : ∀ w, R w w) (hv : ∀ x w, S w → knAll ps x w o.after.toList → (execOp (F x).eval o).run P w = .ok (.value c) w) (h : frList P S R F K r (ps ++ [fun v _ => v = c])) : frList P S R F K (o :: r) ps :=
  ⟨_, fun _ _ _ _ _ _ h => h, fun x w hS hk => by rw [hg]; simp only; rw [hv x w hS hk]; exact ⟨rfl, hS, hR w⟩, h⟩
theorem fr_value_if {c : Value} {j : Nat} {b : Bool} (hg : o.guard = some (j, b)) (hj : ps[j]? = some fun v _ => v = .bool b) (he : (o.after.toList.any fun e => Region.binds .any e && (e.on == j)) = true) (hR : ∀ w, R w w) (hv : ∀ x w, S w → knAll ps x w o.after.toList → (execOp (F x).eval o).run P w = .ok (.value c) w) (h : frList P S R F K r (ps ++ [fun v _ => v = c])) : frList P S R F K (o :: r) ps :=
  ⟨_, fun _ _ _ _ _ _ h => h, fun x w hS hk => by rw [hg]; simp only; rw [hv x w hS hk]; exact .inl ⟨kn_at hj hk he, rfl, hS, hR w⟩, h⟩
theorem fr_skip {j : Nat} {b : Bool} (hg : o.guard = some (j, b)) (hj : ps[j]? = some fun v _ => v = .bool (!b)) (he : (o.after.toList.any fun e => Region.binds .any e && (e.on == j)) = true) (hR : ∀ w, R w w) (h : frList P S R F K r (ps ++ [fun v _ => v = undef])) : frList P S R F K (o :: r) ps :=
  ⟨_, fun _ _ _ _ _ _ h => h, fun x w hS hk => by rw [hg]; exact .inr ⟨.inl (kn_at hj hk he), rfl, hR w⟩, h⟩
theorem fr_skip_too {j : Nat} {b : Bool} (hg : o.guard = some (j, b)) (hj : ps[j]? = some fun v _ => v = undef) (he : (o.after.toList.any fun e => Region.binds .any e && (e.on == j)) = true) (hR : ∀ w, R w w) (h : frList P S R F K r (ps ++ [fun v _ => v = undef])) : frList P S R F K (o :: r) ps :=
  ⟨_, fun _ _ _ _ _ _ h => h, fun x w hS hk => by rw [hg]; exact .inr ⟨.inr (kn_at hj hk he), rfl, hR w⟩, h⟩
theorem fr_some (p : Pst) (hp : ∀ v w w', S w → S w' → R w w' → p v w → p v w') (hg : o.guard = none) (hv : ∀ x w, S w → knAll ps x w o.after.toList → Got P S R w p ((execOp (F x).eval o).run P w)) (h : frList P S R F K r (ps ++ [p])) : frList P S R F K (o :: r) ps :=
  ⟨p, hp, fun x w hS hk => by rw [hg]; exact hv x w hS hk, h⟩
theorem fr_some_if (p : Pst) (hp : ∀ v w w', S w → S w' → R w w' → p v w → p v w') {j : Nat} {b : Bool} (hg : o.guard = some (j, b)) (hj : ps[j]? = some fun v _ => v = .bool b) (he : (o.after.toList.any fun e => Region.binds .any e && (e.on == j)) = true) (hv : ∀ x w, S w → knAll ps x w o.after.toList → Got P S R w p ((execOp (F x).eval o).run P w)) (h : frList P S R F K r (ps ++ [p])) : frList P S R F K (o :: r) ps :=
  ⟨p, hp, fun x w hS hk => by rw [hg]; exact .inl ⟨kn_at hj hk he, hv x w hS hk⟩, h⟩
theorem got_call {w : World} {p : Pst} {f : FuncId} {args : Array Value} {z : Result Next} (hz : z = .ok (.enter f args) w) (h : Calls P f args w fun e w' => ∃ v, e = .returned v ∧ p v w' ∧ S w' ∧ R w w') : Got P S R w p z := by
  subst hz; exact h
theorem kn_end_at {x : Nat → Value} {w : World} : ∀ {ps : List Pst} {k : Nat} (j : Nat) {q : Pst}, knEnd x w ps k → ps[j]? = some q → q (x (k + j)) w
  | [], _, _, _, _, h => by simp at h
  | p :: r, k, 0, q, hk, h => by
    simp only [List.getElem?_cons_zero, Option.some.injEq] at h
    subst h
    exact hk.1
  | p :: r, k, j + 1, q, hk, h => by
    have := kn_end_at j hk.2 (by simpa using h)
    rwa [show k + 1 + j = k + (j + 1) by omega] at this
theorem fr_end (h : K ps) : frList P S R F K [] ps := h
end
end Go.Proofs.YtlieolehpmobfaaGreatDoor
end
