/- Texts of mine, one behind the other: Opn, Pce, TbCe. No statement of the seat is proved here. -/
import Derived.Test.YtniacolkjdmflaaRows
import Derived.Test.YtniacolkjdmflaaPg1
import Derived.Test.YtniacolkjdmflaaPg2
import Derived.ProofKit
import Derived.OpenShut
import Derived.ShutString
import Derived.ChangeOld
import Derived.Deep.Slices
import Derived.Deep.Fields
import Derived.Lib.SmallJoins
import Derived.Laws.Tables
import Derived.Test.YtniacolkjdmflaaPg4
import Derived.Test.YtniacolkjdmflaaPg3
section
namespace Go.Proofs.Ytniacolkjdmflaa
open Go.ChangeShapes Go.WideShapes Go.ChangeAt Go.RowKit
set_option linter.unusedVariables false

theorem own : ownKnob Try.prog.godebug = none := by kernel_rfl
theorem laidOut : laidOutB Try.prog = true := by kernel_rfl

theorem slice_one {H : Type} {enc : TypeId × Value → H} {P : Program} {w : World} {t e : TypeId} {n : Nat} {x : Value} {y : DataW H × List MemPlace} (ht : P.underlying t = some (.slice e)) (h : DataW.trod enc P w 0 (fun _ => true) true n t [x] = some y) :
    ∃ A l c, x = .slice A l c := by
  rcases Go.Deep.open_slice ht h with ⟨h0, _⟩ | ⟨a, len, cap, m, n, D, Pl, hcs, _⟩
  · simp at h0; exact ⟨_, _, _, h0⟩
  · simp at hcs; exact ⟨_, _, _, hcs⟩

theorem add_plain (b off n : Nat) : (⟨b, off, none⟩ : Addr).add n = ⟨b, off + n, none⟩ := by unfold Addr.add; split <;> simp_all
theorem list_of {α : Type} (n : Nat) (p : Nat → α → Prop) (h : ∀ i, i < n → ∃ a, p i a) : ∃ l : List α, l.length = n ∧ ∀ i (hi : i < l.length), p i l[i] := by
  induction n with
  | zero => exact ⟨[], rfl, fun i hi => absurd hi (by simp)⟩
  | succ n ih =>
    obtain ⟨l, hl, hp⟩ := ih fun i hi => h i (by omega)
    obtain ⟨a, ha⟩ := h n (by omega)
    refine ⟨l ++ [a], by simp [hl], fun i hi => ?_⟩
    by_cases hin : i < l.length
    · rw [List.getElem_append_left hin]; exact hp i hin
    · have : i = n := by simp at hi; omega
      subst this
      rw [List.getElem_append_right (by omega)]
      simpa [hl] using ha
theorem okWide_array {P : Program} {w : World} {r : Reach} {base : Nat} {t e : TypeId} {n : Nat} {v : Value} (ht : P.underlying t = some (.array n e)) (h : Value.okWide P w r base t v) : ∃ cs, v = .agg cs ∧ cs.size = P.cellsOf t := by
  unfold Value.okWide at h
  rw [ht] at h
  obtain ⟨cs, h1, h2, _⟩ := h
  exact ⟨cs, h1, h2⟩

/-- Elements of k cells each, one behind the other: cell j of element i. -/
theorem flat_at {α : Type} {k : Nat} (f : α → List Value) (hk : ∀ x, (f x).length = k) : ∀ (l : List α) (i : Nat) (x : α), l[i]? = some x → ∀ j, j < k → (l.flatMap f)[i * k + j]? = (f x)[j]?
  | [], i, x, h => by simp at h
  | y :: l, 0, x, h => fun j hj => by
    have : y = x := by simpa using h
    subst this
    rw [List.flatMap_cons, Nat.zero_mul, Nat.zero_add, List.getElem?_append_left (by rw [hk]; exact hj)]
  | y :: l, i + 1, x, h => fun j hj => by
    have := flat_at f hk l i x (by simpa using h) j hj
    rw [List.flatMap_cons, List.getElem?_append_right (by rw [hk, Nat.succ_mul]; omega), hk, ← this]
    congr 1
    rw [Nat.succ_mul]
    omega
theorem flat_len {α : Type} {k : Nat} (f : α → List Value) (hk : ∀ x, (f x).length = k) : ∀ l : List α, (l.flatMap f).length = l.length * k
  | [] => by simp
  | y :: l => by rw [List.flatMap_cons, List.length_append, hk, flat_len f hk l, List.length_cons, Nat.succ_mul]; omega

/-- A slice that came in, of elements of k cells each: it reads as a list, if each element does. -/
theorem cel_in {H : Type} {enc : TypeId × Value → H} {P : Program} {W : World} {t e : TypeId} {k : Nat} {α : Type} (f : α → List Value) (Q : α → Prop) (ht : P.underlying t = some (.slice e)) (hC : P.cellsOf e = k) (hk : ∀ x, (f x).length = k) (h0 : 0 < k)
    (read : ∀ (n : Nat) (r : List Value) (y : DataW H × List MemPlace), r.length = k → DataW.trod enc P W 0 (fun _ => true) true n e r = some y → ∃ x, r = f x ∧ Q x)
    {a : Option Addr} {len cap : Nat} {d : DataW H} {p : List MemPlace} (h : DataW.Trod enc P W 0 (fun _ => true) true t (.slice a len cap) d p) :
    ∃ l : List α, len = l.length ∧ Cel W (fun b => b < W.heap.size) (.slice a len cap) len k (l.flatMap f) ∧ ∀ x ∈ l, Q x := by
  obtain ⟨fuel, hf⟩ := h
  rcases Go.Deep.open_slice ht hf with ⟨hcs, _⟩ | ⟨x, len', cap', m, n, D, Pl, hcs, _, hl, hm, hmm, _, hi⟩
  · simp [Value.cells] at hcs
    obtain ⟨rfl, rfl, rfl⟩ := hcs
    exact ⟨[], rfl, Cel.nil _ _ _, by simp⟩
  · simp [Value.cells] at hcs
    obtain ⟨rfl, rfl, rfl⟩ := hcs
    rw [hC] at hi
    have hlm : len ≤ m := by rw [hmm]; split <;> omega
    obtain ⟨ls, hls, hp⟩ := list_of len (fun i (u : α) => (∀ j, j < k → W.cell? (x.add (i * k + j)) = (f u)[j]?) ∧ Q u) (fun i hil => by
      obtain ⟨r, hr, htr⟩ := hi i (by omega)
      obtain ⟨_, hrl, hat⟩ := World.cells?_some hr
      obtain ⟨u, rfl, hq⟩ := read _ _ _ hrl htr
      refine ⟨u, fun j hj => ?_, hq⟩
      have h2 := hat j hj
      rw [Go.Deep.add_add] at h2
      exact h2)
    subst hls
    refine ⟨ls, rfl, ⟨some x, cap, rfl, flat_len f hk ls, hl, hm, by simp, fun hpos => ?_⟩, fun u hu => ?_⟩
    · have c0 := (hp 0 hpos).1 0 h0
      obtain ⟨b, off, spot⟩ := x
      have hfl : (f ls[0])[0]? = some ((f ls[0])[0]'(by rw [hk]; exact h0)) := List.getElem?_eq_getElem (by rw [hk]; exact h0)
      rw [hfl] at c0
      have hspot : spot = none := by simpa [Addr.add] using World.cell?_spot c0
      subst hspot
      have hlt : b < W.heap.size := World.block_lt_of_cell? W _ (by simpa [Addr.add] using c0)
      refine ⟨b, off, rfl, hlt, hlt, fun j u hu => ?_⟩
      have hjl : j < ls.length * k := by
        have := (List.getElem?_eq_some_iff.1 hu).1
        rw [flat_len f hk] at this
        exact this
      have hdiv : j / k < ls.length := (Nat.div_lt_iff_lt_mul h0).2 hjl
      have hmod : j % k < k := Nat.mod_lt _ h0
      have h3 := (hp (j / k) hdiv).1 (j % k) hmod
      have h4 := flat_at f hk ls (j / k) _ (List.getElem?_eq_getElem hdiv) (j % k) hmod
      have e : j / k * k + j % k = j := Nat.div_add_mod' j k
      rw [e] at h3 h4
      rw [add_plain, ← h4, hu] at h3
      exact h3
    · obtain ⟨j, hj, rfl⟩ := List.mem_iff_getElem.1 hu
      exact (hp j hj).2
end Go.Proofs.Ytniacolkjdmflaa
end
section
namespace Go.Proofs.Ytniacolkjdmflaa
open Go.RowKit
set_option maxRecDepth 100000
set_option linter.all false

theorem run_load_piece {P : Program} (w : World) (g off : Nat) (ty : TypeId) (cs : Array Value) (d : TypeDesc) (hc : ∀ j u, cs.toList[j]? = some u → w.cell? ⟨g, off + j, none⟩ = some u)
    (hu : P.underlying ty = some d) (hd : (match d with | .struct _ | .array _ _ => true | _ => false) = true) (hi : (P.info? ty).map (·.size) = some cs.size) :
    (loadVar ty ⟨g, off, none⟩).run P w = .ok (.agg cs) w := by
  have hl : (loadCells ⟨g, off, none⟩ cs.toList.length).run P w = .ok cs.toList.toArray w :=
    run_loadCells_list (P := P) w ⟨g, off, none⟩ cs.toList (fun j v hv => by
      have hadd : (⟨g, off, none⟩ : Addr).add j = ⟨g, off + j, none⟩ := by unfold Addr.add; split <;> simp_all
      rw [hadd]
      exact hc j v hv)
  cases hq : P.info? ty with
  | none => simp [hq] at hi
  | some i =>
    have hs : i.size = cs.size := by simpa [hq] using hi
    have hagg : (isAgg ty).run P w = .ok true w := by
      unfold isAgg
      rw [Sem.run_bind, run_underlying hu w]
      cases d <;> simp_all
    simp only [Array.length_toList, Array.toArray_toList] at hl
    simp [loadVar, Sem.run_bind, hagg, sizeOf, typeInfo, hq, hs, hl]
theorem wpl_piece {P : Program} {ops : Array Oper} {rest : List Oper} {o : Oper} {a : Act} {w : World} {Q : Exit → Act → World → Prop} (hgd : o.guard = none) (ty : TypeId) (x : Operand) (ho : o.op = .load ty x)
    (g off : Nat) (hx : a.eval x = .pointer (some ⟨g, off, none⟩)) (cs : Array Value) (d : TypeDesc) (hc : ∀ j u, cs.toList[j]? = some u → w.cell? ⟨g, off + j, none⟩ = some u)
    (hu : P.underlying ty = some d) (hd : (match d with | .struct _ | .array _ _ => true | _ => false) = true) (hi : (P.info? ty).map (·.size) = some cs.size)
    (h : wpList P ops Q rest (a.put o.dst (.agg cs)) w) : wpList P ops Q (o :: rest) a w := by
  refine wpList_plain hgd fun K hK => ?_
  unfold Oper.wp execOp
  simp only [ho, hx, Instr.loadAt, Instr.sureAddr, Sem.run_bind, Sem.run_pure, Result.andThen_ok, run_load_piece w g off ty cs d hc hu hd hi]
  exact hK _ _ h
/-- A piece of a block. -/
theorem Blk.piece {w : World} {g : Nat} {t : TypeId} {cs : Array Value} (h : Blk w g t cs) (off : Nat) (ps : Array Value) (hp : ∀ j u, ps.toList[j]? = some u → cs[off + j]? = some u) : ∀ j u, ps.toList[j]? = some u → w.cell? ⟨g, off + j, none⟩ = some u :=
  fun j u hu => (h.cell (off + j)).trans (hp j u hu)
theorem setRow_alloc (w : World) (old cs : Array Value) (t : TypeId) : (w.alloc (.cells old t)).setRow w.heap.size cs = w.alloc (.cells cs t) := by
  unfold World.setRow World.alloc
  congr 1
  apply Array.ext_getElem?
  intro i
  rw [Array.getElem?_modify]
  by_cases hi : w.heap.size = i
  · subst hi; simp
  · simp [hi, Array.getElem?_push, Ne.symm hi]
/-- A variable that is made and set, in one step. -/
theorem wpl_new {P : Program} {ops : Array Oper} {rest : List Oper} {o o2 : Oper} {a : Act} {w : World} {Q : Exit → Act → World → Prop} (hgd : o.guard = none) (hgd2 : o2.guard = none) (ty : TypeId) (ho : o.op = .alloc ty) (x y : Operand) (ho2 : o2.op = .store ty x y) (cs : Array Value)
    (hx : (a.put o.dst (.pointer (some ⟨w.heap.size, 0, none⟩))).eval x = .pointer (some ⟨w.heap.size, 0, none⟩)) (hy : (a.put o.dst (.pointer (some ⟨w.heap.size, 0, none⟩))).eval y = .agg cs)
    (hi : (P.info? ty).map (fun i => (i.size, i.zero.map (fun z => z.cells.size))) = some (cs.size, some cs.size)) (h1 : cs.all (·.oneCell') = true)
    (h : wpList P ops Q rest ((a.put o.dst (.pointer (some ⟨w.heap.size, 0, none⟩))).put o2.dst undef) (w.alloc (.cells cs ty))) : wpList P ops Q (o :: o2 :: rest) a w := by
  cases hq : P.info? ty with
  | none => simp [hq] at hi
  | some i =>
    cases hz : i.zero with
    | none => simp [hq, hz] at hi
    | some z =>
      have hs : i.size = cs.size ∧ z.cells.size = cs.size := by simpa [hq, hz] using hi
      refine wpList_plain hgd fun K hK => ?_
      unfold Oper.wp execOp
      simp only [ho, Instr.alloc, zeroValue, typeInfo, newVar, newRow, Sem.run_bind]
      simp [hq, hz]
      refine hK _ _ ?_
      refine wpList_store_row hgd2 ty x y ho2 w.heap.size cs hx hy ty z.cells (heap_alloc_new w _) (by simp [hq, hs.1]) hs.2 h1 ?_
      rw [setRow_alloc]
      exact h
end Go.Proofs.Ytniacolkjdmflaa
end
section
namespace Go.Proofs.Ytniacolkjdmflaa.Se
open Go.RowKit
set_option maxRecDepth 100000
set_option linter.all false

theorem cmp_bytes (a b : ByteArray) (w : World) :
    Calls Try.prog 119 #[.string a, .string b] w fun e w' => e = .returned (.int .i64 (Lib.compareBytes a.data.toList b.data.toList)) ∧ w = w' := by
  have hc : ∀ w, (callFunc 134 #[.string a, .string b]).run Try.prog w = .ok (.value (.int .i64 (Lib.compareBytes a.data.toList b.data.toList))) w := fun w => by
    rw [run_callFunc_extern Try.func134 (by kernel_rfl) (by kernel_rfl) (by kernel_rfl) (e := Extern.BytealgCompare.compare) (by kernel_rfl), Lib.run_compareString]
    rfl
  generalize Lib.compareBytes a.data.toList b.data.toList = z at hc ⊢
  go_enter Try.func119, Try.ntmps119
  go_wp2_with fail
  go_ret
  exact ⟨rfl, rfl⟩
theorem cmp_strs (a b : ByteArray) (w : World) :
    Calls Try.prog 93 #[.string a, .string b] w fun e w' => e = .returned (.int .i64 (Lib.compareBytes a.data.toList b.data.toList)) ∧ w = w' := by
  have hc := cmp_bytes a b
  generalize Lib.compareBytes a.data.toList b.data.toList = z at hc ⊢
  have HC := Lib.hid hc
  clear hc
  go_enter Try.func93, Try.ntmps93
  go_wp2_with (first
    | (go_at_call 119; refine (HC.out _).mono ?_; rintro e w' ⟨rfl, rfl⟩))
  go_ret
  exact ⟨rfl, rfl⟩
/-- The ten cells of a pair. -/
abbrev prA (p : Pr En) : Array Value := #[.string p.k, .string p.v.k, .string p.v.v, .bool p.v.d, .int .i64 p.v.s.c, .int .i64 p.v.s.s, .int .i64 p.v.a.c, .int .i64 p.v.a.s, .int .i64 p.v.p, .int .i64 p.v.g]
def prI (p : Pr En) : List Value := [.string p.k, .string p.v.k, .string p.v.v, .bool p.v.d, .int .i64 p.v.s.c, .int .i64 p.v.s.s, .int .i64 p.v.a.c, .int .i64 p.v.a.s, .int .i64 p.v.p, .int .i64 p.v.g]
theorem prI_len (p : Pr En) : (prI p).length = 10 := rfl
theorem prI_one (l : List (Pr En)) : ∀ u ∈ l.flatMap prI, u.oneCell' = true := by
  intro u hu
  obtain ⟨p, _, hp⟩ := List.mem_flatMap.1 hu
  simp only [prI, List.mem_cons, List.not_mem_nil, or_false] at hp
  rcases hp with rfl | rfl | rfl | rfl | rfl | rfl | rfl | rfl | rfl | rfl <;> rfl
/-- Where a pair lies. -/
theorem prI_at {w : World} {S : Nat → Prop} {A : Option Addr} {n c : Nat} {l : List (Pr En)} (h : Cel w S (.slice A n c) n 10 (l.flatMap prI)) (i : Nat) (hi : i < l.length) (hn : n = l.length) :
    ∃ b off, A = some ⟨b, off, none⟩ ∧ S b ∧ b < w.heap.size ∧ ∀ j u, (prI l[i])[j]? = some u → w.cell? ⟨b, off + i * 10 + j, none⟩ = some u := by
  obtain ⟨A', c', e, h0, h1, h2, h3, h4⟩ := h
  injection e with e1 e2 e3
  subst e1 e3
  obtain ⟨b, off, rfl, hs, hlt, hc⟩ := h4 (by omega)
  refine ⟨b, off, rfl, hs, hlt, fun j u hu => ?_⟩
  have hj : j < 10 := by have := (List.getElem?_eq_some_iff.1 hu).1; rwa [prI_len] at this
  rw [Nat.add_assoc]
  exact hc _ _ (by rw [flat_at prI prI_len l i l[i] (List.getElem?_eq_getElem hi) j hj]; exact hu)

set_option maxHeartbeats 1600000 in
theorem place_clo (p : Pr En) (b : ByteArray) (w : World) :
    Calls Try.prog 113 #[.agg (prA p), .string b] w fun e w' => e = .returned (.int .i64 (Lib.compareBytes p.k.data.toList b.data.toList)) ∧ Only none_ w w' := by
  have hc := cmp_strs p.k b
  have B2 := Lib.hid (Blk.new w 145 (prA p))
  have c0 : (w.alloc (.cells (prA p) 145)).cell? ⟨w.heap.size, 0, none⟩ = some (.string p.k) := B2.out.cell_ (i := 0) rfl
  have O := Lib.hid ((Only.refl none_ w).alloc (.cells (prA p) 145))
  obtain ⟨a, e⟩ := p
  dsimp only [prA] at hc c0 O ⊢
  generalize Lib.compareBytes a.data.toList b.data.toList = z at hc ⊢
  have HC := Lib.hid hc
  clear hc B2
  go_enter Try.func113, Try.ntmps113
  go_wp2_with (first
    | (go_at_call 93; refine (HC.out _).mono ?_; rintro e w' ⟨rfl, rfl⟩))
  go_ret
  exact ⟨rfl, O.out⟩

/-- A guarded read of a piece, in a region in the text's order. -/
theorem pair_under : ∃ d, Try.prog.underlying 145 = some d ∧ (match d with | .struct _ | .array _ _ => true | _ => false) = true := ⟨_, Try.underlying145, rfl⟩

set_option maxHeartbeats 6400000 in
theorem bsI (A : Option Addr) (c : Nat) (S : Nat → Prop) (l : List (Pr En)) (x : ByteArray) (w : World) (h : Cel w S (.slice A l.length c) l.length 10 (l.flatMap prI)) (hr : Ris l) (hl : l.length ≤ 4096) :
    Calls Try.prog 112 #[.slice A l.length c, .string x, .func (.func 113) #[] #[]] w fun e w' => e = .returned (.tuple #[.int .i64 (rnk l x : Nat), .bool (has l x)]) ∧ Only none_ w w' := by
  have HC := Lib.hid (fun (w' : World) (o : Only none_ w w') => h.only o (fun _ _ h => h))
  have HR := Lib.hid hr
  have hrl := rnk_le l x
  obtain ⟨r, hrr⟩ : ∃ r, rnk l x = r := ⟨_, rfl⟩
  obtain ⟨hs, hhs⟩ : ∃ b, has l x = b := ⟨_, rfl⟩
  have AT : Hid (∀ i (hi : i < l.length), decide (Lib.compareBytes l[i].k.data.toList x.data.toList < 0) = decide (i < r)) := fun i hi => by rw [cmp_neg, rnk_at hr, hrr]
  have HS := has_at hr x
  rw [hrr, hhs] at HS
  rw [hrr] at hrl
  have HSS := Lib.hid HS
  rw [hrr, hhs]
  obtain ⟨n, hn⟩ : ∃ n, l.length = n := ⟨_, rfl⟩
  have HN := Lib.hid hn
  rw [hn] at HC hl hrl ⊢
  clear h hr hrr hhs HS hn
  go_enter Try.func112, Try.ntmps112
  go_wp2_with fail
  go_loopw [9, 10] (fun s9 s10 wr => ∃ lo hi : Nat, s9 = .int .i64 lo ∧ s10 = .int .i64 hi ∧ lo ≤ r ∧ r ≤ hi ∧ hi ≤ n ∧ Only none_ w wr) (fun s9 s10 _ => (intOf s10).toNat - (intOf s9).toNat)
  case atStart => exact ⟨0, n, rfl, rfl, Nat.zero_le _, hrl, Nat.le_refl _, Only.refl _ _⟩
  case round =>
    obtain ⟨lo, hi, rfl, rfl, h1, h2, h3, o⟩ := hrel
    have O := Lib.hid o
    by_cases hlt : lo < hi
    · obtain ⟨q, hq⟩ : ∃ q, (lo + hi) / 2 = q := ⟨_, rfl⟩
      have hq1 : lo ≤ q ∧ q < hi := by omega
      have hqi : ((lo : Int) + (hi : Int)) / 2 = (q : Int) := by omega
      have hqn : q < l.length := by have := HN.out; omega
      obtain ⟨b, off, hA, _, _, hc⟩ := prI_at (HC.out _ o) q hqn HN.out.symm
      subst hA
      have hcl := place_clo l[q] x wr
      have hcp := AT.out q hqn
      have hz := cmp_i64 l[q].k x
      generalize Lib.compareBytes l[q].k.data.toList x.data.toList = z at hcl hcp hz
      have HCE := Lib.hid hc
      have HCL := Lib.hid hcl
      have HCP := Lib.hid hcp
      have hqn2 : q < n := by omega
      clear hcl hcp o hq hc
      by_cases hz0 : z < 0
      · have hqr : q < r := by have := HCP.out; simp [hz0] at this; exact this
        go_wp2_with (first
          | (refine wpl_piece rfl 145 _ rfl b _ rfl (prA l[q]) _ HCE.out Try.underlying145 rfl rfl ?_)
          | (go_at_call 113; refine HCL.out.mono ?_; rintro e w1 ⟨rfl, o1⟩; have O1 := Lib.hid (O.out.trans o1); clear o1))
        go_roundw
        case rel => exact ⟨q + 1, hi, by go_num, rfl, by omega, h2, h3, O1.out⟩
        case measure => simp [intOf]; omega
      · have hqr : r ≤ q := by have := HCP.out; simp [hz0] at this; exact this
        go_wp2_with (first
          | (refine wpl_piece rfl 145 _ rfl b _ rfl (prA l[q]) _ HCE.out Try.underlying145 rfl rfl ?_)
          | (go_at_call 113; refine HCL.out.mono ?_; rintro e w1 ⟨rfl, o1⟩; have O1 := Lib.hid (O.out.trans o1); clear o1))
        go_roundw
        case rel => exact ⟨lo, q, rfl, by go_num, h1, hqr, by omega, O1.out⟩
        case measure => simp [intOf]; omega
    · have e1 : lo = r := by omega
      subst e1
      by_cases hn : lo < n
      · have hqn : lo < l.length := by have := HN.out; omega
        obtain ⟨b, off, hA, _, _, hc⟩ := prI_at (HC.out _ o) lo hqn HN.out.symm
        subst hA
        have hcl := place_clo l[lo] x wr
        have hcz := cmp_zero l[lo].k x
        have hss : hs = decide (l[lo].k = x) := by
          rw [HSS.out]; simp [hqn]
        rw [← hss] at hcz
        generalize Lib.compareBytes l[lo].k.data.toList x.data.toList = z at hcl hcz
        have h0 := hc 0 _ rfl
        have h1 := hc 1 _ rfl
        have h2 := hc 2 _ rfl
        have h3 := hc 3 _ rfl
        have h4 := hc 4 _ rfl
        have h5 := hc 5 _ rfl
        have h6 := hc 6 _ rfl
        have h7 := hc 7 _ rfl
        have h8 := hc 8 _ rfl
        have h9 := hc 9 _ rfl
        rw [Nat.add_zero] at h0
        generalize l[lo] = pp at hcl h0 h1 h2 h3 h4 h5 h6 h7 h8 h9
        obtain ⟨k, v⟩ := pp
        dsimp only [prA] at hcl h0 h1 h2 h3 h4 h5 h6 h7 h8 h9
        have HCL := Lib.hid hcl
        clear hcl o hss hc
        go_wp2_with (first
          | (go_at_call 113; refine HCL.out.mono ?_; rintro e w1 ⟨rfl, o1⟩; have O1 := Lib.hid (O.out.trans o1); clear o1))
        go_ret2
        exact ⟨rfl, O1.out⟩
      · have hss : hs = false := by rw [HSS.out]; have := HN.out; simp; omega
        subst hss
        clear o
        go_wp2_with fail
        go_ret2
        exact ⟨rfl, O.out⟩
end Go.Proofs.Ytniacolkjdmflaa.Se
end
