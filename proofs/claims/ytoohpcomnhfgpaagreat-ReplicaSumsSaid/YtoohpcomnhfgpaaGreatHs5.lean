/- Texts of mine, one behind the other: Pce, TbCe, Pcs, Rws, TbDe, Fre, Frt. No statement of the seat is proved here. -/
import Derived.Test.YtoohpcomnhfgpaaGreatHs1
import Derived.Laws.Tables
import Derived.Test.YtoohpcomnhfgpaaGreatHs4
import Derived.Test.YtoohpcomnhfgpaaGreatHs2
import Derived.StillTail
import Derived.RegionTactic
import Derived.WalkKit
section
namespace Go.Proofs.YtoohpcomnhfgpaaGreat
open Go.RowKit
set_option maxRecDepth 100000
set_option linter.all false
theorem run_load_piece {P : Program} (w : World) (g off : Nat) (ty : TypeId) (cs : Array Value) (d : TypeDesc) (hc : ∀ j u, cs.toList[j]? = some u → w.cell? ⟨g, off + j, none⟩ = some u)
    (hu : P.underlying ty = some d) (hd : (match d with | .struct _ | .array _ _ => true | _ => false) = true) (hi : (P.info? ty).map (·.size) = some cs.size) :
    (loadVar ty ⟨g, off, none⟩).run P w = .ok (.agg cs) w := by
  have hl : (loadCells ⟨g, off, none⟩ cs.toList.length).run P w = .ok cs.toList.toArray w :=
    run_loadCells_list (P := P) w ⟨g, off, none⟩ cs.toList (fun j v hv => by
      have hadd : (⟨g, off, none⟩ : Addr).add j = ⟨g, off + j, none⟩ := by unfold Addr.add; split <;> simp_all
      rw [hadd]
      exact hc j v hv)
  cases hq : P.info? ty with
  | none => simp [hq] at hi
  | some i =>
    have hs : i.size = cs.size := by simpa [hq] using hi
    have hagg : (isAgg ty).run P w = .ok true w := by
      unfold isAgg
      rw [Sem.run_bind, run_underlying hu w]
      cases d <;> simp_all
    simp only [Array.length_toList, Array.toArray_toList] at hl
    simp [loadVar, Sem.run_bind, hagg, sizeOf, typeInfo, hq, hs, hl]
theorem wpl_piece {P : Program} {ops : Array Oper} {rest : List Oper} {o : Oper} {a : Act} {w : World} {Q : Exit → Act → World → Prop} (hgd : o.guard = none) (ty : TypeId) (x : Operand) (ho : o.op = .load ty x)
    (g off : Nat) (hx : a.eval x = .pointer (some ⟨g, off, none⟩)) (cs : Array Value) (d : TypeDesc) (hc : ∀ j u, cs.toList[j]? = some u → w.cell? ⟨g, off + j, none⟩ = some u)
    (hu : P.underlying ty = some d) (hd : (match d with | .struct _ | .array _ _ => true | _ => false) = true) (hi : (P.info? ty).map (·.size) = some cs.size)
    (h : wpList P ops Q rest (a.put o.dst (.agg cs)) w) : wpList P ops Q (o :: rest) a w := by
  refine wpList_plain hgd fun K hK => ?_
  unfold Oper.wp execOp
  simp only [ho, hx, Instr.loadAt, Instr.sureAddr, Sem.run_bind, Sem.run_pure, Result.andThen_ok, run_load_piece w g off ty cs d hc hu hd hi]
  exact hK _ _ h
theorem setRow_alloc (w : World) (old cs : Array Value) (t : TypeId) : (w.alloc (.cells old t)).setRow w.heap.size cs = w.alloc (.cells cs t) := by
  unfold World.setRow World.alloc
  congr 1
  apply Array.ext_getElem?
  intro i
  rw [Array.getElem?_modify]
  by_cases hi : w.heap.size = i
  · subst hi; simp
  · simp [hi, Array.getElem?_push, Ne.symm hi]
theorem wpl_new {P : Program} {ops : Array Oper} {rest : List Oper} {o o2 : Oper} {a : Act} {w : World} {Q : Exit → Act → World → Prop} (hgd : o.guard = none) (hgd2 : o2.guard = none) (ty : TypeId) (ho : o.op = .alloc ty) (x y : Operand) (ho2 : o2.op = .store ty x y) (cs : Array Value)
    (hx : (a.put o.dst (.pointer (some ⟨w.heap.size, 0, none⟩))).eval x = .pointer (some ⟨w.heap.size, 0, none⟩)) (hy : (a.put o.dst (.pointer (some ⟨w.heap.size, 0, none⟩))).eval y = .agg cs)
    (hi : (P.info? ty).map (fun i => (i.size, i.zero.map (fun z => z.cells.size))) = some (cs.size, some cs.size)) (h1 : cs.all (·.oneCell') = true)
    (h : wpList P ops Q rest ((a.put o.dst (.pointer (some ⟨w.heap.size, 0, none⟩))).put o2.dst undef) (w.alloc (.cells cs ty))) : wpList P ops Q (o :: o2 :: rest) a w := by
  cases hq : P.info? ty with
  | none => simp [hq] at hi
  | some i =>
    cases hz : i.zero with
    | none => simp [hq, hz] at hi
    | some z =>
      have hs : i.size = cs.size ∧ z.cells.size = cs.size := by simpa [hq, hz] using hi
      refine wpList_plain hgd fun K hK => ?_
      unfold Oper.wp execOp
      simp only [ho, Instr.alloc, zeroValue, typeInfo, newVar, newRow, Sem.run_bind]
      simp [hq, hz]
      refine hK _ _ ?_
      refine wpList_store_row hgd2 ty x y ho2 w.heap.size cs hx hy ty z.cells (heap_alloc_new w _) (by simp [hq, hs.1]) hs.2 h1 ?_
      rw [setRow_alloc]
      exact h
end Go.Proofs.YtoohpcomnhfgpaaGreat
end
section
namespace Go.Proofs.YtoohpcomnhfgpaaGreat.Se
open Go.RowKit
set_option maxRecDepth 100000
set_option linter.all false
theorem cmp_bytes (a b : ByteArray) (w : World) :
    Calls Tryz.prog 228 #[.string a, .string b] w fun e w' => e = .returned (.int .i64 (Lib.compareBytes a.data.toList b.data.toList)) ∧ w = w' := by
  have hc : ∀ w, (callFunc 263 #[.string a, .string b]).run Tryz.prog w = .ok (.value (.int .i64 (Lib.compareBytes a.data.toList b.data.toList))) w := fun w => by
    rw [run_callFunc_extern Tryz.func263 (by kernel_rfl) (by kernel_rfl) (by kernel_rfl) (e := Extern.BytealgCompare.compare) (by kernel_rfl), Lib.run_compareString]
    rfl
  generalize Lib.compareBytes a.data.toList b.data.toList = z at hc ⊢
  go_enter Tryz.func228, Tryz.ntmps228
  go_wp2_with fail
  go_ret
  exact ⟨rfl, rfl⟩
theorem cmp_strs (a b : ByteArray) (w : World) :
    Calls Tryz.prog 186 #[.string a, .string b] w fun e w' => e = .returned (.int .i64 (Lib.compareBytes a.data.toList b.data.toList)) ∧ w = w' := by
  have hc := cmp_bytes a b
  generalize Lib.compareBytes a.data.toList b.data.toList = z at hc ⊢
  have HC := Lib.hid hc
  clear hc
  go_enter Tryz.func186, Tryz.ntmps186
  go_wp2_with (first
    | (go_at_call 228; refine (HC.out _).mono ?_; rintro e w' ⟨rfl, rfl⟩))
  go_ret
  exact ⟨rfl, rfl⟩
abbrev prA (p : Pr En) : Array Value := #[.string p.k, .string p.v.k, .string p.v.v, .bool p.v.d, .int .i64 p.v.s.c, .int .i64 p.v.s.s, .int .i64 p.v.a.c, .int .i64 p.v.a.s, .int .i64 p.v.p, .int .i64 p.v.g]
def prI (p : Pr En) : List Value := [.string p.k, .string p.v.k, .string p.v.v, .bool p.v.d, .int .i64 p.v.s.c, .int .i64 p.v.s.s, .int .i64 p.v.a.c, .int .i64 p.v.a.s, .int .i64 p.v.p, .int .i64 p.v.g]
theorem prI_len (p : Pr En) : (prI p).length = 10 := rfl
theorem prI_one (l : List (Pr En)) : ∀ u ∈ l.flatMap prI, u.oneCell' = true := by
  intro u hu
  obtain ⟨p, _, hp⟩ := List.mem_flatMap.1 hu
  simp only [prI, List.mem_cons, List.not_mem_nil, or_false] at hp
  rcases hp with rfl | rfl | rfl | rfl | rfl | rfl | rfl | rfl | rfl | rfl <;> rfl
theorem prI_at {w : World} {S : Nat → Prop} {A : Option Addr} {n c : Nat} {l : List (Pr En)} (h : Cel w S (.slice A n c) n 10 (l.flatMap prI)) (i : Nat) (hi : i < l.length) (hn : n = l.length) :
    ∃ b off, A = some ⟨b, off, none⟩ ∧ S b ∧ b < w.heap.size ∧ ∀ j u, (prI l[i])[j]? = some u → w.cell? ⟨b, off + i * 10 + j, none⟩ = some u := by
  obtain ⟨A', c', e, h0, h1, h2, h3, h4⟩ := h
  injection e with e1 e2 e3
  subst e1 e3
  obtain ⟨b, off, rfl, hs, hlt, hc⟩ := h4 (by omega)
  refine ⟨b, off, rfl, hs, hlt, fun j u hu => ?_⟩
  have hj : j < 10 := by have := (List.getElem?_eq_some_iff.1 hu).1; rwa [prI_len] at this
  rw [Nat.add_assoc]
  exact hc _ _ (by rw [flat_at prI prI_len l i l[i] (List.getElem?_eq_getElem hi) j hj]; exact hu)
set_option maxHeartbeats 1600000 in
theorem place_clo (p : Pr En) (b : ByteArray) (w : World) :
    Calls Tryz.prog 185 #[.agg (prA p), .string b] w fun e w' => e = .returned (.int .i64 (Lib.compareBytes p.k.data.toList b.data.toList)) ∧ Only none_ w w' := by
  have hc := cmp_strs p.k b
  have B2 := Lib.hid (Blk.new w 240 (prA p))
  have c0 : (w.alloc (.cells (prA p) 240)).cell? ⟨w.heap.size, 0, none⟩ = some (.string p.k) := B2.out.cell_ (i := 0) rfl
  have O := Lib.hid ((Only.refl none_ w).alloc (.cells (prA p) 240))
  obtain ⟨a, e⟩ := p
  dsimp only [prA] at hc c0 O ⊢
  generalize Lib.compareBytes a.data.toList b.data.toList = z at hc ⊢
  have HC := Lib.hid hc
  clear hc B2
  go_enter Tryz.func185, Tryz.ntmps185
  go_wp2_with (first
    | (go_at_call 186; refine (HC.out _).mono ?_; rintro e w' ⟨rfl, rfl⟩))
  go_ret
  exact ⟨rfl, O.out⟩
set_option maxHeartbeats 6400000 in
theorem bsI (A : Option Addr) (c : Nat) (S : Nat → Prop) (l : List (Pr En)) (x : ByteArray) (w : World) (h : Cel w S (.slice A l.length c) l.length 10 (l.flatMap prI)) (hr : Ris l) (hl : l.length ≤ 4096) :
    Calls Tryz.prog 184 #[.slice A l.length c, .string x, .func (.func 185) #[] #[]] w fun e w' => e = .returned (.tuple #[.int .i64 (rnk l x : Nat), .bool (has l x)]) ∧ Only none_ w w' := by
  have HC := Lib.hid (fun (w' : World) (o : Only none_ w w') => h.only o (fun _ _ h => h))
  have HR := Lib.hid hr
  have hrl := rnk_le l x
  obtain ⟨r, hrr⟩ : ∃ r, rnk l x = r := ⟨_, rfl⟩
  obtain ⟨hs, hhs⟩ : ∃ b, has l x = b := ⟨_, rfl⟩
  have AT : Hid (∀ i (hi : i < l.length), decide (Lib.compareBytes l[i].k.data.toList x.data.toList < 0) = decide (i < r)) := fun i hi => by rw [cmp_neg, rnk_at hr, hrr]
  have HS := has_at hr x
  rw [hrr, hhs] at HS
  rw [hrr] at hrl
  have HSS := Lib.hid HS
  rw [hrr, hhs]
  obtain ⟨n, hn⟩ : ∃ n, l.length = n := ⟨_, rfl⟩
  have HN := Lib.hid hn
  rw [hn] at HC hl hrl ⊢
  clear h hr hrr hhs HS hn
  go_enter Tryz.func184, Tryz.ntmps184
  go_wp2_with fail
  go_loopw [9, 10] (fun s9 s10 wr => ∃ lo hi : Nat, s9 = .int .i64 lo ∧ s10 = .int .i64 hi ∧ lo ≤ r ∧ r ≤ hi ∧ hi ≤ n ∧ Only none_ w wr) (fun s9 s10 _ => (intOf s10).toNat - (intOf s9).toNat)
  case atStart => exact ⟨0, n, rfl, rfl, Nat.zero_le _, hrl, Nat.le_refl _, Only.refl _ _⟩
  case round =>
    obtain ⟨lo, hi, rfl, rfl, h1, h2, h3, o⟩ := hrel
    have O := Lib.hid o
    by_cases hlt : lo < hi
    · obtain ⟨q, hq⟩ : ∃ q, (lo + hi) / 2 = q := ⟨_, rfl⟩
      have hq1 : lo ≤ q ∧ q < hi := by omega
      have hqi : ((lo : Int) + (hi : Int)) / 2 = (q : Int) := by omega
      have hqn : q < l.length := by have := HN.out; omega
      obtain ⟨b, off, hA, _, _, hc⟩ := prI_at (HC.out _ o) q hqn HN.out.symm
      subst hA
      have hcl := place_clo l[q] x wr
      have hcp := AT.out q hqn
      have hz := cmp_i64 l[q].k x
      generalize Lib.compareBytes l[q].k.data.toList x.data.toList = z at hcl hcp hz
      have HCE := Lib.hid hc
      have HCL := Lib.hid hcl
      have HCP := Lib.hid hcp
      have hqn2 : q < n := by omega
      clear hcl hcp o hq hc
      by_cases hz0 : z < 0
      · have hqr : q < r := by have := HCP.out; simp [hz0] at this; exact this
        go_wp2_with (first
          | (refine wpl_piece rfl 240 _ rfl b _ rfl (prA l[q]) _ HCE.out Tryz.underlying240 rfl rfl ?_)
          | (go_at_call 185; refine HCL.out.mono ?_; rintro e w1 ⟨rfl, o1⟩; have O1 := Lib.hid (O.out.trans o1); clear o1))
        go_roundw
        case rel => exact ⟨q + 1, hi, by go_num, rfl, by omega, h2, h3, O1.out⟩
        case measure => simp [intOf]; omega
      · have hqr : r ≤ q := by have := HCP.out; simp [hz0] at this; exact this
        go_wp2_with (first
          | (refine wpl_piece rfl 240 _ rfl b _ rfl (prA l[q]) _ HCE.out Tryz.underlying240 rfl rfl ?_)
          | (go_at_call 185; refine HCL.out.mono ?_; rintro e w1 ⟨rfl, o1⟩; have O1 := Lib.hid (O.out.trans o1); clear o1))
        go_roundw
        case rel => exact ⟨lo, q, rfl, by go_num, h1, hqr, by omega, O1.out⟩
        case measure => simp [intOf]; omega
    · have e1 : lo = r := by omega
      subst e1
      by_cases hn : lo < n
      · have hqn : lo < l.length := by have := HN.out; omega
        obtain ⟨b, off, hA, _, _, hc⟩ := prI_at (HC.out _ o) lo hqn HN.out.symm
        subst hA
        have hcl := place_clo l[lo] x wr
        have hcz := cmp_zero l[lo].k x
        have hss : hs = decide (l[lo].k = x) := by
          rw [HSS.out]; simp [hqn]
        rw [← hss] at hcz
        generalize Lib.compareBytes l[lo].k.data.toList x.data.toList = z at hcl hcz
        have h0 := hc 0 _ rfl
        have h1 := hc 1 _ rfl
        have h2 := hc 2 _ rfl
        have h3 := hc 3 _ rfl
        have h4 := hc 4 _ rfl
        have h5 := hc 5 _ rfl
        have h6 := hc 6 _ rfl
        have h7 := hc 7 _ rfl
        have h8 := hc 8 _ rfl
        have h9 := hc 9 _ rfl
        rw [Nat.add_zero] at h0
        generalize l[lo] = pp at hcl h0 h1 h2 h3 h4 h5 h6 h7 h8 h9
        obtain ⟨k, v⟩ := pp
        dsimp only [prA] at hcl h0 h1 h2 h3 h4 h5 h6 h7 h8 h9
        have HCL := Lib.hid hcl
        clear hcl o hss hc
        go_wp2_with (first
          | (go_at_call 185; refine HCL.out.mono ?_; rintro e w1 ⟨rfl, o1⟩; have O1 := Lib.hid (O.out.trans o1); clear o1))
        go_ret2
        exact ⟨rfl, O1.out⟩
      · have hss : hs = false := by rw [HSS.out]; have := HN.out; simp; omega
        subst hss
        clear o
        go_wp2_with fail
        go_ret2
        exact ⟨rfl, O.out⟩
end Go.Proofs.YtoohpcomnhfgpaaGreat.Se
end
section
namespace Go.Proofs.YtoohpcomnhfgpaaGreat
open Go.RowKit
set_option maxRecDepth 100000
set_option linter.all false
theorem run_storeVar_part {P : Program} (w : World) (g o : Nat) (t ty : TypeId) (cs : List Value) (cells : Array Value) (hg : Blk w g t cs.toArray) (hi : (P.info? ty).map (·.size) = some cells.size) (hl : o + cells.size ≤ cs.length) (h1 : cells.all (·.oneCell') = true) :
    (storeVar ty ⟨g, o, none⟩ (.agg cells)).run P w = .ok () (w.setRow g (putAt cs o cells.toList).toArray) := by
  have := run_storeCells_at P g o t cells.toList 0 cs.toArray w hg (by simpa using hl) (fun v hv => (Array.all_eq_true_iff_forall_mem.1 h1) v (by simpa using hv))
  cases hq : P.info? ty with
  | none => simp [hq] at hi
  | some i =>
    have hs : cells.size = i.size := by simp [hq] at hi; omega
    simpa [storeVar, sizeOf, typeInfo, hq, Value.cells, hs, putAt] using this
theorem wpl_store_part {P : Program} {ops : Array Oper} {rest : List Oper} {o : Oper} {a : Act} {w : World} {Q : Exit → Act → World → Prop} (hgd : o.guard = none) (ty : TypeId) (x y : Operand) (ho : o.op = .store ty x y)
    (g off : Nat) (cells : Array Value) (hx : a.eval x = .pointer (some ⟨g, off, none⟩)) (hy : a.eval y = .agg cells)
    (t : TypeId) (cs : List Value) (hg : Blk w g t cs.toArray) (hi : (P.info? ty).map (·.size) = some cells.size) (hl : off + cells.size ≤ cs.length) (h1 : cells.all (·.oneCell') = true)
    (h : wpList P ops Q rest (a.put o.dst undef) (w.setRow g (putAt cs off cells.toList).toArray)) : wpList P ops Q (o :: rest) a w := by
  refine wpList_plain hgd fun K hK => ?_
  unfold Oper.wp execOp
  simp only [ho, hx, hy, Instr.storeAt, Instr.sureAddr, Sem.run_bind, Sem.run_pure, Result.andThen_ok, run_storeVar_part w g off t ty cs cells hg hi hl h1]
  exact hK _ _ h
end Go.Proofs.YtoohpcomnhfgpaaGreat
end
section
namespace Go.Proofs.YtoohpcomnhfgpaaGreat
open Go.RowKit
def Rows_ (w : World) (S : Nat → Prop) (pv : Value) (pss : List (List UInt8)) : Prop :=
  ∃ A c, pv = .slice A pss.length c ∧ pss.length ≤ maxLen ∧ (0 < pss.length → ∃ b off, A = some ⟨b, off, none⟩ ∧ S b ∧ b < w.heap.size ∧ ∀ j (hj : j < pss.length), ∃ x, w.cell? ⟨b, off + j, none⟩ = some x ∧ Byt w S x pss[j])
theorem Rows_.nil (w : World) (S : Nat → Prop) : Rows_ w S (.slice none 0 0) [] := ⟨none, 0, rfl, by simp [maxLen], by simp⟩
theorem Rows_.only {w w' : World} {S T : Nat → Prop} {pv : Value} {pss : List (List UInt8)} (h : Rows_ w S pv pss) (ho : Only T w w') (hn : ∀ b, S b → ¬ T b) : Rows_ w' S pv pss := by
  obtain ⟨A, c, rfl, h1, h2⟩ := h
  refine ⟨A, c, rfl, h1, fun hp => ?_⟩
  obtain ⟨b, off, rfl, hS, hb, hc⟩ := h2 hp
  refine ⟨b, off, rfl, hS, Nat.lt_of_lt_of_le hb ho.size, fun j hj => ?_⟩
  obtain ⟨x, hx, hy⟩ := hc j hj
  exact ⟨x, (ho.cell (p := ⟨b, off + j, none⟩) hb (hn _ hS)).trans hx, hy.only ho hn⟩
theorem rows_two {w : World} {S : Nat → Prop} {x y : Value} {bs cs : List UInt8} {t : TypeId} (h : Byt w S x bs) (h' : Byt w S y cs) (hS : S w.heap.size) (g : Nat) (hg : g = w.heap.size) :
    Rows_ (w.alloc (.cells #[x, y] t)) S (.slice (some ⟨g, 0, none⟩) 2 2) [bs, cs] := by
  subst hg
  refine ⟨_, 2, rfl, by simp [maxLen], fun _ => ⟨_, _, rfl, hS, by simp, fun j hj => ?_⟩⟩
  have hj0 : j = 0 ∨ j = 1 := by simp at hj; omega
  rcases hj0 with rfl | rfl
  · exact ⟨x, by simp, h.alloc _⟩
  · exact ⟨y, by simp, h'.alloc _⟩
theorem rows_one {w : World} {S : Nat → Prop} {x : Value} {bs : List UInt8} {t : TypeId} (h : Byt w S x bs) (hS : S w.heap.size) (g : Nat) (hg : g = w.heap.size) :
    Rows_ (w.alloc (.cells #[x] t)) S (.slice (some ⟨g, 0, none⟩) 1 1) [bs] := by
  subst hg
  refine ⟨_, 1, rfl, by simp [maxLen], fun _ => ⟨_, _, rfl, hS, by simp, fun j hj => ?_⟩⟩
  have hj0 : j = 0 := by simp at hj; omega
  subst hj0
  exact ⟨x, by simp, h.alloc _⟩
theorem Rows_.mono {w : World} {S T : Nat → Prop} {pv : Value} {pss : List (List UInt8)} (h : Rows_ w S pv pss) (hk : ∀ b, S b → b < w.heap.size → T b) : Rows_ w T pv pss := by
  obtain ⟨A, c, rfl, h1, h2⟩ := h
  refine ⟨A, c, rfl, h1, fun hp => ?_⟩
  obtain ⟨b, off, rfl, hS, hb, hc⟩ := h2 hp
  refine ⟨b, off, rfl, hk _ hS hb, hb, fun j hj => ?_⟩
  obtain ⟨x, hx, hy⟩ := hc j hj
  exact ⟨x, hx, hy.mono (fun b hb hS => hk b hS hb)⟩
theorem own_shape {w : World} {base size n : Nat} {e : TypeId} {v : Value} {xs : List Value} (h : w.ownsRow base e size v n xs) : ∃ A n c, v = .slice A n c := by
  rcases h.2 with ⟨rfl, _⟩ | ⟨g, cap, cur, rfl, _⟩
  · exact ⟨_, _, _, rfl⟩
  · exact ⟨_, _, _, rfl⟩
end Go.Proofs.YtoohpcomnhfgpaaGreat
end
section
namespace Go.Proofs.YtoohpcomnhfgpaaGreat.Se
open Go.RowKit
set_option maxRecDepth 100000
set_option linter.all false
structure Tb (B : World) (g : Nat) (room : Int) (l : List (Pr En)) (v : Value) (w : World) : Prop where
  bk : Blk w g 243 #[.int .i64 room, v]
  ow : w.ownsRow B.heap.size 240 10 v l.length (l.flatMap prI)
  ho : Only none_ B w
  ge : B.heap.size ≤ g
  rs : Ris l
  lr : (l.length : Int) ≤ room
  rm : room ≤ 4096
section
variable {B w w' : World} {g h : Nat} {room : Int} {l l' : List (Pr En)} {v v' : Value} {t : TypeId} {cs : Array Value}
theorem Tb.ml (s : Tb B g room l v w) : l.length ≤ 4096 := by have h1 := s.lr; have h2 := s.rm; omega
theorem Tb.foot_ge (s : Tb B g room l v w) {k : Nat} (hf : foot g v k) : B.heap.size ≤ k ∧ k < w.heap.size := by
  rcases hf with rfl | hf
  · exact ⟨s.ge, s.bk.lt⟩
  · exact s.ow.lt k hf
theorem Tb.keep (s : Tb B g room l v w) (o : Only none_ w w') : Tb B g room l v w' :=
  ⟨s.bk.only o (fun h => h), owns_only s.ow o (fun _ _ h => h), s.ho.trans o, s.ge, s.rs, s.lr, s.rm⟩
theorem Tb.apart {S : Nat → Prop} (s : Tb B g room l v w) (o : Only S w w') (hn : ∀ k, foot g v k → ¬ S k) (hS : ∀ k, S k → B.heap.size ≤ k) : Tb B g room l v w' :=
  ⟨s.bk.only o (hn g (.inl rfl)), owns_only s.ow o (fun k hk => hn k (.inr hk)), s.ho.trans' o (fun k hk hs => by have := hS k hs; omega), s.ge, s.rs, s.lr, s.rm⟩
theorem Tb.shape (s : Tb B g room l v w) : ∃ A c, v = .slice A l.length c := by
  rcases s.ow.2 with ⟨rfl, h0⟩ | ⟨_, _, _, rfl, _⟩
  · exact ⟨none, 0, by rw [h0]⟩
  · exact ⟨_, _, rfl⟩
theorem Tb.cel (s : Tb B g room l v w) : Cel w (ownb v) v l.length 10 (l.flatMap prI) := Cel.of_own s.ow
theorem Tb.drewN (s : Tb B g room l v w) (n : Nat) : Tb B g room l v (w.drewN n) := s.keep ((Only.refl none_ w).drewN n)
theorem Tb.drew (s : Tb B g room l v w) : Tb B g room l v w.drew := s.keep ((Only.refl none_ w).drew)
theorem Tb.base {B' : World} (s : Tb B g room l v w) (h : Only none_ B' w) (hs : B'.heap.size ≤ B.heap.size) : Tb B' g room l v w :=
  ⟨s.bk, owns_base s.ow hs, h, Nat.le_trans hs s.ge, s.rs, s.lr, s.rm⟩
end
set_option maxHeartbeats 800000 in
theorem tb_len (B : World) (g : Nat) (room : Int) (l : List (Pr En)) (v : Value) (w : World) (h : Tb B g room l v w) :
    Calls Tryz.prog 147 #[.pointer (some ⟨g, 0, none⟩)] w fun e w' => e = .returned (.int .i64 l.length) ∧ w = w' := by
  obtain ⟨A, c, rfl⟩ := h.shape
  have c1 := h.bk.cell_ (i := 1) rfl
  generalize l.length = n at c1 ⊢
  clear h
  go_enter Tryz.func147, Tryz.ntmps147
  go_wp2
  go_ret
  exact ⟨rfl, rfl⟩
set_option maxHeartbeats 1600000 in
theorem tb_place (B : World) (g : Nat) (room : Int) (l : List (Pr En)) (v : Value) (x : ByteArray) (w : World) (h : Tb B g room l v w) :
    Calls Tryz.prog 132 #[.pointer (some ⟨g, 0, none⟩), .string x] w fun e w' => e = .returned (.tuple #[.int .i64 (rnk l x : Nat), .bool (has l x)]) ∧ Only none_ w w' := by
  obtain ⟨A, c, rfl⟩ := h.shape
  have c1 := h.bk.cell_ (i := 1) rfl
  have hb := bsI A c _ l x w h.cel h.rs h.ml
  generalize rnk l x = r at hb ⊢
  generalize has l x = hs at hb ⊢
  generalize l.length = n at c1 hb
  have HB := Lib.hid hb
  clear h hb
  go_enter Tryz.func132, Tryz.ntmps132
  go_wp2_with (first
    | (go_at_call 184; refine HB.out.mono ?_; rintro e w1 ⟨rfl, o1⟩))
  go_ret2
  exact ⟨rfl, o1⟩
def getL (l : List (Pr En)) (x : ByteArray) : En := if has l x then (l[rnk l x]?.map (·.v)).getD enZero else enZero
set_option maxHeartbeats 6400000 in
theorem tb_get (B : World) (g : Nat) (room : Int) (l : List (Pr En)) (v : Value) (x : ByteArray) (w : World) (h : Tb B g room l v w) :
    Calls Tryz.prog 76 #[.pointer (some ⟨g, 0, none⟩), .string x] w fun e w' => e = .returned (.tuple #[.agg #[.string (getL l x).k, .string (getL l x).v, .bool (getL l x).d, .int .i64 (getL l x).s.c, .int .i64 (getL l x).s.s, .int .i64 (getL l x).a.c, .int .i64 (getL l x).a.s, .int .i64 (getL l x).p, .int .i64 (getL l x).g], .bool (has l x)]) ∧ Only none_ w w' := by
  have HB := Lib.hid (fun (w' : World) (o : Only none_ w w') => tb_place B g room l v x w' (h.keep o))
  have H := Lib.hid h
  have O0 := Lib.hid ((Only.refl none_ w).alloc (.cells #[.string ⟨#[]⟩, .string ⟨#[]⟩, .bool false, .int .i64 0, .int .i64 0, .int .i64 0, .int .i64 0, .int .i64 0, .int .i64 0] 82))
  have B0 := Lib.hid (Blk.new w 82 #[.string ⟨#[]⟩, .string ⟨#[]⟩, .bool false, .int .i64 0, .int .i64 0, .int .i64 0, .int .i64 0, .int .i64 0, .int .i64 0])
  by_cases hs : has l x = true
  · have hlt : rnk l x < l.length := by
      have := has_at h.rs x
      rw [hs] at this
      have := this.symm
      simp only [Bool.and_eq_true, decide_eq_true_eq] at this
      exact this.1
    have hgv : getL l x = l[rnk l x].v := by rw [getL, if_pos hs, List.getElem?_eq_getElem hlt]; rfl
    rw [hgv, hs]
    rw [hs] at HB
    obtain ⟨A, c, rfl⟩ := h.shape
    have HCL := Lib.hid (fun (w' : World) (o : Only none_ w w') => prI_at (h.keep o).cel (rnk l x) hlt rfl)
    obtain ⟨pp, hpp⟩ : ∃ pp, l[rnk l x] = pp := ⟨_, rfl⟩
    rw [hpp]
    simp only [hpp] at HCL
    clear hgv hpp
    generalize rnk l x = r at HCL hlt HB
    have HK := Lib.hid (fun (w' : World) (o : Only none_ w w') => (h.keep o).bk.cell_ (i := 1) rfl)
    generalize l.length = n at hlt HCL HK
    obtain ⟨kk, vv⟩ := pp
    dsimp only
    clear h hs H
    go_enter Tryz.func76, Tryz.ntmps76
    go_wp2_with (first
      | (go_at_call 132; refine (HB.out _ O0.out).mono ?_; rintro e w1 ⟨rfl, o1⟩
         have O1 := Lib.hid (O0.out.trans o1)
         have B1 : Hid (Blk w1 w.heap.size 82 #[.string ⟨#[]⟩, .string ⟨#[]⟩, .bool false, .int .i64 0, .int .i64 0, .int .i64 0, .int .i64 0, .int .i64 0, .int .i64 0]) := B0.out.only o1 (fun h => h)
         have k1 := HK.out _ O1.out
         obtain ⟨b, off, hA, _, _, hc⟩ := HCL.out _ O1.out
         subst hA
         have HC : Hid (∀ j u, (#[.string vv.k, .string vv.v, .bool vv.d, .int .i64 vv.s.c, .int .i64 vv.s.s, .int .i64 vv.a.c, .int .i64 vv.a.s, .int .i64 vv.p, .int .i64 vv.g] : Array Value).toList[j]? = some u → w1.cell? ⟨b, off + r * 10 + 1 + j, none⟩ = some u) := fun j u hu => by
           rw [Nat.add_assoc (off + r * 10)]
           exact hc (1 + j) u (by rw [Nat.add_comm]; exact hu)
         clear o1 hc)
      | (refine wpl_piece rfl 82 _ rfl b _ rfl #[.string vv.k, .string vv.v, .bool vv.d, .int .i64 vv.s.c, .int .i64 vv.s.s, .int .i64 vv.a.c, .int .i64 vv.a.s, .int .i64 vv.p, .int .i64 vv.g] _ HC.out Tryz.underlying82 rfl (by kernel_rfl) ?_)
      | (refine wpList_store_row rfl 82 _ _ rfl w.heap.size #[.string vv.k, .string vv.v, .bool vv.d, .int .i64 vv.s.c, .int .i64 vv.s.s, .int .i64 vv.a.c, .int .i64 vv.a.s, .int .i64 vv.p, .int .i64 vv.g] rfl rfl _ _ B1.out (by kernel_rfl) rfl (en_cells_one vv) ?_))
    refine bodyPost_ret (results_cell_tmp rfl _ _ w.heap.size 82 #[.string vv.k, .string vv.v, .bool vv.d, .int .i64 vv.s.c, .int .i64 vv.s.s, .int .i64 vv.a.c, .int .i64 vv.a.s, .int .i64 vv.p, .int .i64 vv.g] _ rfl (B1.out.setRow _) Tryz.underlying82 rfl (by kernel_rfl) (.bool true) rfl) rfl ?_
    exact ⟨rfl, O1.out.setRow (.inr (Nat.le_refl _)) _⟩
  · have hs' : has l x = false := by simpa using hs
    have hgv : getL l x = enZero := by rw [getL, if_neg hs]
    rw [hgv, hs']
    rw [hs'] at HB
    generalize rnk l x = r at HB
    clear h hs hgv hs'
    go_enter Tryz.func76, Tryz.ntmps76
    go_wp2_with (first
      | (go_at_call 132; refine (HB.out _ O0.out).mono ?_; rintro e w1 ⟨rfl, o1⟩
         have O1 := Lib.hid ((O0.out.trans o1).alloc (.cells #[.string ⟨#[]⟩, .string ⟨#[]⟩, .bool false, .int .i64 0, .int .i64 0, .int .i64 0, .int .i64 0, .int .i64 0, .int .i64 0] 82))
         have B1 : Hid (Blk (w1.alloc (.cells #[.string ⟨#[]⟩, .string ⟨#[]⟩, .bool false, .int .i64 0, .int .i64 0, .int .i64 0, .int .i64 0, .int .i64 0, .int .i64 0] 82)) w.heap.size 82 #[.string ⟨#[]⟩, .string ⟨#[]⟩, .bool false, .int .i64 0, .int .i64 0, .int .i64 0, .int .i64 0, .int .i64 0, .int .i64 0]) := (B0.out.only o1 (fun h => h)).alloc _
         have B2 := Lib.hid (Blk.new w1 82 #[.string ⟨#[]⟩, .string ⟨#[]⟩, .bool false, .int .i64 0, .int .i64 0, .int .i64 0, .int .i64 0, .int .i64 0, .int .i64 0])
         clear o1)
      | (refine wpl_load rfl 82 _ rfl w1.heap.size rfl _ #[.string ⟨#[]⟩, .string ⟨#[]⟩, .bool false, .int .i64 0, .int .i64 0, .int .i64 0, .int .i64 0, .int .i64 0, .int .i64 0] _ B2.out Tryz.underlying82 rfl (by kernel_rfl) ?_)
      | (refine wpList_store_row rfl 82 _ _ rfl w.heap.size #[.string ⟨#[]⟩, .string ⟨#[]⟩, .bool false, .int .i64 0, .int .i64 0, .int .i64 0, .int .i64 0, .int .i64 0, .int .i64 0] rfl rfl _ _ B1.out (by kernel_rfl) rfl (en_cells_one enZero) ?_))
    refine bodyPost_ret (results_cell_tmp rfl _ _ w.heap.size 82 #[.string ⟨#[]⟩, .string ⟨#[]⟩, .bool false, .int .i64 0, .int .i64 0, .int .i64 0, .int .i64 0, .int .i64 0, .int .i64 0] _ rfl (B1.out.setRow _) Tryz.underlying82 rfl (by kernel_rfl) (.bool false) rfl) rfl ?_
    exact ⟨rfl, O1.out.setRow (.inr (Nat.le_refl _)) _⟩
set_option maxHeartbeats 3200000 in
theorem tb_all (B : World) (g : Nat) (room : Int) (l : List (Pr En)) (v : Value) (w : World) (h : Tb B g room l v w) :
    Calls Tryz.prog 78 #[.pointer (some ⟨g, 0, none⟩)] w fun e w' => ∃ hP A n c, e = .returned (.func (.func 134) #[] #[.pointer (some ⟨hP, 0, none⟩)]) ∧ w.heap.size ≤ hP ∧ n = l.length ∧ Blk w' hP 241 #[.slice A n c] ∧ Cel w' (fun b => w.heap.size ≤ b) (.slice A n c) n 10 (l.flatMap prI) ∧ Only none_ w w' := by
  have hmf : ∀ (fn : Fn) (first cap : Array Value) (w : World), (Instr.makeFunc fn first cap).run Tryz.prog w = .ok (.func fn first cap) w := fun _ _ _ _ => rfl
  obtain ⟨A, c, rfl⟩ := h.shape
  have c1 := h.bk.cell_ (i := 1) rfl
  have hml := h.ml
  have H := Lib.hid h.cel
  obtain ⟨L, hL⟩ : ∃ L, l.length = L := ⟨_, rfl⟩
  rw [hL] at c1 hml H ⊢
  have CLO := Lib.hid (cloI A L c _ _ w H.out hml (prI_one l))
  have HL := Lib.hid hL
  clear h hL
  go_enter Tryz.func78, Tryz.ntmps78
  go_wp2_with (first
    | (go_at_call 133; refine CLO.out.mono ?_; rintro e w1 ⟨v1, rfl, own1, o1⟩
       obtain ⟨A1, n1, c1', rfl⟩ := own_shape own1
       have HN1 : Hid (n1 = L) := by obtain ⟨_, _, e, _⟩ := Cel.of_own own1; injection e
       have C1 : Hid (Cel (w1.alloc (.cells #[.slice A1 n1 c1'] 241)) (fun b => w.heap.size ≤ b) (.slice A1 n1 c1') n1 10 (l.flatMap prI)) := by
         have h2 := (Cel.of_own own1).mono (T := fun b => w.heap.size ≤ b) (fun b _ hb => (own1.lt b hb).1)
         rw [← HN1.out] at h2
         exact h2.alloc _
       have O1 := Lib.hid (o1.alloc (.cells #[.slice A1 n1 c1'] 241))
       have B1 := Lib.hid (Blk.new w1 241 #[.slice A1 n1 c1'])
       have SZ := Lib.hid o1.size
       clear own1 o1))
  go_ret
  exact ⟨w1.heap.size, A1, n1, c1', rfl, SZ.out, HN1.out, B1.out, C1.out, O1.out⟩
end Go.Proofs.YtoohpcomnhfgpaaGreat.Se
end
section
namespace Go.Proofs.YtoohpcomnhfgpaaGreat
open Go.RowKit
set_option linter.all false
abbrev Pst := Value → World → Prop
def putsL (x : Nat → Value) : List Oper → Nat → Act → Act
  | [], _, a => a
  | o :: r, i, a => putsL x r (i + 1) (a.put o.dst (x i))
def knAll (ps : List Pst) (x : Nat → Value) (w : World) : List Edge → Prop
  | [] => True
  | e :: r => (match Region.binds .any e with
      | true => (match ps[e.on]? with
        | some q => q (x e.on) w
        | none => True)
      | false => True) ∧ knAll ps x w r
def knEnd (x : Nat → Value) (w : World) : List Pst → Nat → Prop
  | [], _ => True
  | p :: r, i => p (x i) w ∧ knEnd x w r (i + 1)
section
variable {P : Program} {S : World → Prop} {R : World → World → Prop}
def Got (P : Program) (S : World → Prop) (R : World → World → Prop) (w0 : World) (p : Pst) : Result Next → Prop
  | .ok (.value u) w => p u w ∧ S w ∧ R w0 w
  | .ok .skip w => p undef w ∧ S w ∧ R w0 w
  | .ok (.enter f args) w => Calls P f args w fun e w' => ∃ v, e = .returned v ∧ p v w' ∧ S w' ∧ R w0 w'
  | _ => False
def Owed (P : Program) (S : World → Prop) (R : World → World → Prop) (F : (Nat → Value) → Act) (ps : List Pst) (o : Oper) (p : Pst) : Prop :=
  ∀ x w, S w → knAll ps x w o.after.toList →
    match o.guard with
    | none => Got P S R w p ((execOp (F x).eval o).run P w)
    | some (j, b) => (x j = .bool b ∧ Got P S R w p ((execOp (F x).eval o).run P w)) ∨ ((x j = .bool (!b) ∨ x j = undef) ∧ p undef w ∧ R w w)
def frList (P : Program) (S : World → Prop) (R : World → World → Prop) (F : (Nat → Value) → Act) (K : List Pst → Prop) : List Oper → List Pst → Prop
  | [], ps => K ps
  | o :: r, ps => ∃ p : Pst, (∀ v w w', S w → S w' → R w w' → p v w → p v w') ∧ Owed P S R F ps o p ∧ frList P S R F K r (ps ++ [p])
def frDst : List Oper → Bool
  | [] => true
  | o :: r => (match o.dst with
      | none => true
      | some d => r.all fun o' => !(o'.dst == some d)) && frDst r
def frAft : List Oper → Nat → Bool
  | [], _ => true
  | o :: r, i => (o.after.toList.all fun e => decide (e.on < i)) && frAft r (i + 1)
def frSlot (l : List Oper) (n : Nat) : Bool := l.all fun o => (match o.dst with
  | none => true
  | some d => decide (d < n)) && (match o.guard with
  | none => true
  | some (j, _) => ((l[j]?).bind (·.dst)).isSome)
theorem frAft_at : ∀ (l : List Oper) (k i : Nat) (o : Oper), frAft l k = true → l[i]? = some o → ∀ e ∈ o.after, e.on < k + i
  | [], _, _, _, _, h => by simp at h
  | p :: r, k, 0, o, hk, h => by
    simp only [frAft, Bool.and_eq_true, List.all_eq_true, decide_eq_true_eq] at hk
    simp only [List.getElem?_cons_zero, Option.some.injEq] at h
    subst h
    intro e he
    exact hk.1 e (by simpa using he)
  | p :: r, k, i + 1, o, hk, h => by
    simp only [frAft, Bool.and_eq_true] at hk
    have := frAft_at r (k + 1) i o hk.2 (by simpa using h)
    intro e he
    have := this e he
    omega
theorem put_put (a : Act) (d : Option Tmp) (v u : Value) : (a.put d v).put d u = a.put d u := by
  cases d with
  | none => rfl
  | some d => simp [Act.put]
theorem put_same (a : Act) (d : Tmp) : a.put (some d) (a.tmps.getD d undef) = a := by
  unfold Act.put
  simp only
  congr 1
  apply Array.ext_getElem?
  intro i
  rw [Array.getElem?_setIfInBounds]
  split
  · next h =>
    subst h
    split
    · next h2 => simp [Array.getD, h2]
    · next h2 => simp [h2]
  · rfl
def oldV (l : List Oper) (k : Nat) (a : Act) : Nat → Value := fun i => match (l[i - k]?).bind (·.dst) with
  | some d => a.tmps.getD d undef
  | none => undef
theorem puts_old (a : Act) (x : Nat → Value) : ∀ (l : List Oper) (k : Nat), (∀ i o d, l[i]? = some o → o.dst = some d → x (k + i) = a.tmps.getD d undef) → putsL x l k a = a
  | [], _, _ => rfl
  | o :: r, k, h => by
    rw [putsL]
    have e : a.put o.dst (x k) = a := by
      cases hd : o.dst with
      | none => rfl
      | some d =>
        have := h 0 o d rfl hd
        rw [Nat.add_zero] at this
        rw [this, put_same]
    rw [e]
    exact puts_old a x r (k + 1) fun i o d hi hd => by
      have := h (i + 1) o d (by simpa using hi) hd
      rw [← this]; congr 1; omega
theorem puts_put (x : Nat → Value) (d : Option Tmp) (v : Value) : ∀ (l : List Oper) (k : Nat) (a : Act), (∀ o ∈ l, ∀ e, d = some e → o.dst ≠ some e) → (putsL x l k a).put d v = putsL x l k (a.put d v)
  | [], _, _, _ => rfl
  | o :: r, k, a, h => by
    rw [putsL, putsL, puts_put x d v r (k + 1) _ (fun o ho => h o (List.mem_cons_of_mem _ ho)), Act.put_comm a v (x k) (fun e he => h o List.mem_cons_self e he)]
theorem puts_congr (x y : Nat → Value) : ∀ (l : List Oper) (k : Nat) (a : Act), (∀ i, k ≤ i → x i = y i) → putsL x l k a = putsL y l k a
  | [], _, _, _ => rfl
  | o :: r, k, a, h => by rw [putsL, putsL, h k (Nat.le_refl _)]; exact puts_congr x y r (k + 1) _ fun i hi => h i (by omega)
def updN (x : Nat → Value) (i : Nat) (v : Value) : Nat → Value := fun j => if j = i then v else x j
theorem puts_set (x : Nat → Value) (v : Value) : ∀ (l : List Oper) (k i : Nat) (a : Act) (o : Oper), frDst l = true → l[i]? = some o → (putsL x l k a).put o.dst v = putsL (updN x (k + i) v) l k a
  | [], _, _, _, _, _, h => by simp at h
  | p :: r, k, 0, a, o, hd, h => by
    simp only [List.getElem?_cons_zero, Option.some.injEq] at h
    subst h
    simp only [frDst, Bool.and_eq_true] at hd
    rw [putsL, putsL, puts_put, put_put]
    simp only [Nat.add_zero]
    · have e : updN x k v k = v := by simp [updN]
      rw [e]
      exact puts_congr _ _ _ _ _ fun i hi => by simp only [updN]; rw [if_neg (by omega)]
    · intro o ho e he hc
      have hd := hd.1
      rw [he] at hd
      simp only [List.all_eq_true] at hd
      have := hd o ho
      rw [hc] at this
      simp at this
  | p :: r, k, i + 1, a, o, hd, h => by
    simp only [frDst, Bool.and_eq_true] at hd
    rw [putsL, putsL]
    have e : updN x (k + (i + 1)) v k = x k := by simp only [updN]; rw [if_neg (by omega)]
    rw [e, puts_set x v r (k + 1) i _ o hd.2 (by simpa using h)]
    congr 2
    omega
theorem put_size (a : Act) (d : Option Tmp) (v : Value) : (a.put d v).tmps.size = a.tmps.size := by
  cases d with
  | none => rfl
  | some d => simp [Act.put]
theorem puts_size (x : Nat → Value) : ∀ (l : List Oper) (k : Nat) (a : Act), (putsL x l k a).tmps.size = a.tmps.size
  | [], _, _ => rfl
  | o :: r, k, a => by rw [putsL, puts_size x r (k + 1), put_size]
theorem puts_at (x : Nat → Value) (l : List Oper) (i : Nat) (a : Act) (o : Oper) (d : Tmp) (hd : frDst l = true) (hi : l[i]? = some o) (ho : o.dst = some d) (hs : d < a.tmps.size) : (putsL x l 0 a).tmps[d]? = some (x i) := by
  have h := puts_set x (x i) l 0 i a o hd hi
  have e : updN x (0 + i) (x i) = x := by funext j; simp only [updN, Nat.zero_add]; split <;> simp_all
  rw [e, ho] at h
  have h2 : ((putsL x l 0 a).put (some d) (x i)).tmps[d]? = some (x i) := by
    simp [Act.put, Array.getElem?_setIfInBounds, puts_size, hs]
  rwa [h] at h2
theorem puts_want {x : Nat → Value} {l : List Oper} {a : Act} {o : Oper} {j : Nat} {b : Bool} (hd : frDst l = true) (hs : frSlot l a.tmps.size = true) (ho : o ∈ l) (hg : o.guard = some (j, b)) :
    (x j = .bool b → Region.wanted o (yielded l.toArray (putsL x l 0 a).tmps) = true) ∧ ((x j = .bool (!b) ∨ x j = undef) → Region.wanted o (yielded l.toArray (putsL x l 0 a).tmps) = false) := by
  have hs' := hs
  simp only [frSlot, List.all_eq_true, Bool.and_eq_true] at hs
  have h1 := (hs o ho).2
  rw [hg] at h1
  simp only at h1
  cases hj : l[j]? with
  | none => rw [hj] at h1; cases h1
  | some oj =>
    rw [hj] at h1
    simp only [Option.bind_some] at h1
    cases hdj : oj.dst with
    | none => rw [hdj] at h1; cases h1
    | some d =>
      have hlt : d < a.tmps.size := by
        have h2 := (hs oj (List.mem_of_getElem? hj)).1
        rw [hdj] at h2
        simpa using h2
      have h3 := puts_at x l j a oj d hd hj hdj hlt
      have hy : ∀ v, x j = v → yielded l.toArray (putsL x l 0 a).tmps j = (match v with
        | .bool b => some b
        | _ => none) := by
        intro v hv
        subst hv
        unfold yielded
        simp only [List.getElem?_toArray, hj, Option.bind_some, hdj, h3]
        cases x j <;> rfl
      unfold Region.wanted
      rw [hg]
      simp only
      constructor
      · intro e; rw [hy _ e]; simp
      · rintro (e | e)
        · rw [hy _ e]; cases b <;> rfl
        · rw [hy _ e]; cases b <;> rfl
structure FrInv (l : List Oper) (S : World → Prop) (ps : List Pst) (listed : Array Bool) (x : Nat → Value) (w : World) : Prop where
  sz : listed.size = l.length
  s : S w
  kn : ∀ (j : Nat) (q : Pst), listed.getD j false = true → ps[j]? = some q → q (x j) w
def unl (n : Nat) (listed : Array Bool) : Nat := (List.range n).countP fun i => !listed.getD i true
theorem unl_zero {n : Nat} {listed : Array Bool} (h : unl n listed = 0) (i : Nat) (hi : i < n) : listed.getD i true = true := by
  have := List.countP_eq_zero.1 h i (List.mem_range.2 hi)
  simpa using this
theorem unl_set {n : Nat} {listed : Array Bool} {i : Nat} (hs : listed.size = n) (h : listed.getD i true = false) : unl n (listed.setIfInBounds i true) + 1 ≤ unl n listed := by
  have hi : i < n := by
    rcases Nat.lt_or_ge i n with h1 | h1
    · exact h1
    · rw [Array.getD_eq_getD_getElem?, Array.getElem?_eq_none (by omega)] at h; cases h
  unfold unl
  have e : ∀ m, i < m → (List.range m).countP (fun j => !(listed.setIfInBounds i true).getD j true) + 1 = (List.range m).countP fun j => !listed.getD j true := by
    intro m
    induction m with
    | zero => intro h; omega
    | succ m ih =>
      intro hm
      rw [List.range_succ, List.countP_append, List.countP_append]
      by_cases h1 : i < m
      · have hne : i ≠ m := by omega
        have := ih h1
        simp only [List.countP_singleton, getD_set_ne true hne]
        omega
      · obtain rfl : i = m := by omega
        have e1 : (List.range i).countP (fun j => !(listed.setIfInBounds i true).getD j true) = (List.range i).countP fun j => !listed.getD j true := by
          refine List.countP_congr fun j hj => ?_
          have : i ≠ j := by have := List.mem_range.1 hj; omega
          rw [getD_set_ne true this]
        have e2 : (listed.setIfInBounds i true).getD i true = true := by
          simp [Array.getD_eq_getD_getElem?, Array.getElem?_setIfInBounds]
          split <;> simp
        simp only [List.countP_singleton, e1, e2, h]
        simp
  have := e n hi
  omega
theorem ready_none {l : List Oper} {listed : Array Bool} (ha : frAft l 0 = true) (hs : listed.size = l.length) (h : Region.ready .any l.toArray listed = []) : ∀ i, i < l.length → listed.getD i false = true := by
  intro i
  induction i using Nat.strongRecOn with
  | _ i ih =>
    intro hi
    cases hl : listed.getD i false with
    | true => rfl
    | false =>
      have hm : i ∈ Region.ready .any l.toArray listed := by
        refine mem_ready.2 ⟨getD_in (by omega) hl, l[i], by simp [hi], fun e he _ => ?_⟩
        have := frAft_at l 0 i l[i] ha (List.getElem?_eq_getElem hi) e he
        exact ih e.on (by omega) (by omega)
      rw [h] at hm
      cases hm
theorem knAll_of (ps qs : List Pst) (x : Nat → Value) (w : World) (hpq : ∀ (j : Nat) (q : Pst), qs[j]? = some q → ps[j]? = some q) : ∀ (es : List Edge), (∀ e ∈ es, Region.binds .any e = true → ∀ q : Pst, ps[e.on]? = some q → q (x e.on) w) → knAll qs x w es
  | [], _ => trivial
  | e :: r, h => by
    refine ⟨?_, knAll_of ps qs x w hpq r fun e he => h e (List.mem_cons_of_mem _ he)⟩
    split
    · next hb =>
      split
      · next q hq => exact h e List.mem_cons_self hb q (hpq _ _ hq)
      · trivial
    · trivial
theorem knEnd_of (x : Nat → Value) (w : World) : ∀ (ps : List Pst) (k : Nat), (∀ (j : Nat) (q : Pst), ps[j]? = some q → q (x (k + j)) w) → knEnd x w ps k
  | [], _, _ => trivial
  | p :: r, k, h => ⟨by have := h 0 p rfl; rwa [Nat.add_zero] at this, knEnd_of x w r (k + 1) fun j q hq => by have := h (j + 1) q (by simpa using hq); rw [show k + 1 + j = k + (j + 1) by omega]; exact this⟩
theorem fr_all {F : (Nat → Value) → Act} {K : List Pst → Prop} : ∀ (r : List Oper) (ps : List Pst), frList P S R F K r ps →
    ∃ qs : List Pst, K (ps ++ qs) ∧ qs.length = r.length ∧ ∀ i o p, r[i]? = some o → qs[i]? = some p → (∀ v w w', S w → S w' → R w w' → p v w → p v w') ∧ Owed P S R F (ps ++ qs.take i) o p
  | [], ps, h => ⟨[], by rw [List.append_nil]; exact h, rfl, fun i o p h => by simp at h⟩
  | o :: r, ps, h => by
    obtain ⟨p, h1, h2, h3⟩ := h
    obtain ⟨qs, k1, k2, k3⟩ := fr_all r (ps ++ [p]) h3
    refine ⟨p :: qs, by simpa using k1, by simp [k2], fun i o' p' ho hp => ?_⟩
    cases i with
    | zero =>
      simp only [List.getElem?_cons_zero, Option.some.injEq] at ho hp
      subst ho hp
      refine ⟨h1, ?_⟩
      rw [List.take_zero, List.append_nil]
      exact h2
    | succ i =>
      have := k3 i o' p' (by simpa using ho) (by simpa using hp)
      rw [List.take_succ_cons]
      simpa using this
theorem fr_wp {l : List Oper} {F : (Nat → Value) → Act} {a : Act} {Q : Exit → Act → World → Prop} {ps : List Pst} (hd : frDst l = true) (ha : frAft l 0 = true) (hsl : frSlot l a.tmps.size = true) (hF : ∀ x, putsL x l 0 a = F x) (hlen : ps.length = l.length)
    (hO : ∀ i o p, l[i]? = some o → ps[i]? = some p → (∀ v w w', S w → S w' → R w w' → p v w → p v w') ∧ Owed P S R F (ps.take i) o p)
    (hQ : ∀ x w, S w → knEnd x w ps 0 → Q .normal (F x) w) :
    ∀ (f : Nat) (listed : Array Bool) (x : Nat → Value) (w : World), unl l.length listed ≤ f → FrInv l S ps listed x w → wpAny P .any l.toArray Q f listed (F x) w := by
  have hend : ∀ (listed : Array Bool) (x : Nat → Value) (w : World), FrInv l S ps listed x w → (∀ i, i < l.length → listed.getD i false = true) → Q .normal (F x) w := fun listed x w inv h =>
    hQ x w inv.s (knEnd_of x w ps 0 fun j q hq => by
      have hj : j < ps.length := (List.getElem?_eq_some_iff.1 hq).1
      rw [Nat.zero_add]
      exact inv.kn j q (h j (by omega)) hq)
  intro f
  induction f with
  | zero =>
    intro listed x w hu inv
    have hall : ∀ i, i < l.length → listed.getD i false = true := fun i hi => by
      have h1 := unl_zero (listed := listed) (n := l.length) (by omega) i hi
      cases h2 : listed.getD i false with
      | true => rfl
      | false => rw [getD_in (by have := inv.sz; omega) h2] at h1; cases h1
    refine ⟨?_, hend listed x w inv hall⟩
    refine List.eq_nil_iff_forall_not_mem.2 fun i hi => ?_
    obtain ⟨h1, o, ho, _⟩ := mem_ready.1 hi
    have hil : i < l.length := by simpa using (Array.getElem?_eq_some_iff.1 ho).1
    rw [unl_zero (n := l.length) (by omega) i hil] at h1
    cases h1
  | succ f ih =>
    intro listed x w hu inv
    refine ⟨fun h => hend listed x w inv (ready_none ha inv.sz h), fun i hi => ?_⟩
    obtain ⟨h1, o, ho, hw⟩ := mem_ready.1 hi
    have hil : i < l.length := by simpa using (Array.getElem?_eq_some_iff.1 ho).1
    have hol : l[i]? = some o := by simpa using ho
    have hp : ps[i]? = some ps[i] := List.getElem?_eq_getElem (by omega)
    obtain ⟨_, how⟩ := hO i o _ hol hp
    have hk : knAll (ps.take i) x w o.after.toList := knAll_of ps _ x w (fun j q hq => by
      rw [List.getElem?_take] at hq
      split at hq
      · exact hq
      · cases hq) _ fun e he hb q hq => inv.kn e.on q (hw e (by simpa using he) hb) hq
    have step : ∀ v w', S w' → R w w' → ps[i] v w' → wpAny P .any l.toArray Q f (listed.setIfInBounds i true) ((F x).put o.dst v) w' := by
      intro v w' hS hR hpv
      have e : (F x).put o.dst v = F (updN x i v) := by
        have := puts_set x v l 0 i a o hd hol
        rw [Nat.zero_add] at this
        rw [← hF, this, hF]
      rw [e]
      refine ih _ _ _ (by have := unl_set (n := l.length) inv.sz h1; omega) ⟨by rw [Array.size_setIfInBounds]; exact inv.sz, hS, fun j q hj hq => ?_⟩
      by_cases hji : j = i
      · subst hji
        rw [hp] at hq
        injection hq with hq
        subst hq
        simp only [updN, if_true]
        exact hpv
      · simp only [updN, if_neg hji]
        have hj' : listed.getD j false = true := by
          have : i ≠ j := fun e => hji e.symm
          rwa [getD_set_ne false this] at hj
        have hjl : j < l.length := by
          have := (List.getElem?_eq_some_iff.1 hq).1
          omega
        exact (hO j l[j] q (List.getElem?_eq_getElem hjl) hq).1 _ w w' inv.s hS hR (inv.kn j q hj' hq)
    unfold wpOp
    simp only [ho]
    have hgot : Got P S R w ps[i] ((execOp (F x).eval o).run P w) → o.wp P (F x) w (wpAny P .any l.toArray Q f (listed.setIfInBounds i true)) Q := by
      intro hg
      unfold Oper.wp
      generalize (execOp (F x).eval o).run P w = r at hg ⊢
      cases r with
      | halt z w' => exact hg.elim
      | ok n w' =>
        cases n <;> simp only [Got] at hg <;> simp only [Oper.upon]
        case value u => exact step u w' hg.2.1 hg.2.2 hg.1
        case skip => exact step undef w' hg.2.1 hg.2.2 hg.1
        case enter g args => exact hg.mono fun e w'' ⟨v, he, h1, h2, h3⟩ => by subst he; exact step v w'' h2 h3 h1
    have how := how x w inv.s hk
    cases hgd : o.guard with
    | none =>
      rw [hgd] at how
      rw [if_pos (by simp [Region.wanted, hgd])]
      exact .inl (hgot how)
    | some jb =>
      obtain ⟨j, b⟩ := jb
      rw [hgd] at how
      have hw2 := puts_want (x := x) (a := a) hd hsl (List.mem_of_getElem? hol) hgd
      rw [hF] at hw2
      rcases how with ⟨e, hg⟩ | ⟨e, hg, hr⟩
      · rw [if_pos (hw2.1 e)]
        exact .inl (hgot hg)
      · rw [if_neg (by rw [hw2.2 e]; simp)]
        exact step undef w inv.s hr hg
theorem any_region_free (S : World → Prop) (R : World → World → Prop) {Q : Exit → Act → World → Prop} {a : Act} {w : World} {l : List Oper} {F : (Nat → Value) → Act} (n : Nat) (hn : a.tmps.size = n) (hB : (frDst l && frAft l 0 && frSlot l n) = true) (hF : ∀ x, putsL x l 0 a = F x) (hS : S w.drew)
    (h : frList P S R F (fun ps => ∀ x w', S w' → knEnd x w' ps 0 → Q .normal (F x) w') l []) : wpAny P .any l.toArray Q l.toArray.size (Array.replicate l.toArray.size false) a w.drew := by
  simp only [Bool.and_eq_true] at hB
  obtain ⟨qs, k1, k2, k3⟩ := fr_all l [] h
  rw [List.nil_append] at k1
  have hx : F (oldV l 0 a) = a := by
    rw [← hF]
    refine puts_old a _ l 0 fun i o d hi hd => ?_
    simp only [oldV, Nat.zero_add, Nat.sub_zero, hi, Option.bind_some, hd]
  have inv : FrInv l S qs (Array.replicate l.length false) (oldV l 0 a) w.drew := ⟨by simp, hS, fun j q hj _ => by rw [getD_replicate_false] at hj; cases hj⟩
  have := fr_wp (P := P) (S := S) (R := R) (F := F) (a := a) (Q := Q) hB.1.1 hB.1.2 (hn ▸ hB.2) hF k2 (fun i o p hi hp => by have := k3 i o p hi hp; rwa [List.nil_append] at this) k1 l.length _ _ _ (by
    unfold unl
    have := List.countP_le_length (p := fun i => !(Array.replicate l.length false).getD i true) (l := List.range l.length)
    simpa using this) inv
  rw [hx] at this
  simpa using this
theorem wp_region_free (S : World → Prop) (R : World → World → Prop) {id : Nat} {Q : Exit → Act → World → Prop} {a : Act} {w : World} {l : List Oper} {F : (Nat → Value) → Act} (hm : P.follows .mixedOrders = true) (n : Nat) (hn : a.tmps.size = n) (hB : (frDst l && frAft l 0 && frSlot l n) = true) (hF : ∀ x, putsL x l 0 a = F x) (hS : S w.drew)
    (h : frList P S R F (fun ps => ∀ x w', S w' → knEnd x w' ps 0 → Q .normal (F x) w') l []) : (Code.region id l.toArray true).wp P Q a w :=
  wp_region_any hm (any_region_free S R n hn hB hF hS h)
/-! The steps of a walk. -/
variable {F : (Nat → Value) → Act} {K : List Pst → Prop} {o : Oper} {r : List Oper} {ps : List Pst}
theorem kn_at {x : Nat → Value} {w : World} {j : Nat} {q : Pst} (hj : ps[j]? = some q) : ∀ {es : List Edge}, knAll ps x w es → (es.any fun e => Region.binds .any e && (e.on == j)) = true → q (x j) w
  | [], _, h => by simp at h
  | e :: es, hk, h => by
    simp only [List.any_cons, Bool.or_eq_true, Bool.and_eq_true, beq_iff_eq] at h
    rcases h with ⟨h1, h2⟩ | h
    · have := hk.1
      rw [h1] at this
      simp only [h2, hj] at this
      exact this
    · exact kn_at hj hk.2 h
theorem fr_value {c : Value} (hg : o.guard = none) (hR : ∀ w, R w w) (hv : ∀ x w, S w → knAll ps x w o.after.toList → (execOp (F x).eval o).run P w = .ok (.value c) w) (h : frList P S R F K r (ps ++ [fun v _ => v = c])) : frList P S R F K (o :: r) ps :=
  ⟨_, fun _ _ _ _ _ _ h => h, fun x w hS hk => by rw [hg]; simp only; rw [hv x w hS hk]; exact ⟨rfl, hS, hR w⟩, h⟩
theorem fr_value_if {c : Value} {j : Nat} {b : Bool} (hg : o.guard = some (j, b)) (hj : ps[j]? = some fun v _ => v = .bool b) (he : (o.after.toList.any fun e => Region.binds .any e && (e.on == j)) = true) (hR : ∀ w, R w w) (hv : ∀ x w, S w → knAll ps x w o.after.toList → (execOp (F x).eval o).run P w = .ok (.value c) w) (h : frList P S R F K r (ps ++ [fun v _ => v = c])) : frList P S R F K (o :: r) ps :=
  ⟨_, fun _ _ _ _ _ _ h => h, fun x w hS hk => by rw [hg]; simp only; rw [hv x w hS hk]; exact .inl ⟨kn_at hj hk he, rfl, hS, hR w⟩, h⟩
theorem fr_skip {j : Nat} {b : Bool} (hg : o.guard = some (j, b)) (hj : ps[j]? = some fun v _ => v = .bool (!b)) (he : (o.after.toList.any fun e => Region.binds .any e && (e.on == j)) = true) (hR : ∀ w, R w w) (h : frList P S R F K r (ps ++ [fun v _ => v = undef])) : frList P S R F K (o :: r) ps :=
  ⟨_, fun _ _ _ _ _ _ h => h, fun x w hS hk => by rw [hg]; exact .inr ⟨.inl (kn_at hj hk he), rfl, hR w⟩, h⟩
theorem fr_skip_too {j : Nat} {b : Bool} (hg : o.guard = some (j, b)) (hj : ps[j]? = some fun v _ => v = undef) (he : (o.after.toList.any fun e => Region.binds .any e && (e.on == j)) = true) (hR : ∀ w, R w w) (h : frList P S R F K r (ps ++ [fun v _ => v = undef])) : frList P S R F K (o :: r) ps :=
  ⟨_, fun _ _ _ _ _ _ h => h, fun x w hS hk => by rw [hg]; exact .inr ⟨.inr (kn_at hj hk he), rfl, hR w⟩, h⟩
theorem fr_some (p : Pst) (hp : ∀ v w w', S w → S w' → R w w' → p v w → p v w') (hg : o.guard = none) (hv : ∀ x w, S w → knAll ps x w o.after.toList → Got P S R w p ((execOp (F x).eval o).run P w)) (h : frList P S R F K r (ps ++ [p])) : frList P S R F K (o :: r) ps :=
  ⟨p, hp, fun x w hS hk => by rw [hg]; exact hv x w hS hk, h⟩
theorem fr_some_if (p : Pst) (hp : ∀ v w w', S w → S w' → R w w' → p v w → p v w') {j : Nat} {b : Bool} (hg : o.guard = some (j, b)) (hj : ps[j]? = some fun v _ => v = .bool b) (he : (o.after.toList.any fun e => Region.binds .any e && (e.on == j)) = true) (hv : ∀ x w, S w → knAll ps x w o.after.toList → Got P S R w p ((execOp (F x).eval o).run P w)) (h : frList P S R F K r (ps ++ [p])) : frList P S R F K (o :: r) ps :=
  ⟨p, hp, fun x w hS hk => by rw [hg]; exact .inl ⟨kn_at hj hk he, hv x w hS hk⟩, h⟩
theorem got_call {w : World} {p : Pst} {f : FuncId} {args : Array Value} {z : Result Next} (hz : z = .ok (.enter f args) w) (h : Calls P f args w fun e w' => ∃ v, e = .returned v ∧ p v w' ∧ S w' ∧ R w w') : Got P S R w p z := by
  subst hz; exact h
theorem kn_end_at {x : Nat → Value} {w : World} : ∀ {ps : List Pst} {k : Nat} (j : Nat) {q : Pst}, knEnd x w ps k → ps[j]? = some q → q (x (k + j)) w
  | [], _, _, _, _, h => by simp at h
  | p :: r, k, 0, q, hk, h => by
    simp only [List.getElem?_cons_zero, Option.some.injEq] at h
    subst h
    exact hk.1
  | p :: r, k, j + 1, q, hk, h => by
    have := kn_end_at j hk.2 (by simpa using h)
    rwa [show k + 1 + j = k + (j + 1) by omega] at this
theorem fr_end (h : K ps) : frList P S R F K [] ps := h
end
end Go.Proofs.YtoohpcomnhfgpaaGreat
end
section
namespace Go.Proofs.YtoohpcomnhfgpaaGreat
open Go.RowKit
set_option linter.all false
section
variable {P : Program} {S : World → Prop} {R : World → World → Prop}
theorem unl_set_eq {n : Nat} {listed : Array Bool} {i : Nat} (hin : i < n) (hs : n ≤ listed.size) (h : listed.getD i true = false) : unl n (listed.setIfInBounds i true) + 1 = unl n listed := by
  unfold unl
  have e : ∀ m, i < m → (List.range m).countP (fun j => !(listed.setIfInBounds i true).getD j true) + 1 = (List.range m).countP fun j => !listed.getD j true := by
    intro m
    induction m with
    | zero => intro h; omega
    | succ m ih =>
      intro hm
      rw [List.range_succ, List.countP_append, List.countP_append]
      by_cases h1 : i < m
      · have hne : i ≠ m := by omega
        have := ih h1
        simp only [List.countP_singleton, getD_set_ne true hne]
        omega
      · obtain rfl : i = m := by omega
        have e1 : (List.range i).countP (fun j => !(listed.setIfInBounds i true).getD j true) = (List.range i).countP fun j => !listed.getD j true := by
          refine List.countP_congr fun j hj => ?_
          have : i ≠ j := by have := List.mem_range.1 hj; omega
          rw [getD_set_ne true this]
        have e2 : (listed.setIfInBounds i true).getD i true = true := by
          simp [Array.getD_eq_getD_getElem?, Array.getElem?_setIfInBounds]
          split <;> simp
        simp only [List.countP_singleton, e1, e2, h]
        simp
  exact e n hin
theorem wanted_take {l : List Oper} {n m : Nat} {o : Oper} (hs : frSlot (l.take n) m = true) (ho : o ∈ l.take n) (t : Array Value) : Region.wanted o (yielded l.toArray t) = Region.wanted o (yielded (l.take n).toArray t) := by
  simp only [frSlot, List.all_eq_true, Bool.and_eq_true] at hs
  have h1 := (hs o ho).2
  unfold Region.wanted
  cases hg : o.guard with
  | none => rfl
  | some jb =>
    obtain ⟨j, b⟩ := jb
    rw [hg] at h1
    simp only at h1 ⊢
    cases hj : (l.take n)[j]? with
    | none => rw [hj] at h1; cases h1
    | some oj =>
      have hl : l[j]? = some oj := by
        rw [List.getElem?_take] at hj
        split at hj
        · exact hj
        · cases hj
      unfold yielded
      simp only [List.getElem?_toArray, hj, hl]
theorem frt_wp {l : List Oper} {n : Nat} {F : (Nat → Value) → Act} {a : Act} {Q : Exit → Act → World → Prop} {ps : List Pst} (hnl : n < l.length) (hd : frDst (l.take n) = true) (ha : frAft (l.take n) 0 = true) (hsl : frSlot (l.take n) a.tmps.size = true) (hF : ∀ x, putsL x (l.take n) 0 a = F x) (hlen : ps.length = n)
    (hsk : Region.sinkB .any l.toArray n = true) (hch : Region.chainB .any l.toArray n = true) (hsq : Region.seqB .any l.toArray (l.length - n) n (Array.replicate n true ++ Array.replicate (l.length - n) false) = true)
    (hO : ∀ i o p, (l.take n)[i]? = some o → ps[i]? = some p → (∀ v w w', S w → S w' → R w w' → p v w → p v w') ∧ Owed P S R F (ps.take i) o p)
    (hQ : ∀ x w, S w → knEnd x w ps 0 → wpList P l.toArray Q (l.drop n) (F x) w) :
    ∀ (f : Nat) (listed : Array Bool) (x : Nat → Value) (w : World), unl n listed = f → HeadInv .any l.toArray n listed → S w → (∀ (j : Nat) (q : Pst), listed.getD j false = true → ps[j]? = some q → q (x j) w) → wpAny P .any l.toArray Q (f + (l.length - n)) listed (F x) w := by
  have hln : (l.take n).length = n := by rw [List.length_take]; omega
  intro f
  induction f with
  | zero =>
    intro listed x w hu inv hS hk
    have hall : ∀ i, i < n → listed.getD i false = true := fun i hi => by
      have h1 := unl_zero hu i hi
      cases h2 : listed.getD i false with
      | true => rfl
      | false => rw [getD_in (by have := inv.size; simp at this; omega) h2] at h1; cases h1
    have hA : listed = Array.replicate n true ++ Array.replicate (l.length - n) false := by
      have hsz : listed.size = l.length := by have := inv.size; simpa using this
      apply Array.ext
      · simp [hsz]; omega
      · intro i h1 h2
        have hget : listed[i] = listed.getD i false := by simp [Array.getD_eq_getD_getElem?, h1]
        rw [hget]
        rcases Nat.lt_or_ge i n with hi | hi
        · rw [hall i hi, Array.getElem_append_left (by simpa using hi)]; simp
        · rw [getD_both (inv.tail i hi (by simp; omega)), Array.getElem_append_right (by simpa using hi)]; simp
    rw [Nat.zero_add]
    have := wpAny_of_seq (md := .any) (P := P) (Q' := Q) (ops := l.toArray) (l.drop n) n listed (F x) w (fun j => by simp [List.getElem?_drop]) (by rw [List.length_drop, hA]; exact hsq) (hQ x w hS (knEnd_of x w ps 0 fun j q hq => by
      have hj : j < ps.length := (List.getElem?_eq_some_iff.1 hq).1
      rw [Nat.zero_add]
      exact hk j q (hall j (by omega)) hq))
    rwa [List.length_drop] at this
  | succ f ih =>
    intro listed x w hu inv hS hk
    have hsz : listed.size = l.length := by have := inv.size; simpa using this
    have hun : ∃ i, i < n ∧ listed.getD i true = false := by
      have h0 : 0 < unl n listed := by omega
      obtain ⟨i, hi, hp⟩ := List.countP_pos_iff.1 h0
      exact ⟨i, List.mem_range.1 hi, by simpa using hp⟩
    rw [show f + 1 + (l.length - n) = (f + (l.length - n)) + 1 by omega]
    refine ⟨fun h => ?_, fun i hi => ?_⟩
    · exfalso
      have : ∀ i, i < n → listed.getD i false = true := by
        intro i
        induction i using Nat.strongRecOn with
        | _ i ihi =>
          intro hi
          cases hl : listed.getD i false with
          | true => rfl
          | false =>
            have hm : i ∈ Region.ready .any l.toArray listed := by
              refine mem_ready.2 ⟨getD_in (by omega) hl, l[i], by simp, fun e he _ => ?_⟩
              have := frAft_at (l.take n) 0 i l[i] ha (by rw [List.getElem?_take, if_pos hi]; exact List.getElem?_eq_getElem (by omega)) e he
              exact ihi e.on (by omega) (by omega)
            rw [h] at hm
            cases hm
      obtain ⟨i, hi, hf⟩ := hun
      have h1 := getD_both hf
      rw [this i hi] at h1
      cases h1
    · obtain ⟨h1, o, ho, hw⟩ := mem_ready.1 hi
      have hin : i < n := by
        rcases Nat.lt_or_ge i n with h | h
        · exact h
        · obtain ⟨j, hj, hf⟩ := hun
          exact absurd hi (tail_waits hsk hch (by simpa using hnl) inv _ j rfl hj hf i h)
      have hol : (l.take n)[i]? = some o := by rw [List.getElem?_take, if_pos hin]; simpa using ho
      have hp : ps[i]? = some ps[i] := List.getElem?_eq_getElem (by omega)
      obtain ⟨_, how⟩ := hO i o _ hol hp
      have hkk : knAll (ps.take i) x w o.after.toList := knAll_of ps _ x w (fun j q hq => by
        rw [List.getElem?_take] at hq
        split at hq
        · exact hq
        · cases hq) _ fun e he hb q hq => hk e.on q (hw e (by simpa using he) hb) hq
      have step : ∀ v w', S w' → R w w' → ps[i] v w' → wpAny P .any l.toArray Q (f + (l.length - n)) (listed.setIfInBounds i true) ((F x).put o.dst v) w' := by
        intro v w' hS' hR hpv
        have e : (F x).put o.dst v = F (updN x i v) := by
          have := puts_set x v (l.take n) 0 i a o hd hol
          rw [Nat.zero_add] at this
          rw [← hF, this, hF]
        rw [e]
        refine ih _ _ _ (by have := unl_set_eq hin (by omega) h1; omega) (inv.set hi hin) hS' (fun j q hj hq => ?_)
        by_cases hji : j = i
        · subst hji
          rw [hp] at hq
          injection hq with hq
          subst hq
          simp only [updN, if_true]
          exact hpv
        · simp only [updN, if_neg hji]
          have hj' : listed.getD j false = true := by
            have : i ≠ j := fun e => hji e.symm
            rwa [getD_set_ne false this] at hj
          have hjl : j < n := by
            have := (List.getElem?_eq_some_iff.1 hq).1
            omega
          exact (hO j l[j] q (by rw [List.getElem?_take, if_pos hjl]; exact List.getElem?_eq_getElem (by omega)) hq).1 _ w w' hS hS' hR (hk j q hj' hq)
      unfold wpOp
      simp only [ho]
      have hgot : Got P S R w ps[i] ((execOp (F x).eval o).run P w) → o.wp P (F x) w (wpAny P .any l.toArray Q (f + (l.length - n)) (listed.setIfInBounds i true)) Q := by
        intro hg
        unfold Oper.wp
        generalize (execOp (F x).eval o).run P w = r at hg ⊢
        cases r with
        | halt z w' => exact hg.elim
        | ok n w' =>
          cases n <;> simp only [Got] at hg <;> simp only [Oper.upon]
          case value u => exact step u w' hg.2.1 hg.2.2 hg.1
          case skip => exact step undef w' hg.2.1 hg.2.2 hg.1
          case enter g args => exact hg.mono fun e w'' ⟨v, he, h1, h2, h3⟩ => by subst he; exact step v w'' h2 h3 h1
      have how := how x w hS hkk
      have hmem : o ∈ l.take n := List.mem_of_getElem? hol
      cases hgd : o.guard with
      | none =>
        rw [hgd] at how
        rw [if_pos (by simp [Region.wanted, hgd])]
        exact .inl (hgot how)
      | some jb =>
        obtain ⟨j, b⟩ := jb
        rw [hgd] at how
        have hw2 := puts_want (x := x) (a := a) hd hsl hmem hgd
        rw [hF, ← wanted_take hsl hmem] at hw2
        rcases how with ⟨e, hg⟩ | ⟨e, hg, hr⟩
        · rw [if_pos (hw2.1 e)]
          exact .inl (hgot hg)
        · rw [if_neg (by rw [hw2.2 e]; simp)]
          exact step undef w hS hr hg
def frTail (l : List Oper) (n m : Nat) : Bool :=
  decide (n < l.length) && frDst (l.take n) && frAft (l.take n) 0 && frSlot (l.take n) m && Region.sinkB .any l.toArray n && Region.chainB .any l.toArray n && Region.seqB .any l.toArray (l.length - n) n (Array.replicate n true ++ Array.replicate (l.length - n) false)
theorem wp_region_free_tail (S : World → Prop) (R : World → World → Prop) {id : Nat} {Q : Exit → Act → World → Prop} {a : Act} {w : World} {l : List Oper} {F : (Nat → Value) → Act} (hm : P.follows .mixedOrders = true) (n m : Nat) (hn : a.tmps.size = m) (hB : frTail l n m = true) (hF : ∀ x, putsL x (l.take n) 0 a = F x) (hS : S w.drew)
    (h : frList P S R F (fun ps => ∀ x w', S w' → knEnd x w' ps 0 → wpList P l.toArray Q (l.drop n) (F x) w') (l.take n) []) : (Code.region id l.toArray true).wp P Q a w := by
  simp only [frTail, Bool.and_eq_true, decide_eq_true_eq] at hB
  obtain ⟨⟨⟨⟨⟨⟨b1, b2⟩, b3⟩, b4⟩, b5⟩, b6⟩, b7⟩ := hB
  obtain ⟨qs, k1, k2, k3⟩ := fr_all (l.take n) [] h
  rw [List.nil_append] at k1
  have hln : (l.take n).length = n := by rw [List.length_take]; omega
  refine wp_region_any hm ?_
  have hx : F (oldV (l.take n) 0 a) = a := by
    rw [← hF]
    refine puts_old a _ (l.take n) 0 fun i o d hi hd => ?_
    simp only [oldV, Nat.zero_add, Nat.sub_zero, hi, Option.bind_some, hd]
  have inv0 : HeadInv .any l.toArray n (Array.replicate l.toArray.size false) :=
    ⟨by simp, fun j oj _ hl => (by rw [getD_replicate_false] at hl; cases hl), fun t _ ht => getD_in (by simpa using ht) (getD_replicate_false _ _)⟩
  have hu : unl n (Array.replicate l.toArray.size false) = n := by
    unfold unl
    have : (List.range n).countP (fun i => !(Array.replicate l.toArray.size false).getD i true) = (List.range n).length := by
      refine List.countP_eq_length.2 fun i hi => ?_
      have hi := List.mem_range.1 hi
      simp [Array.getD_eq_getD_getElem?, Array.getElem?_replicate]
      rw [if_pos (by omega)]; rfl
    rw [this, List.length_range]
  have := frt_wp (P := P) (S := S) (R := R) (F := F) (a := a) (Q := Q) b1 b2 b3 (hn ▸ b4) hF (by rw [k2, hln]) b5 b6 b7 (fun i o p hi hp => by have := k3 i o p hi hp; rwa [List.nil_append] at this) k1 n _ (oldV (l.take n) 0 a) w.drew hu inv0 hS (fun j q hj _ => by rw [getD_replicate_false] at hj; cases hj)
  rw [hx, show n + (l.length - n) = l.toArray.size by simp; omega] at this
  exact this
theorem got_value {w w' : World} {p : Pst} {v : Value} {z : Result Next} (hz : z = .ok (.value v) w') (h : p v w' ∧ S w' ∧ R w w') : Got P S R w p z := by
  subst hz; exact h
end
end Go.Proofs.YtoohpcomnhfgpaaGreat
end
