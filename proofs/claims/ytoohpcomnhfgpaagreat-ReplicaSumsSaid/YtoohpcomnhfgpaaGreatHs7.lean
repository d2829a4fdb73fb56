/- Texts of mine, one behind the other: RcD, RcF, GvA, GvB, Rgo, TbXe, GvC. No statement of the seat is proved here. -/
import Derived.Test.YtoohpcomnhfgpaaGreatHs6
import Derived.Test.YtoohpcomnhfgpaaGreatHs5
import Derived.Test.YtoohpcomnhfgpaaGreatHs2
import Derived.Test.YtoohpcomnhfgpaaGreatHs1
import Derived.RangeFuncBox
import Derived.RangeFuncNested
import Derived.RangeFuncBound
import Derived.RangeFuncCalls
import Derived.RangeFuncLeaves
import Derived.Shelf.Abstract
import Derived.Shelf.RegionOpen
import Derived.OwnWalkIn
import Derived.TacticsInMore
import Derived.LoopNIn
import Derived.LoopIn
import Derived.Test.YtoohpcomnhfgpaaGreatHs4
section
namespace Go.Proofs.YtoohpcomnhfgpaaGreat
open Go.RowKit
set_option maxRecDepth 100000
set_option linter.all false
set_option maxHeartbeats 1600000 in
theorem rc_new (w : World) :
    Calls Tryz.prog 114 #[] w fun e w' => ∃ g mb, e = .returned (.pointer (some ⟨g, 0, none⟩)) ∧ Rc w.heap.size g mb [] [] (.slice none 0 0) w' ∧ Only none_ w w' := by
  have hmk := run_makeMap (P := Tryz.prog) 279 w
  have o1 : Only none_ w (w.alloc (.map #[] 0)) := (Only.refl none_ w).alloc _
  have o2 : Only none_ (w.alloc (.map #[] 0)) ((w.alloc (.map #[] 0)).alloc (.cells #[.map (some w.heap.size), .slice none 0 0] 281)) := (Only.refl none_ _).alloc _
  have F : Hid (Rc w.heap.size (w.heap.size + 1) w.heap.size [] [] (.slice none 0 0) ((w.alloc (.map #[] 0)).alloc (.cells #[.map (some w.heap.size), .slice none 0 0] 281)) ∧ Only none_ w ((w.alloc (.map #[] 0)).alloc (.cells #[.map (some w.heap.size), .slice none 0 0] 281))) := by
    have B2 := Blk.new (w.alloc (.map #[] 0)) 281 #[.map (some w.heap.size), .slice none 0 0]
    rw [World.size_alloc] at B2
    exact ⟨⟨B2, World.ownsRow_nil _ _ _ _, (Mp.made w).only o2 (fun h => h), by omega, Nat.le_refl _, ixl_nil, by simp⟩, o1.trans o2⟩
  clear o1 o2
  go_enter Tryz.func114, Tryz.ntmps114
  go_wp2_with fail
  go_ret
  exact ⟨_, _, rfl, F.out.1, F.out.2⟩
set_option maxHeartbeats 1600000 in
theorem rc_get_yes (N g mb : Nat) (l q : List Mk) (v : Value) (m : Mk) (w : World) (h : Rc N g mb l q v w) (hq : Keys_ q) (hm : m ∈ q) :
    Calls Tryz.prog 206 #[.pointer (some ⟨g, 0, none⟩), .string m.k] w fun e w' => e = .returned (.tuple #[.agg #[.int .i64 m.a.c, .int .i64 m.a.s, .string m.k], .bool true]) ∧ Only none_ w w' := by
  have o1 : Only none_ w (w.alloc (.cells #[.int .i64 0, .int .i64 0, .string ⟨#[]⟩] 99)) := (Only.refl none_ w).alloc _
  have hlk := mp_look_yes (P := Tryz.prog) Tryz.underlying9 Tryz.underlying279 (h.keep o1).mp hq hm
  have c0 := (h.keep o1).bk.cell_ (i := 0) rfl
  have O1 := Lib.hid o1
  obtain ⟨⟨mc, ms⟩, k⟩ := m
  simp only [] at hlk ⊢
  have B2 := Blk.new (w.alloc (.cells #[.int .i64 0, .int .i64 0, .string ⟨#[]⟩] 99)) 80 #[.int .i64 mc, .int .i64 ms]
  rw [World.size_alloc] at B2
  have F : Hid (Blk ((w.alloc (.cells #[.int .i64 mc, .int .i64 ms, .string k] 99)).alloc (.cells #[.int .i64 mc, .int .i64 ms] 80)) w.heap.size 99 #[.int .i64 mc, .int .i64 ms, .string k] ∧ Only none_ w ((w.alloc (.cells #[.int .i64 mc, .int .i64 ms, .string k] 99)).alloc (.cells #[.int .i64 mc, .int .i64 ms] 80))) :=
    ⟨(Blk.new w _ _).alloc _, ((Only.refl none_ w).alloc _).alloc _⟩
  have b20 := B2.cell_ (i := 0) rfl
  have b21 := B2.cell_ (i := 1) rfl
  clear h hq hm o1 B2
  go_enter Tryz.func206, Tryz.ntmps206
  go_wp2_with fail
  refine bodyPost_ret (results_cell_tmp rfl _ _ w.heap.size 99 _ _ rfl F.out.1 Tryz.underlying99 rfl (by kernel_rfl) (.bool true) rfl) rfl ?_
  exact ⟨rfl, F.out.2⟩
set_option maxHeartbeats 1600000 in
theorem rc_get_no (N g mb : Nat) (l q : List Mk) (v : Value) (k : ByteArray) (w : World) (h : Rc N g mb l q v w) (hk : k.size ≤ maxLen) (hno : ∀ m ∈ q, m.k ≠ k) :
    Calls Tryz.prog 206 #[.pointer (some ⟨g, 0, none⟩), .string k] w fun e w' => e = .returned (.tuple #[.agg #[.int .i64 0, .int .i64 0, .string ⟨#[]⟩], .bool false]) ∧ Only none_ w w' := by
  have o1 : Only none_ w (w.alloc (.cells #[.int .i64 0, .int .i64 0, .string ⟨#[]⟩] 99)) := (Only.refl none_ w).alloc _
  have hz : ∀ w : World, (zeroValue 80).run Tryz.prog w = .ok (.agg #[.int .i64 0, .int .i64 0]) w := fun w => by
    have : (Tryz.prog.info? 80).map (·.zero) = some (some (.agg #[.int .i64 0, .int .i64 0])) := by kernel_rfl
    cases hi : Tryz.prog.info? 80 with
    | none => rw [hi] at this; cases this
    | some i0 =>
      rw [hi] at this
      simp only [Option.map_some, Option.some.injEq] at this
      simp [zeroValue, typeInfo, hi, this]
  have hlk := mp_look_no (P := Tryz.prog) Tryz.underlying9 Tryz.underlying279 (hz _) (h.keep o1).mp hk hno
  have c0 := (h.keep o1).bk.cell_ (i := 0) rfl
  have F : Hid (Blk ((w.alloc (.cells #[.int .i64 0, .int .i64 0, .string ⟨#[]⟩] 99)).alloc (.cells #[.int .i64 0, .int .i64 0] 80)) w.heap.size 99 #[.int .i64 0, .int .i64 0, .string ⟨#[]⟩] ∧ Only none_ w ((w.alloc (.cells #[.int .i64 0, .int .i64 0, .string ⟨#[]⟩] 99)).alloc (.cells #[.int .i64 0, .int .i64 0] 80))) :=
    ⟨(Blk.new w _ _).alloc _, ((Only.refl none_ w).alloc _).alloc _⟩
  clear h hk hno o1 hz
  go_enter Tryz.func206, Tryz.ntmps206
  go_wp2_with fail
  refine bodyPost_ret (results_cell_tmp rfl _ _ w.heap.size 99 _ _ rfl F.out.1 Tryz.underlying99 rfl (by kernel_rfl) (.bool false) rfl) rfl ?_
  exact ⟨rfl, F.out.2⟩
theorem mark_cut {i : TypeInfo} (hi : Tryz.prog.info? 99 = some i) (hsz : i.size = 3) {w : World} {S : Nat → Prop} {A : Option Addr} {L c : Nat} {l : List Mk} (h : Cel w S (.slice A L c) L 3 (l.flatMap mkI)) (hL : L = l.length) (k m : Nat) (hk : k ≤ L) (hm : m ≤ L - k) :
    ∃ A1, (∀ w', (Instr.sliceAt 163 (.slice A L c) (some (.int .i64 (k : Int))) none none).run Tryz.prog w' = .ok (.slice A1 (L - k) (c - k)) w') ∧ (∀ w', (Instr.sliceAt 163 (.slice A1 (L - k) (c - k)) none (some (.int .i64 (m : Int))) none).run Tryz.prog w' = .ok (.slice A1 m (c - k)) w') ∧
      Cel w S (.slice A1 m (c - k)) m 3 (((l.drop k).take m).flatMap mkI) := by
  obtain ⟨A0, c0, e, h0, h1, h2, h3, h4⟩ := id h
  injection e with e1 e2 e3
  subst e1 e3
  have e1 : ((l.flatMap mkI).drop (k * 3)).take (m * 3) = ((l.drop k).take m).flatMap mkI := by
    rw [flat_drop mkI mkI_len l k (by omega), flat_take mkI mkI_len _ m (by rw [List.length_drop]; omega)]
  rw [← e1]
  rcases Nat.eq_zero_or_pos L with hz | hz
  · have hk0 : k = 0 := by omega
    have hm0 : m = 0 := by omega
    subst hk0 hm0
    cases A with
    | none =>
      have hc0 := h3 rfl
      subst hc0 hz
      refine ⟨none, fun w' => ?_, fun w' => ?_, ?_⟩
      · simp [Instr.sliceAt, Instr.slice, run_underlying Tryz.underlying163, Instr.sliceBounds, run_sliceBound, sizeOf, typeInfo, hi]
      · simp [Instr.sliceAt, Instr.slice, run_underlying Tryz.underlying163, Instr.sliceBounds, run_sliceBound, sizeOf, typeInfo, hi]
      · exact h.sub (p := 0) (by omega) (fun h0 => by omega) (by omega) (by omega) (fun _ => rfl)
    | some ad =>
      refine ⟨some (if c = 0 then ad else ad.add (0 * i.size)), fun w' => ?_, fun w' => ?_, ?_⟩
      · subst hz
        by_cases hc : c = 0 <;> simp [Instr.sliceAt, Instr.slice, run_underlying Tryz.underlying163, Instr.sliceBounds, run_sliceBound, sizeOf, typeInfo, hi, hc]
      · subst hz
        by_cases hc : c = 0 <;> simp [Instr.sliceAt, Instr.slice, run_underlying Tryz.underlying163, Instr.sliceBounds, run_sliceBound, sizeOf, typeInfo, hi, hc, Addr.add]
      · exact h.sub (p := 0) (by omega) (fun h0 => by omega) (by omega) (by omega) (fun e => by cases e)
  · obtain ⟨ba, off, rfl, _⟩ := h4 hz
    by_cases hrc : k < c
    · refine ⟨_, sl_lo Tryz.underlying163 hi hsz ba off L c k hk hrc (k : Int) rfl, sl_hi Tryz.underlying163 hi ba (off + k * 3) (L - k) (c - k) m (by omega) (m : Int) rfl, ?_⟩
      exact h.sub (by omega) (fun _ b o e => by injection e with e; injection e with e1 e2; subst e1 e2; rfl) (by omega) (by omega) (fun e => by cases e)
    · refine ⟨_, sl_lo_end Tryz.underlying163 hi ba off L c k hk (by omega) (k : Int) rfl, sl_hi Tryz.underlying163 hi ba off (L - k) (c - k) m (by omega) (m : Int) rfl, ?_⟩
      exact h.sub (p := k) (by omega) (fun h0 => by omega) (by omega) (by omega) (fun e => by cases e)
set_option maxHeartbeats 1600000 in
theorem rc_some (N g mb : Nat) (l q : List Mk) (v : Value) (k : Nat) (n : Int) (w : World) (h : Rc N g mb l q v w) (hk : k ≤ l.length) :
    Calls Tryz.prog 136 #[.pointer (some ⟨g, 0, none⟩), .int .i64 k, .int .i64 n] w fun e w' => ∃ v', e = .returned v' ∧ w'.ownsRow w.heap.size 99 3 v' ((l.drop k).take n.toNat).length (((l.drop k).take n.toNat).flatMap mkI) ∧ Only none_ w w' := by
  obtain ⟨i0, hi0, hz0, hz1, hz2⟩ := info_parts mark_info
  have hml := h.ml
  obtain ⟨A, c, rfl⟩ := h.shape
  obtain ⟨m, hm⟩ : ∃ m, ((l.drop k).take n.toNat).length = m := ⟨_, rfl⟩
  have hm2 : m = min n.toNat (l.length - k) := by rw [← hm]; simp
  have htk : (l.drop k).take n.toNat = (l.drop k).take m := by
    rw [hm2, List.take_eq_take_iff, List.length_drop]; omega
  obtain ⟨A1, hs1, hs2, hcl⟩ := mark_cut hi0 hz1 h.cel rfl k m hk (by omega)
  rw [hm, htk]
  have HCL := Lib.hid (fun (w' : World) (o : Only none_ w w') => cloM A1 m (c - k) _ _ w' (hcl.only o (fun _ _ h => h)) (by omega) (mkI_one _))
  have hmn : ∀ ts t w, (Builtin.min_ ts t #[.int .i64 n, .int .i64 ((l.length - k : Nat) : Int)]).run Tryz.prog w = .ok (.int .i64 (min n ((l.length - k : Nat) : Int))) w := fun ts t w => by
    rw [run_min_int2]
    by_cases hk : ((l.length - k : Nat) : Int) < n
    · rw [if_pos hk, Int.min_eq_right (by omega)]
    · rw [if_neg hk, Int.min_eq_left (by omega)]
  have hmx : ∀ ts t w, (Builtin.max_ ts t #[.int .i64 0, .int .i64 (min n ((l.length - k : Nat) : Int))]).run Tryz.prog w = .ok (.int .i64 (m : Int)) w := fun ts t w => by
    rw [run_max_int2]
    by_cases hk : 0 < min n ((l.length - k : Nat) : Int)
    · simp only [hk, if_true]; congr 2; omega
    · simp only [hk, if_false]; congr 2; omega
  have c1 := h.bk.cell_ (i := 1) rfl
  have CC := HCL.out w (Only.refl _ _)
  have HC1 := Lib.hid CC
  obtain ⟨n1, hn1⟩ : ∃ n1, l.length - k = n1 := ⟨_, rfl⟩
  rw [hn1] at hs1 hs2 hmn hmx
  generalize min n (n1 : Int) = qq at hmn hmx
  obtain ⟨ll, hll⟩ : ∃ ll, l.length = ll := ⟨_, rfl⟩
  rw [hll] at hs1 c1 hk
  clear h hml hm hm2 htk hcl hn1 hll CC HCL
  go_enter Tryz.func136, Tryz.ntmps136
  go_wp2_with (first
    | (go_at_call 187; refine HC1.out.mono ?_; rintro E w4 ⟨v4, rfl, own4, o4⟩
       have F4 : Hid (w4.ownsRow w.heap.size 99 3 v4 m (((l.drop k).take m).flatMap mkI) ∧ Only none_ w w4) := ⟨own4, o4⟩
       clear own4 o4))
  go_ret
  exact ⟨_, rfl, F4.out.1, F4.out.2⟩
set_option maxHeartbeats 1600000 in
theorem rc_newest (N g mb : Nat) (l q : List Mk) (v : Value) (n : Int) (w : World) (h : Rc N g mb l q v w) :
    Calls Tryz.prog 135 #[.pointer (some ⟨g, 0, none⟩), .int .i64 n] w fun e w' => ∃ v', e = .returned v' ∧ w'.ownsRow w.heap.size 99 3 v' (belM l mkTop n).length ((belM l mkTop n).flatMap mkI) ∧ Only none_ w w' := by
  have hs := rc_some N g mb l q v 0 n w h (Nat.zero_le _)
  rw [List.drop_zero, ← bel_top (m := mkTop) (by rw [isTop_same]; exact (mkSame_iff _ _).2 rfl)] at hs
  have HS := Lib.hid hs
  clear h hs
  go_enter Tryz.func135, Tryz.ntmps135
  go_wp2_with (first
    | (go_at_call 136; refine HS.out.mono ?_; rintro E w4 ⟨v4, rfl, own4, o4⟩
       have F4 := Lib.hid (And.intro own4 o4)
       clear own4 o4))
  go_ret
  exact ⟨_, rfl, F4.out.1, F4.out.2⟩
set_option maxHeartbeats 1600000 in
theorem rc_below (N g mb : Nat) (l q : List Mk) (v : Value) (m : Mk) (n : Int) (w : World) (h : Rc N g mb l q v w) :
    Calls Tryz.prog 79 #[.pointer (some ⟨g, 0, none⟩), .agg #[.int .i64 m.a.c, .int .i64 m.a.s, .string m.k], .int .i64 n] w fun e w' => ∃ v', e = .returned v' ∧ w'.ownsRow w.heap.size 99 3 v' (belM l m n).length ((belM l m n).flatMap mkI) ∧ Only none_ w w' := by
  have heq := fun w => eqlA w m mkTop
  rw [← isTop_same] at heq
  simp only [show mkTop.a.c = 0 from rfl, show mkTop.a.s = 0 from rfl, show mkTop.k = ⟨#[]⟩ from rfl] at heq
  have O1 := Lib.hid ((Only.refl none_ w).alloc (.cells #[.int .i64 m.a.c, .int .i64 m.a.s, .string m.k] 99))
  have B1 := Blk.new w 99 #[.int .i64 m.a.c, .int .i64 m.a.s, .string m.k]
  have b0 := B1.cell_ (i := 0) rfl
  have b1 := B1.cell_ (i := 1) rfl
  have b2 := B1.cell_ (i := 2) rfl
  have h1 := h.keep O1.out
  by_cases ht : isTop m = true
  · rw [ht] at heq
    have hs := rc_newest N g mb l q v n _ h1
    have e : belM l m n = belM l mkTop n := by rw [bel_top ht, bel_top (m := mkTop) (by rw [isTop_same]; exact (mkSame_iff _ _).2 rfl)]
    rw [e]
    have HS := Lib.hid hs
    clear h h1 hs e B1 ht
    go_enter Tryz.func79, Tryz.ntmps79
    go_wp2_with (first
      | (go_at_call 135; refine HS.out.mono ?_; rintro E w4 ⟨v4, rfl, own4, o4⟩
         have F4 := Lib.hid (And.intro own4 o4)
         clear own4 o4))
    go_ret
    exact ⟨_, rfl, owns_base F4.out.1 O1.out.size, O1.out.trans F4.out.2⟩
  · have ht' : isTop m = false := by simpa using ht
    rw [ht'] at heq
    rw [bel_not h.ix.ds ht']
    have hb := rc_behind N g mb l q v m _ h1
    have hle := bh_le l m
    generalize bh l m = r at hb hle ⊢
    have HB := Lib.hid hb
    have HS := Lib.hid (fun (w' : World) (o : Only none_ w w') => rc_some N g mb l q v r n w' (h.keep o) hle)
    clear h h1 hb B1 ht ht'
    go_enter Tryz.func79, Tryz.ntmps79
    go_wp2_with (first
      | (go_at_call 137; refine HB.out.mono ?_; rintro E w3 ⟨rfl, o3⟩
         have O3 := Lib.hid (O1.out.trans o3)
         clear o3)
      | (go_at_call 136; refine (HS.out _ O3.out).mono ?_; rintro E w4 ⟨v4, rfl, own4, o4⟩
         have F4 := Lib.hid (And.intro own4 o4)
         clear own4 o4))
    go_ret
    exact ⟨_, rfl, owns_base F4.out.1 O3.out.size, O3.out.trans F4.out.2⟩
end Go.Proofs.YtoohpcomnhfgpaaGreat
end
section
namespace Go.Proofs.YtoohpcomnhfgpaaGreat
open Go.RowKit
set_option maxRecDepth 100000
set_option linter.all false
def LeftR (N g mb : Nat) (v : Value) (w : World) (l' : List Mk) (w' : World) : Prop := ∃ v', Rc N g mb l' l' v' w' ∧ Only (Ft g mb v) w w' ∧ Moved w v v'
theorem mv_foot {w : World} {g mb : Nat} {v v' : Value} (h : Moved w v v') (k : Nat) (hk : k < w.heap.size) (hf : Ft g mb v' k) : Ft g mb v k := by
  rcases hf with rfl | rfl | hf
  · exact .inl rfl
  · exact .inr (.inl rfl)
  · rcases h k hf with h | h
    · exact .inr (.inr h)
    · omega
set_option maxHeartbeats 6400000 in
theorem rc_drop_yes (N g mb : Nat) (l : List Mk) (v : Value) (m : Mk) (w : World) (h : Rc N g mb l l v w) (hm : m ∈ l) :
    Calls Tryz.prog 161 #[.pointer (some ⟨g, 0, none⟩), .string m.k] w fun e w' => e = .returned (.bool true) ∧ LeftR N g mb v w (dropM l m.k) w' := by
  have hg := rc_get_yes N g mb l l v m w h h.ix.ks hm
  obtain ⟨i, hi, hmi⟩ := List.mem_iff_getElem.1 hm
  have hbh := bh_mem h.ix.ds i hi
  have hdr := drop_at h.ix.ks i hi
  rw [hmi] at hbh hdr
  have hix := h.ix.drop m.k
  have hml := h.ml
  obtain ⟨A, c, rfl⟩ := h.shape
  obtain ⟨p, hp⟩ : ∃ p, l.length = p + 1 := ⟨l.length - 1, by omega⟩
  have HD : Hid (∀ w1, Only none_ w w1 → ∃ w3, (∀ ty, (Builtin.delete_ #[279, 9] ty #[.map (some mb), .string m.k]).run Tryz.prog (w1.alloc (.cells #[.int .i64 m.a.c, .int .i64 m.a.s, .string m.k] 99)) = .ok (.tuple #[]) w3) ∧
      (w1.alloc (.cells #[.int .i64 m.a.c, .int .i64 m.a.s, .string m.k] 99)).cell? ⟨g, 0, none⟩ = some (.map (some mb)) ∧
      w3.cell? ⟨w1.heap.size, 0, none⟩ = some (.int .i64 m.a.c) ∧ w3.cell? ⟨w1.heap.size, 1, none⟩ = some (.int .i64 m.a.s) ∧ w3.cell? ⟨w1.heap.size, 2, none⟩ = some (.string m.k) ∧
      Rc N g mb l (dropM l m.k) (.slice A l.length c) w3 ∧ Only (one mb) w w3) := by
    intro w1 o1
    have o2 : Only none_ w1 (w1.alloc (.cells #[.int .i64 m.a.c, .int .i64 m.a.s, .string m.k] 99)) := (Only.refl none_ w1).alloc _
    have h1 := (h.keep o1).keep o2
    obtain ⟨w3, hr, hmp, o3⟩ := mp_del (P := Tryz.prog) Tryz.underlying9 Tryz.underlying279 h1.mp h.ix.ks hm
    have B1 := Blk.new w1 99 #[.int .i64 m.a.c, .int .i64 m.a.s, .string m.k]
    have hmb : mb < w1.heap.size := (h.keep o1).mp.lt
    have B3 := B1.only o3 (fun e => by have e' : w1.heap.size = mb := e; omega)
    refine ⟨w3, hr, h1.bk.cell_ (i := 0) rfl, B3.cell_ (i := 0) rfl, B3.cell_ (i := 1) rfl, B3.cell_ (i := 2) rfl, ⟨h1.bk.only o3 (fun e => ?_), owns_only h1.ow o3 (fun k hk e => ?_), hmp, h1.gn, h1.mn, h1.ix, h1.ml⟩, (o1.trans o2).of_none.trans o3⟩
    · exact h1.mp.ne_blk h1.bk (show mb = g from (show g = mb from e).symm)
    · have e' : k = mb := e
      obtain ⟨es, clock, hb, _⟩ := h1.mp
      rcases h1.ow.2 with ⟨h2, _⟩ | ⟨b, cap, cur, h2, _, hh, _⟩
      · injection h2 with h2; rw [h2] at hk; cases hk
      · injection h2 with h2; rw [h2] at hk; have hk' : some b = some k := hk; injection hk' with hk'
        rw [hk', e', hb] at hh; cases hh
  have HG := Lib.hid hg
  have HB : Hid (∀ w3, Rc N g mb l (dropM l m.k) (.slice A l.length c) w3 → Calls Tryz.prog 137 #[.pointer (some ⟨g, 0, none⟩), .agg #[.int .i64 m.a.c, .int .i64 m.a.s, .string m.k]] w3 fun e w' => e = .returned (.int .i64 ((i : Int) + 1)) ∧ Only none_ w3 w') := fun w3 h3 => by
    have := rc_behind N g mb l (dropM l m.k) _ m w3 h3
    rw [hbh] at this
    exact this
  have HX : Hid (∀ w3 w4 : World, Rc N g mb l (dropM l m.k) (.slice A (p + 1) c) w4 → w4.cell? ⟨g, 1, none⟩ = some (.slice A (p + 1) c) ∧ Calls Tryz.prog 207 #[.slice A (p + 1) c, .int .i64 i, .int .i64 ((i : Int) + 1)] w4
      fun e w' => e = .returned (.slice A p c) ∧ w'.cell? ⟨g, 1, none⟩ = some (.slice A (p + 1) c) ∧ w'.frozen? ⟨g, 1, none⟩ = false ∧ Rc N g mb (dropM l m.k) (dropM l m.k) (.slice A p c) (w'.setCell ⟨g, 1, none⟩ (.slice A p c)) ∧ Only (Ft g mb (.slice A (p + 1) c)) w4 (w'.setCell ⟨g, 1, none⟩ (.slice A p c))) := by
    intro w3 w4 h4
    have own4 := h4.ow
    rw [hp] at own4
    obtain ⟨b, cur, rfl, hrw, hnc, htk⟩ := own_rw own4 (by omega)
    refine ⟨h4.bk.cell_ (i := 1) rfl, ?_⟩
    refine (delM N b p c i cur _ w4 hrw htk (by omega) hnc (by omega) (mkI_one l)).mono ?_
    rintro e w5 ⟨rfl, own5, o5⟩
    have hgb : g ≠ b := Blk.ne_ h4.bk (show Blk w4 b 99 _ from hrw.bk) (by decide)
    have hmb : mb ≠ b := h4.mp.ne_blk (show Blk w4 b 99 _ from hrw.bk)
    have hmg : mb ≠ g := h4.mp.ne_blk h4.bk
    have b5 := h4.bk.only o5 (fun e => hgb e)
    have hnew : (dropM l m.k).length = p := by rw [hdr]; simp; omega
    have hflat : (dropM l m.k).flatMap mkI = (l.flatMap mkI).take (i * 3) ++ (l.flatMap mkI).drop ((i + 1) * 3) := by
      rw [hdr, List.flatMap_append, flat_take mkI mkI_len l i (by omega), flat_drop mkI mkI_len l (i + 1) (by omega)]
    have o6 : Only (one g) w5 (w5.setCell ⟨g, 1, none⟩ (.slice (some ⟨b, 0, none⟩) p c)) := (Only.refl (one g) w5).setCell (.inl (show one g g from rfl)) _
    refine ⟨rfl, b5.cell_ (i := 1) rfl, b5.frozen 1, ⟨b5.set_ 1 _, ?_, (h4.mp.only o5 (fun e => hmb e)).only o6 (fun e => hmg e), h4.gn, h4.mn, hix, by rw [hnew]; omega⟩, ?_⟩
    · rw [hflat, hnew]
      exact owns_only own5 o6 (fun k hk e => hgb (by have e1 : some b = some k := hk; injection e1 with e1; have e2 : k = g := e; omega))
    · exact ((Only.refl _ w4).trans' o5 (fun k _ e => .inr (.inr (by have e' : k = b := e; rw [e']; rfl)))).trans' o6 (fun k _ e => .inl e)
  rw [hp] at HD HB ⊢
  have hw1 : IntKind.i64.wrap ((i : Int) + 1 - 1) = (i : Int) := by rw [Int.add_sub_cancel]; exact IntWalk.i64_in _ (by omega)
  have hw2 : IntKind.i64.wrap (i : Int) = (i : Int) := IntWalk.i64_in _ (by omega)
  have hsub : (i : Int) + 1 - 1 = i := by omega
  have hi100 : i ≤ 100 := by omega
  obtain ⟨⟨mc, ms⟩, k⟩ := m
  simp only [] at HG HD HB HX ⊢
  clear h hg hm hmi hbh hdr hix hml hp hi
  go_enter Tryz.func161, Tryz.ntmps161
  go_wp2_with (first
    | (go_at_call 206; refine HG.out.mono ?_; rintro E w1 ⟨rfl, o1⟩
       obtain ⟨w3, hdel, hc0, hc1, hc2, hc3, h3, o3⟩ := HD.out w1 o1
       have R3 := Lib.hid h3
       have O3 := Lib.hid o3
       clear o1 h3 o3)
    | (go_at_call 137; refine (HB.out _ R3.out).mono ?_; rintro E w4 ⟨rfl, o4⟩
       obtain ⟨hk4, hD4⟩ := HX.out w3 w4 (R3.out.keep o4)
       have HD4 := Lib.hid hD4
       have O4 := Lib.hid (O3.out.trans o4.of_none)
       clear hD4 o4)
    | (go_at_call 207; refine HD4.out.mono ?_; rintro E w5 ⟨rfl, hk5, hf5, r5, o5⟩
       have F5 := Lib.hid (And.intro r5 o5)
       clear r5 o5))
  go_ret
  refine ⟨rfl, _, F5.out.1, (O4.out.mono (fun k _ e => .inr (.inl e))).trans F5.out.2, fun k hk => .inl (by cases A <;> exact hk)⟩
set_option maxHeartbeats 1600000 in
theorem rc_drop_no (N g mb : Nat) (l : List Mk) (v : Value) (k : ByteArray) (w : World) (h : Rc N g mb l l v w) (hk : k.size ≤ maxLen) (hno : hasM l k = false) :
    Calls Tryz.prog 161 #[.pointer (some ⟨g, 0, none⟩), .string k] w fun e w' => e = .returned (.bool false) ∧ LeftR N g mb v w (dropM l k) w' := by
  rw [drop_not hno]
  have HG := Lib.hid (rc_get_no N g mb l l v k w h hk (has_not hno))
  have H := Lib.hid h
  clear h hk hno
  go_enter Tryz.func161, Tryz.ntmps161
  go_wp2_with (first
    | (go_at_call 206; refine HG.out.mono ?_; rintro E w1 ⟨rfl, o1⟩
       have O1 := Lib.hid (o1.trans ((Only.refl none_ w1).alloc (.cells #[.int .i64 0, .int .i64 0, .string ⟨#[]⟩] 99)))
       clear o1))
  go_ret
  exact ⟨rfl, _, H.out.keep O1.out, O1.out.of_none, Moved.refl _ _⟩
theorem rc_drop (N g mb : Nat) (l : List Mk) (v : Value) (k : ByteArray) (w : World) (h : Rc N g mb l l v w) (hk : k.size ≤ maxLen) :
    Calls Tryz.prog 161 #[.pointer (some ⟨g, 0, none⟩), .string k] w fun e w' => e = .returned (.bool (hasM l k)) ∧ LeftR N g mb v w (dropM l k) w' := by
  cases hh : hasM l k with
  | false => exact rc_drop_no N g mb l v k w h hk hh
  | true =>
    obtain ⟨i, hi, he, _⟩ := has_get hh
    rw [← he]
    exact rc_drop_yes N g mb l v l[i] w h (List.getElem_mem hi)
end Go.Proofs.YtoohpcomnhfgpaaGreat
end
section
namespace Go.Proofs.YtoohpcomnhfgpaaGreat
open Go.RowKit
set_option maxRecDepth 100000
set_option linter.all false
def prs (l : List En) : List (Pr En) := l.map fun e => ⟨e.k, e⟩
theorem prs_length (l : List En) : (prs l).length = l.length := by simp [prs]
theorem prs_get (l : List En) (i : Nat) (hi : i < (prs l).length) : (prs l)[i] = ⟨(l[i]'(by rwa [prs_length] at hi)).k, l[i]'(by rwa [prs_length] at hi)⟩ := by simp [prs]
theorem ris_prs {l : List En} (h : Ris (prs l)) : RisE l := by
  refine List.pairwise_iff_getElem.2 fun i j hi hj hij => ?_
  have := h i j (by rwa [prs_length]) (by rwa [prs_length]) hij
  simpa [prs] using this
theorem has_prs (l : List En) (x : ByteArray) : has (prs l) x = hasE l x := by
  unfold has hasE prs
  rw [List.any_map]
  rfl
theorem rnk_cons (p : Pr En) (l : List (Pr En)) (x : ByteArray) : rnk (p :: l) x = rnk l x + if lt_ p.k x = true then 1 else 0 := by
  unfold rnk
  rw [List.countP_cons]
theorem put_prs (e : En) : ∀ l : List En, RisE l → putL (prs l) e.k e = prs (setE e l)
  | [], _ => by simp [prs, putL, setE, rnk, has]
  | p :: l, h => by
    have h' := List.pairwise_cons.1 h
    have ih := put_prs e l h'.2
    have e1 : prs (p :: l) = ⟨p.k, p⟩ :: prs l := rfl
    unfold setE
    by_cases hp : lt_ p.k e.k = true
    · rw [if_pos hp, e1]
      have hr : rnk (⟨p.k, p⟩ :: prs l) e.k = rnk (prs l) e.k + 1 := by rw [rnk_cons]; simp [hp]
      have hh : has ((⟨p.k, p⟩ : Pr En) :: prs l) e.k = has (prs l) e.k := by
        unfold has
        rw [List.any_cons]
        simp [lt_ne hp]
      show _ = (⟨p.k, p⟩ : Pr En) :: prs (setE e l)
      rw [← ih]
      unfold putL
      rw [hr, hh]
      cases has (prs l) e.k <;> simp
    · have hpf : lt_ p.k e.k = false := by simpa using hp
      rw [if_neg hp, e1]
      have hall : ∀ y ∈ l, lt_ y.k e.k = false ∧ y.k ≠ e.k := by
        intro y hy
        have hxy := h'.1 y hy
        constructor
        · cases hz : lt_ y.k e.k with
          | false => rfl
          | true => have := lt_tr hxy hz; rw [hpf] at this; cases this
        · intro hz; rw [hz] at hxy; rw [hpf] at hxy; cases hxy
      have hr0 : rnk (prs l) e.k = 0 := by
        unfold rnk
        refine List.countP_eq_zero.2 fun y hy => ?_
        obtain ⟨z, hz, rfl⟩ := List.mem_map.1 hy
        simp [(hall z hz).1]
      have hr : rnk (⟨p.k, p⟩ :: prs l) e.k = 0 := by rw [rnk_cons, hr0]; simp [hpf]
      have hno : has (prs l) e.k = false := by
        rw [has_prs]
        cases hz : hasE l e.k with
        | false => rfl
        | true =>
          obtain ⟨i, hi, hk, _⟩ := hasE_get hz
          exact absurd hk (hall _ (List.getElem_mem hi)).2
      have hf : l.filter (fun y => !decide (y.k = e.k)) = l := List.filter_eq_self.2 fun y hy => by simp [(hall y hy).2]
      unfold putL
      rw [hr]
      by_cases hk : p.k = e.k
      · have hh : has ((⟨p.k, p⟩ : Pr En) :: prs l) e.k = true := by simp [has, hk]
        rw [if_pos hh, List.filter_cons_of_neg (by simp [hk]), hf]
        rfl
      · have hh : has ((⟨p.k, p⟩ : Pr En) :: prs l) e.k = false := by
          have : has ((⟨p.k, p⟩ : Pr En) :: prs l) e.k = (decide (p.k = e.k) || has (prs l) e.k) := rfl
          rw [this, hno]; simp [hk]
        rw [if_neg (by rw [hh]; simp), List.filter_cons_of_pos (by simp [hk]), hf]
        rfl
theorem get_prs {l : List En} (h : Ris (prs l)) (x : ByteArray) : Se.getL (prs l) x = (lookE l x).getD enZero := by
  unfold Se.getL
  by_cases hs : has (prs l) x = true
  · rw [if_pos hs]
    have hat := (has_at h x).symm
    rw [hs] at hat
    simp only [Bool.and_eq_true, decide_eq_true_eq] at hat
    obtain ⟨hlt, _, hk⟩ := hat
    rw [List.getElem?_eq_getElem hlt]
    rw [prs_get] at hk ⊢
    dsimp only at hk
    have := look_mem (ris_prs h) (List.getElem_mem (by rwa [prs_length] at hlt))
    rw [hk] at this
    rw [this]
    rfl
  · rw [if_neg hs]
    have : lookE l x = none := by
      refine List.find?_eq_none.2 fun y hy => ?_
      have hn : hasE l x = false := by rw [← has_prs]; simpa using hs
      simpa using hasE_not hn y hy
    rw [this]
    rfl
structure Sh (w : World) (s tb : Nat) : Prop where
  c0 : w.cell? ⟨s, 0, none⟩ = some (.pointer (some ⟨tb, 0, none⟩))
  c2 : w.cell? ⟨s, 2, none⟩ = some (.pointer none)
theorem Sh.keep {w w' : World} {s tb : Nat} {S : Nat → Prop} (h : Sh w s tb) (o : Only S w w') (hn : ¬ S s) : Sh w' s tb := by
  have hs : s < w.heap.size := by
    obtain ⟨b, hb⟩ : ∃ o, w.heap[s]? = some o := by
      have := h.c0
      unfold World.cell? at this
      cases ho : w.heap[s]? with
      | none => rw [ho] at this; cases this
      | some o => exact ⟨o, rfl⟩
    exact (Array.getElem?_eq_some_iff.1 hb).1
  exact ⟨(o.cell (p := ⟨s, 0, none⟩) hs hn).trans h.c0, (o.cell (p := ⟨s, 2, none⟩) hs hn).trans h.c2⟩
set_option maxHeartbeats 800000 in
theorem sh_of (s tb : Nat) (x : ByteArray) (w : World) (h : Sh w s tb) :
    Calls Tryz.prog 201 #[.pointer (some ⟨s, 0, none⟩), .string x] w fun e w' => e = .returned (.pointer (some ⟨s, 0, none⟩)) ∧ w = w' := by
  have c2 := h.c2
  clear h
  go_enter Tryz.func201, Tryz.ntmps201
  go_wp2_with fail
  refine wp_loop_rounds 1 ?_
  rw [rounds_succ]
  go_wp2_with fail
  go_ret
  exact ⟨rfl, rfl⟩
set_option maxHeartbeats 800000 in
theorem sh_each (s : Nat) (w : World) :
    Calls Tryz.prog 156 #[.pointer (some ⟨s, 0, none⟩)] w fun e w' => e = .returned (.func (.func 200) #[] #[.pointer (some ⟨w.heap.size, 0, none⟩)]) ∧ w' = w.alloc (.cells #[.pointer (some ⟨s, 0, none⟩)] 258) := by
  have hmf : ∀ (fn : Fn) (first cap : Array Value) (w : World), (Instr.makeFunc fn first cap).run Tryz.prog w = .ok (.func fn first cap) w := fun _ _ _ _ => rfl
  go_enter Tryz.func156, Tryz.ntmps156
  go_wp2_with fail
  go_ret
  exact ⟨rfl, rfl⟩
end Go.Proofs.YtoohpcomnhfgpaaGreat
end
section
namespace Go.Proofs.YtoohpcomnhfgpaaGreat
open Go.RowKit
set_option maxRecDepth 100000
set_option linter.all false
set_option maxHeartbeats 3200000 in
theorem sh_get (B : World) (s tb : Nat) (l : List En) (v : Value) (x : ByteArray) (e : En) (he : (lookE l x).getD enZero = e) (w : World) (h : Sh w s tb) (ht : Se.Tb B tb 4096 (prs l) v w) :
    Calls Tryz.prog 195 #[.pointer (some ⟨s, 0, none⟩), .string x] w fun E w' => E = .returned (.tuple #[.agg #[.string e.k, .string e.v, .bool e.d, .int .i64 e.s.c, .int .i64 e.s.s, .int .i64 e.a.c, .int .i64 e.a.s, .int .i64 e.p, .int .i64 e.g], .bool (hasE l x)]) ∧ Only none_ w w' := by
  have O0 := Lib.hid ((Only.refl none_ w).alloc (.cells #[.string ⟨#[]⟩, .string ⟨#[]⟩, .bool false, .int .i64 0, .int .i64 0, .int .i64 0, .int .i64 0, .int .i64 0, .int .i64 0] 82))
  have B0 := Lib.hid (Blk.new w 82 #[.string ⟨#[]⟩, .string ⟨#[]⟩, .bool false, .int .i64 0, .int .i64 0, .int .i64 0, .int .i64 0, .int .i64 0, .int .i64 0])
  have H1 := Lib.hid (h.keep O0.out (fun h => h))
  have c0 := H1.out.c0
  have HG := Se.tb_get B tb 4096 (prs l) v x _ (ht.keep O0.out)
  rw [get_prs ht.rs, he, has_prs] at HG
  generalize hasE l x = hs at HG ⊢
  have HGG := Lib.hid HG
  obtain ⟨k, vv, d, ⟨sc, ss⟩, ⟨ac, as_⟩, p, g⟩ := e
  dsimp only at HGG ⊢
  clear h ht HG he
  go_enter Tryz.func195, Tryz.ntmps195
  go_wp2_with (first
    | (go_at_call 201; refine (sh_of s tb x _ H1.out).mono ?_; rintro E w1 ⟨rfl, rfl⟩)
    | (go_at_call 76; refine HGG.out.mono ?_; rintro E w1 ⟨rfl, o1⟩
       have O1 := Lib.hid (O0.out.trans o1)
       have B1 : Hid (Blk w1 w.heap.size 82 #[.string ⟨#[]⟩, .string ⟨#[]⟩, .bool false, .int .i64 0, .int .i64 0, .int .i64 0, .int .i64 0, .int .i64 0, .int .i64 0]) := B0.out.only o1 (fun h => h)
       clear o1)
    | (refine wpList_store_row rfl 82 _ _ rfl w.heap.size #[.string (⟨k, vv, d, ⟨sc, ss⟩, ⟨ac, as_⟩, p, g⟩ : En).k, .string (⟨k, vv, d, ⟨sc, ss⟩, ⟨ac, as_⟩, p, g⟩ : En).v, .bool (⟨k, vv, d, ⟨sc, ss⟩, ⟨ac, as_⟩, p, g⟩ : En).d, .int .i64 (⟨k, vv, d, ⟨sc, ss⟩, ⟨ac, as_⟩, p, g⟩ : En).s.c, .int .i64 (⟨k, vv, d, ⟨sc, ss⟩, ⟨ac, as_⟩, p, g⟩ : En).s.s, .int .i64 (⟨k, vv, d, ⟨sc, ss⟩, ⟨ac, as_⟩, p, g⟩ : En).a.c, .int .i64 (⟨k, vv, d, ⟨sc, ss⟩, ⟨ac, as_⟩, p, g⟩ : En).a.s, .int .i64 (⟨k, vv, d, ⟨sc, ss⟩, ⟨ac, as_⟩, p, g⟩ : En).p, .int .i64 (⟨k, vv, d, ⟨sc, ss⟩, ⟨ac, as_⟩, p, g⟩ : En).g] rfl rfl _ _ B1.out (by kernel_rfl) rfl (en_cells_one _) ?_))
  refine bodyPost_ret (results_cell_tmp rfl _ _ w.heap.size 82 #[.string (⟨k, vv, d, ⟨sc, ss⟩, ⟨ac, as_⟩, p, g⟩ : En).k, .string (⟨k, vv, d, ⟨sc, ss⟩, ⟨ac, as_⟩, p, g⟩ : En).v, .bool (⟨k, vv, d, ⟨sc, ss⟩, ⟨ac, as_⟩, p, g⟩ : En).d, .int .i64 (⟨k, vv, d, ⟨sc, ss⟩, ⟨ac, as_⟩, p, g⟩ : En).s.c, .int .i64 (⟨k, vv, d, ⟨sc, ss⟩, ⟨ac, as_⟩, p, g⟩ : En).s.s, .int .i64 (⟨k, vv, d, ⟨sc, ss⟩, ⟨ac, as_⟩, p, g⟩ : En).a.c, .int .i64 (⟨k, vv, d, ⟨sc, ss⟩, ⟨ac, as_⟩, p, g⟩ : En).a.s, .int .i64 (⟨k, vv, d, ⟨sc, ss⟩, ⟨ac, as_⟩, p, g⟩ : En).p, .int .i64 (⟨k, vv, d, ⟨sc, ss⟩, ⟨ac, as_⟩, p, g⟩ : En).g] _ rfl (B1.out.setRow _) Tryz.underlying82 rfl (by kernel_rfl) (.bool hs) rfl) rfl ?_
  exact ⟨rfl, O1.out.setRow (.inr (Nat.le_refl _)) _⟩
theorem tb_put_ok (B : World) (g : Nat) (l : List En) (v : Value) (e : En) (w : World) (h : Se.Tb B g 4096 (prs l) v w) (hr : l.length < 4096) :
    Calls Tryz.prog 158 #[.pointer (some ⟨g, 0, none⟩), .string e.k, .agg #[.string e.k, .string e.v, .bool e.d, .int .i64 e.s.c, .int .i64 e.s.s, .int .i64 e.a.c, .int .i64 e.a.s, .int .i64 e.p, .int .i64 e.g]] w fun E w' => E = .returned (.int .i64 0) ∧ Se.LeftT B g 4096 v w (prs (setE e l)) w' := by
  rw [← put_prs e l (ris_prs h.rs)]
  by_cases hs : has (prs l) e.k = true
  · exact Se.tb_put_has B g 4096 (prs l) v e.k e w h hs
  · exact Se.tb_put_new B g 4096 (prs l) v e.k e w h (by simpa using hs) (by rw [prs_length]; omega)
set_option maxHeartbeats 3200000 in
theorem sh_put (B : World) (s tb : Nat) (l : List En) (v : Value) (e : En) (w : World) (h : Sh w s tb) (ht : Se.Tb B tb 4096 (prs l) v w) (hr : l.length < 4096) :
    Calls Tryz.prog 157 #[.pointer (some ⟨s, 0, none⟩), .agg #[.string e.k, .string e.v, .bool e.d, .int .i64 e.s.c, .int .i64 e.s.s, .int .i64 e.a.c, .int .i64 e.a.s, .int .i64 e.p, .int .i64 e.g]] w fun E w' => E = .returned (.tuple #[]) ∧ Se.LeftT B tb 4096 v w (prs (setE e l)) w' := by
  have O0 := Lib.hid ((Only.refl none_ w).alloc (.cells #[.string e.k, .string e.v, .bool e.d, .int .i64 e.s.c, .int .i64 e.s.s, .int .i64 e.a.c, .int .i64 e.a.s, .int .i64 e.p, .int .i64 e.g] 82))
  have B0 := Lib.hid (Blk.new w 82 #[.string e.k, .string e.v, .bool e.d, .int .i64 e.s.c, .int .i64 e.s.s, .int .i64 e.a.c, .int .i64 e.a.s, .int .i64 e.p, .int .i64 e.g])
  have H1 := Lib.hid (h.keep O0.out (fun h => h))
  have HP := Lib.hid (fun (w' : World) (o : Only none_ (w.alloc (.cells #[.string e.k, .string e.v, .bool e.d, .int .i64 e.s.c, .int .i64 e.s.s, .int .i64 e.a.c, .int .i64 e.a.s, .int .i64 e.p, .int .i64 e.g] 82)) w') => tb_put_ok B tb l v e w' ((ht.keep O0.out).keep o) hr)
  have HS := Lib.hid (fun (w' : World) (o : Only none_ (w.alloc (.cells #[.string e.k, .string e.v, .bool e.d, .int .i64 e.s.c, .int .i64 e.s.s, .int .i64 e.a.c, .int .i64 e.a.s, .int .i64 e.p, .int .i64 e.g] 82)) w') => (H1.out.keep o (fun h => h)).c0)
  have HLA := Lib.hid (fun (w' w2 : World) (l' : List (Pr En)) (o : Only none_ (w.alloc (.cells #[.string e.k, .string e.v, .bool e.d, .int .i64 e.s.c, .int .i64 e.s.s, .int .i64 e.a.c, .int .i64 e.a.s, .int .i64 e.p, .int .i64 e.g] 82)) w') (h : Se.LeftT B tb 4096 v w' l' w2) => Se.LeftT.after0 (O0.out.trans o) h)
  generalize setE e l = l2 at HP ⊢
  have S1 := Lib.hid (H1.out.c0)
  clear h ht hr
  go_enter Tryz.func157, Tryz.ntmps157
  go_wp2_with (first
    | (go_at_call 201; refine (sh_of s tb _ _ H1.out).mono ?_; rintro E w1 ⟨rfl, rfl⟩))
  (refine wp_region_free_tail (fun w' => Only none_ (w.alloc (.cells #[.string e.k, .string e.v, .bool e.d, .int .i64 e.s.c, .int .i64 e.s.s, .int .i64 e.a.c, .int .i64 e.a.s, .int .i64 e.p, .int .i64 e.g] 82)) w') (Only none_) (F := ?_) (by kernel_rfl) 7 23 (by rfl) (by kernel_rfl) (fun x => ?_) ((Only.refl none_ _).drew) ?_; rotate_left; (· (simp only [List.take_succ_cons, List.take_zero, putsL, Act.put, List.setIfInBounds_toArray, List.set_cons_zero, List.set_cons_succ, Nat.reduceAdd]; exact rfl)); simp only [List.take_succ_cons, List.take_zero, List.drop_succ_cons, List.drop_zero])
  repeat (first
    | ((first | refine fr_value (c := ?_) (by rfl) (fun w => Only.refl none_ w) (fun x w0 hS hk => ?_) ?_ | refine fr_value_if (c := ?_) (by rfl) (by rfl) (by rfl) (fun w => Only.refl none_ w) (fun x w0 hS hk => ?_) ?_); rotate_left; (· (have hk2 := hk; (try simp [knAll, Region.binds] at hk2); have hc := HS.out _ hS; obtain ⟨t0, t1, t2, t3, t4, t5, t6, t7, t8⟩ := nine_of (B0.out.only hS (fun h => h)); go_simp; try (with_reducible rfl))); try simp only [List.nil_append, List.cons_append]))
  (refine fr_end ?_; intro x w9 hS hk)
  have e3 := kn_end_at 3 hk (by rfl)
  have e5 := kn_end_at 5 hk (by rfl)
  have e6 := kn_end_at 6 hk (by rfl)
  rw [Nat.zero_add] at e3 e5 e6
  rw [e3, e5, e6]
  have O9 := Lib.hid hS
  clear hk hS e3 e5 e6
  go_wp2_with (first
    | (go_at_call 158; refine (HP.out _ O9.out).mono ?_; rintro E w2 ⟨rfl, hL⟩
       have HL2 := Lib.hid (HLA.out _ _ _ O9.out hL)
       clear hL))
  go_end0
  exact ⟨rfl, HL2.out⟩
set_option maxHeartbeats 1600000 in
theorem tb_filled (B : World) (w : World) (hB : Only none_ B w) :
    Calls Tryz.prog 199 #[.slice none 0 0] w fun E w' => ∃ g, E = .returned (.pointer (some ⟨g, 0, none⟩)) ∧ w.heap.size ≤ g ∧ Se.Tb B g 4096 (prs []) (.slice none 0 0) w' ∧ Only none_ w w' := by
  have HN := Lib.hid (Se.tb_new_yes B 4096 w hB (by decide) (by decide))
  clear hB
  go_enter Tryz.func199, Tryz.ntmps199
  go_wp2_with (first
    | (go_at_call 112; refine HN.out.mono ?_; rintro E w1 ⟨g, rfl, hg, ht, o1⟩
       have F := Lib.hid (And.intro hg (And.intro ht o1))
       clear hg ht o1))
  refine wp_loop_rounds 1 ?_
  rw [rounds_succ]
  go_wp2_with fail
  go_ret
  exact ⟨g, rfl, F.out.1, F.out.2.1, F.out.2.2⟩
set_option maxHeartbeats 1600000 in
theorem sh_new (B : World) (w : World) (hB : Only none_ B w) :
    Calls Tryz.prog 155 #[] w fun E w' => ∃ g, E = .returned (.agg #[.pointer (some ⟨g, 0, none⟩), .string ⟨#[]⟩, .pointer none]) ∧ w.heap.size ≤ g ∧ Se.Tb B g 4096 (prs []) (.slice none 0 0) w' ∧ Only none_ w w' := by
  have O0 := Lib.hid ((Only.refl none_ w).alloc (.cells #[.pointer none, .string ⟨#[]⟩, .pointer none] 260))
  have B0 := Lib.hid (Blk.new w 260 #[.pointer none, .string ⟨#[]⟩, .pointer none])
  have HF := Lib.hid (tb_filled B _ (hB.trans O0.out))
  have HBS := Lib.hid hB.size
  clear hB
  go_enter Tryz.func155, Tryz.ntmps155
  go_wp2_with (first
    | (go_at_call 199; refine HF.out.mono ?_; rintro E w1 ⟨g, rfl, hg, ht, o1⟩
       have O1 := Lib.hid (O0.out.trans o1)
       have B1 : Hid (Blk w1 w.heap.size 260 #[.pointer none, .string ⟨#[]⟩, .pointer none]) := B0.out.only o1 (fun h => h)
       have F := Lib.hid (And.intro hg ht)
       clear hg ht o1)
    | (refine wpList_store_row rfl 260 _ _ rfl w.heap.size #[.pointer (some ⟨g, 0, none⟩), .string ⟨#[]⟩, .pointer none] rfl rfl _ _ B1.out (by kernel_rfl) rfl (by simp [Value.oneCell']) ?_))
  have oS : Only (one w.heap.size) w1 (w1.setRow w.heap.size #[.pointer (some ⟨g, 0, none⟩), .string ⟨#[]⟩, .pointer none]) := only_row _ _
  have hgs : w.heap.size < g := by have h1 := F.out.1; simp only [World.size_alloc] at h1; omega
  have hbs := O0.out.size
  refine bodyPost_ret (results_cell_row rfl _ _ w.heap.size 260 _ (0, 0) _ rfl (B1.out.setRow _) Tryz.underlying260 rfl (by kernel_rfl)) rfl ?_
  refine ⟨g, rfl, by omega, ?_, O1.out.setRow (.inr (Nat.le_refl _)) _⟩
  have hB' : B.heap.size ≤ w.heap.size := HBS.out
  exact F.out.2.apart oS (fun k hk e => by
    have e' : k = w.heap.size := e
    rcases hk with h1 | h1
    · omega
    · cases h1) (fun k e => by have e' : k = w.heap.size := e; omega)
end Go.Proofs.YtoohpcomnhfgpaaGreat
end
section
namespace Go.Proofs.YtoohpcomnhfgpaaGreat
open Go.RowKit Go.Shelf
set_option maxRecDepth 100000
set_option linter.all false
structure Kc (T : World → Nat → Prop) (W W' : World) : Prop where
  size : W.heap.size ≤ W'.heap.size
  cells : ∀ b o, W.heap[b]? = some o → o.isCells = true → ¬ T W b → W'.heap[b]? = some o
  grows : ∀ b, T W' b → T W b ∨ W.heap.size ≤ b
def Stab (T : World → Nat → Prop) (B : Nat) : Prop := ∀ W W' : World, (∀ k, k < B → W'.heap[k]? = W.heap[k]?) → ∀ b, T W' b → T W b
section
variable {T : World → Nat → Prop} {A B C W W' : World} {N : Nat}
theorem lt_of_obj {k : Nat} {o : Obj} (h : W.heap[k]? = some o) : k < W.heap.size := (Array.getElem?_eq_some_iff.1 h).1
theorem Kc.refl (T : World → Nat → Prop) (W : World) : Kc T W W := ⟨Nat.le_refl _, fun _ _ h _ _ => h, fun _ h => .inl h⟩
theorem Kc.trans (h : Kc T A B) (k : Kc T B C) : Kc T A C where
  size := Nat.le_trans h.size k.size
  cells b o ho hc hn := k.cells b o (h.cells b o ho hc hn) hc fun ht => (h.grows b ht).elim hn fun hb => by have := lt_of_obj ho; omega
  grows b hb := (k.grows b hb).elim (h.grows b) fun hs => .inr (Nat.le_trans h.size hs)
theorem cell_obj {p : Addr} {v : Value} (h : W.cell? p = some v) : ∃ o, W.heap[p.block]? = some o ∧ o.isCells = true := by
  unfold World.cell? at h
  cases ho : W.heap[p.block]? with
  | none => rw [ho] at h; cases h
  | some o => exact ⟨o, rfl, by rw [ho] at h; cases o <;> first | rfl | cases h⟩
theorem Kc.cell (h : Kc T W W') {p : Addr} {v : Value} (hc : W.cell? p = some v) (hn : ¬ T W p.block) : W'.cell? p = some v := by
  obtain ⟨o, ho, ho'⟩ := cell_obj hc
  rw [World.cell?_of_block ((h.cells _ o ho ho' hn).trans ho.symm)]
  exact hc
theorem Kc.not (h : Kc T W W') {b : Nat} (hn : ¬ T W b) (hb : b < W.heap.size) : ¬ T W' b := fun ht => (h.grows b ht).elim hn fun hs => by omega
theorem Kc.blk (h : Kc T W W') {b : Nat} {t : TypeId} {cs : Array Value} (hb : Blk W b t cs) (hn : ¬ T W b) : Blk W' b t cs := h.cells b _ hb rfl hn
theorem Kc.cel (h : Kc T W W') {v : Value} {n k : Nat} {cs : List Value} (hc : Cel W (fun b => ¬ T W b) v n k cs) : Cel W' (fun b => ¬ T W' b) v n k cs := by
  obtain ⟨A, c, rfl, h0, h1, h2, h3, h4⟩ := hc
  refine ⟨A, c, rfl, h0, h1, h2, h3, fun hp => ?_⟩
  obtain ⟨b, off, rfl, hs, hlt, hc⟩ := h4 hp
  exact ⟨b, off, rfl, h.not hs hlt, Nat.lt_of_lt_of_le hlt h.size, fun j u hu => h.cell (p := ⟨b, off + j, none⟩) (hc j u hu) hs⟩
theorem Kc.of_grown (hT : Stab T N) {row : Option Nat} (hg : W.grownBy W' row) (hN : N ≤ W.heap.size) (hr : ∀ r, row = some r → N ≤ r ∧ ∃ o : Obj, W.heap[r]? = some o ∧ o.isCells = false) : Kc T W W' where
  size := hg.size
  cells b o ho hc _ := (hg.block b (lt_of_obj ho) (fun e => by
    obtain ⟨_, o', ho', hc'⟩ := hr b e.symm
    rw [ho] at ho'
    cases ho'
    rw [hc] at hc'
    cases hc')).trans ho
  grows b hb := .inl (hT W W' (fun k hk => hg.block k (by omega) (fun e => by have := (hr k e.symm).1; omega)) b hb)
theorem Kc.alloc (hT : Stab T N) (hN : N ≤ W.heap.size) (o : Obj) : Kc T W (W.alloc o) := Kc.of_grown hT (World.grownBy_alloc W o none) hN (fun r e => by cases e)
theorem Kc.putObj (hT : Stab T N) {l : Nat} {o : Obj} (o' : Obj) (hN : N ≤ l) (hl : W.heap[l]? = some o) (ho : o.isCells = false) : Kc T W (W.putObj l o') :=
  Kc.of_grown hT (grownBy_putObj' W l o') (by have := lt_of_obj hl; omega) (fun r e => by cases e; exact ⟨hN, o, hl, ho⟩)
theorem Kc.of_only {S : Nat → Prop} (o : Only S W W') (hS : ∀ b, b < W.heap.size → S b → T W b) (hg : ∀ b, T W' b → T W b ∨ W.heap.size ≤ b) : Kc T W W' :=
  ⟨o.size, fun b x hx _ hn => (o.block b (lt_of_obj hx) (fun hs => hn (hS b (lt_of_obj hx) hs))).trans hx, hg⟩
theorem Stab.only {S : Nat → Prop} (hT : Stab T N) (o : Only S W W') (hN : N ≤ W.heap.size) (hS : ∀ k, k < N → ¬ S k) (b : Nat) (hb : T W' b) : T W b := hT W W' (fun k hk => o.block k (by omega) (hS k hk)) b hb
theorem Kc.then {S : Nat → Prop} (h : Kc T A W) (o : Only S W W') (hS : ∀ b, b < A.heap.size → S b → T W b) (hg : ∀ b, T W' b → T W b ∨ A.heap.size ≤ b) : Kc T A W' :=
  ⟨Nat.le_trans h.size o.size, fun b x hx hc hn => (o.block b (lt_of_obj (h.cells b x hx hc hn)) (fun hs => h.not hn (lt_of_obj hx) (hS b (lt_of_obj hx) hs))).trans (h.cells b x hx hc hn),
    fun b hb => (hg b hb).elim (h.grows b) .inr⟩
def Ko (l : Nat) (W W' : World) : Prop := ∀ k o, k ≠ l → W.heap[k]? = some o → o.isCells = false → W'.heap[k]? = some o
end
def Goes {α : Type} (P : Program) (g : Nat) (lb : Array Value) (encs : α → Array Value) (Kp : Nat → World → World → Prop) (xs : List α) (w : World) : Prop :=
  ∀ (l : Nat) (J : List α → World → Prop) (W : World), Below w.heap.size w W → l < W.heap.size → OwnFrom W.heap.size J →
    (∀ pre x W1, J pre W1 → pre ++ [x] <+: xs → ∀ m, YieldAt Fence.wide m P l (encs x) W1 fun e W' => e = .returned (.bool true) ∧ J (pre ++ [x]) W' ∧ Kp l W1 W') →
    J [] W → ∀ n, CallsIn Fence.wide n P g (#[.func (.yield l) #[] #[]] ++ lb) W fun e W' => (∃ v, e = .returned v) ∧ J xs W'
theorem roundIn_in {F : Fence} {n : Nat} {P : Program} {l : Nat} {f : FuncId} {tmps : Array Value} {assign body : Code} {w : World} {R : Ending → World → Prop} (k : Nat) (h : RoundIn F n P l f tmps assign body w R) : RoundIn (F.inRound k) n P l f tmps assign body w R := h
theorem roundIn_any {n : Nat} {P : Program} {l : Nat} {f : FuncId} {tmps : Array Value} {assign body : Code} {w : World} {R : Ending → World → Prop} (m : Nat) (h : RoundIn Fence.wide n P l f tmps assign body w R) : RoundIn Fence.wide m P l f tmps assign body w R :=
  ⟨h.1, fun c cs _ => h.2 c cs (room_wide _)⟩
def onPost {α : Type} (B : Nat) (Kp : World → World → Prop) (I : List α → World → Prop) (xs : List α) (X W : World) : Exit → Act → World → Prop
  | .normal, _, W' => KeepsFrom B W W' ∧ Kp X W' ∧ I xs W'
  | _, _, _ => False
theorem range_goes {α : Type} {n : Nat} {P : Program} {g : Operand} {ps : Array Tmp} {assign body : Code} {Q : Exit → Act → World → Prop} {a : Act} {w : World} {gf : Nat} {lb : Array Value}
    (hg : a.eval g = .func (.func gf) #[] lb) (eg : ∀ args w, (callFunc gf args).run P w = .ok (.enter gf args) w)
    {encs : α → Array Value} {Kp : Nat → World → World → Prop} {xs : List α} {w0 : World} (hseq : Goes P gf lb encs Kp xs w0) (hb0 : Below w0.heap.size w0 w) (hps : ∀ x, (encs x).size = ps.size)
    (hKt : ∀ {A B C : World}, Kp (w.heap.size + 1) A B → Kp (w.heap.size + 1) B C → Kp (w.heap.size + 1) A C)
    (hKb : ∀ (W : World) (r r' : Loop), W.heap[w.heap.size + 1]? = some (.loop r) → Kp (w.heap.size + 1) W (W.putObj (w.heap.size + 1) (.loop r')))
    (I : List α → World → Prop) (hI : OwnFrom w.heap.size I) (h0 : I [] w)
    (hround : ∀ (pre : List α) (x : α) (W : World), w.heap.size + 1 < W.heap.size → I pre W → pre ++ [x] <+: xs →
      assign.wpIn (Fence.wide.inRound (w.heap.size + 1)) 5 P (Exit.then (fun a' W' => KeepsFrom w.heap.size W W' ∧ I pre W' ∧
        ∀ r : Loop, (∃ r0, W'.heap[w.heap.size + 1]? = some (.loop r0)) → I pre (W'.putObj (w.heap.size + 1) (.loop r)) → body.wpIn (Fence.wide.inRound (w.heap.size + 1)) 5 P (onPost w.heap.size (Kp (w.heap.size + 1)) I (pre ++ [x]) W (W'.putObj (w.heap.size + 1) (.loop r))) a' (W'.putObj (w.heap.size + 1) (.loop r))) (fun _ _ _ => False))
        { tmps := (ps.zip (encs x)).foldl (fun t (p, v) => t.setIfInBounds p v) a.tmps, defers := [] } W)
    (hdone : ∀ (D : Nat) (W : World), w.heap.size ≤ D → I xs W → W.heap[D]? = some (.deferred (some [])) → Q .normal { a with defers := { target := .collected D, args := #[] } :: a.defers } W) :
    (Code.rangeFunc g ps assign body).wpIn Fence.wide (n + 1) P Q a w := by
  refine wpIn_rangeFunc fun fn _ => ?_
  generalize hL : w.heap.size + 1 = L at *
  obtain ⟨rc, hrc⟩ : ∃ rc : LoopState → Option Code → Obj, rc = fun st pe => .loop { state := st, pending := pe, fn, tmps := a.tmps, params := ps, assign, body, defers := w.heap.size } := ⟨_, rfl⟩
  have hrl : ∀ st pe, (rc st pe).isCells = false := fun st pe => by rw [hrc]; rfl
  let W1 := (w.alloc (.deferred (some []))).alloc (rc .ready none)
  have h11 : W1.heap.size = w.heap.size + 2 := by show ((w.alloc _).alloc _).heap.size = _; rw [World.size_alloc, World.size_alloc]
  have hl1 : W1.heap[L]? = some (rc .ready none) := by
    have := World.alloc_heap_new (w.alloc (.deferred (some []))) (rc .ready none)
    rw [World.size_alloc, hL] at this
    exact this
  have hd1 : W1.heap[w.heap.size]? = some (.deferred (some [])) := (Below.heap_alloc _ _ _ (by rw [World.size_alloc]; omega)).trans (World.alloc_heap_new w _)
  have hent : (Instr.enterLoop fn a.tmps ps assign body none).run P w = .ok (L, [{ target := .collected w.heap.size, args := #[] }]) W1 := by
    rw [run_enterLoop_outer, hL]
    show _ = Result.ok _ ((w.alloc _).alloc (rc .ready none))
    rw [hrc]
  -- what holds between two rounds
  let J : List α → World → Prop := fun pre W => I pre W ∧ W.heap[L]? = some (rc .ready none) ∧ W.heap[w.heap.size]? = some (.deferred (some []))
  have hJ : OwnFrom W1.heap.size J := fun s A B row h hgr hr => by
    have far : ∀ k o, k < W1.heap.size → A.heap[k]? = some o → B.heap[k]? = some o := fun k o hk ho => (hgr.block k (lt_of_obj ho) (fun e => by have := (hr k e.symm).1; omega)).trans ho
    exact ⟨hI s A B row h.1 hgr (fun r e => ⟨by have := (hr r e).1; omega, (hr r e).2⟩), far _ _ (by omega) h.2.1, far _ _ (by omega) h.2.2⟩
  refine ⟨L, _, W1, { target := .fn (.func gf) lb, args := #[.func (.yield L) #[] #[]] }, W1, gf, #[.func (.yield L) #[] #[]] ++ lb, W1, hent, ?_, fun _ _ => trivial, ?_, fun _ => Nat.le_add_left 1 n, ?_⟩
  · simp only [resolve, hg]
    simp [go_sem]
  · simp [invoke, go_sem, eg]
  · refine (hseq L J W1 (hb0.trans ((((Below.refl _ w).alloc (Nat.le_refl _) _).alloc (by simp) _).mono hb0.size)) (by omega) hJ ?_ ⟨hI.alloc _ (hI.alloc _ h0), hl1, hd1⟩ n).mono ?_
    · rintro pre x W ⟨hi, hl, hd⟩ hlen m
      have hlr := hl
      rw [hrc] at hlr
      have hy := run_yield (P := P) (args := encs x) hlr (hps x)
      refine ⟨fn, _, assign, body, hy, roundIn_any m (roundIn_of_wpIn trivial (wpIn_mono (hround pre x W (lt_of_obj hl) hi hlen) ?_))⟩
      rintro e a' W' hp
      cases e with
      | normal =>
        obtain ⟨ko, hi', hbody⟩ := hp
        have hl' := ko.same _ _ (by omega) hl (hrl _ _)
        have hd' := ko.same _ _ (Nat.le_refl _) hd rfl
        have hlt' := lt_of_obj hl'
        have hlr' := hl'
        rw [hrc] at hlr'
        refine ⟨_, run_beginRound hlr' rfl, ?_⟩
        obtain ⟨r2, hr2⟩ : ∃ r2 : Loop, r2 = { state := .busy, pending := none, fn, tmps := a.tmps, params := ps, assign, body, defers := w.heap.size } := ⟨_, rfl⟩
        have hi2 : I pre (W'.putObj L (.loop r2)) := hI.putObj _ hi' (by omega) hl' (hrl _ _)
        have hb := hbody r2 ⟨_, hlr'⟩ hi2
        have hl2 : (W'.putObj L (.loop r2)).heap[L]? = some (.loop r2) := World.putObj_heap_same hlt'
        have hd2 : (W'.putObj L (.loop r2)).heap[w.heap.size]? = some (.deferred (some [])) := (World.putObj_heap_other (by omega)).trans hd'
        rw [hr2] at hb hl2 hd2
        refine wpIn_mono hb ?_
        rintro e3 a3 W3 hp3
        cases e3 with
        | normal =>
          obtain ⟨ko3, kp3, hi3⟩ := hp3
          have hl3 := ko3.same _ _ (by omega) hl2 rfl
          have hd3 := ko3.same _ _ (Nat.le_refl _) hd2 rfl
          have hend := run_endRound (P := P) none hl3
          simp only [Option.isNone_none, if_true] at hend
          refine ⟨_, _, hend, rfl, ⟨hI.putObj _ hi3 (by omega) hl3 rfl, ?_, (World.putObj_heap_other (by omega)).trans hd3⟩, hKt kp3 (hKb W3 _ _ hl3)⟩
          rw [World.putObj_heap_same (lt_of_obj hl3), hrc]
        | ret => exact hp3.elim
        | exit id => exact hp3.elim
        | goto t => exact hp3.elim
        | panic ch => exact hp3.elim
        | outgrown => exact hp3.elim
      | ret => exact hp.elim
      | exit id => exact hp.elim
      | goto t => exact hp.elim
      | panic ch => exact hp.elim
      | outgrown => exact hp.elim
    · rintro e W2 ⟨⟨v, rfl⟩, hi, hl, hd⟩
      have hlr := hl
      rw [hrc] at hlr
      exact ⟨none, _, run_endLoop hlr (by simp), hdone w.heap.size _ (Nat.le_refl _) (hI.putObj _ hi (by omega) hl (hrl _ _)) ((World.putObj_heap_other (by omega)).trans hd)⟩
end Go.Proofs.YtoohpcomnhfgpaaGreat
end
section
namespace Go.Proofs.YtoohpcomnhfgpaaGreat.Se
open Go.RowKit Go.Shelf
set_option maxRecDepth 100000
set_option linter.all false
attribute [local go_sem] Oper.semAt_some
abbrev encP (x : Pr En) : Array Value := #[.string x.k, .agg #[.string x.v.k, .string x.v.v, .bool x.v.d, .int .i64 x.v.s.c, .int .i64 x.v.s.s, .int .i64 x.v.a.c, .int .i64 x.v.a.s, .int .i64 x.v.p, .int .i64 x.v.g]]
theorem pr_ten {W : World} {b off : Nat} {x : Pr En} (hc : ∀ j u, (prI x)[j]? = some u → W.cell? ⟨b, off + j, none⟩ = some u) :
    W.cell? ⟨b, off, none⟩ = some (.string x.k) ∧ W.cell? ⟨b, off + 1, none⟩ = some (.string x.v.k) ∧ W.cell? ⟨b, off + 2, none⟩ = some (.string x.v.v) ∧ W.cell? ⟨b, off + 3, none⟩ = some (.bool x.v.d) ∧ W.cell? ⟨b, off + 4, none⟩ = some (.int .i64 x.v.s.c) ∧ W.cell? ⟨b, off + 5, none⟩ = some (.int .i64 x.v.s.s) ∧ W.cell? ⟨b, off + 6, none⟩ = some (.int .i64 x.v.a.c) ∧ W.cell? ⟨b, off + 7, none⟩ = some (.int .i64 x.v.a.s) ∧ W.cell? ⟨b, off + 8, none⟩ = some (.int .i64 x.v.p) ∧ W.cell? ⟨b, off + 9, none⟩ = some (.int .i64 x.v.g) :=
  ⟨hc 0 _ rfl, hc 1 _ rfl, hc 2 _ rfl, hc 3 _ rfl, hc 4 _ rfl, hc 5 _ rfl, hc 6 _ rfl, hc 7 _ rfl, hc 8 _ rfl, hc 9 _ rfl⟩
set_option maxHeartbeats 6400000 in
theorem all1_goes (T : World → Nat → Prop) (N : Nat) (hT : Stab T N) (Bs : Nat) (A : Option Addr) (c L : Nat) (t : List (Pr En)) (hL : L = t.length) (ht : L ≤ 4096) (w : World) (hN : N ≤ w.heap.size)
    (hBs : Blk w Bs 241 #[.slice A L c]) (hcel : Cel w (fun b => ¬ T w b) (.slice A L c) L 10 (t.flatMap prI)) :
    Goes Tryz.prog 134 #[.pointer (some ⟨Bs, 0, none⟩)] encP (fun _ => Kc T) t w := by
  intro l J W hW _ hJ hY h0 n
  refine callsIn_wide.2 ((callsIn_wide (n := 5)).1 ?_)
  refine callsIn_of_wp Tryz.func134 rfl trivial ?_ rfl
  simp only [Tryz.ntmps134, List.append_toArray, List.size_toArray, List.length_cons, List.length_nil, Nat.reduceAdd, Nat.reduceSub, Array.replicate_succ, Array.replicate_zero, List.push_toArray, List.append_toArray, List.nil_append, List.cons_append]
  have hsz := hW.size
  have hB : W.cell? ⟨Bs, 0, none⟩ = some (.slice A L c) := (hW.cell (p := ⟨Bs, 0, none⟩) hBs.lt).trans (hBs.cell_ (i := 0) rfl)
  have HC : Hid (Cel W (fun b => ¬ T W b) (.slice A L c) L 10 (t.flatMap prI)) := by
    have h1 : ∀ b, T W b → T w b := hT w W (fun k hk => hW.block k (by omega))
    exact (hcel.only (Only.of_below (S := none_) hW) (fun _ _ h => h)).mono (fun b _ hb hbt => hb (h1 b hbt))
  have HL := Lib.hid hL
  have HJ := Lib.hid hJ
  have HY := Lib.hid hY
  have H0 := Lib.hid h0
  have HT := Lib.hid hT
  have HN : Hid (N ≤ W.heap.size) := Nat.le_trans hN hsz
  clear hcel hL hJ hY h0 hBs hT hN hsz hW
  gi_wp2
  gi_loopw [7] (fun i wr => ∃ k : Nat, k ≤ L ∧ i = .int .i64 k ∧ J (t.take k) wr ∧ Cel wr (fun b => ¬ T wr b) (.slice A L c) L 10 (t.flatMap prI) ∧ W.heap.size ≤ wr.heap.size)
    (fun i _ => L - (intOf i).toNat)
  case atStart => exact ⟨0, Nat.zero_le _, rfl, H0.out, HC.out, Nat.le_refl _⟩
  case round =>
    obtain ⟨k, hk, rfl, hJs, hcl, hsz⟩ := hrel
    by_cases hlt : k < L
    · have hkt : k < t.length := by have := HL.out; omega
      obtain ⟨b, off, rfl, hb, _, hc⟩ := prI_at hcl k hkt HL.out
      have HS : Hid (t.take k ++ [t[k]] = t.take (k + 1)) := (List.take_succ_eq_append_getElem hkt).symm
      obtain ⟨x, hx⟩ : ∃ x, t[k] = x := ⟨_, rfl⟩
      rw [hx] at hc HS
      have hNr : N ≤ wr.heap.size := Nat.le_trans HN.out hsz
      have KA := Lib.hid (Kc.alloc HT.out hNr (.cells (prA x) 240))
      have CA := Lib.hid (KA.out.cel hcl)
      obtain ⟨fn, tmps, assign, body, hy, hR⟩ := HY.out _ x (wr.alloc (.cells (prA x) 240)) (HJ.out _ _ _ none hJs (World.grownBy_alloc wr _ none) (fun r e => by cases e)) (by rw [HS.out]; exact List.take_prefix _ _) (5 - 1)
      obtain ⟨h0, h1, h2, h3, h4, h5, h6, h7, h8, h9⟩ := pr_ten hc
      have SZ : Hid (W.heap.size ≤ (wr.alloc (.cells (prA x) 240)).heap.size) := by rw [Hid, World.size_alloc]; omega
      rw [HS.out] at hR
      have HRR := Lib.hid hR
      obtain ⟨kk, vk, vv, vd, ⟨sc, ss⟩, ⟨ac, as_⟩, vp, vg⟩ := x
      dsimp only [prA, encP] at hy h0 h1 h2 h3 h4 h5 h6 h7 h8 h9
      have hki : (k : Int) < (L : Int) := by omega
      clear hJs hc hR hcl hb
      gi_wp2
      refine HRR.out.mono ?_
      rintro e W3 ⟨rfl, hJ3, hk3⟩
      have C3 := Lib.hid (hk3.cel CA.out)
      have S3 : Hid (W.heap.size ≤ W3.heap.size) := Nat.le_trans SZ.out hk3.size
      have J3 := Lib.hid hJ3
      clear hJ3 hk3
      gi_wp2
      go_roundw
      case rel => exact ⟨k + 1, by omega, by simp, J3.out, C3.out, S3.out⟩
      case measure => simp [intOf]; omega
    · obtain rfl : L = k := by omega
      have HT2 : Hid (t.take L = t) := by rw [Hid, HL.out, List.take_length]
      rw [HT2.out] at hJs
      have JJ := Lib.hid hJs
      clear hJs hcl
      gi_wp2
      go_end0
      exact ⟨⟨_, rfl⟩, JJ.out⟩
end Go.Proofs.YtoohpcomnhfgpaaGreat.Se
end
section
namespace Go.Proofs.YtoohpcomnhfgpaaGreat
open Go.RowKit Go.Shelf
set_option maxRecDepth 100000
set_option linter.all false
attribute [local go_sem] Oper.semAt_some
def Kr (T : World → Nat → Prop) (l : Nat) (W W' : World) : Prop := Kc T W W' ∧ Ko l W W'
theorem Kr.trans {T : World → Nat → Prop} {l : Nat} {A B C : World} (h : Kr T l A B) (k : Kr T l B C) : Kr T l A C :=
  ⟨h.1.trans k.1, fun i o hi ho hc => k.2 i o hi (h.2 i o hi ho hc) hc⟩
theorem own_new {α : Type} {N : Nat} {J : α → World → Prop} {x : α} {A C : World} (hJ : OwnFrom N J) (o : Only none_ A C) (h : J x A) : J x C :=
  hJ x A C none h ⟨o.os, o.tape, o.output, o.size, fun k hk _ => o.block k hk (fun h => h)⟩ (fun r e => by cases e)
set_option maxHeartbeats 12800000 in
theorem each1_goes (T : World → Nat → Prop) (N : Nat) (hT : Stab T N) (Bs s tb : Nat) (l : List En) (v : Value) (B w : World) (hN : N ≤ w.heap.size) (hTb : ∀ b, T w b → b < w.heap.size)
    (hBs : Blk w Bs 258 #[.pointer (some ⟨s, 0, none⟩)]) (hs : Sh w s tb) (hsT : ¬ T w s) (hsl : s < w.heap.size) (ht : Se.Tb B tb 4096 (prs l) v w) :
    Goes Tryz.prog 200 #[.pointer (some ⟨Bs, 0, none⟩)] Se.encP (Kr T) (prs l) w := by
  intro lr J W hW hlr hJ hY h0 n
  refine callsIn_wide.2 ((callsIn_wide (n := 5)).1 ?_)
  have hsz := hW.size
  have oW : Only none_ w W := Only.of_below hW
  have oa : Only none_ W (W.alloc (.cells #[.func (.yield lr) #[] #[]] 245)) := (Only.refl none_ W).alloc _
  have owa := oW.trans oa
  have hB1 := hBs.only owa (fun h => h)
  have cB : (W.alloc (.cells #[.func (.yield lr) #[] #[]] 245)).cell? ⟨Bs, 0, none⟩ = some (.pointer (some ⟨s, 0, none⟩)) := hB1.cell_ (i := 0) rfl
  have hS1 := hs.keep owa (fun h => h)
  have c0 := hS1.c0
  have YB := Lib.hid (Blk.new W 245 #[.func (.yield lr) #[] #[]])
  have HA := Lib.hid (Se.tb_all B tb 4096 (prs l) v (W.alloc (.cells #[.func (.yield lr) #[] #[]] 245)) (ht.keep owa))
  have HLL := Lib.hid ht.ml
  have HT := Lib.hid hT
  have HJ := Lib.hid hJ
  have HY := Lib.hid hY
  have H0 := Lib.hid h0
  have HS1 := Lib.hid hS1
  have TW : Hid (∀ (X : World), Only none_ W X → ∀ b, T X b → b < w.heap.size ∧ b ≠ s) := by
    intro X o b hb
    have h1 := hT.only (oW.trans o) hN (fun k _ h => h) b hb
    exact ⟨hTb b h1, fun e => hsT (e ▸ h1)⟩
  have NUM : Hid (N ≤ w.heap.size ∧ w.heap.size ≤ W.heap.size ∧ lr < W.heap.size ∧ s < w.heap.size) := ⟨hN, hsz, hlr, hsl⟩
  have OA := Lib.hid oa
  clear hBs hs hsT ht hN hTb hT hJ hY h0 hS1 hsz oW oa owa hB1 hlr hsl hW
  refine callsIn_of_wp_marks Tryz.func200 rfl trivial ?_ rfl
  simp only [Tryz.ntmps200, List.append_toArray, List.size_toArray, List.length_cons, List.length_nil, Nat.reduceAdd, Nat.reduceSub, Array.replicate_succ, Array.replicate_zero, List.push_toArray, List.append_toArray, List.nil_append, List.cons_append]
  gi_wp2
  refine wpIn_loop_rounds 2 ?_
  rw [roundsIn_succ]
  gi_wp2_with (refine ⟨trivial, ?_⟩; refine (callsIn_wide.2 HA.out).mono ?_; rintro e w1 ⟨hP, A, L, c, rfl, hP0, hn, b1, cel1, o1⟩)
  have OW1 := Lib.hid (OA.out.trans o1)
  have hL4 : Hid (L = (prs l).length ∧ L ≤ 4096) := by have := HLL.out; rw [Hid]; omega
  have T1 : Hid (∀ b, T w1 b → b < w.heap.size ∧ b ≠ s) := TW.out w1 OW1.out
  have YB1 : Hid (Blk w1 W.heap.size 245 #[.func (.yield lr) #[] #[]]) := YB.out.only o1 (fun h => h)
  have S1 : Hid (Sh w1 s tb) := HS1.out.keep o1 (fun h => h)
  have N1 : Hid (N ≤ w1.heap.size ∧ W.heap.size < w1.heap.size) := by
    have h1 := NUM.out; have h2 := YB1.out.lt
    exact ⟨by omega, h2⟩
  have C1 : Hid (Cel w1 (fun b => ¬ T w1 b) (.slice A L c) L 10 ((prs l).flatMap Se.prI)) := cel1.mono (fun b _ hb hbt => by
    have h1 := T1.out b hbt
    have h2 := NUM.out
    have hb' : W.heap.size + 1 ≤ b := by simpa [World.size_alloc] using hb
    omega)
  clear o1 cel1 HLL TW YB HS1 HA hP0 hn
  refine range_goes (n := 4) (gf := 134) (lb := #[.pointer (some ⟨hP, 0, none⟩)]) rfl (enters_of Tryz.func134 (by kernel_rfl) rfl)
    (Se.all1_goes T N HT.out hP A c L (prs l) hL4.out.1 hL4.out.2 w1 N1.out.1 b1 C1.out) (Below.refl _ _) (fun _ => rfl)
    (fun h k => h.trans k) (fun X r r' hr => Kc.putObj HT.out _ (by have := N1.out; omega) hr rfl)
    (fun pre X => J pre X ∧ Kc T w1 X) ?hI ⟨own_new HJ.out OW1.out H0.out, Kc.refl _ _⟩ ?hround ?hdone
  case hI =>
    intro pre X X' row h hg hr
    exact ⟨HJ.out pre X X' row h.1 hg (fun r e => ⟨by have h1 := (hr r e).1; have h2 := N1.out; omega, (hr r e).2⟩), h.2.trans (Kc.of_grown HT.out hg (by have h1 := N1.out; have h2 := h.2.size; omega) (fun r e => ⟨by have h1 := (hr r e).1; have h2 := N1.out; omega, (hr r e).2⟩))⟩
  case hround =>
    intro pre x X hlx hi hlen
    have NX : Hid (N ≤ X.heap.size) := by have h1 := N1.out; have h2 := hi.2.size; rw [Hid]; omega
    have HI := Lib.hid hi
    clear hi
    obtain ⟨kk, vk, vv, vd, ⟨sc, ss⟩, ⟨ac, as_⟩, vp, vg⟩ := x
    gi_wp2
    have k0 := Kc.alloc HT.out NX.out (.cells #[.string vk, .string vv, .bool vd, .int .i64 sc, .int .i64 ss, .int .i64 ac, .int .i64 as_, .int .i64 vp, .int .i64 vg] 82)
    refine ⟨(KeepsOthers.alloc _ _).from _, ⟨own_new HJ.out ((Only.refl none_ X).alloc _) HI.out.1, HI.out.2.trans k0⟩, fun r ⟨r0, hr0⟩ hi2 => ?_⟩
    have k1 : Kc T X (((X.alloc (.cells #[.string vk, .string vv, .bool vd, .int .i64 sc, .int .i64 ss, .int .i64 ac, .int .i64 as_, .int .i64 vp, .int .i64 vg] 82)).putObj (w1.heap.size + 1) (.loop r))) := k0.trans (Kc.putObj HT.out _ (by have := N1.out; omega) hr0 rfl)
    have BE : Hid (Blk ((X.alloc (.cells #[.string vk, .string vv, .bool vd, .int .i64 sc, .int .i64 ss, .int .i64 ac, .int .i64 as_, .int .i64 vp, .int .i64 vg] 82)).putObj (w1.heap.size + 1) (.loop r)) X.heap.size 82 #[.string vk, .string vv, .bool vd, .int .i64 sc, .int .i64 ss, .int .i64 ac, .int .i64 as_, .int .i64 vp, .int .i64 vg]) :=
      (Blk.new X _ _).grown' (grownBy_putObj' _ _ _) (fun e => by injection e with e; omega)
    generalize (X.alloc (.cells #[.string vk, .string vv, .bool vd, .int .i64 sc, .int .i64 ss, .int .i64 ac, .int .i64 as_, .int .i64 vp, .int .i64 vg] 82)).putObj (w1.heap.size + 1) (.loop r) = Y at hi2 BE k1
    have K1 := Lib.hid k1
    have cY := (hi2.2.blk YB1.out (fun ht => by have h1 := T1.out _ ht; have h2 := NUM.out; omega)).cell_ (i := 0) rfl
    have z0 := BE.out.cell_ (i := 0) rfl
    have z1 := BE.out.cell_ (i := 1) rfl
    have z2 := BE.out.cell_ (i := 2) rfl
    have z3 := BE.out.cell_ (i := 3) rfl
    have z4 := BE.out.cell_ (i := 4) rfl
    have z5 := BE.out.cell_ (i := 5) rfl
    have z6 := BE.out.cell_ (i := 6) rfl
    have z7 := BE.out.cell_ (i := 7) rfl
    have z8 := BE.out.cell_ (i := 8) rfl
    obtain ⟨fn, tmps, assign, body, hy, hR⟩ := HY.out pre ⟨kk, vk, vv, vd, ⟨sc, ss⟩, ⟨ac, as_⟩, vp, vg⟩ Y hi2.1 hlen (5 - 1)
    have HRR := Lib.hid hR
    have KY := Lib.hid hi2.2
    dsimp only [Se.encP] at hy
    clear hR hi2 k0 k1 BE HI hlx hlen hr0
    gi_wp2
    refine (roundIn_in _ HRR.out).mono ?_
    rintro e Z ⟨rfl, hJ3, hk3, ho3⟩
    gi_wp2
    refine ⟨⟨hk3.size, fun k o hb hk ho => ho3 k o (by have h1 := NUM.out; have h2 := N1.out; omega) hk ho⟩, K1.out.trans hk3, hJ3, KY.out.trans hk3⟩
  case hdone =>
    intro D X hD hi hdef
    have c2 : X.cell? ⟨s, 2, none⟩ = some (.pointer none) := hi.2.cell (p := ⟨s, 2, none⟩) S1.out.c2 (fun ht => (T1.out s ht).2 rfl)
    have HI := Lib.hid hi
    have HD := Lib.hid hD
    have HDF := Lib.hid hdef
    clear hi hdef hD
    gi_wp2
    rw [roundsIn_succ]
    gi_wp2
    refine ⟨by simp, .inl ⟨_, _, rfl, run_takeDeferred HDF.out, ?_⟩⟩
    exact ⟨_, results_none rfl _ _ _, ⟨_, rfl⟩, HJ.out.putObj _ HI.out.1 (by have h1 := HD.out; have h2 := N1.out; omega) HDF.out rfl⟩
end Go.Proofs.YtoohpcomnhfgpaaGreat
end
