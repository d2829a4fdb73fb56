/- What the calls of an index do that change nothing: New, Len, Get, Newest, Below. No statement of the seat is proved here. -/
import Derived.Test.YtclngnoapfjghaaRcC
import Derived.Test.YtclngnoapfjghaaRcE
import Derived.Test.YtclngnoapfjghaaRes
namespace Go.Proofs.Ytclngnoapfjghaa
open Go.RowKit
set_option maxRecDepth 100000
set_option linter.all false

theorem own_shape {w : World} {base : Nat} {e : TypeId} {k n : Nat} {v : Value} {xs : List Value} (h : w.ownsRow base e k v n xs) : ∃ A n' c, v = .slice A n' c := by
  rcases h.2 with ⟨rfl, _⟩ | ⟨_, _, _, rfl, _⟩ <;> exact ⟨_, _, _, rfl⟩
theorem own_num {w : World} {base : Nat} {e : TypeId} {k n n' c : Nat} {A : Option Addr} {xs : List Value} (h : w.ownsRow base e k (.slice A n' c) n xs) : n' = n := by
  rcases h.2 with ⟨h1, h2⟩ | ⟨g, cap, cur, h1, _⟩
  · injection h1 with _ h1 _; omega
  · injection h1

set_option maxHeartbeats 1600000 in
theorem rc_new (w : World) :
    Calls Try.prog 11 #[] w fun e w' => ∃ g mb, e = .returned (.pointer (some ⟨g, 0, none⟩)) ∧ Rc w.heap.size g mb [] [] (.slice none 0 0) w' ∧ Only none_ w w' := by
  have hmk := run_makeMap (P := Try.prog) 88 w
  have o1 : Only none_ w (w.alloc (.map #[] 0)) := (Only.refl none_ w).alloc _
  have o2 : Only none_ (w.alloc (.map #[] 0)) ((w.alloc (.map #[] 0)).alloc (.cells #[.map (some w.heap.size), .slice none 0 0] 90)) := (Only.refl none_ _).alloc _
  have F : Hid (Rc w.heap.size (w.heap.size + 1) w.heap.size [] [] (.slice none 0 0) ((w.alloc (.map #[] 0)).alloc (.cells #[.map (some w.heap.size), .slice none 0 0] 90)) ∧ Only none_ w ((w.alloc (.map #[] 0)).alloc (.cells #[.map (some w.heap.size), .slice none 0 0] 90))) := by
    have B2 := Blk.new (w.alloc (.map #[] 0)) 90 #[.map (some w.heap.size), .slice none 0 0]
    rw [World.size_alloc] at B2
    exact ⟨⟨B2, World.ownsRow_nil _ _ _ _, (Mp.made w).only o2 (fun h => h), by omega, Nat.le_refl _, ixl_nil, by simp⟩, o1.trans o2⟩
  clear o1 o2
  go_enter Try.func11, Try.ntmps11
  go_wp2_with fail
  go_ret
  exact ⟨_, _, rfl, F.out.1, F.out.2⟩

theorem rc_len (N g mb : Nat) (l q : List Mk) (v : Value) (w : World) (h : Rc N g mb l q v w) :
    Calls Try.prog 20 #[.pointer (some ⟨g, 0, none⟩)] w fun e w' => e = .returned (.int .i64 l.length) ∧ w = w' := by
  obtain ⟨A, c, rfl⟩ := h.shape
  have c1 := h.bk.cell_ (i := 1) rfl
  generalize l.length = n at c1 ⊢
  clear h
  go_enter Try.func20, Try.ntmps20
  go_wp2
  go_ret
  exact ⟨rfl, rfl⟩

set_option maxHeartbeats 1600000 in
theorem rc_get_yes (N g mb : Nat) (l q : List Mk) (v : Value) (m : Mk) (w : World) (h : Rc N g mb l q v w) (hq : Keys_ q) (hm : m ∈ q) :
    Calls Try.prog 18 #[.pointer (some ⟨g, 0, none⟩), .string m.k] w fun e w' => e = .returned (.tuple #[.agg #[.int .i64 m.a.c, .int .i64 m.a.s, .string m.k], .bool true]) ∧ Only none_ w w' := by
  have o1 : Only none_ w (w.alloc (.cells #[.int .i64 0, .int .i64 0, .string ⟨#[]⟩] 39)) := (Only.refl none_ w).alloc _
  have hlk := mp_look_yes (P := Try.prog) Try.underlying9 Try.underlying88 (h.keep o1).mp hq hm
  have c0 := (h.keep o1).bk.cell_ (i := 0) rfl
  have O1 := Lib.hid o1
  obtain ⟨⟨mc, ms⟩, k⟩ := m
  simp only [] at hlk ⊢
  have B2 := Blk.new (w.alloc (.cells #[.int .i64 0, .int .i64 0, .string ⟨#[]⟩] 39)) 37 #[.int .i64 mc, .int .i64 ms]
  rw [World.size_alloc] at B2
  have F : Hid (Blk ((w.alloc (.cells #[.int .i64 mc, .int .i64 ms, .string k] 39)).alloc (.cells #[.int .i64 mc, .int .i64 ms] 37)) w.heap.size 39 #[.int .i64 mc, .int .i64 ms, .string k] ∧ Only none_ w ((w.alloc (.cells #[.int .i64 mc, .int .i64 ms, .string k] 39)).alloc (.cells #[.int .i64 mc, .int .i64 ms] 37))) :=
    ⟨(Blk.new w _ _).alloc _, ((Only.refl none_ w).alloc _).alloc _⟩
  have b20 := B2.cell_ (i := 0) rfl
  have b21 := B2.cell_ (i := 1) rfl
  clear h hq hm o1 B2
  go_enter Try.func18, Try.ntmps18
  go_wp2_with fail
  refine bodyPost_ret (results_cell_tmp rfl _ _ w.heap.size 39 _ _ rfl F.out.1 Try.underlying39 rfl (by kernel_rfl) (.bool true) rfl) rfl ?_
  exact ⟨rfl, F.out.2⟩

set_option maxHeartbeats 1600000 in
theorem rc_get_no (N g mb : Nat) (l q : List Mk) (v : Value) (k : ByteArray) (w : World) (h : Rc N g mb l q v w) (hk : k.size ≤ maxLen) (hno : ∀ m ∈ q, m.k ≠ k) :
    Calls Try.prog 18 #[.pointer (some ⟨g, 0, none⟩), .string k] w fun e w' => e = .returned (.tuple #[.agg #[.int .i64 0, .int .i64 0, .string ⟨#[]⟩], .bool false]) ∧ Only none_ w w' := by
  have o1 : Only none_ w (w.alloc (.cells #[.int .i64 0, .int .i64 0, .string ⟨#[]⟩] 39)) := (Only.refl none_ w).alloc _
  have hz : ∀ w : World, (zeroValue 37).run Try.prog w = .ok (.agg #[.int .i64 0, .int .i64 0]) w := fun w => by
    have : (Try.prog.info? 37).map (·.zero) = some (some (.agg #[.int .i64 0, .int .i64 0])) := by kernel_rfl
    cases hi : Try.prog.info? 37 with
    | none => rw [hi] at this; cases this
    | some i0 =>
      rw [hi] at this
      simp only [Option.map_some, Option.some.injEq] at this
      simp [zeroValue, typeInfo, hi, this]
  have hlk := mp_look_no (P := Try.prog) Try.underlying9 Try.underlying88 (hz _) (h.keep o1).mp hk hno
  have c0 := (h.keep o1).bk.cell_ (i := 0) rfl
  have F : Hid (Blk ((w.alloc (.cells #[.int .i64 0, .int .i64 0, .string ⟨#[]⟩] 39)).alloc (.cells #[.int .i64 0, .int .i64 0] 37)) w.heap.size 39 #[.int .i64 0, .int .i64 0, .string ⟨#[]⟩] ∧ Only none_ w ((w.alloc (.cells #[.int .i64 0, .int .i64 0, .string ⟨#[]⟩] 39)).alloc (.cells #[.int .i64 0, .int .i64 0] 37))) :=
    ⟨(Blk.new w _ _).alloc _, ((Only.refl none_ w).alloc _).alloc _⟩
  clear h hk hno o1 hz
  go_enter Try.func18, Try.ntmps18
  go_wp2_with fail
  refine bodyPost_ret (results_cell_tmp rfl _ _ w.heap.size 39 _ _ rfl F.out.1 Try.underlying39 rfl (by kernel_rfl) (.bool false) rfl) rfl ?_
  exact ⟨rfl, F.out.2⟩

/-- A list of marks cut at a place. -/
theorem mark_cut {i : TypeInfo} (hi : Try.prog.info? 39 = some i) (hsz : i.size = 3) {w : World} {S : Nat → Prop} {A : Option Addr} {L c : Nat} {l : List Mk} (h : Cel w S (.slice A L c) L 3 (l.flatMap mkI)) (hL : L = l.length) (k m : Nat) (hk : k ≤ L) (hm : m ≤ L - k) :
    ∃ A1, (∀ w', (Instr.sliceAt 49 (.slice A L c) (some (.int .i64 (k : Int))) none none).run Try.prog w' = .ok (.slice A1 (L - k) (c - k)) w') ∧ (∀ w', (Instr.sliceAt 49 (.slice A1 (L - k) (c - k)) none (some (.int .i64 (m : Int))) none).run Try.prog w' = .ok (.slice A1 m (c - k)) w') ∧
      Cel w S (.slice A1 m (c - k)) m 3 (((l.drop k).take m).flatMap mkI) := by
  obtain ⟨A0, c0, e, h0, h1, h2, h3, h4⟩ := id h
  injection e with e1 e2 e3
  subst e1 e3
  have e1 : ((l.flatMap mkI).drop (k * 3)).take (m * 3) = ((l.drop k).take m).flatMap mkI := by
    rw [flat_drop mkI mkI_len l k (by omega), flat_take mkI mkI_len _ m (by rw [List.length_drop]; omega)]
  rw [← e1]
  rcases Nat.eq_zero_or_pos L with hz | hz
  · have hk0 : k = 0 := by omega
    have hm0 : m = 0 := by omega
    subst hk0 hm0
    cases A with
    | none =>
      have hc0 := h3 rfl
      subst hc0 hz
      refine ⟨none, fun w' => ?_, fun w' => ?_, ?_⟩
      · simp [Instr.sliceAt, Instr.slice, run_underlying Try.underlying49, Instr.sliceBounds, run_sliceBound, sizeOf, typeInfo, hi]
      · simp [Instr.sliceAt, Instr.slice, run_underlying Try.underlying49, Instr.sliceBounds, run_sliceBound, sizeOf, typeInfo, hi]
      · exact h.sub (p := 0) (by omega) (fun h0 => by omega) (by omega) (by omega) (fun _ => rfl)
    | some ad =>
      refine ⟨some (if c = 0 then ad else ad.add (0 * i.size)), fun w' => ?_, fun w' => ?_, ?_⟩
      · subst hz
        by_cases hc : c = 0 <;> simp [Instr.sliceAt, Instr.slice, run_underlying Try.underlying49, Instr.sliceBounds, run_sliceBound, sizeOf, typeInfo, hi, hc]
      · subst hz
        by_cases hc : c = 0 <;> simp [Instr.sliceAt, Instr.slice, run_underlying Try.underlying49, Instr.sliceBounds, run_sliceBound, sizeOf, typeInfo, hi, hc, Addr.add]
      · exact h.sub (p := 0) (by omega) (fun h0 => by omega) (by omega) (by omega) (fun e => by cases e)
  · obtain ⟨ba, off, rfl, _⟩ := h4 hz
    by_cases hrc : k < c
    · refine ⟨_, sl_lo Try.underlying49 hi hsz ba off L c k hk hrc (k : Int) rfl, sl_hi Try.underlying49 hi ba (off + k * 3) (L - k) (c - k) m (by omega) (m : Int) rfl, ?_⟩
      exact h.sub (by omega) (fun _ b o e => by injection e with e; injection e with e1 e2; subst e1 e2; rfl) (by omega) (by omega) (fun e => by cases e)
    · refine ⟨_, sl_lo_end Try.underlying49 hi ba off L c k hk (by omega) (k : Int) rfl, sl_hi Try.underlying49 hi ba off (L - k) (c - k) m (by omega) (m : Int) rfl, ?_⟩
      exact h.sub (p := k) (by omega) (fun h0 => by omega) (by omega) (by omega) (fun e => by cases e)

set_option maxHeartbeats 1600000 in
theorem rc_some (N g mb : Nat) (l q : List Mk) (v : Value) (k : Nat) (n : Int) (w : World) (h : Rc N g mb l q v w) (hk : k ≤ l.length) :
    Calls Try.prog 48 #[.pointer (some ⟨g, 0, none⟩), .int .i64 k, .int .i64 n] w fun e w' => ∃ v', e = .returned v' ∧ w'.ownsRow w.heap.size 39 3 v' ((l.drop k).take n.toNat).length (((l.drop k).take n.toNat).flatMap mkI) ∧ Only none_ w w' := by
  obtain ⟨i0, hi0, hz0, hz1, hz2⟩ := info_parts mark_info
  have hml := h.ml
  obtain ⟨A, c, rfl⟩ := h.shape
  obtain ⟨m, hm⟩ : ∃ m, ((l.drop k).take n.toNat).length = m := ⟨_, rfl⟩
  have hm2 : m = min n.toNat (l.length - k) := by rw [← hm]; simp
  have htk : (l.drop k).take n.toNat = (l.drop k).take m := by
    rw [hm2, List.take_eq_take_iff, List.length_drop]; omega
  obtain ⟨A1, hs1, hs2, hcl⟩ := mark_cut hi0 hz1 h.cel rfl k m hk (by omega)
  rw [hm, htk]
  have HCL := Lib.hid (fun (w' : World) (o : Only none_ w w') => cloM A1 m (c - k) _ _ w' (hcl.only o (fun _ _ h => h)) (by omega) (mkI_one _))
  have hmn : ∀ ts t w, (Builtin.min_ ts t #[.int .i64 n, .int .i64 ((l.length - k : Nat) : Int)]).run Try.prog w = .ok (.int .i64 (min n ((l.length - k : Nat) : Int))) w := fun ts t w => by
    rw [run_min_int2]
    by_cases hk : ((l.length - k : Nat) : Int) < n
    · rw [if_pos hk, Int.min_eq_right (by omega)]
    · rw [if_neg hk, Int.min_eq_left (by omega)]
  have hmx : ∀ ts t w, (Builtin.max_ ts t #[.int .i64 0, .int .i64 (min n ((l.length - k : Nat) : Int))]).run Try.prog w = .ok (.int .i64 (m : Int)) w := fun ts t w => by
    rw [run_max_int2]
    by_cases hk : 0 < min n ((l.length - k : Nat) : Int)
    · simp only [hk, if_true]; congr 2; omega
    · simp only [hk, if_false]; congr 2; omega
  have c1 := h.bk.cell_ (i := 1) rfl
  have CC := HCL.out w (Only.refl _ _)
  have HC1 := Lib.hid CC
  obtain ⟨n1, hn1⟩ : ∃ n1, l.length - k = n1 := ⟨_, rfl⟩
  rw [hn1] at hs1 hs2 hmn hmx
  generalize min n (n1 : Int) = qq at hmn hmx
  obtain ⟨ll, hll⟩ : ∃ ll, l.length = ll := ⟨_, rfl⟩
  rw [hll] at hs1 c1 hk
  clear h hml hm hm2 htk hcl hn1 hll CC HCL
  go_enter Try.func48, Try.ntmps48
  go_wp2_with (first
    | (go_at_call 72; refine HC1.out.mono ?_; rintro E w4 ⟨v4, rfl, own4, o4⟩
       have F4 : Hid (w4.ownsRow w.heap.size 39 3 v4 m (((l.drop k).take m).flatMap mkI) ∧ Only none_ w w4) := ⟨own4, o4⟩
       clear own4 o4))
  go_ret
  exact ⟨_, rfl, F4.out.1, F4.out.2⟩

set_option maxHeartbeats 1600000 in
theorem rc_newest (N g mb : Nat) (l q : List Mk) (v : Value) (n : Int) (w : World) (h : Rc N g mb l q v w) :
    Calls Try.prog 23 #[.pointer (some ⟨g, 0, none⟩), .int .i64 n] w fun e w' => ∃ v', e = .returned v' ∧ w'.ownsRow w.heap.size 39 3 v' (belM l mkTop n).length ((belM l mkTop n).flatMap mkI) ∧ Only none_ w w' := by
  have hs := rc_some N g mb l q v 0 n w h (Nat.zero_le _)
  rw [List.drop_zero, ← bel_top (m := mkTop) (by rw [isTop_same]; exact (mkSame_iff _ _).2 rfl)] at hs
  have HS := Lib.hid hs
  clear h hs
  go_enter Try.func23, Try.ntmps23
  go_wp2_with (first
    | (go_at_call 48; refine HS.out.mono ?_; rintro E w4 ⟨v4, rfl, own4, o4⟩
       have F4 := Lib.hid (And.intro own4 o4)
       clear own4 o4))
  go_ret
  exact ⟨_, rfl, F4.out.1, F4.out.2⟩

theorem stZero_c : mkTop.a.c = 0 := rfl
set_option maxHeartbeats 1600000 in
theorem rc_below (N g mb : Nat) (l q : List Mk) (v : Value) (m : Mk) (n : Int) (w : World) (h : Rc N g mb l q v w) :
    Calls Try.prog 25 #[.pointer (some ⟨g, 0, none⟩), .agg #[.int .i64 m.a.c, .int .i64 m.a.s, .string m.k], .int .i64 n] w fun e w' => ∃ v', e = .returned v' ∧ w'.ownsRow w.heap.size 39 3 v' (belM l m n).length ((belM l m n).flatMap mkI) ∧ Only none_ w w' := by
  have heq := fun w => eqlA w m mkTop
  rw [← isTop_same] at heq
  simp only [show mkTop.a.c = 0 from rfl, show mkTop.a.s = 0 from rfl, show mkTop.k = ⟨#[]⟩ from rfl] at heq
  have O1 := Lib.hid ((Only.refl none_ w).alloc (.cells #[.int .i64 m.a.c, .int .i64 m.a.s, .string m.k] 39))
  have B1 := Blk.new w 39 #[.int .i64 m.a.c, .int .i64 m.a.s, .string m.k]
  have b0 := B1.cell_ (i := 0) rfl
  have b1 := B1.cell_ (i := 1) rfl
  have b2 := B1.cell_ (i := 2) rfl
  have h1 := h.keep O1.out
  by_cases ht : isTop m = true
  · rw [ht] at heq
    have hs := rc_newest N g mb l q v n _ h1
    have e : belM l m n = belM l mkTop n := by rw [bel_top ht, bel_top (m := mkTop) (by rw [isTop_same]; exact (mkSame_iff _ _).2 rfl)]
    rw [e]
    have HS := Lib.hid hs
    clear h h1 hs e B1 ht
    go_enter Try.func25, Try.ntmps25
    go_wp2_with (first
      | (go_at_call 23; refine HS.out.mono ?_; rintro E w4 ⟨v4, rfl, own4, o4⟩
         have F4 := Lib.hid (And.intro own4 o4)
         clear own4 o4))
    go_ret
    exact ⟨_, rfl, owns_base F4.out.1 O1.out.size, O1.out.trans F4.out.2⟩
  · have ht' : isTop m = false := by simpa using ht
    rw [ht'] at heq
    rw [bel_not h.ix.ds ht']
    have hb := rc_behind N g mb l q v m _ h1
    have hle := bh_le l m
    generalize bh l m = r at hb hle ⊢
    have HB := Lib.hid hb
    have HS := Lib.hid (fun (w' : World) (o : Only none_ w w') => rc_some N g mb l q v r n w' (h.keep o) hle)
    clear h h1 hb B1 ht ht'
    go_enter Try.func25, Try.ntmps25
    go_wp2_with (first
      | (go_at_call 44; refine HB.out.mono ?_; rintro E w3 ⟨rfl, o3⟩
         have O3 := Lib.hid (O1.out.trans o3)
         clear o3)
      | (go_at_call 48; refine (HS.out _ O3.out).mono ?_; rintro E w4 ⟨v4, rfl, own4, o4⟩
         have F4 := Lib.hid (And.intro own4 o4)
         clear own4 o4))
    go_ret
    exact ⟨_, rfl, owns_base F4.out.1 O3.out.size, O3.out.trans F4.out.2⟩
end Go.Proofs.Ytclngnoapfjghaa
