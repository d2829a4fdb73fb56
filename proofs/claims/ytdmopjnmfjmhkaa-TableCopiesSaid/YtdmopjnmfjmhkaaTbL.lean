/- The document's tables: Put. No statement of the seat is proved here. -/
import Derived.Test.YtdmopjnmfjmhkaaTbJ
import Derived.Deep.RegionLaw
namespace Go.Proofs.Ytdmopjnmfjmhkaa
open Go.RowKit
set_option maxRecDepth 100000
set_option linter.all false

/-- A list of pairs parted at a place. -/
theorem pair_cut {i : TypeInfo} (hi : Try.prog.info? 87 = some i) (hsz : i.size = 2) {w : World} {S : Nat → Prop} {A : Option Addr} {L c : Nat} {l : List (Pr Int)} (h : Cel w S (.slice A L c) L 2 (l.flatMap prI)) (hL : L = l.length) (k : Nat) (hk : k ≤ L) :
    ∃ A1 A2, (∀ w', (Instr.sliceAt 29 (.slice A L c) (some (.int .i64 (k : Int))) none none).run Try.prog w' = .ok (.slice A1 (L - k) (c - k)) w') ∧ (∀ w', (Instr.sliceAt 29 (.slice A L c) none (some (.int .i64 (k : Int))) none).run Try.prog w' = .ok (.slice A2 k c) w') ∧
      Cel w S (.slice A1 (L - k) (c - k)) (L - k) 2 ((l.drop k).flatMap prI) ∧ Cel w S (.slice A2 k c) k 2 ((l.take k).flatMap prI) := by
  obtain ⟨A0, c0, e, h0, h1, h2, h3, h4⟩ := id h
  injection e with e1 e2 e3
  subst e1 e3
  have e1 : ((l.flatMap prI).drop (k * 2)).take ((L - k) * 2) = (l.drop k).flatMap prI := by
    rw [flat_drop prI prI_len l k (by omega), List.take_of_length_le]
    rw [flat_len prI prI_len, List.length_drop, hL]; exact Nat.le_refl _
  have e2 : ((l.flatMap prI).drop (0 * 2)).take (k * 2) = (l.take k).flatMap prI := by
    rw [Nat.zero_mul, List.drop_zero, flat_take prI prI_len l k (by omega)]
  rcases Nat.eq_zero_or_pos L with hz | hz
  · have hk0 : k = 0 := by omega
    subst hk0
    have hnil : l = [] := List.eq_nil_of_length_eq_zero (by omega)
    subst hnil
    cases A with
    | none =>
      have hc0 := h3 rfl
      subst hc0 hz
      refine ⟨none, none, fun w' => ?_, fun w' => ?_, ?_, ?_⟩
      · simp [Instr.sliceAt, Instr.slice, run_underlying Try.underlying29, Instr.sliceBounds, run_sliceBound, sizeOf, typeInfo, hi]
      · simp [Instr.sliceAt, Instr.slice, run_underlying Try.underlying29, Instr.sliceBounds, run_sliceBound, sizeOf, typeInfo, hi]
      · exact h
      · exact h
    | some ad =>
      refine ⟨some (if c = 0 then ad else ad.add (0 * i.size)), some (if c = 0 then ad else ad.add (0 * i.size)), fun w' => ?_, fun w' => ?_, ?_, ?_⟩
      · subst hz
        by_cases hc : c = 0 <;> simp [Instr.sliceAt, Instr.slice, run_underlying Try.underlying29, Instr.sliceBounds, run_sliceBound, sizeOf, typeInfo, hi, hc]
      · subst hz
        by_cases hc : c = 0 <;> simp [Instr.sliceAt, Instr.slice, run_underlying Try.underlying29, Instr.sliceBounds, run_sliceBound, sizeOf, typeInfo, hi, hc]
      · rw [← e1]
        exact h.sub (p := 0) (by omega) (fun h0 => by omega) (by omega) (by omega) (fun e => by cases e)
      · rw [← e2]
        exact h.sub (p := 0) (by omega) (fun h0 => by omega) (by omega) (by omega) (fun e => by cases e)
  · obtain ⟨ba, off, rfl, _⟩ := h4 hz
    have hs1 := sl_hi Try.underlying29 hi ba off L c k (by omega) (k : Int) rfl
    by_cases hrc : k < c
    · refine ⟨_, _, sl_lo Try.underlying29 hi hsz ba off L c k hk hrc (k : Int) rfl, hs1, ?_, ?_⟩
      · rw [← e1]
        exact h.sub (by omega) (fun _ b o e => by injection e with e; injection e with e1 e2; subst e1 e2; rfl) (by omega) (by omega) (fun e => by cases e)
      · rw [← e2]
        exact h.sub (by omega) (fun _ b o e => by injection e with e; injection e with e1 e2; subst e1 e2; simp) (by omega) (Nat.le_refl _) (fun e => by cases e)
    · refine ⟨_, _, sl_lo_end Try.underlying29 hi ba off L c k hk (by omega) (k : Int) rfl, hs1, ?_, ?_⟩
      · rw [← e1]
        exact h.sub (p := k) (by omega) (fun h0 => by omega) (by omega) (by omega) (fun e => by cases e)
      · rw [← e2]
        exact h.sub (by omega) (fun _ b o e => by injection e with e; injection e with e1 e2; subst e1 e2; simp) (by omega) (Nat.le_refl _) (fun e => by cases e)

/-- A list of pairs of the call's own, made since B. -/
structure Rp (B : World) (v : Value) (n : Nat) (p : List Value) (w : World) : Prop where
  ow : w.ownsRow B.heap.size 87 2 v n p
  ho : Only none_ B w
theorem Rp.keep {B w w' : World} {v : Value} {n : Nat} {p : List Value} (t : Rp B v n p w) (o : Only none_ w w') : Rp B v n p w' := ⟨owns_only t.ow o (fun _ _ h => h), t.ho.trans o⟩
theorem Rp.app {B w w' : World} {v v' : Value} {n n' : Nat} {p p' : List Value} (t : Rp B v n p w) (own : w'.ownsRow B.heap.size 87 2 v' n' p') (hg : w.grownBy w' v.ownBlock) : Rp B v' n' p' w' := ⟨own, t.ho.grown hg (fun k hk => .inr (t.ow.lt k hk).1)⟩
theorem Rp.made (w : World) : Rp w (.slice (some ⟨w.heap.size, 0, none⟩) 0 0) 0 [] (w.alloc (.cells #[] 87)) :=
  ⟨own_made w w.heap.size 87 2 0 #[] (by simp) (by simp [maxLen]) (Nat.le_refl _), (Only.refl none_ w).alloc _⟩

/-- The two boxes of a call of the document's Put or Drop, and a copy of the list. -/
structure Pq (W : World) (g0 : Nat) (m : Array Value) (v : Value) (n : Nat) (p : List Value) (w : World) : Prop where
  b : Blk w g0 31 m
  c : Blk w (g0 + 1) 31 #[.int .i64 0, .slice none 0 0]
  ow : w.ownsRow W.heap.size 87 2 v n p
  ho : Only none_ W w
theorem Pq.keep {W w w' : World} {g0 : Nat} {m : Array Value} {v : Value} {n : Nat} {p : List Value} (t : Pq W g0 m v n p w) (o : Only none_ w w') : Pq W g0 m v n p w' :=
  ⟨t.b.only o (fun h => h), t.c.only o (fun h => h), owns_only t.ow o (fun _ _ h => h), t.ho.trans o⟩
theorem Pq.app {W w w' : World} {g0 : Nat} {m : Array Value} {v v' : Value} {n n' : Nat} {p p' : List Value} (t : Pq W g0 m v n p w) (own : w'.ownsRow W.heap.size 87 2 v' n' p') (hg : w.grownBy w' v.ownBlock) : Pq W g0 m v' n' p' w' :=
  ⟨t.b.grown' hg (own_blk_ne t.ow t.b (by decide)), t.c.grown' hg (own_blk_ne t.ow t.c (by decide)), own, t.ho.grown hg (fun k hk => .inr (t.ow.lt k hk).1)⟩

set_option maxHeartbeats 25600000 in
theorem rf_put (S : Nat → Prop) (room : Int) (l : List (Pr Int)) (m : Value) (x : ByteArray) (y : Int) (w : World) (h : Rt w S room l m) (hr : Ris l) (hl : l.length ≤ 4096) :
    Calls Try.prog 29 #[m, .string x, .int .i64 y] w fun e w' => ∃ m', e = .returned (.tuple #[m', .int .i64 (putC room l x)]) ∧ Rt w' (fun b => S b ∨ w.heap.size ≤ b) room (putT room l x y) m' ∧ Only none_ w w' := by
  obtain ⟨i0, hi0, hz0, hz1, hz2⟩ := info_parts rpair_info
  have HRT := Lib.hid (fun (w' : World) (o : Only none_ w w') => h.only o (fun _ _ h => h))
  have hFD := fun (w' : World) (o : Only none_ w w') => rf_find S room l m x w' (h.only o (fun _ _ h => h)) hr hl
  have hRK := fun (w' : World) (o : Only none_ w w') => rf_rank S room l m x w' (h.only o (fun _ _ h => h)) hl
  obtain ⟨A, c, rfl, h⟩ := h
  obtain ⟨L, hL⟩ : ∃ L, l.length = L := ⟨_, rfl⟩
  have HL := Lib.hid hL
  rw [hL] at hFD hRK HRT h hl ⊢
  have CH := Lib.hid (fun (w' : World) (o : Only none_ w w') => h.only o (fun _ _ h => h))
  have hone := prI_one l
  have N0 : Hid (0 + L ≤ maxLen ∧ (0 + L) * 24 ≤ 140737488355328) := by simp only [Hid, maxLen]; omega
  have P0 : Hid (Pq w w.heap.size #[.int .i64 room, .slice A L c] (.slice (some ⟨w.heap.size + 2, 0, none⟩) 0 0) 0 [] (((w.alloc (.cells #[.int .i64 room, .slice A L c] 31)).alloc (.cells #[.int .i64 0, .slice none 0 0] 31)).alloc (.cells #[] 87))) := by
    have B2 := Blk.new (w.alloc (.cells #[.int .i64 room, .slice A L c] 31)) 31 #[.int .i64 0, .slice none 0 0]
    rw [World.size_alloc] at B2
    have M := own_made ((w.alloc (.cells #[.int .i64 room, .slice A L c] 31)).alloc (.cells #[.int .i64 0, .slice none 0 0] 31)) w.heap.size 87 2 0 #[] (by simp) (by simp [maxLen]) (by simp; omega)
    have e2 : ((w.alloc (.cells #[.int .i64 room, .slice A L c] 31)).alloc (.cells #[.int .i64 0, .slice none 0 0] 31)).heap.size = w.heap.size + 2 := by simp
    rw [e2] at M
    exact ⟨((Blk.new w _ _).alloc _).alloc _, B2.alloc _, M, (((Only.refl none_ w).alloc _).alloc _).alloc _⟩
  have p00 := P0.out.b.cell_ (i := 0) rfl
  have p01 := P0.out.b.cell_ (i := 1) rfl
  by_cases hs : has l x = true
  · have hat := (has_at hr x).symm
    rw [hs] at hat
    simp only [Bool.and_eq_true, decide_eq_true_eq] at hat
    obtain ⟨hlt, _, hkx⟩ := hat
    obtain ⟨r, hrr⟩ : ∃ r, rnk l x = r := ⟨_, rfl⟩
    have hf : fndL l x = (r : Int) := by rw [fndL, if_pos hs, hrr]
    have ec : putC room l x = 0 := by rw [putC, if_pos hs]
    have et : putT room l x y = l.set r ⟨x, y⟩ := by rw [putT, if_neg (by rw [hs]; simp), putL, if_pos hs, hrr]
    rw [hf] at hFD
    simp only [hrr] at hlt hkx
    have HFD := Lib.hid hFD
    have hrn : ¬ ((r : Int) < 0) := by omega
    have hr0 : (0 : Int) ≤ (r : Int) := by omega
    rw [ec, et]
    have HF : Hid (∀ A5 n5 c5 (w6 : World), Pq w w.heap.size #[.int .i64 room, .slice A L c] (.slice A5 n5 c5) (0 + L) ([] ++ l.flatMap prI) w6 → ∃ b vv, n5 = L ∧ A5 = some ⟨b, 0, none⟩ ∧ w6.cell? ⟨b, r * 2 + 1, none⟩ = some (.int .i64 vv) ∧ w6.frozen? ⟨b, r * 2 + 1, none⟩ = false ∧
        Pq w w.heap.size #[.int .i64 room, .slice A L c] (.slice A5 n5 c5) L ((l.set r ⟨x, y⟩).flatMap prI) (w6.setCell ⟨b, r * 2 + 1, none⟩ (.int .i64 y))) := by
      intro A5 n5 c5 w6 q
      have ow := q.ow
      rw [List.nil_append, Nat.zero_add] at ow
      have en : n5 = L := by obtain ⟨_, _, e, _⟩ := Cel.of_own ow; injection e
      subst en
      have hlt' : r < n5 := by omega
      obtain ⟨b, cur, hA, hrw, hnc, htk⟩ := own_rw ow (by omega)
      obtain ⟨b', off, e, _, _, _, hc⟩ := prI_cell (Cel.of_own ow) r hlt hL.symm
      rw [hA] at e
      injection e with e
      injection e with e1 e2
      subst e1 e2
      rw [Nat.zero_add] at hc
      have o2 : Only (one b) w6 (w6.setCell ⟨b, r * 2 + 1, none⟩ (.int .i64 y)) := (Only.refl (one b) w6).setCell (.inl (show one b b from rfl)) _
      refine ⟨b, l[r].v, rfl, hA, hc, Blk.frozen (t := 87) hrw.bk _, q.b.only o2 (fun e => Blk.ne_ q.b (show Blk w6 b 87 _ from hrw.bk) (by decide) e), q.c.only o2 (fun e => Blk.ne_ q.c (show Blk w6 b 87 _ from hrw.bk) (by decide) e), ?_, q.ho.trans' o2 (fun k hk e => by have e' : k = b := e; have := hrw.ge; omega)⟩
      rw [flat_set l r x y hlt hkx]
      exact own_set ow hA _ _ (by omega)
    clear h hr hs hf ec et hFD hRK hrr hkx
    have tokA : True := trivial
    go_enter Try.func29, Try.ntmps29
    go_wp2_with (first
      | (at_builtin; refine wpList_append_cel _ rfl (.tmp 12) (.tmp 14) _ rfl w.heap.size 87 i0 _ 2 24 Try.underlying29 hi0 hz0 hz1 hz2 rfl (by omega) (.slice (some ⟨w.heap.size + 2, 0, none⟩) 0 0) 0 [] rfl P0.out.ow _ (.slice A L c) L _ rfl (CH.out _ P0.out.ho) hone N0.out.1 N0.out.2 P0.out.ho.size ?_
         intro A5 n5 c5 w5 hown5 hgrow5 hmv5
         have P5 := Lib.hid (P0.out.app hown5 hgrow5)
         have p50 := P5.out.b.cell_ (i := 0) rfl
         have p51 := P5.out.b.cell_ (i := 1) rfl
         clear hown5 hgrow5 hmv5)
      | (go_at_call 53; refine (HFD.out _ P5.out.ho).mono ?_; rintro E w6 ⟨rfl, o6⟩
         have P6 := P5.out.keep o6
         obtain ⟨b, vv, rfl, rfl, hcv, hfz, P7'⟩ := HF.out _ _ _ _ P6
         have P7 := Lib.hid P7'
         have p70 := P7.out.b.cell_ (i := 0) rfl
         have c70 := P7.out.c.cell_ (i := 0) rfl
         have f70 := P7.out.c.frozen 0
         have c71 := (P7.out.c.set_ 0 (.int .i64 room)).cell_ (i := 1) rfl
         have f71 := (P7.out.c.set_ 0 (.int .i64 room)).frozen 1
         have hlt9 : r < n5 := by have := HL.out; omega
         clear o6 P6 P7'))
    have D7 : Hid (Blk (((w6.setCell ⟨b, r * 2 + 1, none⟩ (.int .i64 y)).setCell ⟨w.heap.size + 1, 0, none⟩ (.int .i64 room)).setCell ⟨w.heap.size + 1, 1, none⟩ (.slice (some ⟨b, 0, none⟩) n5 c5)) (w.heap.size + 1) 31 #[.int .i64 room, .slice (some ⟨b, 0, none⟩) n5 c5]) := (P7.out.c.set_ 0 (.int .i64 room)).set_ 1 (.slice (some ⟨b, 0, none⟩) n5 c5)
    have o7 : Only (one (w.heap.size + 1)) (w6.setCell ⟨b, r * 2 + 1, none⟩ (.int .i64 y)) (((w6.setCell ⟨b, r * 2 + 1, none⟩ (.int .i64 y)).setCell ⟨w.heap.size + 1, 0, none⟩ (.int .i64 room)).setCell ⟨w.heap.size + 1, 1, none⟩ (.slice (some ⟨b, 0, none⟩) n5 c5)) := ((Only.refl (one (w.heap.size + 1)) _).setCell (p := ⟨w.heap.size + 1, 0, none⟩) (.inl (show one (w.heap.size + 1) (w.heap.size + 1) from rfl)) _).setCell (p := ⟨w.heap.size + 1, 1, none⟩) (.inl (show one (w.heap.size + 1) (w.heap.size + 1) from rfl)) _
    refine bodyPost_ret (results_cell_tmp rfl _ _ (w.heap.size + 1) 31 _ _ rfl D7.out Try.underlying31 rfl (by kernel_rfl) _ rfl) rfl ?_
    refine ⟨_, rfl, ⟨some ⟨b, 0, none⟩, c5, by rw [List.length_set, HL.out], ?_⟩, P7.out.ho.trans' o7 (fun k hk e => by have e' : k = w.heap.size + 1 := e; omega)⟩
    have h8 := (Cel.of_own P7.out.ow).only o7 (fun b hb e => own_blk_ne P7.out.ow P7.out.c (by decide) (by rw [hb, show b = w.heap.size + 1 from e]))
    rw [List.length_set, HL.out]
    exact h8.mono (fun b _ hb => .inr (P7.out.ow.lt b hb).1)
  · have hs' : has l x = false := by simpa using hs
    have hf : fndL l x = -1 := by rw [fndL, if_neg hs]
    rw [hf] at hFD
    have HFD := Lib.hid hFD
    have tokA : True := trivial
    by_cases hrm : room ≤ (L : Int)
    · have ec : putC room l x = 7 := by rw [putC, if_neg hs, if_pos (by rw [hL]; exact hrm)]
      have et : putT room l x y = l := by rw [putT, if_pos ⟨hs', by rw [hL]; exact hrm⟩]
      rw [ec, et]
      clear h hr hs hf ec et hFD hRK hs'
      go_enter Try.func29, Try.ntmps29
      go_wp2_with (first
        | (at_builtin; refine wpList_append_cel _ rfl (.tmp 12) (.tmp 14) _ rfl w.heap.size 87 i0 _ 2 24 Try.underlying29 hi0 hz0 hz1 hz2 rfl (by omega) (.slice (some ⟨w.heap.size + 2, 0, none⟩) 0 0) 0 [] rfl P0.out.ow _ (.slice A L c) L _ rfl (CH.out _ P0.out.ho) hone N0.out.1 N0.out.2 P0.out.ho.size ?_
           intro A5 n5 c5 w5 hown5 hgrow5 hmv5
           have P5 := Lib.hid (P0.out.app hown5 hgrow5)
           have p50 := P5.out.b.cell_ (i := 0) rfl
           have p51 := P5.out.b.cell_ (i := 1) rfl
           clear hown5 hgrow5 hmv5)
        | (go_at_call 53; refine (HFD.out _ P5.out.ho).mono ?_; rintro E w6 ⟨rfl, o6⟩
           have P6 := Lib.hid (P5.out.keep o6)
           have p60 := P6.out.b.cell_ (i := 0) rfl
           have p61 := P6.out.b.cell_ (i := 1) rfl
           have c60 := P6.out.c.cell_ (i := 0) rfl
           have f60 := P6.out.c.frozen 0
           have c61 := (P6.out.c.set_ 0 (.int .i64 room)).cell_ (i := 1) rfl
           have f61 := (P6.out.c.set_ 0 (.int .i64 room)).frozen 1
           have en : n5 = L := by obtain ⟨_, _, e, _⟩ := Cel.of_own P6.out.ow; injection e with _ e _; rw [e]; omega
           subst en
           clear o6))
      have D7 : Hid (Blk ((w6.setCell ⟨w.heap.size + 1, 0, none⟩ (.int .i64 room)).setCell ⟨w.heap.size + 1, 1, none⟩ (.slice A n5 c)) (w.heap.size + 1) 31 #[.int .i64 room, .slice A n5 c]) := (P6.out.c.set_ 0 (.int .i64 room)).set_ 1 (.slice A n5 c)
      have o7 : Only none_ w ((w6.setCell ⟨w.heap.size + 1, 0, none⟩ (.int .i64 room)).setCell ⟨w.heap.size + 1, 1, none⟩ (.slice A n5 c)) := (P6.out.ho.setCell (p := ⟨w.heap.size + 1, 0, none⟩) (.inr (by show w.heap.size ≤ w.heap.size + 1; omega)) _).setCell (p := ⟨w.heap.size + 1, 1, none⟩) (.inr (by show w.heap.size ≤ w.heap.size + 1; omega)) _
      refine bodyPost_ret (results_cell_tmp rfl _ _ (w.heap.size + 1) 31 _ _ rfl D7.out Try.underlying31 rfl (by kernel_rfl) _ rfl) rfl ?_
      obtain ⟨A', c', e, hc⟩ := HRT.out _ o7
      exact ⟨_, rfl, ⟨A', c', e, hc.mono (fun b _ h => .inl h)⟩, o7⟩
    · have ec : putC room l x = 0 := by rw [putC, if_neg hs, if_neg (by rw [hL]; exact hrm)]
      obtain ⟨r, hrr⟩ : ∃ r, rnk l x = r := ⟨_, rfl⟩
      have hrl := rnk_le l x
      rw [hrr, hL] at hrl
      have et : putT room l x y = l.take r ++ ⟨x, y⟩ :: l.drop r := by rw [putT, if_neg (by rw [hL]; exact fun e => hrm e.2), putL, if_neg hs, hrr]
      rw [ec, et]
      rw [hrr] at hRK
      have HRK := Lib.hid hRK
      have N1 : Hid (0 + r ≤ maxLen ∧ (0 + r) * 24 ≤ 140737488355328) := by simp only [Hid, maxLen]; omega
      have N2 : Hid (0 + r + 1 ≤ maxLen ∧ (0 + r + 1) * 24 ≤ 140737488355328) := by simp only [Hid, maxLen]; omega
      have N3 : Hid (0 + r + 1 + (L - r) ≤ maxLen ∧ (0 + r + 1 + (L - r)) * 24 ≤ 140737488355328) := by simp only [Hid, maxLen]; omega
      have HFL : Hid ((l.take r ++ (⟨x, y⟩ : Pr Int) :: l.drop r).flatMap prI = ([] ++ (l.take r).flatMap prI ++ [.string x, .int .i64 y]) ++ (l.drop r).flatMap prI ∧ (l.take r ++ (⟨x, y⟩ : Pr Int) :: l.drop r).length = 0 + r + 1 + (L - r)) := by
        constructor
        · rw [List.flatMap_append, List.flatMap_cons, List.nil_append, List.append_assoc]
          rfl
        · simp; omega
      have H1 := Lib.hid (prI_one (l.take r))
      have H3 := Lib.hid (prI_one (l.drop r))
      have hrm' : ¬ (room ≤ (L : Int)) := hrm
      clear h hr hs hf ec et hFD hRK hs' hrr
      go_enter Try.func29, Try.ntmps29
      go_wp2_with (first
        | (at_builtin; refine wpList_append_cel _ rfl (.tmp 12) (.tmp 14) _ rfl w.heap.size 87 i0 _ 2 24 Try.underlying29 hi0 hz0 hz1 hz2 rfl (by omega) (.slice (some ⟨w.heap.size + 2, 0, none⟩) 0 0) 0 [] rfl P0.out.ow _ (.slice A L c) L _ rfl (CH.out _ P0.out.ho) hone N0.out.1 N0.out.2 P0.out.ho.size ?_
           intro A5 n5 c5 w5 hown5 hgrow5 hmv5
           have P5 := Lib.hid (P0.out.app hown5 hgrow5)
           have p50 := P5.out.b.cell_ (i := 0) rfl
           have p51 := P5.out.b.cell_ (i := 1) rfl
           clear hown5 hgrow5 hmv5)
        | (go_at_call 53; refine (HFD.out _ P5.out.ho).mono ?_; rintro E w6 ⟨rfl, o6⟩
           have P6 := Lib.hid (P5.out.keep o6)
           have p60 := P6.out.b.cell_ (i := 0) rfl
           have p61 := P6.out.b.cell_ (i := 1) rfl
           have en : n5 = L := by obtain ⟨_, _, e, _⟩ := Cel.of_own P6.out.ow; injection e with _ e _; rw [e]; omega
           subst en
           clear o6)
        | (go_at_call 54; refine (HRK.out _ P6.out.ho).mono ?_; rintro E w7 ⟨rfl, o7⟩
           have P7 := Lib.hid (P6.out.keep o7)
           have CU : Cel w7 (fun b => b < w7.heap.size) (.slice A5 n5 c5) n5 2 (l.flatMap prI) := by have := (Cel.of_own P7.out.ow).mono (T := fun b => b < w7.heap.size) (fun b hb _ => hb); rw [List.nil_append, Nat.zero_add] at this; exact this
           obtain ⟨A8, A9, hs8, hs9, c8, c9⟩ := pair_cut hi0 hz1 CU HL.out.symm r hrl
           have C8 := Lib.hid (fun (w' : World) (o : Only none_ w7 w') => c8.only o (fun _ _ h => h))
           have C9 := Lib.hid (fun (w' : World) (o : Only none_ w7 w') => c9.only o (fun _ _ h => h))
           have R0 := Lib.hid (Rp.made w7)
           clear o7 CU c8 c9)
        | (at_builtin; refine wpList_append_cel _ rfl (.tmp 39) (.tmp 42) _ rfl w7.heap.size 87 i0 _ 2 24 Try.underlying29 hi0 hz0 hz1 hz2 rfl (by omega) (.slice (some ⟨w7.heap.size, 0, none⟩) 0 0) 0 [] rfl R0.out.ow _ (.slice A9 r c5) r _ rfl (C9.out _ R0.out.ho) H1.out N1.out.1 N1.out.2 R0.out.ho.size ?_
           intro A10 n10 c10 w10 hown10 hgrow10 hmv10
           have R10 := Lib.hid (R0.out.app hown10 hgrow10)
           have R11 := Lib.hid (R10.out.keep ((Only.refl none_ w10).alloc (.cells #[.string x, .int .i64 y] 87)))
           have C11 := Lib.hid (cel_made w10 87 2 1 #[.string x, .int .i64 y] rfl (by simp [maxLen]))
           clear hown10 hgrow10 hmv10)
        | (at_builtin; refine wpList_append_cel _ rfl (.tmp 43) (.tmp 47) _ rfl w7.heap.size 87 i0 _ 2 24 Try.underlying29 hi0 hz0 hz1 hz2 rfl (by omega) (.slice A10 n10 c10) (0 + r) _ rfl R11.out.ow _ _ 1 _ rfl C11.out (by intro u hu; simp only [List.mem_cons, List.not_mem_nil, or_false] at hu; rcases hu with rfl | rfl <;> rfl) N2.out.1 N2.out.2 R11.out.ho.size ?_
           intro A12 n12 c12 w12 hown12 hgrow12 hmv12
           have R12 := Lib.hid (R11.out.app hown12 hgrow12)
           clear hown12 hgrow12 hmv12))
      obtain ⟨g0, hg0⟩ : ∃ g0, w.heap.size = g0 := ⟨_, rfl⟩
      have HG := Lib.hid hg0
      have B13 : Hid (Blk w12.drew g0 31 #[.int .i64 room, .slice A n5 c]) := by have := (P7.out.b.only R12.out.ho (fun h => h)).drew; rwa [hg0] at this
      have C13 : Hid (Blk w12.drew (g0 + 1) 31 #[.int .i64 0, .slice none 0 0]) := by have := (P7.out.c.only R12.out.ho (fun h => h)).drew; rwa [hg0] at this
      have O13 : Hid (Only none_ w w12.drew) := (P7.out.ho.trans R12.out.ho).drew
      have W13 : Hid (w12.drew.ownsRow w7.heap.size 87 2 (.slice A12 n12 c12) (0 + r + 1) _) := R12.out.ow
      have S13 : Hid (w7.heap.size ≤ w12.drew.heap.size) := R12.out.ho.size
      have Q13 : Hid (Only none_ w7 w12.drew) := R12.out.ho.drew
      have G7 : Hid (g0 + 2 ≤ w7.heap.size) := by have := P7.out.c.lt; rw [Hid]; omega
      have b130 := B13.out.cell_ (i := 0) rfl
      rw [hg0] at p00 p01 ⊢
      clear P7 R12 R10 R11 R0 P5 P6
      go_region_law (first
        | (refine step_append_cel _ (by simp [Region.wanted]) (.tmp 51) (.tmp 54) 29 rfl w7.heap.size 87 i0 _ 2 24 Try.underlying29 hi0 hz0 hz1 hz2 rfl (by omega) (.slice A12 n12 c12) (0 + r + 1) _ (by simp [Act.eval, Act.put]) (by exact W13.out) _ (.slice A8 (n5 - r) (c5 - r)) (n5 - r) _ (by simp [Act.eval, Act.put]) (by exact C8.out _ Q13.out) (by exact H3.out) (by exact N3.out.1) (by exact N3.out.2) (by exact S13.out) ?_
           intro A6 n6 c6 w14 hown6 hgrow6 hmv6
           have o56 : Only (ownb (.slice A12 n12 c12)) w12.drew w14 := (Only.refl _ _).grown hgrow6 (fun k hk => .inl hk)
           have C6 := C13.out.only o56 (fun e => own_blk_ne W13.out C13.out (by decide) e)
           have O6 : Hid (Only none_ w w14) := O13.out.trans' o56 (fun k hk e => by have := (W13.out.lt k e).1; have := G7.out; have := HG.out; omega)
           have B6 := B13.out.only o56 (fun e => own_blk_ne W13.out B13.out (by decide) e)
           have b60 := B6.cell_ (i := 0) rfl
           have c60 := C6.cell_ (i := 0) rfl
           have f60 := C6.frozen 0
           have c61 := (C6.set_ 0 (.int .i64 room)).cell_ (i := 1) rfl
           have f61 := (C6.set_ 0 (.int .i64 room)).frozen 1
           have D6 : Hid (Blk ((w14.setCell ⟨g0 + 1, 0, none⟩ (.int .i64 room)).setCell ⟨g0 + 1, 1, none⟩ (.slice A6 n6 c6)) (g0 + 1) 31 #[.int .i64 room, .slice A6 n6 c6]) := (C6.set_ 0 (.int .i64 room)).set_ 1 (.slice A6 n6 c6)
           have F6 : Hid (Rt ((w14.setCell ⟨g0 + 1, 0, none⟩ (.int .i64 room)).setCell ⟨g0 + 1, 1, none⟩ (.slice A6 n6 c6)) (fun b => S b ∨ g0 ≤ b) room (l.take r ++ (⟨x, y⟩ : Pr Int) :: l.drop r) (.agg #[.int .i64 room, .slice A6 n6 c6]) ∧
               Only none_ w ((w14.setCell ⟨g0 + 1, 0, none⟩ (.int .i64 room)).setCell ⟨g0 + 1, 1, none⟩ (.slice A6 n6 c6))) := by
             have n6e : n6 = 0 + r + 1 + (n5 - r) := by obtain ⟨_, _, e, _⟩ := Cel.of_own hown6; injection e
             have o7 : Only (one (g0 + 1)) w14 ((w14.setCell ⟨g0 + 1, 0, none⟩ (.int .i64 room)).setCell ⟨g0 + 1, 1, none⟩ (.slice A6 n6 c6)) := ((Only.refl (one (g0 + 1)) w14).setCell (p := ⟨g0 + 1, 0, none⟩) (.inl (show one (g0 + 1) (g0 + 1) from rfl)) _).setCell (p := ⟨g0 + 1, 1, none⟩) (.inl (show one (g0 + 1) (g0 + 1) from rfl)) _
             refine ⟨⟨A6, c6, by rw [HFL.out.2, ← n6e], ?_⟩, O6.out.trans' o7 (fun k hk e => by have e' : k = g0 + 1 := e; have := HG.out; omega)⟩
             rw [HFL.out.1, HFL.out.2]
             have h8 := (Cel.of_own hown6).only o7 (fun b hb e => own_blk_ne hown6 C6 (by decide) (by rw [hb, show b = g0 + 1 from e]))
             rw [n6e] at h8 ⊢
             exact h8.mono (fun b _ hb => .inr (by have := (hown6.lt b (by rw [n6e]; exact hb)).1; have := G7.out; omega))
           clear hown6 hgrow6 hmv6 o56 C6 B6))
      all_goals go_wp2_with fail
      all_goals (try dsimp only [Act.put, List.getElem_toArray, List.getElem_cons_succ, List.getElem_cons_zero])
      all_goals (try go_simp)
      all_goals (refine bodyPost_ret (results_cell_tmp rfl _ _ (g0 + 1) 31 _ _ rfl D6.out Try.underlying31 rfl (by kernel_rfl) _ rfl) rfl ?_; exact ⟨_, rfl, F6.out.1, F6.out.2⟩)
end Go.Proofs.Ytdmopjnmfjmhkaa
