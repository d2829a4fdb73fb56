/- slices.Sort of a slice of the call's own; slices.Concat of two; what Known does. No statement of the seat is proved here. -/
import Derived.Test.YtiigebdmkibnbaaVwE
import Derived.Test.YtiigebdmkibnbaaFrt
import Derived.Sort.OwnSortedInts
import Derived.Lib.AppendZeros
namespace Go.Proofs.Ytiigebdmkibnbaa
open Go.RowKit
set_option maxRecDepth 100000
set_option linter.all false

theorem vb_sort (base : Nat) (v : Value) (l : List Int) (w : World) (h : w.ownsRow base 3 1 v l.length (nums l)) (hl : l.length ≤ 4096) :
    Calls Try.prog 39 #[v] w fun e w' => e = .returned (.tuple #[]) ∧ w'.ownsRow base 3 1 v l.length (nums (l.mergeSort fun x y => decide (x ≤ y))) ∧ Only (ownb v) w w' := by
  rcases h.2 with ⟨rfl, h0⟩ | ⟨g, cap, cur, rfl, hb, hh, hnc, hcm, hcs, htk⟩
  · obtain rfl := List.eq_nil_of_length_eq_zero h0
    refine (AnyM.slices_Sort_int_none sortI none 0 w).mono ?_
    rintro e w' ⟨rfl, rfl⟩
    exact ⟨rfl, by simpa using h, Only.refl _ _⟩
  · have hH := holds_of_blockI (ss := l) hh (by rw [Nat.mul_one] at htk; exact htk)
    refine (AnyM.slices_Sort_int sortI g 0 cap l w hH (Blk.lt (t := 3) hh) (by omega)).mono ?_
    rintro e w' ⟨rfl, n, os, rfl⟩
    refine ⟨rfl, ownsRow_sortedI (List.length_mergeSort _) hb hh hnc hcm hcs, (Only.refl (ownb _) w).grown (grownBy_sortedI _) (fun k hk => .inl hk)⟩

set_option maxHeartbeats 1600000 in
theorem growZ (n : Nat) (hn : n ≤ 1000000) (w : World) :
    Calls Try.prog 48 #[.slice none 0 0, .int .i64 (n : Int)] w fun e w' => ∃ A c, e = .returned (.slice A 0 c) ∧ w'.ownsRow w.heap.size 3 1 (.slice A 0 c) 0 [] ∧ Only none_ w w' := by
  obtain ⟨i0, hi0, hz0, hz1, hz2⟩ := info_parts int_info
  rcases Nat.eq_zero_or_pos n with h0 | h0
  · subst h0
    go_enter Try.func48, Try.ntmps48
    go_wp2_with fail
    go_ret
    exact ⟨_, _, rfl, World.ownsRow_nil _ _ _ _, Only.refl _ _⟩
  · have hr := fun ty => Lib.run_append_nil_zeros (P := Try.prog) w 22 3 ty 3 i0 (.int .i64 0) .i64 .i64 Try.underlying22 Try.underlying3 hi0 hz0 n h0 (by omega) (by omega) (by rw [hz2]; omega)
    obtain ⟨cap, hcap⟩ : ∃ c, grownCap w n 0 3 = c := ⟨_, rfl⟩
    have hge := grownCap_ge w n 0 3
    have hle := grownCap_le_maxLen w n 0 3 (by simp only [maxLen]; omega)
    rw [hcap] at hge hle hr
    obtain ⟨M, hM⟩ : ∃ M, Builtin.zeroCells (Value.int .i64 0).cells n ++ Builtin.zeroCells (Value.int .i64 0).cells (cap - n) = M := ⟨_, rfl⟩
    have hMs : M.size = cap := by
      rw [← hM, Array.size_append, size_zeroCells, size_zeroCells]
      simp [Value.cells]
      try omega
    rw [hM] at hr
    have HM := Lib.hid hMs
    have HL := Lib.hid hle
    have hc0 : (0 : Int) ≤ (cap : Int) := by omega
    have hn0 : decide ((n : Int) < 0) = false := by rw [decide_eq_false_iff_not]; omega
    have hnp : decide ((0 : Int) < (n : Int)) = true := by simp; omega
    clear hM hMs hle hge hcap
    go_enter Try.func48, Try.ntmps48
    go_wp2_with (first
      | (at_builtin; refine Lib.wpList_append_run _ rfl _ _ _ _ rfl _ _ rfl rfl _ _ (hr _) ?_))
    go_ret
    exact ⟨_, _, rfl, World.ownsRow_made w.drew M cap (Nat.le_refl _) HL.out (by have := HM.out; omega), ((Only.refl none_ w).drew).alloc _⟩

set_option maxHeartbeats 6400000 in
theorem concat2 (g n1 c1 n2 c2 : Nat) (A1 A2 : Option Addr) (a b : List Int) (S T : Nat → Prop) (w : World) (hg : Blk w g 22 #[.slice A1 n1 c1, .slice A2 n2 c2]) (h1 : Nm w S (.slice A1 n1 c1) a) (h2 : Nm w T (.slice A2 n2 c2) b) (l1 : a.length ≤ 4096) (l2 : b.length ≤ 4096) :
    Calls Try.prog 38 #[.slice (some ⟨g, 0, none⟩) 2 2] w fun e w' => ∃ v, e = .returned v ∧ w'.ownsRow w.heap.size 3 1 v (a ++ b).length (nums (a ++ b)) ∧ Only none_ w w' := by
  obtain ⟨i0, hi0, hz0, hz1, hz2⟩ := info_parts int_info
  have q0 := hg.cell_ (i := 0) rfl
  have q1 := hg.cell_ (i := 1) rfl
  have e1 := h1.len
  have e2 := h2.len
  have hm1 : n1 ≤ 4096 := by omega
  have hm2 : n2 ≤ 4096 := by omega
  have HE1 := Lib.hid e1
  have HE2 := Lib.hid e2
  have h1c : Cel w S (.slice A1 n1 c1) n1 1 (nums a) := by rw [e1]; rw [e1] at h1; exact h1
  have h2c : Cel w T (.slice A2 n2 c2) n2 1 (nums b) := by rw [e2]; rw [e2] at h2; exact h2
  have HC1 := Lib.hid (fun w' (o : Only none_ w w') => h1c.only o (fun _ _ e => e))
  have HC2 := Lib.hid (fun w' (o : Only none_ w w') => h2c.only o (fun _ _ e => e))
  have HG := Lib.hid hg
  have HN : Hid (0 + n1 ≤ maxLen ∧ (0 + n1) * 8 ≤ 140737488355328 ∧ n1 + n2 ≤ maxLen ∧ (n1 + n2) * 8 ≤ 140737488355328) := by simp only [Hid, maxLen]; omega
  have k1 := nums_one a
  have k2 := nums_one b
  have hw1 : IntKind.i64.wrap ((n1 : Int) + (n2 : Int)) = ((n1 + n2 : Nat) : Int) := by rw [IntWalk.i64_in _ (by omega)]; omega
  have hd1 : decide ((n1 : Int) < 0) = false := by rw [decide_eq_false_iff_not]; omega
  have hd2 : decide (((n1 + n2 : Nat) : Int) < 0) = false := by rw [decide_eq_false_iff_not]; omega
  obtain ⟨m, hm⟩ : ∃ m, n1 + n2 = m := ⟨_, rfl⟩
  have HM := Lib.hid hm
  rw [hm] at hw1 hd2
  have hmm : m ≤ 1000000 := by omega
  clear hg h1 h2 e1 e2 h1c h2c l1 l2 hm
  have tok1 : True := trivial
  go_enter Try.func38, Try.ntmps38
  go_wp2_with fail
  refine wp_loop_rounds 3 ?_
  rw [rounds_succ]
  go_wp2_with fail
  rw [rounds_succ]
  go_wp2_with fail
  rw [rounds_succ]
  go_wp2_with (first
    | (go_at_call 48; refine (growZ m hmm _).mono ?_; rintro E w1 ⟨A3, c3, rfl, ow3, o3⟩
       have H3 : Hid (w1.ownsRow w.heap.size 3 1 (.slice A3 0 c3) 0 [] ∧ Only none_ w w1) := ⟨ow3, o3⟩
       have r0 := (HG.out.only o3 (fun e => e)).cell_ (i := 0) rfl
       clear ow3 o3))
  refine wp_loop_rounds 3 ?_
  rw [rounds_succ]
  go_wp2_with (first
    | (at_builtin; refine wpList_append_cel _ rfl (.tmp 31) (.tmp 32) 22 rfl w.heap.size 3 i0 _ 1 8 Try.underlying22 hi0 hz0 hz1 hz2 rfl (by omega) _ 0 [] rfl H3.out.1 _ _ n1 (nums a) rfl (HC1.out _ H3.out.2) k1 HN.out.1 HN.out.2.1 H3.out.2.size ?_
       intro A5 n5 c5 w5 hown5 hgrow5 hmv5
       have H5 : Hid (w5.ownsRow w.heap.size 3 1 (.slice A5 n5 c5) n1 (nums a) ∧ Only none_ w w5) := ⟨by simpa using hown5, H3.out.2.grown hgrow5 (fun k hk => .inr (H3.out.1.lt k hk).1)⟩
       have r1 := (HG.out.only H5.out.2 (fun e => e)).cell_ (i := 1) rfl
       clear hown5 hgrow5 hmv5))
  rw [rounds_succ]
  go_wp2_with (first
    | (at_builtin; refine wpList_append_cel _ rfl (.tmp 31) (.tmp 32) 22 rfl w.heap.size 3 i0 _ 1 8 Try.underlying22 hi0 hz0 hz1 hz2 rfl (by omega) _ n1 (nums a) rfl H5.out.1 _ _ n2 (nums b) rfl (HC2.out _ H5.out.2) k2 HN.out.2.2.1 HN.out.2.2.2 H5.out.2.size ?_
       intro A6 n6 c6 w6 hown6 hgrow6 hmv6
       have H6 : Hid (w6.ownsRow w.heap.size 3 1 (.slice A6 n6 c6) (n1 + n2) (nums a ++ nums b) ∧ Only none_ w w6) := ⟨hown6, H5.out.2.grown hgrow6 (fun k hk => .inr (H5.out.1.lt k hk).1)⟩
       clear hown6 hgrow6 hmv6))
  rw [rounds_succ]
  go_wp2_with fail
  go_ret
  refine ⟨_, rfl, ?_, H6.out.2⟩
  rw [List.length_append, ← HE1.out, ← HE2.out, nums_append]
  exact H6.out.1

set_option maxHeartbeats 3200000 in
theorem vs_known (B d : Nat) (s : Vm) (vA vP : Value) (dd : Nat) (vd : Value) (zs : List Int) (w : World) (h : Vs w B d s vA vP dd vd zs) :
    Calls Try.prog 19 #[.pointer (some ⟨d, 0, none⟩)] w fun e w' => ∃ v', e = .returned v' ∧ w'.ownsRow w.heap.size 3 1 v' (vkn s).length (nums (vkn s)) ∧ Only none_ w w' := by
  have H := Lib.hid h
  have hla := rl_le h.ok.ua
  have hlp := rl_le h.ok.up
  obtain ⟨A1, n1, c1, e1⟩ := own_sl h.oa
  obtain ⟨A2, n2, c2, e2⟩ := own_sl h.op
  subst e1 e2
  have HLE : Hid (s.act.length ≤ 12 ∧ s.pas.length ≤ 12) := ⟨hla, hlp⟩
  clear h hla hlp
  go_enter Try.func19, Try.ntmps19
  go_wp2_with fail
  (refine wp_region_free_tail (fun w' => Only none_ w w') (Only none_) (F := ?_) (by kernel_rfl) 12 19 (by rfl) (by kernel_rfl) (fun x => ?_) ((Only.refl none_ w).drew) ?_; rotate_left; (· (simp only [List.take_succ_cons, List.take_zero, putsL, Act.put, List.setIfInBounds_toArray, List.set_cons_zero, List.set_cons_succ, Nat.reduceAdd]; exact rfl)); simp only [List.take_succ_cons, List.take_zero, List.drop_succ_cons, List.drop_zero])
  repeat (first
    | ((first | refine fr_value (c := ?_) (by rfl) (fun w => Only.refl none_ w) (fun x w0 hS hk => ?_) ?_ | refine fr_value_if (c := ?_) (by rfl) (by rfl) (by rfl) (fun w => Only.refl none_ w) (fun x w0 hS hk => ?_) ?_); rotate_left; (· (have hk2 := hk; (try simp [knAll, Region.binds] at hk2); have t0 := (H.out.bk.only hS (fun h => h)).cell_ (i := 1) rfl; have t1 := (H.out.bk.only hS (fun h => h)).cell_ (i := 3) rfl; go_simp; try (with_reducible rfl))); try simp only [List.nil_append, List.cons_append]))
  ((first | refine fr_some (fun v X => ∃ b, v = .slice (some ⟨b, 0, none⟩) 2 2 ∧ Blk X b 22 #[.slice A1 n1 c1, .slice A2 n2 c2]) (fun _ _ _ _ _ r ⟨b, h1, h2⟩ => ⟨b, h1, h2.only r (fun h => h)⟩) (by rfl) (fun x w0 hS hk => ?_) ?_ | refine fr_some_if (fun v X => ∃ b, v = .slice (some ⟨b, 0, none⟩) 2 2 ∧ Blk X b 22 #[.slice A1 n1 c1, .slice A2 n2 c2]) (fun _ _ _ _ _ r ⟨b, h1, h2⟩ => ⟨b, h1, h2.only r (fun h => h)⟩) (by rfl) (by rfl) (by rfl) (fun x w0 hS hk => ?_) ?_); (· (have hk2 := hk; (try simp [knAll, Region.binds] at hk2); skip; refine got_value (v := ?_) (w' := ?_) (by go_simp; (first | with_reducible rfl | (refine ⟨?_, ?_⟩; with_reducible rfl; with_reducible rfl))) ?_; exact ⟨⟨_, rfl, Blk.new _ _ _⟩, hS.alloc _, (Only.refl none_ _).alloc _⟩)); try simp only [List.nil_append, List.cons_append])
  ((first | refine fr_some (fun v X => X.ownsRow w.heap.size 3 1 v (s.act ++ s.pas).length (nums (s.act ++ s.pas))) (fun _ _ _ _ _ r h => owns_only h r (fun _ _ e => e)) (by rfl) (fun x w0 hS hk => ?_) ?_ | refine fr_some_if (fun v X => X.ownsRow w.heap.size 3 1 v (s.act ++ s.pas).length (nums (s.act ++ s.pas))) (fun _ _ _ _ _ r h => owns_only h r (fun _ _ e => e)) (by rfl) (by rfl) (by rfl) (fun x w0 hS hk => ?_) ?_); (· (have hk2 := hk; (try simp [knAll, Region.binds] at hk2); obtain ⟨b9, e9, bk9⟩ := kn_at (j := 10) (by rfl) hk (by rfl); refine got_call (f := 38) (args := ?_) (by go_simp; try (with_reducible rfl)) ?_; refine (concat2 b9 n1 c1 n2 c2 A1 A2 s.act s.pas _ _ _ bk9 ((H.out.keep hS).nwA.nm) ((H.out.keep hS).nwP.nm) (by have := HLE.out; omega) (by have := HLE.out; omega)).mono ?_; rintro E w8 ⟨v8, rfl, ow8, o8⟩; exact ⟨v8, rfl, owns_base ow8 hS.size, hS.trans o8, o8⟩)); try simp only [List.nil_append, List.cons_append])
  (refine fr_end ?_; intro x w9 hS hk)
  have ow9 := kn_end_at 11 hk (by rfl)
  rw [Nat.zero_add] at ow9
  generalize x 11 = v9 at ow9 ⊢
  obtain ⟨A9, n9, c9, e9⟩ := own_sl ow9
  subst e9
  have H9 : Hid (w9.ownsRow w.heap.size 3 1 (.slice A9 n9 c9) (s.act ++ s.pas).length (nums (s.act ++ s.pas)) ∧ Only none_ w w9 ∧ (s.act ++ s.pas).length ≤ 4096) := ⟨ow9, hS, by rw [List.length_append]; have := HLE.out; omega⟩
  clear ow9 hS hk
  go_wp2_with (first
    | (go_at_call 39; refine (vb_sort w.heap.size _ (s.act ++ s.pas) w9 H9.out.1 H9.out.2.2).mono ?_; rintro E w10 ⟨rfl, ow10, o10⟩
       have H10 : Hid (w10.ownsRow w.heap.size 3 1 (.slice A9 n9 c9) (vkn s).length (nums (vkn s)) ∧ Only none_ w w10) := ⟨by rw [vkn_len, ← List.length_append]; exact ow10, H9.out.2.1.trans' o10 (fun k hk e => by have := (H9.out.1.lt k e).1; omega)⟩
       clear ow10 o10))
  go_ret
  exact ⟨_, rfl, H10.out⟩
end Go.Proofs.Ytiigebdmkibnbaa
