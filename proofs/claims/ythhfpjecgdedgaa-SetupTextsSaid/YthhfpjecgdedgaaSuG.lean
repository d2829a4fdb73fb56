/- The call of SetupChecks answers yes, and changes nothing that was there. The statement itself is proved in another text. -/
import Derived.Test.YthhfpjecgdedgaaSuF
namespace Go.Proofs.Ythhfpjecgdedgaa
open Go.RowKit
set_option maxRecDepth 100000
set_option linter.all false

/-- Two boxes of twenty numbers, all else as in B. -/
structure Cd (B : World) (g h : Nat) (s t : TypeId) (c d : Nat → Int) (w : World) : Prop where
  x : Blk w g s #[.int .i64 (c 0), .int .i64 (c 1), .int .i64 (c 2), .int .i64 (c 3), .int .i64 (c 4), .int .i64 (c 5), .int .i64 (c 6), .int .i64 (c 7), .int .i64 (c 8), .int .i64 (c 9), .int .i64 (c 10), .int .i64 (c 11), .int .i64 (c 12), .int .i64 (c 13), .int .i64 (c 14), .int .i64 (c 15), .int .i64 (c 16), .int .i64 (c 17), .int .i64 (c 18), .int .i64 (c 19)]
  y : Blk w h t #[.int .i64 (d 0), .int .i64 (d 1), .int .i64 (d 2), .int .i64 (d 3), .int .i64 (d 4), .int .i64 (d 5), .int .i64 (d 6), .int .i64 (d 7), .int .i64 (d 8), .int .i64 (d 9), .int .i64 (d 10), .int .i64 (d 11), .int .i64 (d 12), .int .i64 (d 13), .int .i64 (d 14), .int .i64 (d 15), .int .i64 (d 16), .int .i64 (d 17), .int .i64 (d 18), .int .i64 (d 19)]
  ho : Only none_ B w
theorem Cd.keep {B w w' : World} {g h : Nat} {s t : TypeId} {c d : Nat → Int} (b : Cd B g h s t c d w) (o : Only none_ w w') : Cd B g h s t c d w' := ⟨b.x.only o (fun h => h), b.y.only o (fun h => h), b.ho.trans o⟩

set_option maxHeartbeats 12800000 in
theorem checks_any (c : Nat → Int) (w : World) :
    Calls Try.prog 3 #[.agg #[.int .i64 (c 0), .int .i64 (c 1), .int .i64 (c 2), .int .i64 (c 3), .int .i64 (c 4), .int .i64 (c 5), .int .i64 (c 6), .int .i64 (c 7), .int .i64 (c 8), .int .i64 (c 9), .int .i64 (c 10), .int .i64 (c 11), .int .i64 (c 12), .int .i64 (c 13), .int .i64 (c 14), .int .i64 (c 15), .int .i64 (c 16), .int .i64 (c 17), .int .i64 (c 18), .int .i64 (c 19)]] w fun E w' => E = .returned (.bool true) ∧ Below w.heap.size w w' := by
  have BX := Lib.hid (Cb.new w 23 c)
  have O0 := Lib.hid ((Only.refl none_ w).alloc (.cells #[.int .i64 (c 0), .int .i64 (c 1), .int .i64 (c 2), .int .i64 (c 3), .int .i64 (c 4), .int .i64 (c 5), .int .i64 (c 6), .int .i64 (c 7), .int .i64 (c 8), .int .i64 (c 9), .int .i64 (c 10), .int .i64 (c 11), .int .i64 (c 12), .int .i64 (c 13), .int .i64 (c 14), .int .i64 (c 15), .int .i64 (c 16), .int .i64 (c 17), .int .i64 (c 18), .int .i64 (c 19)] 23))
  have H1 := Lib.hid (fun w => su_check c w)
  have H2 := Lib.hid (fun w => rf_checkc c w)
  have H3 := Lib.hid (fun w => su_bound c w)
  have H4 := Lib.hid (fun w => rf_bound c w)
  have H5 := Lib.hid (fun w => su_long c w)
  have H6 := Lib.hid (fun w => rf_long c w)
  have H7 := Lib.hid (fun w => su_roomy c w)
  have H8 := Lib.hid (fun w => rf_roomy c w)
  have H9 := Lib.hid (fun w => su_steps c w)
  have H10 := Lib.hid (fun w => rf_steps c w)
  generalize suPlace c = p at *
  generalize suCode c = q at *
  generalize (suBound c).1 = b1 at *
  generalize (suBound c).2 = b2 at *
  generalize (suLong c).1 = l1 at *
  generalize (suLong c).2 = l2 at *
  generalize suRoomy c = ro at *
  generalize suSteps c = st at *
  have e1 : (p != p) = false := by simp
  have e2 : (q != q) = false := by simp
  have e3 : (b1 == b1) = true := by simp
  have e4 : (b2 == b2) = true := by simp
  have e5 : (l1 == l1) = true := by simp
  have e6 : (l2 == l2) = true := by simp
  have e7 : (ro == ro) = true := by simp
  have e8 : (st == st) = true := by simp
  go_enter Try.func3, Try.ntmps3
  go_wp2_with (first
    | (refine wpl_load rfl 23 _ rfl w.heap.size rfl _ #[.int .i64 (c 0), .int .i64 (c 1), .int .i64 (c 2), .int .i64 (c 3), .int .i64 (c 4), .int .i64 (c 5), .int .i64 (c 6), .int .i64 (c 7), .int .i64 (c 8), .int .i64 (c 9), .int .i64 (c 10), .int .i64 (c 11), .int .i64 (c 12), .int .i64 (c 13), .int .i64 (c 14), .int .i64 (c 15), .int .i64 (c 16), .int .i64 (c 17), .int .i64 (c 18), .int .i64 (c 19)] _ (by first | exact D5.out.x | exact D4.out.x | exact B1.out.x) Try.underlying23 rfl (by kernel_rfl) ?_)
    | (refine wpl_load rfl 26 _ rfl w2.heap.size rfl _ #[.int .i64 (c 0), .int .i64 (c 1), .int .i64 (c 2), .int .i64 (c 3), .int .i64 (c 4), .int .i64 (c 5), .int .i64 (c 6), .int .i64 (c 7), .int .i64 (c 8), .int .i64 (c 9), .int .i64 (c 10), .int .i64 (c 11), .int .i64 (c 12), .int .i64 (c 13), .int .i64 (c 14), .int .i64 (c 15), .int .i64 (c 16), .int .i64 (c 17), .int .i64 (c 18), .int .i64 (c 19)] _ (by first | exact D4.out.y | exact D3.out.y) Try.underlying26 rfl (by kernel_rfl) ?_)
    | (refine wpl_new rfl rfl 26 rfl _ _ rfl #[.int .i64 (c 0), .int .i64 (c 1), .int .i64 (c 2), .int .i64 (c 3), .int .i64 (c 4), .int .i64 (c 5), .int .i64 (c 6), .int .i64 (c 7), .int .i64 (c 8), .int .i64 (c 9), .int .i64 (c 10), .int .i64 (c 11), .int .i64 (c 12), .int .i64 (c 13), .int .i64 (c 14), .int .i64 (c 15), .int .i64 (c 16), .int .i64 (c 17), .int .i64 (c 18), .int .i64 (c 19)] rfl rfl (by kernel_rfl) (cf_one c) ?_)
    | (go_at_call 8; refine (su_speaks _).mono ?_; rintro E w1 ⟨rfl, o1⟩; have B1 := Lib.hid (BX.out.keep o1); clear o1)
    | (go_at_call 9; refine (lw_of c _).mono ?_; rintro E w2 ⟨rfl, o2⟩
       have B2 := Lib.hid (B1.out.keep o2)
       have D3 : Hid (Cd w w.heap.size w2.heap.size 23 26 c c (w2.alloc (.cells #[.int .i64 (c 0), .int .i64 (c 1), .int .i64 (c 2), .int .i64 (c 3), .int .i64 (c 4), .int .i64 (c 5), .int .i64 (c 6), .int .i64 (c 7), .int .i64 (c 8), .int .i64 (c 9), .int .i64 (c 10), .int .i64 (c 11), .int .i64 (c 12), .int .i64 (c 13), .int .i64 (c 14), .int .i64 (c 15), .int .i64 (c 16), .int .i64 (c 17), .int .i64 (c 18), .int .i64 (c 19)] 26))) := ⟨B2.out.x.alloc _, Blk.new w2 _ _, B2.out.ho.alloc _⟩
       clear o2)
    | (go_at_call 10; refine (H1.out _).mono ?_; rintro E w3 ⟨rfl, o3⟩; have D4 := Lib.hid (D3.out.keep o3); clear o3)
    | (go_at_call 11; refine (H2.out _).mono ?_; rintro E w4 ⟨rfl, o4⟩; have D5 := Lib.hid (D4.out.keep o4); clear o4))
  have D6 := Lib.hid (D5.out.keep (Only.refl none_ w4).drew)
  generalize w2.heap.size = h at *
  generalize hg : w.heap.size = g at *
  (refine wp_region_steady (fun w' => Cd w g h 23 26 c c w') 28 (by kernel_rfl) (by kernel_rfl) (D6.out) ?_; simp only [List.take_succ_cons, List.take_zero, List.drop_succ_cons, List.drop_zero])
  repeat (first
    | (refine sd_value (v := ?_) (by rfl) (fun w0 hS => ?_) ?_; rotate_left; (· ((have n1 := eq_list c w0); (have n2 := eq_cfg c w0); (have n3 := eq_opts (c 0) (c 1) (c 2) (c 3) (c 4) w0); go_simp; try (with_reducible rfl))); try simp only [Act.put, List.setIfInBounds_toArray, List.set_cons_zero, List.set_cons_succ])
    | (refine sd_load (by rfl) 23 _ rfl g rfl _ #[.int .i64 (c 0), .int .i64 (c 1), .int .i64 (c 2), .int .i64 (c 3), .int .i64 (c 4), .int .i64 (c 5), .int .i64 (c 6), .int .i64 (c 7), .int .i64 (c 8), .int .i64 (c 9), .int .i64 (c 10), .int .i64 (c 11), .int .i64 (c 12), .int .i64 (c 13), .int .i64 (c 14), .int .i64 (c 15), .int .i64 (c 16), .int .i64 (c 17), .int .i64 (c 18), .int .i64 (c 19)] _ (fun w hS => Cd.x hS) Try.underlying23 rfl (by kernel_rfl) ?_; try simp only [Act.put, List.setIfInBounds_toArray, List.set_cons_zero, List.set_cons_succ])
    | (refine sd_load (by rfl) 26 _ rfl h rfl _ #[.int .i64 (c 0), .int .i64 (c 1), .int .i64 (c 2), .int .i64 (c 3), .int .i64 (c 4), .int .i64 (c 5), .int .i64 (c 6), .int .i64 (c 7), .int .i64 (c 8), .int .i64 (c 9), .int .i64 (c 10), .int .i64 (c 11), .int .i64 (c 12), .int .i64 (c 13), .int .i64 (c 14), .int .i64 (c 15), .int .i64 (c 16), .int .i64 (c 17), .int .i64 (c 18), .int .i64 (c 19)] _ (fun w hS => Cd.y hS) Try.underlying26 rfl (by kernel_rfl) ?_; try simp only [Act.put, List.setIfInBounds_toArray, List.set_cons_zero, List.set_cons_succ])
    | (refine sd_skip (by rfl) ?_; try simp only [Act.put, List.setIfInBounds_toArray, List.set_cons_zero, List.set_cons_succ])
    | (refine sd_call (v := ?_) (f := 12) (args := ?_) (by rfl) (fun w0 hS => ?_) (fun w0 hS => ?_) ?_; rotate_left 2; (· (skip; go_simp; try (with_reducible rfl))); (· (refine (su_list c _).mono ?_; rintro E w9 ⟨rfl, o9⟩; refine ⟨?_, hS.keep o9⟩; rfl)); try simp only [Act.put, List.setIfInBounds_toArray, List.set_cons_zero, List.set_cons_succ])
    | (refine sd_call (v := ?_) (f := 13) (args := ?_) (by rfl) (fun w0 hS => ?_) (fun w0 hS => ?_) ?_; rotate_left 2; (· (skip; go_simp; try (with_reducible rfl))); (· (refine (su_of c _).mono ?_; rintro E w9 ⟨rfl, o9⟩; refine ⟨?_, hS.keep o9⟩; rfl)); try simp only [Act.put, List.setIfInBounds_toArray, List.set_cons_zero, List.set_cons_succ])
    | (refine sd_call (v := ?_) (f := 14) (args := ?_) (by rfl) (fun w0 hS => ?_) (fun w0 hS => ?_) ?_; rotate_left 2; (· (skip; go_simp; try (with_reducible rfl))); (· (refine (su_options c _).mono ?_; rintro E w9 ⟨rfl, o9⟩; refine ⟨?_, hS.keep o9⟩; rfl)); try simp only [Act.put, List.setIfInBounds_toArray, List.set_cons_zero, List.set_cons_succ])
    | (refine sd_call (v := ?_) (f := 16) (args := ?_) (by rfl) (fun w0 hS => ?_) (fun w0 hS => ?_) ?_; rotate_left 2; (· (skip; go_simp; try (with_reducible rfl))); (· (refine (rf_options c _).mono ?_; rintro E w9 ⟨rfl, o9⟩; refine ⟨?_, hS.keep o9⟩; rfl)); try simp only [Act.put, List.setIfInBounds_toArray, List.set_cons_zero, List.set_cons_succ])
    | (refine sd_call (v := ?_) (f := 15) (args := ?_) (by rfl) (fun w0 hS => ?_) (fun w0 hS => ?_) ?_; rotate_left 2; (· (skip; go_simp; try (with_reducible rfl))); (· (refine (op_of _ _ _ _ _ _).mono ?_; rintro E w9 ⟨rfl, o9⟩; refine ⟨?_, hS.keep o9⟩; rfl)); try simp only [Act.put, List.setIfInBounds_toArray, List.set_cons_zero, List.set_cons_succ]))
  refine sd_nil ?_
  intro w5 t5
  have D7 := Lib.hid t5
  clear t5
  go_wp2_with (first
    | (refine wpl_load rfl 23 _ rfl g rfl _ #[.int .i64 (c 0), .int .i64 (c 1), .int .i64 (c 2), .int .i64 (c 3), .int .i64 (c 4), .int .i64 (c 5), .int .i64 (c 6), .int .i64 (c 7), .int .i64 (c 8), .int .i64 (c 9), .int .i64 (c 10), .int .i64 (c 11), .int .i64 (c 12), .int .i64 (c 13), .int .i64 (c 14), .int .i64 (c 15), .int .i64 (c 16), .int .i64 (c 17), .int .i64 (c 18), .int .i64 (c 19)] _ (by first | exact E4.out.x | exact E3.out.x | exact E2.out.x | exact E1.out.x | exact D7.out.x) Try.underlying23 rfl (by kernel_rfl) ?_)
    | (refine wpl_load rfl 26 _ rfl h rfl _ #[.int .i64 (c 0), .int .i64 (c 1), .int .i64 (c 2), .int .i64 (c 3), .int .i64 (c 4), .int .i64 (c 5), .int .i64 (c 6), .int .i64 (c 7), .int .i64 (c 8), .int .i64 (c 9), .int .i64 (c 10), .int .i64 (c 11), .int .i64 (c 12), .int .i64 (c 13), .int .i64 (c 14), .int .i64 (c 15), .int .i64 (c 16), .int .i64 (c 17), .int .i64 (c 18), .int .i64 (c 19)] _ (by first | exact E4.out.y | exact E3.out.y | exact E2.out.y | exact E1.out.y | exact D7.out.y) Try.underlying26 rfl (by kernel_rfl) ?_)
    | (go_at_call 17; refine (H3.out _).mono ?_; rintro E w6 ⟨rfl, o6⟩; have E1 := Lib.hid (D7.out.keep o6); clear o6)
    | (go_at_call 18; refine (H4.out _).mono ?_; rintro E w7 ⟨rfl, o7⟩; have E2 := Lib.hid (E1.out.keep o7); clear o7)
    | (go_at_call 19; refine (H5.out _).mono ?_; rintro E w8 ⟨rfl, o8⟩; have E3 := Lib.hid (E2.out.keep o8); clear o8)
    | (go_at_call 20; refine (H6.out _).mono ?_; rintro E w9 ⟨rfl, o9⟩; have E4 := Lib.hid (E3.out.keep o9); clear o9))
  have D8 := Lib.hid (E4.out.keep (Only.refl none_ w9).drew)
  (refine wp_region_steady (fun w' => Cd w g h 23 26 c c w') 33 (by kernel_rfl) (by kernel_rfl) (D8.out) ?_; simp only [List.take_succ_cons, List.take_zero, List.drop_succ_cons, List.drop_zero])
  repeat (first
    | (refine sd_value (v := ?_) (by rfl) (fun w0 hS => ?_) ?_; rotate_left; (· (skip; go_simp; try (with_reducible rfl))); try simp only [Act.put, List.setIfInBounds_toArray, List.set_cons_zero, List.set_cons_succ])
    | (refine sd_load (by rfl) 23 _ rfl g rfl _ #[.int .i64 (c 0), .int .i64 (c 1), .int .i64 (c 2), .int .i64 (c 3), .int .i64 (c 4), .int .i64 (c 5), .int .i64 (c 6), .int .i64 (c 7), .int .i64 (c 8), .int .i64 (c 9), .int .i64 (c 10), .int .i64 (c 11), .int .i64 (c 12), .int .i64 (c 13), .int .i64 (c 14), .int .i64 (c 15), .int .i64 (c 16), .int .i64 (c 17), .int .i64 (c 18), .int .i64 (c 19)] _ (fun w hS => Cd.x hS) Try.underlying23 rfl (by kernel_rfl) ?_; try simp only [Act.put, List.setIfInBounds_toArray, List.set_cons_zero, List.set_cons_succ])
    | (refine sd_load (by rfl) 26 _ rfl h rfl _ #[.int .i64 (c 0), .int .i64 (c 1), .int .i64 (c 2), .int .i64 (c 3), .int .i64 (c 4), .int .i64 (c 5), .int .i64 (c 6), .int .i64 (c 7), .int .i64 (c 8), .int .i64 (c 9), .int .i64 (c 10), .int .i64 (c 11), .int .i64 (c 12), .int .i64 (c 13), .int .i64 (c 14), .int .i64 (c 15), .int .i64 (c 16), .int .i64 (c 17), .int .i64 (c 18), .int .i64 (c 19)] _ (fun w hS => Cd.y hS) Try.underlying26 rfl (by kernel_rfl) ?_; try simp only [Act.put, List.setIfInBounds_toArray, List.set_cons_zero, List.set_cons_succ])
    | (refine sd_skip (by rfl) ?_; try simp only [Act.put, List.setIfInBounds_toArray, List.set_cons_zero, List.set_cons_succ])
    | (refine sd_call (v := ?_) (f := 21) (args := ?_) (by rfl) (fun w0 hS => ?_) (fun w0 hS => ?_) ?_; rotate_left 2; (· (skip; go_simp; try (with_reducible rfl))); (· (refine (H7.out _).mono ?_; rintro E w9 ⟨rfl, o9⟩; refine ⟨?_, hS.keep o9⟩; rfl)); try simp only [Act.put, List.setIfInBounds_toArray, List.set_cons_zero, List.set_cons_succ])
    | (refine sd_call (v := ?_) (f := 22) (args := ?_) (by rfl) (fun w0 hS => ?_) (fun w0 hS => ?_) ?_; rotate_left 2; (· (skip; go_simp; try (with_reducible rfl))); (· (refine (H8.out _).mono ?_; rintro E w9 ⟨rfl, o9⟩; refine ⟨?_, hS.keep o9⟩; rfl)); try simp only [Act.put, List.setIfInBounds_toArray, List.set_cons_zero, List.set_cons_succ])
    | (refine sd_call (v := ?_) (f := 23) (args := ?_) (by rfl) (fun w0 hS => ?_) (fun w0 hS => ?_) ?_; rotate_left 2; (· (skip; go_simp; try (with_reducible rfl))); (· (refine (H9.out _).mono ?_; rintro E w9 ⟨rfl, o9⟩; refine ⟨?_, hS.keep o9⟩; rfl)); try simp only [Act.put, List.setIfInBounds_toArray, List.set_cons_zero, List.set_cons_succ])
    | (refine sd_call (v := ?_) (f := 24) (args := ?_) (by rfl) (fun w0 hS => ?_) (fun w0 hS => ?_) ?_; rotate_left 2; (· (skip; go_simp; try (with_reducible rfl))); (· (refine (H10.out _).mono ?_; rintro E w9 ⟨rfl, o9⟩; refine ⟨?_, hS.keep o9⟩; rfl)); try simp only [Act.put, List.setIfInBounds_toArray, List.set_cons_zero, List.set_cons_succ]))
  refine sd_nil ?_
  intro w10 t10
  go_wp2_with fail
  go_ret
  exact ⟨rfl, t10.ho.below (by omega) (fun k hk => hk.elim)⟩
end Go.Proofs.Ythhfpjecgdedgaa
