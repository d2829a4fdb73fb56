/- The call of SetupReads answers yes, and changes nothing that was there. The statement itself is proved in another text. -/
import Derived.Test.YthhfpjecgdedgaaSuL
import Derived.Test.YthhfpjecgdedgaaSuR
namespace Go.Proofs.Ythhfpjecgdedgaa
open Go.RowKit
set_option maxRecDepth 100000
set_option linter.all false

set_option maxHeartbeats 6400000 in
theorem reads_long (A : Option Addr) (n q : Nat) (w : World) (hl : 200 < n) :
    Calls Try.prog 5 #[.slice A n q] w fun E w' => E = .returned (.bool true) ∧ Below w.heap.size w w' := by
  have O0 := Lib.hid (Only.refl none_ w)
  have hl2 : (200 : Int) < (n : Int) := by omega
  go_enter Try.func5, Try.ntmps5
  go_wp2_with (first
    | (go_at_call 8; refine (su_speaks _).mono ?_; rintro E w1 ⟨rfl, o1⟩; have O1 := Lib.hid (O0.out.trans o1); clear o1 O0; have O0 := O1; clear O1))
  go_ret
  exact ⟨rfl, O0.out.below (Nat.le_refl _) (fun k hk => hk.elim)⟩

set_option maxHeartbeats 6400000 in
theorem reads_short (A : Option Addr) (n q : Nat) (bs : List UInt8) (w : World) (hb : Byt w (fun b => b < w.heap.size) (.slice A n q) bs) (hl : n ≤ 200) :
    Calls Try.prog 5 #[.slice A n q] w fun E w' => E = .returned (.bool true) ∧ Below w.heap.size w w' := by
  have hn : n = bs.length := by obtain ⟨_, _, he, _⟩ := hb; injection he
  have HB := Lib.hid hb
  have HL : Hid (bs.length ≤ 140737488355328 ∧ n ≤ 100000) := ⟨by omega, by omega⟩
  have hl2 : ¬ (200 : Int) < (n : Int) := by omega
  have H1 : Hid (∀ w', Only none_ w w' → Calls Try.prog 27 #[.slice A n q] w' fun E w'' => E = .returned (.tuple #[.agg #[.int .i64 ((sdVal bs) 0), .int .i64 ((sdVal bs) 1), .int .i64 ((sdVal bs) 2), .int .i64 ((sdVal bs) 3), .int .i64 ((sdVal bs) 4), .int .i64 ((sdVal bs) 5), .int .i64 ((sdVal bs) 6), .int .i64 ((sdVal bs) 7), .int .i64 ((sdVal bs) 8), .int .i64 ((sdVal bs) 9), .int .i64 ((sdVal bs) 10), .int .i64 ((sdVal bs) 11), .int .i64 ((sdVal bs) 12), .int .i64 ((sdVal bs) 13), .int .i64 ((sdVal bs) 14), .int .i64 ((sdVal bs) 15), .int .i64 ((sdVal bs) 16), .int .i64 ((sdVal bs) 17), .int .i64 ((sdVal bs) 18), .int .i64 ((sdVal bs) 19)], .int .i64 (sdCode bs)]) ∧ Only none_ w' w'') :=
    fun w' o => su_decode A n q bs _ w' (hb.only o (fun _ _ h => h)) HL.out.1
  have H2 : Hid (∀ w', Only none_ w w' → Calls Try.prog 29 #[.slice A n q] w' fun E w'' => E = .returned (.tuple #[.agg #[.int .i64 ((sdVal bs) 0), .int .i64 ((sdVal bs) 1), .int .i64 ((sdVal bs) 2), .int .i64 ((sdVal bs) 3), .int .i64 ((sdVal bs) 4), .int .i64 ((sdVal bs) 5), .int .i64 ((sdVal bs) 6), .int .i64 ((sdVal bs) 7), .int .i64 ((sdVal bs) 8), .int .i64 ((sdVal bs) 9), .int .i64 ((sdVal bs) 10), .int .i64 ((sdVal bs) 11), .int .i64 ((sdVal bs) 12), .int .i64 ((sdVal bs) 13), .int .i64 ((sdVal bs) 14), .int .i64 ((sdVal bs) 15), .int .i64 ((sdVal bs) 16), .int .i64 ((sdVal bs) 17), .int .i64 ((sdVal bs) 18), .int .i64 ((sdVal bs) 19)], .int .i64 (sdCode bs)]) ∧ Only none_ w' w'') :=
    fun w' o => rf_decode13 A n q bs _ w' (hb.only o (fun _ _ h => h)) (fun b hb => Nat.lt_of_lt_of_le hb o.size) HL.out.2
  generalize sdVal bs = c at *
  generalize sdCode bs = z at *
  have hz : (z == z) = true := by simp
  clear hb hn
  have O0 := Lib.hid (Only.refl none_ w)
  go_enter Try.func5, Try.ntmps5
  go_wp2_with (first
    | (go_at_call 8; refine (su_speaks _).mono ?_; rintro E w1 ⟨rfl, o1⟩; have O1 := Lib.hid (O0.out.trans o1); clear o1)
    | (go_at_call 27; refine (H1.out _ O1.out).mono ?_; rintro E w2 ⟨rfl, o2⟩
       have O2 := Lib.hid ((O1.out.trans o2).alloc (.cells #[.int .i64 (c 0), .int .i64 (c 1), .int .i64 (c 2), .int .i64 (c 3), .int .i64 (c 4), .int .i64 (c 5), .int .i64 (c 6), .int .i64 (c 7), .int .i64 (c 8), .int .i64 (c 9), .int .i64 (c 10), .int .i64 (c 11), .int .i64 (c 12), .int .i64 (c 13), .int .i64 (c 14), .int .i64 (c 15), .int .i64 (c 16), .int .i64 (c 17), .int .i64 (c 18), .int .i64 (c 19)] 26))
       have B2 := Lib.hid (Blk.new w2 26 #[.int .i64 (c 0), .int .i64 (c 1), .int .i64 (c 2), .int .i64 (c 3), .int .i64 (c 4), .int .i64 (c 5), .int .i64 (c 6), .int .i64 (c 7), .int .i64 (c 8), .int .i64 (c 9), .int .i64 (c 10), .int .i64 (c 11), .int .i64 (c 12), .int .i64 (c 13), .int .i64 (c 14), .int .i64 (c 15), .int .i64 (c 16), .int .i64 (c 17), .int .i64 (c 18), .int .i64 (c 19)])
       clear o2)
    | (refine wpl_new rfl rfl 26 rfl _ _ rfl #[.int .i64 (c 0), .int .i64 (c 1), .int .i64 (c 2), .int .i64 (c 3), .int .i64 (c 4), .int .i64 (c 5), .int .i64 (c 6), .int .i64 (c 7), .int .i64 (c 8), .int .i64 (c 9), .int .i64 (c 10), .int .i64 (c 11), .int .i64 (c 12), .int .i64 (c 13), .int .i64 (c 14), .int .i64 (c 15), .int .i64 (c 16), .int .i64 (c 17), .int .i64 (c 18), .int .i64 (c 19)] rfl rfl (by kernel_rfl) (cf_one c) ?_)
    | (go_at_call 29; refine (H2.out _ O2.out).mono ?_; rintro E w3 ⟨rfl, o3⟩
       have D3 : Hid (Cd w w3.heap.size w2.heap.size 23 26 c c (w3.alloc (.cells #[.int .i64 (c 0), .int .i64 (c 1), .int .i64 (c 2), .int .i64 (c 3), .int .i64 (c 4), .int .i64 (c 5), .int .i64 (c 6), .int .i64 (c 7), .int .i64 (c 8), .int .i64 (c 9), .int .i64 (c 10), .int .i64 (c 11), .int .i64 (c 12), .int .i64 (c 13), .int .i64 (c 14), .int .i64 (c 15), .int .i64 (c 16), .int .i64 (c 17), .int .i64 (c 18), .int .i64 (c 19)] 23))) := ⟨Blk.new w3 _ _, (B2.out.only o3 (fun h => h)).alloc _, (O2.out.trans o3).alloc _⟩
       clear o3)
    | (refine wpl_new rfl rfl 23 rfl _ _ rfl #[.int .i64 (c 0), .int .i64 (c 1), .int .i64 (c 2), .int .i64 (c 3), .int .i64 (c 4), .int .i64 (c 5), .int .i64 (c 6), .int .i64 (c 7), .int .i64 (c 8), .int .i64 (c 9), .int .i64 (c 10), .int .i64 (c 11), .int .i64 (c 12), .int .i64 (c 13), .int .i64 (c 14), .int .i64 (c 15), .int .i64 (c 16), .int .i64 (c 17), .int .i64 (c 18), .int .i64 (c 19)] rfl rfl (by kernel_rfl) (cf_one c) ?_))
  have D4 := Lib.hid (D3.out.keep (Only.refl none_ _).drew)
  generalize w2.heap.size = h at *
  generalize w3.heap.size = g at *
  (refine wp_region_steady (fun w' => Cd w g h 23 26 c c w') 10 (by kernel_rfl) (by kernel_rfl) (D4.out) ?_; simp only [List.take_succ_cons, List.take_zero, List.drop_succ_cons, List.drop_zero])
  repeat (first
    | (refine sd_value (v := ?_) (by rfl) (fun w0 hS => ?_) ?_; rotate_left; (· (have n2 := eq_cfg c w0; go_simp; try (with_reducible rfl))); try simp only [Act.put, List.setIfInBounds_toArray, List.set_cons_zero, List.set_cons_succ])
    | (refine sd_load (by rfl) 23 _ rfl g rfl _ #[.int .i64 (c 0), .int .i64 (c 1), .int .i64 (c 2), .int .i64 (c 3), .int .i64 (c 4), .int .i64 (c 5), .int .i64 (c 6), .int .i64 (c 7), .int .i64 (c 8), .int .i64 (c 9), .int .i64 (c 10), .int .i64 (c 11), .int .i64 (c 12), .int .i64 (c 13), .int .i64 (c 14), .int .i64 (c 15), .int .i64 (c 16), .int .i64 (c 17), .int .i64 (c 18), .int .i64 (c 19)] _ (fun w hS => Cd.x hS) Try.underlying23 rfl (by kernel_rfl) ?_; try simp only [Act.put, List.setIfInBounds_toArray, List.set_cons_zero, List.set_cons_succ])
    | (refine sd_load (by rfl) 26 _ rfl h rfl _ #[.int .i64 (c 0), .int .i64 (c 1), .int .i64 (c 2), .int .i64 (c 3), .int .i64 (c 4), .int .i64 (c 5), .int .i64 (c 6), .int .i64 (c 7), .int .i64 (c 8), .int .i64 (c 9), .int .i64 (c 10), .int .i64 (c 11), .int .i64 (c 12), .int .i64 (c 13), .int .i64 (c 14), .int .i64 (c 15), .int .i64 (c 16), .int .i64 (c 17), .int .i64 (c 18), .int .i64 (c 19)] _ (fun w hS => Cd.y hS) Try.underlying26 rfl (by kernel_rfl) ?_; try simp only [Act.put, List.setIfInBounds_toArray, List.set_cons_zero, List.set_cons_succ])
    | (refine sd_skip (by rfl) ?_; try simp only [Act.put, List.setIfInBounds_toArray, List.set_cons_zero, List.set_cons_succ])
    | (refine sd_call (v := ?_) (f := 9) (args := ?_) (by rfl) (fun w0 hS => ?_) (fun w0 hS => ?_) ?_; rotate_left 2; (· (skip; go_simp; try (with_reducible rfl))); (· (refine (lw_of c _).mono ?_; rintro E w9 ⟨rfl, o9⟩; refine ⟨?_, hS.keep o9⟩; rfl)); try simp only [Act.put, List.setIfInBounds_toArray, List.set_cons_zero, List.set_cons_succ]))
  refine sd_nil ?_
  intro w10 t10
  go_wp2_with fail
  go_ret
  exact ⟨rfl, t10.ho.below (Nat.le_refl _) (fun k hk => hk.elim)⟩
end Go.Proofs.Ythhfpjecgdedgaa
