/- The call of EntryKeepers answers yes, and changes nothing that was there. The statement itself is proved in another text. -/
import Derived.Test.YtkddmdgehnijiaaEnO
import Derived.Test.YtkddmdgehnijiaaEnD
namespace Go.Proofs.Ytkddmdgehnijiaa
open Go.RowKit
set_option maxRecDepth 100000

/-- What an entry that may be is. -/
theorem check_zero {e : En} (h : enCheck e = 0) : (1 ≤ e.k.size ∧ e.k.size ≤ 16) ∧ (e.v.size ≤ 32 ∧ (e.d = true → e.v.size = 0)) ∧ (stGood e.s = true ∧ stGood e.a = true ∧ stLater e.s e.a = false) ∧
    (e.d = true → 1 ≤ e.p ∧ e.p ≤ 4095 ∧ 0 ≤ e.g ∧ e.g ≤ 2147483647) ∧ (e.d = false → e.a = e.s ∧ e.p = 0 ∧ e.g = 0) := by
  unfold enCheck at h
  split at h
  · cases h
  next h1 =>
  split at h
  · cases h
  next h2 =>
  split at h
  · cases h
  next h3 =>
  split at h
  · cases h
  next h4 =>
  simp only [enKeyBad, Bool.or_eq_true, decide_eq_true_eq] at h1
  simp only [enValBad, Bool.or_eq_true, Bool.and_eq_true, decide_eq_true_eq] at h2
  simp only [enStBad, Bool.or_eq_true, Bool.not_eq_true', Bool.and_eq_false_iff] at h3
  simp only [enRestBad, Bool.not_eq_true', Bool.not_eq_false] at h4
  refine ⟨by omega, ⟨by omega, fun hd => Classical.byContradiction fun h => h2 (.inr ⟨hd, by omega⟩)⟩, ⟨?_, ?_, ?_⟩, fun hd => ?_, fun hd => ?_⟩
  · cases h : stGood e.s
    · exact absurd (.inl (.inl h)) h3
    · rfl
  · cases h : stGood e.a
    · exact absurd (.inl (.inr h)) h3
    · rfl
  · cases h : stLater e.s e.a
    · rfl
    · exact absurd (.inr h) h3
  · rw [hd] at h4
    simp only [if_true, enCert, Bool.and_eq_true, decide_eq_true_eq] at h4
    omega
  · rw [hd] at h4
    simp only [Bool.false_eq_true, if_false, enLive, Bool.and_eq_true, beq_iff_eq, stEq_iff] at h4
    exact ⟨h4.1.1, h4.1.2, h4.2⟩

theorem Bx1.keep {B w w' : World} {g : Nat} {t : TypeId} {e : En} (b : Bx1 B g t e w) (o : Only none_ w w') : Bx1 B g t e w' := ⟨b.x.only o (fun h => h), b.ho.trans o⟩

set_option maxHeartbeats 3200000 in
theorem keepers_any (site retain nodes : Int) (e : En) (w : World) :
    Calls Try.prog 5 #[.int .i64 site, .int .i64 retain, .int .i64 nodes, .agg #[.string e.k, .string e.v, .bool e.d, .int .i64 e.s.c, .int .i64 e.s.s, .int .i64 e.a.c, .int .i64 e.a.s, .int .i64 e.p, .int .i64 e.g]] w fun E w' => E = .returned (.bool true) ∧ Below w.heap.size w w' := by
  have T := Lib.hid (Bx1.mk (B := w) (e := e) (Blk.new w 25 #[.string e.k, .string e.v, .bool e.d, .int .i64 e.s.c, .int .i64 e.s.s, .int .i64 e.a.c, .int .i64 e.a.s, .int .i64 e.p, .int .i64 e.g]).drew ((Only.refl none_ w).alloc (.cells #[.string e.k, .string e.v, .bool e.d, .int .i64 e.s.c, .int .i64 e.s.s, .int .i64 e.a.c, .int .i64 e.a.s, .int .i64 e.p, .int .i64 e.g] 25)).drew)
  have HK := fun w => en_keepers site retain nodes w
  have HL := fun w => rf_keepers site retain nodes w
  generalize enKeepers site retain nodes = q at HK HL
  have hq : (q == q) = true := by simp
  have H1 := Lib.hid HK
  have H2 := Lib.hid HL
  clear HK HL
  have HC := fun w => rf_check e w
  by_cases hz : enCheck e = 0
  · have hp : e.d = true → 1 ≤ e.p ∧ e.p ≤ 4095 := fun h => by have := (check_zero hz).2.2.2.1 h; omega
    have HD := fun w => en_duty e site w hp
    have HE := fun w => rf_duty e site w hp
    rw [hz] at HC
    generalize enDuty e site = b at HD HE
    have hb : (b == b) = true := by simp
    have H3 := Lib.hid HC
    have H4 := Lib.hid HD
    have H5 := Lib.hid HE
    clear HC HD HE hz hp
    go_enter Try.func5, Try.ntmps5
    go_wp2_with fail
    (refine wp_region_steady (fun w' => Bx1 w w.heap.size 25 e w') 28 (by kernel_rfl) (by kernel_rfl) T.out ?_; simp only [List.take_succ_cons, List.take_zero, List.drop_succ_cons, List.drop_zero])
    repeat (first
      | (refine sd_value (v := ?_) (by rfl) (fun w0 hS => ?_) ?_; rotate_left; (· (have hc := nine_of hS.x; go_simp; try (with_reducible rfl))); try simp only [Act.put, List.setIfInBounds_toArray, List.set_cons_zero, List.set_cons_succ])
      | (refine sd_skip (by rfl) ?_; try simp only [Act.put, List.setIfInBounds_toArray, List.set_cons_zero, List.set_cons_succ])
      | (refine sd_call (v := ?_) (f := 10) (args := ?_) (by rfl) (fun w0 hS => ?_) (fun w0 hS => ?_) ?_; rotate_left 2; (· (skip; go_simp; try (with_reducible rfl))); (· (refine (en_speaks _).mono ?_; rintro E w9 ⟨rfl, rfl⟩; refine ⟨?_, hS⟩; rfl)); try simp only [Act.put, List.setIfInBounds_toArray, List.set_cons_zero, List.set_cons_succ])
      | (refine sd_call (v := ?_) (f := 31) (args := ?_) (by rfl) (fun w0 hS => ?_) (fun w0 hS => ?_) ?_; rotate_left 2; (· (skip; go_simp; try (with_reducible rfl))); (· (refine (H1.out _).mono ?_; rintro E w9 ⟨rfl, rfl⟩; refine ⟨?_, hS⟩; rfl)); try simp only [Act.put, List.setIfInBounds_toArray, List.set_cons_zero, List.set_cons_succ])
      | (refine sd_call (v := ?_) (f := 32) (args := ?_) (by rfl) (fun w0 hS => ?_) (fun w0 hS => ?_) ?_; rotate_left 2; (· (skip; go_simp; try (with_reducible rfl))); (· (refine (H2.out _).mono ?_; rintro E w9 ⟨rfl, rfl⟩; refine ⟨?_, hS⟩; rfl)); try simp only [Act.put, List.setIfInBounds_toArray, List.set_cons_zero, List.set_cons_succ])
      | (refine sd_call (v := ?_) (f := 12) (args := ?_) (by rfl) (fun w0 hS => ?_) (fun w0 hS => ?_) ?_; rotate_left 2; (· (skip; go_simp; try (with_reducible rfl))); (· (refine (H3.out _).mono ?_; rintro E w9 ⟨rfl, o9⟩; refine ⟨?_, hS.keep o9⟩; rfl)); try simp only [Act.put, List.setIfInBounds_toArray, List.set_cons_zero, List.set_cons_succ])
      | (refine sd_call (v := ?_) (f := 14) (args := ?_) (by rfl) (fun w0 hS => ?_) (fun w0 hS => ?_) ?_; rotate_left 2; (· (skip; go_simp; try (with_reducible rfl))); (· (refine (en_of e _).mono ?_; rintro E w9 ⟨rfl, o9⟩; refine ⟨?_, hS.keep o9⟩; rfl)); try simp only [Act.put, List.setIfInBounds_toArray, List.set_cons_zero, List.set_cons_succ])
      | (refine sd_call (v := ?_) (f := 33) (args := ?_) (by rfl) (fun w0 hS => ?_) (fun w0 hS => ?_) ?_; rotate_left 2; (· (skip; go_simp; try (with_reducible rfl))); (· (refine (H4.out _).mono ?_; rintro E w9 ⟨rfl, o9⟩; refine ⟨?_, hS.keep o9⟩; rfl)); try simp only [Act.put, List.setIfInBounds_toArray, List.set_cons_zero, List.set_cons_succ])
      | (refine sd_call (v := ?_) (f := 34) (args := ?_) (by rfl) (fun w0 hS => ?_) (fun w0 hS => ?_) ?_; rotate_left 2; (· (skip; go_simp; try (with_reducible rfl))); (· (refine (H5.out _).mono ?_; rintro E w9 ⟨rfl, o9⟩; refine ⟨?_, hS.keep o9⟩; rfl)); try simp only [Act.put, List.setIfInBounds_toArray, List.set_cons_zero, List.set_cons_succ]))
    refine sd_nil ?_
    intro w1 t1
    go_wp2_with fail
    go_ret
    exact ⟨rfl, t1.ho.below (Nat.le_refl _) (fun k hk => hk.elim)⟩
  · obtain ⟨z, hz2⟩ : ∃ z, enCheck e = z := ⟨_, rfl⟩
    rw [hz2] at HC hz
    have hzb : (z != 0) = true := by simpa using hz
    have H3 := Lib.hid HC
    clear HC hz2 hz
    go_enter Try.func5, Try.ntmps5
    go_wp2_with fail
    (refine wp_region_steady (fun w' => Bx1 w w.heap.size 25 e w') 28 (by kernel_rfl) (by kernel_rfl) T.out ?_; simp only [List.take_succ_cons, List.take_zero, List.drop_succ_cons, List.drop_zero])
    repeat (first
      | (refine sd_value (v := ?_) (by rfl) (fun w0 hS => ?_) ?_; rotate_left; (· (have hc := nine_of hS.x; go_simp; try (with_reducible rfl))); try simp only [Act.put, List.setIfInBounds_toArray, List.set_cons_zero, List.set_cons_succ])
      | (refine sd_skip (by rfl) ?_; try simp only [Act.put, List.setIfInBounds_toArray, List.set_cons_zero, List.set_cons_succ])
      | (refine sd_call (v := ?_) (f := 10) (args := ?_) (by rfl) (fun w0 hS => ?_) (fun w0 hS => ?_) ?_; rotate_left 2; (· (skip; go_simp; try (with_reducible rfl))); (· (refine (en_speaks _).mono ?_; rintro E w9 ⟨rfl, rfl⟩; refine ⟨?_, hS⟩; rfl)); try simp only [Act.put, List.setIfInBounds_toArray, List.set_cons_zero, List.set_cons_succ])
      | (refine sd_call (v := ?_) (f := 31) (args := ?_) (by rfl) (fun w0 hS => ?_) (fun w0 hS => ?_) ?_; rotate_left 2; (· (skip; go_simp; try (with_reducible rfl))); (· (refine (H1.out _).mono ?_; rintro E w9 ⟨rfl, rfl⟩; refine ⟨?_, hS⟩; rfl)); try simp only [Act.put, List.setIfInBounds_toArray, List.set_cons_zero, List.set_cons_succ])
      | (refine sd_call (v := ?_) (f := 32) (args := ?_) (by rfl) (fun w0 hS => ?_) (fun w0 hS => ?_) ?_; rotate_left 2; (· (skip; go_simp; try (with_reducible rfl))); (· (refine (H2.out _).mono ?_; rintro E w9 ⟨rfl, rfl⟩; refine ⟨?_, hS⟩; rfl)); try simp only [Act.put, List.setIfInBounds_toArray, List.set_cons_zero, List.set_cons_succ])
      | (refine sd_call (v := ?_) (f := 12) (args := ?_) (by rfl) (fun w0 hS => ?_) (fun w0 hS => ?_) ?_; rotate_left 2; (· (skip; go_simp; try (with_reducible rfl))); (· (refine (H3.out _).mono ?_; rintro E w9 ⟨rfl, o9⟩; refine ⟨?_, hS.keep o9⟩; rfl)); try simp only [Act.put, List.setIfInBounds_toArray, List.set_cons_zero, List.set_cons_succ]))
    refine sd_nil ?_
    intro w1 t1
    go_wp2_with fail
    go_ret
    exact ⟨rfl, t1.ho.below (Nat.le_refl _) (fun k hk => hk.elim)⟩
end Go.Proofs.Ytkddmdgehnijiaa
