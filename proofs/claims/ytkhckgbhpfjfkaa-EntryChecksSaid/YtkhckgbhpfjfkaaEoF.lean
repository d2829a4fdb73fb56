/- The call of EntryChecks. The statement itself is proved in another text. -/
import Derived.Test.YtkhckgbhpfjfkaaEoD
import Derived.Test.YtkhckgbhpfjfkaaEoB
import Derived.Test.YtkhckgbhpfjfkaaEoE
import Derived.Test.YtkhckgbhpfjfkaaEnS
import Derived.Test.YtkhckgbhpfjfkaaEnD
import Derived.Test.YtkhckgbhpfjfkaaEnG
import Derived.Test.YtkhckgbhpfjfkaaEnA
import Derived.Deep.RegionWith
namespace Go.Proofs.Ytkhckgbhpfjfkaa
open Go.RowKit
set_option maxRecDepth 100000

theorem stEq_same (a : St) : stEq a a = true := (stEq_iff a a).2 rfl
theorem eq_mark_same (w : World) (a : St) (k : ByteArray) : (Op.equalIn 10000 41 (.agg #[.int .i64 a.c, .int .i64 a.s, .string k]) (.agg #[.int .i64 a.c, .int .i64 a.s, .string k])).run Try.prog w = .ok true w := by
  rw [show (10000 : Nat) = 9999 + 1 from rfl, eq_struct Try.underlying41 (by kernel_rfl) 9999]
  have e1 : ∀ (a b : ByteArray), (Op.equalIn 9999 9 (.string a) (.string b)).run Try.prog w = .ok (a.toList == b.toList) w := fun a b => run_equalIn_string w 9998 9 a b Try.underlying9
  have e4 : (Op.equalIn 9999 33 (.agg #[.int .i64 a.c, .int .i64 a.s]) (.agg #[.int .i64 a.c, .int .i64 a.s])).run Try.prog w = .ok true w := by have := eq_api_stamp w a a 9997; rw [stEq_same] at this; exact this
  obtain ⟨i0, hi0, hz0⟩ : ∃ i0, Try.prog.info? 33 = some i0 ∧ i0.size = 2 := by
    have : (Try.prog.info? 33).map (·.size) = some 2 := by kernel_rfl
    cases h : Try.prog.info? 33 with
    | none => rw [h] at this; cases this
    | some i0 => rw [h] at this; simp at this; exact ⟨i0, rfl, this⟩
  have p1 : (part 33 #[.int .i64 a.c, .int .i64 a.s, .string k] 0).run Try.prog w = .ok (.agg #[.int .i64 a.c, .int .i64 a.s]) w := by
    simp [part, isAgg, run_underlying Try.underlying33, sizeOf, typeInfo, hi0, hz0]
  have p2 : (part 9 #[.int .i64 a.c, .int .i64 a.s, .string k] 2).run Try.prog w = .ok (.string k) w := by
    simp [part, isAgg, run_underlying Try.underlying9]
  have s1 := e1 k k
  rw [beq_self_eq_true] at s1
  simp [Op.eqFields, p1, p2, e4, s1]

abbrev Bw (W : World) (a b : En) (w : World) : Prop := Bo W W.heap.size (W.heap.size + 1) 25 25 a b w
theorem Bw.new (W : World) (a b : En) : Bw W a b ((W.alloc (.cells #[.string a.k, .string a.v, .bool a.d, .int .i64 a.s.c, .int .i64 a.s.s, .int .i64 a.a.c, .int .i64 a.a.s, .int .i64 a.p, .int .i64 a.g] 25)).alloc (.cells #[.string b.k, .string b.v, .bool b.d, .int .i64 b.s.c, .int .i64 b.s.s, .int .i64 b.a.c, .int .i64 b.a.s, .int .i64 b.p, .int .i64 b.g] 25)) :=
  ⟨(Blk.new W _ _).alloc _, by have := Blk.new (W.alloc (.cells #[.string a.k, .string a.v, .bool a.d, .int .i64 a.s.c, .int .i64 a.s.s, .int .i64 a.a.c, .int .i64 a.a.s, .int .i64 a.p, .int .i64 a.g] 25)) 25 #[.string b.k, .string b.v, .bool b.d, .int .i64 b.s.c, .int .i64 b.s.s, .int .i64 b.a.c, .int .i64 b.a.s, .int .i64 b.p, .int .i64 b.g]; rwa [World.size_alloc] at this, ((Only.refl none_ W).alloc _).alloc _⟩

set_option maxHeartbeats 3200000 in
theorem checks_long1 (a b : En) (W : World) (ha : enShort a = false) :
    Calls Try.prog 3 #[.agg #[.string a.k, .string a.v, .bool a.d, .int .i64 a.s.c, .int .i64 a.s.s, .int .i64 a.a.c, .int .i64 a.a.s, .int .i64 a.p, .int .i64 a.g], .agg #[.string b.k, .string b.v, .bool b.d, .int .i64 b.s.c, .int .i64 b.s.s, .int .i64 b.a.c, .int .i64 b.a.s, .int .i64 b.p, .int .i64 b.g]] W fun E w' => E = .returned (.bool true) ∧ Below W.heap.size W w' := by
  have T := Lib.hid (Bw.new W a b)
  have q := T.out.cells
  have HA := Lib.hid ha
  clear ha
  go_enter Try.func3, Try.ntmps3
  go_wp2_with (first
    | (go_at_call 9; refine (en_speaks _).mono ?_; rintro E w9 ⟨rfl, rfl⟩)
    | (go_at_call 10; refine (rf_short a _).mono ?_; rw [HA.out]; rintro E w1 ⟨rfl, o1⟩; have t1 := Lib.hid (T.out.keep o1); clear o1))
  go_ret
  exact ⟨rfl, t1.out.ho.below (Nat.le_refl _) (fun k hk => hk.elim)⟩
set_option maxHeartbeats 3200000 in
theorem checks_long2 (a b : En) (W : World) (ha : enShort a = true) (hb : enShort b = false) :
    Calls Try.prog 3 #[.agg #[.string a.k, .string a.v, .bool a.d, .int .i64 a.s.c, .int .i64 a.s.s, .int .i64 a.a.c, .int .i64 a.a.s, .int .i64 a.p, .int .i64 a.g], .agg #[.string b.k, .string b.v, .bool b.d, .int .i64 b.s.c, .int .i64 b.s.s, .int .i64 b.a.c, .int .i64 b.a.s, .int .i64 b.p, .int .i64 b.g]] W fun E w' => E = .returned (.bool true) ∧ Below W.heap.size W w' := by
  have T := Lib.hid (Bw.new W a b)
  have q := T.out.cells
  have HA := Lib.hid ha
  have HB := Lib.hid hb
  clear ha hb
  have tokA : True := trivial
  go_enter Try.func3, Try.ntmps3
  go_wp2_with (first
    | (go_at_call 9; refine (en_speaks _).mono ?_; rintro E w9 ⟨rfl, rfl⟩)
    | (go_at_call 10; have _t := tokA; clear tokA; refine (rf_short a _).mono ?_; rw [HA.out]; rintro E w1 ⟨rfl, o1⟩; have t1 := Lib.hid (T.out.keep o1); have q1 := nine_of t1.out.y; clear o1; have tokB : True := trivial)
    | (go_at_call 10; have _t := tokB; clear tokB; refine (rf_short b _).mono ?_; rw [HB.out]; rintro E w2 ⟨rfl, o2⟩; have t2 := Lib.hid (t1.out.keep o2); clear o2))
  go_ret
  exact ⟨rfl, t2.out.ho.below (Nat.le_refl _) (fun k hk => hk.elim)⟩

set_option maxHeartbeats 12800000 in
theorem checks_no (a b : En) (W : World) (ha : enShort a = true) (hb : enShort b = true) (hz : enCheck a ≠ 0) :
    Calls Try.prog 3 #[.agg #[.string a.k, .string a.v, .bool a.d, .int .i64 a.s.c, .int .i64 a.s.s, .int .i64 a.a.c, .int .i64 a.a.s, .int .i64 a.p, .int .i64 a.g], .agg #[.string b.k, .string b.v, .bool b.d, .int .i64 b.s.c, .int .i64 b.s.s, .int .i64 b.a.c, .int .i64 b.a.s, .int .i64 b.p, .int .i64 b.g]] W fun E w' => E = .returned (.bool true) ∧ Below W.heap.size W w' := by
  have T := Lib.hid (Bw.new W a b)
  have q := T.out.cells
  have HA := Lib.hid ha
  have HB := Lib.hid hb
  have EM := fun w => neq_of (eq_mark_same w a.a a.k)
  obtain ⟨z, hz1⟩ : ∃ z, enCheck a = z := ⟨_, rfl⟩
  have HEN := Lib.hid (fun w => encode_no a w hz)
  rw [hz1] at HEN hz
  have HZ := Lib.hid hz1
  have hzb : (z == 0) = false := by simp [hz]
  have hzn : (z != 0) = true := by simp [hz]
  clear hz1
  clear ha hb
  have tokA : True := trivial
  have tokE : True := trivial
  go_enter Try.func3, Try.ntmps3
  go_wp2_with (first
    | (go_at_call 9; refine (en_speaks _).mono ?_; rintro E w9 ⟨rfl, rfl⟩)
    | (go_at_call 10; have _t := tokA; clear tokA; refine (rf_short a _).mono ?_; rw [HA.out]; rintro E w1 ⟨rfl, o1⟩; have t1 := Lib.hid (T.out.keep o1); have q1 := nine_of t1.out.y; clear o1; have tokB : True := trivial)
    | (go_at_call 10; have _t := tokB; clear tokB; refine (rf_short b _).mono ?_; rw [HB.out]; rintro E w2 ⟨rfl, o2⟩; have t2 := Lib.hid (t1.out.keep o2); have q2 := t2.out.cells; clear o2)
    | (refine wpl_load rfl 25 _ rfl W.heap.size rfl 25 #[.string a.k, .string a.v, .bool a.d, .int .i64 a.s.c, .int .i64 a.s.s, .int .i64 a.a.c, .int .i64 a.a.s, .int .i64 a.p, .int .i64 a.g] _ t2.out.x Try.underlying25 rfl (by kernel_rfl) ?_)
    | (go_at_call 11; refine (rf_check a _).mono ?_; rw [HZ.out]; rintro E w3 ⟨rfl, o3⟩; have t3 := Lib.hid (t2.out.keep o3); clear o3)
    | (refine wpl_load rfl 25 _ rfl W.heap.size rfl 25 #[.string a.k, .string a.v, .bool a.d, .int .i64 a.s.c, .int .i64 a.s.s, .int .i64 a.a.c, .int .i64 a.a.s, .int .i64 a.p, .int .i64 a.g] _ t3.out.x Try.underlying25 rfl (by kernel_rfl) ?_)
    | (go_at_call 13; refine (en_of a _).mono ?_; rintro E w4 ⟨rfl, o4⟩; have t4 := Lib.hid (t3.out.keep o4); clear o4)
    | (go_at_call 12; refine (HEN.out _).mono ?_; rintro E w5 ⟨rfl, o5⟩; have t5 := Lib.hid (t4.out.keep o5); clear o5))
  (refine wp_region_steady (fun w' => Bw W a b w') 32 (by kernel_rfl) (by kernel_rfl) (t5.out.keep (Only.refl none_ _).drew) ?_; simp only [List.take_succ_cons, List.take_zero, List.drop_succ_cons, List.drop_zero])
  repeat (first
    | (refine sd_value (v := ?_) (by rfl) (fun w0 hS => ?_) ?_; rotate_left; (· (skip; go_simp; try (with_reducible rfl))); try simp only [Act.put, List.setIfInBounds_toArray, List.set_cons_zero, List.set_cons_succ])
    | (refine sd_value (v := ?_) (by rfl) (fun w0 hS => ?_) ?_; rotate_left; (· (have hc := nine_of hS.x; go_simp; try (with_reducible rfl))); try simp only [Act.put, List.setIfInBounds_toArray, List.set_cons_zero, List.set_cons_succ])
    | (refine sd_value (v := ?_) (by rfl) (fun w0 hS => ?_) ?_; rotate_left; (· (have hc := nine_of hS.y; go_simp; try (with_reducible rfl))); try simp only [Act.put, List.setIfInBounds_toArray, List.set_cons_zero, List.set_cons_succ])
    | (refine sd_call (v := ?_) (f := 13) (args := ?_) (by rfl) (fun w0 hS => ?_) (fun w0 hS => ?_) ?_; rotate_left 2; (· (skip; go_simp; try (with_reducible rfl))); (· (refine (en_of _ _).mono ?_; rintro E w8 ⟨rfl, o8⟩; refine ⟨?_, hS.keep o8⟩; rfl)); try simp only [Act.put, List.setIfInBounds_toArray, List.set_cons_zero, List.set_cons_succ])
    | (refine sd_call (v := ?_) (f := 14) (args := ?_) (by rfl) (fun w0 hS => ?_) (fun w0 hS => ?_) ?_; rotate_left 2; (· (skip; go_simp; try (with_reducible rfl))); (· (refine (en_check _ _).mono ?_; rw [HZ.out]; rintro E w8 ⟨rfl, o8⟩; refine ⟨?_, hS.keep o8⟩; rfl)); try simp only [Act.put, List.setIfInBounds_toArray, List.set_cons_zero, List.set_cons_succ])
    | (refine sd_call (v := ?_) (f := 15) (args := ?_) (by rfl) (fun w0 hS => ?_) (fun w0 hS => ?_) ?_; rotate_left 2; (· (skip; go_simp; try (with_reducible rfl))); (· (refine (en_newer _ _ _).mono ?_; rintro E w8 ⟨rfl, o8⟩; refine ⟨?_, hS.keep o8⟩; rfl)); try simp only [Act.put, List.setIfInBounds_toArray, List.set_cons_zero, List.set_cons_succ])
    | (refine sd_call (v := ?_) (f := 16) (args := ?_) (by rfl) (fun w0 hS => ?_) (fun w0 hS => ?_) ?_; rotate_left 2; (· (skip; go_simp; try (with_reducible rfl))); (· (refine (rf_newer _ _ _).mono ?_; rintro E w8 ⟨rfl, o8⟩; refine ⟨?_, hS.keep o8⟩; rfl)); try simp only [Act.put, List.setIfInBounds_toArray, List.set_cons_zero, List.set_cons_succ])
    | (refine sd_call (v := ?_) (f := 17) (args := ?_) (by rfl) (fun w0 hS => ?_) (fun w0 hS => ?_) ?_; rotate_left 2; (· (skip; go_simp; try (with_reducible rfl))); (· (refine (en_alike _ _ _).mono ?_; rintro E w8 ⟨rfl, o8⟩; refine ⟨?_, hS.keep o8⟩; rfl)); try simp only [Act.put, List.setIfInBounds_toArray, List.set_cons_zero, List.set_cons_succ])
    | (refine sd_call (v := ?_) (f := 18) (args := ?_) (by rfl) (fun w0 hS => ?_) (fun w0 hS => ?_) ?_; rotate_left 2; (· (skip; go_simp; try (with_reducible rfl))); (· (refine (rf_alike _ _ _).mono ?_; rintro E w8 ⟨rfl, o8⟩; refine ⟨?_, hS.keep o8⟩; rfl)); try simp only [Act.put, List.setIfInBounds_toArray, List.set_cons_zero, List.set_cons_succ]))
  refine sd_nil ?_
  intro w6 t6
  go_wp2_with fail
  (refine wp_region_steady (fun w' => Bw W a b w') 10 (by kernel_rfl) (by kernel_rfl) (t6.keep (Only.refl none_ _).drew) ?_; simp only [List.take_succ_cons, List.take_zero, List.drop_succ_cons, List.drop_zero])
  repeat (first
    | (refine sd_value (v := ?_) (by rfl) (fun w0 hS => ?_) ?_; rotate_left; (· (skip; go_simp; try (with_reducible rfl))); try simp only [Act.put, List.setIfInBounds_toArray, List.set_cons_zero, List.set_cons_succ])
    | (refine sd_value (v := ?_) (by rfl) (fun w0 hS => ?_) ?_; rotate_left; (· (have hc := nine_of hS.x; go_simp; try (with_reducible rfl))); try simp only [Act.put, List.setIfInBounds_toArray, List.set_cons_zero, List.set_cons_succ])
    | (refine sd_call (v := ?_) (f := 13) (args := ?_) (by rfl) (fun w0 hS => ?_) (fun w0 hS => ?_) ?_; rotate_left 2; (· (skip; go_simp; try (with_reducible rfl))); (· (refine (en_of _ _).mono ?_; rintro E w8 ⟨rfl, o8⟩; refine ⟨?_, hS.keep o8⟩; rfl)); try simp only [Act.put, List.setIfInBounds_toArray, List.set_cons_zero, List.set_cons_succ])
    | (refine sd_call (v := ?_) (f := 19) (args := ?_) (by rfl) (fun w0 hS => ?_) (fun w0 hS => ?_) ?_; rotate_left 2; (· (skip; go_simp; try (with_reducible rfl))); (· (refine (en_mark _ _).mono ?_; rintro E w8 ⟨rfl, o8⟩; refine ⟨?_, hS.keep o8⟩; rfl)); try simp only [Act.put, List.setIfInBounds_toArray, List.set_cons_zero, List.set_cons_succ])
    | (refine sd_call (v := ?_) (f := 20) (args := ?_) (by rfl) (fun w0 hS => ?_) (fun w0 hS => ?_) ?_; rotate_left 2; (· (skip; go_simp; try (with_reducible rfl))); (· (refine (st_of _ _ _).mono ?_; rintro E w8 ⟨rfl, o8⟩; refine ⟨?_, hS.keep o8⟩; rfl)); try simp only [Act.put, List.setIfInBounds_toArray, List.set_cons_zero, List.set_cons_succ]))
  refine sd_nil ?_
  intro w7 t7
  go_wp2_with fail
  go_ret
  exact ⟨rfl, t7.ho.below (Nat.le_refl _) (fun k hk => hk.elim)⟩
end Go.Proofs.Ytkhckgbhpfjfkaa
