/- What package entry's Newer does. No statement of the seat is proved here. -/
import Derived.Test.YtkhckgbhpfjfkaaEnF
import Derived.Test.YtkhckgbhpfjfkaaEnE
namespace Go.Proofs.Ytkhckgbhpfjfkaa
open Go.RowKit
set_option maxRecDepth 100000

theorem ob_cells {B w : World} {g h : Nat} {t u : TypeId} {a0 a1 a2 a3 b0 b1 : Value} (b : Ob B g h t u #[a0, a1, a2, a3] #[b0, b1] w) :
    (w.cell? ⟨g, 0, none⟩ = some a0 ∧ w.cell? ⟨g, 1, none⟩ = some a1 ∧ w.cell? ⟨g, 2, none⟩ = some a2 ∧ w.cell? ⟨g, 3, none⟩ = some a3) ∧ w.cell? ⟨h, 0, none⟩ = some b0 ∧ w.cell? ⟨h, 1, none⟩ = some b1 :=
  ⟨⟨b.x.cell_ rfl, b.x.cell_ rfl, b.x.cell_ rfl, b.x.cell_ rfl⟩, b.y.cell_ rfl, b.y.cell_ rfl⟩

set_option maxHeartbeats 3200000 in
theorem en_newer (x y : En) (w : World) :
    Calls Try.prog 15 #[.agg #[.string x.k, .string x.v, .bool x.d, .int .i64 x.s.c, .int .i64 x.s.s, .int .i64 x.a.c, .int .i64 x.a.s, .int .i64 x.p, .int .i64 x.g], .agg #[.string y.k, .string y.v, .bool y.d, .int .i64 y.s.c, .int .i64 y.s.s, .int .i64 y.a.c, .int .i64 y.a.s, .int .i64 y.p, .int .i64 y.g]] w fun E w' => E = .returned (.bool (enNewer x y)) ∧ Only none_ w w' := by
  have ix0 := fun w => (run_index_two _ _ _ _ _ (show #[.int .i64 x.s.c, .int .i64 x.s.s, .int .i64 x.a.c, .int .i64 x.a.s] = _ from rfl) w).1
  have ix1 := fun w => (run_index_two _ _ _ _ _ (show #[.int .i64 x.s.c, .int .i64 x.s.s, .int .i64 x.a.c, .int .i64 x.a.s] = _ from rfl) w).2
  have O := Lib.hid (((Only.refl none_ w).alloc (.cells #[.string x.k, .string x.v, .bool x.d, .int .i64 x.s.c, .int .i64 x.s.s, .int .i64 x.a.c, .int .i64 x.a.s, .int .i64 x.p, .int .i64 x.g] 35)).alloc (.cells #[.string y.k, .string y.v, .bool y.d, .int .i64 y.s.c, .int .i64 y.s.s, .int .i64 y.a.c, .int .i64 y.a.s, .int .i64 y.p, .int .i64 y.g] 35))
  have BX := Lib.hid ((Blk.new w 35 #[.string x.k, .string x.v, .bool x.d, .int .i64 x.s.c, .int .i64 x.s.s, .int .i64 x.a.c, .int .i64 x.a.s, .int .i64 x.p, .int .i64 x.g]).alloc (.cells #[.string y.k, .string y.v, .bool y.d, .int .i64 y.s.c, .int .i64 y.s.s, .int .i64 y.a.c, .int .i64 y.a.s, .int .i64 y.p, .int .i64 y.g] 35))
  have HN : Hid (enNewer x y = if (stCmp ⟨x.s.c, x.s.s⟩ ⟨y.s.c, y.s.s⟩ != 0) = true then decide (0 < stCmp ⟨x.s.c, x.s.s⟩ ⟨y.s.c, y.s.s⟩) else if (stCmp ⟨x.a.c, x.a.s⟩ ⟨y.a.c, y.a.s⟩ != 0) = true then decide (0 < stCmp ⟨x.a.c, x.a.s⟩ ⟨y.a.c, y.a.s⟩) else false) := newer_cmp x y
  obtain ⟨r0, h0⟩ : ∃ r, stCmp ⟨x.s.c, x.s.s⟩ ⟨y.s.c, y.s.s⟩ = r := ⟨_, rfl⟩
  obtain ⟨r1, h1⟩ : ∃ r, stCmp ⟨x.a.c, x.a.s⟩ ⟨y.a.c, y.a.s⟩ = r := ⟨_, rfl⟩
  rw [h0, h1] at HN
  have H0 := Lib.hid h0
  have H1 := Lib.hid h1
  clear h0 h1
  have tok : True := trivial
  go_enter Try.func15, Try.ntmps15
  go_wp2_with (first
    | (go_at_call 54; have _t := tok; refine (en_stamps y _).mono ?_; rintro E w1 ⟨rfl, o1⟩
       have O1 := Lib.hid ((O.out.trans o1).alloc (.cells #[.int .i64 y.s.c, .int .i64 y.s.s, .int .i64 y.a.c, .int .i64 y.a.s] 99))
       have B1 := Lib.hid (Blk.new w1 99 #[.int .i64 y.s.c, .int .i64 y.s.s, .int .i64 y.a.c, .int .i64 y.a.s])
       have q := nine_of ((BX.out.only o1 (fun h => h)).alloc (.cells #[.int .i64 y.s.c, .int .i64 y.s.s, .int .i64 y.a.c, .int .i64 y.a.s] 99))
       clear o1 tok)
    | (go_at_call 54; refine (en_stamps x _).mono ?_; rintro E w2 ⟨rfl, o2⟩
       have O2 := Lib.hid (O1.out.trans o2)
       have B2 := Lib.hid (B1.out.only o2 (fun h => h))
       clear o2))
  refine wp_loop_rounds 3 ?_
  rw [rounds_succ]
  go_wp2_with fail
  (refine wp_region_steady (fun w' => Ob w w1.heap.size w2.heap.size 99 33 #[.int .i64 y.s.c, .int .i64 y.s.s, .int .i64 y.a.c, .int .i64 y.a.s] #[.int .i64 x.s.c, .int .i64 x.s.s] w') 6 (by kernel_rfl) (by kernel_rfl) (⟨(B2.out.alloc _).drew, (Blk.new w2 _ _).drew, (O2.out.alloc _).drew⟩) ?_; simp only [List.take_succ_cons, List.take_zero, List.drop_succ_cons, List.drop_zero])
  repeat (first
    | (refine sd_value (v := ?_) (by rfl) (fun w0 hS => ?_) ?_; rotate_left; (· (have hc := ob_cells hS; go_simp; try (with_reducible rfl))); try simp only [Act.put, List.setIfInBounds_toArray, List.set_cons_zero, List.set_cons_succ])
    | (refine sd_call (v := ?_) (f := 51) (args := ?_) (by rfl) (fun w0 hS => ?_) (fun w0 hS => ?_) ?_; rotate_left 2; (· (have hc := ob_cells hS; go_simp; try (with_reducible rfl))); (· (refine (st_compare _ _ _ _ _).mono ?_; rintro E w9 ⟨rfl, o9⟩; rw [H0.out]; refine ⟨?_, hS.keep o9⟩; rfl)); try simp only [Act.put, List.setIfInBounds_toArray, List.set_cons_zero, List.set_cons_succ]))
  refine sd_nil ?_
  intro w3 t3
  cases hz0 : r0 != 0
  · go_wp2_with fail
    rw [rounds_succ]
    go_wp2_with fail
    (refine wp_region_steady (fun w' => Ob w w1.heap.size w3.heap.size 99 33 #[.int .i64 y.s.c, .int .i64 y.s.s, .int .i64 y.a.c, .int .i64 y.a.s] #[.int .i64 x.a.c, .int .i64 x.a.s] w') 6 (by kernel_rfl) (by kernel_rfl) (⟨(t3.x.alloc _).drew, (Blk.new w3 _ _).drew, (t3.ho.alloc _).drew⟩) ?_; simp only [List.take_succ_cons, List.take_zero, List.drop_succ_cons, List.drop_zero])
    repeat (first
      | (refine sd_value (v := ?_) (by rfl) (fun w0 hS => ?_) ?_; rotate_left; (· (have hc := ob_cells hS; go_simp; try (with_reducible rfl))); try simp only [Act.put, List.setIfInBounds_toArray, List.set_cons_zero, List.set_cons_succ])
      | (refine sd_call (v := ?_) (f := 51) (args := ?_) (by rfl) (fun w0 hS => ?_) (fun w0 hS => ?_) ?_; rotate_left 2; (· (have hc := ob_cells hS; go_simp; try (with_reducible rfl))); (· (refine (st_compare _ _ _ _ _).mono ?_; rintro E w9 ⟨rfl, o9⟩; rw [H1.out]; refine ⟨?_, hS.keep o9⟩; rfl)); try simp only [Act.put, List.setIfInBounds_toArray, List.set_cons_zero, List.set_cons_succ]))
    refine sd_nil ?_
    intro w4 t4
    cases hz1 : r1 != 0
    · go_wp2_with fail
      rw [rounds_succ]
      go_wp2_with fail
      go_ret
      rw [HN.out, hz0, hz1]
      exact ⟨rfl, t4.ho⟩
    · go_wp2_with fail
      go_ret
      rw [HN.out, hz0, hz1]
      exact ⟨rfl, t4.ho⟩
  · go_wp2_with fail
    go_ret
    rw [HN.out, hz0]
    exact ⟨rfl, t3.ho⟩
end Go.Proofs.Ytkhckgbhpfjfkaa
