/- A clock's Next and See, in one goroutine. No statement of the seat is proved here. -/
import Derived.Test.YtolgjjjclihmkaaStC
import Derived.LoopTactic
namespace Go.Proofs.Ytolgjjjclihmkaa
open Go.RowKit
set_option maxRecDepth 100000

theorem Only.set_one (g i : Nat) (u : Value) (w : World) : Only (one g) w (w.setCell ⟨g, i, none⟩ u) := (Only.refl (one g) w).setCell (p := ⟨g, i, none⟩) (.inl rfl) u

theorem clk_next_spent (g : Nat) (s : Int) (w : World) (h : Clk w g s 4294967295) :
    Calls Try.prog 18 #[.pointer (some ⟨g, 0, none⟩)] w fun e w' => e = .returned (.tuple #[.agg #[.int .i64 0, .int .i64 0], .int .i64 8]) ∧ Clk w' g s 4294967295 ∧ Only none_ w w' := by
  have O := Lib.hid ((Only.refl none_ w).alloc (.cells #[.int .i64 0, .int .i64 0] 27))
  have H := Lib.hid (h.alloc (.cells #[.int .i64 0, .int .i64 0] 27))
  clear h
  go_enter Try.func18, Try.ntmps18
  go_wp2_with (go_at_call 22; refine (clk_now _ _ _ _ H.out).mono ?_; rintro e w' ⟨rfl, rfl⟩)
  refine wp_loop_rounds 1 ?_
  rw [rounds_succ]
  go_wp2_with fail
  exact bodyPost_ret (v := .tuple #[.agg #[.int .i64 0, .int .i64 0], .int .i64 8]) (by simp [results, Try.results18, go_sem]) rfl ⟨rfl, H.out, O.out⟩

theorem clk_moved (g : Nat) (s n m : Int) (w : World) (h : Clk w g s n) :
    Calls Try.prog 29 #[.pointer (some ⟨g, 0, none⟩), .int .i64 n, .int .i64 m] w fun e w' => e = .returned (.bool true) ∧ Clk w' g s m ∧ Only (one g) w w' :=
  (clk_move g s n m w h).mono fun _ _ ⟨he, hw⟩ => ⟨he, by subst hw; exact h.set_ m, by subst hw; exact Only.set_one g 1 _ w⟩

theorem clk_next (g : Nat) (s n : Int) (w : World) (h : Clk w g s n) (h0 : 0 ≤ n) (h1 : n < 4294967295) :
    Calls Try.prog 18 #[.pointer (some ⟨g, 0, none⟩)] w fun e w' => e = .returned (.tuple #[.agg #[.int .i64 (n + 1), .int .i64 s], .int .i64 0]) ∧ Clk w' g s (n + 1) ∧ Only (one g) w w' := by
  have O := Lib.hid ((Only.refl (one g) w).alloc (.cells #[.int .i64 0, .int .i64 0] 27))
  have H := Lib.hid (h.alloc (.cells #[.int .i64 0, .int .i64 0] 27))
  have R := Lib.hid (Blk.new w 27 #[.int .i64 0, .int .i64 0])
  have hg := h.lt
  have hne : ¬ one g w.heap.size := fun e => by have e : w.heap.size = g := e; omega
  have HN := Lib.hid hne
  clear h hne
  go_enter Try.func18, Try.ntmps18
  go_wp2_with (go_at_call 22; refine (clk_now _ _ _ _ H.out).mono ?_; rintro e w' ⟨rfl, rfl⟩)
  refine wp_loop_rounds 1 ?_
  rw [rounds_succ]
  go_wp2_with (first
    | (go_at_call 29; refine (clk_moved _ _ _ _ _ H.out).mono ?_; rintro e w1 ⟨rfl, k1, o1⟩
       have s1 := k1.site
       have R1 := Lib.hid (R.out.only o1 HN.out)
       have r0 := R1.out.cell_ (i := 0) rfl
       have r1 := R1.out.cell_ (i := 1) rfl
       have z0 := R1.out.frozen 0
       have z1 := R1.out.frozen 1
       have K1 := Lib.hid k1
       have O1 := Lib.hid (O.out.trans o1)
       clear k1 o1))
  have q0 := (R1.out.set_ 0 (.int .i64 (n + 1))).cell_ (i := 0) (u := .int .i64 (n + 1)) (by simp)
  have q1 := ((R1.out.set_ 0 (.int .i64 (n + 1))).set_ 1 (.int .i64 s)).cell_ (i := 1) (u := .int .i64 s) (by simp)
  have oS : Only (one w.heap.size) w1 ((w1.setCell ⟨w.heap.size, 0, none⟩ (.int .i64 (n + 1))).setCell ⟨w.heap.size, 1, none⟩ (.int .i64 s)) := (Only.set_one _ _ _ _).trans (Only.set_one _ _ _ _)
  exact bodyPost_ret (v := .tuple #[.agg #[.int .i64 (n + 1), .int .i64 s], .int .i64 0]) (by simp [results, Try.results18, go_sem, q0, q1]) rfl
    ⟨rfl, K1.out.only oS (fun e => HN.out e.symm), (O1.out.setCell (p := ⟨w.heap.size, 0, none⟩) (.inr (Nat.le_refl _)) _).setCell (p := ⟨w.heap.size, 1, none⟩) (.inr (Nat.le_refl _)) _⟩

theorem clk_see_bad (g : Nat) (s n : Int) (c i : Int) (w : World) (h : Clk w g s n) (hb : stGood ⟨c, i⟩ = false) :
    Calls Try.prog 21 #[.pointer (some ⟨g, 0, none⟩), .agg #[.int .i64 c, .int .i64 i]] w fun e w' => e = .returned (.bool false) ∧ Clk w' g s n ∧ Only none_ w w' := by
  have O := Lib.hid ((Only.refl none_ w).alloc (.cells #[.int .i64 c, .int .i64 i] 27))
  have H := Lib.hid h
  have HB := Lib.hid hb
  clear h hb
  go_enter Try.func21, Try.ntmps21
  go_wp2_with (go_at_call 12; refine (st_good _ _ _).mono ?_; rintro e w1 ⟨rfl, o1⟩; rw [HB.out]; have O1 := Lib.hid (O.out.trans o1); clear o1)
  go_ret
  exact ⟨rfl, H.out.only O1.out (fun h => h), O1.out⟩

theorem clk_see_low (g : Nat) (s n : Int) (c i : Int) (w : World) (h : Clk w g s n) (hb : stGood ⟨c, i⟩ = true) (hl : c ≤ n) :
    Calls Try.prog 21 #[.pointer (some ⟨g, 0, none⟩), .agg #[.int .i64 c, .int .i64 i]] w fun e w' => e = .returned (.bool false) ∧ Clk w' g s n ∧ Only none_ w w' := by
  have O := Lib.hid ((Only.refl none_ w).alloc (.cells #[.int .i64 c, .int .i64 i] 27))
  have B := Lib.hid (Blk.new w 27 #[.int .i64 c, .int .i64 i])
  have H := Lib.hid (h.alloc (.cells #[.int .i64 c, .int .i64 i] 27))
  have HB := Lib.hid hb
  clear h hb
  go_enter Try.func21, Try.ntmps21
  go_wp2_with (first
    | (go_at_call 12; refine (st_good _ _ _).mono ?_; rintro e w1 ⟨rfl, o1⟩; rw [HB.out]
       have O1 := Lib.hid (O.out.trans o1)
       have H1 := Lib.hid (H.out.only o1 (fun h => h))
       have b0 := (B.out.only o1 (fun h => h)).cell_ (i := 0) rfl
       clear o1)
    | (go_at_call 22; refine (clk_now _ _ _ _ H1.out).mono ?_; rintro e w' ⟨rfl, rfl⟩))
  refine wp_loop_rounds 1 ?_
  rw [rounds_succ]
  go_wp2_with fail
  go_ret
  exact ⟨rfl, H1.out, O1.out⟩

theorem clk_see (g : Nat) (s n : Int) (c i : Int) (w : World) (h : Clk w g s n) (hb : stGood ⟨c, i⟩ = true) (hl : n < c) :
    Calls Try.prog 21 #[.pointer (some ⟨g, 0, none⟩), .agg #[.int .i64 c, .int .i64 i]] w fun e w' => e = .returned (.bool true) ∧ Clk w' g s c ∧ Only (one g) w w' := by
  have O := Lib.hid ((Only.refl none_ w).alloc (.cells #[.int .i64 c, .int .i64 i] 27))
  have B := Lib.hid (Blk.new w 27 #[.int .i64 c, .int .i64 i])
  have H := Lib.hid (h.alloc (.cells #[.int .i64 c, .int .i64 i] 27))
  have HB := Lib.hid hb
  clear h hb
  go_enter Try.func21, Try.ntmps21
  go_wp2_with (first
    | (go_at_call 12; refine (st_good _ _ _).mono ?_; rintro e w1 ⟨rfl, o1⟩; rw [HB.out]
       have O1 := Lib.hid (O.out.trans o1)
       have H1 := Lib.hid (H.out.only o1 (fun h => h))
       have b0 := (B.out.only o1 (fun h => h)).cell_ (i := 0) rfl
       clear o1)
    | (go_at_call 22; refine (clk_now _ _ _ _ H1.out).mono ?_; rintro e w' ⟨rfl, rfl⟩))
  refine wp_loop_rounds 1 ?_
  rw [rounds_succ]
  go_wp2_with (first
    | (go_at_call 29; refine (clk_moved _ _ _ _ _ H1.out).mono ?_; rintro e w2 ⟨rfl, k2, o2⟩
       have K2 := Lib.hid k2
       have O2 := Lib.hid (O1.out.of_none.trans o2)
       clear k2 o2))
  go_ret
  exact ⟨rfl, K2.out, O2.out⟩
end Go.Proofs.Ytolgjjjclihmkaa
