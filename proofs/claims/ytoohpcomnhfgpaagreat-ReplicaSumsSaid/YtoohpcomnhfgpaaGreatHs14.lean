/- Texts of mine, one behind the other: OctX, RefT, EnH, StD, RpG, EnI, RpH, RpI, RpJ, RpK. No statement of the seat is proved here. -/
import Derived.Test.YtoohpcomnhfgpaaGreatHs13
import Derived.Test.YtoohpcomnhfgpaaGreatHs8
import Derived.Test.YtoohpcomnhfgpaaGreatHs2
import Derived.Deep.RegionHeld3
import Derived.Deep.DrawnRows
import Derived.Test.YtoohpcomnhfgpaaGreatHs4
import Derived.LoopTactic
section
namespace Go.Proofs.YtoohpcomnhfgpaaGreat
open Go.RowKit
set_option linter.all false
set_option maxRecDepth 100000
theorem blk_more {w : World} {t u : TypeId} (x y : Array Value) : Blk ((w.alloc (.cells x t)).alloc (.cells y u)) (w.heap.size + 1) u y := by have := Blk.new (w.alloc (.cells x t)) u y; simpa using this
set_option maxHeartbeats 1600000 in
theorem en_checked (e : En) (w : World) :
    Calls Tryz.prog 152 #[.agg #[.string e.k, .string e.v, .bool e.d, .int .i64 e.s.c, .int .i64 e.s.s, .int .i64 e.a.c, .int .i64 e.a.s, .int .i64 e.p, .int .i64 e.g]] w fun E w' => E = .returned (.tuple #[.agg #[.string (enChecked e).1.k, .string (enChecked e).1.v, .bool (enChecked e).1.d, .int .i64 (enChecked e).1.s.c, .int .i64 (enChecked e).1.s.s, .int .i64 (enChecked e).1.a.c, .int .i64 (enChecked e).1.a.s, .int .i64 (enChecked e).1.p, .int .i64 (enChecked e).1.g], .int .i64 (enChecked e).2]) ∧ Only none_ w w' := by
  have O := Lib.hid (((Only.refl none_ w).alloc (.cells #[.string e.k, .string e.v, .bool e.d, .int .i64 e.s.c, .int .i64 e.s.s, .int .i64 e.a.c, .int .i64 e.a.s, .int .i64 e.p, .int .i64 e.g] 82)).alloc (.cells #[.string enZero.k, .string enZero.v, .bool enZero.d, .int .i64 enZero.s.c, .int .i64 enZero.s.s, .int .i64 enZero.a.c, .int .i64 enZero.a.s, .int .i64 enZero.p, .int .i64 enZero.g] 82))
  have BX := Lib.hid ((Blk.new w 82 #[.string e.k, .string e.v, .bool e.d, .int .i64 e.s.c, .int .i64 e.s.s, .int .i64 e.a.c, .int .i64 e.a.s, .int .i64 e.p, .int .i64 e.g]).alloc (.cells #[.string enZero.k, .string enZero.v, .bool enZero.d, .int .i64 enZero.s.c, .int .i64 enZero.s.s, .int .i64 enZero.a.c, .int .i64 enZero.a.s, .int .i64 enZero.p, .int .i64 enZero.g] 82))
  have BZ := Lib.hid (blk_more (w := w) (t := 82) (u := 82) #[.string e.k, .string e.v, .bool e.d, .int .i64 e.s.c, .int .i64 e.s.s, .int .i64 e.a.c, .int .i64 e.a.s, .int .i64 e.p, .int .i64 e.g] #[.string enZero.k, .string enZero.v, .bool enZero.d, .int .i64 enZero.s.c, .int .i64 enZero.s.s, .int .i64 enZero.a.c, .int .i64 enZero.a.s, .int .i64 enZero.p, .int .i64 enZero.g])
  have HC : Hid (enChecked e = if enCheck e = 0 then (e, 0) else (enZero, enCheck e)) := rfl
  simp only [enZero, stZero] at O BX BZ
  obtain ⟨z, hz⟩ : ∃ z, enCheck e = z := ⟨_, rfl⟩
  rw [hz] at HC
  have HZ := Lib.hid hz
  clear hz
  cases h : z != 0
  · have hz0 : z = 0 := by simpa using h
    have HR : Hid (enChecked e = (e, 0)) := by rw [Hid, HC.out, if_pos hz0]
    go_enter Tryz.func152, Tryz.ntmps152
    go_wp2_with (go_at_call 83; refine (en_check e _).mono ?_; rintro E w1 ⟨rfl, o1⟩; rw [HZ.out]
                 have O1 := Lib.hid (O.out.trans o1)
                 have B1 := Lib.hid (BZ.out.only o1 (fun h => h))
                 have q := nine_of (BX.out.only o1 (fun h => h))
                 have q1 := nine_of B1.out
                 have z1 := frozen9 B1.out
                 clear o1)
    refine bodyPost_ret (results_cell_tmp rfl _ _ (w.heap.size + 1) 82 _ _ rfl (fill9_blk B1.out _ _ _ _ _ _ _ _ _) Tryz.underlying82 rfl (by kernel_rfl) _ rfl) rfl ?_
    rw [HR.out]
    exact ⟨rfl, fill9_only O1.out (.inr (by simp)) _ _ _ _ _ _ _ _ _⟩
  · have hz0 : z ≠ 0 := by simpa using h
    have HR : Hid (enChecked e = (enZero, z)) := by rw [Hid, HC.out, if_neg hz0]
    go_enter Tryz.func152, Tryz.ntmps152
    go_wp2_with (go_at_call 83; refine (en_check e _).mono ?_; rintro E w1 ⟨rfl, o1⟩; rw [HZ.out]
                 have O1 := Lib.hid (O.out.trans o1)
                 have B1 := Lib.hid (BZ.out.only o1 (fun h => h))
                 have q1 := nine_of B1.out
                 have z1 := frozen9 B1.out
                 clear o1)
    refine bodyPost_ret (results_cell_tmp rfl _ _ (w.heap.size + 1) 82 _ _ rfl (fill9_blk B1.out _ _ _ _ _ _ _ _ _) Tryz.underlying82 rfl (by kernel_rfl) _ rfl) rfl ?_
    rw [HR.out]
    exact ⟨rfl, fill9_only O1.out (.inr (by simp)) _ _ _ _ _ _ _ _ _⟩
set_option maxHeartbeats 1600000 in
theorem en_put (k v : ByteArray) (s : St) (w : World) :
    Calls Tryz.prog 92 #[.string k, .string v, .agg #[.int .i64 s.c, .int .i64 s.s]] w fun E w' => E = .returned (.tuple #[.agg #[.string (enChecked ⟨k, v, false, s, s, 0, 0⟩).1.k, .string (enChecked ⟨k, v, false, s, s, 0, 0⟩).1.v, .bool (enChecked ⟨k, v, false, s, s, 0, 0⟩).1.d, .int .i64 (enChecked ⟨k, v, false, s, s, 0, 0⟩).1.s.c, .int .i64 (enChecked ⟨k, v, false, s, s, 0, 0⟩).1.s.s, .int .i64 (enChecked ⟨k, v, false, s, s, 0, 0⟩).1.a.c, .int .i64 (enChecked ⟨k, v, false, s, s, 0, 0⟩).1.a.s, .int .i64 (enChecked ⟨k, v, false, s, s, 0, 0⟩).1.p, .int .i64 (enChecked ⟨k, v, false, s, s, 0, 0⟩).1.g], .int .i64 (enChecked ⟨k, v, false, s, s, 0, 0⟩).2]) ∧ Only none_ w w' := by
  have O := Lib.hid (((Only.refl none_ w).alloc (.cells #[.int .i64 s.c, .int .i64 s.s] 80)).alloc (.cells #[.string enZero.k, .string enZero.v, .bool enZero.d, .int .i64 enZero.s.c, .int .i64 enZero.s.s, .int .i64 enZero.a.c, .int .i64 enZero.a.s, .int .i64 enZero.p, .int .i64 enZero.g] 82))
  have BZ := Lib.hid (blk_more (w := w) (t := 80) (u := 82) #[.int .i64 s.c, .int .i64 s.s] #[.string enZero.k, .string enZero.v, .bool enZero.d, .int .i64 enZero.s.c, .int .i64 enZero.s.s, .int .i64 enZero.a.c, .int .i64 enZero.a.s, .int .i64 enZero.p, .int .i64 enZero.g])
  simp only [enZero, stZero] at O BZ
  have HC := fun w => en_checked ⟨k, v, false, s, s, 0, 0⟩ w
  obtain ⟨r, hr⟩ : ∃ r, enChecked ⟨k, v, false, s, s, 0, 0⟩ = r := ⟨_, rfl⟩
  rw [hr] at HC ⊢
  clear hr
  obtain ⟨f, z⟩ := r
  simp only at HC ⊢
  have HH := Lib.hid HC
  clear HC
  go_enter Tryz.func92, Tryz.ntmps92
  go_wp2_with (go_at_call 152; refine (HH.out _).mono ?_; rintro E w1 ⟨rfl, o1⟩
               have O1 := Lib.hid (O.out.trans o1)
               have B1 := Lib.hid (BZ.out.only o1 (fun h => h))
               have q1 := nine_of B1.out
               have z1 := frozen9 B1.out
               clear o1)
  exact bodyPost_ret (results_cell_tmp rfl _ _ (w.heap.size + 1) 82 _ _ rfl (fill9_blk B1.out _ _ _ _ _ _ _ _ _) Tryz.underlying82 rfl (by kernel_rfl) _ rfl) rfl ⟨rfl, fill9_only O1.out (.inr (by simp)) _ _ _ _ _ _ _ _ _⟩
set_option maxHeartbeats 1600000 in
theorem en_delete (k : ByteArray) (s : St) (p : Int) (w : World) :
    Calls Tryz.prog 97 #[.string k, .agg #[.int .i64 s.c, .int .i64 s.s], .int .i64 p] w fun E w' => E = .returned (.tuple #[.agg #[.string (enChecked ⟨k, ⟨#[]⟩, true, s, s, p, 0⟩).1.k, .string (enChecked ⟨k, ⟨#[]⟩, true, s, s, p, 0⟩).1.v, .bool (enChecked ⟨k, ⟨#[]⟩, true, s, s, p, 0⟩).1.d, .int .i64 (enChecked ⟨k, ⟨#[]⟩, true, s, s, p, 0⟩).1.s.c, .int .i64 (enChecked ⟨k, ⟨#[]⟩, true, s, s, p, 0⟩).1.s.s, .int .i64 (enChecked ⟨k, ⟨#[]⟩, true, s, s, p, 0⟩).1.a.c, .int .i64 (enChecked ⟨k, ⟨#[]⟩, true, s, s, p, 0⟩).1.a.s, .int .i64 (enChecked ⟨k, ⟨#[]⟩, true, s, s, p, 0⟩).1.p, .int .i64 (enChecked ⟨k, ⟨#[]⟩, true, s, s, p, 0⟩).1.g], .int .i64 (enChecked ⟨k, ⟨#[]⟩, true, s, s, p, 0⟩).2]) ∧ Only none_ w w' := by
  have O := Lib.hid (((Only.refl none_ w).alloc (.cells #[.int .i64 s.c, .int .i64 s.s] 80)).alloc (.cells #[.string enZero.k, .string enZero.v, .bool enZero.d, .int .i64 enZero.s.c, .int .i64 enZero.s.s, .int .i64 enZero.a.c, .int .i64 enZero.a.s, .int .i64 enZero.p, .int .i64 enZero.g] 82))
  have BZ := Lib.hid (blk_more (w := w) (t := 80) (u := 82) #[.int .i64 s.c, .int .i64 s.s] #[.string enZero.k, .string enZero.v, .bool enZero.d, .int .i64 enZero.s.c, .int .i64 enZero.s.s, .int .i64 enZero.a.c, .int .i64 enZero.a.s, .int .i64 enZero.p, .int .i64 enZero.g])
  simp only [enZero, stZero] at O BZ
  have HC := fun w => en_checked ⟨k, ⟨#[]⟩, true, s, s, p, 0⟩ w
  obtain ⟨r, hr⟩ : ∃ r, enChecked ⟨k, ⟨#[]⟩, true, s, s, p, 0⟩ = r := ⟨_, rfl⟩
  rw [hr] at HC ⊢
  clear hr
  obtain ⟨f, z⟩ := r
  simp only at HC ⊢
  have HH := Lib.hid HC
  clear HC
  go_enter Tryz.func97, Tryz.ntmps97
  go_wp2_with (go_at_call 152; refine (HH.out _).mono ?_; rintro E w1 ⟨rfl, o1⟩
               have O1 := Lib.hid (O.out.trans o1)
               have B1 := Lib.hid (BZ.out.only o1 (fun h => h))
               have q1 := nine_of B1.out
               have z1 := frozen9 B1.out
               clear o1)
  exact bodyPost_ret (results_cell_tmp rfl _ _ (w.heap.size + 1) 82 _ _ rfl (fill9_blk B1.out _ _ _ _ _ _ _ _ _) Tryz.underlying82 rfl (by kernel_rfl) _ rfl) rfl ⟨rfl, fill9_only O1.out (.inr (by simp)) _ _ _ _ _ _ _ _ _⟩
end Go.Proofs.YtoohpcomnhfgpaaGreat
end
section
namespace Go.Proofs.YtoohpcomnhfgpaaGreat
open Go.RowKit
set_option maxRecDepth 100000
theorem Only.set_one (g i : Nat) (u : Value) (w : World) : Only (one g) w (w.setCell ⟨g, i, none⟩ u) := (Only.refl (one g) w).setCell (p := ⟨g, i, none⟩) (.inl rfl) u
theorem clk_next_spent (g : Nat) (s : Int) (w : World) (h : Clk w g s 4294967295) :
    Calls Tryz.prog 198 #[.pointer (some ⟨g, 0, none⟩)] w fun e w' => e = .returned (.tuple #[.agg #[.int .i64 0, .int .i64 0], .int .i64 8]) ∧ Clk w' g s 4294967295 ∧ Only none_ w w' := by
  have O := Lib.hid ((Only.refl none_ w).alloc (.cells #[.int .i64 0, .int .i64 0] 80))
  have H := Lib.hid (h.alloc (.cells #[.int .i64 0, .int .i64 0] 80))
  clear h
  go_enter Tryz.func198, Tryz.ntmps198
  go_wp2_with (go_at_call 58; refine (clk_now _ _ _ _ H.out).mono ?_; rintro e w' ⟨rfl, rfl⟩)
  refine wp_loop_rounds 1 ?_
  rw [rounds_succ]
  go_wp2_with fail
  exact bodyPost_ret (v := .tuple #[.agg #[.int .i64 0, .int .i64 0], .int .i64 8]) (by simp [results, Tryz.results198, go_sem]) rfl ⟨rfl, H.out, O.out⟩
theorem clk_moved (g : Nat) (s n m : Int) (w : World) (h : Clk w g s n) :
    Calls Tryz.prog 144 #[.pointer (some ⟨g, 0, none⟩), .int .i64 n, .int .i64 m] w fun e w' => e = .returned (.bool true) ∧ Clk w' g s m ∧ Only (one g) w w' :=
  (clk_move g s n m w h).mono fun _ _ ⟨he, hw⟩ => ⟨he, by subst hw; exact h.set_ m, by subst hw; exact Only.set_one g 1 _ w⟩
theorem clk_next (g : Nat) (s n : Int) (w : World) (h : Clk w g s n) (h0 : 0 ≤ n) (h1 : n < 4294967295) :
    Calls Tryz.prog 198 #[.pointer (some ⟨g, 0, none⟩)] w fun e w' => e = .returned (.tuple #[.agg #[.int .i64 (n + 1), .int .i64 s], .int .i64 0]) ∧ Clk w' g s (n + 1) ∧ Only (one g) w w' := by
  have O := Lib.hid ((Only.refl (one g) w).alloc (.cells #[.int .i64 0, .int .i64 0] 80))
  have H := Lib.hid (h.alloc (.cells #[.int .i64 0, .int .i64 0] 80))
  have R := Lib.hid (Blk.new w 80 #[.int .i64 0, .int .i64 0])
  have hg := h.lt
  have hne : ¬ one g w.heap.size := fun e => by have e : w.heap.size = g := e; omega
  have HN := Lib.hid hne
  clear h hne
  go_enter Tryz.func198, Tryz.ntmps198
  go_wp2_with (go_at_call 58; refine (clk_now _ _ _ _ H.out).mono ?_; rintro e w' ⟨rfl, rfl⟩)
  refine wp_loop_rounds 1 ?_
  rw [rounds_succ]
  go_wp2_with (first
    | (go_at_call 144; refine (clk_moved _ _ _ _ _ H.out).mono ?_; rintro e w1 ⟨rfl, k1, o1⟩
       have s1 := k1.site
       have R1 := Lib.hid (R.out.only o1 HN.out)
       have r0 := R1.out.cell_ (i := 0) rfl
       have r1 := R1.out.cell_ (i := 1) rfl
       have z0 := R1.out.frozen 0
       have z1 := R1.out.frozen 1
       have K1 := Lib.hid k1
       have O1 := Lib.hid (O.out.trans o1)
       clear k1 o1))
  have q0 := (R1.out.set_ 0 (.int .i64 (n + 1))).cell_ (i := 0) (u := .int .i64 (n + 1)) (by simp)
  have q1 := ((R1.out.set_ 0 (.int .i64 (n + 1))).set_ 1 (.int .i64 s)).cell_ (i := 1) (u := .int .i64 s) (by simp)
  have oS : Only (one w.heap.size) w1 ((w1.setCell ⟨w.heap.size, 0, none⟩ (.int .i64 (n + 1))).setCell ⟨w.heap.size, 1, none⟩ (.int .i64 s)) := (Only.set_one _ _ _ _).trans (Only.set_one _ _ _ _)
  exact bodyPost_ret (v := .tuple #[.agg #[.int .i64 (n + 1), .int .i64 s], .int .i64 0]) (by simp [results, Tryz.results198, go_sem, q0, q1]) rfl
    ⟨rfl, K1.out.only oS (fun e => HN.out e.symm), (O1.out.setCell (p := ⟨w.heap.size, 0, none⟩) (.inr (Nat.le_refl _)) _).setCell (p := ⟨w.heap.size, 1, none⟩) (.inr (Nat.le_refl _)) _⟩
theorem clk_see_bad (g : Nat) (s n : Int) (c i : Int) (w : World) (h : Clk w g s n) (hb : stGood ⟨c, i⟩ = false) :
    Calls Tryz.prog 84 #[.pointer (some ⟨g, 0, none⟩), .agg #[.int .i64 c, .int .i64 i]] w fun e w' => e = .returned (.bool false) ∧ Clk w' g s n ∧ Only none_ w w' := by
  have O := Lib.hid ((Only.refl none_ w).alloc (.cells #[.int .i64 c, .int .i64 i] 80))
  have H := Lib.hid h
  have HB := Lib.hid hb
  clear h hb
  go_enter Tryz.func84, Tryz.ntmps84
  go_wp2_with (go_at_call 143; refine (st_good _ _ _).mono ?_; rintro e w1 ⟨rfl, o1⟩; rw [HB.out]; have O1 := Lib.hid (O.out.trans o1); clear o1)
  go_ret
  exact ⟨rfl, H.out.only O1.out (fun h => h), O1.out⟩
theorem clk_see_low (g : Nat) (s n : Int) (c i : Int) (w : World) (h : Clk w g s n) (hb : stGood ⟨c, i⟩ = true) (hl : c ≤ n) :
    Calls Tryz.prog 84 #[.pointer (some ⟨g, 0, none⟩), .agg #[.int .i64 c, .int .i64 i]] w fun e w' => e = .returned (.bool false) ∧ Clk w' g s n ∧ Only none_ w w' := by
  have O := Lib.hid ((Only.refl none_ w).alloc (.cells #[.int .i64 c, .int .i64 i] 80))
  have B := Lib.hid (Blk.new w 80 #[.int .i64 c, .int .i64 i])
  have H := Lib.hid (h.alloc (.cells #[.int .i64 c, .int .i64 i] 80))
  have HB := Lib.hid hb
  clear h hb
  go_enter Tryz.func84, Tryz.ntmps84
  go_wp2_with (first
    | (go_at_call 143; refine (st_good _ _ _).mono ?_; rintro e w1 ⟨rfl, o1⟩; rw [HB.out]
       have O1 := Lib.hid (O.out.trans o1)
       have H1 := Lib.hid (H.out.only o1 (fun h => h))
       have b0 := (B.out.only o1 (fun h => h)).cell_ (i := 0) rfl
       clear o1)
    | (go_at_call 58; refine (clk_now _ _ _ _ H1.out).mono ?_; rintro e w' ⟨rfl, rfl⟩))
  refine wp_loop_rounds 1 ?_
  rw [rounds_succ]
  go_wp2_with fail
  go_ret
  exact ⟨rfl, H1.out, O1.out⟩
theorem clk_see (g : Nat) (s n : Int) (c i : Int) (w : World) (h : Clk w g s n) (hb : stGood ⟨c, i⟩ = true) (hl : n < c) :
    Calls Tryz.prog 84 #[.pointer (some ⟨g, 0, none⟩), .agg #[.int .i64 c, .int .i64 i]] w fun e w' => e = .returned (.bool true) ∧ Clk w' g s c ∧ Only (one g) w w' := by
  have O := Lib.hid ((Only.refl none_ w).alloc (.cells #[.int .i64 c, .int .i64 i] 80))
  have B := Lib.hid (Blk.new w 80 #[.int .i64 c, .int .i64 i])
  have H := Lib.hid (h.alloc (.cells #[.int .i64 c, .int .i64 i] 80))
  have HB := Lib.hid hb
  clear h hb
  go_enter Tryz.func84, Tryz.ntmps84
  go_wp2_with (first
    | (go_at_call 143; refine (st_good _ _ _).mono ?_; rintro e w1 ⟨rfl, o1⟩; rw [HB.out]
       have O1 := Lib.hid (O.out.trans o1)
       have H1 := Lib.hid (H.out.only o1 (fun h => h))
       have b0 := (B.out.only o1 (fun h => h)).cell_ (i := 0) rfl
       clear o1)
    | (go_at_call 58; refine (clk_now _ _ _ _ H1.out).mono ?_; rintro e w' ⟨rfl, rfl⟩))
  refine wp_loop_rounds 1 ?_
  rw [rounds_succ]
  go_wp2_with (first
    | (go_at_call 144; refine (clk_moved _ _ _ _ _ H1.out).mono ?_; rintro e w2 ⟨rfl, k2, o2⟩
       have K2 := Lib.hid k2
       have O2 := Lib.hid (O1.out.of_none.trans o2)
       clear k2 o2))
  go_ret
  exact ⟨rfl, K2.out, O2.out⟩
end Go.Proofs.YtoohpcomnhfgpaaGreat
end
section
namespace Go.Proofs.YtoohpcomnhfgpaaGreat
open Go.RowKit
set_option maxRecDepth 100000
set_option linter.all false
def Bx (a : Ra) (bx : List (Nat × TypeId × Array Value)) (w : World) : Prop := ∀ p ∈ bx, Bn a p.1 p.2.1 p.2.2 w
theorem Bx.keep {a : Ra} {bx : List (Nat × TypeId × Array Value)} {w w' : World} (h : Bx a bx w) (o : Only none_ w w') : Bx a bx w' := fun p hp => (h p hp).keep o
structure Ver (F : FuncId) (cap : Array Value) (bx : List (Nat × TypeId × Array Value)) (f : St → En × Int) : Prop where
  run : ∀ (args : Array Value) (w : World), (callFunc F args).run Tryz.prog w = .ok (.enter F args) w
  clo : ∀ (X : World) (st : St), (∀ p ∈ bx, Blk X p.1 p.2.1 p.2.2) → Calls Tryz.prog F (#[.agg #[.int .i64 st.c, .int .i64 st.s]] ++ cap) X fun E w' => E = .returned (.tuple #[.agg #[.string (f st).1.k, .string (f st).1.v, .bool (f st).1.d, .int .i64 (f st).1.s.c, .int .i64 (f st).1.s.s, .int .i64 (f st).1.a.c, .int .i64 (f st).1.a.s, .int .i64 (f st).1.p, .int .i64 (f st).1.g], .int .i64 (f st).2]) ∧ Only none_ X w'
set_option maxHeartbeats 6400000 in
theorem rp_fault (B : World) (a : Ra) (s : Rs) (F : FuncId) (cap : Array Value) (bx : List (Nat × TypeId × Array Value)) (f : St → En × Int) (hv : Ver F cap bx f) (w : World) (h : Rp B a s w) (hb : Bx a bx w) :
    Calls Tryz.prog 93 #[.pointer (some ⟨a.r, 0, none⟩), .func (.func F) #[] cap] w fun E w' => E = .returned (.int .i64 (f ⟨1, s.site⟩).2) ∧ Only none_ w w' := by
  have c5 := h.bk.cell_ (i := 5) rfl
  have HSI := Lib.hid (clk_site a.ck s.site s.c w h.ck)
  have hrun := hv.run
  have HV := Lib.hid (fun (X : World) (o : Only none_ w X) => hv.clo X ⟨1, s.site⟩ (fun p hp => (hb p hp).b.only o (fun h => h)))
  obtain ⟨⟨e, z⟩, hf⟩ : ∃ q, f ⟨1, s.site⟩ = q := ⟨_, rfl⟩
  rw [hf] at HV ⊢
  obtain ⟨ek, vv, d, ⟨sc, ss⟩, ⟨ac, as_⟩, p, g⟩ := e
  dsimp only at HV ⊢
  clear h hb hv hf
  go_enter Tryz.func93, Tryz.ntmps93
  go_wp2_with (first
    | (go_at_call 75; refine HSI.out.mono ?_; rintro E w1 ⟨rfl, rfl⟩)
    | (refine (HV.out _ (Only.refl none_ _)).mono ?_; rintro E w2 ⟨rfl, o2⟩
       have O2 := Lib.hid o2
       clear o2)
    | (with_reducible refine wpl_new rfl rfl 82 rfl _ _ rfl #[.string (⟨ek, vv, d, ⟨sc, ss⟩, ⟨ac, as_⟩, p, g⟩ : En).k, .string (⟨ek, vv, d, ⟨sc, ss⟩, ⟨ac, as_⟩, p, g⟩ : En).v, .bool (⟨ek, vv, d, ⟨sc, ss⟩, ⟨ac, as_⟩, p, g⟩ : En).d, .int .i64 (⟨ek, vv, d, ⟨sc, ss⟩, ⟨ac, as_⟩, p, g⟩ : En).s.c, .int .i64 (⟨ek, vv, d, ⟨sc, ss⟩, ⟨ac, as_⟩, p, g⟩ : En).s.s, .int .i64 (⟨ek, vv, d, ⟨sc, ss⟩, ⟨ac, as_⟩, p, g⟩ : En).a.c, .int .i64 (⟨ek, vv, d, ⟨sc, ss⟩, ⟨ac, as_⟩, p, g⟩ : En).a.s, .int .i64 (⟨ek, vv, d, ⟨sc, ss⟩, ⟨ac, as_⟩, p, g⟩ : En).p, .int .i64 (⟨ek, vv, d, ⟨sc, ss⟩, ⟨ac, as_⟩, p, g⟩ : En).g] rfl rfl (by kernel_rfl) (en_cells_one (⟨ek, vv, d, ⟨sc, ss⟩, ⟨ac, as_⟩, p, g⟩ : En)) ?_))
  go_ret
  exact ⟨rfl, O2.out.alloc _⟩
end Go.Proofs.YtoohpcomnhfgpaaGreat
end
section
namespace Go.Proofs.YtoohpcomnhfgpaaGreat
open Go.RowKit
set_option linter.all false
set_option maxRecDepth 100000
theorem two_of {w : World} {g : Nat} {t : TypeId} {a b : Value} (h : Blk w g t #[a, b]) : w.cell? ⟨g, 0, none⟩ = some a ∧ w.cell? ⟨g, 1, none⟩ = some b := ⟨h.cell_ rfl, h.cell_ rfl⟩
set_option maxHeartbeats 6400000 in
theorem en_wake (e : En) (a : St) (w : World) :
    Calls Tryz.prog 197 #[.agg #[.string e.k, .string e.v, .bool e.d, .int .i64 e.s.c, .int .i64 e.s.s, .int .i64 e.a.c, .int .i64 e.a.s, .int .i64 e.p, .int .i64 e.g], .agg #[.int .i64 a.c, .int .i64 a.s]] w fun E w' => E = .returned (.tuple #[.agg #[.string (enWake e a).1.k, .string (enWake e a).1.v, .bool (enWake e a).1.d, .int .i64 (enWake e a).1.s.c, .int .i64 (enWake e a).1.s.s, .int .i64 (enWake e a).1.a.c, .int .i64 (enWake e a).1.a.s, .int .i64 (enWake e a).1.p, .int .i64 (enWake e a).1.g], .int .i64 (enWake e a).2]) ∧ Only none_ w w' := by
  have O := Lib.hid ((((Only.refl none_ w).alloc (.cells #[.string e.k, .string e.v, .bool e.d, .int .i64 e.s.c, .int .i64 e.s.s, .int .i64 e.a.c, .int .i64 e.a.s, .int .i64 e.p, .int .i64 e.g] 82)).alloc (.cells #[.int .i64 a.c, .int .i64 a.s] 80)).alloc (.cells #[.string enZero.k, .string enZero.v, .bool enZero.d, .int .i64 enZero.s.c, .int .i64 enZero.s.s, .int .i64 enZero.a.c, .int .i64 enZero.a.s, .int .i64 enZero.p, .int .i64 enZero.g] 82))
  have BX := Lib.hid (((Blk.new w 82 #[.string e.k, .string e.v, .bool e.d, .int .i64 e.s.c, .int .i64 e.s.s, .int .i64 e.a.c, .int .i64 e.a.s, .int .i64 e.p, .int .i64 e.g]).alloc (.cells #[.int .i64 a.c, .int .i64 a.s] 80)).alloc (.cells #[.string enZero.k, .string enZero.v, .bool enZero.d, .int .i64 enZero.s.c, .int .i64 enZero.s.s, .int .i64 enZero.a.c, .int .i64 enZero.a.s, .int .i64 enZero.p, .int .i64 enZero.g] 82))
  have BY := Lib.hid ((blk_more (w := w) (t := 82) (u := 80) #[.string e.k, .string e.v, .bool e.d, .int .i64 e.s.c, .int .i64 e.s.s, .int .i64 e.a.c, .int .i64 e.a.s, .int .i64 e.p, .int .i64 e.g] #[.int .i64 a.c, .int .i64 a.s]).alloc (.cells #[.string enZero.k, .string enZero.v, .bool enZero.d, .int .i64 enZero.s.c, .int .i64 enZero.s.s, .int .i64 enZero.a.c, .int .i64 enZero.a.s, .int .i64 enZero.p, .int .i64 enZero.g] 82))
  have BZ := Blk.new ((w.alloc (.cells #[.string e.k, .string e.v, .bool e.d, .int .i64 e.s.c, .int .i64 e.s.s, .int .i64 e.a.c, .int .i64 e.a.s, .int .i64 e.p, .int .i64 e.g] 82)).alloc (.cells #[.int .i64 a.c, .int .i64 a.s] 80)) 82 #[.string enZero.k, .string enZero.v, .bool enZero.d, .int .i64 enZero.s.c, .int .i64 enZero.s.s, .int .i64 enZero.a.c, .int .i64 enZero.a.s, .int .i64 enZero.p, .int .i64 enZero.g]
  simp only [World.size_alloc] at BZ
  have BZ := Lib.hid BZ
  simp only [enZero, stZero] at O BX BY BZ
  obtain ⟨z, hz⟩ : ∃ z, enCheck e = z := ⟨_, rfl⟩
  obtain ⟨gb, hg⟩ : ∃ b, stGood ⟨a.c, a.s⟩ = b := ⟨_, rfl⟩
  obtain ⟨lt, hl⟩ : ∃ b, stLater ⟨a.c, a.s⟩ ⟨e.a.c, e.a.s⟩ = b := ⟨_, rfl⟩
  obtain ⟨r, hr⟩ : ∃ b, stCmp ⟨a.c, a.s⟩ ⟨e.a.c, e.a.s⟩ = b := ⟨_, rfl⟩
  have ways := wake_ways e a z gb lt r hz hg hl hr
  have HZ0 := fun w => en_check e w
  rw [hz] at HZ0
  have HZ := Lib.hid HZ0
  have HG := Lib.hid hg
  have HL := Lib.hid hl
  have HR := Lib.hid hr
  clear hz hg hl hr HZ0
  obtain ⟨x, hx⟩ : ∃ x, enWake e a = x := ⟨_, rfl⟩
  rw [hx] at ways ⊢
  clear hx
  obtain ⟨k, v, d, s, b, p, g⟩ := e
  simp only at *
  rcases ways with ⟨h0, rfl⟩ | ⟨h0, rfl, rfl⟩ | ⟨h0, rfl, rfl, rfl⟩ | ⟨h0, rfl, rfl, rfl, h4, rfl⟩ | ⟨h0, rfl, rfl, rfl, h4, rfl⟩
  all_goals
    go_enter Tryz.func197, Tryz.ntmps197
    go_wp2_with (first
      | (go_at_call 83; refine (HZ.out _).mono ?_; rintro E w1 ⟨rfl, o1⟩
         have O1 := Lib.hid (O.out.trans o1)
         have X1 := Lib.hid (BX.out.only o1 (fun h => h))
         have Y1 := Lib.hid (BY.out.only o1 (fun h => h))
         have Z1 := Lib.hid (BZ.out.only o1 (fun h => h))
         have x1 := nine_of X1.out
         have y1 := two_of Y1.out
         have z1 := nine_of Z1.out
         have f1 := frozen9 Z1.out
         clear o1)
      | (go_at_call 143; refine (st_good _ _ _).mono ?_; rintro E w2 ⟨rfl, o2⟩; rw [HG.out]
         have O2 := Lib.hid (O1.out.trans o2)
         have X2 := Lib.hid (X1.out.only o2 (fun h => h))
         have Y2 := Lib.hid (Y1.out.only o2 (fun h => h))
         have Z2 := Lib.hid (Z1.out.only o2 (fun h => h))
         have x2 := nine_of X2.out
         have y2 := two_of Y2.out
         have z2 := nine_of Z2.out
         have f2 := frozen9 Z2.out
         clear o2)
      | (go_at_call 140; refine (st_compare _ _ _ _ _).mono ?_; rintro E w3 ⟨rfl, o3⟩; rw [HR.out]
         have O3 := Lib.hid (O2.out.trans o3)
         have X3 := Lib.hid (X2.out.only o3 (fun h => h))
         have Z3 := Lib.hid (Z2.out.only o3 (fun h => h))
         have y3 := two_of (Y2.out.only o3 (fun h => h))
         have x3 := nine_of X3.out
         have z3 := nine_of Z3.out
         have f3 := frozen9 Z3.out
         have u3 := frozen9 X3.out
         clear o3))
  · exact bodyPost_ret (results_cell_tmp rfl _ _ (w.heap.size + 1 + 1) 82 _ _ rfl (fill9_blk Z1.out _ _ _ _ _ _ _ _ _) Tryz.underlying82 rfl (by kernel_rfl) _ rfl) rfl ⟨rfl, fill9_only O1.out (.inr (by show w.heap.size ≤ w.heap.size + 1 + 1; omega)) _ _ _ _ _ _ _ _ _⟩
  · exact bodyPost_ret (results_cell_tmp rfl _ _ (w.heap.size + 1 + 1) 82 _ _ rfl (fill9_blk Z1.out _ _ _ _ _ _ _ _ _) Tryz.underlying82 rfl (by kernel_rfl) _ rfl) rfl ⟨rfl, fill9_only O1.out (.inr (by show w.heap.size ≤ w.heap.size + 1 + 1; omega)) _ _ _ _ _ _ _ _ _⟩
  · exact bodyPost_ret (results_cell_tmp rfl _ _ (w.heap.size + 1 + 1) 82 _ _ rfl (fill9_blk Z2.out _ _ _ _ _ _ _ _ _) Tryz.underlying82 rfl (by kernel_rfl) _ rfl) rfl ⟨rfl, fill9_only O2.out (.inr (by show w.heap.size ≤ w.heap.size + 1 + 1; omega)) _ _ _ _ _ _ _ _ _⟩
  · exact bodyPost_ret (results_cell_tmp rfl _ _ (w.heap.size + 1 + 1) 82 _ _ rfl (fill9_blk Z3.out _ _ _ _ _ _ _ _ _) Tryz.underlying82 rfl (by kernel_rfl) _ rfl) rfl ⟨rfl, fill9_only O3.out (.inr (by show w.heap.size ≤ w.heap.size + 1 + 1; omega)) _ _ _ _ _ _ _ _ _⟩
  · have hne : w.heap.size + 1 + 1 ≠ w.heap.size := by omega
    have Z4 := ((Z3.out.far (p := ⟨w.heap.size, 5, none⟩) hne (.int .i64 a.c)).far (p := ⟨w.heap.size, 6, none⟩) hne (.int .i64 a.s)).far (p := ⟨w.heap.size, 8, none⟩) hne (.int .i64 0)
    have O4 := ((O3.out.setCell (p := ⟨w.heap.size, 5, none⟩) (.inr (Nat.le_refl _)) (.int .i64 a.c)).setCell (p := ⟨w.heap.size, 6, none⟩) (.inr (Nat.le_refl _)) (.int .i64 a.s)).setCell (p := ⟨w.heap.size, 8, none⟩) (.inr (Nat.le_refl _)) (.int .i64 0)
    exact bodyPost_ret (results_cell_tmp rfl _ _ (w.heap.size + 1 + 1) 82 _ _ rfl (fill9_blk Z4 _ _ _ _ _ _ _ _ _) Tryz.underlying82 rfl (by kernel_rfl) _ rfl) rfl ⟨rfl, fill9_only O4 (.inr (by show w.heap.size ≤ w.heap.size + 1 + 1; omega)) _ _ _ _ _ _ _ _ _⟩
end Go.Proofs.YtoohpcomnhfgpaaGreat
end
section
namespace Go.Proofs.YtoohpcomnhfgpaaGreat
open Go.RowKit
set_option maxRecDepth 100000
set_option linter.all false
theorem Bx.step {a a' : Ra} {bx : List (Nat × TypeId × Array Value)} {w w' : World} (h : Bx a bx w) (b : ∀ n t cs, Bn a n t cs w → Bn a' n t cs w') : Bx a' bx w' := fun p hp => b _ _ _ (h p hp)
def nxR (s : Rs) (x : En) : Rs × En × Int := if s.c = 4294967295 then (s, enZero, 8) else dnR { s with c := s.c + 1 } x
set_option maxHeartbeats 12800000 in
theorem rp_next_spent (B : World) (a : Ra) (s : Rs) (F : FuncId) (cap : Array Value) (w : World) (h : Rp B a s w) (hc : s.c = 4294967295) :
    Calls Tryz.prog 153 #[.pointer (some ⟨a.r, 0, none⟩), .func (.func F) #[] cap] w fun E w' => E = .returned (.tuple #[.agg #[.string ⟨#[]⟩, .string ⟨#[]⟩, .bool false, .int .i64 0, .int .i64 0, .int .i64 0, .int .i64 0, .int .i64 0, .int .i64 0], .int .i64 8]) ∧ LeftP B a w s w' := by
  have C2 := Lib.hid ((Cy.begin h).keep ((Only.refl none_ w).alloc (.cells #[.string ⟨#[]⟩, .string ⟨#[]⟩, .bool false, .int .i64 0, .int .i64 0, .int .i64 0, .int .i64 0, .int .i64 0, .int .i64 0] 82)))
  have M2 : Hid (Bn a w.heap.size 82 #[.string ⟨#[]⟩, .string ⟨#[]⟩, .bool false, .int .i64 0, .int .i64 0, .int .i64 0, .int .i64 0, .int .i64 0, .int .i64 0] (w.alloc (.cells #[.string ⟨#[]⟩, .string ⟨#[]⟩, .bool false, .int .i64 0, .int .i64 0, .int .i64 0, .int .i64 0, .int .i64 0, .int .i64 0] 82))) := Bn.new h
  have HNX := Lib.hid (fun (X : World) (hX : Rp B a s X) => clk_next_spent a.ck s.site X (by have := hX.ck; rw [hc] at this; exact this))
  have c5 := C2.out.r.bk.cell_ (i := 5) rfl
  clear h hc
  go_enter Tryz.func153, Tryz.ntmps153
  go_wp2_with (first
    | (go_at_call 198; refine (HNX.out _ C2.out.r).mono ?_; rintro E w3 ⟨rfl, _, o3⟩
       have C3 := Lib.hid ((C2.out.keep o3).keep ((Only.refl none_ _).alloc (.cells #[.int .i64 0, .int .i64 0] 80)))
       have M3 := Lib.hid ((M2.out.keep o3).keep ((Only.refl none_ _).alloc (.cells #[.int .i64 0, .int .i64 0] 80)))
       clear o3)
    | (with_reducible refine wpl_new rfl rfl 80 rfl _ _ rfl #[.int .i64 0, .int .i64 0] rfl rfl (by kernel_rfl) (by kernel_rfl) ?_)
    | (refine wpList_store_row rfl 82 _ _ rfl w.heap.size #[.string ⟨#[]⟩, .string ⟨#[]⟩, .bool false, .int .i64 0, .int .i64 0, .int .i64 0, .int .i64 0, .int .i64 0, .int .i64 0] rfl rfl _ _ M3.out.b (by kernel_rfl) (by kernel_rfl) (by kernel_rfl) ?_))
  refine bodyPost_ret (results_cell_tmp rfl _ _ w.heap.size 82 #[.string ⟨#[]⟩, .string ⟨#[]⟩, .bool false, .int .i64 0, .int .i64 0, .int .i64 0, .int .i64 0, .int .i64 0, .int .i64 0] _ rfl (M3.out.b.setRow _) Tryz.underlying82 rfl (by kernel_rfl) (.int .i64 8) rfl) rfl ?_
  exact ⟨rfl, (C3.out.box M3.out (Nat.le_refl _) (only_row _ _)).left⟩
set_option maxHeartbeats 25600000 in
theorem rp_next_ok (B : World) (a : Ra) (s : Rs) (F : FuncId) (cap : Array Value) (bx : List (Nat × TypeId × Array Value)) (f : St → En × Int) (hv : Ver F cap bx f) (x : En) (w : World) (h : Rp B a s w) (hb : Bx a bx w) (hc0 : 0 ≤ s.c) (hc1 : s.c < 4294967295)
    (hx : f ⟨s.c + 1, s.site⟩ = (x, 0)) (ok : Rky s) (hc : enCheck x = 0) (hf : fullM s.o s.tab x.k = false) :
    Calls Tryz.prog 153 #[.pointer (some ⟨a.r, 0, none⟩), .func (.func F) #[] cap] w fun E w' => E = .returned (.tuple #[.agg #[.string (dnR { s with c := s.c + 1 } x).2.1.k, .string (dnR { s with c := s.c + 1 } x).2.1.v, .bool (dnR { s with c := s.c + 1 } x).2.1.d, .int .i64 (dnR { s with c := s.c + 1 } x).2.1.s.c, .int .i64 (dnR { s with c := s.c + 1 } x).2.1.s.s, .int .i64 (dnR { s with c := s.c + 1 } x).2.1.a.c, .int .i64 (dnR { s with c := s.c + 1 } x).2.1.a.s, .int .i64 (dnR { s with c := s.c + 1 } x).2.1.p, .int .i64 (dnR { s with c := s.c + 1 } x).2.1.g], .int .i64 (dnR { s with c := s.c + 1 } x).2.2]) ∧ LeftP B a w (dnR { s with c := s.c + 1 } x).1 w' := by
  obtain ⟨r, hr⟩ : ∃ r, a.r = r := ⟨_, rfl⟩
  have C2 := Lib.hid ((Cy.begin h).keep ((Only.refl none_ w).alloc (.cells #[.string ⟨#[]⟩, .string ⟨#[]⟩, .bool false, .int .i64 0, .int .i64 0, .int .i64 0, .int .i64 0, .int .i64 0, .int .i64 0] 82)))
  have M2 : Hid (Bn a w.heap.size 82 #[.string ⟨#[]⟩, .string ⟨#[]⟩, .bool false, .int .i64 0, .int .i64 0, .int .i64 0, .int .i64 0, .int .i64 0, .int .i64 0] (w.alloc (.cells #[.string ⟨#[]⟩, .string ⟨#[]⟩, .bool false, .int .i64 0, .int .i64 0, .int .i64 0, .int .i64 0, .int .i64 0, .int .i64 0] 82))) := Bn.new h
  have B2 := Lib.hid (hb.keep ((Only.refl none_ w).alloc (.cells #[.string ⟨#[]⟩, .string ⟨#[]⟩, .bool false, .int .i64 0, .int .i64 0, .int .i64 0, .int .i64 0, .int .i64 0, .int .i64 0] 82)))
  have HNX := Lib.hid (fun (X : World) (hX : Rp B a s X) => clk_next a.ck s.site s.c X hX.ck hc0 hc1)
  obtain ⟨s1, hs1⟩ : ∃ s1, ({ s with c := s.c + 1 } : Rs) = s1 := ⟨_, rfl⟩
  have HCK : Hid (∀ (X X' : World) (hX : Rp B a s X), Clk X' a.ck s.site (s.c + 1) → Only (one a.ck) X X' → LeftP B a X s1 X') := fun X X' hX hk o => by rw [← hs1]; exact hX.ck_set hk o
  have HDN := Lib.hid (fun (a1 : Ra) (X : World) (hX : Rp B a1 s1 X) (e1 : a1.r = r) => by
    have := rp_down B a1 s1 x X hX (by rw [← hs1]; exact ⟨ok.m, ok.g, ok.w, ok.d, ok.n⟩) hc (by rw [← hs1]; exact hf)
    rw [e1] at this
    exact this)
  rw [hs1]
  obtain ⟨⟨s2, e2, z2⟩, hq⟩ : ∃ q, dnR s1 x = q := ⟨_, rfl⟩
  rw [hq] at HDN ⊢
  have hrun := hv.run
  have HV := Lib.hid (fun (X : World) (hB : ∀ p ∈ bx, Blk X p.1 p.2.1 p.2.2) => hv.clo X ⟨s.c + 1, s.site⟩ hB)
  rw [hx] at HV
  obtain ⟨cn, hcn⟩ : ∃ n, s.c + 1 = n := ⟨_, rfl⟩
  rw [hcn] at HV HCK HNX
  have c5 := C2.out.r.at_ hr (i := 5) rfl
  dsimp only at HDN HV ⊢
  rw [hr]
  have HR := Lib.hid hr
  clear h hr hb hv hc0 hc1 hx ok hc hf hs1 hq hcn
  go_enter Tryz.func153, Tryz.ntmps153
  go_wp2_with (first
    | (go_at_call 198; refine (HNX.out _ C2.out.r).mono ?_; rintro E w3 ⟨rfl, k3, o3⟩
       obtain ⟨a3, c3, e3, b3⟩ := C2.out.step (HCK.out _ _ C2.out.r k3 o3)
       have C30 := Lib.hid c3
       have C3 := Lib.hid (c3.keep ((Only.refl none_ _).alloc (.cells #[.int .i64 cn, .int .i64 s.site] 80)))
       have M3 := Lib.hid ((b3 _ _ _ M2.out).keep ((Only.refl none_ _).alloc (.cells #[.int .i64 cn, .int .i64 s.site] 80)))
       have B3 : Hid (Bx a3 bx _) := (B2.out.step b3).keep ((Only.refl none_ _).alloc (.cells #[.int .i64 cn, .int .i64 s.site] 80))
       have BS := Lib.hid (Blk.new w3 80 #[.int .i64 cn, .int .i64 s.site])
       have p3 := two_of BS.out
       have E3 : Hid (a3.r = r) := e3.trans HR.out
       clear k3 o3 c3 e3 b3)
    | (with_reducible refine wpl_new rfl rfl 80 rfl _ _ rfl #[.int .i64 cn, .int .i64 s.site] rfl rfl (by kernel_rfl) (by kernel_rfl) ?_)
    | (refine (HV.out _ (fun p hp => (B3.out p hp).b)).mono ?_; rintro E w4 ⟨rfl, o4⟩
       have C4 := Lib.hid ((C3.out.keep o4).keep ((Only.refl none_ _).alloc (.cells #[.string x.k, .string x.v, .bool x.d, .int .i64 x.s.c, .int .i64 x.s.s, .int .i64 x.a.c, .int .i64 x.a.s, .int .i64 x.p, .int .i64 x.g] 82)))
       have M4 := Lib.hid ((M3.out.keep o4).keep ((Only.refl none_ _).alloc (.cells #[.string x.k, .string x.v, .bool x.d, .int .i64 x.s.c, .int .i64 x.s.s, .int .i64 x.a.c, .int .i64 x.a.s, .int .i64 x.p, .int .i64 x.g] 82)))
       have BE := Lib.hid (Blk.new w4 82 #[.string x.k, .string x.v, .bool x.d, .int .i64 x.s.c, .int .i64 x.s.s, .int .i64 x.a.c, .int .i64 x.a.s, .int .i64 x.p, .int .i64 x.g])
       have q4 := nine_of BE.out
       clear o4)
    | (with_reducible refine wpl_new rfl rfl 82 rfl _ _ rfl #[.string x.k, .string x.v, .bool x.d, .int .i64 x.s.c, .int .i64 x.s.s, .int .i64 x.a.c, .int .i64 x.a.s, .int .i64 x.p, .int .i64 x.g] rfl rfl (by kernel_rfl) (en_cells_one x) ?_)
    | (go_at_call 194; refine (HDN.out a3 _ C4.out.r E3.out).mono ?_; rintro E w5 ⟨rfl, L5⟩
       obtain ⟨a5, c5', e5, b5⟩ := C4.out.step L5
       have C5 := Lib.hid c5'
       have M5 := Lib.hid (b5 _ _ _ M4.out)
       clear c5' e5 b5 L5)
    | (refine wpList_store_row rfl 82 _ _ rfl w.heap.size #[.string e2.k, .string e2.v, .bool e2.d, .int .i64 e2.s.c, .int .i64 e2.s.s, .int .i64 e2.a.c, .int .i64 e2.a.s, .int .i64 e2.p, .int .i64 e2.g] rfl rfl _ _ M5.out.b (by kernel_rfl) (by kernel_rfl) (en_cells_one _) ?_))
  refine bodyPost_ret (results_cell_tmp rfl _ _ w.heap.size 82 #[.string e2.k, .string e2.v, .bool e2.d, .int .i64 e2.s.c, .int .i64 e2.s.s, .int .i64 e2.a.c, .int .i64 e2.a.s, .int .i64 e2.p, .int .i64 e2.g] _ rfl (M5.out.b.setRow _) Tryz.underlying82 rfl (by kernel_rfl) (.int .i64 z2) rfl) rfl ?_
  exact ⟨rfl, (C5.out.box M5.out (Nat.le_refl _) (only_row _ _)).left⟩
theorem rp_next (B : World) (a : Ra) (s : Rs) (F : FuncId) (cap : Array Value) (bx : List (Nat × TypeId × Array Value)) (f : St → En × Int) (hv : Ver F cap bx f) (x : En) (w : World) (h : Rp B a s w) (hb : Bx a bx w) (hc0 : 0 ≤ s.c ∧ s.c ≤ 4294967295)
    (hx : s.c < 4294967295 → f ⟨s.c + 1, s.site⟩ = (x, 0) ∧ enCheck x = 0 ∧ fullM s.o s.tab x.k = false) (ok : Rky s) :
    Calls Tryz.prog 153 #[.pointer (some ⟨a.r, 0, none⟩), .func (.func F) #[] cap] w fun E w' => E = .returned (.tuple #[.agg #[.string (nxR s x).2.1.k, .string (nxR s x).2.1.v, .bool (nxR s x).2.1.d, .int .i64 (nxR s x).2.1.s.c, .int .i64 (nxR s x).2.1.s.s, .int .i64 (nxR s x).2.1.a.c, .int .i64 (nxR s x).2.1.a.s, .int .i64 (nxR s x).2.1.p, .int .i64 (nxR s x).2.1.g], .int .i64 (nxR s x).2.2]) ∧ LeftP B a w (nxR s x).1 w' := by
  by_cases hm : s.c = 4294967295
  · rw [nxR, if_pos hm]
    exact rp_next_spent B a s F cap w h hm
  · rw [nxR, if_neg hm]
    obtain ⟨h1, h2, h3⟩ := hx (by omega)
    exact rp_next_ok B a s F cap bx f hv x w h hb hc0.1 (by omega) h1 ok h2 h3
end Go.Proofs.YtoohpcomnhfgpaaGreat
end
section
namespace Go.Proofs.YtoohpcomnhfgpaaGreat
open Go.RowKit
set_option maxRecDepth 100000
set_option linter.all false
theorem mq_len {P : Program} {t k e : TypeId} {w : World} {b : Nat} {l : List ByteArray} (ht : P.underlying t = some (.map k e)) (h : Mq w b l) (ty : TypeId) :
    (Builtin.len_ #[t] ty #[.map (some b)]).run P w = .ok (.int .i64 l.length) w := by
  obtain ⟨es, clock, hb, h1, h2⟩ := h
  have hl : es.size = l.length := by have := h1.length_eq; simpa using this
  simp [Builtin.len_, run_underlying ht, MapKept.run_getObj_map hb, Result.andThen, goInt, hl]
def wrR (s : Rs) (k : ByteArray) (x : En) : Rs × En × Int := if ((!hasK s.own k && decide (s.o.q ≤ (s.own.length : Int))) || fullM s.o s.tab k) = true then (s, enZero, 7) else nxR s x
set_option maxHeartbeats 51200000 in
theorem rp_write (B : World) (a : Ra) (s : Rs) (F : FuncId) (cap : Array Value) (bx : List (Nat × TypeId × Array Value)) (f : St → En × Int) (hv : Ver F cap bx f) (k : ByteArray) (x : En) (w : World) (h : Rp B a s w) (hb : Bx a bx w) (hc0 : 0 ≤ s.c ∧ s.c ≤ 4294967295)
    (hx : s.c < 4294967295 → f ⟨s.c + 1, s.site⟩ = (x, 0) ∧ enCheck x = 0) (hk : x.k = k) (hks : k.size ≤ maxLen) (ok : Rky s) :
    Calls Tryz.prog 94 #[.pointer (some ⟨a.r, 0, none⟩), .string k, .func (.func F) #[] cap] w fun E w' => E = .returned (.tuple #[.agg #[.string (wrR s k x).2.1.k, .string (wrR s k x).2.1.v, .bool (wrR s k x).2.1.d, .int .i64 (wrR s k x).2.1.s.c, .int .i64 (wrR s k x).2.1.s.s, .int .i64 (wrR s k x).2.1.a.c, .int .i64 (wrR s k x).2.1.a.s, .int .i64 (wrR s k x).2.1.p, .int .i64 (wrR s k x).2.1.g], .int .i64 (wrR s k x).2.2]) ∧ LeftP B a w (wrR s k x).1 w' := by
  obtain ⟨r, hr⟩ : ∃ r, a.r = r := ⟨_, rfl⟩
  have C1 := Lib.hid ((Cy.begin h).keep ((Only.refl none_ w).alloc (.cells #[.string ⟨#[]⟩, .string ⟨#[]⟩, .bool false, .int .i64 0, .int .i64 0, .int .i64 0, .int .i64 0, .int .i64 0, .int .i64 0] 82)))
  have M1 : Hid (Bn a w.heap.size 82 #[.string ⟨#[]⟩, .string ⟨#[]⟩, .bool false, .int .i64 0, .int .i64 0, .int .i64 0, .int .i64 0, .int .i64 0, .int .i64 0] (w.alloc (.cells #[.string ⟨#[]⟩, .string ⟨#[]⟩, .bool false, .int .i64 0, .int .i64 0, .int .i64 0, .int .i64 0, .int .i64 0, .int .i64 0] 82))) := Bn.new h
  have C2 := Lib.hid (C1.out.keep ((Only.refl none_ _).alloc (.cells #[] 63)))
  have M2 := Lib.hid (M1.out.keep ((Only.refl none_ _).alloc (.cells #[] 63)))
  have B2 := Lib.hid ((hb.keep ((Only.refl none_ w).alloc (.cells #[.string ⟨#[]⟩, .string ⟨#[]⟩, .bool false, .int .i64 0, .int .i64 0, .int .i64 0, .int .i64 0, .int .i64 0, .int .i64 0] 82))).keep ((Only.refl none_ _).alloc (.cells #[] 63)))
  have c10 := C1.out.r.at_ hr (i := 10) rfl
  have hlk := mq_look (t := 75) (k := 9) (P := Tryz.prog) Tryz.underlying9 Tryz.underlying75 (unit_zero _) C1.out.r.ob hks
  have HLN := Lib.hid (fun (X : World) (hX : Rp B a s X) => mq_len (P := Tryz.prog) Tryz.underlying75 hX.ob 3)
  have HRM := Lib.hid (fun (X : World) (hX : Rp B a s X) => by
    have := ct_room B a s k X hX
    rw [hr] at this
    exact this)
  have HNX := Lib.hid (fun (X : World) (hX : Rp B a s X) (hB : Bx a bx X) (hf : fullM s.o s.tab k = false) => by
    have := rp_next B a s F cap bx f hv x X hX hB hc0 (fun h => ⟨(hx h).1, (hx h).2, by rw [hk]; exact hf⟩) ok
    rw [hr] at this
    exact this)
  have hwr : wrR s k x = if ((!hasK s.own k && decide (s.o.q ≤ (s.own.length : Int))) || fullM s.o s.tab k) = true then (s, enZero, 7) else nxR s x := rfl
  rw [hwr]
  obtain ⟨b1, hb1⟩ : ∃ b, hasK s.own k = b := ⟨_, rfl⟩
  obtain ⟨b3, hb3⟩ : ∃ b, fullM s.o s.tab k = b := ⟨_, rfl⟩
  obtain ⟨L, hL⟩ : ∃ L, s.own.length = L := ⟨_, rfl⟩
  obtain ⟨⟨s2, e2, z2⟩, hq⟩ : ∃ q, nxR s x = q := ⟨_, rfl⟩
  rw [hq] at HNX
  rw [hb3] at HNX HRM
  rw [hL] at HLN
  rw [hb1] at hlk
  rw [hb1, hb3, hL, hq]
  have HQ : Hid (∀ X, Rp B a s X → X.cell? ⟨r, 1, none⟩ = some (.int .i64 s.o.q)) := fun X hX => hX.at_ hr rfl
  generalize s.o.q = Q at HQ ⊢
  have hrun := hv.run
  rw [hr]
  have HR := Lib.hid hr
  clear h hb hv hc0 hx hk hks ok hwr hb1 hb3 hL hq hr
  dsimp only at HNX
  cases b1 with
  | true =>
    cases b3 with
    | true =>
      rw [if_pos (by simp)]
      go_enter Tryz.func94, Tryz.ntmps94
      go_wp2_with (first
        | (with_reducible refine wpl_new rfl rfl 63 rfl _ _ rfl #[] rfl rfl (by kernel_rfl) (by kernel_rfl) ?_))
      clear c10 hlk
      generalize (w.alloc (.cells #[.string ⟨#[]⟩, .string ⟨#[]⟩, .bool false, .int .i64 0, .int .i64 0, .int .i64 0, .int .i64 0, .int .i64 0, .int .i64 0] 82)).alloc (.cells #[] 63) = W2 at C2 M2 B2 ⊢
      (refine wp_region_steady (fun X => Only none_ W2 X) 23 (by kernel_rfl) (by kernel_rfl) ((Only.refl none_ W2).drew) ?_; simp only [List.take_succ_cons, List.take_zero, List.drop_succ_cons, List.drop_zero])
      repeat (first
        | (refine sd_value (v := ?_) (by rfl) (fun w0 hS => ?_) ?_; rotate_left; (· (have c10 := (C2.out.keep hS).r.at_ HR.out (i := 10) rfl; have cq := HQ.out _ (C2.out.keep hS).r; have ln := HLN.out _ (C2.out.keep hS).r; go_simp; try (with_reducible rfl))); try simp only [Act.put, List.setIfInBounds_toArray, List.set_cons_zero, List.set_cons_succ])
        | (refine sd_call (v := ?_) (f := 88) (args := ?_) (by rfl) (fun w0 hS => ?_) (fun w0 hS => ?_) ?_; rotate_left 2; (· (skip; go_simp; try (with_reducible rfl))); (· (refine (HRM.out _ (C2.out.keep hS).r).mono ?_; rintro E w9 ⟨rfl, o9⟩; refine ⟨?_, hS.trans o9⟩; rfl)); try simp only [Act.put, List.setIfInBounds_toArray, List.set_cons_zero, List.set_cons_succ])
        | (refine sd_skip (by rfl) ?_; try simp only [Act.put, List.setIfInBounds_toArray, List.set_cons_zero, List.set_cons_succ]))
      refine sd_nil ?_
      intro w5 t5
      have C5 := Lib.hid (C2.out.keep t5)
      have M5 := Lib.hid (M2.out.keep t5)
      have B5 := Lib.hid (B2.out.keep t5)
      clear t5
      go_wp2_with (first
        | (refine wpList_store_row rfl 82 _ _ rfl w.heap.size #[.string ⟨#[]⟩, .string ⟨#[]⟩, .bool false, .int .i64 0, .int .i64 0, .int .i64 0, .int .i64 0, .int .i64 0, .int .i64 0] rfl rfl _ _ M5.out.b (by kernel_rfl) (by kernel_rfl) (by kernel_rfl) ?_))
      refine bodyPost_ret (results_cell_tmp rfl _ _ w.heap.size 82 #[.string ⟨#[]⟩, .string ⟨#[]⟩, .bool false, .int .i64 0, .int .i64 0, .int .i64 0, .int .i64 0, .int .i64 0, .int .i64 0] _ rfl (M5.out.b.setRow _) Tryz.underlying82 rfl (by kernel_rfl) (.int .i64 7) rfl) rfl ?_
      refine ⟨?_, ?_⟩
      · rfl
      · exact (C5.out.box M5.out (Nat.le_refl _) (only_row _ _)).left
    | false =>
      rw [if_neg (by simp)]
      go_enter Tryz.func94, Tryz.ntmps94
      go_wp2_with (first
        | (with_reducible refine wpl_new rfl rfl 63 rfl _ _ rfl #[] rfl rfl (by kernel_rfl) (by kernel_rfl) ?_))
      clear c10 hlk
      generalize (w.alloc (.cells #[.string ⟨#[]⟩, .string ⟨#[]⟩, .bool false, .int .i64 0, .int .i64 0, .int .i64 0, .int .i64 0, .int .i64 0, .int .i64 0] 82)).alloc (.cells #[] 63) = W2 at C2 M2 B2 ⊢
      (refine wp_region_steady (fun X => Only none_ W2 X) 23 (by kernel_rfl) (by kernel_rfl) ((Only.refl none_ W2).drew) ?_; simp only [List.take_succ_cons, List.take_zero, List.drop_succ_cons, List.drop_zero])
      repeat (first
        | (refine sd_value (v := ?_) (by rfl) (fun w0 hS => ?_) ?_; rotate_left; (· (have c10 := (C2.out.keep hS).r.at_ HR.out (i := 10) rfl; have cq := HQ.out _ (C2.out.keep hS).r; have ln := HLN.out _ (C2.out.keep hS).r; go_simp; try (with_reducible rfl))); try simp only [Act.put, List.setIfInBounds_toArray, List.set_cons_zero, List.set_cons_succ])
        | (refine sd_call (v := ?_) (f := 88) (args := ?_) (by rfl) (fun w0 hS => ?_) (fun w0 hS => ?_) ?_; rotate_left 2; (· (skip; go_simp; try (with_reducible rfl))); (· (refine (HRM.out _ (C2.out.keep hS).r).mono ?_; rintro E w9 ⟨rfl, o9⟩; refine ⟨?_, hS.trans o9⟩; rfl)); try simp only [Act.put, List.setIfInBounds_toArray, List.set_cons_zero, List.set_cons_succ])
        | (refine sd_skip (by rfl) ?_; try simp only [Act.put, List.setIfInBounds_toArray, List.set_cons_zero, List.set_cons_succ]))
      refine sd_nil ?_
      intro w5 t5
      have C5 := Lib.hid (C2.out.keep t5)
      have M5 := Lib.hid (M2.out.keep t5)
      have B5 := Lib.hid (B2.out.keep t5)
      clear t5
      have HNY := Lib.hid (HNX.out _ C5.out.r B5.out (by first | trivial | rfl))
      go_wp2_with (first
        | (go_at_call 153; refine HNY.out.mono ?_; rintro E w6 ⟨rfl, L6⟩
           obtain ⟨a6, c6, e6, b6⟩ := C5.out.step L6
           have C6 := Lib.hid c6
           have M6 := Lib.hid (b6 _ _ _ M5.out)
           clear c6 e6 b6 L6)
        | (refine wpList_store_row rfl 82 _ _ rfl w.heap.size #[.string e2.k, .string e2.v, .bool e2.d, .int .i64 e2.s.c, .int .i64 e2.s.s, .int .i64 e2.a.c, .int .i64 e2.a.s, .int .i64 e2.p, .int .i64 e2.g] rfl rfl _ _ M6.out.b (by kernel_rfl) (by kernel_rfl) (en_cells_one _) ?_))
      refine bodyPost_ret (results_cell_tmp rfl _ _ w.heap.size 82 #[.string e2.k, .string e2.v, .bool e2.d, .int .i64 e2.s.c, .int .i64 e2.s.s, .int .i64 e2.a.c, .int .i64 e2.a.s, .int .i64 e2.p, .int .i64 e2.g] _ rfl (M6.out.b.setRow _) Tryz.underlying82 rfl (by kernel_rfl) (.int .i64 z2) rfl) rfl ?_
      refine ⟨?_, ?_⟩
      · rfl
      · exact (C6.out.box M6.out (Nat.le_refl _) (only_row _ _)).left
  | false =>
    by_cases hq2 : Q ≤ (L : Int)
    · have hd : decide (Q ≤ (L : Int)) = true := decide_eq_true hq2
      clear hq2
      rw [if_pos (by rw [hd]; simp)]
      go_enter Tryz.func94, Tryz.ntmps94
      go_wp2_with (first
        | (with_reducible refine wpl_new rfl rfl 63 rfl _ _ rfl #[] rfl rfl (by kernel_rfl) (by kernel_rfl) ?_))
      clear c10 hlk
      generalize (w.alloc (.cells #[.string ⟨#[]⟩, .string ⟨#[]⟩, .bool false, .int .i64 0, .int .i64 0, .int .i64 0, .int .i64 0, .int .i64 0, .int .i64 0] 82)).alloc (.cells #[] 63) = W2 at C2 M2 B2 ⊢
      (refine wp_region_steady (fun X => Only none_ W2 X) 23 (by kernel_rfl) (by kernel_rfl) ((Only.refl none_ W2).drew) ?_; simp only [List.take_succ_cons, List.take_zero, List.drop_succ_cons, List.drop_zero])
      repeat (first
        | (refine sd_value (v := ?_) (by rfl) (fun w0 hS => ?_) ?_; rotate_left; (· (have c10 := (C2.out.keep hS).r.at_ HR.out (i := 10) rfl; have cq := HQ.out _ (C2.out.keep hS).r; have ln := HLN.out _ (C2.out.keep hS).r; go_simp; try (with_reducible rfl))); try simp only [Act.put, List.setIfInBounds_toArray, List.set_cons_zero, List.set_cons_succ])
        | (refine sd_call (v := ?_) (f := 88) (args := ?_) (by rfl) (fun w0 hS => ?_) (fun w0 hS => ?_) ?_; rotate_left 2; (· (skip; go_simp; try (with_reducible rfl))); (· (refine (HRM.out _ (C2.out.keep hS).r).mono ?_; rintro E w9 ⟨rfl, o9⟩; refine ⟨?_, hS.trans o9⟩; rfl)); try simp only [Act.put, List.setIfInBounds_toArray, List.set_cons_zero, List.set_cons_succ])
        | (refine sd_skip (by rfl) ?_; try simp only [Act.put, List.setIfInBounds_toArray, List.set_cons_zero, List.set_cons_succ]))
      refine sd_nil ?_
      intro w5 t5
      have C5 := Lib.hid (C2.out.keep t5)
      have M5 := Lib.hid (M2.out.keep t5)
      have B5 := Lib.hid (B2.out.keep t5)
      clear t5
      go_wp2_with (first
        | (refine wpList_store_row rfl 82 _ _ rfl w.heap.size #[.string ⟨#[]⟩, .string ⟨#[]⟩, .bool false, .int .i64 0, .int .i64 0, .int .i64 0, .int .i64 0, .int .i64 0, .int .i64 0] rfl rfl _ _ M5.out.b (by kernel_rfl) (by kernel_rfl) (by kernel_rfl) ?_))
      refine bodyPost_ret (results_cell_tmp rfl _ _ w.heap.size 82 #[.string ⟨#[]⟩, .string ⟨#[]⟩, .bool false, .int .i64 0, .int .i64 0, .int .i64 0, .int .i64 0, .int .i64 0, .int .i64 0] _ rfl (M5.out.b.setRow _) Tryz.underlying82 rfl (by kernel_rfl) (.int .i64 7) rfl) rfl ?_
      refine ⟨?_, ?_⟩
      · rfl
      · exact (C5.out.box M5.out (Nat.le_refl _) (only_row _ _)).left
    · have hd : decide (Q ≤ (L : Int)) = false := decide_eq_false hq2
      clear hq2
      cases b3 with
      | true =>
        rw [if_pos (by simp)]
        go_enter Tryz.func94, Tryz.ntmps94
        go_wp2_with (first
          | (with_reducible refine wpl_new rfl rfl 63 rfl _ _ rfl #[] rfl rfl (by kernel_rfl) (by kernel_rfl) ?_))
        clear c10 hlk
        generalize (w.alloc (.cells #[.string ⟨#[]⟩, .string ⟨#[]⟩, .bool false, .int .i64 0, .int .i64 0, .int .i64 0, .int .i64 0, .int .i64 0, .int .i64 0] 82)).alloc (.cells #[] 63) = W2 at C2 M2 B2 ⊢
        (refine wp_region_steady (fun X => Only none_ W2 X) 23 (by kernel_rfl) (by kernel_rfl) ((Only.refl none_ W2).drew) ?_; simp only [List.take_succ_cons, List.take_zero, List.drop_succ_cons, List.drop_zero])
        repeat (first
          | (refine sd_value (v := ?_) (by rfl) (fun w0 hS => ?_) ?_; rotate_left; (· (have c10 := (C2.out.keep hS).r.at_ HR.out (i := 10) rfl; have cq := HQ.out _ (C2.out.keep hS).r; have ln := HLN.out _ (C2.out.keep hS).r; go_simp; try (with_reducible rfl))); try simp only [Act.put, List.setIfInBounds_toArray, List.set_cons_zero, List.set_cons_succ])
          | (refine sd_call (v := ?_) (f := 88) (args := ?_) (by rfl) (fun w0 hS => ?_) (fun w0 hS => ?_) ?_; rotate_left 2; (· (skip; go_simp; try (with_reducible rfl))); (· (refine (HRM.out _ (C2.out.keep hS).r).mono ?_; rintro E w9 ⟨rfl, o9⟩; refine ⟨?_, hS.trans o9⟩; rfl)); try simp only [Act.put, List.setIfInBounds_toArray, List.set_cons_zero, List.set_cons_succ])
          | (refine sd_skip (by rfl) ?_; try simp only [Act.put, List.setIfInBounds_toArray, List.set_cons_zero, List.set_cons_succ]))
        refine sd_nil ?_
        intro w5 t5
        have C5 := Lib.hid (C2.out.keep t5)
        have M5 := Lib.hid (M2.out.keep t5)
        have B5 := Lib.hid (B2.out.keep t5)
        clear t5
        go_wp2_with (first
          | (refine wpList_store_row rfl 82 _ _ rfl w.heap.size #[.string ⟨#[]⟩, .string ⟨#[]⟩, .bool false, .int .i64 0, .int .i64 0, .int .i64 0, .int .i64 0, .int .i64 0, .int .i64 0] rfl rfl _ _ M5.out.b (by kernel_rfl) (by kernel_rfl) (by kernel_rfl) ?_))
        refine bodyPost_ret (results_cell_tmp rfl _ _ w.heap.size 82 #[.string ⟨#[]⟩, .string ⟨#[]⟩, .bool false, .int .i64 0, .int .i64 0, .int .i64 0, .int .i64 0, .int .i64 0, .int .i64 0] _ rfl (M5.out.b.setRow _) Tryz.underlying82 rfl (by kernel_rfl) (.int .i64 7) rfl) rfl ?_
        refine ⟨?_, ?_⟩
        · rfl
        · exact (C5.out.box M5.out (Nat.le_refl _) (only_row _ _)).left
      | false =>
        rw [if_neg (by rw [hd]; simp)]
        go_enter Tryz.func94, Tryz.ntmps94
        go_wp2_with (first
          | (with_reducible refine wpl_new rfl rfl 63 rfl _ _ rfl #[] rfl rfl (by kernel_rfl) (by kernel_rfl) ?_))
        clear c10 hlk
        generalize (w.alloc (.cells #[.string ⟨#[]⟩, .string ⟨#[]⟩, .bool false, .int .i64 0, .int .i64 0, .int .i64 0, .int .i64 0, .int .i64 0, .int .i64 0] 82)).alloc (.cells #[] 63) = W2 at C2 M2 B2 ⊢
        (refine wp_region_steady (fun X => Only none_ W2 X) 23 (by kernel_rfl) (by kernel_rfl) ((Only.refl none_ W2).drew) ?_; simp only [List.take_succ_cons, List.take_zero, List.drop_succ_cons, List.drop_zero])
        repeat (first
          | (refine sd_value (v := ?_) (by rfl) (fun w0 hS => ?_) ?_; rotate_left; (· (have c10 := (C2.out.keep hS).r.at_ HR.out (i := 10) rfl; have cq := HQ.out _ (C2.out.keep hS).r; have ln := HLN.out _ (C2.out.keep hS).r; go_simp; try (with_reducible rfl))); try simp only [Act.put, List.setIfInBounds_toArray, List.set_cons_zero, List.set_cons_succ])
          | (refine sd_call (v := ?_) (f := 88) (args := ?_) (by rfl) (fun w0 hS => ?_) (fun w0 hS => ?_) ?_; rotate_left 2; (· (skip; go_simp; try (with_reducible rfl))); (· (refine (HRM.out _ (C2.out.keep hS).r).mono ?_; rintro E w9 ⟨rfl, o9⟩; refine ⟨?_, hS.trans o9⟩; rfl)); try simp only [Act.put, List.setIfInBounds_toArray, List.set_cons_zero, List.set_cons_succ])
          | (refine sd_skip (by rfl) ?_; try simp only [Act.put, List.setIfInBounds_toArray, List.set_cons_zero, List.set_cons_succ]))
        refine sd_nil ?_
        intro w5 t5
        have C5 := Lib.hid (C2.out.keep t5)
        have M5 := Lib.hid (M2.out.keep t5)
        have B5 := Lib.hid (B2.out.keep t5)
        clear t5
        have HNY := Lib.hid (HNX.out _ C5.out.r B5.out (by first | trivial | rfl))
        go_wp2_with (first
          | (go_at_call 153; refine HNY.out.mono ?_; rintro E w6 ⟨rfl, L6⟩
             obtain ⟨a6, c6, e6, b6⟩ := C5.out.step L6
             have C6 := Lib.hid c6
             have M6 := Lib.hid (b6 _ _ _ M5.out)
             clear c6 e6 b6 L6)
          | (refine wpList_store_row rfl 82 _ _ rfl w.heap.size #[.string e2.k, .string e2.v, .bool e2.d, .int .i64 e2.s.c, .int .i64 e2.s.s, .int .i64 e2.a.c, .int .i64 e2.a.s, .int .i64 e2.p, .int .i64 e2.g] rfl rfl _ _ M6.out.b (by kernel_rfl) (by kernel_rfl) (en_cells_one _) ?_))
        refine bodyPost_ret (results_cell_tmp rfl _ _ w.heap.size 82 #[.string e2.k, .string e2.v, .bool e2.d, .int .i64 e2.s.c, .int .i64 e2.s.s, .int .i64 e2.a.c, .int .i64 e2.a.s, .int .i64 e2.p, .int .i64 e2.g] _ rfl (M6.out.b.setRow _) Tryz.underlying82 rfl (by kernel_rfl) (.int .i64 z2) rfl) rfl ?_
        refine ⟨?_, ?_⟩
        · rfl
        · exact (C6.out.box M6.out (Nat.le_refl _) (only_row _ _)).left
end Go.Proofs.YtoohpcomnhfgpaaGreat
end
section
namespace Go.Proofs.YtoohpcomnhfgpaaGreat
open Go.RowKit
set_option maxRecDepth 100000
set_option linter.all false
theorem later_self (x : St) : stLater x x = false := (later_false x x).2 (by omega)
theorem stEq_refl (x : St) : stEq x x = true := (stEq_iff x x).2 rfl
theorem put_check (k v : ByteArray) {a b : St} (ha : stGood a = true) (hb : stGood b = true) : enCheck (putE k v a) = enCheck (putE k v b) := by
  simp only [enCheck, enKeyBad, enValBad, enStBad, enRestBad, enLive, putE, later_self, ha, hb, stEq_refl]
  rfl
theorem del_check (k : ByteArray) (p : Int) {a b : St} (ha : stGood a = true) (hb : stGood b = true) : enCheck (delE k a p) = enCheck (delE k b p) := by
  simp only [enCheck, enKeyBad, enValBad, enStBad, enRestBad, enCert, delE, later_self, ha, hb]
  rfl
theorem good_next {site c : Int} (h : stSite site = true) (h0 : 0 ≤ c) (h1 : c < 4294967295) : stGood ⟨c + 1, site⟩ = true := by
  simp only [stGood, h, Bool.and_true, decide_eq_true_eq]; omega
theorem good_one {site : Int} (h : stSite site = true) : stGood ⟨1, site⟩ = true := by
  simp [stGood, h]
set_option maxHeartbeats 3200000 in
theorem put_clo (n1 n2 : Nat) (k v : ByteArray) (st : St) (w : World) (h1 : Blk w n1 9 #[.string k]) (h2 : Blk w n2 9 #[.string v]) :
    Calls Tryz.prog 91 #[.agg #[.int .i64 st.c, .int .i64 st.s], .pointer (some ⟨n1, 0, none⟩), .pointer (some ⟨n2, 0, none⟩)] w fun E w' => E = .returned (.tuple #[.agg #[.string (enChecked (putE k v st)).1.k, .string (enChecked (putE k v st)).1.v, .bool (enChecked (putE k v st)).1.d, .int .i64 (enChecked (putE k v st)).1.s.c, .int .i64 (enChecked (putE k v st)).1.s.s, .int .i64 (enChecked (putE k v st)).1.a.c, .int .i64 (enChecked (putE k v st)).1.a.s, .int .i64 (enChecked (putE k v st)).1.p, .int .i64 (enChecked (putE k v st)).1.g], .int .i64 (enChecked (putE k v st)).2]) ∧ Only none_ w w' := by
  have O := Lib.hid (((Only.refl none_ w).alloc (.cells #[.int .i64 st.c, .int .i64 st.s] 80)).alloc (.cells #[.string ⟨#[]⟩, .string ⟨#[]⟩, .bool false, .int .i64 0, .int .i64 0, .int .i64 0, .int .i64 0, .int .i64 0, .int .i64 0] 82))
  have BZ := Lib.hid (blk_more (w := w) (t := 80) (u := 82) #[.int .i64 st.c, .int .i64 st.s] #[.string ⟨#[]⟩, .string ⟨#[]⟩, .bool false, .int .i64 0, .int .i64 0, .int .i64 0, .int .i64 0, .int .i64 0, .int .i64 0])
  have B1 := Lib.hid ((Blk.new w 80 #[.int .i64 st.c, .int .i64 st.s]).alloc (.cells #[.string ⟨#[]⟩, .string ⟨#[]⟩, .bool false, .int .i64 0, .int .i64 0, .int .i64 0, .int .i64 0, .int .i64 0, .int .i64 0] 82))
  have c1 := (h1.only O.out (fun h => h)).cell_ (i := 0) rfl
  have c2 := (h2.only O.out (fun h => h)).cell_ (i := 0) rfl
  have c3 := two_of B1.out
  have HC := Lib.hid (fun w => en_put k v st w)
  obtain ⟨⟨e, z⟩, hr⟩ : ∃ r, enChecked (putE k v st) = r := ⟨_, rfl⟩
  have hr' : enChecked ⟨k, v, false, st, st, 0, 0⟩ = (e, z) := hr
  rw [hr'] at HC
  rw [hr]
  clear hr hr' h1 h2
  dsimp only at HC ⊢
  go_enter Tryz.func91, Tryz.ntmps91
  go_wp2_with (first
    | (go_at_call 92; refine (HC.out _).mono ?_; rintro E w1 ⟨rfl, o1⟩
       have O1 := Lib.hid (O.out.trans o1)
       have B4 := Lib.hid (BZ.out.only o1 (fun h => h))
       clear o1)
    | (refine wpList_store_row rfl 82 _ _ rfl (w.heap.size + 1) #[.string e.k, .string e.v, .bool e.d, .int .i64 e.s.c, .int .i64 e.s.s, .int .i64 e.a.c, .int .i64 e.a.s, .int .i64 e.p, .int .i64 e.g] rfl rfl _ _ B4.out (by kernel_rfl) (by kernel_rfl) (en_cells_one _) ?_))
  refine bodyPost_ret (results_cell_tmp rfl _ _ (w.heap.size + 1) 82 #[.string e.k, .string e.v, .bool e.d, .int .i64 e.s.c, .int .i64 e.s.s, .int .i64 e.a.c, .int .i64 e.a.s, .int .i64 e.p, .int .i64 e.g] _ rfl (B4.out.setRow _) Tryz.underlying82 rfl (by kernel_rfl) (.int .i64 z) rfl) rfl ?_
  exact ⟨rfl, O1.out.setRow (.inr (by omega)) _⟩
theorem put_ver (n1 n2 : Nat) (k v : ByteArray) : Ver 91 #[.pointer (some ⟨n1, 0, none⟩), .pointer (some ⟨n2, 0, none⟩)] [(n1, 9, #[.string k]), (n2, 9, #[.string v])] (fun st => enChecked (putE k v st)) :=
  ⟨fun args w => enters_ Tryz.func91 rfl rfl args w, fun X st hb => put_clo n1 n2 k v st X (hb _ List.mem_cons_self) (hb _ (List.mem_cons_of_mem _ List.mem_cons_self))⟩
def putRs (s : Rs) (k v : ByteArray) : Rs × En × Int := if enCheck (putE k v ⟨1, s.site⟩) ≠ 0 then (s, enZero, enCheck (putE k v ⟨1, s.site⟩)) else wrR s k (putE k v ⟨s.c + 1, s.site⟩)
set_option maxHeartbeats 25600000 in
theorem rp_put (B : World) (a : Ra) (s : Rs) (k v : ByteArray) (w : World) (h : Rp B a s w) (hc0 : 0 ≤ s.c ∧ s.c ≤ 4294967295) (hsi : stSite s.site = true) (ok : Rky s) :
    Calls Tryz.prog 44 #[.pointer (some ⟨a.r, 0, none⟩), .string k, .string v] w fun E w' => E = .returned (.tuple #[.agg #[.string (putRs s k v).2.1.k, .string (putRs s k v).2.1.v, .bool (putRs s k v).2.1.d, .int .i64 (putRs s k v).2.1.s.c, .int .i64 (putRs s k v).2.1.s.s, .int .i64 (putRs s k v).2.1.a.c, .int .i64 (putRs s k v).2.1.a.s, .int .i64 (putRs s k v).2.1.p, .int .i64 (putRs s k v).2.1.g], .int .i64 (putRs s k v).2.2]) ∧ LeftP B a w (putRs s k v).1 w' := by
  obtain ⟨r, hr⟩ : ∃ r, a.r = r := ⟨_, rfl⟩
  have hmf : ∀ (fn : Fn) (first cap : Array Value) (w : World), (Instr.makeFunc fn first cap).run Tryz.prog w = .ok (.func fn first cap) w := fun _ _ _ _ => rfl
  have h1 := h.keep ((Only.refl none_ w).alloc (.cells #[.string k] 9))
  have h2 := h1.keep ((Only.refl none_ _).alloc (.cells #[.string v] 9))
  have C2 := Lib.hid (((Cy.begin h).keep ((Only.refl none_ w).alloc (.cells #[.string k] 9))).keep ((Only.refl none_ _).alloc (.cells #[.string v] 9)) |>.keep ((Only.refl none_ _).alloc (.cells #[.string ⟨#[]⟩, .string ⟨#[]⟩, .bool false, .int .i64 0, .int .i64 0, .int .i64 0, .int .i64 0, .int .i64 0, .int .i64 0] 82)))
  have K2 : Hid (Bn a w.heap.size 9 #[.string k] (((w.alloc (.cells #[.string k] 9)).alloc (.cells #[.string v] 9)).alloc (.cells #[.string ⟨#[]⟩, .string ⟨#[]⟩, .bool false, .int .i64 0, .int .i64 0, .int .i64 0, .int .i64 0, .int .i64 0, .int .i64 0] 82))) := ((Bn.new h).keep ((Only.refl none_ _).alloc _)).keep ((Only.refl none_ _).alloc _)
  have V2 : Hid (Bn a (w.heap.size + 1) 9 #[.string v] (((w.alloc (.cells #[.string k] 9)).alloc (.cells #[.string v] 9)).alloc (.cells #[.string ⟨#[]⟩, .string ⟨#[]⟩, .bool false, .int .i64 0, .int .i64 0, .int .i64 0, .int .i64 0, .int .i64 0, .int .i64 0] 82))) := by
    have := (Bn.new (t := 9) (cs := #[.string v]) h1).keep ((Only.refl none_ _).alloc (.cells #[.string ⟨#[]⟩, .string ⟨#[]⟩, .bool false, .int .i64 0, .int .i64 0, .int .i64 0, .int .i64 0, .int .i64 0, .int .i64 0] 82))
    rwa [World.size_alloc] at this
  have M2 : Hid (Bn a (w.heap.size + 2) 82 #[.string ⟨#[]⟩, .string ⟨#[]⟩, .bool false, .int .i64 0, .int .i64 0, .int .i64 0, .int .i64 0, .int .i64 0, .int .i64 0] (((w.alloc (.cells #[.string k] 9)).alloc (.cells #[.string v] 9)).alloc (.cells #[.string ⟨#[]⟩, .string ⟨#[]⟩, .bool false, .int .i64 0, .int .i64 0, .int .i64 0, .int .i64 0, .int .i64 0, .int .i64 0] 82))) := by
    have := Bn.new (t := 82) (cs := #[.string ⟨#[]⟩, .string ⟨#[]⟩, .bool false, .int .i64 0, .int .i64 0, .int .i64 0, .int .i64 0, .int .i64 0, .int .i64 0]) h2
    rwa [World.size_alloc, World.size_alloc] at this
  have HBX : Hid (∀ (a1 : Ra) (X : World), Bn a1 w.heap.size 9 #[.string k] X → Bn a1 (w.heap.size + 1) 9 #[.string v] X → Bx a1 [(w.heap.size, 9, #[.string k]), (w.heap.size + 1, 9, #[.string v])] X) := fun a1 X b1 b2 p hp => by
    simp only [List.mem_cons, List.not_mem_nil, or_false] at hp
    rcases hp with rfl | rfl
    · exact b1
    · exact b2
  have HF := Lib.hid (fun (X : World) (hX : Rp B a s X) (hB : Bx a [(w.heap.size, 9, #[.string k]), (w.heap.size + 1, 9, #[.string v])] X) => by
    have := rp_fault B a s _ _ _ _ (put_ver w.heap.size (w.heap.size + 1) k v) X hX hB
    rw [hr] at this
    exact this)
  have q0 := K2.out.b.cell_ (i := 0) rfl
  obtain ⟨z, hz⟩ : ∃ z, enCheck (putE k v ⟨1, s.site⟩) = z := ⟨_, rfl⟩
  by_cases hz0 : z = 0
  · have hck : (enChecked (putE k v ⟨1, s.site⟩)).2 = 0 := by unfold enChecked; rw [if_pos (hz.trans hz0)]
    have hpr : putRs s k v = wrR s k (putE k v ⟨s.c + 1, s.site⟩) := by unfold putRs; rw [if_neg (by rw [hz, hz0]; simp)]
    rw [hpr]
    simp only [hck] at HF
    have HW := Lib.hid (fun (X : World) (hX : Rp B a s X) (hB : Bx a [(w.heap.size, 9, #[.string k]), (w.heap.size + 1, 9, #[.string v])] X) => by
      have hks : k.size ≤ maxLen := key_small (e := putE k v ⟨1, s.site⟩) (hz.trans hz0)
      have := rp_write B a s _ _ _ _ (put_ver w.heap.size (w.heap.size + 1) k v) k (putE k v ⟨s.c + 1, s.site⟩) X hX hB hc0 (fun hl => by
        have hg := good_next hsi hc0.1 hl
        have hc : enCheck (putE k v ⟨s.c + 1, s.site⟩) = 0 := by rw [put_check k v hg (good_one hsi)]; exact hz.trans hz0
        refine ⟨?_, hc⟩
        unfold enChecked
        rw [if_pos hc]) rfl hks ok
      rw [hr] at this
      exact this)
    obtain ⟨⟨s2, e2, z2⟩, hq⟩ : ∃ q, wrR s k (putE k v ⟨s.c + 1, s.site⟩) = q := ⟨_, rfl⟩
    rw [hq] at HW ⊢
    dsimp only at HW ⊢
    rw [hr]
    clear h h1 h2 hr hc0 hsi ok hz hz0 hck hpr hq
    go_enter Tryz.func44, Tryz.ntmps44
    go_wp2_with (first
      | (go_at_call 93; refine (HF.out _ C2.out.r (HBX.out _ _ K2.out V2.out)).mono ?_; rintro E w3 ⟨rfl, o3⟩
         have C3 := Lib.hid (C2.out.keep o3)
         have K3 := Lib.hid (K2.out.keep o3)
         have V3 := Lib.hid (V2.out.keep o3)
         have M3 := Lib.hid (M2.out.keep o3)
         have q3 := K3.out.b.cell_ (i := 0) rfl
         clear o3)
      | (go_at_call 94; refine (HW.out _ C3.out.r (HBX.out _ _ K3.out V3.out)).mono ?_; rintro E w4 ⟨rfl, L4⟩
         obtain ⟨a4, c4, e4, b4⟩ := C3.out.step L4
         have C4 := Lib.hid c4
         have M4 := Lib.hid (b4 _ _ _ M3.out)
         clear c4 e4 b4 L4)
      | (refine wpList_store_row rfl 82 _ _ rfl (w.heap.size + 2) #[.string e2.k, .string e2.v, .bool e2.d, .int .i64 e2.s.c, .int .i64 e2.s.s, .int .i64 e2.a.c, .int .i64 e2.a.s, .int .i64 e2.p, .int .i64 e2.g] rfl rfl _ _ M4.out.b (by kernel_rfl) (by kernel_rfl) (en_cells_one _) ?_))
    refine bodyPost_ret (results_cell_tmp rfl _ _ (w.heap.size + 2) 82 #[.string e2.k, .string e2.v, .bool e2.d, .int .i64 e2.s.c, .int .i64 e2.s.s, .int .i64 e2.a.c, .int .i64 e2.a.s, .int .i64 e2.p, .int .i64 e2.g] _ rfl (M4.out.b.setRow _) Tryz.underlying82 rfl (by kernel_rfl) (.int .i64 z2) rfl) rfl ?_
    exact ⟨rfl, (C4.out.box M4.out (by omega) (only_row _ _)).left⟩
  · have hck : (enChecked (putE k v ⟨1, s.site⟩)).2 = z := by unfold enChecked; rw [if_neg (by rw [hz]; exact hz0), hz]
    have hpr : putRs s k v = (s, enZero, z) := by unfold putRs; rw [if_pos (by rw [hz]; exact hz0), hz]
    rw [hpr]
    simp only [hck] at HF
    have hzb : (z != 0) = true := by simpa using hz0
    rw [hr]
    clear h h1 h2 hr hc0 hsi ok hz hz0 hck hpr
    go_enter Tryz.func44, Tryz.ntmps44
    go_wp2_with (first
      | (go_at_call 93; refine (HF.out _ C2.out.r (HBX.out _ _ K2.out V2.out)).mono ?_; rintro E w3 ⟨rfl, o3⟩
         have C3 := Lib.hid (C2.out.keep o3)
         have M3 := Lib.hid (M2.out.keep o3)
         clear o3)
      | (refine wpList_store_row rfl 82 _ _ rfl (w.heap.size + 2) #[.string ⟨#[]⟩, .string ⟨#[]⟩, .bool false, .int .i64 0, .int .i64 0, .int .i64 0, .int .i64 0, .int .i64 0, .int .i64 0] rfl rfl _ _ M3.out.b (by kernel_rfl) (by kernel_rfl) (by kernel_rfl) ?_))
    refine bodyPost_ret (results_cell_tmp rfl _ _ (w.heap.size + 2) 82 #[.string ⟨#[]⟩, .string ⟨#[]⟩, .bool false, .int .i64 0, .int .i64 0, .int .i64 0, .int .i64 0, .int .i64 0, .int .i64 0] _ rfl (M3.out.b.setRow _) Tryz.underlying82 rfl (by kernel_rfl) (.int .i64 z) rfl) rfl ?_
    exact ⟨rfl, (C3.out.box M3.out (by omega) (only_row _ _)).left⟩
end Go.Proofs.YtoohpcomnhfgpaaGreat
end
section
namespace Go.Proofs.YtoohpcomnhfgpaaGreat
open Go.RowKit
set_option maxRecDepth 100000
set_option linter.all false
theorem live_has (l : List En) (k : ByteArray) : liveM l k = (hasE l k && !((lookE l k).getD enZero).d) := by
  unfold liveM
  rw [hasE_look]
  cases lookE l k <;> rfl
set_option maxHeartbeats 6400000 in
theorem ct_get (B : World) (a : Ra) (s : Rs) (k : ByteArray) (w : World) (h : Rp B a s w) :
    Calls Tryz.prog 22 #[.pointer (some ⟨a.r, 6, none⟩), .string k] w fun E w' => E = .returned (.tuple #[.string ((lookE s.tab k).getD enZero).v, .bool (liveM s.tab k)]) ∧ Only none_ w w' := by
  rw [live_has]
  have HE := Lib.hid (ct_entry B a s k w h)
  obtain ⟨e, he⟩ : ∃ e, (lookE s.tab k).getD enZero = e := ⟨_, rfl⟩
  obtain ⟨hs, hhs⟩ : ∃ b, hasE s.tab k = b := ⟨_, rfl⟩
  rw [he, hhs] at HE
  rw [hhs, he]
  clear h he hhs
  cases hs with
  | false =>
    go_enter Tryz.func22, Tryz.ntmps22
    go_wp2_with (first
      | (go_at_call 24; refine HE.out.mono ?_; rintro E w1 ⟨rfl, o1⟩
         have O1 := Lib.hid (o1.alloc (.cells #[.string e.k, .string e.v, .bool e.d, .int .i64 e.s.c, .int .i64 e.s.s, .int .i64 e.a.c, .int .i64 e.a.s, .int .i64 e.p, .int .i64 e.g] 82))
         have B1 := Lib.hid (Blk.new w1 82 #[.string e.k, .string e.v, .bool e.d, .int .i64 e.s.c, .int .i64 e.s.s, .int .i64 e.a.c, .int .i64 e.a.s, .int .i64 e.p, .int .i64 e.g]))
      | (with_reducible refine wpl_new rfl rfl 82 rfl _ _ rfl #[.string e.k, .string e.v, .bool e.d, .int .i64 e.s.c, .int .i64 e.s.s, .int .i64 e.a.c, .int .i64 e.a.s, .int .i64 e.p, .int .i64 e.g] rfl rfl (by kernel_rfl) (en_cells_one e) ?_))
    generalize w1.alloc (.cells #[.string e.k, .string e.v, .bool e.d, .int .i64 e.s.c, .int .i64 e.s.s, .int .i64 e.a.c, .int .i64 e.a.s, .int .i64 e.p, .int .i64 e.g] 82) = W2 at O1 B1 ⊢
    (refine wp_region_steady (fun X => Only none_ W2 X) 10 (by kernel_rfl) (by kernel_rfl) ((Only.refl none_ W2).drew) ?_; simp only [List.take_succ_cons, List.take_zero, List.drop_succ_cons, List.drop_zero])
    repeat (first
      | (refine sd_value (v := ?_) (by rfl) (fun w0 hS => ?_) ?_; rotate_left; (· (have qq := nine_of (B1.out.only hS (fun h => h)); go_simp; try (with_reducible rfl))); try simp only [Act.put, List.setIfInBounds_toArray, List.set_cons_zero, List.set_cons_succ])
      | (refine sd_skip (by rfl) ?_; try simp only [Act.put, List.setIfInBounds_toArray, List.set_cons_zero, List.set_cons_succ]))
    refine sd_nil ?_
    intro w5 t5
    have T5 := Lib.hid (O1.out.trans t5)
    clear t5
    go_wp2_with fail
    go_ret2
    exact ⟨rfl, T5.out⟩
  | true =>
    go_enter Tryz.func22, Tryz.ntmps22
    go_wp2_with (first
      | (go_at_call 24; refine HE.out.mono ?_; rintro E w1 ⟨rfl, o1⟩
         have O1 := Lib.hid (o1.alloc (.cells #[.string e.k, .string e.v, .bool e.d, .int .i64 e.s.c, .int .i64 e.s.s, .int .i64 e.a.c, .int .i64 e.a.s, .int .i64 e.p, .int .i64 e.g] 82))
         have B1 := Lib.hid (Blk.new w1 82 #[.string e.k, .string e.v, .bool e.d, .int .i64 e.s.c, .int .i64 e.s.s, .int .i64 e.a.c, .int .i64 e.a.s, .int .i64 e.p, .int .i64 e.g]))
      | (with_reducible refine wpl_new rfl rfl 82 rfl _ _ rfl #[.string e.k, .string e.v, .bool e.d, .int .i64 e.s.c, .int .i64 e.s.s, .int .i64 e.a.c, .int .i64 e.a.s, .int .i64 e.p, .int .i64 e.g] rfl rfl (by kernel_rfl) (en_cells_one e) ?_))
    generalize w1.alloc (.cells #[.string e.k, .string e.v, .bool e.d, .int .i64 e.s.c, .int .i64 e.s.s, .int .i64 e.a.c, .int .i64 e.a.s, .int .i64 e.p, .int .i64 e.g] 82) = W2 at O1 B1 ⊢
    (refine wp_region_steady (fun X => Only none_ W2 X) 10 (by kernel_rfl) (by kernel_rfl) ((Only.refl none_ W2).drew) ?_; simp only [List.take_succ_cons, List.take_zero, List.drop_succ_cons, List.drop_zero])
    repeat (first
      | (refine sd_value (v := ?_) (by rfl) (fun w0 hS => ?_) ?_; rotate_left; (· (have qq := nine_of (B1.out.only hS (fun h => h)); go_simp; try (with_reducible rfl))); try simp only [Act.put, List.setIfInBounds_toArray, List.set_cons_zero, List.set_cons_succ])
      | (refine sd_skip (by rfl) ?_; try simp only [Act.put, List.setIfInBounds_toArray, List.set_cons_zero, List.set_cons_succ]))
    refine sd_nil ?_
    intro w5 t5
    have T5 := Lib.hid (O1.out.trans t5)
    clear t5
    go_wp2_with fail
    go_ret2
    exact ⟨rfl, T5.out⟩
set_option maxHeartbeats 3200000 in
theorem del_clo (n1 n2 : Nat) (k : ByteArray) (p : Int) (st : St) (w : World) (h1 : Blk w n1 9 #[.string k]) (h2 : Blk w n2 3 #[.int .i64 p]) :
    Calls Tryz.prog 96 #[.agg #[.int .i64 st.c, .int .i64 st.s], .pointer (some ⟨n1, 0, none⟩), .pointer (some ⟨n2, 0, none⟩)] w fun E w' => E = .returned (.tuple #[.agg #[.string (enChecked (delE k st p)).1.k, .string (enChecked (delE k st p)).1.v, .bool (enChecked (delE k st p)).1.d, .int .i64 (enChecked (delE k st p)).1.s.c, .int .i64 (enChecked (delE k st p)).1.s.s, .int .i64 (enChecked (delE k st p)).1.a.c, .int .i64 (enChecked (delE k st p)).1.a.s, .int .i64 (enChecked (delE k st p)).1.p, .int .i64 (enChecked (delE k st p)).1.g], .int .i64 (enChecked (delE k st p)).2]) ∧ Only none_ w w' := by
  have O := Lib.hid (((Only.refl none_ w).alloc (.cells #[.int .i64 st.c, .int .i64 st.s] 80)).alloc (.cells #[.string ⟨#[]⟩, .string ⟨#[]⟩, .bool false, .int .i64 0, .int .i64 0, .int .i64 0, .int .i64 0, .int .i64 0, .int .i64 0] 82))
  have BZ := Lib.hid (blk_more (w := w) (t := 80) (u := 82) #[.int .i64 st.c, .int .i64 st.s] #[.string ⟨#[]⟩, .string ⟨#[]⟩, .bool false, .int .i64 0, .int .i64 0, .int .i64 0, .int .i64 0, .int .i64 0, .int .i64 0])
  have B1 := Lib.hid ((Blk.new w 80 #[.int .i64 st.c, .int .i64 st.s]).alloc (.cells #[.string ⟨#[]⟩, .string ⟨#[]⟩, .bool false, .int .i64 0, .int .i64 0, .int .i64 0, .int .i64 0, .int .i64 0, .int .i64 0] 82))
  have c1 := (h1.only O.out (fun h => h)).cell_ (i := 0) rfl
  have c2 := (h2.only O.out (fun h => h)).cell_ (i := 0) rfl
  have c3 := two_of B1.out
  have HC := Lib.hid (fun w => en_delete k st p w)
  obtain ⟨⟨e, z⟩, hr⟩ : ∃ r, enChecked (delE k st p) = r := ⟨_, rfl⟩
  have hr' : enChecked ⟨k, ⟨#[]⟩, true, st, st, p, 0⟩ = (e, z) := hr
  rw [hr'] at HC
  rw [hr]
  clear hr hr' h1 h2
  dsimp only at HC ⊢
  go_enter Tryz.func96, Tryz.ntmps96
  go_wp2_with (first
    | (go_at_call 97; refine (HC.out _).mono ?_; rintro E w1 ⟨rfl, o1⟩
       have O1 := Lib.hid (O.out.trans o1)
       have B4 := Lib.hid (BZ.out.only o1 (fun h => h))
       clear o1)
    | (refine wpList_store_row rfl 82 _ _ rfl (w.heap.size + 1) #[.string e.k, .string e.v, .bool e.d, .int .i64 e.s.c, .int .i64 e.s.s, .int .i64 e.a.c, .int .i64 e.a.s, .int .i64 e.p, .int .i64 e.g] rfl rfl _ _ B4.out (by kernel_rfl) (by kernel_rfl) (en_cells_one _) ?_))
  refine bodyPost_ret (results_cell_tmp rfl _ _ (w.heap.size + 1) 82 #[.string e.k, .string e.v, .bool e.d, .int .i64 e.s.c, .int .i64 e.s.s, .int .i64 e.a.c, .int .i64 e.a.s, .int .i64 e.p, .int .i64 e.g] _ rfl (B4.out.setRow _) Tryz.underlying82 rfl (by kernel_rfl) (.int .i64 z) rfl) rfl ?_
  exact ⟨rfl, O1.out.setRow (.inr (by omega)) _⟩
theorem del_ver (n1 n2 : Nat) (k : ByteArray) (p : Int) : Ver 96 #[.pointer (some ⟨n1, 0, none⟩), .pointer (some ⟨n2, 0, none⟩)] [(n1, 9, #[.string k]), (n2, 3, #[.int .i64 p])] (fun st => enChecked (delE k st p)) :=
  ⟨fun args w => enters_ Tryz.func96 rfl rfl args w, fun X st hb => del_clo n1 n2 k p st X (hb _ List.mem_cons_self) (hb _ (List.mem_cons_of_mem _ List.mem_cons_self))⟩
end Go.Proofs.YtoohpcomnhfgpaaGreat
end
