/- The document's clocks. No statement of the seat is proved here. -/
import Derived.Test.YtolgjjjclihmkaaStE
import Derived.RegionTactic
import Derived.ChangeAlike
namespace Go.Proofs.Ytolgjjjclihmkaa
open Go.RowKit
set_option maxRecDepth 100000

theorem rf_new_arg (s n : Int) (w : World) (hs : stSite s = false) :
    Calls Try.prog 17 #[.int .i64 s, .int .i64 n] w fun e w' => e = .returned (.tuple #[.agg #[.int .i64 0, .int .i64 0], .int .i64 1]) ∧ Only none_ w w' := by
  have HS := Lib.hid hs
  have O := Lib.hid ((Only.refl none_ w).alloc (.cells #[.int .i64 0, .int .i64 0] 42))
  clear hs
  go_enter Try.func17, Try.ntmps17
  go_wp2_with (go_at_call 26; refine (rf_site _ _).mono ?_; rintro e w' ⟨rfl, rfl⟩; rw [HS.out])
  exact bodyPost_ret (v := .tuple #[.agg #[.int .i64 0, .int .i64 0], .int .i64 1]) (by simp [results, Try.results17, go_sem]) rfl ⟨rfl, O.out⟩
theorem rf_new_range (s n : Int) (w : World) (hs : stSite s = true) (hn : n < 0 ∨ 4294967295 < n) :
    Calls Try.prog 17 #[.int .i64 s, .int .i64 n] w fun e w' => e = .returned (.tuple #[.agg #[.int .i64 0, .int .i64 0], .int .i64 2]) ∧ Only none_ w w' := by
  have HS := Lib.hid hs
  have O := Lib.hid ((Only.refl none_ w).alloc (.cells #[.int .i64 0, .int .i64 0] 42))
  clear hs
  by_cases h0 : n < 0
  · clear hn
    go_enter Try.func17, Try.ntmps17
    go_wp2_with (go_at_call 26; refine (rf_site _ _).mono ?_; rintro e w' ⟨rfl, rfl⟩; rw [HS.out])
    exact bodyPost_ret (v := .tuple #[.agg #[.int .i64 0, .int .i64 0], .int .i64 2]) (by simp [results, Try.results17, go_sem]) rfl ⟨rfl, O.out⟩
  · have h1 : 4294967295 < n := by omega
    clear hn
    go_enter Try.func17, Try.ntmps17
    go_wp2_with (go_at_call 26; refine (rf_site _ _).mono ?_; rintro e w' ⟨rfl, rfl⟩; rw [HS.out])
    exact bodyPost_ret (v := .tuple #[.agg #[.int .i64 0, .int .i64 0], .int .i64 2]) (by simp [results, Try.results17, go_sem]) rfl ⟨rfl, O.out⟩
theorem rf_new (s n : Int) (w : World) (hs : stSite s = true) (h0 : 0 ≤ n) (h1 : n ≤ 4294967295) :
    Calls Try.prog 17 #[.int .i64 s, .int .i64 n] w fun e w' => e = .returned (.tuple #[.agg #[.int .i64 s, .int .i64 n], .int .i64 0]) ∧ Only none_ w w' := by
  have HS := Lib.hid hs
  have O := Lib.hid ((Only.refl none_ w).alloc (.cells #[.int .i64 s, .int .i64 n] 42))
  clear hs
  go_enter Try.func17, Try.ntmps17
  go_wp2_with (go_at_call 26; refine (rf_site _ _).mono ?_; rintro e w' ⟨rfl, rfl⟩; rw [HS.out])
  exact bodyPost_ret (v := .tuple #[.agg #[.int .i64 s, .int .i64 n], .int .i64 0]) (by simp [results, Try.results17, go_sem]) rfl ⟨rfl, O.out⟩

theorem rf_next_spent (s : Int) (w : World) :
    Calls Try.prog 19 #[.agg #[.int .i64 s, .int .i64 4294967295]] w fun e w' => e = .returned (.tuple #[.agg #[.int .i64 s, .int .i64 4294967295], .agg #[.int .i64 0, .int .i64 0], .int .i64 8]) ∧ Only none_ w w' := by
  have O := Lib.hid ((((Only.refl none_ w).alloc (.cells #[.int .i64 s, .int .i64 4294967295] 42)).alloc (.cells #[.int .i64 s, .int .i64 4294967295] 42)).alloc (.cells #[.int .i64 0, .int .i64 0] 23))
  go_enter Try.func19, Try.ntmps19
  go_wp2_with fail
  exact bodyPost_ret (v := .tuple #[.agg #[.int .i64 s, .int .i64 4294967295], .agg #[.int .i64 0, .int .i64 0], .int .i64 8]) (by simp [results, Try.results19, go_sem]) rfl ⟨rfl, O.out⟩
theorem rf_next (s n : Int) (w : World) (h0 : 0 ≤ n) (h1 : n < 4294967295) :
    Calls Try.prog 19 #[.agg #[.int .i64 s, .int .i64 n]] w fun e w' => e = .returned (.tuple #[.agg #[.int .i64 s, .int .i64 (n + 1)], .agg #[.int .i64 (n + 1), .int .i64 s], .int .i64 0]) ∧ Only none_ w w' := by
  have O := Lib.hid ((((Only.refl none_ w).alloc (.cells #[.int .i64 s, .int .i64 (n + 1)] 42)).alloc (.cells #[.int .i64 s, .int .i64 (n + 1)] 42)).alloc (.cells #[.int .i64 (n + 1), .int .i64 s] 23))
  have hz : (n == 4294967295) = false := by simp; omega
  go_enter Try.func19, Try.ntmps19
  go_wp2_with fail
  go_region
  all_goals
    go_wp2_with fail
    exact bodyPost_ret (v := .tuple #[.agg #[.int .i64 s, .int .i64 (n + 1)], .agg #[.int .i64 (n + 1), .int .i64 s], .int .i64 0]) (by simp [results, Try.results19, go_sem]) rfl ⟨rfl, O.out.drew⟩

theorem rf_see_bad (s n c i : Int) (w : World) (hb : stGood ⟨c, i⟩ = false) :
    Calls Try.prog 20 #[.agg #[.int .i64 s, .int .i64 n], .agg #[.int .i64 c, .int .i64 i]] w fun e w' => e = .returned (.tuple #[.agg #[.int .i64 s, .int .i64 n], .bool false]) ∧ Only none_ w w' := by
  have O := Lib.hid ((((Only.refl none_ w).alloc (.cells #[.int .i64 s, .int .i64 n] 42)).alloc (.cells #[.int .i64 c, .int .i64 i] 23)).alloc (.cells #[.int .i64 0, .int .i64 0] 42))
  have R := Lib.hid (Blk.new ((w.alloc (.cells #[.int .i64 s, .int .i64 n] 42)).alloc (.cells #[.int .i64 c, .int .i64 i] 23)) 42 #[.int .i64 0, .int .i64 0])
  have C := Lib.hid (((Blk.new w 42 #[.int .i64 s, .int .i64 n]).alloc (.cells #[.int .i64 c, .int .i64 i] 23)).alloc (.cells #[.int .i64 0, .int .i64 0] 42))
  have HB := Lib.hid hb
  clear hb
  go_enter Try.func20, Try.ntmps20
  go_wp2_with (go_at_call 13; refine (rf_good _ _ _).mono ?_; rintro e w1 ⟨rfl, o1⟩; rw [HB.out]
               have O1 := Lib.hid (O.out.trans o1)
               have C1 := Lib.hid (C.out.only o1 (fun h => h))
               have R1 := Lib.hid (R.out.only o1 (fun h => h))
               have e2 : ((w.alloc (.cells #[.int .i64 s, .int .i64 n] 42)).alloc (.cells #[.int .i64 c, .int .i64 i] 23)).heap.size = w.heap.size + 1 + 1 := by simp
               rw [e2] at R1
               clear e2
               have r0 := R1.out.cell_ (i := 0) rfl
               have r1 := R1.out.cell_ (i := 1) rfl
               have z0 := R1.out.frozen 0
               have z1 := R1.out.frozen 1
               have c0 := C1.out.cell_ (i := 0) rfl
               have c1 := C1.out.cell_ (i := 1) rfl
               clear o1)
  have q0 := (R1.out.set_ 0 (.int .i64 s)).cell_ (i := 0) (u := .int .i64 s) (by simp)
  have q1 := ((R1.out.set_ 0 (.int .i64 s)).set_ 1 (.int .i64 n)).cell_ (i := 1) (u := .int .i64 n) (by simp)
  have o2 := (O1.out.setCell (p := ⟨w.heap.size + 1 + 1, 0, none⟩) (.inr (by simp; omega)) (.int .i64 s)).setCell (p := ⟨w.heap.size + 1 + 1, 1, none⟩) (.inr (by simp; omega)) (.int .i64 n)
  exact bodyPost_ret (v := .tuple #[.agg #[.int .i64 s, .int .i64 n], .bool false]) (by simp [results, Try.results20, go_sem, q0, q1]) rfl ⟨rfl, o2⟩
theorem rf_see_low (s n c i : Int) (w : World) (hb : stGood ⟨c, i⟩ = true) (hl : c ≤ n) :
    Calls Try.prog 20 #[.agg #[.int .i64 s, .int .i64 n], .agg #[.int .i64 c, .int .i64 i]] w fun e w' => e = .returned (.tuple #[.agg #[.int .i64 s, .int .i64 n], .bool false]) ∧ Only none_ w w' := by
  have O := Lib.hid ((((Only.refl none_ w).alloc (.cells #[.int .i64 s, .int .i64 n] 42)).alloc (.cells #[.int .i64 c, .int .i64 i] 23)).alloc (.cells #[.int .i64 0, .int .i64 0] 42))
  have R := Lib.hid (Blk.new ((w.alloc (.cells #[.int .i64 s, .int .i64 n] 42)).alloc (.cells #[.int .i64 c, .int .i64 i] 23)) 42 #[.int .i64 0, .int .i64 0])
  have C := Lib.hid (((Blk.new w 42 #[.int .i64 s, .int .i64 n]).alloc (.cells #[.int .i64 c, .int .i64 i] 23)).alloc (.cells #[.int .i64 0, .int .i64 0] 42))
  have T := Lib.hid ((Blk.new (w.alloc (.cells #[.int .i64 s, .int .i64 n] 42)) 23 #[.int .i64 c, .int .i64 i]).alloc (.cells #[.int .i64 0, .int .i64 0] 42))
  have HB := Lib.hid hb
  clear hb
  go_enter Try.func20, Try.ntmps20
  go_wp2_with (go_at_call 13; refine (rf_good _ _ _).mono ?_; rintro e w1 ⟨rfl, o1⟩; rw [HB.out]
               have O1 := Lib.hid (O.out.trans o1)
               have C1 := Lib.hid (C.out.only o1 (fun h => h))
               have T1 := Lib.hid (T.out.only o1 (fun h => h))
               have R1 := Lib.hid (R.out.only o1 (fun h => h))
               have e2 : ((w.alloc (.cells #[.int .i64 s, .int .i64 n] 42)).alloc (.cells #[.int .i64 c, .int .i64 i] 23)).heap.size = w.heap.size + 1 + 1 := by simp
               have e1 : (w.alloc (.cells #[.int .i64 s, .int .i64 n] 42)).heap.size = w.heap.size + 1 := by simp
               rw [e2] at R1
               rw [e1] at T1
               clear e2 e1
               have r0 := R1.out.cell_ (i := 0) rfl
               have r1 := R1.out.cell_ (i := 1) rfl
               have z0 := R1.out.frozen 0
               have z1 := R1.out.frozen 1
               have c0 := C1.out.cell_ (i := 0) rfl
               have c1 := C1.out.cell_ (i := 1) rfl
               have t0 := T1.out.cell_ (i := 0) rfl
               clear o1)
  have q0 := (R1.out.set_ 0 (.int .i64 s)).cell_ (i := 0) (u := .int .i64 s) (by simp)
  have q1 := ((R1.out.set_ 0 (.int .i64 s)).set_ 1 (.int .i64 n)).cell_ (i := 1) (u := .int .i64 n) (by simp)
  have o2 := (O1.out.setCell (p := ⟨w.heap.size + 1 + 1, 0, none⟩) (.inr (by simp; omega)) (.int .i64 s)).setCell (p := ⟨w.heap.size + 1 + 1, 1, none⟩) (.inr (by simp; omega)) (.int .i64 n)
  exact bodyPost_ret (v := .tuple #[.agg #[.int .i64 s, .int .i64 n], .bool false]) (by simp [results, Try.results20, go_sem, q0, q1]) rfl ⟨rfl, o2⟩
theorem rf_see (s n c i : Int) (w : World) (hb : stGood ⟨c, i⟩ = true) (hl : n < c) :
    Calls Try.prog 20 #[.agg #[.int .i64 s, .int .i64 n], .agg #[.int .i64 c, .int .i64 i]] w fun e w' => e = .returned (.tuple #[.agg #[.int .i64 s, .int .i64 c], .bool true]) ∧ Only none_ w w' := by
  have O := Lib.hid ((((Only.refl none_ w).alloc (.cells #[.int .i64 s, .int .i64 n] 42)).alloc (.cells #[.int .i64 c, .int .i64 i] 23)).alloc (.cells #[.int .i64 0, .int .i64 0] 42))
  have R := Lib.hid (Blk.new ((w.alloc (.cells #[.int .i64 s, .int .i64 n] 42)).alloc (.cells #[.int .i64 c, .int .i64 i] 23)) 42 #[.int .i64 0, .int .i64 0])
  have C := Lib.hid (((Blk.new w 42 #[.int .i64 s, .int .i64 n]).alloc (.cells #[.int .i64 c, .int .i64 i] 23)).alloc (.cells #[.int .i64 0, .int .i64 0] 42))
  have T := Lib.hid ((Blk.new (w.alloc (.cells #[.int .i64 s, .int .i64 n] 42)) 23 #[.int .i64 c, .int .i64 i]).alloc (.cells #[.int .i64 0, .int .i64 0] 42))
  have HB := Lib.hid hb
  clear hb
  go_enter Try.func20, Try.ntmps20
  go_wp2_with (go_at_call 13; refine (rf_good _ _ _).mono ?_; rintro e w1 ⟨rfl, o1⟩; rw [HB.out]
               have O1 := Lib.hid (O.out.trans o1)
               have C1 := Lib.hid (C.out.only o1 (fun h => h))
               have T1 := Lib.hid (T.out.only o1 (fun h => h))
               have R1 := Lib.hid (R.out.only o1 (fun h => h))
               have e2 : ((w.alloc (.cells #[.int .i64 s, .int .i64 n] 42)).alloc (.cells #[.int .i64 c, .int .i64 i] 23)).heap.size = w.heap.size + 1 + 1 := by simp
               have e1 : (w.alloc (.cells #[.int .i64 s, .int .i64 n] 42)).heap.size = w.heap.size + 1 := by simp
               rw [e2] at R1
               rw [e1] at T1
               clear e2 e1
               have r0 := (R1.out.far (p := ⟨w.heap.size, 1, none⟩) (by simp; omega) (.int .i64 c)).cell_ (i := 0) rfl
               have r1 := (R1.out.far (p := ⟨w.heap.size, 1, none⟩) (by simp; omega) (.int .i64 c)).cell_ (i := 1) rfl
               have z0 := (R1.out.far (p := ⟨w.heap.size, 1, none⟩) (by simp; omega) (.int .i64 c)).frozen 0
               have z1 := (R1.out.far (p := ⟨w.heap.size, 1, none⟩) (by simp; omega) (.int .i64 c)).frozen 1
               have c0 := C1.out.cell_ (i := 0) rfl
               have c1 := C1.out.cell_ (i := 1) rfl
               have zc := C1.out.frozen 1
               have d1 := (C1.out.set_ 1 (.int .i64 c)).cell_ (i := 1) (u := .int .i64 c) (by simp)
               have t0 := T1.out.cell_ (i := 0) rfl
               clear o1)
  have R2 := R1.out.far (p := ⟨w.heap.size, 1, none⟩) (by simp; omega) (.int .i64 c)
  have q0 := (R2.set_ 0 (.int .i64 s)).cell_ (i := 0) (u := .int .i64 s) (by simp)
  have q1 := ((R2.set_ 0 (.int .i64 s)).set_ 1 (.int .i64 c)).cell_ (i := 1) (u := .int .i64 c) (by simp)
  have o2 := ((O1.out.setCell (p := ⟨w.heap.size, 1, none⟩) (.inr (by simp)) (.int .i64 c)).setCell (p := ⟨w.heap.size + 1 + 1, 0, none⟩) (.inr (by simp; omega)) (.int .i64 s)).setCell (p := ⟨w.heap.size + 1 + 1, 1, none⟩) (.inr (by simp; omega)) (.int .i64 c)
  exact bodyPost_ret (v := .tuple #[.agg #[.int .i64 s, .int .i64 c], .bool true]) (by simp [results, Try.results20, go_sem, q0, q1]) rfl ⟨rfl, o2⟩
end Go.Proofs.Ytolgjjjclihmkaa
