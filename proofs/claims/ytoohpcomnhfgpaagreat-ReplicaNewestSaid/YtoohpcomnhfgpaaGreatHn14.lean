/- Texts of mine, one behind the other: GvH, GvI, GvK, GvS, RpE, RpF, OctK, OctS, OctX, RefT, EnH, StD. No statement of the seat is proved here. -/
import Derived.Test.YtoohpcomnhfgpaaGreatHn9
import Derived.Test.YtoohpcomnhfgpaaGreatHn13
import Derived.Test.YtoohpcomnhfgpaaGreatHn12
import Derived.Test.YtoohpcomnhfgpaaGreatHn3
import Derived.Test.YtoohpcomnhfgpaaGreatHn2
import Derived.Deep.RegionHeld3
import Derived.Deep.DrawnRows
import Derived.Test.YtoohpcomnhfgpaaGreatHn4
import Derived.LoopTactic
section
namespace Go.Proofs.YtoohpcomnhfgpaaGreat
open Go.RowKit
set_option maxRecDepth 100000
set_option linter.all false
set_option maxHeartbeats 12800000 in
theorem gv_bury_no (B : World) (g tb : Nat) (site t2 : Int) (l : List En) (v : Value) (e : En) (w : World) (h : Gv B g tb site t2 l v w) (ht : takes (enDuty e site) t2 e = false) :
    Calls Tryz.prog 180 #[.pointer (some ⟨g, 0, none⟩), .agg #[.string e.k, .string e.v, .bool e.d, .int .i64 e.s.c, .int .i64 e.s.s, .int .i64 e.a.c, .int .i64 e.a.s, .int .i64 e.p, .int .i64 e.g]] w fun E w' => E = .returned (.bool false) ∧ Only none_ w w' := by
  have O0 := Lib.hid ((Only.refl none_ w).alloc (.cells #[.string e.k, .string e.v, .bool e.d, .int .i64 e.s.c, .int .i64 e.s.s, .int .i64 e.a.c, .int .i64 e.a.s, .int .i64 e.p, .int .i64 e.g] 82))
  have B0 := Lib.hid (Blk.new w 82 #[.string e.k, .string e.v, .bool e.d, .int .i64 e.s.c, .int .i64 e.s.s, .int .i64 e.a.c, .int .i64 e.a.s, .int .i64 e.p, .int .i64 e.g])
  have H0 := Lib.hid (fun (w' : World) (o : Only none_ w w') => (h.keep o).bk)
  have HCK := Lib.hid (fun (w' : World) => en_check e w')
  by_cases hc : enCheck e = 0
  · have hdd : e.d = true → 1 ≤ e.p ∧ e.p ≤ 4095 := fun hd => by have := cert_of hc hd; omega
    have HDU := Lib.hid (fun (w' : World) => en_duty e site w' hdd)
    rw [hc] at HCK
    cases hd : enDuty e site with
    | false =>
      rw [hd] at HDU
      clear h ht hc hdd hd
      go_enter Tryz.func180, Tryz.ntmps180
      go_upto_region 1 with fail
      (refine wp_region_free (fun w' => Only none_ (w.alloc (.cells #[.string e.k, .string e.v, .bool e.d, .int .i64 e.s.c, .int .i64 e.s.s, .int .i64 e.a.c, .int .i64 e.a.s, .int .i64 e.p, .int .i64 e.g] 82)) w') (Only none_) (F := ?_) (by kernel_rfl) 49 (by rfl) (by kernel_rfl) (fun x => ?_) ((Only.refl none_ _).drew) ?_; rotate_left; (· (simp only [putsL, Act.put, List.setIfInBounds_toArray, List.set_cons_zero, List.set_cons_succ, Nat.reduceAdd]; exact rfl)))
      repeat (first
        | ((first | refine fr_value (c := ?_) (by rfl) (fun w => Only.refl none_ w) (fun x w0 hS hk => ?_) ?_ | refine fr_value_if (c := ?_) (by rfl) (by rfl) (by rfl) (fun w => Only.refl none_ w) (fun x w0 hS hk => ?_) ?_); rotate_left; (· (have hk2 := hk; (try simp [knAll, Region.binds] at hk2); obtain ⟨t0, t1, t2, t3, t4, t5, t6, t7, t8⟩ := nine_of (B0.out.only hS (fun h => h)); have g3 := (H0.out _ (O0.out.trans hS)).cell_ (i := 3) rfl; have g4 := (H0.out _ (O0.out.trans hS)).cell_ (i := 4) rfl; go_simp; try (with_reducible rfl))); try simp only [List.nil_append, List.cons_append])
        | ((first | refine fr_skip (by rfl) (by rfl) (by rfl) (fun w => Only.refl none_ w) ?_ | refine fr_skip_too (by rfl) (by rfl) (by rfl) (fun w => Only.refl none_ w) ?_); try simp only [List.nil_append, List.cons_append])
        | ((first | refine fr_some (fun v _ => v = .int .i64 0) (fun _ _ _ _ _ _ h => h) (by rfl) (fun x w0 hS hk => ?_) ?_ | refine fr_some_if (fun v _ => v = .int .i64 0) (fun _ _ _ _ _ _ h => h) (by rfl) (by rfl) (by rfl) (fun x w0 hS hk => ?_) ?_); (· (have hk2 := hk; (try simp [knAll, Region.binds] at hk2); skip; refine got_call (f := 83) (args := ?_) (by go_simp; try (with_reducible rfl)) ?_; refine (HCK.out _).mono ?_; rintro E w9 ⟨rfl, o9⟩; exact ⟨_, rfl, rfl, hS.trans o9, o9⟩)); try simp only [List.nil_append, List.cons_append])
        | ((first | refine fr_some (fun v _ => v = .bool false) (fun _ _ _ _ _ _ h => h) (by rfl) (fun x w0 hS hk => ?_) ?_ | refine fr_some_if (fun v _ => v = .bool false) (fun _ _ _ _ _ _ h => h) (by rfl) (by rfl) (by rfl) (fun x w0 hS hk => ?_) ?_); (· (have hk2 := hk; (try simp [knAll, Region.binds] at hk2); skip; refine got_call (f := 224) (args := ?_) (by go_simp; try (with_reducible rfl)) ?_; refine (HDU.out _).mono ?_; rintro E w9 ⟨rfl, o9⟩; exact ⟨_, rfl, rfl, hS.trans o9, o9⟩)); try simp only [List.nil_append, List.cons_append]))
      (refine fr_end ?_; intro x w9 hS hk)
      have e20 := kn_end_at 20 hk (by rfl)
      rw [Nat.zero_add] at e20
      rw [e20]
      have O9 := Lib.hid hS
      clear hk hS e20
      go_wp2_with fail
      go_ret
      exact ⟨rfl, O0.out.trans O9.out⟩
    | true =>
      have hg : t2 ≤ e.g := by
        rw [takes, hd, hc] at ht
        simpa using ht
      rw [hd] at HDU
      have hg1 : decide (e.g < t2) = false := by simp; omega
      have hg2 : decide (t2 ≤ e.g) = true := by simp; omega
      clear h ht hc hdd hd
      go_enter Tryz.func180, Tryz.ntmps180
      go_upto_region 1 with fail
      (refine wp_region_free (fun w' => Only none_ (w.alloc (.cells #[.string e.k, .string e.v, .bool e.d, .int .i64 e.s.c, .int .i64 e.s.s, .int .i64 e.a.c, .int .i64 e.a.s, .int .i64 e.p, .int .i64 e.g] 82)) w') (Only none_) (F := ?_) (by kernel_rfl) 49 (by rfl) (by kernel_rfl) (fun x => ?_) ((Only.refl none_ _).drew) ?_; rotate_left; (· (simp only [putsL, Act.put, List.setIfInBounds_toArray, List.set_cons_zero, List.set_cons_succ, Nat.reduceAdd]; exact rfl)))
      repeat (first
        | ((first | refine fr_value (c := ?_) (by rfl) (fun w => Only.refl none_ w) (fun x w0 hS hk => ?_) ?_ | refine fr_value_if (c := ?_) (by rfl) (by rfl) (by rfl) (fun w => Only.refl none_ w) (fun x w0 hS hk => ?_) ?_); rotate_left; (· (have hk2 := hk; (try simp [knAll, Region.binds] at hk2); obtain ⟨t0, t1, t2, t3, t4, t5, t6, t7, t8⟩ := nine_of (B0.out.only hS (fun h => h)); have g3 := (H0.out _ (O0.out.trans hS)).cell_ (i := 3) rfl; have g4 := (H0.out _ (O0.out.trans hS)).cell_ (i := 4) rfl; go_simp; try (with_reducible rfl))); try simp only [List.nil_append, List.cons_append])
        | ((first | refine fr_skip (by rfl) (by rfl) (by rfl) (fun w => Only.refl none_ w) ?_ | refine fr_skip_too (by rfl) (by rfl) (by rfl) (fun w => Only.refl none_ w) ?_); try simp only [List.nil_append, List.cons_append])
        | ((first | refine fr_some (fun v _ => v = .int .i64 0) (fun _ _ _ _ _ _ h => h) (by rfl) (fun x w0 hS hk => ?_) ?_ | refine fr_some_if (fun v _ => v = .int .i64 0) (fun _ _ _ _ _ _ h => h) (by rfl) (by rfl) (by rfl) (fun x w0 hS hk => ?_) ?_); (· (have hk2 := hk; (try simp [knAll, Region.binds] at hk2); skip; refine got_call (f := 83) (args := ?_) (by go_simp; try (with_reducible rfl)) ?_; refine (HCK.out _).mono ?_; rintro E w9 ⟨rfl, o9⟩; exact ⟨_, rfl, rfl, hS.trans o9, o9⟩)); try simp only [List.nil_append, List.cons_append])
        | ((first | refine fr_some (fun v _ => v = .bool true) (fun _ _ _ _ _ _ h => h) (by rfl) (fun x w0 hS hk => ?_) ?_ | refine fr_some_if (fun v _ => v = .bool true) (fun _ _ _ _ _ _ h => h) (by rfl) (by rfl) (by rfl) (fun x w0 hS hk => ?_) ?_); (· (have hk2 := hk; (try simp [knAll, Region.binds] at hk2); skip; refine got_call (f := 224) (args := ?_) (by go_simp; try (with_reducible rfl)) ?_; refine (HDU.out _).mono ?_; rintro E w9 ⟨rfl, o9⟩; exact ⟨_, rfl, rfl, hS.trans o9, o9⟩)); try simp only [List.nil_append, List.cons_append]))
      (refine fr_end ?_; intro x w9 hS hk)
      have e20 := kn_end_at 20 hk (by rfl)
      rw [Nat.zero_add] at e20
      rw [e20]
      have O9 := Lib.hid hS
      clear hk hS e20
      go_wp2_with fail
      go_ret
      exact ⟨rfl, O0.out.trans O9.out⟩
  · generalize enCheck e = z at hc HCK
    have hz1 : ((z : Int) == 0) = false := by simpa using hc
    have hz2 : ((z : Int) != 0) = true := by simpa using hc
    clear h ht
    go_enter Tryz.func180, Tryz.ntmps180
    go_upto_region 1 with fail
    (refine wp_region_free (fun w' => Only none_ (w.alloc (.cells #[.string e.k, .string e.v, .bool e.d, .int .i64 e.s.c, .int .i64 e.s.s, .int .i64 e.a.c, .int .i64 e.a.s, .int .i64 e.p, .int .i64 e.g] 82)) w') (Only none_) (F := ?_) (by kernel_rfl) 49 (by rfl) (by kernel_rfl) (fun x => ?_) ((Only.refl none_ _).drew) ?_; rotate_left; (· (simp only [putsL, Act.put, List.setIfInBounds_toArray, List.set_cons_zero, List.set_cons_succ, Nat.reduceAdd]; exact rfl)))
    repeat (first
      | ((first | refine fr_value (c := ?_) (by rfl) (fun w => Only.refl none_ w) (fun x w0 hS hk => ?_) ?_ | refine fr_value_if (c := ?_) (by rfl) (by rfl) (by rfl) (fun w => Only.refl none_ w) (fun x w0 hS hk => ?_) ?_); rotate_left; (· (have hk2 := hk; (try simp [knAll, Region.binds] at hk2); obtain ⟨t0, t1, t2, t3, t4, t5, t6, t7, t8⟩ := nine_of (B0.out.only hS (fun h => h)); have g3 := (H0.out _ (O0.out.trans hS)).cell_ (i := 3) rfl; have g4 := (H0.out _ (O0.out.trans hS)).cell_ (i := 4) rfl; go_simp; try (with_reducible rfl))); try simp only [List.nil_append, List.cons_append])
      | ((first | refine fr_skip (by rfl) (by rfl) (by rfl) (fun w => Only.refl none_ w) ?_ | refine fr_skip_too (by rfl) (by rfl) (by rfl) (fun w => Only.refl none_ w) ?_); try simp only [List.nil_append, List.cons_append])
      | ((first | refine fr_some (fun v _ => v = .int .i64 z) (fun _ _ _ _ _ _ h => h) (by rfl) (fun x w0 hS hk => ?_) ?_ | refine fr_some_if (fun v _ => v = .int .i64 z) (fun _ _ _ _ _ _ h => h) (by rfl) (by rfl) (by rfl) (fun x w0 hS hk => ?_) ?_); (· (have hk2 := hk; (try simp [knAll, Region.binds] at hk2); skip; refine got_call (f := 83) (args := ?_) (by go_simp; try (with_reducible rfl)) ?_; refine (HCK.out _).mono ?_; rintro E w9 ⟨rfl, o9⟩; exact ⟨_, rfl, rfl, hS.trans o9, o9⟩)); try simp only [List.nil_append, List.cons_append]))
    (refine fr_end ?_; intro x w9 hS hk)
    have e20 := kn_end_at 20 hk (by rfl)
    rw [Nat.zero_add] at e20
    rw [e20]
    have O9 := Lib.hid hS
    clear hk hS e20
    go_wp2_with fail
    go_ret
    exact ⟨rfl, O0.out.trans O9.out⟩
end Go.Proofs.YtoohpcomnhfgpaaGreat
end
section
namespace Go.Proofs.YtoohpcomnhfgpaaGreat
open Go.RowKit
set_option maxRecDepth 100000
set_option linter.all false
set_option maxHeartbeats 12800000 in
theorem gv_bury_yes (B : World) (g tb : Nat) (site t2 : Int) (l : List En) (v : Value) (e : En) (w : World) (h : Gv B g tb site t2 l v w) (hr : l.length < 4096) (ht : takes (enDuty e site) t2 e = true) :
    Calls Tryz.prog 180 #[.pointer (some ⟨g, 0, none⟩), .agg #[.string e.k, .string e.v, .bool e.d, .int .i64 e.s.c, .int .i64 e.s.s, .int .i64 e.a.c, .int .i64 e.a.s, .int .i64 e.p, .int .i64 e.g]] w fun E w' => E = .returned (.bool (buryE (enDuty e site) t2 l e).2) ∧ LeftG B g tb site t2 v w (buryE (enDuty e site) t2 l e).1 w' := by
  have O0 := Lib.hid ((Only.refl none_ w).alloc (.cells #[.string e.k, .string e.v, .bool e.d, .int .i64 e.s.c, .int .i64 e.s.s, .int .i64 e.a.c, .int .i64 e.a.s, .int .i64 e.p, .int .i64 e.g] 82))
  have B0 := Lib.hid (Blk.new w 82 #[.string e.k, .string e.v, .bool e.d, .int .i64 e.s.c, .int .i64 e.s.s, .int .i64 e.a.c, .int .i64 e.a.s, .int .i64 e.p, .int .i64 e.g])
  have H0 := Lib.hid (fun (w' : World) (o : Only none_ w w') => (h.keep o).bk)
  have HE := Lib.hid (fun (w' : World) (o : Only none_ w w') => LeftG.after0 o (LeftG.same (h.keep o)))
  have HCK := Lib.hid (fun (w' : World) => en_check e w')
  have ht' := ht
  simp only [takes, Bool.and_eq_true, decide_eq_true_eq] at ht'
  obtain ⟨⟨hc, hd⟩, hg⟩ := ht'
  have hdd : e.d = true → 1 ≤ e.p ∧ e.p ≤ 4095 := fun hd => by have := cert_of hc hd; omega
  have HDU := Lib.hid (fun (w' : World) => en_duty e site w' hdd)
  rw [hc] at HCK
  rw [bury_is ht]
  rw [hd] at HDU
  obtain ⟨e', he'⟩ : ∃ x, (lookE l e.k).getD enZero = x := ⟨_, rfl⟩
  have HG := Lib.hid (fun (w' : World) (o : Only none_ w w') => sh_get B g tb l v e.k e' he' w' ((h.keep o).sh) ((h.keep o).t))
  generalize hasE l e.k = hs at HG
  rw [he']
  have HJ := Lib.hid (fun (w' : World) => gv_joined e' e w')
  obtain ⟨f, hf⟩ : ∃ x, gvJoin e' e = x := ⟨_, rfl⟩
  rw [hf] at HJ ⊢
  have HP := Lib.hid (fun (w' : World) (o : Only none_ w w') => (sh_put B g tb l v f w' ((h.keep o).sh) ((h.keep o).t) hr).mono (R' := fun E w2 => E = .returned (.tuple #[]) ∧ LeftG B g tb site t2 v w (setE f l) w2) (fun E w2 h2 => ⟨h2.1, LeftG.after0 o (LeftG.of_put (h.keep o) h2.2)⟩))
  have HEQ := Lib.hid (fun (w' : World) => eql_of (eq_api_entry w' f e' 9997))
  have hg1 : decide (e.g < t2) = true := by simpa using hg
  have hg2 : decide (t2 ≤ e.g) = false := by simp; omega
  obtain ⟨r0, hr0⟩ : ∃ r, (if enEq f e' = true then (l, false) else (setE f l, true)) = r := ⟨_, rfl⟩
  rw [hr0]
  have HRR := Lib.hid hr0
  clear h hr ht hc hdd hd he' hf hg hr0
  go_enter Tryz.func180, Tryz.ntmps180
  go_upto_region 1 with fail
  obtain ⟨wa, hwa⟩ : ∃ wa, w.alloc (.cells #[.string e.k, .string e.v, .bool e.d, .int .i64 e.s.c, .int .i64 e.s.s, .int .i64 e.a.c, .int .i64 e.a.s, .int .i64 e.p, .int .i64 e.g] 82) = wa := ⟨_, rfl⟩
  rw [hwa] at B0 O0 ⊢
  (refine wp_region_free (fun w' => Only none_ wa w') (Only none_) (F := ?_) (by kernel_rfl) 49 (by rfl) (by kernel_rfl) (fun x => ?_) ((Only.refl none_ _).drew) ?_; rotate_left; (· (simp only [putsL, Act.put, List.setIfInBounds_toArray, List.set_cons_zero, List.set_cons_succ, Nat.reduceAdd]; exact rfl)))
  repeat (first
    | ((first | refine fr_value (c := ?_) (by rfl) (fun w => Only.refl none_ w) (fun x w0 hS hk => ?_) ?_ | refine fr_value_if (c := ?_) (by rfl) (by rfl) (by rfl) (fun w => Only.refl none_ w) (fun x w0 hS hk => ?_) ?_); rotate_left; (· (have hk2 := hk; (try simp [knAll, Region.binds] at hk2); obtain ⟨t0, t1, t2, t3, t4, t5, t6, t7, t8⟩ := nine_of (B0.out.only hS (fun h => h)); have g3 := (H0.out _ (O0.out.trans hS)).cell_ (i := 3) rfl; have g4 := (H0.out _ (O0.out.trans hS)).cell_ (i := 4) rfl; go_simp; try (with_reducible rfl))); try simp only [List.nil_append, List.cons_append])
    | ((first | refine fr_skip (by rfl) (by rfl) (by rfl) (fun w => Only.refl none_ w) ?_ | refine fr_skip_too (by rfl) (by rfl) (by rfl) (fun w => Only.refl none_ w) ?_); try simp only [List.nil_append, List.cons_append])
    | ((first | refine fr_some (fun v _ => v = .int .i64 0) (fun _ _ _ _ _ _ h => h) (by rfl) (fun x w0 hS hk => ?_) ?_ | refine fr_some_if (fun v _ => v = .int .i64 0) (fun _ _ _ _ _ _ h => h) (by rfl) (by rfl) (by rfl) (fun x w0 hS hk => ?_) ?_); (· (have hk2 := hk; (try simp [knAll, Region.binds] at hk2); skip; refine got_call (f := 83) (args := ?_) (by go_simp; try (with_reducible rfl)) ?_; refine (HCK.out _).mono ?_; rintro E w9 ⟨rfl, o9⟩; exact ⟨_, rfl, rfl, hS.trans o9, o9⟩)); try simp only [List.nil_append, List.cons_append])
    | ((first | refine fr_some (fun v _ => v = .bool true) (fun _ _ _ _ _ _ h => h) (by rfl) (fun x w0 hS hk => ?_) ?_ | refine fr_some_if (fun v _ => v = .bool true) (fun _ _ _ _ _ _ h => h) (by rfl) (by rfl) (by rfl) (fun x w0 hS hk => ?_) ?_); (· (have hk2 := hk; (try simp [knAll, Region.binds] at hk2); skip; refine got_call (f := 224) (args := ?_) (by go_simp; try (with_reducible rfl)) ?_; refine (HDU.out _).mono ?_; rintro E w9 ⟨rfl, o9⟩; exact ⟨_, rfl, rfl, hS.trans o9, o9⟩)); try simp only [List.nil_append, List.cons_append]))
  (refine fr_end ?_; intro x w9 hS hk)
  have e20 := kn_end_at 20 hk (by rfl)
  rw [Nat.zero_add] at e20
  rw [e20]
  have O9 := Lib.hid (O0.out.trans hS)
  have B9 := Lib.hid (B0.out.only hS (fun h => h))
  have hbw : w.heap.size < wa.heap.size := by rw [← hwa, World.size_alloc]; omega
  have HBW := Lib.hid (Nat.lt_of_lt_of_le hbw hS.size)
  clear hk hS e20 B0 O0 hbw HCK HDU hg1 hg2 hwa
  go_upto_region 3 with fail
  go_cut [5, 6] (fun s5 s6 w' => Gk w9 e' hs s5 s6 w')
  case rest =>
    obtain ⟨b, rfl, rfl, hb, B6, o6⟩ := hcut
    have O6 := Lib.hid (O9.out.trans o6)
    have BE := Lib.hid (B9.out.only o6 (fun h => h))
    have BG := Lib.hid B6
    clear o6 B6 O9 B9 HG
    have NB : Hid (w.heap.size < b) := by have := HBW.out; rw [Hid]; omega
    clear HBW hb
    by_cases hq : enEq f e' = true
    · obtain rfl : r0 = (l, false) := by rw [← HRR.out, if_pos hq]
      clear HRR
      rw [hq] at HEQ
      have hqa := HEQ.out
      clear hq HEQ
      go_wp2_with (first
        | (with_reducible refine wpl_load rfl 82 _ rfl b rfl _ #[.string e'.k, .string e'.v, .bool e'.d, .int .i64 e'.s.c, .int .i64 e'.s.s, .int .i64 e'.a.c, .int .i64 e'.a.s, .int .i64 e'.p, .int .i64 e'.g] _ BG.out Tryz.underlying82 rfl (by kernel_rfl) ?_)
        | (with_reducible refine wpl_load rfl 82 _ rfl w.heap.size rfl _ #[.string e.k, .string e.v, .bool e.d, .int .i64 e.s.c, .int .i64 e.s.s, .int .i64 e.a.c, .int .i64 e.a.s, .int .i64 e.p, .int .i64 e.g] _ BE.out Tryz.underlying82 rfl (by kernel_rfl) ?_)
        | (go_at_call 225; refine (HJ.out _).mono ?_; rintro E w7 ⟨rfl, o7⟩
           have O8 := Lib.hid ((O6.out.trans o7).alloc (.cells #[.string f.k, .string f.v, .bool f.d, .int .i64 f.s.c, .int .i64 f.s.s, .int .i64 f.a.c, .int .i64 f.a.s, .int .i64 f.p, .int .i64 f.g] 82))
           have BG8 := Lib.hid ((BG.out.only o7 (fun h => h)).alloc (.cells #[.string f.k, .string f.v, .bool f.d, .int .i64 f.s.c, .int .i64 f.s.s, .int .i64 f.a.c, .int .i64 f.a.s, .int .i64 f.p, .int .i64 f.g] 82))
           have BF8 := Lib.hid (Blk.new w7 82 #[.string f.k, .string f.v, .bool f.d, .int .i64 f.s.c, .int .i64 f.s.s, .int .i64 f.a.c, .int .i64 f.a.s, .int .i64 f.p, .int .i64 f.g])
           clear o7)
        | (with_reducible refine wpl_new rfl rfl 82 rfl _ _ rfl #[.string f.k, .string f.v, .bool f.d, .int .i64 f.s.c, .int .i64 f.s.s, .int .i64 f.a.c, .int .i64 f.a.s, .int .i64 f.p, .int .i64 f.g] rfl rfl (by kernel_rfl) (en_cells_one f) ?_)
        | (with_reducible refine wpl_load rfl 82 _ rfl w7.heap.size rfl _ #[.string f.k, .string f.v, .bool f.d, .int .i64 f.s.c, .int .i64 f.s.s, .int .i64 f.a.c, .int .i64 f.a.s, .int .i64 f.p, .int .i64 f.g] _ BF8.out Tryz.underlying82 rfl (by kernel_rfl) ?_)
        | (with_reducible refine wpl_load rfl 82 _ rfl b rfl _ #[.string e'.k, .string e'.v, .bool e'.d, .int .i64 e'.s.c, .int .i64 e'.s.s, .int .i64 e'.a.c, .int .i64 e'.a.s, .int .i64 e'.p, .int .i64 e'.g] _ BG8.out Tryz.underlying82 rfl (by kernel_rfl) ?_))
      go_ret
      exact ⟨rfl, HE.out _ O8.out⟩
    · obtain rfl : r0 = (setE f l, true) := by rw [← HRR.out, if_neg hq]
      clear HRR
      have hqf : enEq f e' = false := by simpa using hq
      rw [hqf] at HEQ
      have hqa := HEQ.out
      clear hq hqf HEQ
      go_upto_region 7 with (first
        | (with_reducible refine wpl_load rfl 82 _ rfl b rfl _ #[.string e'.k, .string e'.v, .bool e'.d, .int .i64 e'.s.c, .int .i64 e'.s.s, .int .i64 e'.a.c, .int .i64 e'.a.s, .int .i64 e'.p, .int .i64 e'.g] _ BG.out Tryz.underlying82 rfl (by kernel_rfl) ?_)
        | (with_reducible refine wpl_load rfl 82 _ rfl w.heap.size rfl _ #[.string e.k, .string e.v, .bool e.d, .int .i64 e.s.c, .int .i64 e.s.s, .int .i64 e.a.c, .int .i64 e.a.s, .int .i64 e.p, .int .i64 e.g] _ BE.out Tryz.underlying82 rfl (by kernel_rfl) ?_)
        | (go_at_call 225; refine (HJ.out _).mono ?_; rintro E w7 ⟨rfl, o7⟩
           have O8 := Lib.hid ((O6.out.trans o7).alloc (.cells #[.string f.k, .string f.v, .bool f.d, .int .i64 f.s.c, .int .i64 f.s.s, .int .i64 f.a.c, .int .i64 f.a.s, .int .i64 f.p, .int .i64 f.g] 82))
           have BG8 := Lib.hid ((BG.out.only o7 (fun h => h)).alloc (.cells #[.string f.k, .string f.v, .bool f.d, .int .i64 f.s.c, .int .i64 f.s.s, .int .i64 f.a.c, .int .i64 f.a.s, .int .i64 f.p, .int .i64 f.g] 82))
           have BF8 := Lib.hid (Blk.new w7 82 #[.string f.k, .string f.v, .bool f.d, .int .i64 f.s.c, .int .i64 f.s.s, .int .i64 f.a.c, .int .i64 f.a.s, .int .i64 f.p, .int .i64 f.g])
           clear o7)
        | (with_reducible refine wpl_new rfl rfl 82 rfl _ _ rfl #[.string f.k, .string f.v, .bool f.d, .int .i64 f.s.c, .int .i64 f.s.s, .int .i64 f.a.c, .int .i64 f.a.s, .int .i64 f.p, .int .i64 f.g] rfl rfl (by kernel_rfl) (en_cells_one f) ?_)
        | (with_reducible refine wpl_load rfl 82 _ rfl w7.heap.size rfl _ #[.string f.k, .string f.v, .bool f.d, .int .i64 f.s.c, .int .i64 f.s.s, .int .i64 f.a.c, .int .i64 f.a.s, .int .i64 f.p, .int .i64 f.g] _ BF8.out Tryz.underlying82 rfl (by kernel_rfl) ?_)
        | (with_reducible refine wpl_load rfl 82 _ rfl b rfl _ #[.string e'.k, .string e'.v, .bool e'.d, .int .i64 e'.s.c, .int .i64 e'.s.s, .int .i64 e'.a.c, .int .i64 e'.a.s, .int .i64 e'.p, .int .i64 e'.g] _ BG8.out Tryz.underlying82 rfl (by kernel_rfl) ?_))
      generalize w7.alloc (.cells #[.string f.k, .string f.v, .bool f.d, .int .i64 f.s.c, .int .i64 f.s.s, .int .i64 f.a.c, .int .i64 f.a.s, .int .i64 f.p, .int .i64 f.g] 82) = w8 at *
      (refine wp_region_free_tail (fun w' => Only none_ w8 w') (Only none_) (F := ?_) (by kernel_rfl) 4 49 (by rfl) (by kernel_rfl) (fun x => ?_) ((Only.refl none_ w8).drew) ?_; rotate_left; (· (simp only [List.take_succ_cons, List.take_zero, putsL, Act.put, List.setIfInBounds_toArray, List.set_cons_zero, List.set_cons_succ, Nat.reduceAdd]; exact rfl)); simp only [List.take_succ_cons, List.take_zero, List.drop_succ_cons, List.drop_zero])
      repeat (first
        | ((first | refine fr_value (c := ?_) (by rfl) (fun w => Only.refl none_ w) (fun x w0 hS hk => ?_) ?_ | refine fr_value_if (c := ?_) (by rfl) (by rfl) (by rfl) (fun w => Only.refl none_ w) (fun x w0 hS hk => ?_) ?_); rotate_left; (· (have hk2 := hk; (try simp [knAll, Region.binds] at hk2); obtain ⟨t0, t1, t2, t3, t4, t5, t6, t7, t8⟩ := nine_of (BF8.out.only hS (fun h => h)); go_simp; try (with_reducible rfl))); try simp only [List.nil_append, List.cons_append]))
      (refine fr_end ?_; intro x w9 hS hk)
      have e2 := kn_end_at 2 hk (by rfl)
      have e3 := kn_end_at 3 hk (by rfl)
      rw [Nat.zero_add] at e2 e3
      rw [e2, e3]
      have O10 := Lib.hid (O8.out.trans hS)
      clear hk hS e2 e3
      go_wp2_with (first
        | (go_at_call 157; refine (HP.out _ O10.out).mono ?_; rintro E w11 ⟨rfl, hL⟩
           have HL := Lib.hid hL
           clear hL))
      go_ret
      exact ⟨rfl, HL.out⟩
  case first =>
    obtain ⟨t0, t1, t2, t3, t4, t5, t6, t7, t8⟩ := nine_of (Blk.drew B9.out)
    obtain ⟨u0, u1, u2, u3, u4, u5, u6, u7, u8⟩ := nine_of (Blk.drew (B9.out.alloc (.cells #[.string ⟨#[]⟩, .string ⟨#[]⟩, .bool false, .int .i64 0, .int .i64 0, .int .i64 0, .int .i64 0, .int .i64 0, .int .i64 0] 82)))
    have BN := Lib.hid (Blk.drew (Blk.new w9 82 #[.string ⟨#[]⟩, .string ⟨#[]⟩, .bool false, .int .i64 0, .int .i64 0, .int .i64 0, .int .i64 0, .int .i64 0, .int .i64 0]))
    go_region_law (first
      | (refine Se.step_call (by simp [Region.wanted]) 195 #[.pointer (some ⟨g, 0, none⟩), .string e.k] (by go_simp; try (with_reducible rfl)) ?_
         refine (HG.out _ (by first | exact O9.out.drew | exact (O9.out.alloc _).drew)).mono ?_
         rintro E w1 ⟨rfl, o1⟩
         refine ⟨_, rfl, ?_⟩
         have O1 : Hid (Only none_ w9 w1) := by first | exact ((Only.refl none_ w9).drew).trans o1 | exact (((Only.refl none_ w9).alloc _).drew).trans o1
         try (have B1 := Lib.hid (BN.out.only o1 (fun h => h)); have q1 := nine_of B1.out; have z1 := frozen9 B1.out)
         have B2 := Lib.hid (Blk.new w1 82 #[.string ⟨#[]⟩, .string ⟨#[]⟩, .bool false, .int .i64 0, .int .i64 0, .int .i64 0, .int .i64 0, .int .i64 0, .int .i64 0])
         have q2 := nine_of B2.out
         have z2 := frozen9 B2.out
         clear o1))
    all_goals go_wp2_with fail
    all_goals go_meet
    all_goals first
      | exact ⟨_, rfl, rfl, O1.out.size, Blk.new _ _ _, O1.out.alloc _⟩
      | exact Gk.of (x := enZero) O1.out B1.out (Nat.le_refl _)
end Go.Proofs.YtoohpcomnhfgpaaGreat
end
section
namespace Go.Proofs.YtoohpcomnhfgpaaGreat
open Go.RowKit Go.Shelf
set_option maxRecDepth 100000
set_option linter.all false
attribute [local go_sem] Oper.semAt_some
def lftE (t2 : Int) (pre : List (Pr En)) : List En := (pre.map fun p => olderE p.v).filter fun e => decide (e.g < t2)
def gneE (t2 : Int) (pre : List (Pr En)) : List ByteArray := ((pre.map fun p => olderE p.v).filter fun e => !decide (e.g < t2)).map (·.k)
structure Tq (B w : World) (M g pb gb lb tb : Nat) (t2 : Int) (pre : List (Pr En)) (W : World) : Prop where
  ex : ∃ vg vl, Blk W gb 38 #[vg] ∧ W.ownsRow M 9 1 vg (gneE t2 pre).length ((gneE t2 pre).map .string) ∧ Se.Tb w tb 4096 (prs (lftE t2 pre)) vl W
  p : Blk W pb 74 #[.pointer (some ⟨g, 0, none⟩)]
  l : Blk W lb 260 #[.pointer (some ⟨tb, 0, none⟩), .string ⟨#[]⟩, .pointer none]
  ho : Only none_ w W
  sz : M ≤ W.heap.size
theorem tb_turn {B W W' : World} {g : Nat} {room : Int} {l : List (Pr En)} {v : Value} {row : Option Nat} (h : Se.Tb B g room l v W) (hg : W.grownBy W' row) (hr : ∀ r, row = some r → B.heap.size ≤ r ∧ ∃ o : Obj, W.heap[r]? = some o ∧ o.isCells = false) : Se.Tb B g room l v W' :=
  ⟨blk_turn h.bk hg (fun r e => (hr r e).2), own_turn h.ow hg (fun r e => (hr r e).2), h.ho.grown hg (fun k e => .inr (hr k e).1), h.ge, h.rs, h.lr, h.rm⟩
theorem Tq.own (B w : World) (M g pb gb lb tb : Nat) (t2 : Int) (hs : w.heap.size ≤ M) (hb : B.heap.size ≤ M) : OwnFrom M (Tq B w M g pb gb lb tb t2) := by
  intro s W W' row h hg hr
  obtain ⟨vg, vl, b1, ow, t⟩ := h.ex
  have hr' := fun r e => (hr r e).2
  exact ⟨⟨vg, vl, blk_turn b1 hg hr', own_turn ow hg hr', tb_turn t hg (fun r e => ⟨Nat.le_trans hs (hr r e).1, (hr r e).2⟩)⟩, blk_turn h.p hg hr', blk_turn h.l hg hr', h.ho.grown hg (fun k e => .inr (Nat.le_trans hs (hr k e).1)), Nat.le_trans h.sz hg.size⟩
end Go.Proofs.YtoohpcomnhfgpaaGreat
end
section
namespace Go.Proofs.YtoohpcomnhfgpaaGreat
open Go.RowKit
set_option maxRecDepth 100000
set_option linter.all false
theorem gv_bury (B : World) (g tb : Nat) (site t2 : Int) (l : List En) (v : Value) (e : En) (w : World) (h : Gv B g tb site t2 l v w) (hr : l.length < 4096) :
    Calls Tryz.prog 180 #[.pointer (some ⟨g, 0, none⟩), .agg #[.string e.k, .string e.v, .bool e.d, .int .i64 e.s.c, .int .i64 e.s.s, .int .i64 e.a.c, .int .i64 e.a.s, .int .i64 e.p, .int .i64 e.g]] w fun E w' => E = .returned (.bool (buryE (enDuty e site) t2 l e).2) ∧ LeftG B g tb site t2 v w (buryE (enDuty e site) t2 l e).1 w' := by
  by_cases ht : takes (enDuty e site) t2 e = true
  · exact gv_bury_yes B g tb site t2 l v e w h hr ht
  · have ht' : takes (enDuty e site) t2 e = false := by simpa using ht
    rw [bury_off ht']
    exact (gv_bury_no B g tb site t2 l v e w h ht').mono fun E w' h2 => ⟨h2.1, LeftG.after0 h2.2 (LeftG.same (h.keep h2.2))⟩
end Go.Proofs.YtoohpcomnhfgpaaGreat
end
section
namespace Go.Proofs.YtoohpcomnhfgpaaGreat
open Go.RowKit
set_option maxRecDepth 100000
set_option linter.all false
def encB (e : En) : List UInt8 := layB (neOf e)
theorem enc_of {e : En} (h : enCheck e = 0) : ∃ m : Ne, e = m.en ∧ m.ok ∧ m.k.size ≤ 16 ∧ m.v.size ≤ 32 ∧ encB e = layB m := by
  obtain ⟨m, h1, h2, h3, h4⟩ := chk_ne h
  exact ⟨m, h1, h2, h3, h4, by rw [encB, h1, neOf_en]⟩
theorem enc_len {e : En} (h : enCheck e = 0) : 1 ≤ (encB e).length ∧ (encB e).length ≤ 80 := by
  obtain ⟨m, h1, h2, h3, h4, h5⟩ := enc_of h
  have a1 := txtB_len m.k
  have a2 := txtB_len m.v
  rw [h5]
  simp only [layB, List.length_append, leBytes_len, a1, a2, List.length_cons, List.length_nil]
  omega
theorem ch_ways (d : Dv) : chCode d 0 = 0 ∨ chCode d 0 = 11 := by
  unfold chCode; split
  · simp
  · rw [if_neg (by simp)]; split <;> simp
theorem add_ways {b : List UInt8} {d : Dv} (h1 : 1 ≤ b.length) (h2 : b.length ≤ 80) (hl : d.bs.length + 100 ≤ 1048576) : adC b d = 0 ∨ adC b d = 11 := by
  have hr : recCode b.length = 0 := by unfold recCode; rw [if_neg (by omega), if_neg (by omega)]
  have hF : adF b d = 0 := if_neg (by rw [recB_len]; omega)
  unfold adC
  rw [if_neg (by simp [hr]), hF]
  split
  · exact ch_ways _
  · exact ch_ways _
def placeS (s : Rs) (x : En) : Rs := { s with tab := setE x s.tab, z := s.z + (hsh x - hsh ((lookE s.tab x.k).getD enZero)), mks := putM s.mks (mkOf x) }
def noteS (s : Rs) (x : En) : Rs := { s with gr := (buryE (enDuty x s.site) s.o.t2 s.gr x).1, own := if x.s.s = s.site then withK x.k s.own else s.own }
def addS (s : Rs) (x : En) : Rs := { s with D := adD (encB x) s.D, n := adN (encB x) s.D s.n }
def downS (s : Rs) (x : En) : Rs := noteS (placeS (addS s x) x) x
theorem unit_zero (w : World) : (zeroValue 63).run Tryz.prog w = .ok (.agg #[]) w := by
  have : (Tryz.prog.info? 63).map (·.zero) = some (some (.agg #[])) := by kernel_rfl
  unfold zeroValue typeInfo
  cases hq : Tryz.prog.info? 63 with
  | none => rw [hq] at this; cases this
  | some i =>
    rw [hq] at this
    simp only [Option.map_some, Option.some.injEq] at this
    simp [hq, this]
set_option maxHeartbeats 12800000 in
theorem rp_note (B : World) (a : Ra) (s : Rs) (x : En) (w : World) (h : Rp B a s w) (hg : s.gr.length < 4096) (hr' : RisK s.own) (hk : x.k.size ≤ maxLen) :
    Calls Tryz.prog 117 #[.pointer (some ⟨a.r, 0, none⟩), .agg #[.string x.k, .string x.v, .bool x.d, .int .i64 x.s.c, .int .i64 x.s.s, .int .i64 x.a.c, .int .i64 x.a.s, .int .i64 x.p, .int .i64 x.g]] w fun E w' => E = .returned (.tuple #[]) ∧ LeftP B a w (noteS s x) w' := by
  obtain ⟨r, hr⟩ : ∃ r, a.r = r := ⟨_, rfl⟩
  have C2 := Lib.hid ((Cy.begin h).keep ((Only.refl none_ w).alloc (.cells #[.string x.k, .string x.v, .bool x.d, .int .i64 x.s.c, .int .i64 x.s.s, .int .i64 x.a.c, .int .i64 x.a.s, .int .i64 x.p, .int .i64 x.g] 82)))
  have N2 : Hid (Bn a w.heap.size 82 #[.string x.k, .string x.v, .bool x.d, .int .i64 x.s.c, .int .i64 x.s.s, .int .i64 x.a.c, .int .i64 x.a.s, .int .i64 x.p, .int .i64 x.g] (w.alloc (.cells #[.string x.k, .string x.v, .bool x.d, .int .i64 x.s.c, .int .i64 x.s.s, .int .i64 x.a.c, .int .i64 x.a.s, .int .i64 x.p, .int .i64 x.g] 82))) := Bn.new h
  have HB := Lib.hid (fun (X : World) (hX : Rp B a s X) => gv_bury B a.gv a.gt s.site s.o.t2 s.gr a.vg x X hX.gv hg)
  generalize (buryE (enDuty x s.site) s.o.t2 s.gr x).2 = tb at HB
  have HSI := Lib.hid (fun (a1 : Ra) (X : World) (hX : Clk X a1.ck s.site s.c) => clk_site a1.ck s.site s.c X hX)
  have HPU := Lib.hid (fun (a1 : Ra) (X : World) (hX : Mq X a1.ob s.own) => mq_put Tryz.underlying9 Tryz.underlying75 hX hr' x.k hk)
  obtain ⟨gr', hgr⟩ : ∃ g, (buryE (enDuty x s.site) s.o.t2 s.gr x).1 = g := ⟨_, rfl⟩
  have hst : noteS s x = { s with gr := gr', own := if x.s.s = s.site then withK x.k s.own else s.own } := by rw [← hgr]; rfl
  rw [hst]
  rw [hgr] at HB
  rw [hr]
  have HR := Lib.hid hr
  clear h hr hg hr' hk hgr hst
  go_enter Tryz.func117, Tryz.ntmps117
  go_wp2_with fail
  generalize w.alloc (.cells #[.string x.k, .string x.v, .bool x.d, .int .i64 x.s.c, .int .i64 x.s.s, .int .i64 x.a.c, .int .i64 x.a.s, .int .i64 x.p, .int .i64 x.g] 82) = W2 at C2 N2 ⊢
  generalize w.heap.size = n0 at N2 ⊢
  (refine wp_region_steady (fun X => Only none_ W2 X) 5 (by kernel_rfl) (by kernel_rfl) ((Only.refl none_ W2).drew) ?_; simp only [List.take_succ_cons, List.take_zero, List.drop_succ_cons, List.drop_zero])
  repeat (first
    | (refine sd_value (v := ?_) (by rfl) (fun w0 hS => ?_) ?_; rotate_left; (· (have c9 := (C2.out.keep hS).r.at_ HR.out (i := 9) rfl; have qq := nine_of (N2.out.keep hS).b; go_simp; try (with_reducible rfl))); try simp only [Act.put, List.setIfInBounds_toArray, List.set_cons_zero, List.set_cons_succ]))
  refine sd_nil ?_
  intro w3 t3
  have C3 := Lib.hid (C2.out.keep t3)
  have N3 := Lib.hid (N2.out.keep t3)
  clear t3
  go_wp2_with (first
    | (go_at_call 180; refine (HB.out _ C3.out.r).mono ?_; rintro E w4 ⟨rfl, hL⟩
       obtain ⟨a4, c4, e4, b4⟩ := C3.out.step (C3.out.r.gv_set hL)
       have C4 := Lib.hid c4
       have N4 := Lib.hid (b4 _ _ _ N3.out)
       have E4 : Hid (a4.r = r) := e4.trans HR.out
       clear c4 b4 e4 hL))
  (refine wp_region_steady (fun X => Only none_ w4 X) 9 (by kernel_rfl) (by kernel_rfl) ((Only.refl none_ w4).drew) ?_; simp only [List.take_succ_cons, List.take_zero, List.drop_succ_cons, List.drop_zero])
  repeat (first
    | (refine sd_value (v := ?_) (by rfl) (fun w0 hS => ?_) ?_; rotate_left; (· (have c5 := (C4.out.keep hS).r.at_ E4.out (i := 5) rfl; have qq := nine_of (N4.out.keep hS).b; go_simp; try (with_reducible rfl))); try simp only [Act.put, List.setIfInBounds_toArray, List.set_cons_zero, List.set_cons_succ])
    | (refine sd_call (v := ?_) (f := 75) (args := ?_) (by rfl) (fun w0 hS => ?_) (fun w0 hS => ?_) ?_; rotate_left 2; (· (skip; go_simp; try (with_reducible rfl))); (· (refine (HSI.out a4 _ (C4.out.keep hS).r.ck).mono ?_; rintro E w9 ⟨rfl, rfl⟩; refine ⟨?_, hS⟩; rfl)); try simp only [Act.put, List.setIfInBounds_toArray, List.set_cons_zero, List.set_cons_succ]))
  refine sd_nil ?_
  intro w5 t5
  have C5 := Lib.hid (C4.out.keep t5)
  have N5 := Lib.hid (N4.out.keep t5)
  clear t5
  by_cases hs : x.s.s = s.site
  · have hse : (x.s.s == s.site) = true := by simpa using hs
    have HS := Lib.hid hs
    clear hs
    go_wp2_with fail
    (refine wp_region_steady (fun X => Only none_ w5 X) 7 (by kernel_rfl) (by kernel_rfl) ((Only.refl none_ w5).drew) ?_; simp only [List.take_succ_cons, List.take_zero, List.drop_succ_cons, List.drop_zero])
    repeat (first
      | (refine sd_value (v := ?_) (by rfl) (fun w0 hS => ?_) ?_; rotate_left; (· (have c10 := (C5.out.keep hS).r.at_ E4.out (i := 10) rfl; have qq := nine_of (N5.out.keep hS).b; go_simp; try (with_reducible rfl))); try simp only [Act.put, List.setIfInBounds_toArray, List.set_cons_zero, List.set_cons_succ]))
    refine sd_nil ?_
    intro w6 t6
    have C6 := Lib.hid (C5.out.keep t6)
    clear t6
    obtain ⟨w7, hup, m7, o7⟩ := HPU.out a4 w6 C6.out.r.ob
    have hup := Lib.hid hup
    go_wp2_with (first
      | (at_mapUpdate; refine wpList_upd _ rfl _ _ _ 75 rfl _ _ _ rfl rfl rfl hup.out ?_))
    go_end0
    obtain ⟨a8, c8, _, _⟩ := C6.out.step (C6.out.r.ob_set m7 o7)
    exact ⟨rfl, c8.left⟩
  · have hse : (x.s.s == s.site) = false := by simpa using hs
    have HS := Lib.hid hs
    clear hs
    go_wp2_with fail
    go_end0
    exact ⟨rfl, C5.out.left⟩
set_option maxHeartbeats 12800000 in
theorem rp_add (B : World) (a : Ra) (s : Rs) (x : En) (w : World) (h : Rp B a s w) (hc : enCheck x = 0) (hl : s.D.bs.length + 100 ≤ 1048576) (h0 : 0 ≤ s.n ∧ s.n ≤ 1000000) :
    Calls Tryz.prog 232 #[.pointer (some ⟨a.r, 0, none⟩), .agg #[.string x.k, .string x.v, .bool x.d, .int .i64 x.s.c, .int .i64 x.s.s, .int .i64 x.a.c, .int .i64 x.a.s, .int .i64 x.p, .int .i64 x.g]] w fun E w' => E = .returned (.int .i64 (adC (encB x) s.D)) ∧ LeftP B a w (addS s x) w' := by
  obtain ⟨r, hr⟩ : ∃ r, a.r = r := ⟨_, rfl⟩
  have C2 := Lib.hid ((Cy.begin h).keep ((Only.refl none_ w).alloc (.cells #[.string x.k, .string x.v, .bool x.d, .int .i64 x.s.c, .int .i64 x.s.s, .int .i64 x.a.c, .int .i64 x.a.s, .int .i64 x.p, .int .i64 x.g] 82)))
  have N2 : Hid (Blk (w.alloc (.cells #[.string x.k, .string x.v, .bool x.d, .int .i64 x.s.c, .int .i64 x.s.s, .int .i64 x.a.c, .int .i64 x.a.s, .int .i64 x.p, .int .i64 x.g] 82)) w.heap.size 82 #[.string x.k, .string x.v, .bool x.d, .int .i64 x.s.c, .int .i64 x.s.s, .int .i64 x.a.c, .int .i64 x.a.s, .int .i64 x.p, .int .i64 x.g]) := Blk.new _ _ _
  obtain ⟨m, hm, ok, _, _, hb⟩ := enc_of hc
  have HEN := Lib.hid (fun (X : World) => encode_okE m X (hm ▸ hc) ok)
  rw [← hm] at HEN
  have hways := add_ways (enc_len hc).1 (enc_len hc).2 hl
  have hJ : Hid (∀ (X Y : World) (A : Option Addr) (n c : Nat), Rp B a s X → Only none_ X Y → Y.ownsRow X.heap.size 5 1 (.slice A n c) (encB x).length (byts (encB x)) →
      Calls Tryz.prog 264 #[.pointer (some ⟨a.j, 0, none⟩), .slice A n c] Y fun e w' => e = .returned (.int .i64 (adC (encB x) s.D)) ∧ LeftJ B a.dg a.j a.vd Y (adD (encB x) s.D) (adN (encB x) s.D s.n) w') := by
    intro X Y A n c hX o own
    have hY := hX.keep o
    refine add_any B a.dg a.j s.n s.D a.vd _ (encB x) _ Y hY.dk hY.jn (Byt.of_own own) (fun b hb => ?_) hY.ge.2.2.2 (fun hf => hY.dj 6 7 a.j (by decide) hf rfl) h0.1 h0.2
    have h1 := (own.lt b hb).1
    have h2 := (hX.ft_ge 6 a.dg (.inl rfl)).2
    have h3 := (hX.ft_ge 7 a.j rfl).2
    exact ⟨by omega, by omega⟩
  rw [← hb] at HEN
  have HLY : Hid (∀ (X Y : World), LeftJ B a.dg a.j a.vd X (adD (encB x) s.D) (adN (encB x) s.D s.n) Y → Rp B a s X → LeftP B a X (addS s x) Y) := fun X Y hL hX => hX.dk_set hL
  obtain ⟨z, hz⟩ : ∃ z, adC (encB x) s.D = z := ⟨_, rfl⟩
  rw [hz] at hways hJ ⊢
  generalize addS s x = s2 at HLY ⊢
  rw [hr]
  have HR := Lib.hid hr
  have z7 : (z == 7) = false := by rcases hways with h | h <;> (subst h; rfl)
  have Z7 := Lib.hid z7
  clear h hr hl h0 hc hz hways hb z7 ok hm
  have q2 := nine_of N2.out
  go_enter Tryz.func232, Tryz.ntmps232
  go_wp2_with (first
    | (go_at_call 163; refine (HEN.out _).mono ?_; rintro E w3 ⟨A, n, c, rfl, own, o3⟩
       have C3 := Lib.hid (C2.out.keep o3)
       have K3 := Lib.hid (And.intro o3 own)
       have c12 := C3.out.r.at_ HR.out (i := 12) rfl
       clear own o3)
    | (go_at_call 264; refine (hJ.out _ _ A n c C2.out.r K3.out.1 K3.out.2).mono ?_; rintro E w4 ⟨rfl, hL⟩
       have L4 := Lib.hid (HLY.out _ _ hL C3.out.r)
       have z7 := Z7.out
       clear hL))
  go_ret
  obtain ⟨a8, c8, _, _⟩ := C3.out.step L4.out
  exact ⟨rfl, c8.left⟩
end Go.Proofs.YtoohpcomnhfgpaaGreat
end
section
namespace Go.Proofs.YtoohpcomnhfgpaaGreat
open Go.RowKit
set_option maxRecDepth 100000
set_option linter.all false
structure Rky (s : Rs) : Prop where
  m : s.mks.length + 1 ≤ 100
  g : s.gr.length < 4096
  w : RisK s.own
  d : s.D.bs.length + 100 ≤ 1048576
  n : 0 ≤ s.n ∧ s.n ≤ 1000000
theorem key_small {e : En} (h : enCheck e = 0) : e.k.size ≤ maxLen := by
  have := (check_of h).2.1
  simp only [maxLen]; omega
set_option maxHeartbeats 25600000 in
theorem rp_down_ok (B : World) (a : Ra) (s : Rs) (x : En) (w : World) (h : Rp B a s w) (ok : Rky s) (hc : enCheck x = 0) (hf : fullM s.o s.tab x.k = false) (hj : adC (encB x) s.D = 0) :
    Calls Tryz.prog 194 #[.pointer (some ⟨a.r, 0, none⟩), .agg #[.string x.k, .string x.v, .bool x.d, .int .i64 x.s.c, .int .i64 x.s.s, .int .i64 x.a.c, .int .i64 x.a.s, .int .i64 x.p, .int .i64 x.g]] w fun E w' => E = .returned (.tuple #[.agg #[.string x.k, .string x.v, .bool x.d, .int .i64 x.s.c, .int .i64 x.s.s, .int .i64 x.a.c, .int .i64 x.a.s, .int .i64 x.p, .int .i64 x.g], .int .i64 0]) ∧ LeftP B a w (downS s x) w' := by
  obtain ⟨r, hr⟩ : ∃ r, a.r = r := ⟨_, rfl⟩
  have C2 := Lib.hid (((Cy.begin h).keep ((Only.refl none_ w).alloc (.cells #[.string x.k, .string x.v, .bool x.d, .int .i64 x.s.c, .int .i64 x.s.s, .int .i64 x.a.c, .int .i64 x.a.s, .int .i64 x.p, .int .i64 x.g] 82))).keep ((Only.refl none_ _).alloc (.cells #[.string ⟨#[]⟩, .string ⟨#[]⟩, .bool false, .int .i64 0, .int .i64 0, .int .i64 0, .int .i64 0, .int .i64 0, .int .i64 0] 82)))
  have N2 : Hid (Bn a w.heap.size 82 #[.string x.k, .string x.v, .bool x.d, .int .i64 x.s.c, .int .i64 x.s.s, .int .i64 x.a.c, .int .i64 x.a.s, .int .i64 x.p, .int .i64 x.g] ((w.alloc (.cells #[.string x.k, .string x.v, .bool x.d, .int .i64 x.s.c, .int .i64 x.s.s, .int .i64 x.a.c, .int .i64 x.a.s, .int .i64 x.p, .int .i64 x.g] 82)).alloc (.cells #[.string ⟨#[]⟩, .string ⟨#[]⟩, .bool false, .int .i64 0, .int .i64 0, .int .i64 0, .int .i64 0, .int .i64 0, .int .i64 0] 82))) := (Bn.new h).keep ((Only.refl none_ _).alloc _)
  have M2 : Hid (Bn a (w.heap.size + 1) 82 #[.string ⟨#[]⟩, .string ⟨#[]⟩, .bool false, .int .i64 0, .int .i64 0, .int .i64 0, .int .i64 0, .int .i64 0, .int .i64 0] ((w.alloc (.cells #[.string x.k, .string x.v, .bool x.d, .int .i64 x.s.c, .int .i64 x.s.s, .int .i64 x.a.c, .int .i64 x.a.s, .int .i64 x.p, .int .i64 x.g] 82)).alloc (.cells #[.string ⟨#[]⟩, .string ⟨#[]⟩, .bool false, .int .i64 0, .int .i64 0, .int .i64 0, .int .i64 0, .int .i64 0, .int .i64 0] 82))) := by
    have := Bn.new (t := 82) (cs := #[.string ⟨#[]⟩, .string ⟨#[]⟩, .bool false, .int .i64 0, .int .i64 0, .int .i64 0, .int .i64 0, .int .i64 0, .int .i64 0]) (h.keep ((Only.refl none_ w).alloc (.cells #[.string x.k, .string x.v, .bool x.d, .int .i64 x.s.c, .int .i64 x.s.s, .int .i64 x.a.c, .int .i64 x.a.s, .int .i64 x.p, .int .i64 x.g] 82)))
    rwa [World.size_alloc] at this
  have HA := Lib.hid (fun (X : World) (hX : Rp B a s X) => rp_add B a s x X hX hc ok.d ok.n)
  rw [hj] at HA
  obtain ⟨s2, hs2⟩ : ∃ s2, addS s x = s2 := ⟨_, rfl⟩
  obtain ⟨s3, hs3⟩ : ∃ s3, placeS s2 x = s3 := ⟨_, rfl⟩
  obtain ⟨s4, hs4⟩ : ∃ s4, noteS s3 x = s4 := ⟨_, rfl⟩
  have hd : downS s x = s4 := by rw [← hs4, ← hs3, ← hs2]; rfl
  have HPL := Lib.hid (fun (a1 : Ra) (X : World) (hX : Rp B a1 s2 X) (e1 : a1.r = r) => by
    have := ct_place B a1 s2 x X hX (by rw [← hs2]; exact hf) (key_small hc) (by rw [← hs2]; exact ok.m)
    rw [e1, show ({ s2 with tab := setE x s2.tab, z := s2.z + (hsh x - hsh ((lookE s2.tab x.k).getD enZero)), mks := putM s2.mks (mkOf x) } : Rs) = s3 from hs3] at this
    exact this)
  have HNO := Lib.hid (fun (a1 : Ra) (X : World) (hX : Rp B a1 s3 X) (e1 : a1.r = r) => by
    have := rp_note B a1 s3 x X hX (by rw [← hs3, ← hs2]; exact ok.g) (by rw [← hs3, ← hs2]; exact ok.w) (key_small hc)
    rw [e1, hs4] at this
    exact this)
  rw [hs2] at HA
  rw [hd]
  have q2 := nine_of N2.out.b
  rw [hr] at HA ⊢
  have HR := Lib.hid hr
  clear h hr ok hf hj hs2 hs3 hs4 hd hc
  go_enter Tryz.func194, Tryz.ntmps194
  go_wp2_with (first
    | (go_at_call 232; refine (HA.out _ C2.out.r).mono ?_; rintro E w3 ⟨rfl, L3⟩
       obtain ⟨a3, c3, e3, b3⟩ := C2.out.step L3
       have C3 := Lib.hid c3
       have N3 := Lib.hid (b3 _ _ _ N2.out)
       have M3 := Lib.hid (b3 _ _ _ M2.out)
       have E3 : Hid (a3.r = r) := e3.trans HR.out
       clear c3 b3 e3 L3))
  clear q2 C2 N2 M2
  (refine wp_region_steady (fun X => Only none_ w3 X) 4 (by kernel_rfl) (by kernel_rfl) ((Only.refl none_ w3).drew) ?_; simp only [List.take_succ_cons, List.take_zero, List.drop_succ_cons, List.drop_zero])
  repeat (first
    | (refine sd_value (v := ?_) (by rfl) (fun w0 hS => ?_) ?_; rotate_left; (· (have qq := nine_of (N3.out.keep hS).b; go_simp; try (with_reducible rfl))); try simp only [Act.put, List.setIfInBounds_toArray, List.set_cons_zero, List.set_cons_succ]))
  refine sd_nil ?_
  intro w4 t4
  have C4 := Lib.hid (C3.out.keep t4)
  have N4 := Lib.hid (N3.out.keep t4)
  have M4 := Lib.hid (M3.out.keep t4)
  clear t4
  go_wp2_with (first
    | (go_at_call 116; refine (HPL.out a3 _ C4.out.r E3.out).mono ?_; rintro E w5 ⟨rfl, L5⟩
       obtain ⟨a5, c5, e5, b5⟩ := C4.out.step L5
       have C5 := Lib.hid c5
       have N5 := Lib.hid (b5 _ _ _ N4.out)
       have M5 := Lib.hid (b5 _ _ _ M4.out)
       have E5 : Hid (a5.r = r) := e5.trans E3.out
       have q5 := nine_of N5.out.b
       clear c5 b5 e5 L5)
    | (go_at_call 117; refine (HNO.out a5 _ C5.out.r E5.out).mono ?_; rintro E w6 ⟨rfl, L6⟩
       obtain ⟨a6, c6, e6, b6⟩ := C5.out.step L6
       have C6 := Lib.hid c6
       have N6 := Lib.hid (b6 _ _ _ N5.out)
       have M6 := Lib.hid (b6 _ _ _ M5.out)
       have q6 := nine_of N6.out.b
       clear c6 b6 e6 L6)
    | (refine wpList_store_row rfl 82 _ _ rfl (w.heap.size + 1) #[.string x.k, .string x.v, .bool x.d, .int .i64 x.s.c, .int .i64 x.s.s, .int .i64 x.a.c, .int .i64 x.a.s, .int .i64 x.p, .int .i64 x.g] rfl rfl _ _ M6.out.b (by kernel_rfl) (by kernel_rfl) (en_cells_one _) ?_))
  refine bodyPost_ret (results_cell_tmp rfl _ _ (w.heap.size + 1) 82 #[.string x.k, .string x.v, .bool x.d, .int .i64 x.s.c, .int .i64 x.s.s, .int .i64 x.a.c, .int .i64 x.a.s, .int .i64 x.p, .int .i64 x.g] _ rfl (M6.out.b.setRow _) Tryz.underlying82 rfl (by kernel_rfl) (.int .i64 0) rfl) rfl ?_
  exact ⟨rfl, (C6.out.box M6.out (by omega) (only_row _ _)).left⟩
set_option maxHeartbeats 25600000 in
theorem rp_down_no (B : World) (a : Ra) (s : Rs) (x : En) (w : World) (h : Rp B a s w) (ok : Rky s) (hc : enCheck x = 0) (hj : adC (encB x) s.D ≠ 0) :
    Calls Tryz.prog 194 #[.pointer (some ⟨a.r, 0, none⟩), .agg #[.string x.k, .string x.v, .bool x.d, .int .i64 x.s.c, .int .i64 x.s.s, .int .i64 x.a.c, .int .i64 x.a.s, .int .i64 x.p, .int .i64 x.g]] w fun E w' => E = .returned (.tuple #[.agg #[.string ⟨#[]⟩, .string ⟨#[]⟩, .bool false, .int .i64 0, .int .i64 0, .int .i64 0, .int .i64 0, .int .i64 0, .int .i64 0], .int .i64 (adC (encB x) s.D)]) ∧ LeftP B a w (addS s x) w' := by
  obtain ⟨r, hr⟩ : ∃ r, a.r = r := ⟨_, rfl⟩
  have C2 := Lib.hid (((Cy.begin h).keep ((Only.refl none_ w).alloc (.cells #[.string x.k, .string x.v, .bool x.d, .int .i64 x.s.c, .int .i64 x.s.s, .int .i64 x.a.c, .int .i64 x.a.s, .int .i64 x.p, .int .i64 x.g] 82))).keep ((Only.refl none_ _).alloc (.cells #[.string ⟨#[]⟩, .string ⟨#[]⟩, .bool false, .int .i64 0, .int .i64 0, .int .i64 0, .int .i64 0, .int .i64 0, .int .i64 0] 82)))
  have N2 : Hid (Bn a w.heap.size 82 #[.string x.k, .string x.v, .bool x.d, .int .i64 x.s.c, .int .i64 x.s.s, .int .i64 x.a.c, .int .i64 x.a.s, .int .i64 x.p, .int .i64 x.g] ((w.alloc (.cells #[.string x.k, .string x.v, .bool x.d, .int .i64 x.s.c, .int .i64 x.s.s, .int .i64 x.a.c, .int .i64 x.a.s, .int .i64 x.p, .int .i64 x.g] 82)).alloc (.cells #[.string ⟨#[]⟩, .string ⟨#[]⟩, .bool false, .int .i64 0, .int .i64 0, .int .i64 0, .int .i64 0, .int .i64 0, .int .i64 0] 82))) := (Bn.new h).keep ((Only.refl none_ _).alloc _)
  have M2 : Hid (Bn a (w.heap.size + 1) 82 #[.string ⟨#[]⟩, .string ⟨#[]⟩, .bool false, .int .i64 0, .int .i64 0, .int .i64 0, .int .i64 0, .int .i64 0, .int .i64 0] ((w.alloc (.cells #[.string x.k, .string x.v, .bool x.d, .int .i64 x.s.c, .int .i64 x.s.s, .int .i64 x.a.c, .int .i64 x.a.s, .int .i64 x.p, .int .i64 x.g] 82)).alloc (.cells #[.string ⟨#[]⟩, .string ⟨#[]⟩, .bool false, .int .i64 0, .int .i64 0, .int .i64 0, .int .i64 0, .int .i64 0, .int .i64 0] 82))) := by
    have := Bn.new (t := 82) (cs := #[.string ⟨#[]⟩, .string ⟨#[]⟩, .bool false, .int .i64 0, .int .i64 0, .int .i64 0, .int .i64 0, .int .i64 0, .int .i64 0]) (h.keep ((Only.refl none_ w).alloc (.cells #[.string x.k, .string x.v, .bool x.d, .int .i64 x.s.c, .int .i64 x.s.s, .int .i64 x.a.c, .int .i64 x.a.s, .int .i64 x.p, .int .i64 x.g] 82)))
    rwa [World.size_alloc] at this
  have HA := Lib.hid (fun (X : World) (hX : Rp B a s X) => rp_add B a s x X hX hc ok.d ok.n)
  obtain ⟨j, hjj⟩ : ∃ j, adC (encB x) s.D = j := ⟨_, rfl⟩
  rw [hjj] at HA hj ⊢
  generalize addS s x = s2 at HA ⊢
  have q2 := nine_of N2.out.b
  rw [hr] at HA ⊢
  have hz : (j != 0) = true := by simpa using hj
  clear h hr ok hj hc hjj
  go_enter Tryz.func194, Tryz.ntmps194
  go_wp2_with (first
    | (go_at_call 232; refine (HA.out _ C2.out.r).mono ?_; rintro E w3 ⟨rfl, L3⟩
       obtain ⟨a3, c3, e3, b3⟩ := C2.out.step L3
       have C3 := Lib.hid c3
       have M3 := Lib.hid (b3 _ _ _ M2.out)
       clear c3 b3 e3 L3)
    | (refine wpList_store_row rfl 82 _ _ rfl (w.heap.size + 1) #[.string ⟨#[]⟩, .string ⟨#[]⟩, .bool false, .int .i64 0, .int .i64 0, .int .i64 0, .int .i64 0, .int .i64 0, .int .i64 0] rfl rfl _ _ M3.out.b (by kernel_rfl) (by kernel_rfl) (by kernel_rfl) ?_))
  refine bodyPost_ret (results_cell_tmp rfl _ _ (w.heap.size + 1) 82 #[.string ⟨#[]⟩, .string ⟨#[]⟩, .bool false, .int .i64 0, .int .i64 0, .int .i64 0, .int .i64 0, .int .i64 0, .int .i64 0] _ rfl (M3.out.b.setRow _) Tryz.underlying82 rfl (by kernel_rfl) (.int .i64 j) rfl) rfl ?_
  exact ⟨rfl, (C3.out.box M3.out (by omega) (only_row _ _)).left⟩
def dnR (s : Rs) (x : En) : Rs × En × Int := if adC (encB x) s.D = 0 then (downS s x, x, 0) else (addS s x, enZero, adC (encB x) s.D)
theorem rp_down (B : World) (a : Ra) (s : Rs) (x : En) (w : World) (h : Rp B a s w) (ok : Rky s) (hc : enCheck x = 0) (hf : fullM s.o s.tab x.k = false) :
    Calls Tryz.prog 194 #[.pointer (some ⟨a.r, 0, none⟩), .agg #[.string x.k, .string x.v, .bool x.d, .int .i64 x.s.c, .int .i64 x.s.s, .int .i64 x.a.c, .int .i64 x.a.s, .int .i64 x.p, .int .i64 x.g]] w fun E w' => E = .returned (.tuple #[.agg #[.string (dnR s x).2.1.k, .string (dnR s x).2.1.v, .bool (dnR s x).2.1.d, .int .i64 (dnR s x).2.1.s.c, .int .i64 (dnR s x).2.1.s.s, .int .i64 (dnR s x).2.1.a.c, .int .i64 (dnR s x).2.1.a.s, .int .i64 (dnR s x).2.1.p, .int .i64 (dnR s x).2.1.g], .int .i64 (dnR s x).2.2]) ∧ LeftP B a w (dnR s x).1 w' := by
  by_cases hj : adC (encB x) s.D = 0
  · rw [dnR, if_pos hj]; exact rp_down_ok B a s x w h ok hc hf hj
  · rw [dnR, if_neg hj]; exact rp_down_no B a s x w h ok hc hj
end Go.Proofs.YtoohpcomnhfgpaaGreat
end
section
namespace Go.Proofs.YtoohpcomnhfgpaaGreat
open Go.RowKit
set_option linter.all false
theorem peek_ok (g : Nat) (S : Nat → Prop) (b : UInt8) (bs : List UInt8) (w : World) (h : Rd w g S 0 (b :: bs)) (hm : bs.length < 9223372036854775807) :
    Calls Tryz.prog 279 #[.pointer (some ⟨g, 0, none⟩)] w fun e w' =>
      e = .returned (.tuple #[.int .u8 (b.toNat : Int), .bool true]) ∧ w = w' := by
  have H := Lib.hid h
  obtain ⟨A, c, hb, hy, hs⟩ := h
  have h1 : w.cell? ⟨g, 1, none⟩ = some (.slice A (b :: bs).length c) := hb.cell_ rfl
  obtain ⟨A', c', he, _, _, _, h5⟩ := hy
  injection he with e1 e2 e3
  subst e1 e3
  obtain ⟨k, off, rfl, _, _, hc⟩ := h5 (by simp)
  have h2 := hc 0 (by simp)
  simp only [byt, List.getElem_cons_zero, Nat.add_zero] at h2
  simp only [List.length_cons] at h1
  clear hb h5 hc
  go_enter Tryz.func279, Tryz.ntmps279
  go_wp2_with (first
      | (go_at_call 221; refine (reader_err _ _ _ _ _ H.out).mono ?_; rintro e w' ⟨rfl, rfl⟩))
  go_ret2
  exact ⟨rfl, rfl⟩
def peekCode (code : Int) (bs : List UInt8) : Int := if bs.length = 0 then first_ code 6 else code
theorem peek_no (g : Nat) (S : Nat → Prop) (code : Int) (bs : List UInt8) (w : World) (h : Rd w g S code bs) (hn : code ≠ 0 ∨ bs.length = 0) (_hm : bs.length ≤ 9223372036854775807) :
    Calls Tryz.prog 279 #[.pointer (some ⟨g, 0, none⟩)] w fun e w' =>
      e = .returned (.tuple #[.int .u8 0, .bool false]) ∧ Rd w' g S (peekCode code bs) bs ∧ Only (one g) w w' := by
  have H := Lib.hid h
  obtain ⟨A, c, hb, hy, hs⟩ := h
  have h1 : w.cell? ⟨g, 1, none⟩ = some (.slice A bs.length c) := hb.cell_ rfl
  clear hb hy
  by_cases h0 : bs.length = 0
  · have HT : Hid (peekCode code bs = first_ code 6) := by simp only [Hid, peekCode, if_pos h0]
    have hf : (first_ code 6 != 0) = true := by unfold first_; split <;> simp_all
    have ht : ((bs.length : Int) == 0) = true := by simp [h0]
    clear hn h0
    go_enter Tryz.func279, Tryz.ntmps279
    go_wp2_with (first
      | (go_at_call 220; refine (reader_fail _ _ _ _ _ _ H.out).mono ?_; rintro e w1 ⟨rfl, h2, o2⟩; have H2 := Lib.hid h2; clear h2)
      | (go_at_call 221; refine (reader_err _ _ _ _ _ H2.out).mono ?_; rintro e w' ⟨rfl, rfl⟩))
    go_ret2
    rw [HT.out]
    exact ⟨rfl, H2.out, o2⟩
  · have HT : Hid (peekCode code bs = code) := by simp only [Hid, peekCode, if_neg h0]
    have hf : (code != 0) = true := by rcases hn with h | h <;> simp_all
    have ht : ((bs.length : Int) == 0) = false := by simp only [beq_eq_false_iff_ne, ne_eq]; omega
    clear hn h0
    go_enter Tryz.func279, Tryz.ntmps279
    go_wp2_with (first
      | (go_at_call 221; refine (reader_err _ _ _ _ _ H.out).mono ?_; rintro e w' ⟨rfl, rfl⟩))
    go_ret2
    rw [HT.out]
    exact ⟨rfl, H.out, Only.refl _ _⟩
end Go.Proofs.YtoohpcomnhfgpaaGreat
end
section
namespace Go.Proofs.YtoohpcomnhfgpaaGreat
open Go.RowKit
set_option linter.all false
def flagR (code : Int) (bs : List UInt8) : Int × List UInt8 × Bool :=
  match bs with
  | [] => (first_ code 6, [], false)
  | b :: r => if code ≠ 0 then (code, b :: r, false) else if 1 < b.toNat then (4, b :: r, false) else (0, r, decide (b.toNat = 1))
theorem peekCode_cons (code : Int) (b : UInt8) (r : List UInt8) : peekCode code (b :: r) = code := by simp [peekCode]
theorem peekCode_nil (code : Int) : peekCode code [] = first_ code 6 := by simp [peekCode]
theorem reader_flag (g : Nat) (S : Nat → Prop) (code : Int) (bs : List UInt8) (w : World) (h : Rd w g S code bs) (hm : bs.length ≤ 140737488355328) :
    Calls Tryz.prog 256 #[.pointer (some ⟨g, 0, none⟩)] w fun e w' =>
      e = .returned (.bool (flagR code bs).2.2) ∧ Rd w' g S (flagR code bs).1 (flagR code bs).2.1 ∧ Only (one g) w w' := by
  have H := Lib.hid h
  clear h
  by_cases hc : code ≠ 0 ∨ bs.length = 0
  · have HR : Hid (flagR code bs = (peekCode code bs, bs, false)) := by
      cases bs with
      | nil => simp [Hid, flagR, peekCode_nil]
      | cons b r =>
        have : code ≠ 0 := by simpa using hc
        simp [Hid, flagR, peekCode_cons, this]
    have HC := Lib.hid hc
    clear hc
    go_enter Tryz.func256, Tryz.ntmps256
    go_wp2_with (first
        | (go_at_call 279; refine (peek_no _ _ _ _ _ H.out HC.out (by omega)).mono ?_; rintro e w1 ⟨rfl, h2, o2⟩; have H2 := Lib.hid h2; clear h2))
    go_ret
    rw [HR.out]
    exact ⟨rfl, H2.out, o2⟩
  · obtain ⟨rfl, h1⟩ : code = 0 ∧ bs.length ≠ 0 := by
      refine ⟨Classical.byContradiction fun h => hc (.inl h), fun h => hc (.inr h)⟩
    clear hc
    match bs, h1, H, hm with
    | b :: r, _, H, hm =>
    have hb := b.toNat_lt
    simp only [List.length_cons] at hm
    by_cases hb1 : 1 < b.toNat
    · have HR : Hid (flagR 0 (b :: r) = (first_ 0 4, b :: r, false)) := by simp [Hid, flagR, hb1, first_]
      go_enter Tryz.func256, Tryz.ntmps256
      go_wp2_with (first
        | (go_at_call 279; refine (peek_ok _ _ _ _ _ H.out (by omega)).mono ?_; rintro e w' ⟨rfl, rfl⟩)
        | (go_at_call 220; refine (reader_fail _ _ _ _ _ _ H.out).mono ?_; rintro e w1 ⟨rfl, h2, o2⟩; have H2 := Lib.hid h2; clear h2))
      go_ret
      rw [HR.out]
      exact ⟨rfl, H2.out, o2⟩
    · have HR : Hid (flagR 0 (b :: r) = (0, r, decide (b.toNat = 1))) := by simp [Hid, flagR, hb1]
      go_enter Tryz.func256, Tryz.ntmps256
      go_wp2_with (first
        | (go_at_call 279; refine (peek_ok _ _ _ _ _ H.out (by omega)).mono ?_; rintro e w' ⟨rfl, rfl⟩)
        | (go_at_call 277; refine (take_ok _ _ _ 1 _ H.out (by simp) (by simp only [List.length_cons]; omega)).mono ?_; rintro e w1 ⟨A, c, rfl, hb1, h2, o2⟩; have H2 := Lib.hid h2; clear h2))
      go_ret
      rw [HR.out]
      refine ⟨?_, H2.out, o2⟩
      show Ending.returned (.bool ((b.toNat : Int) == 1)) = .returned (.bool (decide (b.toNat = 1)))
      congr 2
      rw [Bool.eq_iff_iff]
      simp only [beq_iff_eq, decide_eq_true_eq]
      omega
def textR (code : Int) (bs : List UInt8) (most : Int) : Int × List UInt8 × List UInt8 :=
  match bs with
  | [] => (first_ code 6, [], [])
  | b :: r => if code ≠ 0 then (code, b :: r, []) else if most < (b.toNat : Int) then (4, b :: r, []) else if r.length < b.toNat then (6, b :: r, []) else (0, r.drop b.toNat, r.take b.toNat)
set_option maxRecDepth 100000 in
set_option maxHeartbeats 400000 in
theorem reader_text (g : Nat) (S : Nat → Prop) (code : Int) (bs : List UInt8) (most : Int) (w : World) (h : Rd w g S code bs) (hm : bs.length ≤ 140737488355328) :
    Calls Tryz.prog 255 #[.pointer (some ⟨g, 0, none⟩), .int .i64 most] w fun e w' =>
      e = .returned (.string ⟨(textR code bs most).2.2.toArray⟩) ∧ Rd w' g S (textR code bs most).1 (textR code bs most).2.1 ∧ Only (one g) w w' := by
  have H := Lib.hid h
  clear h
  by_cases hc : code ≠ 0 ∨ bs.length = 0
  · have HR : Hid (textR code bs most = (peekCode code bs, bs, [])) := by
      cases bs with
      | nil => simp [Hid, textR, peekCode_nil]
      | cons b r =>
        have : code ≠ 0 := by simpa using hc
        simp [Hid, textR, peekCode_cons, this]
    have HC := Lib.hid hc
    clear hc
    go_enter Tryz.func255, Tryz.ntmps255
    go_wp2_with (first
        | (go_at_call 279; refine (peek_no _ _ _ _ _ H.out HC.out (by omega)).mono ?_; rintro e w1 ⟨rfl, h2, o2⟩; have H2 := Lib.hid h2; clear h2))
    go_ret
    rw [HR.out]
    exact ⟨rfl, H2.out, o2⟩
  · obtain ⟨rfl, h1⟩ : code = 0 ∧ bs.length ≠ 0 := by
      refine ⟨Classical.byContradiction fun h => hc (.inl h), fun h => hc (.inr h)⟩
    clear hc
    match bs, h1, H, hm with
    | b :: r, _, H, hm =>
    have hb := b.toNat_lt
    simp only [List.length_cons] at hm
    by_cases hb1 : most < (b.toNat : Int)
    · have HR : Hid (textR 0 (b :: r) most = (first_ 0 4, b :: r, [])) := by simp [Hid, textR, hb1, first_]
      go_enter Tryz.func255, Tryz.ntmps255
      go_wp2_with (first
        | (go_at_call 279; refine (peek_ok _ _ _ _ _ H.out (by omega)).mono ?_; rintro e w' ⟨rfl, rfl⟩)
        | (go_at_call 220; refine (reader_fail _ _ _ _ _ _ H.out).mono ?_; rintro e w1 ⟨rfl, h2, o2⟩; have H2 := Lib.hid h2; clear h2))
      go_ret
      rw [HR.out]
      exact ⟨rfl, H2.out, o2⟩
    · by_cases hl : r.length < b.toNat
      · have HR : Hid (textR 0 (b :: r) most = (takeCode 0 (b :: r) (1 + b.toNat), b :: r, [])) := by
          have h6 : r.length + 1 < 1 + b.toNat := by omega
          simp [Hid, textR, takeCode, first_, hb1, hl, h6]
        have HT := take_no g S 0 (b :: r) (1 + b.toNat) w H.out (.inr (by simp only [List.length_cons]; omega)) (by simp only [List.length_cons]; omega)
        rw [show ((1 + b.toNat : Nat) : Int) = 1 + (b.toNat : Int) from by omega] at HT
        go_enter Tryz.func255, Tryz.ntmps255
        go_wp2_with (first
          | (go_at_call 279; refine (peek_ok _ _ _ _ _ H.out (by omega)).mono ?_; rintro e w' ⟨rfl, rfl⟩)
          | (go_at_call 277; refine HT.mono ?_; rintro e w1 ⟨rfl, h2, o2⟩; have H2 := Lib.hid h2; clear h2))
        go_ret
        rw [HR.out]
        exact ⟨rfl, H2.out, o2⟩
      · have HR : Hid (textR 0 (b :: r) most = (0, (b :: r).drop (1 + b.toNat), ((b :: r).take (1 + b.toNat)).tail)) := by
          simp only [Hid, textR, hb1, hl, if_false]
          rw [Nat.add_comm 1]
          simp
        have HT := take_ok g S (b :: r) (1 + b.toNat) w H.out (by simp only [List.length_cons]; omega) (by simp only [List.length_cons]; omega)
        rw [show ((1 + b.toNat : Nat) : Int) = 1 + (b.toNat : Int) from by omega] at HT
        obtain ⟨i0, hi0, _, hz1, _⟩ := info_parts u8_info
        have HI := Lib.hid hi0
        have HZ := Lib.hid hz1
        clear hi0 hz1
        go_enter Tryz.func255, Tryz.ntmps255
        go_wp2_with (first
          | (go_at_call 279; refine (peek_ok _ _ _ _ _ H.out (by omega)).mono ?_; rintro e w' ⟨rfl, rfl⟩)
          | (go_at_call 277; refine HT.mono ?_; rintro e w1 ⟨A, c, rfl, hb2, h2, o2⟩
             obtain ⟨A2, L2, c2, r2, b2⟩ := byt_lo Tryz.underlying114 HI.out HZ.out hb2 1 (by omega) 1 rfl
             have hs2 := run_bytes_string w1 _ _ _ b2
             have H2 := Lib.hid h2; clear h2 hb2 b2))
        go_ret
        rw [HR.out]
        exact ⟨rfl, H2.out, o2⟩
end Go.Proofs.YtoohpcomnhfgpaaGreat
end
section
namespace Go.Proofs.YtoohpcomnhfgpaaGreat
open Go.RowKit
set_option linter.all false
set_option maxRecDepth 100000
theorem blk_more {w : World} {t u : TypeId} (x y : Array Value) : Blk ((w.alloc (.cells x t)).alloc (.cells y u)) (w.heap.size + 1) u y := by have := Blk.new (w.alloc (.cells x t)) u y; simpa using this
set_option maxHeartbeats 1600000 in
theorem en_checked (e : En) (w : World) :
    Calls Tryz.prog 152 #[.agg #[.string e.k, .string e.v, .bool e.d, .int .i64 e.s.c, .int .i64 e.s.s, .int .i64 e.a.c, .int .i64 e.a.s, .int .i64 e.p, .int .i64 e.g]] w fun E w' => E = .returned (.tuple #[.agg #[.string (enChecked e).1.k, .string (enChecked e).1.v, .bool (enChecked e).1.d, .int .i64 (enChecked e).1.s.c, .int .i64 (enChecked e).1.s.s, .int .i64 (enChecked e).1.a.c, .int .i64 (enChecked e).1.a.s, .int .i64 (enChecked e).1.p, .int .i64 (enChecked e).1.g], .int .i64 (enChecked e).2]) ∧ Only none_ w w' := by
  have O := Lib.hid (((Only.refl none_ w).alloc (.cells #[.string e.k, .string e.v, .bool e.d, .int .i64 e.s.c, .int .i64 e.s.s, .int .i64 e.a.c, .int .i64 e.a.s, .int .i64 e.p, .int .i64 e.g] 82)).alloc (.cells #[.string enZero.k, .string enZero.v, .bool enZero.d, .int .i64 enZero.s.c, .int .i64 enZero.s.s, .int .i64 enZero.a.c, .int .i64 enZero.a.s, .int .i64 enZero.p, .int .i64 enZero.g] 82))
  have BX := Lib.hid ((Blk.new w 82 #[.string e.k, .string e.v, .bool e.d, .int .i64 e.s.c, .int .i64 e.s.s, .int .i64 e.a.c, .int .i64 e.a.s, .int .i64 e.p, .int .i64 e.g]).alloc (.cells #[.string enZero.k, .string enZero.v, .bool enZero.d, .int .i64 enZero.s.c, .int .i64 enZero.s.s, .int .i64 enZero.a.c, .int .i64 enZero.a.s, .int .i64 enZero.p, .int .i64 enZero.g] 82))
  have BZ := Lib.hid (blk_more (w := w) (t := 82) (u := 82) #[.string e.k, .string e.v, .bool e.d, .int .i64 e.s.c, .int .i64 e.s.s, .int .i64 e.a.c, .int .i64 e.a.s, .int .i64 e.p, .int .i64 e.g] #[.string enZero.k, .string enZero.v, .bool enZero.d, .int .i64 enZero.s.c, .int .i64 enZero.s.s, .int .i64 enZero.a.c, .int .i64 enZero.a.s, .int .i64 enZero.p, .int .i64 enZero.g])
  have HC : Hid (enChecked e = if enCheck e = 0 then (e, 0) else (enZero, enCheck e)) := rfl
  simp only [enZero, stZero] at O BX BZ
  obtain ⟨z, hz⟩ : ∃ z, enCheck e = z := ⟨_, rfl⟩
  rw [hz] at HC
  have HZ := Lib.hid hz
  clear hz
  cases h : z != 0
  · have hz0 : z = 0 := by simpa using h
    have HR : Hid (enChecked e = (e, 0)) := by rw [Hid, HC.out, if_pos hz0]
    go_enter Tryz.func152, Tryz.ntmps152
    go_wp2_with (go_at_call 83; refine (en_check e _).mono ?_; rintro E w1 ⟨rfl, o1⟩; rw [HZ.out]
                 have O1 := Lib.hid (O.out.trans o1)
                 have B1 := Lib.hid (BZ.out.only o1 (fun h => h))
                 have q := nine_of (BX.out.only o1 (fun h => h))
                 have q1 := nine_of B1.out
                 have z1 := frozen9 B1.out
                 clear o1)
    refine bodyPost_ret (results_cell_tmp rfl _ _ (w.heap.size + 1) 82 _ _ rfl (fill9_blk B1.out _ _ _ _ _ _ _ _ _) Tryz.underlying82 rfl (by kernel_rfl) _ rfl) rfl ?_
    rw [HR.out]
    exact ⟨rfl, fill9_only O1.out (.inr (by simp)) _ _ _ _ _ _ _ _ _⟩
  · have hz0 : z ≠ 0 := by simpa using h
    have HR : Hid (enChecked e = (enZero, z)) := by rw [Hid, HC.out, if_neg hz0]
    go_enter Tryz.func152, Tryz.ntmps152
    go_wp2_with (go_at_call 83; refine (en_check e _).mono ?_; rintro E w1 ⟨rfl, o1⟩; rw [HZ.out]
                 have O1 := Lib.hid (O.out.trans o1)
                 have B1 := Lib.hid (BZ.out.only o1 (fun h => h))
                 have q1 := nine_of B1.out
                 have z1 := frozen9 B1.out
                 clear o1)
    refine bodyPost_ret (results_cell_tmp rfl _ _ (w.heap.size + 1) 82 _ _ rfl (fill9_blk B1.out _ _ _ _ _ _ _ _ _) Tryz.underlying82 rfl (by kernel_rfl) _ rfl) rfl ?_
    rw [HR.out]
    exact ⟨rfl, fill9_only O1.out (.inr (by simp)) _ _ _ _ _ _ _ _ _⟩
set_option maxHeartbeats 1600000 in
theorem en_put (k v : ByteArray) (s : St) (w : World) :
    Calls Tryz.prog 92 #[.string k, .string v, .agg #[.int .i64 s.c, .int .i64 s.s]] w fun E w' => E = .returned (.tuple #[.agg #[.string (enChecked ⟨k, v, false, s, s, 0, 0⟩).1.k, .string (enChecked ⟨k, v, false, s, s, 0, 0⟩).1.v, .bool (enChecked ⟨k, v, false, s, s, 0, 0⟩).1.d, .int .i64 (enChecked ⟨k, v, false, s, s, 0, 0⟩).1.s.c, .int .i64 (enChecked ⟨k, v, false, s, s, 0, 0⟩).1.s.s, .int .i64 (enChecked ⟨k, v, false, s, s, 0, 0⟩).1.a.c, .int .i64 (enChecked ⟨k, v, false, s, s, 0, 0⟩).1.a.s, .int .i64 (enChecked ⟨k, v, false, s, s, 0, 0⟩).1.p, .int .i64 (enChecked ⟨k, v, false, s, s, 0, 0⟩).1.g], .int .i64 (enChecked ⟨k, v, false, s, s, 0, 0⟩).2]) ∧ Only none_ w w' := by
  have O := Lib.hid (((Only.refl none_ w).alloc (.cells #[.int .i64 s.c, .int .i64 s.s] 80)).alloc (.cells #[.string enZero.k, .string enZero.v, .bool enZero.d, .int .i64 enZero.s.c, .int .i64 enZero.s.s, .int .i64 enZero.a.c, .int .i64 enZero.a.s, .int .i64 enZero.p, .int .i64 enZero.g] 82))
  have BZ := Lib.hid (blk_more (w := w) (t := 80) (u := 82) #[.int .i64 s.c, .int .i64 s.s] #[.string enZero.k, .string enZero.v, .bool enZero.d, .int .i64 enZero.s.c, .int .i64 enZero.s.s, .int .i64 enZero.a.c, .int .i64 enZero.a.s, .int .i64 enZero.p, .int .i64 enZero.g])
  simp only [enZero, stZero] at O BZ
  have HC := fun w => en_checked ⟨k, v, false, s, s, 0, 0⟩ w
  obtain ⟨r, hr⟩ : ∃ r, enChecked ⟨k, v, false, s, s, 0, 0⟩ = r := ⟨_, rfl⟩
  rw [hr] at HC ⊢
  clear hr
  obtain ⟨f, z⟩ := r
  simp only at HC ⊢
  have HH := Lib.hid HC
  clear HC
  go_enter Tryz.func92, Tryz.ntmps92
  go_wp2_with (go_at_call 152; refine (HH.out _).mono ?_; rintro E w1 ⟨rfl, o1⟩
               have O1 := Lib.hid (O.out.trans o1)
               have B1 := Lib.hid (BZ.out.only o1 (fun h => h))
               have q1 := nine_of B1.out
               have z1 := frozen9 B1.out
               clear o1)
  exact bodyPost_ret (results_cell_tmp rfl _ _ (w.heap.size + 1) 82 _ _ rfl (fill9_blk B1.out _ _ _ _ _ _ _ _ _) Tryz.underlying82 rfl (by kernel_rfl) _ rfl) rfl ⟨rfl, fill9_only O1.out (.inr (by simp)) _ _ _ _ _ _ _ _ _⟩
end Go.Proofs.YtoohpcomnhfgpaaGreat
end
section
namespace Go.Proofs.YtoohpcomnhfgpaaGreat
open Go.RowKit
set_option maxRecDepth 100000
theorem Only.set_one (g i : Nat) (u : Value) (w : World) : Only (one g) w (w.setCell ⟨g, i, none⟩ u) := (Only.refl (one g) w).setCell (p := ⟨g, i, none⟩) (.inl rfl) u
theorem clk_next_spent (g : Nat) (s : Int) (w : World) (h : Clk w g s 4294967295) :
    Calls Tryz.prog 198 #[.pointer (some ⟨g, 0, none⟩)] w fun e w' => e = .returned (.tuple #[.agg #[.int .i64 0, .int .i64 0], .int .i64 8]) ∧ Clk w' g s 4294967295 ∧ Only none_ w w' := by
  have O := Lib.hid ((Only.refl none_ w).alloc (.cells #[.int .i64 0, .int .i64 0] 80))
  have H := Lib.hid (h.alloc (.cells #[.int .i64 0, .int .i64 0] 80))
  clear h
  go_enter Tryz.func198, Tryz.ntmps198
  go_wp2_with (go_at_call 58; refine (clk_now _ _ _ _ H.out).mono ?_; rintro e w' ⟨rfl, rfl⟩)
  refine wp_loop_rounds 1 ?_
  rw [rounds_succ]
  go_wp2_with fail
  exact bodyPost_ret (v := .tuple #[.agg #[.int .i64 0, .int .i64 0], .int .i64 8]) (by simp [results, Tryz.results198, go_sem]) rfl ⟨rfl, H.out, O.out⟩
theorem clk_moved (g : Nat) (s n m : Int) (w : World) (h : Clk w g s n) :
    Calls Tryz.prog 144 #[.pointer (some ⟨g, 0, none⟩), .int .i64 n, .int .i64 m] w fun e w' => e = .returned (.bool true) ∧ Clk w' g s m ∧ Only (one g) w w' :=
  (clk_move g s n m w h).mono fun _ _ ⟨he, hw⟩ => ⟨he, by subst hw; exact h.set_ m, by subst hw; exact Only.set_one g 1 _ w⟩
theorem clk_next (g : Nat) (s n : Int) (w : World) (h : Clk w g s n) (h0 : 0 ≤ n) (h1 : n < 4294967295) :
    Calls Tryz.prog 198 #[.pointer (some ⟨g, 0, none⟩)] w fun e w' => e = .returned (.tuple #[.agg #[.int .i64 (n + 1), .int .i64 s], .int .i64 0]) ∧ Clk w' g s (n + 1) ∧ Only (one g) w w' := by
  have O := Lib.hid ((Only.refl (one g) w).alloc (.cells #[.int .i64 0, .int .i64 0] 80))
  have H := Lib.hid (h.alloc (.cells #[.int .i64 0, .int .i64 0] 80))
  have R := Lib.hid (Blk.new w 80 #[.int .i64 0, .int .i64 0])
  have hg := h.lt
  have hne : ¬ one g w.heap.size := fun e => by have e : w.heap.size = g := e; omega
  have HN := Lib.hid hne
  clear h hne
  go_enter Tryz.func198, Tryz.ntmps198
  go_wp2_with (go_at_call 58; refine (clk_now _ _ _ _ H.out).mono ?_; rintro e w' ⟨rfl, rfl⟩)
  refine wp_loop_rounds 1 ?_
  rw [rounds_succ]
  go_wp2_with (first
    | (go_at_call 144; refine (clk_moved _ _ _ _ _ H.out).mono ?_; rintro e w1 ⟨rfl, k1, o1⟩
       have s1 := k1.site
       have R1 := Lib.hid (R.out.only o1 HN.out)
       have r0 := R1.out.cell_ (i := 0) rfl
       have r1 := R1.out.cell_ (i := 1) rfl
       have z0 := R1.out.frozen 0
       have z1 := R1.out.frozen 1
       have K1 := Lib.hid k1
       have O1 := Lib.hid (O.out.trans o1)
       clear k1 o1))
  have q0 := (R1.out.set_ 0 (.int .i64 (n + 1))).cell_ (i := 0) (u := .int .i64 (n + 1)) (by simp)
  have q1 := ((R1.out.set_ 0 (.int .i64 (n + 1))).set_ 1 (.int .i64 s)).cell_ (i := 1) (u := .int .i64 s) (by simp)
  have oS : Only (one w.heap.size) w1 ((w1.setCell ⟨w.heap.size, 0, none⟩ (.int .i64 (n + 1))).setCell ⟨w.heap.size, 1, none⟩ (.int .i64 s)) := (Only.set_one _ _ _ _).trans (Only.set_one _ _ _ _)
  exact bodyPost_ret (v := .tuple #[.agg #[.int .i64 (n + 1), .int .i64 s], .int .i64 0]) (by simp [results, Tryz.results198, go_sem, q0, q1]) rfl
    ⟨rfl, K1.out.only oS (fun e => HN.out e.symm), (O1.out.setCell (p := ⟨w.heap.size, 0, none⟩) (.inr (Nat.le_refl _)) _).setCell (p := ⟨w.heap.size, 1, none⟩) (.inr (Nat.le_refl _)) _⟩
theorem clk_see_bad (g : Nat) (s n : Int) (c i : Int) (w : World) (h : Clk w g s n) (hb : stGood ⟨c, i⟩ = false) :
    Calls Tryz.prog 84 #[.pointer (some ⟨g, 0, none⟩), .agg #[.int .i64 c, .int .i64 i]] w fun e w' => e = .returned (.bool false) ∧ Clk w' g s n ∧ Only none_ w w' := by
  have O := Lib.hid ((Only.refl none_ w).alloc (.cells #[.int .i64 c, .int .i64 i] 80))
  have H := Lib.hid h
  have HB := Lib.hid hb
  clear h hb
  go_enter Tryz.func84, Tryz.ntmps84
  go_wp2_with (go_at_call 143; refine (st_good _ _ _).mono ?_; rintro e w1 ⟨rfl, o1⟩; rw [HB.out]; have O1 := Lib.hid (O.out.trans o1); clear o1)
  go_ret
  exact ⟨rfl, H.out.only O1.out (fun h => h), O1.out⟩
theorem clk_see_low (g : Nat) (s n : Int) (c i : Int) (w : World) (h : Clk w g s n) (hb : stGood ⟨c, i⟩ = true) (hl : c ≤ n) :
    Calls Tryz.prog 84 #[.pointer (some ⟨g, 0, none⟩), .agg #[.int .i64 c, .int .i64 i]] w fun e w' => e = .returned (.bool false) ∧ Clk w' g s n ∧ Only none_ w w' := by
  have O := Lib.hid ((Only.refl none_ w).alloc (.cells #[.int .i64 c, .int .i64 i] 80))
  have B := Lib.hid (Blk.new w 80 #[.int .i64 c, .int .i64 i])
  have H := Lib.hid (h.alloc (.cells #[.int .i64 c, .int .i64 i] 80))
  have HB := Lib.hid hb
  clear h hb
  go_enter Tryz.func84, Tryz.ntmps84
  go_wp2_with (first
    | (go_at_call 143; refine (st_good _ _ _).mono ?_; rintro e w1 ⟨rfl, o1⟩; rw [HB.out]
       have O1 := Lib.hid (O.out.trans o1)
       have H1 := Lib.hid (H.out.only o1 (fun h => h))
       have b0 := (B.out.only o1 (fun h => h)).cell_ (i := 0) rfl
       clear o1)
    | (go_at_call 58; refine (clk_now _ _ _ _ H1.out).mono ?_; rintro e w' ⟨rfl, rfl⟩))
  refine wp_loop_rounds 1 ?_
  rw [rounds_succ]
  go_wp2_with fail
  go_ret
  exact ⟨rfl, H1.out, O1.out⟩
theorem clk_see (g : Nat) (s n : Int) (c i : Int) (w : World) (h : Clk w g s n) (hb : stGood ⟨c, i⟩ = true) (hl : n < c) :
    Calls Tryz.prog 84 #[.pointer (some ⟨g, 0, none⟩), .agg #[.int .i64 c, .int .i64 i]] w fun e w' => e = .returned (.bool true) ∧ Clk w' g s c ∧ Only (one g) w w' := by
  have O := Lib.hid ((Only.refl none_ w).alloc (.cells #[.int .i64 c, .int .i64 i] 80))
  have B := Lib.hid (Blk.new w 80 #[.int .i64 c, .int .i64 i])
  have H := Lib.hid (h.alloc (.cells #[.int .i64 c, .int .i64 i] 80))
  have HB := Lib.hid hb
  clear h hb
  go_enter Tryz.func84, Tryz.ntmps84
  go_wp2_with (first
    | (go_at_call 143; refine (st_good _ _ _).mono ?_; rintro e w1 ⟨rfl, o1⟩; rw [HB.out]
       have O1 := Lib.hid (O.out.trans o1)
       have H1 := Lib.hid (H.out.only o1 (fun h => h))
       have b0 := (B.out.only o1 (fun h => h)).cell_ (i := 0) rfl
       clear o1)
    | (go_at_call 58; refine (clk_now _ _ _ _ H1.out).mono ?_; rintro e w' ⟨rfl, rfl⟩))
  refine wp_loop_rounds 1 ?_
  rw [rounds_succ]
  go_wp2_with (first
    | (go_at_call 144; refine (clk_moved _ _ _ _ _ H1.out).mono ?_; rintro e w2 ⟨rfl, k2, o2⟩
       have K2 := Lib.hid k2
       have O2 := Lib.hid (O1.out.of_none.trans o2)
       clear k2 o2))
  go_ret
  exact ⟨rfl, K2.out, O2.out⟩
end Go.Proofs.YtoohpcomnhfgpaaGreat
end
