/- The call of SetupTexts answers yes, and changes nothing that was there. The statement itself is proved in another text. -/
import Derived.Test.YthhfpjecgdedgaaSuJ
import Derived.Test.YthhfpjecgdedgaaSuK
import Derived.Test.YthhfpjecgdedgaaSuL
import Derived.Test.YthhfpjecgdedgaaSuP
import Derived.Test.YthhfpjecgdedgaaFre
namespace Go.Proofs.Ythhfpjecgdedgaa
open Go.RowKit
set_option maxRecDepth 100000
set_option linter.all false

theorem exec_load_row {P : Program} {a : Act} {o : Oper} {w : World} (ty : TypeId) (x : Operand) (ho : o.op = .load ty x) (g : Nat) (hx : a.eval x = .pointer (some ⟨g, 0, none⟩)) (t : TypeId) (cs : Array Value) (d : TypeDesc) (hg : Blk w g t cs)
    (hu : P.underlying ty = some d) (hd : (match d with | .struct _ | .array _ _ => true | _ => false) = true) (hi : (P.info? ty).map (·.size) = some cs.size) : (execOp a.eval o).run P w = .ok (.value (.agg cs)) w := by
  unfold execOp
  simp only [ho, hx, Instr.loadAt, Instr.sureAddr, Sem.run_bind, Sem.run_pure, Result.andThen_ok, run_loadVar_row w g t ty cs (0, 0) d hg hu hd hi]

set_option maxHeartbeats 6400000 in
theorem texts_no (c : Nat → Int) (hr : suRight c = false) (w : World) :
    Calls Try.prog 4 #[.agg #[.int .i64 (c 0), .int .i64 (c 1), .int .i64 (c 2), .int .i64 (c 3), .int .i64 (c 4), .int .i64 (c 5), .int .i64 (c 6), .int .i64 (c 7), .int .i64 (c 8), .int .i64 (c 9), .int .i64 (c 10), .int .i64 (c 11), .int .i64 (c 12), .int .i64 (c 13), .int .i64 (c 14), .int .i64 (c 15), .int .i64 (c 16), .int .i64 (c 17), .int .i64 (c 18), .int .i64 (c 19)]] w fun E w' => E = .returned (.bool true) ∧ Below w.heap.size w w' := by
  have BX := Lib.hid (Cb.new w 23 c)
  have H1 := Lib.hid (fun w => su_encode_no c hr w)
  have H2 := Lib.hid (fun w => rf_right c w)
  rw [hr] at H2
  clear hr
  go_enter Try.func4, Try.ntmps4
  go_wp2_with (first
    | (refine wpl_load rfl 23 _ rfl w.heap.size rfl _ #[.int .i64 (c 0), .int .i64 (c 1), .int .i64 (c 2), .int .i64 (c 3), .int .i64 (c 4), .int .i64 (c 5), .int .i64 (c 6), .int .i64 (c 7), .int .i64 (c 8), .int .i64 (c 9), .int .i64 (c 10), .int .i64 (c 11), .int .i64 (c 12), .int .i64 (c 13), .int .i64 (c 14), .int .i64 (c 15), .int .i64 (c 16), .int .i64 (c 17), .int .i64 (c 18), .int .i64 (c 19)] _ (by first | exact B3.out.x | exact B1.out.x) Try.underlying23 rfl (by kernel_rfl) ?_)
    | (go_at_call 8; refine (su_speaks _).mono ?_; rintro E w1 ⟨rfl, o1⟩; have B1 := Lib.hid (BX.out.keep o1); clear o1)
    | (go_at_call 9; refine (lw_of c _).mono ?_; rintro E w2 ⟨rfl, o2⟩; have B2 := Lib.hid (B1.out.keep o2); clear o2)
    | (go_at_call 25; refine (H1.out _).mono ?_; rintro E w3 ⟨rfl, o3⟩; have B3 := Lib.hid (B2.out.keep o3); clear o3)
    | (go_at_call 26; refine (H2.out _).mono ?_; rintro E w4 ⟨rfl, o4⟩; have B4 := Lib.hid (B3.out.keep o4); clear o4))
  go_ret
  exact ⟨rfl, B4.out.ho.below (Nat.le_refl _) (fun k hk => hk.elim)⟩

set_option maxHeartbeats 12800000 in
theorem texts_yes (c : Nat → Int) (hr : suRight c = true) (w : World) :
    Calls Try.prog 4 #[.agg #[.int .i64 (c 0), .int .i64 (c 1), .int .i64 (c 2), .int .i64 (c 3), .int .i64 (c 4), .int .i64 (c 5), .int .i64 (c 6), .int .i64 (c 7), .int .i64 (c 8), .int .i64 (c 9), .int .i64 (c 10), .int .i64 (c 11), .int .i64 (c 12), .int .i64 (c 13), .int .i64 (c 14), .int .i64 (c 15), .int .i64 (c 16), .int .i64 (c 17), .int .i64 (c 18), .int .i64 (c 19)]] w fun E w' => E = .returned (.bool true) ∧ Below w.heap.size w w' := by
  have BX := Lib.hid (Cb.new w 23 c)
  have H1 := Lib.hid (fun w => su_encode c hr w)
  have H2 := Lib.hid (fun w => rf_right c w)
  have H3 := Lib.hid (fun w => rf_encode c hr w)
  have hlen := suBytes_len c 20
  have HD : Hid (∀ A L q S w, Byt w S (.slice A L q) (suBytes c 20) → Calls Try.prog 27 #[.slice A L q] w fun E w' => E = .returned (.tuple #[.agg #[.int .i64 (c 0), .int .i64 (c 1), .int .i64 (c 2), .int .i64 (c 3), .int .i64 (c 4), .int .i64 (c 5), .int .i64 (c 6), .int .i64 (c 7), .int .i64 (c 8), .int .i64 (c 9), .int .i64 (c 10), .int .i64 (c 11), .int .i64 (c 12), .int .i64 (c 13), .int .i64 (c 14), .int .i64 (c 15), .int .i64 (c 16), .int .i64 (c 17), .int .i64 (c 18), .int .i64 (c 19)], .int .i64 0]) ∧ Only none_ w w') := by
    intro A L q S w hx
    have := su_decode A L q (suBytes c 20) S w hx (by omega)
    rw [(sd_back hr).1, (sd_back hr).2] at this
    exact this
  rw [hr] at H2
  clear hr hlen
  generalize suBytes c 20 = bs at *
  go_enter Try.func4, Try.ntmps4
  go_wp2_with (first
    | (refine wpl_load rfl 23 _ rfl w.heap.size rfl _ #[.int .i64 (c 0), .int .i64 (c 1), .int .i64 (c 2), .int .i64 (c 3), .int .i64 (c 4), .int .i64 (c 5), .int .i64 (c 6), .int .i64 (c 7), .int .i64 (c 8), .int .i64 (c 9), .int .i64 (c 10), .int .i64 (c 11), .int .i64 (c 12), .int .i64 (c 13), .int .i64 (c 14), .int .i64 (c 15), .int .i64 (c 16), .int .i64 (c 17), .int .i64 (c 18), .int .i64 (c 19)] _ (by first | exact B3.out.x | exact B1.out.x) Try.underlying23 rfl (by kernel_rfl) ?_)
    | (go_at_call 8; refine (su_speaks _).mono ?_; rintro E w1 ⟨rfl, o1⟩; have B1 := Lib.hid (BX.out.keep o1); clear o1)
    | (go_at_call 9; refine (lw_of c _).mono ?_; rintro E w2 ⟨rfl, o2⟩; have B2 := Lib.hid (B1.out.keep o2); clear o2)
    | (go_at_call 25; refine (H1.out _).mono ?_; rintro E w3 ⟨A, n, q, rfl, own, o3⟩
       have B3 := Lib.hid (B2.out.keep o3)
       have Y3 : Hid (Byt w3 (fun _ => True) (.slice A n q) bs) := (Byt.of_own own).mono (fun _ _ _ => trivial)
       clear o3 own)
    | (go_at_call 26; refine (H2.out _).mono ?_; rintro E w4 ⟨rfl, o4⟩
       have B4 := Lib.hid (B3.out.keep o4)
       have Y4 := Lib.hid (Y3.out.only o4 (fun _ _ h => h))
       clear o4)
    | (go_at_call 27; refine (HD.out A n q _ _ Y4.out).mono ?_; rintro E w5 ⟨rfl, o5⟩
       have D5 : Hid (Cd w w.heap.size w5.heap.size 23 26 c c (w5.alloc (.cells #[.int .i64 (c 0), .int .i64 (c 1), .int .i64 (c 2), .int .i64 (c 3), .int .i64 (c 4), .int .i64 (c 5), .int .i64 (c 6), .int .i64 (c 7), .int .i64 (c 8), .int .i64 (c 9), .int .i64 (c 10), .int .i64 (c 11), .int .i64 (c 12), .int .i64 (c 13), .int .i64 (c 14), .int .i64 (c 15), .int .i64 (c 16), .int .i64 (c 17), .int .i64 (c 18), .int .i64 (c 19)] 26))) := ⟨(B4.out.keep o5).x.alloc _, Blk.new w5 _ _, (B4.out.keep o5).ho.alloc _⟩
       have Y5 := Lib.hid ((Y4.out.only o5 (fun _ _ h => h)).only ((Only.refl none_ w5).alloc (.cells #[.int .i64 (c 0), .int .i64 (c 1), .int .i64 (c 2), .int .i64 (c 3), .int .i64 (c 4), .int .i64 (c 5), .int .i64 (c 6), .int .i64 (c 7), .int .i64 (c 8), .int .i64 (c 9), .int .i64 (c 10), .int .i64 (c 11), .int .i64 (c 12), .int .i64 (c 13), .int .i64 (c 14), .int .i64 (c 15), .int .i64 (c 16), .int .i64 (c 17), .int .i64 (c 18), .int .i64 (c 19)] 26)) (fun _ _ h => h))
       clear o5)
    | (refine wpl_new rfl rfl 26 rfl _ _ rfl #[.int .i64 (c 0), .int .i64 (c 1), .int .i64 (c 2), .int .i64 (c 3), .int .i64 (c 4), .int .i64 (c 5), .int .i64 (c 6), .int .i64 (c 7), .int .i64 (c 8), .int .i64 (c 9), .int .i64 (c 10), .int .i64 (c 11), .int .i64 (c 12), .int .i64 (c 13), .int .i64 (c 14), .int .i64 (c 15), .int .i64 (c 16), .int .i64 (c 17), .int .i64 (c 18), .int .i64 (c 19)] rfl rfl (by kernel_rfl) (cf_one c) ?_))
  clear BX B1 B2 B3 B4 Y3 Y4
  generalize w5.alloc _ = wc at *
  generalize w5.heap.size = h at *
  generalize hgg : w.heap.size = g at *
  have hw2 : w = w := rfl
  (refine wp_region_free (fun w' => Only none_ wc w') (Only none_) (F := ?_) (by kernel_rfl) 50 (by rfl) (by kernel_rfl) (fun x => ?_) ((Only.refl none_ wc).drew) ?_; rotate_left; (· (simp only [putsL, Act.put, List.setIfInBounds_toArray, List.set_cons_zero, List.set_cons_succ, Nat.reduceAdd]; exact rfl)))
  repeat (first
    | ((first | refine fr_value (c := ?_) (by rfl) (fun w => Only.refl none_ w) (fun x w0 hS hk => ?_) ?_ | refine fr_value_if (c := ?_) (by rfl) (by rfl) (by rfl) (fun w => Only.refl none_ w) (fun x w0 hS hk => ?_) ?_); rotate_left; (· (have hk2 := hk; (try simp [knAll, Region.binds] at hk2); (have e1 := run_bytes_string w0 _ _ _ (Y5.out.only hS (fun _ _ h => h))); (have e2 := eq_cfg c w0); go_simp; try (with_reducible rfl))); try simp only [List.nil_append, List.cons_append])
    | (refine fr_value_if (c := .agg #[.int .i64 (c 0), .int .i64 (c 1), .int .i64 (c 2), .int .i64 (c 3), .int .i64 (c 4), .int .i64 (c 5), .int .i64 (c 6), .int .i64 (c 7), .int .i64 (c 8), .int .i64 (c 9), .int .i64 (c 10), .int .i64 (c 11), .int .i64 (c 12), .int .i64 (c 13), .int .i64 (c 14), .int .i64 (c 15), .int .i64 (c 16), .int .i64 (c 17), .int .i64 (c 18), .int .i64 (c 19)]) (by rfl) (by rfl) (by rfl) (fun w => Only.refl none_ w) (fun x w0 hS hk => exec_load_row 23 _ rfl g rfl _ #[.int .i64 (c 0), .int .i64 (c 1), .int .i64 (c 2), .int .i64 (c 3), .int .i64 (c 4), .int .i64 (c 5), .int .i64 (c 6), .int .i64 (c 7), .int .i64 (c 8), .int .i64 (c 9), .int .i64 (c 10), .int .i64 (c 11), .int .i64 (c 12), .int .i64 (c 13), .int .i64 (c 14), .int .i64 (c 15), .int .i64 (c 16), .int .i64 (c 17), .int .i64 (c 18), .int .i64 (c 19)] _ ((D5.out.keep hS).x) Try.underlying23 rfl (by kernel_rfl)) ?_; try simp only [List.nil_append, List.cons_append])
    | (refine fr_value_if (c := .agg #[.int .i64 (c 0), .int .i64 (c 1), .int .i64 (c 2), .int .i64 (c 3), .int .i64 (c 4), .int .i64 (c 5), .int .i64 (c 6), .int .i64 (c 7), .int .i64 (c 8), .int .i64 (c 9), .int .i64 (c 10), .int .i64 (c 11), .int .i64 (c 12), .int .i64 (c 13), .int .i64 (c 14), .int .i64 (c 15), .int .i64 (c 16), .int .i64 (c 17), .int .i64 (c 18), .int .i64 (c 19)]) (by rfl) (by rfl) (by rfl) (fun w => Only.refl none_ w) (fun x w0 hS hk => exec_load_row 26 _ rfl h rfl _ #[.int .i64 (c 0), .int .i64 (c 1), .int .i64 (c 2), .int .i64 (c 3), .int .i64 (c 4), .int .i64 (c 5), .int .i64 (c 6), .int .i64 (c 7), .int .i64 (c 8), .int .i64 (c 9), .int .i64 (c 10), .int .i64 (c 11), .int .i64 (c 12), .int .i64 (c 13), .int .i64 (c 14), .int .i64 (c 15), .int .i64 (c 16), .int .i64 (c 17), .int .i64 (c 18), .int .i64 (c 19)] _ ((D5.out.keep hS).y) Try.underlying26 rfl (by kernel_rfl)) ?_; try simp only [List.nil_append, List.cons_append])
    | ((first | refine fr_skip (by rfl) (by rfl) (by rfl) (fun w => Only.refl none_ w) ?_ | refine fr_skip_too (by rfl) (by rfl) (by rfl) (fun w => Only.refl none_ w) ?_); try simp only [List.nil_append, List.cons_append])
    | ((first | refine fr_some (fun v w => Byt w (fun _ => True) v bs) (fun _ _ _ _ _ r h => h.only r (fun _ _ h => h)) (by rfl) (fun x w0 hS hk => ?_) ?_ | refine fr_some_if (fun v w => Byt w (fun _ => True) v bs) (fun _ _ _ _ _ r h => h.only r (fun _ _ h => h)) (by rfl) (by rfl) (by rfl) (fun x w0 hS hk => ?_) ?_); (· (have hk2 := hk; (try simp [knAll, Region.binds] at hk2); skip; refine got_call (f := 28) (args := ?_) (by go_simp; try (with_reducible rfl)) ?_; refine (H3.out _).mono ?_; rintro E w9 ⟨A9, n9, q9, rfl, own9, o9⟩; exact ⟨_, rfl, (Byt.of_own own9).mono (fun _ _ _ => trivial), hS.trans o9, o9⟩)); try simp only [List.nil_append, List.cons_append])
    | ((first | refine fr_value (c := ?_) (by rfl) (fun w => Only.refl none_ w) (fun x w0 hS hk => ?_) ?_ | refine fr_value_if (c := ?_) (by rfl) (by rfl) (by rfl) (fun w => Only.refl none_ w) (fun x w0 hS hk => ?_) ?_); rotate_left; (· (have hk2 := hk; (try simp [knAll, Region.binds] at hk2); have h6 := kn_at (j := 6) (by rfl) hk (by rfl); (have e1 := run_bytes_string w0 _ _ _ h6); go_simp; try (with_reducible rfl))); try simp only [List.nil_append, List.cons_append])
    | ((first | refine fr_some (fun v _ => v = .agg #[.int .i64 (c 0), .int .i64 (c 1), .int .i64 (c 2), .int .i64 (c 3), .int .i64 (c 4), .int .i64 (c 5), .int .i64 (c 6), .int .i64 (c 7), .int .i64 (c 8), .int .i64 (c 9), .int .i64 (c 10), .int .i64 (c 11), .int .i64 (c 12), .int .i64 (c 13), .int .i64 (c 14), .int .i64 (c 15), .int .i64 (c 16), .int .i64 (c 17), .int .i64 (c 18), .int .i64 (c 19)]) (fun _ _ _ _ _ _ h => h) (by rfl) (fun x w0 hS hk => ?_) ?_ | refine fr_some_if (fun v _ => v = .agg #[.int .i64 (c 0), .int .i64 (c 1), .int .i64 (c 2), .int .i64 (c 3), .int .i64 (c 4), .int .i64 (c 5), .int .i64 (c 6), .int .i64 (c 7), .int .i64 (c 8), .int .i64 (c 9), .int .i64 (c 10), .int .i64 (c 11), .int .i64 (c 12), .int .i64 (c 13), .int .i64 (c 14), .int .i64 (c 15), .int .i64 (c 16), .int .i64 (c 17), .int .i64 (c 18), .int .i64 (c 19)]) (fun _ _ _ _ _ _ h => h) (by rfl) (by rfl) (by rfl) (fun x w0 hS hk => ?_) ?_); (· (have hk2 := hk; (try simp [knAll, Region.binds] at hk2); skip; refine got_call (f := 9) (args := ?_) (by go_simp; try (with_reducible rfl)) ?_; refine (lw_of c _).mono ?_; rintro e w8 ⟨rfl, o8⟩; exact ⟨_, rfl, rfl, hS.trans o8, o8⟩)); try simp only [List.nil_append, List.cons_append]))
  (refine fr_end ?_; intro x w9 hS hk)
  have e20 := kn_end_at 20 hk (by rfl)
  rw [Nat.zero_add] at e20
  clear hk
  rw [e20]
  go_wp2_with fail
  go_ret
  exact ⟨rfl, (D5.out.ho.trans hS).below (by omega) (fun k hk => hk.elim)⟩
theorem texts_any (c : Nat → Int) (w : World) :
    Calls Try.prog 4 #[.agg #[.int .i64 (c 0), .int .i64 (c 1), .int .i64 (c 2), .int .i64 (c 3), .int .i64 (c 4), .int .i64 (c 5), .int .i64 (c 6), .int .i64 (c 7), .int .i64 (c 8), .int .i64 (c 9), .int .i64 (c 10), .int .i64 (c 11), .int .i64 (c 12), .int .i64 (c 13), .int .i64 (c 14), .int .i64 (c 15), .int .i64 (c 16), .int .i64 (c 17), .int .i64 (c 18), .int .i64 (c 19)]] w fun E w' => E = .returned (.bool true) ∧ Below w.heap.size w w' := by
  cases hr : suRight c with
  | false => exact texts_no c hr w
  | true => exact texts_yes c hr w
end Go.Proofs.Ythhfpjecgdedgaa
