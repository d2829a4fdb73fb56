/- The document's New; whether views tell what the document's have. No statement of the seat is proved here. -/
import Derived.Test.YtiigebdmkibnbaaVwT
import Derived.Test.YtiigebdmkibnbaaVwPk
import Derived.Test.YtiigebdmkibnbaaDcF
namespace Go.Proofs.Ytiigebdmkibnbaa
open Go.RowKit
set_option linter.all false
set_option maxRecDepth 100000

theorem drow_vm0 (self : Int) (a p : Nat) : drow (vm0 self a p) = #[.int .i64 self, .bool false, .bool false, .bool false, .bool false, .bool false, .bool false, .bool false, .bool false, .bool false, .bool false, .bool false, .bool false, .bool false, .bool false, .bool false, .bool false, .bool false, .bool false, .bool false, .bool false, .bool false, .bool false, .bool false, .bool false, .int .i64 a, .int .i64 p] := by simp [drow, vrw, fb, vm0]
set_option maxHeartbeats 6400000 in
theorem rv_new (self a p : Int) (w : World) :
    Calls Try.prog 8 #[.int .i64 self, .int .i64 a, .int .i64 p] w fun e w' => (newOk self a p = true → e = .returned (.tuple #[.agg #[.int .i64 self, .bool false, .bool false, .bool false, .bool false, .bool false, .bool false, .bool false, .bool false, .bool false, .bool false, .bool false, .bool false, .bool false, .bool false, .bool false, .bool false, .bool false, .bool false, .bool false, .bool false, .bool false, .bool false, .bool false, .bool false, .int .i64 a, .int .i64 p], .int .i64 0])) ∧ (newOk self a p = false → e = .returned (.tuple #[.agg #[.int .i64 0, .bool false, .bool false, .bool false, .bool false, .bool false, .bool false, .bool false, .bool false, .bool false, .bool false, .bool false, .bool false, .bool false, .bool false, .bool false, .bool false, .bool false, .bool false, .bool false, .bool false, .bool false, .bool false, .bool false, .bool false, .int .i64 0, .int .i64 0], .int .i64 1])) ∧ Only none_ w w' := by
  obtain ⟨w3, hw3⟩ : ∃ x, w.alloc (.cells #[.int .i64 0, .bool false, .bool false, .bool false, .bool false, .bool false, .bool false, .bool false, .bool false, .bool false, .bool false, .bool false, .bool false, .bool false, .bool false, .bool false, .bool false, .bool false, .bool false, .bool false, .bool false, .bool false, .bool false, .bool false, .bool false, .int .i64 0, .int .i64 0] 31) = x := ⟨_, rfl⟩
  obtain ⟨b0, hb0⟩ : ∃ x, w.heap.size = x := ⟨_, rfl⟩
  have B3 : Hid (Blk w3 b0 31 #[.int .i64 0, .bool false, .bool false, .bool false, .bool false, .bool false, .bool false, .bool false, .bool false, .bool false, .bool false, .bool false, .bool false, .bool false, .bool false, .bool false, .bool false, .bool false, .bool false, .bool false, .bool false, .bool false, .bool false, .bool false, .bool false, .int .i64 0, .int .i64 0]) := by rw [← hw3, ← hb0]; exact Blk.new _ _ _
  have O3 : Hid (Only none_ w w3) := by rw [← hw3]; exact (Only.refl none_ w).alloc _
  have HW3 := Lib.hid hw3
  have HB0 := Lib.hid hb0
  have FB : Hid (∀ cs, Blk (w3.setRow b0 cs) b0 31 cs ∧ Only none_ w (w3.setRow b0 cs)) := fun cs => ⟨B3.out.setRow cs, O3.out.setRow (.inr (by rw [← hb0]; exact Nat.le_refl _)) cs⟩
  have hnw : newOk self a p = (nodeB self && (decide (1 ≤ a) && decide (a ≤ 11)) && (decide (1 ≤ p) && decide (p ≤ 11))) := rfl
  clear hw3 hb0
  cases hb : nodeB self with
  | false =>
    have HNB : Hid (nodeB self = false) := hb
    have HF : Hid (newOk self a p = false) := by rw [Hid, hnw, hb]; rfl
    clear hb hnw
    go_enter Try.func8, Try.ntmps8
    go_upto_region 1 with fail
    rw [HW3.out, HB0.out]
    go_wp2_with (first
      | (go_at_call 11; refine (rv_node self _).mono ?_; rw [HNB.out]; rintro E w4 ⟨rfl, rfl⟩)
      | (with_reducible refine vq_store_all rfl 31 _ _ rfl b0 #[.int .i64 0, .bool false, .bool false, .bool false, .bool false, .bool false, .bool false, .bool false, .bool false, .bool false, .bool false, .bool false, .bool false, .bool false, .bool false, .bool false, .bool false, .bool false, .bool false, .bool false, .bool false, .bool false, .bool false, .bool false, .bool false, .int .i64 0, .int .i64 0] rfl rfl _ _ B3.out (by kernel_rfl) (by kernel_rfl) (by simp [Value.oneCell']) ?_))
    refine bodyPost_ret (results_cell_tmp rfl _ _ b0 31 #[.int .i64 0, .bool false, .bool false, .bool false, .bool false, .bool false, .bool false, .bool false, .bool false, .bool false, .bool false, .bool false, .bool false, .bool false, .bool false, .bool false, .bool false, .bool false, .bool false, .bool false, .bool false, .bool false, .bool false, .bool false, .bool false, .int .i64 0, .int .i64 0] _ rfl (FB.out _).1 Try.underlying31 rfl (by kernel_rfl) _ rfl) rfl ?_
    exact ⟨(fun h => by rw [HF.out] at h; cases h), (fun h => rfl), (FB.out _).2⟩
  | true =>
    have HNB : Hid (nodeB self = true) := hb
    cases h4 : decide (1 ≤ a) with
    | false =>
      have d4 : decide (a < 1) = true := by rw [decide_eq_true_eq]; rw [decide_eq_false_iff_not] at h4; omega
      have HF : Hid (newOk self a p = false) := by rw [Hid, hnw, h4]; simp
      clear hb hnw h4
      go_enter Try.func8, Try.ntmps8
      go_upto_region 1 with fail
      rw [HW3.out, HB0.out]
      go_wp2_with (first
        | (go_at_call 11; refine (rv_node self _).mono ?_; rw [HNB.out]; rintro E w4 ⟨rfl, rfl⟩)
        | (with_reducible refine vq_store_all rfl 31 _ _ rfl b0 #[.int .i64 0, .bool false, .bool false, .bool false, .bool false, .bool false, .bool false, .bool false, .bool false, .bool false, .bool false, .bool false, .bool false, .bool false, .bool false, .bool false, .bool false, .bool false, .bool false, .bool false, .bool false, .bool false, .bool false, .bool false, .bool false, .int .i64 0, .int .i64 0] rfl rfl _ _ B3.out (by kernel_rfl) (by kernel_rfl) (by simp [Value.oneCell']) ?_))
      refine bodyPost_ret (results_cell_tmp rfl _ _ b0 31 #[.int .i64 0, .bool false, .bool false, .bool false, .bool false, .bool false, .bool false, .bool false, .bool false, .bool false, .bool false, .bool false, .bool false, .bool false, .bool false, .bool false, .bool false, .bool false, .bool false, .bool false, .bool false, .bool false, .bool false, .bool false, .bool false, .int .i64 0, .int .i64 0] _ rfl (FB.out _).1 Try.underlying31 rfl (by kernel_rfl) _ rfl) rfl ?_
      exact ⟨(fun h => by rw [HF.out] at h; cases h), (fun h => rfl), (FB.out _).2⟩
    | true =>
      have d4 : decide (a < 1) = false := by rw [decide_eq_false_iff_not]; rw [decide_eq_true_eq] at h4; omega
      cases h6 : decide (a ≤ 11) with
      | false =>
        have d6 : decide (11 < a) = true := by rw [decide_eq_true_eq]; rw [decide_eq_false_iff_not] at h6; omega
        have HF : Hid (newOk self a p = false) := by rw [Hid, hnw, h6]; simp
        clear hb hnw h6
        go_enter Try.func8, Try.ntmps8
        go_upto_region 1 with fail
        rw [HW3.out, HB0.out]
        go_wp2_with (first
          | (go_at_call 11; refine (rv_node self _).mono ?_; rw [HNB.out]; rintro E w4 ⟨rfl, rfl⟩)
          | (with_reducible refine vq_store_all rfl 31 _ _ rfl b0 #[.int .i64 0, .bool false, .bool false, .bool false, .bool false, .bool false, .bool false, .bool false, .bool false, .bool false, .bool false, .bool false, .bool false, .bool false, .bool false, .bool false, .bool false, .bool false, .bool false, .bool false, .bool false, .bool false, .bool false, .bool false, .bool false, .int .i64 0, .int .i64 0] rfl rfl _ _ B3.out (by kernel_rfl) (by kernel_rfl) (by simp [Value.oneCell']) ?_))
        refine bodyPost_ret (results_cell_tmp rfl _ _ b0 31 #[.int .i64 0, .bool false, .bool false, .bool false, .bool false, .bool false, .bool false, .bool false, .bool false, .bool false, .bool false, .bool false, .bool false, .bool false, .bool false, .bool false, .bool false, .bool false, .bool false, .bool false, .bool false, .bool false, .bool false, .bool false, .bool false, .int .i64 0, .int .i64 0] _ rfl (FB.out _).1 Try.underlying31 rfl (by kernel_rfl) _ rfl) rfl ?_
        exact ⟨(fun h => by rw [HF.out] at h; cases h), (fun h => rfl), (FB.out _).2⟩
      | true =>
        have d6 : decide (11 < a) = false := by rw [decide_eq_false_iff_not]; rw [decide_eq_true_eq] at h6; omega
        cases h8 : decide (1 ≤ p) with
        | false =>
          have d8 : decide (p < 1) = true := by rw [decide_eq_true_eq]; rw [decide_eq_false_iff_not] at h8; omega
          have HF : Hid (newOk self a p = false) := by rw [Hid, hnw, h8]; simp
          clear hb hnw h8
          go_enter Try.func8, Try.ntmps8
          go_upto_region 1 with fail
          rw [HW3.out, HB0.out]
          go_wp2_with (first
            | (go_at_call 11; refine (rv_node self _).mono ?_; rw [HNB.out]; rintro E w4 ⟨rfl, rfl⟩)
            | (with_reducible refine vq_store_all rfl 31 _ _ rfl b0 #[.int .i64 0, .bool false, .bool false, .bool false, .bool false, .bool false, .bool false, .bool false, .bool false, .bool false, .bool false, .bool false, .bool false, .bool false, .bool false, .bool false, .bool false, .bool false, .bool false, .bool false, .bool false, .bool false, .bool false, .bool false, .bool false, .int .i64 0, .int .i64 0] rfl rfl _ _ B3.out (by kernel_rfl) (by kernel_rfl) (by simp [Value.oneCell']) ?_))
          refine bodyPost_ret (results_cell_tmp rfl _ _ b0 31 #[.int .i64 0, .bool false, .bool false, .bool false, .bool false, .bool false, .bool false, .bool false, .bool false, .bool false, .bool false, .bool false, .bool false, .bool false, .bool false, .bool false, .bool false, .bool false, .bool false, .bool false, .bool false, .bool false, .bool false, .bool false, .bool false, .int .i64 0, .int .i64 0] _ rfl (FB.out _).1 Try.underlying31 rfl (by kernel_rfl) _ rfl) rfl ?_
          exact ⟨(fun h => by rw [HF.out] at h; cases h), (fun h => rfl), (FB.out _).2⟩
        | true =>
          have d8 : decide (p < 1) = false := by rw [decide_eq_false_iff_not]; rw [decide_eq_true_eq] at h8; omega
          cases h10 : decide (p ≤ 11) with
          | false =>
            have d10 : decide (11 < p) = true := by rw [decide_eq_true_eq]; rw [decide_eq_false_iff_not] at h10; omega
            have HF : Hid (newOk self a p = false) := by rw [Hid, hnw, h10]; simp
            clear hb hnw h10
            go_enter Try.func8, Try.ntmps8
            go_upto_region 1 with fail
            rw [HW3.out, HB0.out]
            go_wp2_with (first
              | (go_at_call 11; refine (rv_node self _).mono ?_; rw [HNB.out]; rintro E w4 ⟨rfl, rfl⟩)
              | (with_reducible refine vq_store_all rfl 31 _ _ rfl b0 #[.int .i64 0, .bool false, .bool false, .bool false, .bool false, .bool false, .bool false, .bool false, .bool false, .bool false, .bool false, .bool false, .bool false, .bool false, .bool false, .bool false, .bool false, .bool false, .bool false, .bool false, .bool false, .bool false, .bool false, .bool false, .bool false, .int .i64 0, .int .i64 0] rfl rfl _ _ B3.out (by kernel_rfl) (by kernel_rfl) (by simp [Value.oneCell']) ?_))
            refine bodyPost_ret (results_cell_tmp rfl _ _ b0 31 #[.int .i64 0, .bool false, .bool false, .bool false, .bool false, .bool false, .bool false, .bool false, .bool false, .bool false, .bool false, .bool false, .bool false, .bool false, .bool false, .bool false, .bool false, .bool false, .bool false, .bool false, .bool false, .bool false, .bool false, .bool false, .bool false, .int .i64 0, .int .i64 0] _ rfl (FB.out _).1 Try.underlying31 rfl (by kernel_rfl) _ rfl) rfl ?_
            exact ⟨(fun h => by rw [HF.out] at h; cases h), (fun h => rfl), (FB.out _).2⟩
          | true =>
            have d10 : decide (11 < p) = false := by rw [decide_eq_false_iff_not]; rw [decide_eq_true_eq] at h10; omega
            have HF : Hid (newOk self a p = true) := by rw [Hid, hnw, hb, h4, h6, h8, h10]; rfl
            clear hb hnw h4 h6 h8 h10
            go_enter Try.func8, Try.ntmps8
            go_upto_region 1 with fail
            rw [HW3.out, HB0.out]
            go_wp2_with (first
              | (go_at_call 11; refine (rv_node self _).mono ?_; rw [HNB.out]; rintro E w4 ⟨rfl, rfl⟩)
              | (with_reducible refine vq_store_all rfl 31 _ _ rfl b0 #[.int .i64 self, .bool false, .bool false, .bool false, .bool false, .bool false, .bool false, .bool false, .bool false, .bool false, .bool false, .bool false, .bool false, .bool false, .bool false, .bool false, .bool false, .bool false, .bool false, .bool false, .bool false, .bool false, .bool false, .bool false, .bool false, .int .i64 a, .int .i64 p] rfl rfl _ _ B3.out (by kernel_rfl) (by kernel_rfl) (by simp [Value.oneCell']) ?_))
            refine bodyPost_ret (results_cell_tmp rfl _ _ b0 31 #[.int .i64 self, .bool false, .bool false, .bool false, .bool false, .bool false, .bool false, .bool false, .bool false, .bool false, .bool false, .bool false, .bool false, .bool false, .bool false, .bool false, .bool false, .bool false, .bool false, .bool false, .bool false, .bool false, .bool false, .bool false, .bool false, .int .i64 a, .int .i64 p] _ rfl (FB.out _).1 Try.underlying31 rfl (by kernel_rfl) _ rfl) rfl ?_
            exact ⟨(fun h => rfl), (fun h => by rw [HF.out] at h; cases h), (FB.out _).2⟩

theorem exec_rowd {P : Program} {a : Act} {o : Oper} {w : World} (ty : TypeId) (x : Operand) (ho : o.op = .load ty x) (g : Nat) (hx : a.eval x = .pointer (some ⟨g, 0, none⟩)) (t : TypeId) (cs : Array Value) (d : TypeDesc) (hg : Blk w g t cs)
    (hu : P.underlying ty = some d) (hd : (match d with | .struct _ | .array _ _ => true | _ => false) = true) (hi : (P.info? ty).map (·.size) = some cs.size) : (execOp a.eval o).run P w = .ok (.value (.agg cs)) w := by
  unfold execOp
  simp only [ho, hx, Instr.loadAt, Instr.sureAddr, Sem.run_bind, Sem.run_pure, Result.andThen_ok, run_loadVar_row w g t ty cs (0, 0) d hg hu hd hi]
/-- A slice that reads as a list. -/
def Ln (l : List Int) (v : Value) (X : World) : Prop := ∃ A c, v = .slice A l.length c ∧ Nm X (fun _ => True) v l
theorem Ln.keep {l : List Int} {v : Value} {X X' : World} (h : Ln l v X) (o : Only none_ X X') : Ln l v X' := by
  obtain ⟨A, c, e, n⟩ := h
  exact ⟨A, c, e, n.keep o⟩
theorem Ln.own {l : List Int} {v : Value} {X : World} {b : Nat} (h : X.ownsRow b 3 1 v l.length (nums l)) : Ln l v X := by
  obtain ⟨A, n, c, rfl⟩ := own_sl h
  obtain rfl : l.length = n := (own_len h).symm
  exact ⟨A, c, rfl, (Cel.of_own h).mono (fun _ _ _ => trivial)⟩
set_option maxHeartbeats 25600000 in
theorem vs_is (B d : Nat) (s : Vm) (vA vP : Value) (dd : Nat) (vd : Value) (zs : List Int) (w : World) (h : Vs w B d s vA vP dd vd zs) :
    Calls Try.prog 12 #[.pointer (some ⟨d, 0, none⟩), .agg (drow s)] w fun e w' => e = .returned (.bool true) ∧ Only none_ w w' := by
  have O1 : Hid (Only none_ w (w.alloc (.cells (drow s) 31))) := (Only.refl none_ w).alloc _
  have BX : Hid (Blk (w.alloc (.cells (drow s) 31)) w.heap.size 31 (drow s)) := Blk.new _ _ _
  have HV := Lib.hid (h.keep O1.out)
  obtain ⟨bf, hbf⟩ : ∃ y, decide (s.act.length = s.a) = y := ⟨_, rfl⟩
  clear h
  obtain ⟨W1, hW1⟩ : ∃ X, w.alloc (.cells (drow s) 31) = X := ⟨_, rfl⟩
  obtain ⟨b0, hb0⟩ : ∃ X, w.heap.size = X := ⟨_, rfl⟩
  rw [hW1] at O1 BX HV
  rw [hb0] at BX
  have HW1 := Lib.hid hW1
  have HB0 := Lib.hid hb0
  have HFA : Hid (∀ X, Only none_ W1 X → Calls Try.prog 22 #[.pointer (some ⟨d, 0, none⟩)] X fun e w' => e = .returned (.bool bf) ∧ Only none_ X w') := fun X o => by rw [← hbf]; exact vs_full B d s vA vP dd vd zs X (HV.out.keep o)
  have HFR : Hid (∀ X, Calls Try.prog 32 #[.agg (drow s)] X fun e w' => e = .returned (.bool bf) ∧ Only none_ X w') := fun X => by rw [← hbf]; exact rv_full s.self s.act (fb s.pas) s.a s.p HV.out.ok.ua HV.out.ok.la X
  clear hbf hW1 hb0
  go_enter Try.func12, Try.ntmps12
  go_upto_region 1 with fail
  rw [HW1.out, HB0.out]
  (refine wp_region_free (fun X => Only none_ W1 X) (Only none_) (F := ?_) (by kernel_rfl) 40 (by rfl) (by kernel_rfl) (fun x => ?_) ((Only.refl none_ W1).drew) ?_; rotate_left; (· (simp only [putsL, Act.put, List.setIfInBounds_toArray, List.set_cons_zero, List.set_cons_succ, Nat.reduceAdd]; exact rfl)))
  ((first | refine fr_value (c := ?_) (by rfl) (fun w => Only.refl none_ w) (fun x w0 hS hk => ?_) ?_ | refine fr_value_if (c := ?_) (by rfl) (by rfl) (by rfl) (fun w => Only.refl none_ w) (fun x w0 hS hk => ?_) ?_); rotate_left; (· (have hk2 := hk; (try simp [knAll, Region.binds] at hk2); skip; go_simp; try (with_reducible rfl))); try simp only [List.nil_append, List.cons_append])
  ((first | refine fr_some (Ln s.act) (fun _ _ _ _ _ r h => h.keep r) (by rfl) (fun x w0 hS hk => ?_) ?_ | refine fr_some_if (Ln s.act) (fun _ _ _ _ _ r h => h.keep r) (by rfl) (by rfl) (by rfl) (fun x w0 hS hk => ?_) ?_); (· (have hk2 := hk; (try simp [knAll, Region.binds] at hk2); skip; refine got_call (f := 20) (args := ?_) (by go_simp; try (with_reducible rfl)) ?_; refine (vs_active B d s vA vP dd vd zs _ (HV.out.keep hS)).mono ?_; rintro E w8 ⟨v8, rfl, ow8, o8⟩; exact ⟨v8, rfl, Ln.own ow8, hS.trans o8, o8⟩)); try simp only [List.nil_append, List.cons_append])
  ((first | refine fr_value (c := ?_) (by rfl) (fun w => Only.refl none_ w) (fun x w0 hS hk => ?_) ?_ | refine fr_value_if (c := ?_) (by rfl) (by rfl) (by rfl) (fun w => Only.refl none_ w) (fun x w0 hS hk => ?_) ?_); rotate_left; (· (have hk2 := hk; (try simp [knAll, Region.binds] at hk2); skip; go_simp; try (with_reducible rfl))); try simp only [List.nil_append, List.cons_append])
  ((first | refine fr_value (c := .agg (varr (fb s.act))) (by rfl) (fun w => Only.refl none_ w) (fun x w0 hS hk => ?_) ?_ | refine fr_value_if (c := .agg (varr (fb s.act))) (by rfl) (by rfl) (by rfl) (fun w => Only.refl none_ w) (fun x w0 hS hk => ?_) ?_); (· (exact exec_piece 29 _ rfl b0 1 (by have hk2 := hk; (try simp [knAll, Region.binds] at hk2); simp [Act.eval, Act.put, hk2]) (varr (fb s.act)) _ ((BX.out.only hS (fun h => h)).piece 1 (varr (fb s.act)) vrw_pieceA) Try.underlying29 rfl (by kernel_rfl))); try simp only [List.nil_append, List.cons_append])
  ((first | refine fr_some (Ln s.act) (fun _ _ _ _ _ r h => h.keep r) (by rfl) (fun x w0 hS hk => ?_) ?_ | refine fr_some_if (Ln s.act) (fun _ _ _ _ _ r h => h.keep r) (by rfl) (by rfl) (by rfl) (fun x w0 hS hk => ?_) ?_); (· (have hk2 := hk; (try simp [knAll, Region.binds] at hk2); skip; refine got_call (f := 30) (args := ?_) (by go_simp; try (with_reducible rfl)) ?_; refine (rv_list s.act HV.out.ok.ua _).mono ?_; rintro E w8 ⟨A8, c8, rfl, nm8, o8⟩; exact ⟨_, rfl, ⟨_, _, rfl, nm8.mono (fun _ _ _ => trivial)⟩, hS.trans o8, o8⟩)); try simp only [List.nil_append, List.cons_append])
  ((first | refine fr_some (fun v _ => v = .bool true) (fun _ _ _ _ _ _ h => h) (by rfl) (fun x w0 hS hk => ?_) ?_ | refine fr_some_if (fun v _ => v = .bool true) (fun _ _ _ _ _ _ h => h) (by rfl) (by rfl) (by rfl) (fun x w0 hS hk => ?_) ?_); (· (have hk2 := hk; (try simp [knAll, Region.binds] at hk2); obtain ⟨A1, c1, e1, n1⟩ := kn_at (j := 1) (by rfl) hk (by rfl); obtain ⟨A2, c2, e2, n2⟩ := kn_at (j := 4) (by rfl) hk (by rfl); rw [e1] at n1; rw [e2] at n2; simp only [e1, e2]; refine got_call (f := 29) (args := ?_) (by go_simp; try (with_reducible rfl)) ?_; refine (rf_same _ _ s.act s.act _ _ _ n1 n2).mono ?_; rintro E w8 ⟨rfl, o8⟩; exact ⟨_, rfl, by rw [decide_eq_true rfl], hS.trans o8, o8⟩)); try simp only [List.nil_append, List.cons_append])
  ((first | refine fr_value (c := ?_) (by rfl) (fun w => Only.refl none_ w) (fun x w0 hS hk => ?_) ?_ | refine fr_value_if (c := ?_) (by rfl) (by rfl) (by rfl) (fun w => Only.refl none_ w) (fun x w0 hS hk => ?_) ?_); rotate_left; (· (have hk2 := hk; (try simp [knAll, Region.binds] at hk2); skip; go_simp; try (with_reducible rfl))); try simp only [List.nil_append, List.cons_append])
  ((first | refine fr_value (c := ?_) (by rfl) (fun w => Only.refl none_ w) (fun x w0 hS hk => ?_) ?_ | refine fr_value_if (c := ?_) (by rfl) (by rfl) (by rfl) (fun w => Only.refl none_ w) (fun x w0 hS hk => ?_) ?_); rotate_left; (· (have hk2 := hk; (try simp [knAll, Region.binds] at hk2); skip; go_simp; try (with_reducible rfl))); try simp only [List.nil_append, List.cons_append])
  ((first | refine fr_some (Ln s.pas) (fun _ _ _ _ _ r h => h.keep r) (by rfl) (fun x w0 hS hk => ?_) ?_ | refine fr_some_if (Ln s.pas) (fun _ _ _ _ _ r h => h.keep r) (by rfl) (by rfl) (by rfl) (fun x w0 hS hk => ?_) ?_); (· (have hk2 := hk; (try simp [knAll, Region.binds] at hk2); skip; refine got_call (f := 21) (args := ?_) (by go_simp; try (with_reducible rfl)) ?_; refine (vs_passive B d s vA vP dd vd zs _ (HV.out.keep hS)).mono ?_; rintro E w8 ⟨v8, rfl, ow8, o8⟩; exact ⟨v8, rfl, Ln.own ow8, hS.trans o8, o8⟩)); try simp only [List.nil_append, List.cons_append])
  ((first | refine fr_value (c := ?_) (by rfl) (fun w => Only.refl none_ w) (fun x w0 hS hk => ?_) ?_ | refine fr_value_if (c := ?_) (by rfl) (by rfl) (by rfl) (fun w => Only.refl none_ w) (fun x w0 hS hk => ?_) ?_); rotate_left; (· (have hk2 := hk; (try simp [knAll, Region.binds] at hk2); skip; go_simp; try (with_reducible rfl))); try simp only [List.nil_append, List.cons_append])
  ((first | refine fr_value (c := .agg (varr (fb s.pas))) (by rfl) (fun w => Only.refl none_ w) (fun x w0 hS hk => ?_) ?_ | refine fr_value_if (c := .agg (varr (fb s.pas))) (by rfl) (by rfl) (by rfl) (fun w => Only.refl none_ w) (fun x w0 hS hk => ?_) ?_); (· (exact exec_piece 29 _ rfl b0 13 (by have hk2 := hk; (try simp [knAll, Region.binds] at hk2); simp [Act.eval, Act.put, hk2]) (varr (fb s.pas)) _ ((BX.out.only hS (fun h => h)).piece 13 (varr (fb s.pas)) vrw_pieceP) Try.underlying29 rfl (by kernel_rfl))); try simp only [List.nil_append, List.cons_append])
  ((first | refine fr_some (Ln s.pas) (fun _ _ _ _ _ r h => h.keep r) (by rfl) (fun x w0 hS hk => ?_) ?_ | refine fr_some_if (Ln s.pas) (fun _ _ _ _ _ r h => h.keep r) (by rfl) (by rfl) (by rfl) (fun x w0 hS hk => ?_) ?_); (· (have hk2 := hk; (try simp [knAll, Region.binds] at hk2); skip; refine got_call (f := 30) (args := ?_) (by go_simp; try (with_reducible rfl)) ?_; refine (rv_list s.pas HV.out.ok.up _).mono ?_; rintro E w8 ⟨A8, c8, rfl, nm8, o8⟩; exact ⟨_, rfl, ⟨_, _, rfl, nm8.mono (fun _ _ _ => trivial)⟩, hS.trans o8, o8⟩)); try simp only [List.nil_append, List.cons_append])
  ((first | refine fr_some (fun v _ => v = .bool true) (fun _ _ _ _ _ _ h => h) (by rfl) (fun x w0 hS hk => ?_) ?_ | refine fr_some_if (fun v _ => v = .bool true) (fun _ _ _ _ _ _ h => h) (by rfl) (by rfl) (by rfl) (fun x w0 hS hk => ?_) ?_); (· (have hk2 := hk; (try simp [knAll, Region.binds] at hk2); obtain ⟨A1, c1, e1, n1⟩ := kn_at (j := 8) (by rfl) hk (by rfl); obtain ⟨A2, c2, e2, n2⟩ := kn_at (j := 11) (by rfl) hk (by rfl); rw [e1] at n1; rw [e2] at n2; simp only [e1, e2]; refine got_call (f := 29) (args := ?_) (by go_simp; try (with_reducible rfl)) ?_; refine (rf_same _ _ s.pas s.pas _ _ _ n1 n2).mono ?_; rintro E w8 ⟨rfl, o8⟩; exact ⟨_, rfl, by rw [decide_eq_true rfl], hS.trans o8, o8⟩)); try simp only [List.nil_append, List.cons_append])
  ((first | refine fr_value (c := ?_) (by rfl) (fun w => Only.refl none_ w) (fun x w0 hS hk => ?_) ?_ | refine fr_value_if (c := ?_) (by rfl) (by rfl) (by rfl) (fun w => Only.refl none_ w) (fun x w0 hS hk => ?_) ?_); rotate_left; (· (have hk2 := hk; (try simp [knAll, Region.binds] at hk2); skip; go_simp; try (with_reducible rfl))); try simp only [List.nil_append, List.cons_append])
  ((first | refine fr_value (c := ?_) (by rfl) (fun w => Only.refl none_ w) (fun x w0 hS hk => ?_) ?_ | refine fr_value_if (c := ?_) (by rfl) (by rfl) (by rfl) (fun w => Only.refl none_ w) (fun x w0 hS hk => ?_) ?_); rotate_left; (· (have hk2 := hk; (try simp [knAll, Region.binds] at hk2); skip; go_simp; try (with_reducible rfl))); try simp only [List.nil_append, List.cons_append])
  ((first | refine fr_value (c := ?_) (by rfl) (fun w => Only.refl none_ w) (fun x w0 hS hk => ?_) ?_ | refine fr_value_if (c := ?_) (by rfl) (by rfl) (by rfl) (fun w => Only.refl none_ w) (fun x w0 hS hk => ?_) ?_); rotate_left; (· (have hk2 := hk; (try simp [knAll, Region.binds] at hk2); skip; go_simp; try (with_reducible rfl))); try simp only [List.nil_append, List.cons_append])
  ((first | refine fr_some (Ln (vkn s)) (fun _ _ _ _ _ r h => h.keep r) (by rfl) (fun x w0 hS hk => ?_) ?_ | refine fr_some_if (Ln (vkn s)) (fun _ _ _ _ _ r h => h.keep r) (by rfl) (by rfl) (by rfl) (fun x w0 hS hk => ?_) ?_); (· (have hk2 := hk; (try simp [knAll, Region.binds] at hk2); skip; refine got_call (f := 19) (args := ?_) (by go_simp; try (with_reducible rfl)) ?_; refine (vs_known B d s vA vP dd vd zs _ (HV.out.keep hS)).mono ?_; rintro E w8 ⟨v8, rfl, ow8, o8⟩; exact ⟨v8, rfl, Ln.own ow8, hS.trans o8, o8⟩)); try simp only [List.nil_append, List.cons_append])
  ((first | refine fr_value (c := .agg (drow s)) (by rfl) (fun w => Only.refl none_ w) (fun x w0 hS hk => ?_) ?_ | refine fr_value_if (c := .agg (drow s)) (by rfl) (by rfl) (by rfl) (fun w => Only.refl none_ w) (fun x w0 hS hk => ?_) ?_); (· (exact exec_rowd 31 _ rfl b0 rfl 31 (drow s) _ (BX.out.only hS (fun h => h)) Try.underlying31 rfl (by kernel_rfl))); try simp only [List.nil_append, List.cons_append])
  ((first | refine fr_some (Ln (vkn s)) (fun _ _ _ _ _ r h => h.keep r) (by rfl) (fun x w0 hS hk => ?_) ?_ | refine fr_some_if (Ln (vkn s)) (fun _ _ _ _ _ r h => h.keep r) (by rfl) (by rfl) (by rfl) (fun x w0 hS hk => ?_) ?_); (· (have hk2 := hk; (try simp [knAll, Region.binds] at hk2); skip; refine got_call (f := 31) (args := ?_) (by go_simp; try (with_reducible rfl)) ?_; refine (rv_known s HV.out.ok _).mono ?_; rintro E w8 ⟨A8, c8, rfl, nm8, o8⟩; exact ⟨_, rfl, ⟨_, _, rfl, nm8.mono (fun _ _ _ => trivial)⟩, hS.trans o8, o8⟩)); try simp only [List.nil_append, List.cons_append])
  ((first | refine fr_some (fun v _ => v = .bool true) (fun _ _ _ _ _ _ h => h) (by rfl) (fun x w0 hS hk => ?_) ?_ | refine fr_some_if (fun v _ => v = .bool true) (fun _ _ _ _ _ _ h => h) (by rfl) (by rfl) (by rfl) (fun x w0 hS hk => ?_) ?_); (· (have hk2 := hk; (try simp [knAll, Region.binds] at hk2); obtain ⟨A1, c1, e1, n1⟩ := kn_at (j := 16) (by rfl) hk (by rfl); obtain ⟨A2, c2, e2, n2⟩ := kn_at (j := 18) (by rfl) hk (by rfl); rw [e1] at n1; rw [e2] at n2; simp only [e1, e2]; refine got_call (f := 29) (args := ?_) (by go_simp; try (with_reducible rfl)) ?_; refine (rf_same _ _ (vkn s) (vkn s) _ _ _ n1 n2).mono ?_; rintro E w8 ⟨rfl, o8⟩; exact ⟨_, rfl, by rw [decide_eq_true rfl], hS.trans o8, o8⟩)); try simp only [List.nil_append, List.cons_append])
  ((first | refine fr_value (c := ?_) (by rfl) (fun w => Only.refl none_ w) (fun x w0 hS hk => ?_) ?_ | refine fr_value_if (c := ?_) (by rfl) (by rfl) (by rfl) (fun w => Only.refl none_ w) (fun x w0 hS hk => ?_) ?_); rotate_left; (· (have hk2 := hk; (try simp [knAll, Region.binds] at hk2); skip; go_simp; try (with_reducible rfl))); try simp only [List.nil_append, List.cons_append])
  ((first | refine fr_value (c := ?_) (by rfl) (fun w => Only.refl none_ w) (fun x w0 hS hk => ?_) ?_ | refine fr_value_if (c := ?_) (by rfl) (by rfl) (by rfl) (fun w => Only.refl none_ w) (fun x w0 hS hk => ?_) ?_); rotate_left; (· (have hk2 := hk; (try simp [knAll, Region.binds] at hk2); skip; go_simp; try (with_reducible rfl))); try simp only [List.nil_append, List.cons_append])
  ((first | refine fr_value (c := ?_) (by rfl) (fun w => Only.refl none_ w) (fun x w0 hS hk => ?_) ?_ | refine fr_value_if (c := ?_) (by rfl) (by rfl) (by rfl) (fun w => Only.refl none_ w) (fun x w0 hS hk => ?_) ?_); rotate_left; (· (have hk2 := hk; (try simp [knAll, Region.binds] at hk2); skip; go_simp; try (with_reducible rfl))); try simp only [List.nil_append, List.cons_append])
  ((first | refine fr_some (fun v _ => v = .bool bf) (fun _ _ _ _ _ _ h => h) (by rfl) (fun x w0 hS hk => ?_) ?_ | refine fr_some_if (fun v _ => v = .bool bf) (fun _ _ _ _ _ _ h => h) (by rfl) (by rfl) (by rfl) (fun x w0 hS hk => ?_) ?_); (· (have hk2 := hk; (try simp [knAll, Region.binds] at hk2); skip; refine got_call (f := 22) (args := ?_) (by go_simp; try (with_reducible rfl)) ?_; refine (HFA.out _ hS).mono ?_; rintro E w8 ⟨rfl, o8⟩; exact ⟨_, rfl, rfl, hS.trans o8, o8⟩)); try simp only [List.nil_append, List.cons_append])
  ((first | refine fr_value (c := .agg (drow s)) (by rfl) (fun w => Only.refl none_ w) (fun x w0 hS hk => ?_) ?_ | refine fr_value_if (c := .agg (drow s)) (by rfl) (by rfl) (by rfl) (fun w => Only.refl none_ w) (fun x w0 hS hk => ?_) ?_); (· (exact exec_rowd 31 _ rfl b0 rfl 31 (drow s) _ (BX.out.only hS (fun h => h)) Try.underlying31 rfl (by kernel_rfl))); try simp only [List.nil_append, List.cons_append])
  ((first | refine fr_some (fun v _ => v = .bool bf) (fun _ _ _ _ _ _ h => h) (by rfl) (fun x w0 hS hk => ?_) ?_ | refine fr_some_if (fun v _ => v = .bool bf) (fun _ _ _ _ _ _ h => h) (by rfl) (by rfl) (by rfl) (fun x w0 hS hk => ?_) ?_); (· (have hk2 := hk; (try simp [knAll, Region.binds] at hk2); skip; refine got_call (f := 32) (args := ?_) (by go_simp; try (with_reducible rfl)) ?_; refine (HFR.out _).mono ?_; rintro E w8 ⟨rfl, o8⟩; exact ⟨_, rfl, rfl, hS.trans o8, o8⟩)); try simp only [List.nil_append, List.cons_append])
  ((first | refine fr_value (c := ?_) (by rfl) (fun w => Only.refl none_ w) (fun x w0 hS hk => ?_) ?_ | refine fr_value_if (c := ?_) (by rfl) (by rfl) (by rfl) (fun w => Only.refl none_ w) (fun x w0 hS hk => ?_) ?_); rotate_left; (· (have hk2 := hk; (try simp [knAll, Region.binds] at hk2); skip; go_simp; try (with_reducible rfl))); try simp only [List.nil_append, List.cons_append])
  ((first | refine fr_value (c := ?_) (by rfl) (fun w => Only.refl none_ w) (fun x w0 hS hk => ?_) ?_ | refine fr_value_if (c := ?_) (by rfl) (by rfl) (by rfl) (fun w => Only.refl none_ w) (fun x w0 hS hk => ?_) ?_); rotate_left; (· (have hk2 := hk; (try simp [knAll, Region.binds] at hk2); skip; go_simp; try (with_reducible rfl))); try simp only [List.nil_append, List.cons_append])
  ((first | refine fr_value (c := ?_) (by rfl) (fun w => Only.refl none_ w) (fun x w0 hS hk => ?_) ?_ | refine fr_value_if (c := ?_) (by rfl) (by rfl) (by rfl) (fun w => Only.refl none_ w) (fun x w0 hS hk => ?_) ?_); rotate_left; (· (have hk2 := hk; (try simp [knAll, Region.binds] at hk2); skip; go_simp; try (with_reducible rfl))); try simp only [List.nil_append, List.cons_append])
  ((first | refine fr_value (c := ?_) (by rfl) (fun w => Only.refl none_ w) (fun x w0 hS hk => ?_) ?_ | refine fr_value_if (c := ?_) (by rfl) (by rfl) (by rfl) (fun w => Only.refl none_ w) (fun x w0 hS hk => ?_) ?_); rotate_left; (· (have hk2 := hk; (try simp [knAll, Region.binds] at hk2); skip; go_simp; try (with_reducible rfl))); try simp only [List.nil_append, List.cons_append])
  ((first | refine fr_some (fun v _ => v = .int .i64 s.self) (fun _ _ _ _ _ _ h => h) (by rfl) (fun x w0 hS hk => ?_) ?_ | refine fr_some_if (fun v _ => v = .int .i64 s.self) (fun _ _ _ _ _ _ h => h) (by rfl) (by rfl) (by rfl) (fun x w0 hS hk => ?_) ?_); (· (have hk2 := hk; (try simp [knAll, Region.binds] at hk2); skip; refine got_call (f := 33) (args := ?_) (by go_simp; try (with_reducible rfl)) ?_; refine (vs_self B d s vA vP dd vd zs _ (HV.out.keep hS)).mono ?_; rintro E w8 ⟨rfl, rfl⟩; exact ⟨_, rfl, rfl, hS, Only.refl _ _⟩)); try simp only [List.nil_append, List.cons_append])
  ((first | refine fr_value (c := ?_) (by rfl) (fun w => Only.refl none_ w) (fun x w0 hS hk => ?_) ?_ | refine fr_value_if (c := ?_) (by rfl) (by rfl) (by rfl) (fun w => Only.refl none_ w) (fun x w0 hS hk => ?_) ?_); rotate_left; (· (have hk2 := hk; (try simp [knAll, Region.binds] at hk2); skip; go_simp; try (with_reducible rfl))); try simp only [List.nil_append, List.cons_append])
  ((first | refine fr_value (c := ?_) (by rfl) (fun w => Only.refl none_ w) (fun x w0 hS hk => ?_) ?_ | refine fr_value_if (c := ?_) (by rfl) (by rfl) (by rfl) (fun w => Only.refl none_ w) (fun x w0 hS hk => ?_) ?_); rotate_left; (· (have hk2 := hk; (try simp [knAll, Region.binds] at hk2); have q0 : w0.cell? ⟨b0, 0, none⟩ = some (.int .i64 s.self) := (BX.out.only hS (fun h => h)).cell_ (i := 0) rfl; go_simp; try (with_reducible rfl))); try simp only [List.nil_append, List.cons_append])
  ((first | refine fr_value (c := ?_) (by rfl) (fun w => Only.refl none_ w) (fun x w0 hS hk => ?_) ?_ | refine fr_value_if (c := ?_) (by rfl) (by rfl) (by rfl) (fun w => Only.refl none_ w) (fun x w0 hS hk => ?_) ?_); rotate_left; (· (have hk2 := hk; (try simp [knAll, Region.binds] at hk2); skip; go_simp; try (with_reducible rfl))); try simp only [List.nil_append, List.cons_append])
  ((first | refine fr_value (c := ?_) (by rfl) (fun w => Only.refl none_ w) (fun x w0 hS hk => ?_) ?_ | refine fr_value_if (c := ?_) (by rfl) (by rfl) (by rfl) (fun w => Only.refl none_ w) (fun x w0 hS hk => ?_) ?_); rotate_left; (· (have hk2 := hk; (try simp [knAll, Region.binds] at hk2); skip; go_simp; try (with_reducible rfl))); try simp only [List.nil_append, List.cons_append])
  ((first | refine fr_value (c := ?_) (by rfl) (fun w => Only.refl none_ w) (fun x w0 hS hk => ?_) ?_ | refine fr_value_if (c := ?_) (by rfl) (by rfl) (by rfl) (fun w => Only.refl none_ w) (fun x w0 hS hk => ?_) ?_); rotate_left; (· (have hk2 := hk; (try simp [knAll, Region.binds] at hk2); skip; go_simp; try (with_reducible rfl))); try simp only [List.nil_append, List.cons_append])
  (refine fr_end ?_; intro x w9 hS hk)
  have e9 := kn_end_at 35 hk (by rfl)
  rw [Nat.zero_add] at e9
  have HS := Lib.hid hS
  clear hk hS
  rw [e9]
  go_wp2_with fail
  go_ret
  exact ⟨rfl, O1.out.trans HS.out⟩
end Go.Proofs.Ytiigebdmkibnbaa
