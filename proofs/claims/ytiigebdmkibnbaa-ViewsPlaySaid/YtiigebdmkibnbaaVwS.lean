/- What the document's Lower, Learn and Raise do. No statement of the seat is proved here. -/
import Derived.Test.YtiigebdmkibnbaaVwR
import Derived.Test.YtiigebdmkibnbaaVwO
namespace Go.Proofs.Ytiigebdmkibnbaa
open Go.RowKit
set_option linter.all false
set_option maxRecDepth 100000

theorem drow_eq (s : Vm) : drow s = (vrw s.self (fb s.act) (fb s.pas) s.a s.p) := rfl
theorem fb_mem {l : List Int} {k : Nat} : fb l k = decide ((k : Int) ∈ l) := rfl
/-- Behind a store at a box. -/
theorem Dz.setA {w X : World} {b k : Nat} {self : Int} {l : List Int} {g : Nat → Bool} {a p : Nat} (h : Dz w b (vrw self (fb l) g a p) X) (hk : k < 12) (hu : l.Pairwise (· < ·)) : Dz w b (vrw self (fb (vrm l (k : Int))) g a p) (X.setCell ⟨b, 1 + k, none⟩ (.bool false)) := by
  have := h.set (1 + k) (.bool false)
  rw [vrw_setA hk, fb_rm hu] at this
  exact this
theorem Dz.insA {w X : World} {b k : Nat} {self : Int} {l : List Int} {g : Nat → Bool} {a p : Nat} (h : Dz w b (vrw self (fb l) g a p) X) (hk : k < 12) (hu : l.Pairwise (· < ·)) : Dz w b (vrw self (fb (vins l (k : Int))) g a p) (X.setCell ⟨b, 1 + k, none⟩ (.bool true)) := by
  have := h.set (1 + k) (.bool true)
  rw [vrw_setA hk, fb_ins hu] at this
  exact this
theorem Dz.setP {w X : World} {b k : Nat} {self : Int} {l : List Int} {f : Nat → Bool} {a p : Nat} (h : Dz w b (vrw self f (fb l) a p) X) (hk : k < 12) (hu : l.Pairwise (· < ·)) : Dz w b (vrw self f (fb (vrm l (k : Int))) a p) (X.setCell ⟨b, 13 + k, none⟩ (.bool false)) := by
  have := h.set (13 + k) (.bool false)
  rw [vrw_setP hk, fb_rm hu] at this
  exact this
theorem nm_far {w w' : World} {B0 b : Nat} {X : Value} {zs : List Int} {S : Nat → Prop} (h : Nm w (fun y => y < B0) X zs) (h0 : B0 ≤ b) (o : Only S w w') (hs : ∀ k, S k → b ≤ k) : Nm w' (fun y => y < B0) X zs :=
  h.only o (fun y hy e => by have := hs y e; omega)
section
variable (s : Vm) (p : Int) (X : Value) (zs : List Int) (B0 : Nat) (w : World) (h0 : B0 ≤ w.heap.size) (hv : Vok s) (hX : Nm w (fun b => b < B0) X zs)
include h0 hv hX
set_option maxHeartbeats 6400000 in
theorem rv_lower : Calls Try.prog 27 #[.agg (drow s), X, .int .i64 p] w fun e w' => ∃ A n c, e = .returned (.tuple #[.agg (drow (loV s p zs)), .slice A n c, .bool (decide (p ∈ s.act))]) ∧ Nm w' (fun b => b < B0) (.slice A n c) (loZ s p zs) ∧ Only none_ w w' := by
  obtain ⟨w3, hw3⟩ : ∃ x, (w.alloc (.cells (drow s) 31)).alloc (.cells #[.int .i64 0, .bool false, .bool false, .bool false, .bool false, .bool false, .bool false, .bool false, .bool false, .bool false, .bool false, .bool false, .bool false, .bool false, .bool false, .bool false, .bool false, .bool false, .bool false, .bool false, .bool false, .bool false, .bool false, .bool false, .bool false, .int .i64 0, .int .i64 0] 31) = x := ⟨_, rfl⟩
  obtain ⟨b0, hb0⟩ : ∃ x, w.heap.size = x := ⟨_, rfl⟩
  have Z0 : Hid (Dz w b0 (vrw s.self (fb s.act) (fb s.pas) s.a s.p) w3) := by rw [← hw3, ← hb0]; exact Dz.mk0 w _
  have HW3 := Lib.hid hw3
  have HB0 := Lib.hid hb0
  have H0 : Hid (B0 ≤ b0) := by rw [← hb0]; exact h0
  have HX := Lib.hid hX
  obtain ⟨AX, cX, eX⟩ := hX.shape
  subst eX
  obtain ⟨nX, hnX⟩ : ∃ y, zs.length = y := ⟨_, rfl⟩
  rw [hnX] at HX ⊢
  have HV := Lib.hid hv
  have q0 : w3.cell? ⟨b0, 0, none⟩ = some (.int .i64 s.self) := Z0.out.x.cell_ (i := 0) rfl
  by_cases hm : p ∈ s.act
  · have hnd := node_of hv.ua hm
    have hr := hv.ua.2 p hm
    obtain ⟨k, hk⟩ : ∃ k : Nat, (k : Int) = p := ⟨p.toNat, by omega⟩
    have hk12 : k < 12 := by omega
    have hki : (k : Int) < 12 := by omega
    have HNB : Hid (nodeB p = true) := hnd
    subst hk
    have e1 : decide ((k : Int) ∈ s.act) = true := by simpa using hm
    have c0 := Z0.out.x.cell_ (vrw_A (self := s.self) (f := fb s.act) (g := fb s.pas) (a := s.a) (p := s.p) hk12)
    rw [fb_mem, e1] at c0
    have f0 := Z0.out.x.frozen (1 + k)
    have Z5 := Lib.hid (Z0.out.setA hk12 hv.ua.1)
    have HP : Hid ((k : Int) ∉ s.pas) := hv.ds _ hm
    have HE : Hid (drow (loV s (k : Int) zs) = vrw s.self (fb (vrm s.act (k : Int))) (fb (vputL s.pas s.p (k : Int) zs)) s.a s.p ∧ loZ s (k : Int) zs = vputZ s.pas s.p zs) := by
      have e2 : vrm s.act (k : Int) = vdel s.act (k : Int) := by rw [vrm, if_pos hm]
      rw [Hid, drow_eq, loV, loZ, if_pos hm, if_pos hm, e2]; exact ⟨rfl, rfl⟩
    have X5 : Hid (Nm (w3.setCell ⟨b0, 1 + k, none⟩ (.bool false)) (fun b => b < B0) (.slice AX nX cX) zs) := HX.out.keep Z5.out.ho
    have HS5 : Hid (B0 ≤ (w3.setCell ⟨b0, 1 + k, none⟩ (.bool false)).heap.size) := by have h1 := Z5.out.ho.size; have h2 := H0.out; have h3 := HB0.out; rw [Hid]; omega
    rw [e1]
    clear hw3 hb0 h0 hX hnX hv hm hnd hr e1
    go_enter Try.func27, Try.ntmps27
    go_upto_region 1 with fail
    rw [HW3.out, HB0.out]
    go_wp2_with (first
      | (go_at_call 11; refine (rv_node (k : Int) _).mono ?_; rw [HNB.out]; rintro E w4 ⟨rfl, rfl⟩)
      | (with_reducible refine vq_load rfl 31 _ rfl b0 rfl _ (vrw s.self (fb (vrm s.act (k : Int))) (fb s.pas) s.a s.p) _ Z5.out.x Try.underlying31 rfl (by kernel_rfl) ?_)
      | (go_at_call 43; refine (rv_aside s.self (fb (vrm s.act (k : Int))) s.pas s.a s.p k _ zs B0 _ HS5.out HV.out.up HV.out.lp HV.out.rp.1 hk12 HP.out X5.out).mono ?_; rintro E w6 ⟨A6, n6, c6, rfl, m6, o6⟩
         have Z6 := Lib.hid (Z5.out.keep o6)
         have Z7 : Hid (Dz w b0 (vrw s.self (fb (vrm s.act (k : Int))) (fb (vputL s.pas s.p (k : Int) zs)) s.a s.p) (w6.setRow b0 (vrw s.self (fb (vrm s.act (k : Int))) (fb (vputL s.pas s.p (k : Int) zs)) s.a s.p))) := Z6.out.row
         have M7 : Hid (Nm (w6.setRow b0 (vrw s.self (fb (vrm s.act (k : Int))) (fb (vputL s.pas s.p (k : Int) zs)) s.a s.p)) (fun b => b < B0) (.slice A6 n6 c6) (vputZ s.pas s.p zs)) := nm_far m6 H0.out ((Only.refl (one b0) w6).setRow (.inl (show one b0 b0 from rfl)) _) (fun y e => by have e' : y = b0 := e; omega)
         have FIN := Lib.hid Z7.out.fin
         have MF : Hid (Nm ((w6.setRow b0 (vrw s.self (fb (vrm s.act (k : Int))) (fb (vputL s.pas s.p (k : Int) zs)) s.a s.p)).setRow (b0 + 1) (vrw s.self (fb (vrm s.act (k : Int))) (fb (vputL s.pas s.p (k : Int) zs)) s.a s.p)) (fun b => b < B0) (.slice A6 n6 c6) (vputZ s.pas s.p zs)) := nm_far M7.out H0.out ((Only.refl (one (b0 + 1)) _).setRow (.inl (show one (b0 + 1) (b0 + 1) from rfl)) _) (fun y e => by have e' : y = b0 + 1 := e; omega)
         clear m6 o6)
      | (with_reducible refine vq_store_all rfl 31 _ _ rfl b0 (vrw s.self (fb (vrm s.act (k : Int))) (fb (vputL s.pas s.p (k : Int) zs)) s.a s.p) rfl rfl _ _ Z6.out.x (by kernel_rfl) (by kernel_rfl) vrw_one ?_)
      | (with_reducible refine vq_load rfl 31 _ rfl b0 rfl _ (vrw s.self (fb (vrm s.act (k : Int))) (fb (vputL s.pas s.p (k : Int) zs)) s.a s.p) _ Z7.out.x Try.underlying31 rfl (by kernel_rfl) ?_)
      | (with_reducible refine vq_store_all rfl 31 _ _ rfl (b0 + 1) (vrw s.self (fb (vrm s.act (k : Int))) (fb (vputL s.pas s.p (k : Int) zs)) s.a s.p) rfl rfl _ _ Z7.out.z (by kernel_rfl) (by kernel_rfl) vrw_one ?_))
    refine bodyPost_ret (results_cell_tmp2 rfl _ _ (b0 + 1) 31 (vrw s.self (fb (vrm s.act (k : Int))) (fb (vputL s.pas s.p (k : Int) zs)) s.a s.p) _ rfl FIN.out.1 Try.underlying31 rfl (by kernel_rfl) _ rfl _ rfl) rfl ?_
    rw [HE.out.1, HE.out.2]
    exact ⟨_, _, _, rfl, MF.out, FIN.out.2⟩
  · have e1 : decide (p ∈ s.act) = false := by simpa using hm
    have HE : Hid (drow (loV s p zs) = drow s ∧ loZ s p zs = zs) := by rw [Hid, loV, loZ, if_neg hm, if_neg hm]; exact ⟨rfl, rfl⟩
    rw [e1]
    cases hnb : nodeB p with
    | false =>
      have HNB : Hid (nodeB p = false) := hnb
      clear hw3 hb0 h0 hX hnX hv hm hnb e1
      go_enter Try.func27, Try.ntmps27
      go_upto_region 1 with fail
      rw [HW3.out, HB0.out]
      have FIN := Lib.hid Z0.out.fin
      go_wp2_with (first
        | (go_at_call 11; refine (rv_node p _).mono ?_; rw [HNB.out]; rintro E w4 ⟨rfl, rfl⟩)
        | (with_reducible refine vq_load rfl 31 _ rfl b0 rfl _ (vrw s.self (fb s.act) (fb s.pas) s.a s.p) _ Z0.out.x Try.underlying31 rfl (by kernel_rfl) ?_)
        | (with_reducible refine vq_store_all rfl 31 _ _ rfl (b0 + 1) (vrw s.self (fb s.act) (fb s.pas) s.a s.p) rfl rfl _ _ Z0.out.z (by kernel_rfl) (by kernel_rfl) vrw_one ?_))
      refine bodyPost_ret (results_cell_tmp2 rfl _ _ (b0 + 1) 31 (vrw s.self (fb s.act) (fb s.pas) s.a s.p) _ rfl FIN.out.1 Try.underlying31 rfl (by kernel_rfl) _ rfl _ rfl) rfl ?_
      rw [HE.out.1, HE.out.2]
      exact ⟨_, _, _, rfl, HX.out.keep FIN.out.2, FIN.out.2⟩
    | true =>
      have HNB : Hid (nodeB p = true) := hnb
      have hr : 0 ≤ p ∧ p < 12 := by simpa [nodeB] using hnb
      obtain ⟨k, hk⟩ : ∃ k : Nat, (k : Int) = p := ⟨p.toNat, by omega⟩
      have hk12 : k < 12 := by omega
      have hki : (k : Int) < 12 := by omega
      subst hk
      have c0 := Z0.out.x.cell_ (vrw_A (self := s.self) (f := fb s.act) (g := fb s.pas) (a := s.a) (p := s.p) hk12)
      rw [fb_mem, e1] at c0
      clear hw3 hb0 h0 hX hnX hv hm hnb e1 hr
      go_enter Try.func27, Try.ntmps27
      go_upto_region 1 with fail
      rw [HW3.out, HB0.out]
      have FIN := Lib.hid Z0.out.fin
      go_wp2_with (first
        | (go_at_call 11; refine (rv_node (k : Int) _).mono ?_; rw [HNB.out]; rintro E w4 ⟨rfl, rfl⟩)
        | (with_reducible refine vq_load rfl 31 _ rfl b0 rfl _ (vrw s.self (fb s.act) (fb s.pas) s.a s.p) _ Z0.out.x Try.underlying31 rfl (by kernel_rfl) ?_)
        | (with_reducible refine vq_store_all rfl 31 _ _ rfl (b0 + 1) (vrw s.self (fb s.act) (fb s.pas) s.a s.p) rfl rfl _ _ Z0.out.z (by kernel_rfl) (by kernel_rfl) vrw_one ?_))
      refine bodyPost_ret (results_cell_tmp2 rfl _ _ (b0 + 1) 31 (vrw s.self (fb s.act) (fb s.pas) s.a s.p) _ rfl FIN.out.1 Try.underlying31 rfl (by kernel_rfl) _ rfl _ rfl) rfl ?_
      rw [HE.out.1, HE.out.2]
      exact ⟨_, _, _, rfl, HX.out.keep FIN.out.2, FIN.out.2⟩
set_option maxHeartbeats 12800000 in
theorem rv_learn : Calls Try.prog 28 #[.agg (drow s), X, .int .i64 p] w fun e w' => ∃ A n c, e = .returned (.tuple #[.agg (drow (leV s p zs)), .slice A n c, .bool (leOk s p)]) ∧ Nm w' (fun b => b < B0) (.slice A n c) (leZ s p zs) ∧ Only none_ w w' := by
  obtain ⟨w3, hw3⟩ : ∃ x, (w.alloc (.cells (drow s) 31)).alloc (.cells #[.int .i64 0, .bool false, .bool false, .bool false, .bool false, .bool false, .bool false, .bool false, .bool false, .bool false, .bool false, .bool false, .bool false, .bool false, .bool false, .bool false, .bool false, .bool false, .bool false, .bool false, .bool false, .bool false, .bool false, .bool false, .bool false, .int .i64 0, .int .i64 0] 31) = x := ⟨_, rfl⟩
  obtain ⟨b0, hb0⟩ : ∃ x, w.heap.size = x := ⟨_, rfl⟩
  have Z0 : Hid (Dz w b0 (vrw s.self (fb s.act) (fb s.pas) s.a s.p) w3) := by rw [← hw3, ← hb0]; exact Dz.mk0 w _
  have HW3 := Lib.hid hw3
  have HB0 := Lib.hid hb0
  have H0 : Hid (B0 ≤ b0) := by rw [← hb0]; exact h0
  have HX := Lib.hid hX
  obtain ⟨AX, cX, eX⟩ := hX.shape
  subst eX
  obtain ⟨nX, hnX⟩ : ∃ y, zs.length = y := ⟨_, rfl⟩
  rw [hnX] at HX ⊢
  have HV := Lib.hid hv
  have q0 : w3.cell? ⟨b0, 0, none⟩ = some (.int .i64 s.self) := Z0.out.x.cell_ (i := 0) rfl
  have HNO : Hid (leOk s p = false → drow (leV s p zs) = drow s ∧ leZ s p zs = zs) := fun hf => by rw [leV, leZ, hf]; exact ⟨rfl, rfl⟩
  have hu : leOk s p = (nodeB p && decide (p ≠ s.self) && !decide (p ∈ s.act) && !decide (p ∈ s.pas)) := rfl
  cases hnb : nodeB p with
  | false =>
    have HNB : Hid (nodeB p = false) := hnb
    have hf : leOk s p = false := by rw [hu, hnb]; rfl
    have HE := Lib.hid (HNO.out hf)
    rw [hf]
    clear hw3 hb0 h0 hX hnX hv hnb hu hf HNO
    go_enter Try.func28, Try.ntmps28
    go_upto_region 1 with fail
    rw [HW3.out, HB0.out]
    have FIN := Lib.hid Z0.out.fin
    go_wp2_with (first
      | (go_at_call 11; refine (rv_node p _).mono ?_; rw [HNB.out]; rintro E w4 ⟨rfl, rfl⟩)
      | (with_reducible refine vq_load rfl 31 _ rfl b0 rfl _ (vrw s.self (fb s.act) (fb s.pas) s.a s.p) _ Z0.out.x Try.underlying31 rfl (by kernel_rfl) ?_)
      | (with_reducible refine vq_store_all rfl 31 _ _ rfl (b0 + 1) (vrw s.self (fb s.act) (fb s.pas) s.a s.p) rfl rfl _ _ Z0.out.z (by kernel_rfl) (by kernel_rfl) vrw_one ?_))
    refine bodyPost_ret (results_cell_tmp2 rfl _ _ (b0 + 1) 31 (vrw s.self (fb s.act) (fb s.pas) s.a s.p) _ rfl FIN.out.1 Try.underlying31 rfl (by kernel_rfl) _ rfl _ rfl) rfl ?_
    rw [HE.out.1, HE.out.2]
    exact ⟨_, _, _, rfl, HX.out.keep FIN.out.2, FIN.out.2⟩
  | true =>
    have HNB : Hid (nodeB p = true) := hnb
    have hr : 0 ≤ p ∧ p < 12 := by simpa [nodeB] using hnb
    obtain ⟨k, hk⟩ : ∃ k : Nat, (k : Int) = p := ⟨p.toNat, by omega⟩
    have hk12 : k < 12 := by omega
    have hki : (k : Int) < 12 := by omega
    subst hk
    have c0 := Z0.out.x.cell_ (vrw_A (self := s.self) (f := fb s.act) (g := fb s.pas) (a := s.a) (p := s.p) hk12)
    have c1 := Z0.out.x.cell_ (vrw_P (self := s.self) (f := fb s.act) (g := fb s.pas) (a := s.a) (p := s.p) hk12)
    rw [fb_mem] at c0 c1
    cases hse : ((k : Int) == s.self) with
    | true =>
      have hf : leOk s (k : Int) = false := by rw [hu]; have : (k : Int) = s.self := by simpa using hse
                                               simp [this]
      have HE := Lib.hid (HNO.out hf)
      rw [hf]
      clear hw3 hb0 h0 hX hnX hv hnb hu hf HNO hr
      go_enter Try.func28, Try.ntmps28
      go_upto_region 1 with fail
      rw [HW3.out, HB0.out]
      have FIN := Lib.hid Z0.out.fin
      go_wp2_with (first
        | (go_at_call 11; refine (rv_node (k : Int) _).mono ?_; rw [HNB.out]; rintro E w4 ⟨rfl, rfl⟩)
        | (with_reducible refine vq_load rfl 31 _ rfl b0 rfl _ (vrw s.self (fb s.act) (fb s.pas) s.a s.p) _ Z0.out.x Try.underlying31 rfl (by kernel_rfl) ?_)
        | (with_reducible refine vq_store_all rfl 31 _ _ rfl (b0 + 1) (vrw s.self (fb s.act) (fb s.pas) s.a s.p) rfl rfl _ _ Z0.out.z (by kernel_rfl) (by kernel_rfl) vrw_one ?_))
      refine bodyPost_ret (results_cell_tmp2 rfl _ _ (b0 + 1) 31 (vrw s.self (fb s.act) (fb s.pas) s.a s.p) _ rfl FIN.out.1 Try.underlying31 rfl (by kernel_rfl) _ rfl _ rfl) rfl ?_
      rw [HE.out.1, HE.out.2]
      exact ⟨_, _, _, rfl, HX.out.keep FIN.out.2, FIN.out.2⟩
    | false =>
      have hne : (k : Int) ≠ s.self := by simpa using hse
      cases ha : decide ((k : Int) ∈ s.act) with
      | true =>
        rw [ha] at c0
        have hf : leOk s (k : Int) = false := by rw [hu, ha]; simp
        have HE := Lib.hid (HNO.out hf)
        rw [hf]
        clear hw3 hb0 h0 hX hnX hv hnb hu hf HNO hr ha hne c1
        go_enter Try.func28, Try.ntmps28
        go_upto_region 1 with fail
        rw [HW3.out, HB0.out]
        have FIN := Lib.hid Z0.out.fin
        go_wp2_with (first
          | (go_at_call 11; refine (rv_node (k : Int) _).mono ?_; rw [HNB.out]; rintro E w4 ⟨rfl, rfl⟩)
          | (with_reducible refine vq_load rfl 31 _ rfl b0 rfl _ (vrw s.self (fb s.act) (fb s.pas) s.a s.p) _ Z0.out.x Try.underlying31 rfl (by kernel_rfl) ?_)
          | (with_reducible refine vq_store_all rfl 31 _ _ rfl (b0 + 1) (vrw s.self (fb s.act) (fb s.pas) s.a s.p) rfl rfl _ _ Z0.out.z (by kernel_rfl) (by kernel_rfl) vrw_one ?_))
        refine bodyPost_ret (results_cell_tmp2 rfl _ _ (b0 + 1) 31 (vrw s.self (fb s.act) (fb s.pas) s.a s.p) _ rfl FIN.out.1 Try.underlying31 rfl (by kernel_rfl) _ rfl _ rfl) rfl ?_
        rw [HE.out.1, HE.out.2]
        exact ⟨_, _, _, rfl, HX.out.keep FIN.out.2, FIN.out.2⟩
      | false =>
        rw [ha] at c0
        cases hb : decide ((k : Int) ∈ s.pas) with
        | true =>
          rw [hb] at c1
          have hf : leOk s (k : Int) = false := by rw [hu, hb]; simp
          have HE := Lib.hid (HNO.out hf)
          rw [hf]
          clear hw3 hb0 h0 hX hnX hv hnb hu hf HNO hr ha hb hne
          go_enter Try.func28, Try.ntmps28
          go_upto_region 1 with fail
          rw [HW3.out, HB0.out]
          have FIN := Lib.hid Z0.out.fin
          go_wp2_with (first
            | (go_at_call 11; refine (rv_node (k : Int) _).mono ?_; rw [HNB.out]; rintro E w4 ⟨rfl, rfl⟩)
            | (with_reducible refine vq_load rfl 31 _ rfl b0 rfl _ (vrw s.self (fb s.act) (fb s.pas) s.a s.p) _ Z0.out.x Try.underlying31 rfl (by kernel_rfl) ?_)
            | (with_reducible refine vq_store_all rfl 31 _ _ rfl (b0 + 1) (vrw s.self (fb s.act) (fb s.pas) s.a s.p) rfl rfl _ _ Z0.out.z (by kernel_rfl) (by kernel_rfl) vrw_one ?_))
          refine bodyPost_ret (results_cell_tmp2 rfl _ _ (b0 + 1) 31 (vrw s.self (fb s.act) (fb s.pas) s.a s.p) _ rfl FIN.out.1 Try.underlying31 rfl (by kernel_rfl) _ rfl _ rfl) rfl ?_
          rw [HE.out.1, HE.out.2]
          exact ⟨_, _, _, rfl, HX.out.keep FIN.out.2, FIN.out.2⟩
        | false =>
          rw [hb] at c1
          have hf : leOk s (k : Int) = true := by rw [hu, hb, ha, hnb]; simp [hne]
          have HE : Hid (drow (leV s (k : Int) zs) = (vrw s.self (fb s.act) (fb (vputL s.pas s.p (k : Int) zs)) s.a s.p) ∧ leZ s (k : Int) zs = vputZ s.pas s.p zs) := by rw [Hid, drow_eq, leV, leZ, if_pos hf, if_pos hf]; exact ⟨rfl, rfl⟩
          have HP : Hid ((k : Int) ∉ s.pas) := by rw [Hid]; simpa using hb
          have X5 : Hid (Nm w3 (fun b => b < B0) (.slice AX nX cX) zs) := HX.out.keep Z0.out.ho
          have HS5 : Hid (B0 ≤ w3.heap.size) := by have h1 := Z0.out.ho.size; have h2 := H0.out; have h3 := HB0.out; rw [Hid]; omega
          rw [hf]
          clear hw3 hb0 h0 hX hnX hv hnb hu hf HNO hr ha hb hne
          go_enter Try.func28, Try.ntmps28
          go_upto_region 1 with fail
          rw [HW3.out, HB0.out]
          go_wp2_with (first
            | (go_at_call 11; refine (rv_node (k : Int) _).mono ?_; rw [HNB.out]; rintro E w4 ⟨rfl, rfl⟩)
            | (with_reducible refine vq_load rfl 31 _ rfl b0 rfl _ (vrw s.self (fb s.act) (fb s.pas) s.a s.p) _ Z0.out.x Try.underlying31 rfl (by kernel_rfl) ?_)
            | (go_at_call 43; refine (rv_aside s.self (fb s.act) s.pas s.a s.p k _ zs B0 _ HS5.out HV.out.up HV.out.lp HV.out.rp.1 hk12 HP.out X5.out).mono ?_; rintro E w6 ⟨A6, n6, c6, rfl, m6, o6⟩
               have Z6 := Lib.hid (Z0.out.keep o6)
               have Z7 : Hid (Dz w b0 (vrw s.self (fb s.act) (fb (vputL s.pas s.p (k : Int) zs)) s.a s.p) (w6.setRow b0 (vrw s.self (fb s.act) (fb (vputL s.pas s.p (k : Int) zs)) s.a s.p))) := Z6.out.row
               have M7 : Hid (Nm (w6.setRow b0 (vrw s.self (fb s.act) (fb (vputL s.pas s.p (k : Int) zs)) s.a s.p)) (fun b => b < B0) (.slice A6 n6 c6) (vputZ s.pas s.p zs)) := nm_far m6 H0.out ((Only.refl (one b0) w6).setRow (.inl (show one b0 b0 from rfl)) _) (fun y e => by have e' : y = b0 := e; omega)
               have FIN := Lib.hid Z7.out.fin
               have MF : Hid (Nm ((w6.setRow b0 (vrw s.self (fb s.act) (fb (vputL s.pas s.p (k : Int) zs)) s.a s.p)).setRow (b0 + 1) (vrw s.self (fb s.act) (fb (vputL s.pas s.p (k : Int) zs)) s.a s.p)) (fun b => b < B0) (.slice A6 n6 c6) (vputZ s.pas s.p zs)) := nm_far M7.out H0.out ((Only.refl (one (b0 + 1)) _).setRow (.inl (show one (b0 + 1) (b0 + 1) from rfl)) _) (fun y e => by have e' : y = b0 + 1 := e; omega)
               clear m6 o6)
            | (with_reducible refine vq_store_all rfl 31 _ _ rfl b0 (vrw s.self (fb s.act) (fb (vputL s.pas s.p (k : Int) zs)) s.a s.p) rfl rfl _ _ Z6.out.x (by kernel_rfl) (by kernel_rfl) vrw_one ?_)
            | (with_reducible refine vq_load rfl 31 _ rfl b0 rfl _ (vrw s.self (fb s.act) (fb (vputL s.pas s.p (k : Int) zs)) s.a s.p) _ Z7.out.x Try.underlying31 rfl (by kernel_rfl) ?_)
            | (with_reducible refine vq_store_all rfl 31 _ _ rfl (b0 + 1) (vrw s.self (fb s.act) (fb (vputL s.pas s.p (k : Int) zs)) s.a s.p) rfl rfl _ _ Z7.out.z (by kernel_rfl) (by kernel_rfl) vrw_one ?_))
          refine bodyPost_ret (results_cell_tmp2 rfl _ _ (b0 + 1) 31 (vrw s.self (fb s.act) (fb (vputL s.pas s.p (k : Int) zs)) s.a s.p) _ rfl FIN.out.1 Try.underlying31 rfl (by kernel_rfl) _ rfl _ rfl) rfl ?_
          rw [HE.out.1, HE.out.2]
          exact ⟨_, _, _, rfl, MF.out, FIN.out.2⟩
end
end Go.Proofs.Ytiigebdmkibnbaa
