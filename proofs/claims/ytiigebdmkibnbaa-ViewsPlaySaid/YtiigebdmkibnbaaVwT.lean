/- What the document's Raise does. No statement of the seat is proved here. -/
import Derived.Test.YtiigebdmkibnbaaVwS
namespace Go.Proofs.Ytiigebdmkibnbaa
open Go.RowKit
set_option linter.all false
set_option maxRecDepth 100000

section
variable (s : Vm) (p : Int) (X : Value) (zs : List Int) (B0 : Nat) (w : World) (h0 : B0 ≤ w.heap.size) (hv : Vok s) (hX : Nm w (fun b => b < B0) X zs)
include h0 hv hX
set_option maxHeartbeats 25600000 in
theorem rv_raise : Calls Try.prog 26 #[.agg (drow s), X, .int .i64 p] w fun e w' => ∃ A n c, e = .returned (.tuple #[.agg (drow (rsV s p zs)), .slice A n c, .int .i64 (rsG s p zs), .bool (rsOk s p)]) ∧ Nm w' (fun b => b < B0) (.slice A n c) (rsZ s p zs) ∧ Only none_ w w' := by
  obtain ⟨w3, hw3⟩ : ∃ x, (w.alloc (.cells (drow s) 31)).alloc (.cells #[.int .i64 0, .bool false, .bool false, .bool false, .bool false, .bool false, .bool false, .bool false, .bool false, .bool false, .bool false, .bool false, .bool false, .bool false, .bool false, .bool false, .bool false, .bool false, .bool false, .bool false, .bool false, .bool false, .bool false, .bool false, .bool false, .int .i64 0, .int .i64 0] 31) = x := ⟨_, rfl⟩
  obtain ⟨b0, hb0⟩ : ∃ x, w.heap.size = x := ⟨_, rfl⟩
  have Z0 : Hid (Dz w b0 (vrw s.self (fb s.act) (fb s.pas) s.a s.p) w3) := by rw [← hw3, ← hb0]; exact Dz.mk0 w _
  have HW3 := Lib.hid hw3
  have HB0 := Lib.hid hb0
  have H0 : Hid (B0 ≤ b0) := by rw [← hb0]; exact h0
  have HX := Lib.hid hX
  obtain ⟨AX, cX, eX⟩ := hX.shape
  subst eX
  obtain ⟨nX, hnX⟩ : ∃ y, zs.length = y := ⟨_, rfl⟩
  rw [hnX] at HX ⊢
  have HV := Lib.hid hv
  have q0 : w3.cell? ⟨b0, 0, none⟩ = some (.int .i64 s.self) := Z0.out.x.cell_ (i := 0) rfl
  have HNO : Hid (rsOk s p = false → drow (rsV s p zs) = drow s ∧ rsZ s p zs = zs ∧ rsG s p zs = -1) := fun hf => by rw [rsV, rsZ, rsG, hf]; exact ⟨rfl, rfl, rfl⟩
  have hu : rsOk s p = (nodeB p && decide (p ≠ s.self) && !decide (p ∈ s.act)) := rfl
  cases hnb : nodeB p with
  | false =>
    have HNB : Hid (nodeB p = false) := hnb
    have hf : rsOk s p = false := by rw [hu, hnb]; rfl
    have HE := Lib.hid (HNO.out hf)
    rw [hf]
    clear hw3 hb0 h0 hX hnX hv hnb hu hf HNO
    go_enter Try.func26, Try.ntmps26
    go_upto_region 1 with fail
    rw [HW3.out, HB0.out]
    have FIN := Lib.hid Z0.out.fin
    go_wp2_with (first
      | (go_at_call 11; refine (rv_node p _).mono ?_; rw [HNB.out]; rintro E w4 ⟨rfl, rfl⟩)
      | (with_reducible refine vq_load rfl 31 _ rfl b0 rfl _ (vrw s.self (fb s.act) (fb s.pas) s.a s.p) _ Z0.out.x Try.underlying31 rfl (by kernel_rfl) ?_)
      | (with_reducible refine vq_store_all rfl 31 _ _ rfl (b0 + 1) (vrw s.self (fb s.act) (fb s.pas) s.a s.p) rfl rfl _ _ Z0.out.z (by kernel_rfl) (by kernel_rfl) vrw_one ?_))
    refine bodyPost_ret (results_cell_tmp3 rfl _ _ (b0 + 1) 31 (vrw s.self (fb s.act) (fb s.pas) s.a s.p) _ rfl FIN.out.1 Try.underlying31 rfl (by kernel_rfl) _ rfl _ rfl _ rfl) rfl ?_
    rw [HE.out.1, HE.out.2.1, HE.out.2.2]
    exact ⟨_, _, _, rfl, HX.out.keep FIN.out.2, FIN.out.2⟩
  | true =>
    have HNB : Hid (nodeB p = true) := hnb
    have hr : 0 ≤ p ∧ p < 12 := by simpa [nodeB] using hnb
    obtain ⟨k, hk⟩ : ∃ k : Nat, (k : Int) = p := ⟨p.toNat, by omega⟩
    have hk12 : k < 12 := by omega
    have hki : (k : Int) < 12 := by omega
    subst hk
    have c0 := Z0.out.x.cell_ (vrw_A (self := s.self) (f := fb s.act) (g := fb s.pas) (a := s.a) (p := s.p) hk12)
    have c1 := Z0.out.x.cell_ (vrw_P (self := s.self) (f := fb s.act) (g := fb s.pas) (a := s.a) (p := s.p) hk12)
    rw [fb_mem] at c0
    cases hse : ((k : Int) == s.self) with
    | true =>
      have hf : rsOk s (k : Int) = false := by rw [hu]; have : (k : Int) = s.self := by simpa using hse
                                               simp [this]
      have HE := Lib.hid (HNO.out hf)
      rw [hf]
      clear hw3 hb0 h0 hX hnX hv hnb hu hf HNO hr c1
      go_enter Try.func26, Try.ntmps26
      go_upto_region 1 with fail
      rw [HW3.out, HB0.out]
      have FIN := Lib.hid Z0.out.fin
      go_wp2_with (first
        | (go_at_call 11; refine (rv_node (k : Int) _).mono ?_; rw [HNB.out]; rintro E w4 ⟨rfl, rfl⟩)
        | (with_reducible refine vq_load rfl 31 _ rfl b0 rfl _ (vrw s.self (fb s.act) (fb s.pas) s.a s.p) _ Z0.out.x Try.underlying31 rfl (by kernel_rfl) ?_)
        | (with_reducible refine vq_store_all rfl 31 _ _ rfl (b0 + 1) (vrw s.self (fb s.act) (fb s.pas) s.a s.p) rfl rfl _ _ Z0.out.z (by kernel_rfl) (by kernel_rfl) vrw_one ?_))
      refine bodyPost_ret (results_cell_tmp3 rfl _ _ (b0 + 1) 31 (vrw s.self (fb s.act) (fb s.pas) s.a s.p) _ rfl FIN.out.1 Try.underlying31 rfl (by kernel_rfl) _ rfl _ rfl _ rfl) rfl ?_
      rw [HE.out.1, HE.out.2.1, HE.out.2.2]
      exact ⟨_, _, _, rfl, HX.out.keep FIN.out.2, FIN.out.2⟩
    | false =>
      have hne : (k : Int) ≠ s.self := by simpa using hse
      cases ha : decide ((k : Int) ∈ s.act) with
      | true =>
        rw [ha] at c0
        have hf : rsOk s (k : Int) = false := by rw [hu, ha]; simp
        have HE := Lib.hid (HNO.out hf)
        rw [hf]
        clear hw3 hb0 h0 hX hnX hv hnb hu hf HNO hr ha hne c1
        go_enter Try.func26, Try.ntmps26
        go_upto_region 1 with fail
        rw [HW3.out, HB0.out]
        have FIN := Lib.hid Z0.out.fin
        go_wp2_with (first
          | (go_at_call 11; refine (rv_node (k : Int) _).mono ?_; rw [HNB.out]; rintro E w4 ⟨rfl, rfl⟩)
          | (with_reducible refine vq_load rfl 31 _ rfl b0 rfl _ (vrw s.self (fb s.act) (fb s.pas) s.a s.p) _ Z0.out.x Try.underlying31 rfl (by kernel_rfl) ?_)
          | (with_reducible refine vq_store_all rfl 31 _ _ rfl (b0 + 1) (vrw s.self (fb s.act) (fb s.pas) s.a s.p) rfl rfl _ _ Z0.out.z (by kernel_rfl) (by kernel_rfl) vrw_one ?_))
        refine bodyPost_ret (results_cell_tmp3 rfl _ _ (b0 + 1) 31 (vrw s.self (fb s.act) (fb s.pas) s.a s.p) _ rfl FIN.out.1 Try.underlying31 rfl (by kernel_rfl) _ rfl _ rfl _ rfl) rfl ?_
        rw [HE.out.1, HE.out.2.1, HE.out.2.2]
        exact ⟨_, _, _, rfl, HX.out.keep FIN.out.2, FIN.out.2⟩
      | false =>
        rw [ha] at c0
        have hf : rsOk s (k : Int) = true := by rw [hu, ha, hnb]; simp [hne]
        have hna : (k : Int) ∉ s.act := by simpa using ha
        have f1 := Z0.out.x.frozen (13 + k)
        have Z1 := Lib.hid (Z0.out.setP hk12 hv.up.1)
        have hfu := rv_full s.self s.act (fb (vrm s.pas (k : Int))) s.a s.p hv.ua hv.la
        have e0 : rsG s (k : Int) zs = vputG s.act s.a zs := by rw [rsG, hf]; rfl
        by_cases hl : s.act.length = s.a
        · have hd : decide (s.act.length = s.a) = true := by simpa using hl
          rw [hd] at hfu
          have HFU := Lib.hid hfu
          have hg1 : vputG s.act s.a zs = pkN zs s.act := by rw [vputG, if_pos hl]
          have hgm : pkN zs s.act ∈ s.act := pk_mem (by have := hv.ra.1; omega)
          have hgr := hv.ua.2 _ hgm
          obtain ⟨q, hq⟩ : ∃ q : Nat, (q : Int) = pkN zs s.act := ⟨(pkN zs s.act).toNat, by omega⟩
          have hq12 : q < 12 := by omega
          have hqi : (q : Int) < 12 := by omega
          have hq0 : decide ((0 : Int) ≤ (q : Int)) = true := by rw [decide_eq_true_eq]; omega
          have hqm : (q : Int) ∈ s.act := by rw [hq]; exact hgm
          have hgn : vputG s.act s.a zs ≠ -1 := by rw [hg1]; omega
          obtain ⟨zs1, hz1⟩ : ∃ y, pkL zs s.act = y := ⟨_, rfl⟩
          have hvz : vputZ s.act s.a zs = zs1 := by rw [vputZ, if_pos hl]; exact hz1
          have e2 : vrm s.act (q : Int) = vdel s.act (q : Int) := by rw [vrm, if_pos hqm]
          have hvl : vputL s.act s.a (k : Int) zs = vins (vrm s.act (q : Int)) (k : Int) := by rw [vputL, if_pos hl, ← hq, e2]
          have HE : Hid (drow (rsV s (k : Int) zs) = (vrw s.self (fb (vins (vrm s.act (q : Int)) (k : Int))) (fb (vputL (vrm s.pas (k : Int)) s.p (q : Int) zs1)) s.a s.p) ∧ rsZ s (k : Int) zs = vputZ (vrm s.pas (k : Int)) s.p zs1 ∧ rsG s (k : Int) zs = (q : Int)) := by
            refine ⟨?_, ?_, ?_⟩
            · rw [drow_eq, rsV, if_pos hf, if_neg hgn, hg1, ← hq, hvz, hvl]
            · rw [rsZ, if_pos hf, if_neg hgn, hvz]
            · rw [e0, hg1, hq]
          have HRP : Hid (Rl (vrm s.pas (k : Int)) ∧ (vrm s.pas (k : Int)).length ≤ s.p ∧ (q : Int) ∉ vrm s.pas (k : Int)) := ⟨vrm_rl hv.up _, Nat.le_trans (vrm_len hv.up.1 _) hv.lp, fun e => hv.ds _ hqm ((vrm_mem hv.up.1 _ _).1 e).1⟩
          have hne2 : (!s.act.isEmpty) = true := by
            cases hc : s.act with
            | nil => rw [hc] at hqm; cases hqm
            | cons y l => rfl
          have hle12 := rl_le hv.ua
          have HPK : Hid (∀ w' X Y T, Nm w' (fun b => b < B0) X zs → Nm w' T Y s.act → Calls Try.prog 42 #[X, Y] w' fun e w'' => ∃ A L c, e = .returned (.tuple #[.slice A L c, .int .i64 (q : Int), .bool true]) ∧ Nm w'' (fun b => b < B0) (.slice A L c) zs1 ∧ Only none_ w' w'') := fun w' X Y T h1 h2 => by
            have := rf_pick X Y zs s.act (fun b => b < B0) T w' h1 h2 (by omega)
            rw [← hq, hz1, hne2] at this
            exact this
          rw [hf]
          clear hw3 hb0 h0 hX hnX hv hnb hu hf HNO hr ha hne hna hfu e0 hl hd hg1 hgm hgr hq hqm hgn hz1 hvz e2 hvl hne2 hle12
          go_enter Try.func26, Try.ntmps26
          go_upto_region 1 with fail
          rw [HW3.out, HB0.out]
          go_wp2_with (first
            | (go_at_call 11; refine (rv_node (k : Int) _).mono ?_; rw [HNB.out]; rintro E w4 ⟨rfl, rfl⟩)
            | (with_reducible refine vq_load rfl 31 _ rfl b0 rfl _ (vrw s.self (fb s.act) (fb (vrm s.pas (k : Int))) s.a s.p) _ Z1.out.x Try.underlying31 rfl (by kernel_rfl) ?_)
            | (go_at_call 32; refine (HFU.out _).mono ?_; rintro E w5 ⟨rfl, o5⟩
               have Z5 := Lib.hid (Z1.out.keep o5)
               skip
               clear o5)
            | (with_reducible refine wpl_piece rfl 29 _ rfl b0 1 rfl (varr (fb s.act)) _ (Z5.out.x.piece 1 (varr (fb s.act)) vrw_pieceA) Try.underlying29 rfl (by kernel_rfl) ?_)
            | (go_at_call 30; refine (rv_list s.act HV.out.ua _).mono ?_; rintro E w8 ⟨A8, c8, rfl, n8, o8⟩
               have Z8 := Lib.hid (Z5.out.keep o8)
               have N8 := Lib.hid n8
               clear n8 o8)
            | (go_at_call 42; refine (HPK.out w8 _ _ _ (HX.out.keep Z8.out.ho) N8.out).mono ?_; rintro E w10 ⟨A10, n10, c10, rfl, m10, o10⟩
               have Z10 := Lib.hid (Z8.out.keep o10)
               have Z11 := Lib.hid (Z10.out.setA hq12 HV.out.ua.1)
               have Z12 := Lib.hid (Z11.out.insA hk12 (vrm_up HV.out.ua.1 _))
               have f2 := Z10.out.x.frozen (1 + q)
               have k2 := Z10.out.x.cell_ (vrw_A (self := s.self) (f := fb s.act) (g := fb (vrm s.pas (k : Int))) (a := s.a) (p := s.p) hq12)
               have f3 := Z11.out.x.frozen (1 + k)
               have k3 := Z11.out.x.cell_ (vrw_A (self := s.self) (f := fb (vrm s.act (q : Int))) (g := fb (vrm s.pas (k : Int))) (a := s.a) (p := s.p) hk12)
               have M12 : Hid (Nm ((w10.setCell ⟨b0, 1 + q, none⟩ (.bool false)).setCell ⟨b0, 1 + k, none⟩ (.bool true)) (fun b => b < B0) (.slice A10 n10 c10) zs1) := nm_far m10 H0.out (((Only.refl (one b0) w10).setCell (.inl (show one b0 b0 from rfl)) _).setCell (.inl (show one b0 b0 from rfl)) _) (fun y e => by have e' : y = b0 := e; omega)
               have HS12 : Hid (B0 ≤ ((w10.setCell ⟨b0, 1 + q, none⟩ (.bool false)).setCell ⟨b0, 1 + k, none⟩ (.bool true)).heap.size) := by have h1 := Z12.out.ho.size; have h2 := H0.out; have h3 := HB0.out; rw [Hid]; omega
               clear m10 o10)
            | (with_reducible refine vq_load rfl 31 _ rfl b0 rfl _ (vrw s.self (fb (vins (vrm s.act (q : Int)) (k : Int))) (fb (vrm s.pas (k : Int))) s.a s.p) _ Z12.out.x Try.underlying31 rfl (by kernel_rfl) ?_)
            | (go_at_call 43; refine (rv_aside s.self (fb (vins (vrm s.act (q : Int)) (k : Int))) (vrm s.pas (k : Int)) s.a s.p q _ zs1 B0 _ HS12.out HRP.out.1 HRP.out.2.1 HV.out.rp.1 hq12 HRP.out.2.2 M12.out).mono ?_; rintro E w6 ⟨A6, n6, c6, rfl, m6, o6⟩
               have Z6 := Lib.hid (Z12.out.keep o6)
               have Z7 : Hid (Dz w b0 (vrw s.self (fb (vins (vrm s.act (q : Int)) (k : Int))) (fb (vputL (vrm s.pas (k : Int)) s.p (q : Int) zs1)) s.a s.p) (w6.setRow b0 (vrw s.self (fb (vins (vrm s.act (q : Int)) (k : Int))) (fb (vputL (vrm s.pas (k : Int)) s.p (q : Int) zs1)) s.a s.p))) := Z6.out.row
               have M7 : Hid (Nm (w6.setRow b0 (vrw s.self (fb (vins (vrm s.act (q : Int)) (k : Int))) (fb (vputL (vrm s.pas (k : Int)) s.p (q : Int) zs1)) s.a s.p)) (fun b => b < B0) (.slice A6 n6 c6) (vputZ (vrm s.pas (k : Int)) s.p zs1)) := nm_far m6 H0.out ((Only.refl (one b0) w6).setRow (.inl (show one b0 b0 from rfl)) _) (fun y e => by have e' : y = b0 := e; omega)
               have FIN := Lib.hid Z7.out.fin
               have MF : Hid (Nm ((w6.setRow b0 (vrw s.self (fb (vins (vrm s.act (q : Int)) (k : Int))) (fb (vputL (vrm s.pas (k : Int)) s.p (q : Int) zs1)) s.a s.p)).setRow (b0 + 1) (vrw s.self (fb (vins (vrm s.act (q : Int)) (k : Int))) (fb (vputL (vrm s.pas (k : Int)) s.p (q : Int) zs1)) s.a s.p)) (fun b => b < B0) (.slice A6 n6 c6) (vputZ (vrm s.pas (k : Int)) s.p zs1)) := nm_far M7.out H0.out ((Only.refl (one (b0 + 1)) _).setRow (.inl (show one (b0 + 1) (b0 + 1) from rfl)) _) (fun y e => by have e' : y = b0 + 1 := e; omega)
               clear m6 o6)
            | (with_reducible refine vq_store_all rfl 31 _ _ rfl b0 (vrw s.self (fb (vins (vrm s.act (q : Int)) (k : Int))) (fb (vputL (vrm s.pas (k : Int)) s.p (q : Int) zs1)) s.a s.p) rfl rfl _ _ Z6.out.x (by kernel_rfl) (by kernel_rfl) vrw_one ?_)
            | (with_reducible refine vq_load rfl 31 _ rfl b0 rfl _ (vrw s.self (fb (vins (vrm s.act (q : Int)) (k : Int))) (fb (vputL (vrm s.pas (k : Int)) s.p (q : Int) zs1)) s.a s.p) _ Z7.out.x Try.underlying31 rfl (by kernel_rfl) ?_)
            | (with_reducible refine vq_store_all rfl 31 _ _ rfl (b0 + 1) (vrw s.self (fb (vins (vrm s.act (q : Int)) (k : Int))) (fb (vputL (vrm s.pas (k : Int)) s.p (q : Int) zs1)) s.a s.p) rfl rfl _ _ Z7.out.z (by kernel_rfl) (by kernel_rfl) vrw_one ?_))
          refine bodyPost_ret (results_cell_tmp3 rfl _ _ (b0 + 1) 31 (vrw s.self (fb (vins (vrm s.act (q : Int)) (k : Int))) (fb (vputL (vrm s.pas (k : Int)) s.p (q : Int) zs1)) s.a s.p) _ rfl FIN.out.1 Try.underlying31 rfl (by kernel_rfl) _ rfl _ rfl _ rfl) rfl ?_
          rw [HE.out.1, HE.out.2.1, HE.out.2.2]
          exact ⟨_, _, _, rfl, MF.out, FIN.out.2⟩
        · have hd : decide (s.act.length = s.a) = false := by simpa using hl
          rw [hd] at hfu
          have HFU := Lib.hid hfu
          have hg1 : vputG s.act s.a zs = -1 := by rw [vputG, if_neg hl]
          have HE : Hid (drow (rsV s (k : Int) zs) = (vrw s.self (fb (vins s.act (k : Int))) (fb (vrm s.pas (k : Int))) s.a s.p) ∧ rsZ s (k : Int) zs = zs ∧ rsG s (k : Int) zs = -1) := by
            refine ⟨?_, ?_, ?_⟩
            · rw [drow_eq, rsV, if_pos hf, if_pos hg1, vputL, if_neg hl]
            · rw [rsZ, if_pos hf, if_pos hg1, vputZ, if_neg hl]
            · rw [e0, hg1]
          rw [hf]
          clear hw3 hb0 h0 hX hnX hv hnb hu hf HNO hr ha hne hna hfu e0 hl hd hg1
          go_enter Try.func26, Try.ntmps26
          go_upto_region 1 with fail
          rw [HW3.out, HB0.out]
          go_wp2_with (first
            | (go_at_call 11; refine (rv_node (k : Int) _).mono ?_; rw [HNB.out]; rintro E w4 ⟨rfl, rfl⟩)
            | (with_reducible refine vq_load rfl 31 _ rfl b0 rfl _ (vrw s.self (fb s.act) (fb (vrm s.pas (k : Int))) s.a s.p) _ Z1.out.x Try.underlying31 rfl (by kernel_rfl) ?_)
            | (go_at_call 32; refine (HFU.out _).mono ?_; rintro E w5 ⟨rfl, o5⟩
               have Z5 := Lib.hid (Z1.out.keep o5)
               have Z12 := Lib.hid (Z5.out.insA hk12 HV.out.ua.1)
               have f3 := Z5.out.x.frozen (1 + k)
               have k3 := Z5.out.x.cell_ (vrw_A (self := s.self) (f := fb s.act) (g := fb (vrm s.pas (k : Int))) (a := s.a) (p := s.p) hk12)
               have FIN := Lib.hid Z12.out.fin
               clear o5)
            | (with_reducible refine vq_load rfl 31 _ rfl b0 rfl _ (vrw s.self (fb (vins s.act (k : Int))) (fb (vrm s.pas (k : Int))) s.a s.p) _ Z12.out.x Try.underlying31 rfl (by kernel_rfl) ?_)
            | (with_reducible refine vq_store_all rfl 31 _ _ rfl (b0 + 1) (vrw s.self (fb (vins s.act (k : Int))) (fb (vrm s.pas (k : Int))) s.a s.p) rfl rfl _ _ Z12.out.z (by kernel_rfl) (by kernel_rfl) vrw_one ?_))
          refine bodyPost_ret (results_cell_tmp3 rfl _ _ (b0 + 1) 31 (vrw s.self (fb (vins s.act (k : Int))) (fb (vrm s.pas (k : Int))) s.a s.p) _ rfl FIN.out.1 Try.underlying31 rfl (by kernel_rfl) _ rfl _ rfl _ rfl) rfl ?_
          rw [HE.out.1, HE.out.2.1, HE.out.2.2]
          exact ⟨_, _, _, rfl, HX.out.keep FIN.out.2, FIN.out.2⟩
end
end Go.Proofs.Ytiigebdmkibnbaa
