/- What Raise, Lower and Learn come to. No statement of the seat is proved here. -/
import Derived.Test.YtiigebdmkibnbaaVwF
namespace Go.Proofs.Ytiigebdmkibnbaa
open Go.RowKit
set_option maxRecDepth 100000
set_option linter.all false

section
variable (B d : Nat) (s : Vm) (vA vP : Value) (dd : Nat) (vd : Value) (zs : List Int) (p : Int) (w : World)
theorem VsR.same (h : Vs w B d s vA vP dd vd zs) {w' : World} (o : Only none_ w w') : VsR B d vA vP dd vd s zs w w' := ⟨vA, vP, vd, h.keep o, o.of_none, fun k hk => .inl hk⟩

set_option maxHeartbeats 3200000 in
theorem vs_raise_no (h : Vs w B d s vA vP dd vd zs) (hm : rsOk s p = false) :
    Calls Try.prog 16 #[.pointer (some ⟨d, 0, none⟩), .int .i64 p, .pointer (some ⟨dd, 0, none⟩)] w fun e w' => e = .returned (.tuple #[.int .i64 (rsG s p zs), .bool (rsOk s p)]) ∧ VsR B d vA vP dd vd (rsV s p zs) (rsZ s p zs) w w' := by
  have F : Hid (∀ w', Only none_ w w' → VsR B d vA vP dd vd (rsV s p zs) (rsZ s p zs) w w') := fun w' o => by
    rw [rsV, rsZ, hm]; exact VsR.same B d s vA vP dd vd zs w h o
  have e1 : rsG s p zs = -1 := by rw [rsG, hm]; rfl
  rw [e1, hm]
  have HO := Lib.hid (vs_other B d s vA vP dd vd zs p w h)
  have HA := Lib.hid (vw_has B d 1 _ vA s.act s.a p w h.nwA)
  rw [rsOk] at hm
  cases hb : oth s p with
  | false =>
    rw [hb] at HO
    clear h hm hb e1 HA
    go_enter Try.func16, Try.ntmps16
    go_wp2_with (first
      | (go_at_call 35; refine HO.out.mono ?_; rintro E w1 ⟨rfl, rfl⟩))
    go_ret2
    exact ⟨rfl, F.out _ (Only.refl _ _)⟩
  | true =>
    rw [hb] at HO hm
    have hm2 : decide (p ∈ s.act) = true := by simpa using hm
    rw [hm2] at HA
    clear h hm hb e1 hm2
    go_enter Try.func16, Try.ntmps16
    go_wp2_with (first
      | (go_at_call 35; refine HO.out.mono ?_; rintro E w1 ⟨rfl, rfl⟩)
      | (go_at_call 34; refine HA.out.mono ?_; rintro E w1 ⟨rfl, o1⟩; have O1 := Lib.hid o1; clear o1))
    go_ret2
    exact ⟨rfl, F.out _ O1.out⟩

set_option maxHeartbeats 6400000 in
theorem vs_raise_yes (h : Vs w B d s vA vP dd vd zs) (hB : B ≤ w.heap.size) (hm : rsOk s p = true) :
    Calls Try.prog 16 #[.pointer (some ⟨d, 0, none⟩), .int .i64 p, .pointer (some ⟨dd, 0, none⟩)] w fun e w' => e = .returned (.tuple #[.int .i64 (rsG s p zs), .bool (rsOk s p)]) ∧ VsR B d vA vP dd vd (rsV s p zs) (rsZ s p zs) w w' := by
  have H := Lib.hid h
  have HB := Lib.hid hB
  obtain ⟨k1, k2, k3⟩ := rs_node hm
  obtain ⟨f1, f2, f3, f4, f5⟩ := vput_facts (zs := zs) h.ok.ua k1 k3 h.ok.la h.ok.ra.1
  have v1 := vrm_mem h.ok.up.1 p
  have hds := h.ok.ds
  have hna := h.ok.na
  have hua := h.ok.ua
  have HO := Lib.hid (vs_other B d s vA vP dd vd zs p w h)
  have HA := Lib.hid (vw_has B d 1 _ vA s.act s.a p w h.nwA)
  have hm' := hm
  rw [rsOk, Bool.and_eq_true] at hm'
  rw [hm'.1] at HO
  have hm2 : decide (p ∈ s.act) = false := by simpa using k3
  rw [hm2] at HA
  have e0 : rsG s p zs = vputG s.act s.a zs := by rw [rsG, hm]; rfl
  have HV : Hid (vputG s.act s.a zs = -1 → rsV s p zs = { s with pas := vrm s.pas p, act := vputL s.act s.a p zs } ∧ rsZ s p zs = vputZ s.act s.a zs) := fun hg => by
    rw [rsV, rsZ, if_pos hm, if_pos hm, if_pos hg, if_pos hg]; exact ⟨rfl, rfl⟩
  have HW : Hid (vputG s.act s.a zs ≠ -1 → rsV s p zs = { s with act := vputL s.act s.a p zs, pas := vputL (vrm s.pas p) s.p (vputG s.act s.a zs) (vputZ s.act s.a zs) } ∧ rsZ s p zs = vputZ (vrm s.pas p) s.p (vputZ s.act s.a zs)) := fun hg => by
    rw [rsV, rsZ, if_pos hm, if_pos hm, if_neg hg, if_neg hg]; exact ⟨rfl, rfl⟩
  rw [e0, hm]
  have HP1 : Hid (nodeB p = true ∧ p ∉ vrm s.pas p ∧ p ∉ s.act ∧ p ≠ s.self) := ⟨k1, fun e => ((v1 p).1 e).2 rfl, k3, k2⟩
  have HP2 : Hid (vputG s.act s.a zs ≠ -1 → nodeB (vputG s.act s.a zs) = true ∧ vputG s.act s.a zs ∉ vrm s.pas p ∧ vputG s.act s.a zs ∉ vputL s.act s.a p zs ∧ vputG s.act s.a zs ≠ s.self) := fun hg => by
    have hfull : s.act.length = s.a := by
      rcases Nat.decEq s.act.length s.a with h1 | h1
      · exact absurd (f4.2 h1) hg
      · exact h1
    have gm := f5 hfull
    refine ⟨node_of hua gm, fun e => hds _ gm ((v1 _).1 e).1, fun e => ?_, fun e => hna (e ▸ gm)⟩
    rcases (f3 _).1 e with h1 | h1
    · exact h1.2 rfl
    · exact k3 (h1 ▸ gm)
  obtain ⟨g, hg⟩ : ∃ g, vputG s.act s.a zs = g := ⟨_, rfl⟩
  rw [hg] at HV HW HP2 ⊢
  have HG := Lib.hid hg
  clear h hB hm hm' hm2 e0 k1 k2 k3 f1 f2 f3 f4 f5 v1 hds hna hua hg
  have tok1 : True := trivial
  cases hgb : (g == -1) with
  | true =>
    have hg1 : g = -1 := by simpa using hgb
    subst hg1
    clear hgb
    go_enter Try.func16, Try.ntmps16
    go_wp2_with (first
      | (go_at_call 35; refine HO.out.mono ?_; rintro E w1 ⟨rfl, rfl⟩)
      | (go_at_call 34; refine HA.out.mono ?_; rintro E w1 ⟨rfl, o1⟩; have H1 : Hid (Vs w1 B d s vA vP dd vd zs ∧ Only none_ w w1) := ⟨H.out.keep o1, o1⟩; clear o1)
      | (go_at_call 36; refine (vs_dropP B d s vA vP dd vd zs p w1 H1.out.1).mono ?_; rintro E w2 ⟨rfl, vA2, vP2, vd2, s2, o2, m2⟩
         have H2 : Hid (Vs w2 B d { s with pas := vrm s.pas p } vA2 vP2 dd vd2 zs ∧ Only (vsb d vA vP dd vd) w w2 ∧ ∀ k, vsb d vA2 vP2 dd vd2 k → vsb d vA vP dd vd k ∨ w.heap.size ≤ k) := ⟨s2, H1.out.2.of_none.trans o2, fun k hk => by
           rcases m2 k hk with h1 | h1
           · exact .inl h1
           · exact .inr (Nat.le_trans H1.out.2.size h1)⟩
         clear s2 o2 m2)
      | (go_at_call 37; refine (vs_putA B d _ vA2 vP2 dd vd2 zs p w2 H2.out.1 (Nat.le_trans HB.out H2.out.2.1.size) HP1.out.1 HP1.out.2.1 HP1.out.2.2.1 HP1.out.2.2.2).mono ?_; rintro E w3 ⟨rfl, vA3, vP3, vd3, s3, o3, m3⟩
         have H3 := Lib.hid (show _ ∧ _ from ⟨s3, vs_two H2.out.2.1 H2.out.2.2 o3 m3⟩)
         dsimp only
         rw [HG.out]
         clear s3 o3 m3))
    go_ret2
    refine ⟨rfl, ?_⟩
    rw [(HV.out (by simp)).1, (HV.out (by simp)).2]
    exact ⟨vA3, vP3, vd3, H3.out.1, H3.out.2.1, H3.out.2.2⟩
  | false =>
    have hg1 : ¬ g = -1 := by simpa using hgb
    have HN := Lib.hid hg1
    go_enter Try.func16, Try.ntmps16
    go_wp2_with (first
      | (go_at_call 35; refine HO.out.mono ?_; rintro E w1 ⟨rfl, rfl⟩)
      | (go_at_call 34; refine HA.out.mono ?_; rintro E w1 ⟨rfl, o1⟩; have H1 : Hid (Vs w1 B d s vA vP dd vd zs ∧ Only none_ w w1) := ⟨H.out.keep o1, o1⟩; clear o1)
      | (go_at_call 36; refine (vs_dropP B d s vA vP dd vd zs p w1 H1.out.1).mono ?_; rintro E w2 ⟨rfl, vA2, vP2, vd2, s2, o2, m2⟩
         have H2 : Hid (Vs w2 B d { s with pas := vrm s.pas p } vA2 vP2 dd vd2 zs ∧ Only (vsb d vA vP dd vd) w w2 ∧ ∀ k, vsb d vA2 vP2 dd vd2 k → vsb d vA vP dd vd k ∨ w.heap.size ≤ k) := ⟨s2, H1.out.2.of_none.trans o2, fun k hk => by
           rcases m2 k hk with h1 | h1
           · exact .inl h1
           · exact .inr (Nat.le_trans H1.out.2.size h1)⟩
         clear s2 o2 m2)
      | (go_at_call 37; have _t := tok1; clear tok1; refine (vs_putA B d _ vA2 vP2 dd vd2 zs p w2 H2.out.1 (Nat.le_trans HB.out H2.out.2.1.size) HP1.out.1 HP1.out.2.1 HP1.out.2.2.1 HP1.out.2.2.2).mono ?_; rintro E w3 ⟨rfl, vA3, vP3, vd3, s3, o3, m3⟩
         have H3 := Lib.hid (show _ ∧ _ from ⟨s3, vs_two H2.out.2.1 H2.out.2.2 o3 m3⟩)
         dsimp only
         rw [HG.out]
         clear s3 o3 m3)
      | (go_at_call 37; refine (vs_putP B d _ vA3 vP3 dd vd3 _ g w3 H3.out.1 (Nat.le_trans HB.out H3.out.2.1.size) (HP2.out HN.out).1 (HP2.out HN.out).2.1 (HP2.out HN.out).2.2.1 (HP2.out HN.out).2.2.2).mono ?_; rintro E w4 ⟨rfl, vA4, vP4, vd4, s4, o4, m4⟩
         have H4 := Lib.hid (show _ ∧ _ from ⟨s4, vs_two H3.out.2.1 H3.out.2.2 o4 m4⟩)
         clear s4 o4 m4))
    go_ret2
    refine ⟨rfl, ?_⟩
    rw [(HW.out HN.out).1, (HW.out HN.out).2]
    exact ⟨vA4, vP4, vd4, H4.out.1, H4.out.2.1, H4.out.2.2⟩
theorem vs_raise (h : Vs w B d s vA vP dd vd zs) (hB : B ≤ w.heap.size) :
    Calls Try.prog 16 #[.pointer (some ⟨d, 0, none⟩), .int .i64 p, .pointer (some ⟨dd, 0, none⟩)] w fun e w' => e = .returned (.tuple #[.int .i64 (rsG s p zs), .bool (rsOk s p)]) ∧ VsR B d vA vP dd vd (rsV s p zs) (rsZ s p zs) w w' := by
  cases hm : rsOk s p with
  | true => have := vs_raise_yes B d s vA vP dd vd zs p w h hB hm; rwa [hm] at this
  | false => have := vs_raise_no B d s vA vP dd vd zs p w h hm; rwa [hm] at this

set_option maxHeartbeats 6400000 in
theorem vs_lower (h : Vs w B d s vA vP dd vd zs) (hB : B ≤ w.heap.size) :
    Calls Try.prog 17 #[.pointer (some ⟨d, 0, none⟩), .int .i64 p, .pointer (some ⟨dd, 0, none⟩)] w fun e w' => e = .returned (.bool (decide (p ∈ s.act))) ∧ VsR B d vA vP dd vd (loV s p zs) (loZ s p zs) w w' := by
  have HB := Lib.hid hB
  have HD := Lib.hid (vs_dropA B d s vA vP dd vd zs p w h)
  by_cases hm : p ∈ s.act
  · have e1 : decide (p ∈ s.act) = true := by simpa using hm
    have HV : Hid (loV s p zs = { s with act := vrm s.act p, pas := vputL s.pas s.p p zs } ∧ loZ s p zs = vputZ s.pas s.p zs) := by
      have e2 : vrm s.act p = vdel s.act p := by rw [vrm, if_pos hm]
      rw [Hid, loV, loZ, if_pos hm, if_pos hm, e2]; exact ⟨rfl, rfl⟩
    have HP : Hid (nodeB p = true ∧ p ∉ s.pas ∧ p ∉ vrm s.act p ∧ p ≠ s.self) := ⟨node_of h.ok.ua hm, h.ok.ds p hm, fun e => ((vrm_mem h.ok.ua.1 p p).1 e).2 rfl, fun e => h.ok.na (e ▸ hm)⟩
    rw [e1] at HD ⊢
    clear h hB hm e1
    go_enter Try.func17, Try.ntmps17
    go_wp2_with (first
      | (go_at_call 36; refine HD.out.mono ?_; rintro E w2 ⟨rfl, vA2, vP2, vd2, s2, o2, m2⟩
         have H2 := Lib.hid (show _ ∧ _ ∧ _ from ⟨s2, o2, m2⟩)
         clear s2 o2 m2)
      | (go_at_call 37; refine (vs_putP B d _ vA2 vP2 dd vd2 zs p w2 H2.out.1 (Nat.le_trans HB.out H2.out.2.1.size) HP.out.1 HP.out.2.1 HP.out.2.2.1 HP.out.2.2.2).mono ?_; rintro E w3 ⟨rfl, vA3, vP3, vd3, s3, o3, m3⟩
         have H3 := Lib.hid (show _ ∧ _ from ⟨s3, vs_two H2.out.2.1 H2.out.2.2 o3 m3⟩)
         clear s3 o3 m3))
    go_ret
    refine ⟨rfl, ?_⟩
    rw [HV.out.1, HV.out.2]
    exact ⟨vA3, vP3, vd3, H3.out.1, H3.out.2.1, H3.out.2.2⟩
  · have e1 : decide (p ∈ s.act) = false := by simpa using hm
    have HV : Hid (loV s p zs = { s with act := vrm s.act p } ∧ loZ s p zs = zs) := by
      have e2 : vrm s.act p = s.act := by rw [vrm, if_neg hm]
      rw [Hid, loV, loZ, if_neg hm, if_neg hm, e2]; exact ⟨rfl, rfl⟩
    rw [e1] at HD ⊢
    clear h hB hm e1
    go_enter Try.func17, Try.ntmps17
    go_wp2_with (first
      | (go_at_call 36; refine HD.out.mono ?_; rintro E w2 ⟨rfl, vA2, vP2, vd2, s2, o2, m2⟩
         have H2 := Lib.hid (show _ ∧ _ ∧ _ from ⟨s2, o2, m2⟩)
         clear s2 o2 m2))
    go_ret
    refine ⟨rfl, ?_⟩
    rw [HV.out.1, HV.out.2]
    exact ⟨vA2, vP2, vd2, H2.out.1, H2.out.2.1, H2.out.2.2⟩

set_option maxHeartbeats 6400000 in
theorem vs_learn (h : Vs w B d s vA vP dd vd zs) (hB : B ≤ w.heap.size) :
    Calls Try.prog 18 #[.pointer (some ⟨d, 0, none⟩), .int .i64 p, .pointer (some ⟨dd, 0, none⟩)] w fun e w' => e = .returned (.bool (leOk s p)) ∧ VsR B d vA vP dd vd (leV s p zs) (leZ s p zs) w w' := by
  have H := Lib.hid h
  have HB := Lib.hid hB
  have HO := Lib.hid (vs_other B d s vA vP dd vd zs p w h)
  have HA := Lib.hid (vw_has B d 1 _ vA s.act s.a p w h.nwA)
  have F : Hid (leOk s p = false → ∀ w', Only none_ w w' → VsR B d vA vP dd vd (leV s p zs) (leZ s p zs) w w') := fun hm w' o => by
    rw [leV, leZ, hm]; exact VsR.same B d s vA vP dd vd zs w h o
  have hu : leOk s p = (oth s p && !decide (p ∈ s.act) && !decide (p ∈ s.pas)) := rfl
  cases hb : oth s p with
  | false =>
    rw [hb] at HO hu
    have hu2 : leOk s p = false := by simpa using hu
    have F2 := Lib.hid (F.out hu2)
    rw [hu2]
    clear h hB hb hu hu2 F HA
    go_enter Try.func18, Try.ntmps18
    go_wp2_with (first
      | (go_at_call 35; refine HO.out.mono ?_; rintro E w1 ⟨rfl, rfl⟩))
    go_ret
    exact ⟨rfl, F2.out _ (Only.refl _ _)⟩
  | true =>
    rw [hb] at HO hu
    cases hc : decide (p ∈ s.act) with
    | true =>
      rw [hc] at HA hu
      have hu2 : leOk s p = false := by simpa using hu
      have F2 := Lib.hid (F.out hu2)
      rw [hu2]
      clear h hB hb hu hu2 F hc
      go_enter Try.func18, Try.ntmps18
      go_wp2_with (first
        | (go_at_call 35; refine HO.out.mono ?_; rintro E w1 ⟨rfl, rfl⟩)
        | (go_at_call 34; refine HA.out.mono ?_; rintro E w1 ⟨rfl, o1⟩; have O1 := Lib.hid o1; clear o1))
      go_ret
      exact ⟨rfl, F2.out _ O1.out⟩
    | false =>
      have HQ : Hid (∀ w', Vs w' B d s vA vP dd vd zs → Calls Try.prog 34 #[.pointer (some ⟨d, 3, none⟩), .int .i64 p] w' fun e w'' => e = .returned (.bool (decide (p ∈ s.pas))) ∧ Only none_ w' w'') := fun w' h' => vw_has B d 3 _ vP s.pas s.p p w' h'.nwP
      rw [hc] at HA hu
      have tok1 : True := trivial
      cases hd : decide (p ∈ s.pas) with
      | true =>
        rw [hd] at HQ hu
        have hu2 : leOk s p = false := by simpa using hu
        have F2 := Lib.hid (F.out hu2)
        rw [hu2]
        clear h hB hb hu hu2 F hc hd
        go_enter Try.func18, Try.ntmps18
        go_wp2_with (first
          | (go_at_call 35; refine HO.out.mono ?_; rintro E w1 ⟨rfl, rfl⟩)
          | (go_at_call 34; have _t := tok1; clear tok1; refine HA.out.mono ?_; rintro E w1 ⟨rfl, o1⟩; have H1 : Hid (Vs w1 B d s vA vP dd vd zs ∧ Only none_ w w1) := ⟨H.out.keep o1, o1⟩; clear o1)
          | (go_at_call 34; refine (HQ.out _ H1.out.1).mono ?_; rintro E w2 ⟨rfl, o2⟩; have O2 := Lib.hid (H1.out.2.trans o2); clear o2))
        go_ret
        exact ⟨rfl, F2.out _ O2.out⟩
      | false =>
        rw [hd] at HQ hu
        have hu2 : leOk s p = true := by simpa using hu
        obtain ⟨k1, k2, k3, k4⟩ := le_node hu2
        have HP : Hid (nodeB p = true ∧ p ∉ s.pas ∧ p ∉ s.act ∧ p ≠ s.self) := ⟨k1, k4, k3, k2⟩
        have HV : Hid (leV s p zs = { s with pas := vputL s.pas s.p p zs } ∧ leZ s p zs = vputZ s.pas s.p zs) := by
          rw [Hid, leV, leZ, if_pos hu2, if_pos hu2]; exact ⟨rfl, rfl⟩
        rw [hu2]
        clear h hB hb hu hu2 F hc hd k1 k2 k3 k4
        go_enter Try.func18, Try.ntmps18
        go_wp2_with (first
          | (go_at_call 35; refine HO.out.mono ?_; rintro E w1 ⟨rfl, rfl⟩)
          | (go_at_call 34; have _t := tok1; clear tok1; refine HA.out.mono ?_; rintro E w1 ⟨rfl, o1⟩; have H1 : Hid (Vs w1 B d s vA vP dd vd zs ∧ Only none_ w w1) := ⟨H.out.keep o1, o1⟩; clear o1)
          | (go_at_call 34; refine (HQ.out _ H1.out.1).mono ?_; rintro E w2 ⟨rfl, o2⟩; have H2 : Hid (Vs w2 B d s vA vP dd vd zs ∧ Only none_ w w2) := ⟨H1.out.1.keep o2, H1.out.2.trans o2⟩; clear o2)
          | (go_at_call 37; refine (vs_putP B d _ vA vP dd vd zs p w2 H2.out.1 (Nat.le_trans HB.out H2.out.2.size) HP.out.1 HP.out.2.1 HP.out.2.2.1 HP.out.2.2.2).mono ?_; rintro E w3 ⟨rfl, vA3, vP3, vd3, s3, o3, m3⟩
             have H3 := Lib.hid (show _ ∧ _ from ⟨s3, vs_two (H2.out.2.of_none (S := vsb d vA vP dd vd)) (fun k hk => .inl hk) o3 m3⟩)
             clear s3 o3 m3))
        go_ret
        refine ⟨rfl, ?_⟩
        rw [HV.out.1, HV.out.2]
        exact ⟨vA3, vP3, vd3, H3.out.1, H3.out.2.1, H3.out.2.2⟩
end
end Go.Proofs.Ytiigebdmkibnbaa
