/- What the document's Aside does. No statement of the seat is proved here. -/
import Derived.Test.YtiigebdmkibnbaaVwQ
import Derived.Deep.Cut
namespace Go.Proofs.Ytiigebdmkibnbaa
open Go.RowKit
set_option linter.all false
set_option maxRecDepth 100000

theorem vq_store_all {P : Program} {ops : Array Oper} {rest : List Oper} {o : Oper} {a : Act} {w : World} {Q : Exit → Act → World → Prop} (hgd : o.guard = none) (ty : TypeId) (x y : Operand) (ho : o.op = .store ty x y)
    (g : Nat) (cells : Array Value) (hx : a.eval x = .pointer (some ⟨g, 0, none⟩)) (hy : a.eval y = .agg cells)
    (t : TypeId) (old : Array Value) (hg : Blk w g t old) (hi : (P.info? ty).map (·.size) = some cells.size)
    (hold : old.size = cells.size) (h1 : cells.all (·.oneCell') = true)
    (h : wpList P ops Q rest (a.put o.dst undef) (w.setRow g cells)) : wpList P ops Q (o :: rest) a w :=
  wpList_store_row hgd ty x y ho g cells hx hy t old hg hi hold h1 h

set_option maxHeartbeats 6400000 in
theorem rv_aside (self : Int) (f : Nat → Bool) (l : List Int) (a p k : Nat) (X : Value) (zs : List Int) (B0 : Nat) (w : World) (h0 : B0 ≤ w.heap.size) (h : Rl l) (hl : l.length ≤ p) (h1p : 1 ≤ p) (hk : k < 12) (hkn : (k : Int) ∉ l) (hX : Nm w (fun b => b < B0) X zs) :
    Calls Try.prog 43 #[.agg (vrw self f (fb l) a p), X, .int .i64 (k : Int)] w fun e w' => ∃ A n c, e = .returned (.tuple #[.agg (vrw self f (fb (vputL l p (k : Int) zs)) a p), .slice A n c]) ∧ Nm w' (fun b => b < B0) (.slice A n c) (vputZ l p zs) ∧ Only none_ w w' := by
  obtain ⟨w3, hw3⟩ : ∃ x, (w.alloc (.cells (vrw self f (fb l) a p) 31)).alloc (.cells #[.int .i64 0, .bool false, .bool false, .bool false, .bool false, .bool false, .bool false, .bool false, .bool false, .bool false, .bool false, .bool false, .bool false, .bool false, .bool false, .bool false, .bool false, .bool false, .bool false, .bool false, .bool false, .bool false, .bool false, .bool false, .bool false, .int .i64 0, .int .i64 0] 31) = x := ⟨_, rfl⟩
  obtain ⟨b0, hb0⟩ : ∃ x, w.heap.size = x := ⟨_, rfl⟩
  have Z0 : Hid (Dz w b0 (vrw self f (fb l) a p) w3) := by rw [← hw3, ← hb0]; exact Dz.mk0 w _
  have HW3 := Lib.hid hw3
  have HB0 := Lib.hid hb0
  have H0 : Hid (B0 ≤ b0) := by rw [← hb0]; exact h0
  have HL := Lib.hid h
  have HX := Lib.hid hX
  obtain ⟨L, hL⟩ : ∃ y, l.length = y := ⟨_, rfl⟩
  have HN := Lib.hid hL
  have hki : (k : Int) < 12 := by omega
  obtain ⟨AX, cX, eX⟩ := hX.shape
  subst eX
  obtain ⟨nX, hnX⟩ : ∃ y, zs.length = y := ⟨_, rfl⟩
  rw [hnX] at HX ⊢
  obtain ⟨b, hb⟩ : ∃ y, decide (L = p) = y := ⟨_, rfl⟩
  have hge : decide ((p : Int) ≤ (L : Int)) = b := by rw [← hb, decide_eq_decide]; omega
  have hge2 : decide (p ≤ L) = b := by rw [← hb, decide_eq_decide]; omega
  have HPL : Hid (b = false → vputL l p (k : Int) zs = vins l (k : Int) ∧ vputZ l p zs = zs) := fun hbf => by
    have : ¬ l.length = p := by rw [hL]; rw [hbf] at hb; simpa using hb
    exact ⟨by rw [vputL, if_neg this], by rw [vputZ, if_neg this]⟩
  have HPF : Hid (b = true → vputL l p (k : Int) zs = vins (vdel l (pkN zs l)) (k : Int) ∧ vputZ l p zs = pkL zs l ∧ pkN zs l ∈ l) := fun hbt => by
    have : l.length = p := by rw [hL]; rw [hbt] at hb; simpa using hb
    exact ⟨by rw [vputL, if_pos this], by rw [vputZ, if_pos this], pk_mem (by omega)⟩
  clear h h0 hl hL hb hX hw3 hb0 hnX
  go_enter Try.func43, Try.ntmps43
  go_upto_region 1 with fail
  rw [HW3.out, HB0.out]
  (refine wp_region_free (fun X => Only none_ w3 X) (Only none_) (F := ?_) (by kernel_rfl) 36 (by rfl) (by kernel_rfl) (fun x => ?_) ((Only.refl none_ w3).drew) ?_; rotate_left; (· (simp only [putsL, Act.put, List.setIfInBounds_toArray, List.set_cons_zero, List.set_cons_succ, Nat.reduceAdd]; exact rfl)))
  ((first | refine fr_value (c := ?_) (by rfl) (fun w => Only.refl none_ w) (fun x w0 hS hk => ?_) ?_ | refine fr_value_if (c := ?_) (by rfl) (by rfl) (by rfl) (fun w => Only.refl none_ w) (fun x w0 hS hk => ?_) ?_); rotate_left; (· (have hk2 := hk; (try simp [knAll, Region.binds] at hk2); skip; go_simp; try (with_reducible rfl))); try simp only [List.nil_append, List.cons_append])
  (refine fr_value (c := .agg (varr (fb l))) (by rfl) (fun w => Only.refl none_ w) (fun x w0 hS hk => exec_piece 29 _ rfl b0 13 (by have hk2 := hk; (try simp [knAll, Region.binds] at hk2); simp [Act.eval, Act.put, hk2]) (varr (fb l)) _ ((Z0.out.keep hS).x.piece 13 (varr (fb l)) vrw_pieceP) Try.underlying29 rfl (by kernel_rfl)) ?_; try simp only [List.nil_append, List.cons_append])
  repeat (first
    | ((first | refine fr_value (c := ?_) (by rfl) (fun w => Only.refl none_ w) (fun x w0 hS hk => ?_) ?_ | refine fr_value_if (c := ?_) (by rfl) (by rfl) (by rfl) (fun w => Only.refl none_ w) (fun x w0 hS hk => ?_) ?_); rotate_left; (· (have hk2 := hk; (try simp [knAll, Region.binds] at hk2); skip; go_simp; try (with_reducible rfl))); try simp only [List.nil_append, List.cons_append])
    | ((first | refine fr_some (fun v _ => ∃ A c, v = .slice A L c) (fun _ _ _ _ _ _ h => h) (by rfl) (fun x w0 hS hk => ?_) ?_ | refine fr_some_if (fun v _ => ∃ A c, v = .slice A L c) (fun _ _ _ _ _ _ h => h) (by rfl) (by rfl) (by rfl) (fun x w0 hS hk => ?_) ?_); (· (have hk2 := hk; (try simp [knAll, Region.binds] at hk2); skip; refine got_call (f := 30) (args := ?_) (by go_simp; try (with_reducible rfl)) ?_; refine (rv_list l HL.out _).mono ?_; rw [HN.out]; rintro E w8 ⟨A8, c8, rfl, _, o8⟩; exact ⟨_, rfl, ⟨_, _, rfl⟩, hS.trans o8, o8⟩)); try simp only [List.nil_append, List.cons_append])
    | ((first | refine fr_value (c := ?_) (by rfl) (fun w => Only.refl none_ w) (fun x w0 hS hk => ?_) ?_ | refine fr_value_if (c := ?_) (by rfl) (by rfl) (by rfl) (fun w => Only.refl none_ w) (fun x w0 hS hk => ?_) ?_); rotate_left; (· (have hk2 := hk; (try simp [knAll, Region.binds] at hk2); obtain ⟨A1, c1, e1⟩ := kn_at (j := 2) (by rfl) hk (by rfl); simp only [e1]; go_simp; try (with_reducible rfl))); try simp only [List.nil_append, List.cons_append])
    | ((first | refine fr_value (c := ?_) (by rfl) (fun w => Only.refl none_ w) (fun x w0 hS hk => ?_) ?_ | refine fr_value_if (c := ?_) (by rfl) (by rfl) (by rfl) (fun w => Only.refl none_ w) (fun x w0 hS hk => ?_) ?_); rotate_left; (· (have hk2 := hk; (try simp [knAll, Region.binds] at hk2); have q26 : w0.cell? ⟨b0, 26, none⟩ = some (.int .i64 (p : Int)) := (Z0.out.keep hS).x.cell_ (i := 26) rfl; go_simp; try (with_reducible rfl))); try simp only [List.nil_append, List.cons_append])
    | ((first | refine fr_value (c := ?_) (by rfl) (fun w => Only.refl none_ w) (fun x w0 hS hk => ?_) ?_ | refine fr_value_if (c := ?_) (by rfl) (by rfl) (by rfl) (fun w => Only.refl none_ w) (fun x w0 hS hk => ?_) ?_); rotate_left; (· (have hk2 := hk; (try simp [knAll, Region.binds] at hk2); have e1 := hge2; have e2 := hge; go_simp; try (with_reducible rfl))); try simp only [List.nil_append, List.cons_append]))
  (refine fr_end ?_; intro x w9 hS hk)
  have e9 := kn_end_at 6 hk (by rfl)
  rw [Nat.zero_add] at e9
  rw [e9]
  have Z4 := Lib.hid (Z0.out.keep hS)
  clear hk e9 hS Z0
  cases b with
  | false =>
    have hpl := (HPL.out rfl)
    have HQ := Lib.hid hpl
    clear hpl HPF HPL
    have hks : k < 12 := by omega
    have U : Hid (upd (fb l) k true = fb (vins l (k : Int))) := fb_ins HL.out.1 k
    have Z5 : Hid (Dz w b0 (vrw self f (upd (fb l) k true) a p) (w9.setCell ⟨b0, 13 + k, none⟩ (.bool true))) := by
      have := Z4.out.set (13 + k) (.bool true)
      rw [vrw_setP hks] at this
      exact this
    have f0 := Z4.out.x.frozen (13 + k)
    have k0 := Z4.out.x.cell_ (vrw_P (self := self) (f := f) (g := fb l) (a := a) (p := p) hks)
    have FIN := Lib.hid Z5.out.fin
    go_wp2_with (first
      | (with_reducible refine vq_load rfl 31 _ rfl b0 rfl _ (vrw self f (upd (fb l) k true) a p) _ Z5.out.x Try.underlying31 rfl (by kernel_rfl) ?_)
      | (with_reducible refine vq_store_all rfl 31 _ _ rfl (b0 + 1) (vrw self f (upd (fb l) k true) a p) rfl rfl _ _ Z5.out.z (by kernel_rfl) (by kernel_rfl) vrw_one ?_))
    refine bodyPost_ret (results_cell_tmp rfl _ _ (b0 + 1) 31 (vrw self f (upd (fb l) k true) a p) _ rfl FIN.out.1 Try.underlying31 rfl (by kernel_rfl) _ rfl) rfl ?_
    rw [HQ.out.1, HQ.out.2, ← U.out]
    exact ⟨_, _, _, rfl, HX.out.keep FIN.out.2, FIN.out.2⟩
  | true =>
    obtain ⟨p1, p2, p3⟩ := HPF.out rfl
    obtain ⟨g, hg⟩ : ∃ y, pkN zs l = y := ⟨_, rfl⟩
    obtain ⟨zs', hzs⟩ : ∃ y, pkL zs l = y := ⟨_, rfl⟩
    rw [hg] at p1 p3
    rw [hzs] at p2
    have hgr := HL.out.2 g p3
    obtain ⟨q, hq⟩ : ∃ q : Nat, (q : Int) = g := ⟨g.toNat, by omega⟩
    have hq12 : q < 12 := by omega
    have hqi : (q : Int) < 12 := by omega
    have hp1 : vputL l p (k : Int) zs = vins (vdel l (q : Int)) (k : Int) := by rw [p1, hq]
    have HQ : Hid (vputL l p (k : Int) zs = vins (vdel l (q : Int)) (k : Int) ∧ vputZ l p zs = zs') := ⟨hp1, p2⟩
    have hrm : vrm l (q : Int) = vdel l (q : Int) := by rw [vrm, if_pos (by rw [hq]; exact p3)]
    have U : Hid (upd (upd (fb l) q false) k true = fb (vins (vdel l (q : Int)) (k : Int))) := by
      rw [Hid, fb_rm HL.out.1 q, hrm, fb_ins (vdel_up HL.out.1 _) k]
    have hle12 := rl_le HL.out
    have hne : (!l.isEmpty) = true := by
      cases l with
      | nil => cases p3
      | cons y l => rfl
    have HPK : Hid (∀ w' X Y T, Nm w' (fun b => b < B0) X zs → Nm w' T Y l → Calls Try.prog 42 #[X, Y] w' fun e w'' => ∃ A L c, e = .returned (.tuple #[.slice A L c, .int .i64 (q : Int), .bool true]) ∧ Nm w'' (fun b => b < B0) (.slice A L c) zs' ∧ Only none_ w' w'') := fun w' X Y T h1 h2 => by
      have := rf_pick X Y zs l (fun b => b < B0) T w' h1 h2 (by omega)
      rw [hg, ← hq, hzs, hne] at this
      exact this
    clear HPL HPF p1 p2 p3 hg hzs hgr hq hp1 hrm hle12 hne
    have hks : k < 12 := by omega
    go_wp2_with (first
      | (with_reducible refine wpl_piece rfl 29 _ rfl b0 13 rfl (varr (fb l)) _ (Z4.out.x.piece 13 (varr (fb l)) vrw_pieceP) Try.underlying29 rfl (by kernel_rfl) ?_)
      | (go_at_call 30; refine (rv_list l HL.out _).mono ?_; rintro E w8 ⟨A8, c8, rfl, n8, o8⟩
         have Z8 := Lib.hid (Z4.out.keep o8)
         have N8 := Lib.hid n8
         clear n8 o8)
      | (go_at_call 42; refine (HPK.out w8 _ _ _ (HX.out.keep Z8.out.ho) N8.out).mono ?_; rintro E w10 ⟨A10, n10, c10, rfl, m10, o10⟩
         have Z10 := Lib.hid (Z8.out.keep o10)
         have M10 := Lib.hid m10
         have Z11 : Hid (Dz w b0 (vrw self f (upd (fb l) q false) a p) (w10.setCell ⟨b0, 13 + q, none⟩ (.bool false))) := by
           have := Z10.out.set (13 + q) (.bool false)
           rw [vrw_setP hq12] at this
           exact this
         have Z12 : Hid (Dz w b0 (vrw self f (upd (upd (fb l) q false) k true) a p) ((w10.setCell ⟨b0, 13 + q, none⟩ (.bool false)).setCell ⟨b0, 13 + k, none⟩ (.bool true))) := by
           have := Z11.out.set (13 + k) (.bool true)
           rw [vrw_setP hks] at this
           exact this
         have f0 := Z10.out.x.frozen (13 + q)
         have k0 := Z10.out.x.cell_ (vrw_P (self := self) (f := f) (g := fb l) (a := a) (p := p) hq12)
         have f1 := Z11.out.x.frozen (13 + k)
         have k1 := Z11.out.x.cell_ (vrw_P (self := self) (f := f) (g := upd (fb l) q false) (a := a) (p := p) hks)
         have FIN := Lib.hid Z12.out.fin
         have MF : Hid (Nm (((w10.setCell ⟨b0, 13 + q, none⟩ (.bool false)).setCell ⟨b0, 13 + k, none⟩ (.bool true)).setRow (b0 + 1) (vrw self f (upd (upd (fb l) q false) k true) a p)) (fun b => b < B0) (.slice A10 n10 c10) zs') := M10.out.only ((((Only.refl (fun y => y = b0 ∨ y = b0 + 1) w10).setCell (.inl (.inl rfl)) _).setCell (.inl (.inl rfl)) _).setRow (.inl (.inr rfl)) _) (fun y hy e => by have := H0.out; rcases e with e | e <;> omega)
         clear m10 o10)
      | (with_reducible refine vq_load rfl 31 _ rfl b0 rfl _ (vrw self f (upd (upd (fb l) q false) k true) a p) _ Z12.out.x Try.underlying31 rfl (by kernel_rfl) ?_)
      | (with_reducible refine vq_store_all rfl 31 _ _ rfl (b0 + 1) (vrw self f (upd (upd (fb l) q false) k true) a p) rfl rfl _ _ Z12.out.z (by kernel_rfl) (by kernel_rfl) vrw_one ?_))
    refine bodyPost_ret (results_cell_tmp rfl _ _ (b0 + 1) 31 (vrw self f (upd (upd (fb l) q false) k true) a p) _ rfl FIN.out.1 Try.underlying31 rfl (by kernel_rfl) _ rfl) rfl ?_
    rw [HQ.out.1, HQ.out.2, ← U.out]
    exact ⟨_, _, _, rfl, MF.out, FIN.out.2⟩
end Go.Proofs.Ytiigebdmkibnbaa
