/- Texts of mine, one behind the other: GvI, GvK, GvS, RpE, RpF, OctK, OctS. No statement of the seat is proved here. -/
import Derived.Test.YtoohpcomnhfgpaaGreatHs12
import Derived.Test.YtoohpcomnhfgpaaGreatHs8
import Derived.Test.YtoohpcomnhfgpaaGreatHs11
import Derived.Test.YtoohpcomnhfgpaaGreatHs3
section
namespace Go.Proofs.YtoohpcomnhfgpaaGreat
open Go.RowKit
set_option maxRecDepth 100000
set_option linter.all false
set_option maxHeartbeats 12800000 in
theorem gv_bury_yes (B : World) (g tb : Nat) (site t2 : Int) (l : List En) (v : Value) (e : En) (w : World) (h : Gv B g tb site t2 l v w) (hr : l.length < 4096) (ht : takes (enDuty e site) t2 e = true) :
    Calls Tryz.prog 180 #[.pointer (some ⟨g, 0, none⟩), .agg #[.string e.k, .string e.v, .bool e.d, .int .i64 e.s.c, .int .i64 e.s.s, .int .i64 e.a.c, .int .i64 e.a.s, .int .i64 e.p, .int .i64 e.g]] w fun E w' => E = .returned (.bool (buryE (enDuty e site) t2 l e).2) ∧ LeftG B g tb site t2 v w (buryE (enDuty e site) t2 l e).1 w' := by
  have O0 := Lib.hid ((Only.refl none_ w).alloc (.cells #[.string e.k, .string e.v, .bool e.d, .int .i64 e.s.c, .int .i64 e.s.s, .int .i64 e.a.c, .int .i64 e.a.s, .int .i64 e.p, .int .i64 e.g] 82))
  have B0 := Lib.hid (Blk.new w 82 #[.string e.k, .string e.v, .bool e.d, .int .i64 e.s.c, .int .i64 e.s.s, .int .i64 e.a.c, .int .i64 e.a.s, .int .i64 e.p, .int .i64 e.g])
  have H0 := Lib.hid (fun (w' : World) (o : Only none_ w w') => (h.keep o).bk)
  have HE := Lib.hid (fun (w' : World) (o : Only none_ w w') => LeftG.after0 o (LeftG.same (h.keep o)))
  have HCK := Lib.hid (fun (w' : World) => en_check e w')
  have ht' := ht
  simp only [takes, Bool.and_eq_true, decide_eq_true_eq] at ht'
  obtain ⟨⟨hc, hd⟩, hg⟩ := ht'
  have hdd : e.d = true → 1 ≤ e.p ∧ e.p ≤ 4095 := fun hd => by have := cert_of hc hd; omega
  have HDU := Lib.hid (fun (w' : World) => en_duty e site w' hdd)
  rw [hc] at HCK
  rw [bury_is ht]
  rw [hd] at HDU
  obtain ⟨e', he'⟩ : ∃ x, (lookE l e.k).getD enZero = x := ⟨_, rfl⟩
  have HG := Lib.hid (fun (w' : World) (o : Only none_ w w') => sh_get B g tb l v e.k e' he' w' ((h.keep o).sh) ((h.keep o).t))
  generalize hasE l e.k = hs at HG
  rw [he']
  have HJ := Lib.hid (fun (w' : World) => gv_joined e' e w')
  obtain ⟨f, hf⟩ : ∃ x, gvJoin e' e = x := ⟨_, rfl⟩
  rw [hf] at HJ ⊢
  have HP := Lib.hid (fun (w' : World) (o : Only none_ w w') => (sh_put B g tb l v f w' ((h.keep o).sh) ((h.keep o).t) hr).mono (R' := fun E w2 => E = .returned (.tuple #[]) ∧ LeftG B g tb site t2 v w (setE f l) w2) (fun E w2 h2 => ⟨h2.1, LeftG.after0 o (LeftG.of_put (h.keep o) h2.2)⟩))
  have HEQ := Lib.hid (fun (w' : World) => eql_of (eq_api_entry w' f e' 9997))
  have hg1 : decide (e.g < t2) = true := by simpa using hg
  have hg2 : decide (t2 ≤ e.g) = false := by simp; omega
  obtain ⟨r0, hr0⟩ : ∃ r, (if enEq f e' = true then (l, false) else (setE f l, true)) = r := ⟨_, rfl⟩
  rw [hr0]
  have HRR := Lib.hid hr0
  clear h hr ht hc hdd hd he' hf hg hr0
  go_enter Tryz.func180, Tryz.ntmps180
  go_upto_region 1 with fail
  obtain ⟨wa, hwa⟩ : ∃ wa, w.alloc (.cells #[.string e.k, .string e.v, .bool e.d, .int .i64 e.s.c, .int .i64 e.s.s, .int .i64 e.a.c, .int .i64 e.a.s, .int .i64 e.p, .int .i64 e.g] 82) = wa := ⟨_, rfl⟩
  rw [hwa] at B0 O0 ⊢
  (refine wp_region_free (fun w' => Only none_ wa w') (Only none_) (F := ?_) (by kernel_rfl) 49 (by rfl) (by kernel_rfl) (fun x => ?_) ((Only.refl none_ _).drew) ?_; rotate_left; (· (simp only [putsL, Act.put, List.setIfInBounds_toArray, List.set_cons_zero, List.set_cons_succ, Nat.reduceAdd]; exact rfl)))
  repeat (first
    | ((first | refine fr_value (c := ?_) (by rfl) (fun w => Only.refl none_ w) (fun x w0 hS hk => ?_) ?_ | refine fr_value_if (c := ?_) (by rfl) (by rfl) (by rfl) (fun w => Only.refl none_ w) (fun x w0 hS hk => ?_) ?_); rotate_left; (· (have hk2 := hk; (try simp [knAll, Region.binds] at hk2); obtain ⟨t0, t1, t2, t3, t4, t5, t6, t7, t8⟩ := nine_of (B0.out.only hS (fun h => h)); have g3 := (H0.out _ (O0.out.trans hS)).cell_ (i := 3) rfl; have g4 := (H0.out _ (O0.out.trans hS)).cell_ (i := 4) rfl; go_simp; try (with_reducible rfl))); try simp only [List.nil_append, List.cons_append])
    | ((first | refine fr_skip (by rfl) (by rfl) (by rfl) (fun w => Only.refl none_ w) ?_ | refine fr_skip_too (by rfl) (by rfl) (by rfl) (fun w => Only.refl none_ w) ?_); try simp only [List.nil_append, List.cons_append])
    | ((first | refine fr_some (fun v _ => v = .int .i64 0) (fun _ _ _ _ _ _ h => h) (by rfl) (fun x w0 hS hk => ?_) ?_ | refine fr_some_if (fun v _ => v = .int .i64 0) (fun _ _ _ _ _ _ h => h) (by rfl) (by rfl) (by rfl) (fun x w0 hS hk => ?_) ?_); (· (have hk2 := hk; (try simp [knAll, Region.binds] at hk2); skip; refine got_call (f := 83) (args := ?_) (by go_simp; try (with_reducible rfl)) ?_; refine (HCK.out _).mono ?_; rintro E w9 ⟨rfl, o9⟩; exact ⟨_, rfl, rfl, hS.trans o9, o9⟩)); try simp only [List.nil_append, List.cons_append])
    | ((first | refine fr_some (fun v _ => v = .bool true) (fun _ _ _ _ _ _ h => h) (by rfl) (fun x w0 hS hk => ?_) ?_ | refine fr_some_if (fun v _ => v = .bool true) (fun _ _ _ _ _ _ h => h) (by rfl) (by rfl) (by rfl) (fun x w0 hS hk => ?_) ?_); (· (have hk2 := hk; (try simp [knAll, Region.binds] at hk2); skip; refine got_call (f := 224) (args := ?_) (by go_simp; try (with_reducible rfl)) ?_; refine (HDU.out _).mono ?_; rintro E w9 ⟨rfl, o9⟩; exact ⟨_, rfl, rfl, hS.trans o9, o9⟩)); try simp only [List.nil_append, List.cons_append]))
  (refine fr_end ?_; intro x w9 hS hk)
  have e20 := kn_end_at 20 hk (by rfl)
  rw [Nat.zero_add] at e20
  rw [e20]
  have O9 := Lib.hid (O0.out.trans hS)
  have B9 := Lib.hid (B0.out.only hS (fun h => h))
  have hbw : w.heap.size < wa.heap.size := by rw [← hwa, World.size_alloc]; omega
  have HBW := Lib.hid (Nat.lt_of_lt_of_le hbw hS.size)
  clear hk hS e20 B0 O0 hbw HCK HDU hg1 hg2 hwa
  go_upto_region 3 with fail
  go_cut [5, 6] (fun s5 s6 w' => Gk w9 e' hs s5 s6 w')
  case rest =>
    obtain ⟨b, rfl, rfl, hb, B6, o6⟩ := hcut
    have O6 := Lib.hid (O9.out.trans o6)
    have BE := Lib.hid (B9.out.only o6 (fun h => h))
    have BG := Lib.hid B6
    clear o6 B6 O9 B9 HG
    have NB : Hid (w.heap.size < b) := by have := HBW.out; rw [Hid]; omega
    clear HBW hb
    by_cases hq : enEq f e' = true
    · obtain rfl : r0 = (l, false) := by rw [← HRR.out, if_pos hq]
      clear HRR
      rw [hq] at HEQ
      have hqa := HEQ.out
      clear hq HEQ
      go_wp2_with (first
        | (with_reducible refine wpl_load rfl 82 _ rfl b rfl _ #[.string e'.k, .string e'.v, .bool e'.d, .int .i64 e'.s.c, .int .i64 e'.s.s, .int .i64 e'.a.c, .int .i64 e'.a.s, .int .i64 e'.p, .int .i64 e'.g] _ BG.out Tryz.underlying82 rfl (by kernel_rfl) ?_)
        | (with_reducible refine wpl_load rfl 82 _ rfl w.heap.size rfl _ #[.string e.k, .string e.v, .bool e.d, .int .i64 e.s.c, .int .i64 e.s.s, .int .i64 e.a.c, .int .i64 e.a.s, .int .i64 e.p, .int .i64 e.g] _ BE.out Tryz.underlying82 rfl (by kernel_rfl) ?_)
        | (go_at_call 225; refine (HJ.out _).mono ?_; rintro E w7 ⟨rfl, o7⟩
           have O8 := Lib.hid ((O6.out.trans o7).alloc (.cells #[.string f.k, .string f.v, .bool f.d, .int .i64 f.s.c, .int .i64 f.s.s, .int .i64 f.a.c, .int .i64 f.a.s, .int .i64 f.p, .int .i64 f.g] 82))
           have BG8 := Lib.hid ((BG.out.only o7 (fun h => h)).alloc (.cells #[.string f.k, .string f.v, .bool f.d, .int .i64 f.s.c, .int .i64 f.s.s, .int .i64 f.a.c, .int .i64 f.a.s, .int .i64 f.p, .int .i64 f.g] 82))
           have BF8 := Lib.hid (Blk.new w7 82 #[.string f.k, .string f.v, .bool f.d, .int .i64 f.s.c, .int .i64 f.s.s, .int .i64 f.a.c, .int .i64 f.a.s, .int .i64 f.p, .int .i64 f.g])
           clear o7)
        | (with_reducible refine wpl_new rfl rfl 82 rfl _ _ rfl #[.string f.k, .string f.v, .bool f.d, .int .i64 f.s.c, .int .i64 f.s.s, .int .i64 f.a.c, .int .i64 f.a.s, .int .i64 f.p, .int .i64 f.g] rfl rfl (by kernel_rfl) (en_cells_one f) ?_)
        | (with_reducible refine wpl_load rfl 82 _ rfl w7.heap.size rfl _ #[.string f.k, .string f.v, .bool f.d, .int .i64 f.s.c, .int .i64 f.s.s, .int .i64 f.a.c, .int .i64 f.a.s, .int .i64 f.p, .int .i64 f.g] _ BF8.out Tryz.underlying82 rfl (by kernel_rfl) ?_)
        | (with_reducible refine wpl_load rfl 82 _ rfl b rfl _ #[.string e'.k, .string e'.v, .bool e'.d, .int .i64 e'.s.c, .int .i64 e'.s.s, .int .i64 e'.a.c, .int .i64 e'.a.s, .int .i64 e'.p, .int .i64 e'.g] _ BG8.out Tryz.underlying82 rfl (by kernel_rfl) ?_))
      go_ret
      exact ⟨rfl, HE.out _ O8.out⟩
    · obtain rfl : r0 = (setE f l, true) := by rw [← HRR.out, if_neg hq]
      clear HRR
      have hqf : enEq f e' = false := by simpa using hq
      rw [hqf] at HEQ
      have hqa := HEQ.out
      clear hq hqf HEQ
      go_upto_region 7 with (first
        | (with_reducible refine wpl_load rfl 82 _ rfl b rfl _ #[.string e'.k, .string e'.v, .bool e'.d, .int .i64 e'.s.c, .int .i64 e'.s.s, .int .i64 e'.a.c, .int .i64 e'.a.s, .int .i64 e'.p, .int .i64 e'.g] _ BG.out Tryz.underlying82 rfl (by kernel_rfl) ?_)
        | (with_reducible refine wpl_load rfl 82 _ rfl w.heap.size rfl _ #[.string e.k, .string e.v, .bool e.d, .int .i64 e.s.c, .int .i64 e.s.s, .int .i64 e.a.c, .int .i64 e.a.s, .int .i64 e.p, .int .i64 e.g] _ BE.out Tryz.underlying82 rfl (by kernel_rfl) ?_)
        | (go_at_call 225; refine (HJ.out _).mono ?_; rintro E w7 ⟨rfl, o7⟩
           have O8 := Lib.hid ((O6.out.trans o7).alloc (.cells #[.string f.k, .string f.v, .bool f.d, .int .i64 f.s.c, .int .i64 f.s.s, .int .i64 f.a.c, .int .i64 f.a.s, .int .i64 f.p, .int .i64 f.g] 82))
           have BG8 := Lib.hid ((BG.out.only o7 (fun h => h)).alloc (.cells #[.string f.k, .string f.v, .bool f.d, .int .i64 f.s.c, .int .i64 f.s.s, .int .i64 f.a.c, .int .i64 f.a.s, .int .i64 f.p, .int .i64 f.g] 82))
           have BF8 := Lib.hid (Blk.new w7 82 #[.string f.k, .string f.v, .bool f.d, .int .i64 f.s.c, .int .i64 f.s.s, .int .i64 f.a.c, .int .i64 f.a.s, .int .i64 f.p, .int .i64 f.g])
           clear o7)
        | (with_reducible refine wpl_new rfl rfl 82 rfl _ _ rfl #[.string f.k, .string f.v, .bool f.d, .int .i64 f.s.c, .int .i64 f.s.s, .int .i64 f.a.c, .int .i64 f.a.s, .int .i64 f.p, .int .i64 f.g] rfl rfl (by kernel_rfl) (en_cells_one f) ?_)
        | (with_reducible refine wpl_load rfl 82 _ rfl w7.heap.size rfl _ #[.string f.k, .string f.v, .bool f.d, .int .i64 f.s.c, .int .i64 f.s.s, .int .i64 f.a.c, .int .i64 f.a.s, .int .i64 f.p, .int .i64 f.g] _ BF8.out Tryz.underlying82 rfl (by kernel_rfl) ?_)
        | (with_reducible refine wpl_load rfl 82 _ rfl b rfl _ #[.string e'.k, .string e'.v, .bool e'.d, .int .i64 e'.s.c, .int .i64 e'.s.s, .int .i64 e'.a.c, .int .i64 e'.a.s, .int .i64 e'.p, .int .i64 e'.g] _ BG8.out Tryz.underlying82 rfl (by kernel_rfl) ?_))
      generalize w7.alloc (.cells #[.string f.k, .string f.v, .bool f.d, .int .i64 f.s.c, .int .i64 f.s.s, .int .i64 f.a.c, .int .i64 f.a.s, .int .i64 f.p, .int .i64 f.g] 82) = w8 at *
      (refine wp_region_free_tail (fun w' => Only none_ w8 w') (Only none_) (F := ?_) (by kernel_rfl) 4 49 (by rfl) (by kernel_rfl) (fun x => ?_) ((Only.refl none_ w8).drew) ?_; rotate_left; (· (simp only [List.take_succ_cons, List.take_zero, putsL, Act.put, List.setIfInBounds_toArray, List.set_cons_zero, List.set_cons_succ, Nat.reduceAdd]; exact rfl)); simp only [List.take_succ_cons, List.take_zero, List.drop_succ_cons, List.drop_zero])
      repeat (first
        | ((first | refine fr_value (c := ?_) (by rfl) (fun w => Only.refl none_ w) (fun x w0 hS hk => ?_) ?_ | refine fr_value_if (c := ?_) (by rfl) (by rfl) (by rfl) (fun w => Only.refl none_ w) (fun x w0 hS hk => ?_) ?_); rotate_left; (· (have hk2 := hk; (try simp [knAll, Region.binds] at hk2); obtain ⟨t0, t1, t2, t3, t4, t5, t6, t7, t8⟩ := nine_of (BF8.out.only hS (fun h => h)); go_simp; try (with_reducible rfl))); try simp only [List.nil_append, List.cons_append]))
      (refine fr_end ?_; intro x w9 hS hk)
      have e2 := kn_end_at 2 hk (by rfl)
      have e3 := kn_end_at 3 hk (by rfl)
      rw [Nat.zero_add] at e2 e3
      rw [e2, e3]
      have O10 := Lib.hid (O8.out.trans hS)
      clear hk hS e2 e3
      go_wp2_with (first
        | (go_at_call 157; refine (HP.out _ O10.out).mono ?_; rintro E w11 ⟨rfl, hL⟩
           have HL := Lib.hid hL
           clear hL))
      go_ret
      exact ⟨rfl, HL.out⟩
  case first =>
    obtain ⟨t0, t1, t2, t3, t4, t5, t6, t7, t8⟩ := nine_of (Blk.drew B9.out)
    obtain ⟨u0, u1, u2, u3, u4, u5, u6, u7, u8⟩ := nine_of (Blk.drew (B9.out.alloc (.cells #[.string ⟨#[]⟩, .string ⟨#[]⟩, .bool false, .int .i64 0, .int .i64 0, .int .i64 0, .int .i64 0, .int .i64 0, .int .i64 0] 82)))
    have BN := Lib.hid (Blk.drew (Blk.new w9 82 #[.string ⟨#[]⟩, .string ⟨#[]⟩, .bool false, .int .i64 0, .int .i64 0, .int .i64 0, .int .i64 0, .int .i64 0, .int .i64 0]))
    go_region_law (first
      | (refine Se.step_call (by simp [Region.wanted]) 195 #[.pointer (some ⟨g, 0, none⟩), .string e.k] (by go_simp; try (with_reducible rfl)) ?_
         refine (HG.out _ (by first | exact O9.out.drew | exact (O9.out.alloc _).drew)).mono ?_
         rintro E w1 ⟨rfl, o1⟩
         refine ⟨_, rfl, ?_⟩
         have O1 : Hid (Only none_ w9 w1) := by first | exact ((Only.refl none_ w9).drew).trans o1 | exact (((Only.refl none_ w9).alloc _).drew).trans o1
         try (have B1 := Lib.hid (BN.out.only o1 (fun h => h)); have q1 := nine_of B1.out; have z1 := frozen9 B1.out)
         have B2 := Lib.hid (Blk.new w1 82 #[.string ⟨#[]⟩, .string ⟨#[]⟩, .bool false, .int .i64 0, .int .i64 0, .int .i64 0, .int .i64 0, .int .i64 0, .int .i64 0])
         have q2 := nine_of B2.out
         have z2 := frozen9 B2.out
         clear o1))
    all_goals go_wp2_with fail
    all_goals go_meet
    all_goals first
      | exact ⟨_, rfl, rfl, O1.out.size, Blk.new _ _ _, O1.out.alloc _⟩
      | exact Gk.of (x := enZero) O1.out B1.out (Nat.le_refl _)
end Go.Proofs.YtoohpcomnhfgpaaGreat
end
section
namespace Go.Proofs.YtoohpcomnhfgpaaGreat
open Go.RowKit Go.Shelf
set_option maxRecDepth 100000
set_option linter.all false
attribute [local go_sem] Oper.semAt_some
def lftE (t2 : Int) (pre : List (Pr En)) : List En := (pre.map fun p => olderE p.v).filter fun e => decide (e.g < t2)
def gneE (t2 : Int) (pre : List (Pr En)) : List ByteArray := ((pre.map fun p => olderE p.v).filter fun e => !decide (e.g < t2)).map (·.k)
theorem lft_all (t2 : Int) (l : List En) : lftE t2 (prs l) = (tickE t2 l).1 ∧ gneE t2 (prs l) = (tickE t2 l).2 := by
  have : (prs l).map (fun p => olderE p.v) = l.map olderE := by unfold prs; rw [List.map_map]; rfl
  exact ⟨by rw [lftE, this]; rfl, by rw [gneE, this]; rfl⟩
theorem lft_len (t2 : Int) (pre : List (Pr En)) : (lftE t2 pre).length ≤ pre.length := by
  have := List.length_filter_le (fun e : En => decide (e.g < t2)) (pre.map fun p => olderE p.v)
  simpa [lftE] using this
theorem gne_len (t2 : Int) (pre : List (Pr En)) : (gneE t2 pre).length ≤ pre.length := by
  have := List.length_filter_le (fun e : En => !decide (e.g < t2)) (pre.map fun p => olderE p.v)
  simpa [gneE] using this
theorem lft_stay {t2 : Int} {pre : List (Pr En)} {x : Pr En} (h : x.v.g + 1 < t2) (hk : ∀ p ∈ pre, lt_ p.v.k x.v.k = true) : lftE t2 (pre ++ [x]) = setE (olderE x.v) (lftE t2 pre) ∧ gneE t2 (pre ++ [x]) = gneE t2 pre := by
  have h' : (olderE x.v).g < t2 := h
  constructor
  · rw [setE_none]
    · simp [lftE, h']
    · rw [List.any_eq_false]
      intro y hy
      obtain ⟨h1, _⟩ := List.mem_filter.1 hy
      obtain ⟨p, hp, rfl⟩ := List.mem_map.1 h1
      have := hk p hp
      simp [olderE, this]
  · simp [gneE, h']
theorem lft_goes {t2 : Int} {pre : List (Pr En)} {x : Pr En} (h : ¬ x.v.g + 1 < t2) : lftE t2 (pre ++ [x]) = lftE t2 pre ∧ gneE t2 (pre ++ [x]) = gneE t2 pre ++ [x.v.k] := by
  have h' : ¬ (olderE x.v).g < t2 := h
  constructor
  · simp only [lftE, List.map_append, List.filter_append, List.map_cons, List.map_nil]
    rw [List.filter_cons_of_neg (by simpa using h')]
    simp
  · simp only [gneE, List.map_append, List.filter_append, List.map_cons, List.map_nil]
    rw [List.filter_cons_of_pos (by simpa using h')]
    simp [olderE]
theorem prs_pre {l : List En} {pre : List (Pr En)} {x : Pr En} (hr : RisE l) (h : pre ++ [x] <+: prs l) : x.k = x.v.k ∧ x.v ∈ l ∧ (∀ p ∈ pre, lt_ p.v.k x.v.k = true) ∧ pre.length + 1 ≤ l.length := by
  have hm : ∀ p ∈ pre ++ [x], p.k = p.v.k ∧ p.v ∈ l := fun p hp => by
    obtain ⟨e, he, rfl⟩ := List.mem_map.1 (h.subset hp)
    exact ⟨rfl, he⟩
  have hx := hm x (by simp)
  refine ⟨hx.1, hx.2, fun p hp => ?_, ?_⟩
  · have h1 : (prs l).Pairwise fun a b => lt_ a.v.k b.v.k = true := List.pairwise_map.2 hr
    have h2 := h1.sublist h.sublist
    exact (List.pairwise_append.1 h2).2.2 p hp x (by simp)
  · have := h.length_le
    rw [prs_length] at this
    simpa using this
structure Tq (B w : World) (M g pb gb lb tb : Nat) (t2 : Int) (pre : List (Pr En)) (W : World) : Prop where
  ex : ∃ vg vl, Blk W gb 38 #[vg] ∧ W.ownsRow M 9 1 vg (gneE t2 pre).length ((gneE t2 pre).map .string) ∧ Se.Tb w tb 4096 (prs (lftE t2 pre)) vl W
  p : Blk W pb 74 #[.pointer (some ⟨g, 0, none⟩)]
  l : Blk W lb 260 #[.pointer (some ⟨tb, 0, none⟩), .string ⟨#[]⟩, .pointer none]
  ho : Only none_ w W
  sz : M ≤ W.heap.size
theorem tb_turn {B W W' : World} {g : Nat} {room : Int} {l : List (Pr En)} {v : Value} {row : Option Nat} (h : Se.Tb B g room l v W) (hg : W.grownBy W' row) (hr : ∀ r, row = some r → B.heap.size ≤ r ∧ ∃ o : Obj, W.heap[r]? = some o ∧ o.isCells = false) : Se.Tb B g room l v W' :=
  ⟨blk_turn h.bk hg (fun r e => (hr r e).2), own_turn h.ow hg (fun r e => (hr r e).2), h.ho.grown hg (fun k e => .inr (hr k e).1), h.ge, h.rs, h.lr, h.rm⟩
theorem Tq.own (B w : World) (M g pb gb lb tb : Nat) (t2 : Int) (hs : w.heap.size ≤ M) (hb : B.heap.size ≤ M) : OwnFrom M (Tq B w M g pb gb lb tb t2) := by
  intro s W W' row h hg hr
  obtain ⟨vg, vl, b1, ow, t⟩ := h.ex
  have hr' := fun r e => (hr r e).2
  exact ⟨⟨vg, vl, blk_turn b1 hg hr', own_turn ow hg hr', tb_turn t hg (fun r e => ⟨Nat.le_trans hs (hr r e).1, (hr r e).2⟩)⟩, blk_turn h.p hg hr', blk_turn h.l hg hr', h.ho.grown hg (fun k e => .inr (Nat.le_trans hs (hr k e).1)), Nat.le_trans h.sz hg.size⟩
theorem str_info : (Tryz.prog.info? 9).map (fun i => (i.zero, i.size, i.bytes)) = some (some (.string ⟨#[]⟩), 1, 16) := by kernel_rfl
set_option maxHeartbeats 25600000 in
theorem gv_tick (B : World) (g tb0 : Nat) (site t2 : Int) (l : List En) (v : Value) (w : World) (h : Gv B g tb0 site t2 l v w) (hok : ∀ x ∈ l, 0 ≤ x.g ∧ x.g < t2) (ht2 : t2 ≤ 2147483647) :
    Calls Tryz.prog 98 #[.pointer (some ⟨g, 0, none⟩)] w fun E w' => ∃ vs, E = .returned vs ∧ w'.ownsRow w.heap.size 9 1 vs (tickE t2 l).2.length ((tickE t2 l).2.map .string) ∧ LeftG B g tb0 site t2 v w (tickE t2 l).1 w' := by
  obtain ⟨i0, hi0, hz0, hz1, hz2⟩ := info_parts str_info
  obtain ⟨wa, hwa⟩ : ∃ wa, (w.alloc (.cells #[.pointer (some ⟨g, 0, none⟩)] 74)).alloc (.cells #[.slice none 0 0] 38) = wa := ⟨_, rfl⟩
  have oa : Only none_ w wa := by rw [← hwa]; exact ((Only.refl none_ w).alloc _).alloc _
  have ha : wa.heap.size = w.heap.size + 2 := by rw [← hwa, World.size_alloc, World.size_alloc]
  have bP : Blk wa w.heap.size 74 #[.pointer (some ⟨g, 0, none⟩)] := by rw [← hwa]; exact (Blk.new w _ _).alloc _
  have bG : Blk wa (w.heap.size + 1) 38 #[.slice none 0 0] := by
    rw [← hwa]
    have := Blk.new (w.alloc (.cells #[.pointer (some ⟨g, 0, none⟩)] 74)) 38 #[.slice none 0 0]
    rwa [World.size_alloc] at this
  have HN := Lib.hid (sh_new w wa oa)
  have HL := Lib.hid (lft_all t2 l)
  have H := Lib.hid h
  have HOK := Lib.hid hok
  have BP := Lib.hid bP
  have BG := Lib.hid bG
  have OA := Lib.hid oa
  have NUM : Hid (wa.heap.size = w.heap.size + 2 ∧ l.length ≤ 4096 ∧ g < w.heap.size) := ⟨ha, h.ml, h.bk.lt⟩
  clear h hok bP bG oa ha
  refine (callsIn_wide (n := 5)).1 ?_
  refine callsIn_of_wp_marks Tryz.func98 rfl trivial ?_ rfl
  simp only [Tryz.ntmps98, List.append_toArray, List.size_toArray, List.length_cons, List.length_nil, Nat.reduceAdd, Nat.reduceSub, Array.replicate_succ, Array.replicate_zero, List.push_toArray, List.append_toArray, List.nil_append, List.cons_append]
  gi_wp2_with (first
    | (refine ⟨trivial, ?_⟩; (try rw [hwa]); refine (callsIn_wide.2 HN.out).mono ?_; rintro e w1 ⟨tb, rfl, hg1, ht1, o1⟩
       have F1 := Lib.hid (And.intro hg1 (And.intro ht1 o1))
       have P1 : Hid (Blk w1 w.heap.size 74 #[.pointer (some ⟨g, 0, none⟩)]) := BP.out.only o1 (fun h => h)
       have cP := (P1.out.alloc (.cells #[.pointer (some ⟨tb, 0, none⟩), .string ⟨#[]⟩, .pointer none] 260)).cell_ (i := 0) rfl
       clear hg1 ht1 o1)
    | (refine ⟨trivial, ?_⟩; refine (callsIn_wide.2 (sh_each g _)).mono ?_; rintro e w2 ⟨rfl, hw2⟩))
  have hgt := NUM.out
  have hw1 := F1.out.2.2.size
  have o2 : Only none_ w1 w2 := by rw [hw2]; exact ((Only.refl none_ w1).alloc _).alloc _
  have hsz : w2.heap.size = w1.heap.size + 2 := by rw [hw2, World.size_alloc, World.size_alloc]
  have bL : Blk w2 w1.heap.size 260 #[.pointer (some ⟨tb, 0, none⟩), .string ⟨#[]⟩, .pointer none] := by rw [hw2]; exact (Blk.new w1 _ _).alloc _
  have bS : Blk w2 (w1.heap.size + 1) 258 #[.pointer (some ⟨g, 0, none⟩)] := by
    rw [hw2]
    have := Blk.new (w1.alloc (.cells #[.pointer (some ⟨tb, 0, none⟩), .string ⟨#[]⟩, .pointer none] 260)) 258 #[.pointer (some ⟨g, 0, none⟩)]
    rwa [World.size_alloc] at this
  have ow2 : Only none_ w w2 := (OA.out.trans F1.out.2.2).trans o2
  have bG2 : Blk w2 (w.heap.size + 1) 38 #[.slice none 0 0] := (BG.out.only F1.out.2.2 (fun h => h)).only o2 (fun h => h)
  have tL2 := F1.out.2.1.keep o2
  have htb : w.heap.size + 2 ≤ tb ∧ tb < w1.heap.size := ⟨by have := F1.out.1; omega, F1.out.2.1.bk.lt⟩
  have h2 := H.out.keep ow2
  have hT : Stab (fun W b => Tv (w.heap.size + 1) 0 W b ∨ Tv tb 1 W b) w2.heap.size := stab_or (tv_stab (by omega)) (tv_stab (by omega))
  have htv : ∀ b, (Tv (w.heap.size + 1) 0 w2 b ∨ Tv tb 1 w2 b) → b = w.heap.size + 1 ∨ b = tb := fun b hb => by
    rcases hb with hb | hb
    · rcases (tv_at (bG2.cell_ (i := 0) rfl)).1 hb with h1 | h1
      · exact .inl h1
      · cases h1
    · rcases (tv_at (tL2.bk.cell_ (i := 1) rfl)).1 hb with h1 | h1
      · exact .inr h1
      · cases h1
  have GO := Lib.hid (each1_goes (fun W b => Tv (w.heap.size + 1) 0 W b ∨ Tv tb 1 W b) w2.heap.size hT (w1.heap.size + 1) g tb0 l v B w2 (Nat.le_refl _) (fun b hb => by rcases htv b hb with e | e <;> omega) bS h2.sh (fun hb => by rcases htv _ hb with e | e <;> omega) (by omega) h2.t)
  have HT := Lib.hid hT
  have hbB := H.out.ho.size
  have NU2 : Hid (w.heap.size + 2 ≤ tb ∧ tb < w1.heap.size ∧ w2.heap.size = w1.heap.size + 2 ∧ B.heap.size ≤ w.heap.size ∧ w.heap.size + 2 ≤ w1.heap.size) := ⟨htb.1, htb.2, hsz, hbB, by omega⟩
  have I0 : Hid (Tq B w w2.heap.size g w.heap.size (w.heap.size + 1) w1.heap.size tb t2 [] w2) := ⟨⟨_, _, bG2, World.ownsRow_nil _ _ _ _, tL2⟩, P1.out.only o2 (fun h => h), bL, ow2, Nat.le_refl _⟩
  have HQ := Lib.hid (Tq.own B w w2.heap.size g w.heap.size (w.heap.size + 1) w1.heap.size tb t2 (by omega) (by omega))
  have HPL := Lib.hid (prs_length l)
  rw [← hw2]
  clear hgt hw1 o2 bL bS ow2 bG2 tL2 htb h2 hT htv hbB P1 F1 HN BP BG OA cP hw2 hsz hwa
  refine range_goes (n := 4) (gf := 200) (lb := #[.pointer (some ⟨w1.heap.size + 1, 0, none⟩)]) rfl (enters_of Tryz.func200 (by kernel_rfl) rfl)
    GO.out (Below.refl _ _) (fun _ => rfl) (fun h k => h.trans k) (fun X r r' hr => ⟨Kc.putObj HT.out _ (by omega) hr rfl, fun k o hk ho _ => (World.putObj_heap_other hk).trans ho⟩)
    (Tq B w w2.heap.size g w.heap.size (w.heap.size + 1) w1.heap.size tb t2) HQ.out I0.out ?hround ?hdone
  case hround =>
    intro pre x X hlx hi hlen
    have HI := Lib.hid hi
    have hpx := prs_pre H.out.ris hlen
    have hgx := HOK.out _ hpx.2.1
    have HPX := Lib.hid hpx
    have hvw0 : IntKind.i64.wrap (x.v.g + 1) = x.v.g + 1 := IntWalk.i64_in _ (by omega)
    obtain ⟨vh, hvh⟩ : ∃ y, x.v.g + 1 = y := ⟨_, rfl⟩
    have hvw : IntKind.i64.wrap (x.v.g + 1) = vh := hvw0.trans hvh
    have HVH := Lib.hid hvh
    have HGX : Hid (x.v.g + 1 ≤ t2) := by rw [Hid]; omega
    clear hvw0 hvh
    clear hi hlen hpx
    obtain ⟨kk, vk, vv, vd, ⟨sc, ss⟩, ⟨ac, as_⟩, vp, vg⟩ := x
    dsimp only at hvw HVH HGX
    clear hgx
    gi_wp2
    have hwX : w2.heap.size ≤ X.heap.size := HI.out.sz
    refine ⟨(KeepsOthers.alloc _ _).from _, own_new HQ.out ((Only.refl none_ X).alloc _) HI.out, ?_⟩
    intro r
    intro r0 hr0 hi2
    have k1 : Kc (fun W b => Tv (w.heap.size + 1) 0 W b ∨ Tv tb 1 W b) X ((X.alloc (.cells #[.string vk, .string vv, .bool vd, .int .i64 sc, .int .i64 ss, .int .i64 ac, .int .i64 as_, .int .i64 vp, .int .i64 vg] 82)).putObj (w2.heap.size + 1) (.loop r)) := (Kc.alloc HT.out (by omega) _).trans (Kc.putObj HT.out _ (by omega) hr0 rfl)
    have ko1 : Ko (w2.heap.size + 1) X ((X.alloc (.cells #[.string vk, .string vv, .bool vd, .int .i64 sc, .int .i64 ss, .int .i64 ac, .int .i64 as_, .int .i64 vp, .int .i64 vg] 82)).putObj (w2.heap.size + 1) (.loop r)) := fun k o hk ho _ => (World.putObj_heap_other hk).trans ((Below.heap_alloc X _ k (lt_of_obj ho)).trans ho)
    have BE : Hid (Blk ((X.alloc (.cells #[.string vk, .string vv, .bool vd, .int .i64 sc, .int .i64 ss, .int .i64 ac, .int .i64 as_, .int .i64 vp, .int .i64 vg] 82)).putObj (w2.heap.size + 1) (.loop r)) X.heap.size 82 #[.string vk, .string vv, .bool vd, .int .i64 sc, .int .i64 ss, .int .i64 ac, .int .i64 as_, .int .i64 vp, .int .i64 vg]) :=
      (Blk.new X _ _).grown' (grownBy_putObj' _ _ _) (fun e => by injection e with e; omega)
    generalize (X.alloc (.cells #[.string vk, .string vv, .bool vd, .int .i64 sc, .int .i64 ss, .int .i64 ac, .int .i64 as_, .int .i64 vp, .int .i64 vg] 82)).putObj (w2.heap.size + 1) (.loop r) = Y at hi2 BE k1 ko1
    have K1 := Lib.hid k1
    have KO1 := Lib.hid ko1
    have AV := Lib.hid hi2
    have z8 := BE.out.cell_ (i := 8) rfl
    have f8 := BE.out.frozen 8
    have hm : ∀ hd : w.heap.size < Y.heap.size, True := fun _ => trivial
    -- behind the age's turn
    have BE1 := Lib.hid (BE.out.set_ 8 (.int .i64 vh))
    have NX : Hid (w2.heap.size ≤ X.heap.size ∧ X.heap.size < Y.heap.size) := ⟨hwX, BE.out.lt⟩
    have OY1 : Hid (Only (one X.heap.size) Y (Y.setCell ⟨X.heap.size, 8, none⟩ (.int .i64 vh))) := (Only.refl (one X.heap.size) Y).setCell (.inl (show one X.heap.size X.heap.size from rfl)) _
    generalize hY1 : Y.setCell ⟨X.heap.size, 8, none⟩ (.int .i64 vh) = Y1 at BE1 OY1
    have PB1 := Lib.hid (AV.out.p.only OY1.out (fun e => by have e' : w.heap.size = X.heap.size := e; have h1 := NX.out; have h2 := NU2.out; omega))
    have LB1 := Lib.hid (AV.out.l.only OY1.out (fun e => by have e' : w1.heap.size = X.heap.size := e; have h1 := NX.out; have h2 := NU2.out; omega))
    have GB1 := Lib.hid (((H.out.bk.only AV.out.ho (fun h => h))).only OY1.out (fun e => by have e' : g = X.heap.size := e; have h1 := NX.out; have h2 := NUM.out; have h3 := NU2.out; omega))
    obtain ⟨vgn, vl, bY, owY, tY⟩ := hi2.ex
    obtain ⟨A2, n2, c2, rfl⟩ := own_shape owY
    obtain ⟨k, hk⟩ : ∃ k, (gneE t2 pre).length = k := ⟨_, rfl⟩
    have HK := Lib.hid hk
    rw [hk] at owY
    obtain rfl : n2 = k := own_count owY
    clear hk
    have ow1 := Lib.hid (owns_only owY OY1.out (fun b hb e => own_blk_ne owY BE.out (by decide) (by rw [hb, show b = X.heap.size from e])))
    have b1 := Lib.hid (bY.only OY1.out (fun e => by have e' : w.heap.size + 1 = X.heap.size := e; have h1 := NX.out; have h2 := NU2.out; omega))
    have t1 := Lib.hid (tY.apart OY1.out (fun b hb e => by
      have e' : b = X.heap.size := e
      rcases hb with hb | hb
      · have h1 := NX.out; have h2 := NU2.out; omega
      · exact own_blk_ne tY.ow BE.out (by decide) (by rw [hb, e'])) (fun b e => by have e' : b = X.heap.size := e; have h1 := NX.out; have h2 := NU2.out; omega))
    have CG := Lib.hid (bY.cell_ (i := 0) rfl)
    have CT := Lib.hid (tY.bk.cell_ (i := 1) rfl)
    have OWY := Lib.hid owY
    have TY := Lib.hid tY
    have BY := Lib.hid bY
    have KY1 : Hid (KeepsOthers Y Y1) := by rw [← hY1]; exact KeepsOthers.setCell _ _ _
    have hmix : Tryz.prog.follows .mixedOrders = true := by kernel_rfl
    have HLL : Hid ((gneE t2 pre).length ≤ 4096 ∧ (lftE t2 pre).length < 4096) := by have h1 := gne_len t2 pre; have h2 := lft_len t2 pre; have h3 := HPX.out.2.2.2; have h4 := NUM.out; simp only [Hid]; omega
    clear k1 ko1 hr0 hi2 HI BE hm hlx hwX owY tY bY
    gi_wp2
    try rw [hY1]
    clear hY1 z8 f8 hvw
    by_cases hq : vh = t2
    · have hq1 : ((vh : Int) == t2) = true := by simpa using hq
      have HQQ := Lib.hid hq
      clear hq
      (refine region_round (w2.heap.size + 1) _ (by kernel_rfl) (by kernel_rfl) (fun h => by obtain ⟨_, _, h⟩ := h; exact h) ?_; refine any_region_free (fun w' => Only none_ Y1 w' ∧ KeepsOthers Y1 w') (Only none_) (F := ?_) 36 (by rfl) (by kernel_rfl) (fun x => ?_) (⟨(Only.refl none_ Y1).drew, KeepsOthers.drew Y1⟩) ?_; rotate_left; (· (simp only [putsL, Act.put, List.setIfInBounds_toArray, List.set_cons_zero, List.set_cons_succ, Nat.reduceAdd]; exact rfl)))
      repeat (first
        | ((first | refine fr_value (c := ?_) (by rfl) (fun w => Only.refl none_ w) (fun x w0 hS hk => ?_) ?_ | refine fr_value_if (c := ?_) (by rfl) (by rfl) (by rfl) (fun w => Only.refl none_ w) (fun x w0 hS hk => ?_) ?_); rotate_left; (· (have hk2 := hk; (try simp [knAll, Region.binds] at hk2); have y8 := (BE1.out.only hS.1 (fun h => h)).cell_ (i := 8) rfl; have yp := (PB1.out.only hS.1 (fun h => h)).cell_ (i := 0) rfl; have yg := (GB1.out.only hS.1 (fun h => h)).cell_ (i := 4) rfl; go_simp; try (with_reducible rfl))); try simp only [List.nil_append, List.cons_append]))
      (refine fr_end ?_; intro x w9 hS hk)
      have e6 := kn_end_at 6 hk (by rfl)
      rw [Nat.zero_add] at e6
      rw [e6]
      have S9 := Lib.hid hS
      clear hk hS e6
      have B9 := Lib.hid (b1.out.only S9.out.1 (fun h => h))
      have cB := B9.out.cell_ (i := 0) rfl
      have O3 := Lib.hid ((Only.refl none_ w9).alloc (.cells #[.string kk] 9))
      have OW3 := Lib.hid (owns_only (owns_only ow1.out S9.out.1 (fun _ _ h => h)) O3.out (fun _ _ h => h))
      have B3 := Lib.hid (B9.out.only O3.out (fun h => h))
      have CM := Lib.hid (cel_made w9 9 1 1 #[.string kk] rfl (by simp [maxLen]))
      have ONE : Hid (∀ u ∈ (#[.string kk] : Array Value).toList, u.oneCell' = true) := by intro u hu; simp at hu; subst hu; rfl
      have MX : Hid (n2 + 1 ≤ maxLen ∧ (n2 + 1) * 16 ≤ 140737488355328) := by have := HLL.out; have := HK.out; simp only [Hid, maxLen]; omega
      have SZ : Hid (w2.heap.size ≤ (w9.alloc (.cells #[.string kk] 9)).heap.size) := by have h1 := NX.out; have h2 := OY1.out.size; have h3 := S9.out.1.size; rw [Hid, World.size_alloc]; omega
      gi_wp2_with (first
        | (gi_at_builtin; refine wplIn_append_cel rfl (.tmp 25) (.tmp 27) 38 rfl w2.heap.size 9 i0 _ 1 16 Tryz.underlying38 hi0 hz0 hz1 hz2 rfl (by omega) (.slice A2 n2 c2) n2 _ rfl OW3.out _ _ 1 _ rfl CM.out ONE.out MX.out.1 MX.out.2 SZ.out ?_
           intro A5 n5 c5 w5 hown5 hgrow5 hmv5
           have O5 : Hid (Only (fun k => (Value.slice A2 n2 c2).ownBlock = some k) w9 w5) := (O3.out.of_none).trans' ((Only.refl (fun k => (Value.slice A2 n2 c2).ownBlock = some k) _).grown hgrow5 (fun k e => .inl e)) (fun k _ h => h)
           have B5 : Hid (Blk w5 (w.heap.size + 1) 38 #[.slice A2 n2 c2]) := B3.out.grown' hgrow5 (own_blk_ne OW3.out B3.out (by decide))
           have q5 := B5.out.cell_ (i := 0) rfl
           have f5 := B5.out.frozen 0
           have H5 := Lib.hid (And.intro hown5 hmv5)
           clear hown5 hgrow5 hmv5))
      have o6 : Only (one (w.heap.size + 1)) w5 (w5.setCell ⟨w.heap.size + 1, 0, none⟩ (.slice A5 n5 c5)) := (Only.refl (one (w.heap.size + 1)) w5).setCell (.inl (show one (w.heap.size + 1) (w.heap.size + 1) from rfl)) _
      have O6 : Only (fun k => k = w.heap.size + 1 ∨ (Value.slice A2 n2 c2).ownBlock = some k) w9 (w5.setCell ⟨w.heap.size + 1, 0, none⟩ (.slice A5 n5 c5)) :=
        (O5.out.mono (fun k _ h => .inr h)).trans' o6 (fun k _ e => .inl e)
      have B6 := B5.out.set_ 0 (.slice A5 n5 c5)
      have hne : (Value.slice A5 n5 c5).ownBlock ≠ some (w.heap.size + 1) := own_blk_ne H5.out.1 B5.out (by decide)
      have hne2 : (Value.slice A2 n2 c2).ownBlock ≠ some (w.heap.size + 1) := own_blk_ne OW3.out B3.out (by decide)
      have KE : KeepsOthers Y (w5.setCell ⟨w.heap.size + 1, 0, none⟩ (.slice A5 n5 c5)) := (KY1.out.trans S9.out.2).trans (only_keeps O6 (fun k x hS hx => by
        rcases hS with rfl | hS
        · exact blk_is B9.out hx
        · exact own_is (owns_only ow1.out S9.out.1 (fun _ _ h => h)) hS hx))
      have OYZ : Only (fun k => k = X.heap.size ∨ (k = w.heap.size + 1 ∨ (Value.slice A2 n2 c2).ownBlock = some k)) Y (w5.setCell ⟨w.heap.size + 1, 0, none⟩ (.slice A5 n5 c5)) :=
        ((OY1.out.trans' S9.out.1 (fun _ _ h => h.elim)).mono (fun k _ h => .inl h)).trans' O6 (fun k _ h => .inr h)
      have ap : ∀ k, foot tb vl k → ¬ (k = w.heap.size + 1 ∨ (Value.slice A2 n2 c2).ownBlock = some k) := by
        intro k hf hk
        have hb9 := B9.out
        have ht9 := t1.out.keep S9.out.1
        have hw9 := owns_only ow1.out S9.out.1 (fun _ _ h => h)
        rcases hf with rfl | hf
        · rcases hk with hk | hk
          · exact Blk.ne_ ht9.bk hb9 (by decide) hk
          · exact own_blk_ne hw9 ht9.bk (by decide) hk
        · rcases hk with hk | hk
          · subst hk; exact own_blk_ne ht9.ow hb9 (by decide) hf
          · exact own_apart ht9.ow hw9 (by decide) k hf hk
      have tZ := (t1.out.keep S9.out.1).apart O6 ap (fun k hk => by
        have h2 := NU2.out
        rcases hk with rfl | hk
        · omega
        · have h1 := (ow1.out.lt k hk).1; have h3 := NX.out; omega)
      have hz := lft_goes (t2 := t2) (pre := pre) (x := ⟨kk, vk, vv, vd, ⟨sc, ss⟩, ⟨ac, as_⟩, vp, vg⟩) (by have h1 := HVH.out; have h2 := HQQ.out; show ¬ vg + 1 < t2; omega)
      have hkv : kk = vk := HPX.out.1
      refine ⟨KE.from _, ⟨K1.out.then OYZ (fun b hb hS => ?_) (fun b hb => ?_), fun k o hk ho hc => KE.same k o (KO1.out k o hk ho hc) hc⟩, ⟨⟨_, vl, B6, ?_, ?_⟩, ?_, ?_, ?_, ?_⟩⟩
      · rcases hS with h1 | h1
        · omega
        · exact .inl ((tv_at CG.out).2 h1)
      · rcases hb with hb | hb
        · rcases (tv_at (B6.cell_ (i := 0) rfl)).1 hb with h1 | h1
          · exact .inl (.inl (.inl h1))
          · rcases H5.out.2 b h1 with h2 | h2
            · exact .inl (.inl ((tv_at CG.out).2 (.inr h2)))
            · exact .inr (by rw [World.size_alloc] at h2; have h3 := NX.out; have h4 := OY1.out.size; have h5 := S9.out.1.size; omega)
        · exact .inl (.inr ((tv_at CT.out).2 ((tv_at (tZ.bk.cell_ (i := 1) rfl)).1 hb)))
      · have hr := owns_only H5.out.1 o6 (fun b hb e => hne (by rw [hb, show b = w.heap.size + 1 from e]))
        rw [hz.2, List.length_append, List.map_append, HK.out]
        rw [show (⟨kk, vk, vv, vd, ⟨sc, ss⟩, ⟨ac, as_⟩, vp, vg⟩ : Pr En).v.k = kk from hkv.symm]
        exact hr
      · rw [hz.1]; exact tZ
      · exact (PB1.out.only S9.out.1 (fun h => h)).only O6 (fun hk => by
          rcases hk with hk | hk
          · omega
          · exact own_blk_ne ow1.out PB1.out (by decide) hk)
      · exact (LB1.out.only S9.out.1 (fun h => h)).only O6 (fun hk => by
          rcases hk with hk | hk
          · have h2 := NU2.out; omega
          · exact own_blk_ne ow1.out LB1.out (by decide) hk)
      · exact AV.out.ho.trans' OYZ (fun b hb hS => by
          have h2 := NU2.out
          have h3 := NX.out
          rcases hS with rfl | rfl | hS
          · omega
          · omega
          · have h1 := (OWY.out.lt b hS).1; omega)
      · exact Nat.le_trans AV.out.sz OYZ.size
    · have hq1 : ((vh : Int) == t2) = false := by simpa using hq
      have HQQ := Lib.hid hq
      clear hq
      (refine region_round (w2.heap.size + 1) _ (by kernel_rfl) (by kernel_rfl) (fun h => by obtain ⟨_, _, h⟩ := h; exact h) ?_; refine any_region_free (fun w' => Only none_ Y1 w' ∧ KeepsOthers Y1 w') (Only none_) (F := ?_) 36 (by rfl) (by kernel_rfl) (fun x => ?_) (⟨(Only.refl none_ Y1).drew, KeepsOthers.drew Y1⟩) ?_; rotate_left; (· (simp only [putsL, Act.put, List.setIfInBounds_toArray, List.set_cons_zero, List.set_cons_succ, Nat.reduceAdd]; exact rfl)))
      repeat (first
        | ((first | refine fr_value (c := ?_) (by rfl) (fun w => Only.refl none_ w) (fun x w0 hS hk => ?_) ?_ | refine fr_value_if (c := ?_) (by rfl) (by rfl) (by rfl) (fun w => Only.refl none_ w) (fun x w0 hS hk => ?_) ?_); rotate_left; (· (have hk2 := hk; (try simp [knAll, Region.binds] at hk2); have y8 := (BE1.out.only hS.1 (fun h => h)).cell_ (i := 8) rfl; have yp := (PB1.out.only hS.1 (fun h => h)).cell_ (i := 0) rfl; have yg := (GB1.out.only hS.1 (fun h => h)).cell_ (i := 4) rfl; go_simp; try (with_reducible rfl))); try simp only [List.nil_append, List.cons_append]))
      (refine fr_end ?_; intro x w9 hS hk)
      have e6 := kn_end_at 6 hk (by rfl)
      rw [Nat.zero_add] at e6
      rw [e6]
      have S9 := Lib.hid hS
      clear hk hS e6
      have B9 := Lib.hid (b1.out.only S9.out.1 (fun h => h))
      have L9 := Lib.hid (LB1.out.only S9.out.1 (fun h => h))
      have T9 := Lib.hid (t1.out.keep S9.out.1)
      have W9 := Lib.hid (owns_only ow1.out S9.out.1 (fun _ _ h => h))
      have BE9 : Blk w9 X.heap.size 82 #[.string (⟨vk, vv, vd, ⟨sc, ss⟩, ⟨ac, as_⟩, vp, vh⟩ : En).k, .string (⟨vk, vv, vd, ⟨sc, ss⟩, ⟨ac, as_⟩, vp, vh⟩ : En).v, .bool (⟨vk, vv, vd, ⟨sc, ss⟩, ⟨ac, as_⟩, vp, vh⟩ : En).d, .int .i64 (⟨vk, vv, vd, ⟨sc, ss⟩, ⟨ac, as_⟩, vp, vh⟩ : En).s.c, .int .i64 (⟨vk, vv, vd, ⟨sc, ss⟩, ⟨ac, as_⟩, vp, vh⟩ : En).s.s, .int .i64 (⟨vk, vv, vd, ⟨sc, ss⟩, ⟨ac, as_⟩, vp, vh⟩ : En).a.c, .int .i64 (⟨vk, vv, vd, ⟨sc, ss⟩, ⟨ac, as_⟩, vp, vh⟩ : En).a.s, .int .i64 (⟨vk, vv, vd, ⟨sc, ss⟩, ⟨ac, as_⟩, vp, vh⟩ : En).p, .int .i64 (⟨vk, vv, vd, ⟨sc, ss⟩, ⟨ac, as_⟩, vp, vh⟩ : En).g] := BE1.out.only S9.out.1 (fun h => h)
      obtain ⟨q0, q1, q2, q3, q4, q5, q6, q7, q8⟩ := nine_of BE9
      have HP := Lib.hid (sh_put w w1.heap.size tb (lftE t2 pre) vl ⟨vk, vv, vd, ⟨sc, ss⟩, ⟨ac, as_⟩, vp, vh⟩ w9 ⟨L9.out.cell_ (i := 0) rfl, L9.out.cell_ (i := 2) rfl⟩ T9.out HLL.out.2)
      clear BE9
      gi_wp2_with (first
        | (refine ⟨trivial, ?_⟩; refine (CallsIn.inRound _ (callsIn_wide.2 HP.out)).mono ?_; rintro e w5 ⟨rfl, hL⟩
           have HL5 := Lib.hid hL
           clear hL))
      obtain ⟨v5, t5, o5, m5⟩ := HL5.out
      have hz := lft_stay (t2 := t2) (pre := pre) (x := ⟨kk, vk, vv, vd, ⟨sc, ss⟩, ⟨ac, as_⟩, vp, vg⟩) (by have h1 := HVH.out; have h2 := HQQ.out; have h3 := HGX.out; show vg + 1 < t2; omega) HPX.out.2.2.1
      have hold : olderE (⟨vk, vv, vd, ⟨sc, ss⟩, ⟨ac, as_⟩, vp, vg⟩ : En) = ⟨vk, vv, vd, ⟨sc, ss⟩, ⟨ac, as_⟩, vp, vh⟩ := by rw [← HVH.out]; rfl
      have KE : KeepsOthers Y w5 := (KY1.out.trans S9.out.2).trans (only_keeps o5 (fun k x hS hx => by
        rcases hS with rfl | hS
        · exact blk_is T9.out.bk hx
        · exact own_is T9.out.ow hS hx))
      have OYZ : Only (fun k => k = X.heap.size ∨ foot tb vl k) Y w5 :=
        ((OY1.out.trans' S9.out.1 (fun _ _ h => h.elim)).mono (fun k _ h => .inl h)).trans' o5 (fun k _ h => .inr h)
      have far : ∀ {b : Nat} {t : TypeId} {cs : Array Value}, Blk w9 b t cs → 243 ≠ t → 240 ≠ t → ¬ foot tb vl b := by
        intro b t cs hb h1 h2 hf
        rcases hf with rfl | hf
        · exact Blk.ne_ T9.out.bk hb h1 rfl
        · exact own_blk_ne T9.out.ow hb h2 hf
      have B5 := B9.out.only o5 (far B9.out (by decide) (by decide))
      have W5 := owns_only W9.out o5 (fun k hk hf => by
        rcases hf with rfl | hf
        · exact own_blk_ne W9.out T9.out.bk (by decide) hk
        · exact own_apart W9.out T9.out.ow (by decide) k hk hf)
      refine ⟨KE.from _, ⟨K1.out.then OYZ (fun b hb hS => ?_) (fun b hb => ?_), fun k o hk ho hc => KE.same k o (KO1.out k o hk ho hc) hc⟩, ⟨⟨_, v5, B5, ?_, ?_⟩, ?_, ?_, ?_, ?_⟩⟩
      · rcases hS with h1 | h1
        · omega
        · exact .inr ((tv_at CT.out).2 h1)
      · rcases hb with hb | hb
        · exact .inl (.inl ((tv_at CG.out).2 ((tv_at (B5.cell_ (i := 0) rfl)).1 hb)))
        · rcases (tv_at (t5.bk.cell_ (i := 1) rfl)).1 hb with h1 | h1
          · exact .inl (.inr (.inl h1))
          · rcases m5 b h1 with h2 | h2
            · exact .inl (.inr ((tv_at CT.out).2 (.inr h2)))
            · exact .inr (by have h3 := NX.out; have h4 := OY1.out.size; have h5 := S9.out.1.size; omega)
      · rw [hz.2, HK.out]; exact W5
      · rw [hz.1, hold]; exact t5
      · exact (PB1.out.only S9.out.1 (fun h => h)).only o5 (far (PB1.out.only S9.out.1 (fun h => h)) (by decide) (by decide))
      · exact L9.out.only o5 (far L9.out (by decide) (by decide))
      · exact AV.out.ho.trans' OYZ (fun b hb hS => by
          have h2 := NU2.out
          have h3 := NX.out
          rcases hS with rfl | hS
          · omega
          · have h1 := (TY.out.foot_ge hS).1; omega)
      · exact Nat.le_trans AV.out.sz OYZ.size
  case hdone =>
    intro D W hD hi hdef
    obtain ⟨vgn, vl, bY, owY, tY⟩ := hi.ex
    obtain ⟨A2, n2, c2, rfl⟩ := own_shape owY
    have HI := Lib.hid hi
    have OWY := Lib.hid owY
    have TY := Lib.hid tY
    have GB := Lib.hid (H.out.bk.only hi.ho (fun h => h))
    have HDF := Lib.hid hdef
    have HDD := Lib.hid hD
    have cp := hi.p.cell_ (i := 0) rfl
    have l0 := hi.l.cell_ (i := 0) rfl
    have l1 := hi.l.cell_ (i := 1) rfl
    have l2 := hi.l.cell_ (i := 2) rfl
    have g0 := GB.out.cell_ (i := 0) rfl
    have g1 := GB.out.cell_ (i := 1) rfl
    have g2 := GB.out.cell_ (i := 2) rfl
    have f0 := GB.out.frozen 0
    have f1 := GB.out.frozen 1
    have f2 := GB.out.frozen 2
    have hgg : w.heap.size + 1 ≠ g := by have := NUM.out; omega
    have cz : (((W.setCell ⟨g, 0, none⟩ (.pointer (some ⟨tb, 0, none⟩))).setCell ⟨g, 1, none⟩ (.string ⟨#[]⟩)).setCell ⟨g, 2, none⟩ (.pointer none)).cell? ⟨w.heap.size + 1, 0, none⟩ = some (.slice A2 n2 c2) := (((bY.far (p := ⟨g, 0, none⟩) hgg _).far (p := ⟨g, 1, none⟩) hgg _).far (p := ⟨g, 2, none⟩) hgg _).cell_ (i := 0) rfl
    clear owY tY bY hi hdef hD
    gi_wp2
    have o3 : Only (one g) W (((W.setCell ⟨g, 0, none⟩ (.pointer (some ⟨tb, 0, none⟩))).setCell ⟨g, 1, none⟩ (.string ⟨#[]⟩)).setCell ⟨g, 2, none⟩ (.pointer none)) :=
      (((Only.refl (one g) W).setCell (p := ⟨g, 0, none⟩) (.inl (show one g g from rfl)) _).setCell (p := ⟨g, 1, none⟩) (.inl (show one g g from rfl)) _).setCell (p := ⟨g, 2, none⟩) (.inl (show one g g from rfl)) _
    have b3 := ((GB.out.set_ 0 (.pointer (some ⟨tb, 0, none⟩))).set_ 1 (.string ⟨#[]⟩)).set_ 2 (.pointer none)
    have cB0 : Blk (((W.setCell ⟨g, 0, none⟩ (.pointer (some ⟨tb, 0, none⟩))).setCell ⟨g, 1, none⟩ (.string ⟨#[]⟩)).setCell ⟨g, 2, none⟩ (.pointer none)) g 263 #[.pointer (some ⟨tb, 0, none⟩), .string ⟨#[]⟩, .pointer none, .int .i64 site, .int .i64 t2] := by simpa using b3
    have hNg := NUM.out
    have hNd := HDD.out
    have hN2 := NU2.out
    have h3 : (((W.setCell ⟨g, 0, none⟩ (.pointer (some ⟨tb, 0, none⟩))).setCell ⟨g, 1, none⟩ (.string ⟨#[]⟩)).setCell ⟨g, 2, none⟩ (.pointer none)).heap[D]? = some (.deferred (some [])) :=
      (o3.block D (lt_of_obj HDF.out) (fun e => by have e' : D = g := e; omega)).trans HDF.out
    generalize ((W.setCell ⟨g, 0, none⟩ (.pointer (some ⟨tb, 0, none⟩))).setCell ⟨g, 1, none⟩ (.string ⟨#[]⟩)).setCell ⟨g, 2, none⟩ (.pointer none) = W3 at o3 cB0 h3
    refine ⟨by simp, .inl ⟨_, _, rfl, run_takeDeferred h3, ?_⟩⟩
    have hDg := grownBy_putObj' W3 D (.deferred none)
    have hDr : ∀ r, some D = some r → ∃ o : Obj, W3.heap[r]? = some o ∧ o.isCells = false := fun r e => by cases e; exact ⟨_, h3, rfl⟩
    have hgt : ¬ foot tb vl g := by
      rintro (e | e)
      · exact Blk.ne_ GB.out TY.out.bk (by decide) e
      · exact own_blk_ne TY.out.ow GB.out (by decide) e
    have tW := tb_turn ((TY.out.base (H.out.ho.trans HI.out.ho) hN2.2.2.2.1).apart o3 (fun k hk e => hgt (by rw [← (show k = g from e)]; exact hk)) (fun k e => by have e' : k = g := e; have := H.out.ge; omega)) hDg (fun r e => by cases e; exact ⟨by omega, _, h3, rfl⟩)
    have oW := owns_only OWY.out o3 (fun k hk e => own_blk_ne OWY.out GB.out (by decide) (by rw [hk, show k = g from e]))
    have oD : Only (one g) w (W3.putObj D (.deferred none)) := (HI.out.ho.of_none.trans' o3 (fun _ _ h => h)).grown hDg (fun k e => by cases e; exact .inr (by omega))
    rw [(HL.out).1] at tW
    rw [(HL.out).2] at oW
    refine ⟨_, results_tmp rfl _ _ _, _, rfl, owns_base (own_turn oW hDg hDr) (by omega), tb, vl, ⟨blk_turn cB0 hDg hDr, H.out.ge, tW⟩, oD.mono (fun k _ e => .inl e), fun k hk => ?_⟩
    · rcases hk with rfl | hk
      · exact .inl (.inl rfl)
      · exact .inr (TY.out.foot_ge hk).1
end Go.Proofs.YtoohpcomnhfgpaaGreat
end
section
namespace Go.Proofs.YtoohpcomnhfgpaaGreat
open Go.RowKit
set_option maxRecDepth 100000
set_option linter.all false
theorem gv_bury (B : World) (g tb : Nat) (site t2 : Int) (l : List En) (v : Value) (e : En) (w : World) (h : Gv B g tb site t2 l v w) (hr : l.length < 4096) :
    Calls Tryz.prog 180 #[.pointer (some ⟨g, 0, none⟩), .agg #[.string e.k, .string e.v, .bool e.d, .int .i64 e.s.c, .int .i64 e.s.s, .int .i64 e.a.c, .int .i64 e.a.s, .int .i64 e.p, .int .i64 e.g]] w fun E w' => E = .returned (.bool (buryE (enDuty e site) t2 l e).2) ∧ LeftG B g tb site t2 v w (buryE (enDuty e site) t2 l e).1 w' := by
  by_cases ht : takes (enDuty e site) t2 e = true
  · exact gv_bury_yes B g tb site t2 l v e w h hr ht
  · have ht' : takes (enDuty e site) t2 e = false := by simpa using ht
    rw [bury_off ht']
    exact (gv_bury_no B g tb site t2 l v e w h ht').mono fun E w' h2 => ⟨h2.1, LeftG.after0 h2.2 (LeftG.same (h.keep h2.2))⟩
end Go.Proofs.YtoohpcomnhfgpaaGreat
end
section
namespace Go.Proofs.YtoohpcomnhfgpaaGreat
open Go.RowKit
set_option maxRecDepth 100000
set_option linter.all false
def encB (e : En) : List UInt8 := layB (neOf e)
theorem enc_of {e : En} (h : enCheck e = 0) : ∃ m : Ne, e = m.en ∧ m.ok ∧ m.k.size ≤ 16 ∧ m.v.size ≤ 32 ∧ encB e = layB m := by
  obtain ⟨m, h1, h2, h3, h4⟩ := chk_ne h
  exact ⟨m, h1, h2, h3, h4, by rw [encB, h1, neOf_en]⟩
theorem enc_len {e : En} (h : enCheck e = 0) : 1 ≤ (encB e).length ∧ (encB e).length ≤ 80 := by
  obtain ⟨m, h1, h2, h3, h4, h5⟩ := enc_of h
  have a1 := txtB_len m.k
  have a2 := txtB_len m.v
  rw [h5]
  simp only [layB, List.length_append, leBytes_len, a1, a2, List.length_cons, List.length_nil]
  omega
theorem ch_ways (d : Dv) : chCode d 0 = 0 ∨ chCode d 0 = 11 := by
  unfold chCode; split
  · simp
  · rw [if_neg (by simp)]; split <;> simp
theorem add_ways {b : List UInt8} {d : Dv} (h1 : 1 ≤ b.length) (h2 : b.length ≤ 80) (hl : d.bs.length + 100 ≤ 1048576) : adC b d = 0 ∨ adC b d = 11 := by
  have hr : recCode b.length = 0 := by unfold recCode; rw [if_neg (by omega), if_neg (by omega)]
  have hF : adF b d = 0 := if_neg (by rw [recB_len]; omega)
  unfold adC
  rw [if_neg (by simp [hr]), hF]
  split
  · exact ch_ways _
  · exact ch_ways _
def placeS (s : Rs) (x : En) : Rs := { s with tab := setE x s.tab, z := s.z + (hsh x - hsh ((lookE s.tab x.k).getD enZero)), mks := putM s.mks (mkOf x) }
def noteS (s : Rs) (x : En) : Rs := { s with gr := (buryE (enDuty x s.site) s.o.t2 s.gr x).1, own := if x.s.s = s.site then withK x.k s.own else s.own }
def addS (s : Rs) (x : En) : Rs := { s with D := adD (encB x) s.D, n := adN (encB x) s.D s.n }
def downS (s : Rs) (x : En) : Rs := noteS (placeS (addS s x) x) x
theorem unit_zero (w : World) : (zeroValue 63).run Tryz.prog w = .ok (.agg #[]) w := by
  have : (Tryz.prog.info? 63).map (·.zero) = some (some (.agg #[])) := by kernel_rfl
  unfold zeroValue typeInfo
  cases hq : Tryz.prog.info? 63 with
  | none => rw [hq] at this; cases this
  | some i =>
    rw [hq] at this
    simp only [Option.map_some, Option.some.injEq] at this
    simp [hq, this]
set_option maxHeartbeats 12800000 in
theorem rp_note (B : World) (a : Ra) (s : Rs) (x : En) (w : World) (h : Rp B a s w) (hg : s.gr.length < 4096) (hr' : RisK s.own) (hk : x.k.size ≤ maxLen) :
    Calls Tryz.prog 117 #[.pointer (some ⟨a.r, 0, none⟩), .agg #[.string x.k, .string x.v, .bool x.d, .int .i64 x.s.c, .int .i64 x.s.s, .int .i64 x.a.c, .int .i64 x.a.s, .int .i64 x.p, .int .i64 x.g]] w fun E w' => E = .returned (.tuple #[]) ∧ LeftP B a w (noteS s x) w' := by
  obtain ⟨r, hr⟩ : ∃ r, a.r = r := ⟨_, rfl⟩
  have C2 := Lib.hid ((Cy.begin h).keep ((Only.refl none_ w).alloc (.cells #[.string x.k, .string x.v, .bool x.d, .int .i64 x.s.c, .int .i64 x.s.s, .int .i64 x.a.c, .int .i64 x.a.s, .int .i64 x.p, .int .i64 x.g] 82)))
  have N2 : Hid (Bn a w.heap.size 82 #[.string x.k, .string x.v, .bool x.d, .int .i64 x.s.c, .int .i64 x.s.s, .int .i64 x.a.c, .int .i64 x.a.s, .int .i64 x.p, .int .i64 x.g] (w.alloc (.cells #[.string x.k, .string x.v, .bool x.d, .int .i64 x.s.c, .int .i64 x.s.s, .int .i64 x.a.c, .int .i64 x.a.s, .int .i64 x.p, .int .i64 x.g] 82))) := Bn.new h
  have HB := Lib.hid (fun (X : World) (hX : Rp B a s X) => gv_bury B a.gv a.gt s.site s.o.t2 s.gr a.vg x X hX.gv hg)
  generalize (buryE (enDuty x s.site) s.o.t2 s.gr x).2 = tb at HB
  have HSI := Lib.hid (fun (a1 : Ra) (X : World) (hX : Clk X a1.ck s.site s.c) => clk_site a1.ck s.site s.c X hX)
  have HPU := Lib.hid (fun (a1 : Ra) (X : World) (hX : Mq X a1.ob s.own) => mq_put Tryz.underlying9 Tryz.underlying75 hX hr' x.k hk)
  obtain ⟨gr', hgr⟩ : ∃ g, (buryE (enDuty x s.site) s.o.t2 s.gr x).1 = g := ⟨_, rfl⟩
  have hst : noteS s x = { s with gr := gr', own := if x.s.s = s.site then withK x.k s.own else s.own } := by rw [← hgr]; rfl
  rw [hst]
  rw [hgr] at HB
  rw [hr]
  have HR := Lib.hid hr
  clear h hr hg hr' hk hgr hst
  go_enter Tryz.func117, Tryz.ntmps117
  go_wp2_with fail
  generalize w.alloc (.cells #[.string x.k, .string x.v, .bool x.d, .int .i64 x.s.c, .int .i64 x.s.s, .int .i64 x.a.c, .int .i64 x.a.s, .int .i64 x.p, .int .i64 x.g] 82) = W2 at C2 N2 ⊢
  generalize w.heap.size = n0 at N2 ⊢
  (refine wp_region_steady (fun X => Only none_ W2 X) 5 (by kernel_rfl) (by kernel_rfl) ((Only.refl none_ W2).drew) ?_; simp only [List.take_succ_cons, List.take_zero, List.drop_succ_cons, List.drop_zero])
  repeat (first
    | (refine sd_value (v := ?_) (by rfl) (fun w0 hS => ?_) ?_; rotate_left; (· (have c9 := (C2.out.keep hS).r.at_ HR.out (i := 9) rfl; have qq := nine_of (N2.out.keep hS).b; go_simp; try (with_reducible rfl))); try simp only [Act.put, List.setIfInBounds_toArray, List.set_cons_zero, List.set_cons_succ]))
  refine sd_nil ?_
  intro w3 t3
  have C3 := Lib.hid (C2.out.keep t3)
  have N3 := Lib.hid (N2.out.keep t3)
  clear t3
  go_wp2_with (first
    | (go_at_call 180; refine (HB.out _ C3.out.r).mono ?_; rintro E w4 ⟨rfl, hL⟩
       obtain ⟨a4, c4, e4, b4⟩ := C3.out.step (C3.out.r.gv_set hL)
       have C4 := Lib.hid c4
       have N4 := Lib.hid (b4 _ _ _ N3.out)
       have E4 : Hid (a4.r = r) := e4.trans HR.out
       clear c4 b4 e4 hL))
  (refine wp_region_steady (fun X => Only none_ w4 X) 9 (by kernel_rfl) (by kernel_rfl) ((Only.refl none_ w4).drew) ?_; simp only [List.take_succ_cons, List.take_zero, List.drop_succ_cons, List.drop_zero])
  repeat (first
    | (refine sd_value (v := ?_) (by rfl) (fun w0 hS => ?_) ?_; rotate_left; (· (have c5 := (C4.out.keep hS).r.at_ E4.out (i := 5) rfl; have qq := nine_of (N4.out.keep hS).b; go_simp; try (with_reducible rfl))); try simp only [Act.put, List.setIfInBounds_toArray, List.set_cons_zero, List.set_cons_succ])
    | (refine sd_call (v := ?_) (f := 75) (args := ?_) (by rfl) (fun w0 hS => ?_) (fun w0 hS => ?_) ?_; rotate_left 2; (· (skip; go_simp; try (with_reducible rfl))); (· (refine (HSI.out a4 _ (C4.out.keep hS).r.ck).mono ?_; rintro E w9 ⟨rfl, rfl⟩; refine ⟨?_, hS⟩; rfl)); try simp only [Act.put, List.setIfInBounds_toArray, List.set_cons_zero, List.set_cons_succ]))
  refine sd_nil ?_
  intro w5 t5
  have C5 := Lib.hid (C4.out.keep t5)
  have N5 := Lib.hid (N4.out.keep t5)
  clear t5
  by_cases hs : x.s.s = s.site
  · have hse : (x.s.s == s.site) = true := by simpa using hs
    have HS := Lib.hid hs
    clear hs
    go_wp2_with fail
    (refine wp_region_steady (fun X => Only none_ w5 X) 7 (by kernel_rfl) (by kernel_rfl) ((Only.refl none_ w5).drew) ?_; simp only [List.take_succ_cons, List.take_zero, List.drop_succ_cons, List.drop_zero])
    repeat (first
      | (refine sd_value (v := ?_) (by rfl) (fun w0 hS => ?_) ?_; rotate_left; (· (have c10 := (C5.out.keep hS).r.at_ E4.out (i := 10) rfl; have qq := nine_of (N5.out.keep hS).b; go_simp; try (with_reducible rfl))); try simp only [Act.put, List.setIfInBounds_toArray, List.set_cons_zero, List.set_cons_succ]))
    refine sd_nil ?_
    intro w6 t6
    have C6 := Lib.hid (C5.out.keep t6)
    clear t6
    obtain ⟨w7, hup, m7, o7⟩ := HPU.out a4 w6 C6.out.r.ob
    have hup := Lib.hid hup
    go_wp2_with (first
      | (at_mapUpdate; refine wpList_upd _ rfl _ _ _ 75 rfl _ _ _ rfl rfl rfl hup.out ?_))
    go_end0
    obtain ⟨a8, c8, _, _⟩ := C6.out.step (C6.out.r.ob_set m7 o7)
    exact ⟨rfl, c8.left⟩
  · have hse : (x.s.s == s.site) = false := by simpa using hs
    have HS := Lib.hid hs
    clear hs
    go_wp2_with fail
    go_end0
    exact ⟨rfl, C5.out.left⟩
set_option maxHeartbeats 12800000 in
theorem rp_add (B : World) (a : Ra) (s : Rs) (x : En) (w : World) (h : Rp B a s w) (hc : enCheck x = 0) (hl : s.D.bs.length + 100 ≤ 1048576) (h0 : 0 ≤ s.n ∧ s.n ≤ 1000000) :
    Calls Tryz.prog 232 #[.pointer (some ⟨a.r, 0, none⟩), .agg #[.string x.k, .string x.v, .bool x.d, .int .i64 x.s.c, .int .i64 x.s.s, .int .i64 x.a.c, .int .i64 x.a.s, .int .i64 x.p, .int .i64 x.g]] w fun E w' => E = .returned (.int .i64 (adC (encB x) s.D)) ∧ LeftP B a w (addS s x) w' := by
  obtain ⟨r, hr⟩ : ∃ r, a.r = r := ⟨_, rfl⟩
  have C2 := Lib.hid ((Cy.begin h).keep ((Only.refl none_ w).alloc (.cells #[.string x.k, .string x.v, .bool x.d, .int .i64 x.s.c, .int .i64 x.s.s, .int .i64 x.a.c, .int .i64 x.a.s, .int .i64 x.p, .int .i64 x.g] 82)))
  have N2 : Hid (Blk (w.alloc (.cells #[.string x.k, .string x.v, .bool x.d, .int .i64 x.s.c, .int .i64 x.s.s, .int .i64 x.a.c, .int .i64 x.a.s, .int .i64 x.p, .int .i64 x.g] 82)) w.heap.size 82 #[.string x.k, .string x.v, .bool x.d, .int .i64 x.s.c, .int .i64 x.s.s, .int .i64 x.a.c, .int .i64 x.a.s, .int .i64 x.p, .int .i64 x.g]) := Blk.new _ _ _
  obtain ⟨m, hm, ok, _, _, hb⟩ := enc_of hc
  have HEN := Lib.hid (fun (X : World) => encode_okE m X (hm ▸ hc) ok)
  rw [← hm] at HEN
  have hways := add_ways (enc_len hc).1 (enc_len hc).2 hl
  have hJ : Hid (∀ (X Y : World) (A : Option Addr) (n c : Nat), Rp B a s X → Only none_ X Y → Y.ownsRow X.heap.size 5 1 (.slice A n c) (encB x).length (byts (encB x)) →
      Calls Tryz.prog 264 #[.pointer (some ⟨a.j, 0, none⟩), .slice A n c] Y fun e w' => e = .returned (.int .i64 (adC (encB x) s.D)) ∧ LeftJ B a.dg a.j a.vd Y (adD (encB x) s.D) (adN (encB x) s.D s.n) w') := by
    intro X Y A n c hX o own
    have hY := hX.keep o
    refine add_any B a.dg a.j s.n s.D a.vd _ (encB x) _ Y hY.dk hY.jn (Byt.of_own own) (fun b hb => ?_) hY.ge.2.2.2 (fun hf => hY.dj 6 7 a.j (by decide) hf rfl) h0.1 h0.2
    have h1 := (own.lt b hb).1
    have h2 := (hX.ft_ge 6 a.dg (.inl rfl)).2
    have h3 := (hX.ft_ge 7 a.j rfl).2
    exact ⟨by omega, by omega⟩
  rw [← hb] at HEN
  have HLY : Hid (∀ (X Y : World), LeftJ B a.dg a.j a.vd X (adD (encB x) s.D) (adN (encB x) s.D s.n) Y → Rp B a s X → LeftP B a X (addS s x) Y) := fun X Y hL hX => hX.dk_set hL
  obtain ⟨z, hz⟩ : ∃ z, adC (encB x) s.D = z := ⟨_, rfl⟩
  rw [hz] at hways hJ ⊢
  generalize addS s x = s2 at HLY ⊢
  rw [hr]
  have HR := Lib.hid hr
  have z7 : (z == 7) = false := by rcases hways with h | h <;> (subst h; rfl)
  have Z7 := Lib.hid z7
  clear h hr hl h0 hc hz hways hb z7 ok hm
  have q2 := nine_of N2.out
  go_enter Tryz.func232, Tryz.ntmps232
  go_wp2_with (first
    | (go_at_call 163; refine (HEN.out _).mono ?_; rintro E w3 ⟨A, n, c, rfl, own, o3⟩
       have C3 := Lib.hid (C2.out.keep o3)
       have K3 := Lib.hid (And.intro o3 own)
       have c12 := C3.out.r.at_ HR.out (i := 12) rfl
       clear own o3)
    | (go_at_call 264; refine (hJ.out _ _ A n c C2.out.r K3.out.1 K3.out.2).mono ?_; rintro E w4 ⟨rfl, hL⟩
       have L4 := Lib.hid (HLY.out _ _ hL C3.out.r)
       have z7 := Z7.out
       clear hL))
  go_ret
  obtain ⟨a8, c8, _, _⟩ := C3.out.step L4.out
  exact ⟨rfl, c8.left⟩
end Go.Proofs.YtoohpcomnhfgpaaGreat
end
section
namespace Go.Proofs.YtoohpcomnhfgpaaGreat
open Go.RowKit
set_option maxRecDepth 100000
set_option linter.all false
structure Rky (s : Rs) : Prop where
  m : s.mks.length + 1 ≤ 100
  g : s.gr.length < 4096
  w : RisK s.own
  d : s.D.bs.length + 100 ≤ 1048576
  n : 0 ≤ s.n ∧ s.n ≤ 1000000
theorem key_small {e : En} (h : enCheck e = 0) : e.k.size ≤ maxLen := by
  have := (check_of h).2.1
  simp only [maxLen]; omega
set_option maxHeartbeats 25600000 in
theorem rp_down_ok (B : World) (a : Ra) (s : Rs) (x : En) (w : World) (h : Rp B a s w) (ok : Rky s) (hc : enCheck x = 0) (hf : fullM s.o s.tab x.k = false) (hj : adC (encB x) s.D = 0) :
    Calls Tryz.prog 194 #[.pointer (some ⟨a.r, 0, none⟩), .agg #[.string x.k, .string x.v, .bool x.d, .int .i64 x.s.c, .int .i64 x.s.s, .int .i64 x.a.c, .int .i64 x.a.s, .int .i64 x.p, .int .i64 x.g]] w fun E w' => E = .returned (.tuple #[.agg #[.string x.k, .string x.v, .bool x.d, .int .i64 x.s.c, .int .i64 x.s.s, .int .i64 x.a.c, .int .i64 x.a.s, .int .i64 x.p, .int .i64 x.g], .int .i64 0]) ∧ LeftP B a w (downS s x) w' := by
  obtain ⟨r, hr⟩ : ∃ r, a.r = r := ⟨_, rfl⟩
  have C2 := Lib.hid (((Cy.begin h).keep ((Only.refl none_ w).alloc (.cells #[.string x.k, .string x.v, .bool x.d, .int .i64 x.s.c, .int .i64 x.s.s, .int .i64 x.a.c, .int .i64 x.a.s, .int .i64 x.p, .int .i64 x.g] 82))).keep ((Only.refl none_ _).alloc (.cells #[.string ⟨#[]⟩, .string ⟨#[]⟩, .bool false, .int .i64 0, .int .i64 0, .int .i64 0, .int .i64 0, .int .i64 0, .int .i64 0] 82)))
  have N2 : Hid (Bn a w.heap.size 82 #[.string x.k, .string x.v, .bool x.d, .int .i64 x.s.c, .int .i64 x.s.s, .int .i64 x.a.c, .int .i64 x.a.s, .int .i64 x.p, .int .i64 x.g] ((w.alloc (.cells #[.string x.k, .string x.v, .bool x.d, .int .i64 x.s.c, .int .i64 x.s.s, .int .i64 x.a.c, .int .i64 x.a.s, .int .i64 x.p, .int .i64 x.g] 82)).alloc (.cells #[.string ⟨#[]⟩, .string ⟨#[]⟩, .bool false, .int .i64 0, .int .i64 0, .int .i64 0, .int .i64 0, .int .i64 0, .int .i64 0] 82))) := (Bn.new h).keep ((Only.refl none_ _).alloc _)
  have M2 : Hid (Bn a (w.heap.size + 1) 82 #[.string ⟨#[]⟩, .string ⟨#[]⟩, .bool false, .int .i64 0, .int .i64 0, .int .i64 0, .int .i64 0, .int .i64 0, .int .i64 0] ((w.alloc (.cells #[.string x.k, .string x.v, .bool x.d, .int .i64 x.s.c, .int .i64 x.s.s, .int .i64 x.a.c, .int .i64 x.a.s, .int .i64 x.p, .int .i64 x.g] 82)).alloc (.cells #[.string ⟨#[]⟩, .string ⟨#[]⟩, .bool false, .int .i64 0, .int .i64 0, .int .i64 0, .int .i64 0, .int .i64 0, .int .i64 0] 82))) := by
    have := Bn.new (t := 82) (cs := #[.string ⟨#[]⟩, .string ⟨#[]⟩, .bool false, .int .i64 0, .int .i64 0, .int .i64 0, .int .i64 0, .int .i64 0, .int .i64 0]) (h.keep ((Only.refl none_ w).alloc (.cells #[.string x.k, .string x.v, .bool x.d, .int .i64 x.s.c, .int .i64 x.s.s, .int .i64 x.a.c, .int .i64 x.a.s, .int .i64 x.p, .int .i64 x.g] 82)))
    rwa [World.size_alloc] at this
  have HA := Lib.hid (fun (X : World) (hX : Rp B a s X) => rp_add B a s x X hX hc ok.d ok.n)
  rw [hj] at HA
  obtain ⟨s2, hs2⟩ : ∃ s2, addS s x = s2 := ⟨_, rfl⟩
  obtain ⟨s3, hs3⟩ : ∃ s3, placeS s2 x = s3 := ⟨_, rfl⟩
  obtain ⟨s4, hs4⟩ : ∃ s4, noteS s3 x = s4 := ⟨_, rfl⟩
  have hd : downS s x = s4 := by rw [← hs4, ← hs3, ← hs2]; rfl
  have HPL := Lib.hid (fun (a1 : Ra) (X : World) (hX : Rp B a1 s2 X) (e1 : a1.r = r) => by
    have := ct_place B a1 s2 x X hX (by rw [← hs2]; exact hf) (key_small hc) (by rw [← hs2]; exact ok.m)
    rw [e1, show ({ s2 with tab := setE x s2.tab, z := s2.z + (hsh x - hsh ((lookE s2.tab x.k).getD enZero)), mks := putM s2.mks (mkOf x) } : Rs) = s3 from hs3] at this
    exact this)
  have HNO := Lib.hid (fun (a1 : Ra) (X : World) (hX : Rp B a1 s3 X) (e1 : a1.r = r) => by
    have := rp_note B a1 s3 x X hX (by rw [← hs3, ← hs2]; exact ok.g) (by rw [← hs3, ← hs2]; exact ok.w) (key_small hc)
    rw [e1, hs4] at this
    exact this)
  rw [hs2] at HA
  rw [hd]
  have q2 := nine_of N2.out.b
  rw [hr] at HA ⊢
  have HR := Lib.hid hr
  clear h hr ok hf hj hs2 hs3 hs4 hd hc
  go_enter Tryz.func194, Tryz.ntmps194
  go_wp2_with (first
    | (go_at_call 232; refine (HA.out _ C2.out.r).mono ?_; rintro E w3 ⟨rfl, L3⟩
       obtain ⟨a3, c3, e3, b3⟩ := C2.out.step L3
       have C3 := Lib.hid c3
       have N3 := Lib.hid (b3 _ _ _ N2.out)
       have M3 := Lib.hid (b3 _ _ _ M2.out)
       have E3 : Hid (a3.r = r) := e3.trans HR.out
       clear c3 b3 e3 L3))
  clear q2 C2 N2 M2
  (refine wp_region_steady (fun X => Only none_ w3 X) 4 (by kernel_rfl) (by kernel_rfl) ((Only.refl none_ w3).drew) ?_; simp only [List.take_succ_cons, List.take_zero, List.drop_succ_cons, List.drop_zero])
  repeat (first
    | (refine sd_value (v := ?_) (by rfl) (fun w0 hS => ?_) ?_; rotate_left; (· (have qq := nine_of (N3.out.keep hS).b; go_simp; try (with_reducible rfl))); try simp only [Act.put, List.setIfInBounds_toArray, List.set_cons_zero, List.set_cons_succ]))
  refine sd_nil ?_
  intro w4 t4
  have C4 := Lib.hid (C3.out.keep t4)
  have N4 := Lib.hid (N3.out.keep t4)
  have M4 := Lib.hid (M3.out.keep t4)
  clear t4
  go_wp2_with (first
    | (go_at_call 116; refine (HPL.out a3 _ C4.out.r E3.out).mono ?_; rintro E w5 ⟨rfl, L5⟩
       obtain ⟨a5, c5, e5, b5⟩ := C4.out.step L5
       have C5 := Lib.hid c5
       have N5 := Lib.hid (b5 _ _ _ N4.out)
       have M5 := Lib.hid (b5 _ _ _ M4.out)
       have E5 : Hid (a5.r = r) := e5.trans E3.out
       have q5 := nine_of N5.out.b
       clear c5 b5 e5 L5)
    | (go_at_call 117; refine (HNO.out a5 _ C5.out.r E5.out).mono ?_; rintro E w6 ⟨rfl, L6⟩
       obtain ⟨a6, c6, e6, b6⟩ := C5.out.step L6
       have C6 := Lib.hid c6
       have N6 := Lib.hid (b6 _ _ _ N5.out)
       have M6 := Lib.hid (b6 _ _ _ M5.out)
       have q6 := nine_of N6.out.b
       clear c6 b6 e6 L6)
    | (refine wpList_store_row rfl 82 _ _ rfl (w.heap.size + 1) #[.string x.k, .string x.v, .bool x.d, .int .i64 x.s.c, .int .i64 x.s.s, .int .i64 x.a.c, .int .i64 x.a.s, .int .i64 x.p, .int .i64 x.g] rfl rfl _ _ M6.out.b (by kernel_rfl) (by kernel_rfl) (en_cells_one _) ?_))
  refine bodyPost_ret (results_cell_tmp rfl _ _ (w.heap.size + 1) 82 #[.string x.k, .string x.v, .bool x.d, .int .i64 x.s.c, .int .i64 x.s.s, .int .i64 x.a.c, .int .i64 x.a.s, .int .i64 x.p, .int .i64 x.g] _ rfl (M6.out.b.setRow _) Tryz.underlying82 rfl (by kernel_rfl) (.int .i64 0) rfl) rfl ?_
  exact ⟨rfl, (C6.out.box M6.out (by omega) (only_row _ _)).left⟩
set_option maxHeartbeats 25600000 in
theorem rp_down_no (B : World) (a : Ra) (s : Rs) (x : En) (w : World) (h : Rp B a s w) (ok : Rky s) (hc : enCheck x = 0) (hj : adC (encB x) s.D ≠ 0) :
    Calls Tryz.prog 194 #[.pointer (some ⟨a.r, 0, none⟩), .agg #[.string x.k, .string x.v, .bool x.d, .int .i64 x.s.c, .int .i64 x.s.s, .int .i64 x.a.c, .int .i64 x.a.s, .int .i64 x.p, .int .i64 x.g]] w fun E w' => E = .returned (.tuple #[.agg #[.string ⟨#[]⟩, .string ⟨#[]⟩, .bool false, .int .i64 0, .int .i64 0, .int .i64 0, .int .i64 0, .int .i64 0, .int .i64 0], .int .i64 (adC (encB x) s.D)]) ∧ LeftP B a w (addS s x) w' := by
  obtain ⟨r, hr⟩ : ∃ r, a.r = r := ⟨_, rfl⟩
  have C2 := Lib.hid (((Cy.begin h).keep ((Only.refl none_ w).alloc (.cells #[.string x.k, .string x.v, .bool x.d, .int .i64 x.s.c, .int .i64 x.s.s, .int .i64 x.a.c, .int .i64 x.a.s, .int .i64 x.p, .int .i64 x.g] 82))).keep ((Only.refl none_ _).alloc (.cells #[.string ⟨#[]⟩, .string ⟨#[]⟩, .bool false, .int .i64 0, .int .i64 0, .int .i64 0, .int .i64 0, .int .i64 0, .int .i64 0] 82)))
  have N2 : Hid (Bn a w.heap.size 82 #[.string x.k, .string x.v, .bool x.d, .int .i64 x.s.c, .int .i64 x.s.s, .int .i64 x.a.c, .int .i64 x.a.s, .int .i64 x.p, .int .i64 x.g] ((w.alloc (.cells #[.string x.k, .string x.v, .bool x.d, .int .i64 x.s.c, .int .i64 x.s.s, .int .i64 x.a.c, .int .i64 x.a.s, .int .i64 x.p, .int .i64 x.g] 82)).alloc (.cells #[.string ⟨#[]⟩, .string ⟨#[]⟩, .bool false, .int .i64 0, .int .i64 0, .int .i64 0, .int .i64 0, .int .i64 0, .int .i64 0] 82))) := (Bn.new h).keep ((Only.refl none_ _).alloc _)
  have M2 : Hid (Bn a (w.heap.size + 1) 82 #[.string ⟨#[]⟩, .string ⟨#[]⟩, .bool false, .int .i64 0, .int .i64 0, .int .i64 0, .int .i64 0, .int .i64 0, .int .i64 0] ((w.alloc (.cells #[.string x.k, .string x.v, .bool x.d, .int .i64 x.s.c, .int .i64 x.s.s, .int .i64 x.a.c, .int .i64 x.a.s, .int .i64 x.p, .int .i64 x.g] 82)).alloc (.cells #[.string ⟨#[]⟩, .string ⟨#[]⟩, .bool false, .int .i64 0, .int .i64 0, .int .i64 0, .int .i64 0, .int .i64 0, .int .i64 0] 82))) := by
    have := Bn.new (t := 82) (cs := #[.string ⟨#[]⟩, .string ⟨#[]⟩, .bool false, .int .i64 0, .int .i64 0, .int .i64 0, .int .i64 0, .int .i64 0, .int .i64 0]) (h.keep ((Only.refl none_ w).alloc (.cells #[.string x.k, .string x.v, .bool x.d, .int .i64 x.s.c, .int .i64 x.s.s, .int .i64 x.a.c, .int .i64 x.a.s, .int .i64 x.p, .int .i64 x.g] 82)))
    rwa [World.size_alloc] at this
  have HA := Lib.hid (fun (X : World) (hX : Rp B a s X) => rp_add B a s x X hX hc ok.d ok.n)
  obtain ⟨j, hjj⟩ : ∃ j, adC (encB x) s.D = j := ⟨_, rfl⟩
  rw [hjj] at HA hj ⊢
  generalize addS s x = s2 at HA ⊢
  have q2 := nine_of N2.out.b
  rw [hr] at HA ⊢
  have hz : (j != 0) = true := by simpa using hj
  clear h hr ok hj hc hjj
  go_enter Tryz.func194, Tryz.ntmps194
  go_wp2_with (first
    | (go_at_call 232; refine (HA.out _ C2.out.r).mono ?_; rintro E w3 ⟨rfl, L3⟩
       obtain ⟨a3, c3, e3, b3⟩ := C2.out.step L3
       have C3 := Lib.hid c3
       have M3 := Lib.hid (b3 _ _ _ M2.out)
       clear c3 b3 e3 L3)
    | (refine wpList_store_row rfl 82 _ _ rfl (w.heap.size + 1) #[.string ⟨#[]⟩, .string ⟨#[]⟩, .bool false, .int .i64 0, .int .i64 0, .int .i64 0, .int .i64 0, .int .i64 0, .int .i64 0] rfl rfl _ _ M3.out.b (by kernel_rfl) (by kernel_rfl) (by kernel_rfl) ?_))
  refine bodyPost_ret (results_cell_tmp rfl _ _ (w.heap.size + 1) 82 #[.string ⟨#[]⟩, .string ⟨#[]⟩, .bool false, .int .i64 0, .int .i64 0, .int .i64 0, .int .i64 0, .int .i64 0, .int .i64 0] _ rfl (M3.out.b.setRow _) Tryz.underlying82 rfl (by kernel_rfl) (.int .i64 j) rfl) rfl ?_
  exact ⟨rfl, (C3.out.box M3.out (by omega) (only_row _ _)).left⟩
def dnR (s : Rs) (x : En) : Rs × En × Int := if adC (encB x) s.D = 0 then (downS s x, x, 0) else (addS s x, enZero, adC (encB x) s.D)
theorem rp_down (B : World) (a : Ra) (s : Rs) (x : En) (w : World) (h : Rp B a s w) (ok : Rky s) (hc : enCheck x = 0) (hf : fullM s.o s.tab x.k = false) :
    Calls Tryz.prog 194 #[.pointer (some ⟨a.r, 0, none⟩), .agg #[.string x.k, .string x.v, .bool x.d, .int .i64 x.s.c, .int .i64 x.s.s, .int .i64 x.a.c, .int .i64 x.a.s, .int .i64 x.p, .int .i64 x.g]] w fun E w' => E = .returned (.tuple #[.agg #[.string (dnR s x).2.1.k, .string (dnR s x).2.1.v, .bool (dnR s x).2.1.d, .int .i64 (dnR s x).2.1.s.c, .int .i64 (dnR s x).2.1.s.s, .int .i64 (dnR s x).2.1.a.c, .int .i64 (dnR s x).2.1.a.s, .int .i64 (dnR s x).2.1.p, .int .i64 (dnR s x).2.1.g], .int .i64 (dnR s x).2.2]) ∧ LeftP B a w (dnR s x).1 w' := by
  by_cases hj : adC (encB x) s.D = 0
  · rw [dnR, if_pos hj]; exact rp_down_ok B a s x w h ok hc hf hj
  · rw [dnR, if_neg hj]; exact rp_down_no B a s x w h ok hc hj
end Go.Proofs.YtoohpcomnhfgpaaGreat
end
section
namespace Go.Proofs.YtoohpcomnhfgpaaGreat
open Go.RowKit
set_option linter.all false
theorem peek_ok (g : Nat) (S : Nat → Prop) (b : UInt8) (bs : List UInt8) (w : World) (h : Rd w g S 0 (b :: bs)) (hm : bs.length < 9223372036854775807) :
    Calls Tryz.prog 279 #[.pointer (some ⟨g, 0, none⟩)] w fun e w' =>
      e = .returned (.tuple #[.int .u8 (b.toNat : Int), .bool true]) ∧ w = w' := by
  have H := Lib.hid h
  obtain ⟨A, c, hb, hy, hs⟩ := h
  have h1 : w.cell? ⟨g, 1, none⟩ = some (.slice A (b :: bs).length c) := hb.cell_ rfl
  obtain ⟨A', c', he, _, _, _, h5⟩ := hy
  injection he with e1 e2 e3
  subst e1 e3
  obtain ⟨k, off, rfl, _, _, hc⟩ := h5 (by simp)
  have h2 := hc 0 (by simp)
  simp only [byt, List.getElem_cons_zero, Nat.add_zero] at h2
  simp only [List.length_cons] at h1
  clear hb h5 hc
  go_enter Tryz.func279, Tryz.ntmps279
  go_wp2_with (first
      | (go_at_call 221; refine (reader_err _ _ _ _ _ H.out).mono ?_; rintro e w' ⟨rfl, rfl⟩))
  go_ret2
  exact ⟨rfl, rfl⟩
def peekCode (code : Int) (bs : List UInt8) : Int := if bs.length = 0 then first_ code 6 else code
theorem peek_no (g : Nat) (S : Nat → Prop) (code : Int) (bs : List UInt8) (w : World) (h : Rd w g S code bs) (hn : code ≠ 0 ∨ bs.length = 0) (_hm : bs.length ≤ 9223372036854775807) :
    Calls Tryz.prog 279 #[.pointer (some ⟨g, 0, none⟩)] w fun e w' =>
      e = .returned (.tuple #[.int .u8 0, .bool false]) ∧ Rd w' g S (peekCode code bs) bs ∧ Only (one g) w w' := by
  have H := Lib.hid h
  obtain ⟨A, c, hb, hy, hs⟩ := h
  have h1 : w.cell? ⟨g, 1, none⟩ = some (.slice A bs.length c) := hb.cell_ rfl
  clear hb hy
  by_cases h0 : bs.length = 0
  · have HT : Hid (peekCode code bs = first_ code 6) := by simp only [Hid, peekCode, if_pos h0]
    have hf : (first_ code 6 != 0) = true := by unfold first_; split <;> simp_all
    have ht : ((bs.length : Int) == 0) = true := by simp [h0]
    clear hn h0
    go_enter Tryz.func279, Tryz.ntmps279
    go_wp2_with (first
      | (go_at_call 220; refine (reader_fail _ _ _ _ _ _ H.out).mono ?_; rintro e w1 ⟨rfl, h2, o2⟩; have H2 := Lib.hid h2; clear h2)
      | (go_at_call 221; refine (reader_err _ _ _ _ _ H2.out).mono ?_; rintro e w' ⟨rfl, rfl⟩))
    go_ret2
    rw [HT.out]
    exact ⟨rfl, H2.out, o2⟩
  · have HT : Hid (peekCode code bs = code) := by simp only [Hid, peekCode, if_neg h0]
    have hf : (code != 0) = true := by rcases hn with h | h <;> simp_all
    have ht : ((bs.length : Int) == 0) = false := by simp only [beq_eq_false_iff_ne, ne_eq]; omega
    clear hn h0
    go_enter Tryz.func279, Tryz.ntmps279
    go_wp2_with (first
      | (go_at_call 221; refine (reader_err _ _ _ _ _ H.out).mono ?_; rintro e w' ⟨rfl, rfl⟩))
    go_ret2
    rw [HT.out]
    exact ⟨rfl, H.out, Only.refl _ _⟩
end Go.Proofs.YtoohpcomnhfgpaaGreat
end
section
namespace Go.Proofs.YtoohpcomnhfgpaaGreat
open Go.RowKit
set_option linter.all false
def flagR (code : Int) (bs : List UInt8) : Int × List UInt8 × Bool :=
  match bs with
  | [] => (first_ code 6, [], false)
  | b :: r => if code ≠ 0 then (code, b :: r, false) else if 1 < b.toNat then (4, b :: r, false) else (0, r, decide (b.toNat = 1))
theorem peekCode_cons (code : Int) (b : UInt8) (r : List UInt8) : peekCode code (b :: r) = code := by simp [peekCode]
theorem peekCode_nil (code : Int) : peekCode code [] = first_ code 6 := by simp [peekCode]
theorem reader_flag (g : Nat) (S : Nat → Prop) (code : Int) (bs : List UInt8) (w : World) (h : Rd w g S code bs) (hm : bs.length ≤ 140737488355328) :
    Calls Tryz.prog 256 #[.pointer (some ⟨g, 0, none⟩)] w fun e w' =>
      e = .returned (.bool (flagR code bs).2.2) ∧ Rd w' g S (flagR code bs).1 (flagR code bs).2.1 ∧ Only (one g) w w' := by
  have H := Lib.hid h
  clear h
  by_cases hc : code ≠ 0 ∨ bs.length = 0
  · have HR : Hid (flagR code bs = (peekCode code bs, bs, false)) := by
      cases bs with
      | nil => simp [Hid, flagR, peekCode_nil]
      | cons b r =>
        have : code ≠ 0 := by simpa using hc
        simp [Hid, flagR, peekCode_cons, this]
    have HC := Lib.hid hc
    clear hc
    go_enter Tryz.func256, Tryz.ntmps256
    go_wp2_with (first
        | (go_at_call 279; refine (peek_no _ _ _ _ _ H.out HC.out (by omega)).mono ?_; rintro e w1 ⟨rfl, h2, o2⟩; have H2 := Lib.hid h2; clear h2))
    go_ret
    rw [HR.out]
    exact ⟨rfl, H2.out, o2⟩
  · obtain ⟨rfl, h1⟩ : code = 0 ∧ bs.length ≠ 0 := by
      refine ⟨Classical.byContradiction fun h => hc (.inl h), fun h => hc (.inr h)⟩
    clear hc
    match bs, h1, H, hm with
    | b :: r, _, H, hm =>
    have hb := b.toNat_lt
    simp only [List.length_cons] at hm
    by_cases hb1 : 1 < b.toNat
    · have HR : Hid (flagR 0 (b :: r) = (first_ 0 4, b :: r, false)) := by simp [Hid, flagR, hb1, first_]
      go_enter Tryz.func256, Tryz.ntmps256
      go_wp2_with (first
        | (go_at_call 279; refine (peek_ok _ _ _ _ _ H.out (by omega)).mono ?_; rintro e w' ⟨rfl, rfl⟩)
        | (go_at_call 220; refine (reader_fail _ _ _ _ _ _ H.out).mono ?_; rintro e w1 ⟨rfl, h2, o2⟩; have H2 := Lib.hid h2; clear h2))
      go_ret
      rw [HR.out]
      exact ⟨rfl, H2.out, o2⟩
    · have HR : Hid (flagR 0 (b :: r) = (0, r, decide (b.toNat = 1))) := by simp [Hid, flagR, hb1]
      go_enter Tryz.func256, Tryz.ntmps256
      go_wp2_with (first
        | (go_at_call 279; refine (peek_ok _ _ _ _ _ H.out (by omega)).mono ?_; rintro e w' ⟨rfl, rfl⟩)
        | (go_at_call 277; refine (take_ok _ _ _ 1 _ H.out (by simp) (by simp only [List.length_cons]; omega)).mono ?_; rintro e w1 ⟨A, c, rfl, hb1, h2, o2⟩; have H2 := Lib.hid h2; clear h2))
      go_ret
      rw [HR.out]
      refine ⟨?_, H2.out, o2⟩
      show Ending.returned (.bool ((b.toNat : Int) == 1)) = .returned (.bool (decide (b.toNat = 1)))
      congr 2
      rw [Bool.eq_iff_iff]
      simp only [beq_iff_eq, decide_eq_true_eq]
      omega
def textR (code : Int) (bs : List UInt8) (most : Int) : Int × List UInt8 × List UInt8 :=
  match bs with
  | [] => (first_ code 6, [], [])
  | b :: r => if code ≠ 0 then (code, b :: r, []) else if most < (b.toNat : Int) then (4, b :: r, []) else if r.length < b.toNat then (6, b :: r, []) else (0, r.drop b.toNat, r.take b.toNat)
set_option maxRecDepth 100000 in
set_option maxHeartbeats 400000 in
theorem reader_text (g : Nat) (S : Nat → Prop) (code : Int) (bs : List UInt8) (most : Int) (w : World) (h : Rd w g S code bs) (hm : bs.length ≤ 140737488355328) :
    Calls Tryz.prog 255 #[.pointer (some ⟨g, 0, none⟩), .int .i64 most] w fun e w' =>
      e = .returned (.string ⟨(textR code bs most).2.2.toArray⟩) ∧ Rd w' g S (textR code bs most).1 (textR code bs most).2.1 ∧ Only (one g) w w' := by
  have H := Lib.hid h
  clear h
  by_cases hc : code ≠ 0 ∨ bs.length = 0
  · have HR : Hid (textR code bs most = (peekCode code bs, bs, [])) := by
      cases bs with
      | nil => simp [Hid, textR, peekCode_nil]
      | cons b r =>
        have : code ≠ 0 := by simpa using hc
        simp [Hid, textR, peekCode_cons, this]
    have HC := Lib.hid hc
    clear hc
    go_enter Tryz.func255, Tryz.ntmps255
    go_wp2_with (first
        | (go_at_call 279; refine (peek_no _ _ _ _ _ H.out HC.out (by omega)).mono ?_; rintro e w1 ⟨rfl, h2, o2⟩; have H2 := Lib.hid h2; clear h2))
    go_ret
    rw [HR.out]
    exact ⟨rfl, H2.out, o2⟩
  · obtain ⟨rfl, h1⟩ : code = 0 ∧ bs.length ≠ 0 := by
      refine ⟨Classical.byContradiction fun h => hc (.inl h), fun h => hc (.inr h)⟩
    clear hc
    match bs, h1, H, hm with
    | b :: r, _, H, hm =>
    have hb := b.toNat_lt
    simp only [List.length_cons] at hm
    by_cases hb1 : most < (b.toNat : Int)
    · have HR : Hid (textR 0 (b :: r) most = (first_ 0 4, b :: r, [])) := by simp [Hid, textR, hb1, first_]
      go_enter Tryz.func255, Tryz.ntmps255
      go_wp2_with (first
        | (go_at_call 279; refine (peek_ok _ _ _ _ _ H.out (by omega)).mono ?_; rintro e w' ⟨rfl, rfl⟩)
        | (go_at_call 220; refine (reader_fail _ _ _ _ _ _ H.out).mono ?_; rintro e w1 ⟨rfl, h2, o2⟩; have H2 := Lib.hid h2; clear h2))
      go_ret
      rw [HR.out]
      exact ⟨rfl, H2.out, o2⟩
    · by_cases hl : r.length < b.toNat
      · have HR : Hid (textR 0 (b :: r) most = (takeCode 0 (b :: r) (1 + b.toNat), b :: r, [])) := by
          have h6 : r.length + 1 < 1 + b.toNat := by omega
          simp [Hid, textR, takeCode, first_, hb1, hl, h6]
        have HT := take_no g S 0 (b :: r) (1 + b.toNat) w H.out (.inr (by simp only [List.length_cons]; omega)) (by simp only [List.length_cons]; omega)
        rw [show ((1 + b.toNat : Nat) : Int) = 1 + (b.toNat : Int) from by omega] at HT
        go_enter Tryz.func255, Tryz.ntmps255
        go_wp2_with (first
          | (go_at_call 279; refine (peek_ok _ _ _ _ _ H.out (by omega)).mono ?_; rintro e w' ⟨rfl, rfl⟩)
          | (go_at_call 277; refine HT.mono ?_; rintro e w1 ⟨rfl, h2, o2⟩; have H2 := Lib.hid h2; clear h2))
        go_ret
        rw [HR.out]
        exact ⟨rfl, H2.out, o2⟩
      · have HR : Hid (textR 0 (b :: r) most = (0, (b :: r).drop (1 + b.toNat), ((b :: r).take (1 + b.toNat)).tail)) := by
          simp only [Hid, textR, hb1, hl, if_false]
          rw [Nat.add_comm 1]
          simp
        have HT := take_ok g S (b :: r) (1 + b.toNat) w H.out (by simp only [List.length_cons]; omega) (by simp only [List.length_cons]; omega)
        rw [show ((1 + b.toNat : Nat) : Int) = 1 + (b.toNat : Int) from by omega] at HT
        obtain ⟨i0, hi0, _, hz1, _⟩ := info_parts u8_info
        have HI := Lib.hid hi0
        have HZ := Lib.hid hz1
        clear hi0 hz1
        go_enter Tryz.func255, Tryz.ntmps255
        go_wp2_with (first
          | (go_at_call 279; refine (peek_ok _ _ _ _ _ H.out (by omega)).mono ?_; rintro e w' ⟨rfl, rfl⟩)
          | (go_at_call 277; refine HT.mono ?_; rintro e w1 ⟨A, c, rfl, hb2, h2, o2⟩
             obtain ⟨A2, L2, c2, r2, b2⟩ := byt_lo Tryz.underlying114 HI.out HZ.out hb2 1 (by omega) 1 rfl
             have hs2 := run_bytes_string w1 _ _ _ b2
             have H2 := Lib.hid h2; clear h2 hb2 b2))
        go_ret
        rw [HR.out]
        exact ⟨rfl, H2.out, o2⟩
end Go.Proofs.YtoohpcomnhfgpaaGreat
end
