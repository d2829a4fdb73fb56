/- The call of EntryOrders answers yes, and changes nothing that was there. The statement itself is proved in another text. -/
import Derived.Test.YtkddmdgehnijiaaEnG
import Derived.Test.YtkddmdgehnijiaaEnL
import Derived.Test.YtkddmdgehnijiaaEnN
import Derived.Test.YtkddmdgehnijiaaFlo
namespace Go.Proofs.Ytkddmdgehnijiaa
open Go.RowKit
set_option maxRecDepth 100000
set_option linter.all false

/-- Three entries in three blocks; all else as in B. -/
structure Tri (B : World) (g h k : Nat) (t : TypeId) (a b c : En) (w : World) : Prop where
  x : Blk w g t #[.string a.k, .string a.v, .bool a.d, .int .i64 a.s.c, .int .i64 a.s.s, .int .i64 a.a.c, .int .i64 a.a.s, .int .i64 a.p, .int .i64 a.g]
  y : Blk w h t #[.string b.k, .string b.v, .bool b.d, .int .i64 b.s.c, .int .i64 b.s.s, .int .i64 b.a.c, .int .i64 b.a.s, .int .i64 b.p, .int .i64 b.g]
  z : Blk w k t #[.string c.k, .string c.v, .bool c.d, .int .i64 c.s.c, .int .i64 c.s.s, .int .i64 c.a.c, .int .i64 c.a.s, .int .i64 c.p, .int .i64 c.g]
  ho : Only none_ B w
section
variable {B w w' : World} {g h k : Nat} {t : TypeId} {a b c : En}
theorem Tri.keep (s : Tri B g h k t a b c w) (o : Only none_ w w') : Tri B g h k t a b c w' := ⟨s.x.only o (fun h => h), s.y.only o (fun h => h), s.z.only o (fun h => h), s.ho.trans o⟩
theorem Tri.cells (s : Tri B g h k t a b c w) : Nine w g (.string a.k) (.string a.v) (.bool a.d) (.int .i64 a.s.c) (.int .i64 a.s.s) (.int .i64 a.a.c) (.int .i64 a.a.s) (.int .i64 a.p) (.int .i64 a.g) ∧
    Nine w h (.string b.k) (.string b.v) (.bool b.d) (.int .i64 b.s.c) (.int .i64 b.s.s) (.int .i64 b.a.c) (.int .i64 b.a.s) (.int .i64 b.p) (.int .i64 b.g) ∧
    Nine w k (.string c.k) (.string c.v) (.bool c.d) (.int .i64 c.s.c) (.int .i64 c.s.s) (.int .i64 c.a.c) (.int .i64 c.a.s) (.int .i64 c.p) (.int .i64 c.g) := ⟨nine_of s.x, nine_of s.y, nine_of s.z⟩
end
theorem Tri.new (W : World) (t : TypeId) (a b c : En) : Tri W W.heap.size (W.heap.size + 1) (W.heap.size + 1 + 1) t a b c (((W.alloc (.cells #[.string a.k, .string a.v, .bool a.d, .int .i64 a.s.c, .int .i64 a.s.s, .int .i64 a.a.c, .int .i64 a.a.s, .int .i64 a.p, .int .i64 a.g] t)).alloc (.cells #[.string b.k, .string b.v, .bool b.d, .int .i64 b.s.c, .int .i64 b.s.s, .int .i64 b.a.c, .int .i64 b.a.s, .int .i64 b.p, .int .i64 b.g] t)).alloc (.cells #[.string c.k, .string c.v, .bool c.d, .int .i64 c.s.c, .int .i64 c.s.s, .int .i64 c.a.c, .int .i64 c.a.s, .int .i64 c.p, .int .i64 c.g] t)) := by
  refine ⟨((Blk.new W t _).alloc _).alloc _, ?_, ?_, (((Only.refl _ W).alloc _).alloc _).alloc _⟩
  · have := (Blk.new (W.alloc (.cells #[.string a.k, .string a.v, .bool a.d, .int .i64 a.s.c, .int .i64 a.s.s, .int .i64 a.a.c, .int .i64 a.a.s, .int .i64 a.p, .int .i64 a.g] t)) t #[.string b.k, .string b.v, .bool b.d, .int .i64 b.s.c, .int .i64 b.s.s, .int .i64 b.a.c, .int .i64 b.a.s, .int .i64 b.p, .int .i64 b.g]).alloc (.cells #[.string c.k, .string c.v, .bool c.d, .int .i64 c.s.c, .int .i64 c.s.s, .int .i64 c.a.c, .int .i64 c.a.s, .int .i64 c.p, .int .i64 c.g] t)
    simpa using this
  · have := Blk.new ((W.alloc (.cells #[.string a.k, .string a.v, .bool a.d, .int .i64 a.s.c, .int .i64 a.s.s, .int .i64 a.a.c, .int .i64 a.a.s, .int .i64 a.p, .int .i64 a.g] t)).alloc (.cells #[.string b.k, .string b.v, .bool b.d, .int .i64 b.s.c, .int .i64 b.s.s, .int .i64 b.a.c, .int .i64 b.a.s, .int .i64 b.p, .int .i64 b.g] t)) t #[.string c.k, .string c.v, .bool c.d, .int .i64 c.s.c, .int .i64 c.s.s, .int .i64 c.a.c, .int .i64 c.a.s, .int .i64 c.p, .int .i64 c.g]
    simpa using this

theorem en_one (e : En) : (#[.string e.k, .string e.v, .bool e.d, .int .i64 e.s.c, .int .i64 e.s.s, .int .i64 e.a.c, .int .i64 e.a.s, .int .i64 e.p, .int .i64 e.g] : Array Value).all (·.oneCell') = true := by simp [Value.oneCell']

/-- Two entries of the document's, three of the program's; all else as in B. -/
structure Fiv (B : World) (ga gb gx gy gz : Nat) (a b c : En) (w : World) : Prop where
  A : Blk w ga 25 #[.string a.k, .string a.v, .bool a.d, .int .i64 a.s.c, .int .i64 a.s.s, .int .i64 a.a.c, .int .i64 a.a.s, .int .i64 a.p, .int .i64 a.g]
  C : Blk w gb 25 #[.string b.k, .string b.v, .bool b.d, .int .i64 b.s.c, .int .i64 b.s.s, .int .i64 b.a.c, .int .i64 b.a.s, .int .i64 b.p, .int .i64 b.g]
  X : Blk w gx 35 #[.string a.k, .string a.v, .bool a.d, .int .i64 a.s.c, .int .i64 a.s.s, .int .i64 a.a.c, .int .i64 a.a.s, .int .i64 a.p, .int .i64 a.g]
  Y : Blk w gy 35 #[.string b.k, .string b.v, .bool b.d, .int .i64 b.s.c, .int .i64 b.s.s, .int .i64 b.a.c, .int .i64 b.a.s, .int .i64 b.p, .int .i64 b.g]
  Z : Blk w gz 35 #[.string c.k, .string c.v, .bool c.d, .int .i64 c.s.c, .int .i64 c.s.s, .int .i64 c.a.c, .int .i64 c.a.s, .int .i64 c.p, .int .i64 c.g]
  ho : Only none_ B w
section
variable {B w w' : World} {ga gb gx gy gz : Nat} {a b c : En}
theorem Fiv.keep (s : Fiv B ga gb gx gy gz a b c w) (o : Only none_ w w') : Fiv B ga gb gx gy gz a b c w' :=
  ⟨s.A.only o (fun h => h), s.C.only o (fun h => h), s.X.only o (fun h => h), s.Y.only o (fun h => h), s.Z.only o (fun h => h), s.ho.trans o⟩
theorem Fiv.cells (s : Fiv B ga gb gx gy gz a b c w) : (w.cell? ⟨ga, 3, none⟩ = some (.int .i64 a.s.c) ∧ w.cell? ⟨ga, 4, none⟩ = some (.int .i64 a.s.s) ∧ w.cell? ⟨ga, 5, none⟩ = some (.int .i64 a.a.c) ∧ w.cell? ⟨ga, 6, none⟩ = some (.int .i64 a.a.s)) ∧
    w.cell? ⟨gb, 3, none⟩ = some (.int .i64 b.s.c) ∧ w.cell? ⟨gb, 4, none⟩ = some (.int .i64 b.s.s) ∧ w.cell? ⟨gb, 5, none⟩ = some (.int .i64 b.a.c) ∧ w.cell? ⟨gb, 6, none⟩ = some (.int .i64 b.a.s) :=
  ⟨⟨s.A.cell_ rfl, s.A.cell_ rfl, s.A.cell_ rfl, s.A.cell_ rfl⟩, s.C.cell_ rfl, s.C.cell_ rfl, s.C.cell_ rfl, s.C.cell_ rfl⟩
end

set_option maxHeartbeats 12800000 in
theorem orders_three (a b c : En) (W : World) :
    Calls Try.prog 7 #[.agg #[.string a.k, .string a.v, .bool a.d, .int .i64 a.s.c, .int .i64 a.s.s, .int .i64 a.a.c, .int .i64 a.a.s, .int .i64 a.p, .int .i64 a.g], .agg #[.string b.k, .string b.v, .bool b.d, .int .i64 b.s.c, .int .i64 b.s.s, .int .i64 b.a.c, .int .i64 b.a.s, .int .i64 b.p, .int .i64 b.g], .agg #[.string c.k, .string c.v, .bool c.d, .int .i64 c.s.c, .int .i64 c.s.s, .int .i64 c.a.c, .int .i64 c.a.s, .int .i64 c.p, .int .i64 c.g]] W fun E w' => E = .returned (.bool true) ∧ Below W.heap.size W w' := by
  have T := Lib.hid (Tri.new W 25 a b c)
  have HA := fun w => rf_short a w
  have HB := fun w => rf_short b w
  have HC := fun w => rf_short c w
  generalize enShort a = sa at HA
  generalize enShort b = sb at HB
  generalize enShort c = sc at HC
  have ha := Lib.hid HA
  have hb := Lib.hid HB
  have hc := Lib.hid HC
  clear HA HB HC
  have tokA : True := trivial
  cases sa
  · go_enter Try.func7, Try.ntmps7
    go_wp2_with (first
      | (go_at_call 10; refine (en_speaks _).mono ?_; rintro E w9 ⟨rfl, rfl⟩)
      | (go_at_call 11; refine (ha.out _).mono ?_; rintro E w1 ⟨rfl, o1⟩; have t1 := Lib.hid (T.out.keep o1); clear o1))
    go_ret
    exact ⟨rfl, t1.out.ho.below (Nat.le_refl _) (fun k hk => hk.elim)⟩
  · cases sb
    · go_enter Try.func7, Try.ntmps7
      go_wp2_with (first
        | (go_at_call 10; refine (en_speaks _).mono ?_; rintro E w9 ⟨rfl, rfl⟩)
        | (go_at_call 11; have _t := tokA; refine (ha.out _).mono ?_; rintro E w1 ⟨rfl, o1⟩; have t1 := Lib.hid (T.out.keep o1); have q1 := t1.out.cells; clear o1 tokA)
        | (go_at_call 11; refine (hb.out _).mono ?_; rintro E w2 ⟨rfl, o2⟩; have t2 := Lib.hid (t1.out.keep o2); clear o2))
      go_ret
      exact ⟨rfl, t2.out.ho.below (Nat.le_refl _) (fun k hk => hk.elim)⟩
    · have tokB : True := trivial
      cases sc
      · go_enter Try.func7, Try.ntmps7
        go_wp2_with (first
          | (go_at_call 10; refine (en_speaks _).mono ?_; rintro E w9 ⟨rfl, rfl⟩)
          | (go_at_call 11; have _t := tokA; refine (ha.out _).mono ?_; rintro E w1 ⟨rfl, o1⟩; have t1 := Lib.hid (T.out.keep o1); have q1 := t1.out.cells; clear o1 tokA)
          | (go_at_call 11; have _t := tokB; refine (hb.out _).mono ?_; rintro E w2 ⟨rfl, o2⟩; have t2 := Lib.hid (t1.out.keep o2); have q2 := t2.out.cells; clear o2 tokB)
          | (go_at_call 11; refine (hc.out _).mono ?_; rintro E w3 ⟨rfl, o3⟩; have t3 := Lib.hid (t2.out.keep o3); clear o3))
        go_ret
        exact ⟨rfl, t3.out.ho.below (Nat.le_refl _) (fun k hk => hk.elim)⟩
      · go_enter Try.func7, Try.ntmps7
        go_wp2_with (first
          | (go_at_call 10; refine (en_speaks _).mono ?_; rintro E w9 ⟨rfl, rfl⟩)
          | (go_at_call 11; have _t := tokA; refine (ha.out _).mono ?_; rintro E w1 ⟨rfl, o1⟩; have t1 := Lib.hid (T.out.keep o1); have q1 := t1.out.cells; clear o1 tokA)
          | (go_at_call 11; have _t := tokB; refine (hb.out _).mono ?_; rintro E w2 ⟨rfl, o2⟩; have t2 := Lib.hid (t1.out.keep o2); have q2 := t2.out.cells; clear o2 tokB)
          | (go_at_call 11; refine (hc.out _).mono ?_; rintro E w3 ⟨rfl, o3⟩; have t3 := Lib.hid (t2.out.keep o3); clear o3))
        clear q1 q2
        (refine wp_region_float (fun w' => Tri W W.heap.size (W.heap.size + 1) (W.heap.size + 1 + 1) 25 a b c w') (W.heap.size) 9 (by kernel_rfl) (by kernel_rfl) (t3.out.keep (Only.refl none_ w3).drew) (fun w h => h.ho.size) (fun w cs t h => h.keep ((Only.refl none_ w).alloc _)) ?_; simp only [List.take_succ_cons, List.take_zero, List.drop_succ_cons, List.drop_zero])
        repeat (first
          | (refine fl_value (v := ?_) (by rfl) (by rfl) (fun w0 hS => ?_) ?_; rotate_left; (· (have hc := hS.cells; go_simp; try (with_reducible rfl))); try simp only [Act.put, List.setIfInBounds_toArray, List.set_cons_zero, List.set_cons_succ, Nat.reduceAdd])
          | (refine fl_call (v := ?_) (f := 14) (args := ?_) (by rfl) (by rfl) (fun w0 hS => ?_) (fun w0 hS => ?_) ?_; rotate_left 2; (· (have hc := hS.cells; go_simp; try (with_reducible rfl))); (· (refine (en_of _ _).mono ?_; rintro E w9 ⟨rfl, o9⟩; refine ⟨?_, hS.keep o9, o9⟩; rfl)); try simp only [Act.put, List.setIfInBounds_toArray, List.set_cons_zero, List.set_cons_succ, Nat.reduceAdd]))
        (refine fl_make 7 35 #[.string ⟨#[]⟩, .string ⟨#[]⟩, .bool false, .int .i64 0, .int .i64 0, .int .i64 0, .int .i64 0, .int .i64 0, .int .i64 0] (by rfl) (by rfl) (by rfl) (fun ρ w0 => ?_) ?_; (· (go_simp; try (with_reducible rfl))); try simp only [List.nil_append, List.cons_append, Nat.reduceAdd])
        (refine fl_make 8 35 #[.string ⟨#[]⟩, .string ⟨#[]⟩, .bool false, .int .i64 0, .int .i64 0, .int .i64 0, .int .i64 0, .int .i64 0, .int .i64 0] (by rfl) (by rfl) (by rfl) (fun ρ w0 => ?_) ?_; (· (go_simp; try (with_reducible rfl))); try simp only [List.nil_append, List.cons_append, Nat.reduceAdd])
        (refine fl_make 9 35 #[.string ⟨#[]⟩, .string ⟨#[]⟩, .bool false, .int .i64 0, .int .i64 0, .int .i64 0, .int .i64 0, .int .i64 0, .int .i64 0] (by rfl) (by rfl) (by rfl) (fun ρ w0 => ?_) ?_; (· (go_simp; try (with_reducible rfl))); try simp only [List.nil_append, List.cons_append, Nat.reduceAdd])
        refine fl_nil ?_
        intro G w4 t4 hM hD
        simp only [List.forall_mem_cons, List.not_mem_nil, false_imp_iff, implies_true, and_true] at hM hD
        obtain ⟨⟨bx, gx⟩, ⟨⟨bY, gY'⟩, bz, gz⟩⟩ := hM
        simp at hD
        simp only [putAl, Act.put, List.setIfInBounds_toArray, List.set_cons_zero, List.set_cons_succ]
        generalize G 6 = gX at *
        generalize G 7 = gY at *
        generalize G 8 = gZ at *
        obtain ⟨⟨hxy, hxz⟩, ⟨hyx, hyz⟩, hzx, hzy⟩ := hD
        refine wpList_store_row rfl 35 _ _ rfl gX #[.string a.k, .string a.v, .bool a.d, .int .i64 a.s.c, .int .i64 a.s.s, .int .i64 a.a.c, .int .i64 a.a.s, .int .i64 a.p, .int .i64 a.g] rfl rfl 35 _ bx (by kernel_rfl) rfl (en_one _) ?_
        refine wpList_store_row rfl 35 _ _ rfl gY #[.string b.k, .string b.v, .bool b.d, .int .i64 b.s.c, .int .i64 b.s.s, .int .i64 b.a.c, .int .i64 b.a.s, .int .i64 b.p, .int .i64 b.g] rfl rfl 35 _ (bY.setRow_far hyx _) (by kernel_rfl) rfl (en_one _) ?_
        refine wpList_store_row rfl 35 _ _ rfl gZ #[.string c.k, .string c.v, .bool c.d, .int .i64 c.s.c, .int .i64 c.s.s, .int .i64 c.a.c, .int .i64 c.a.s, .int .i64 c.p, .int .i64 c.g] rfl rfl 35 _ ((bz.setRow_far hzx _).setRow_far hzy _) (by kernel_rfl) rfl (en_one _) ?_
        have na : W.heap.size ≠ gX ∧ W.heap.size ≠ gY ∧ W.heap.size ≠ gZ := ⟨Blk.ne_ t4.x bx (by decide), Blk.ne_ t4.x bY (by decide), Blk.ne_ t4.x bz (by decide)⟩
        have nb : W.heap.size + 1 ≠ gX ∧ W.heap.size + 1 ≠ gY ∧ W.heap.size + 1 ≠ gZ := ⟨Blk.ne_ t4.y bx (by decide), Blk.ne_ t4.y bY (by decide), Blk.ne_ t4.y bz (by decide)⟩
        have F : Fiv W W.heap.size (W.heap.size + 1) gX gY gZ a b c (((w4.setRow gX #[.string a.k, .string a.v, .bool a.d, .int .i64 a.s.c, .int .i64 a.s.s, .int .i64 a.a.c, .int .i64 a.a.s, .int .i64 a.p, .int .i64 a.g]).setRow gY #[.string b.k, .string b.v, .bool b.d, .int .i64 b.s.c, .int .i64 b.s.s, .int .i64 b.a.c, .int .i64 b.a.s, .int .i64 b.p, .int .i64 b.g]).setRow gZ #[.string c.k, .string c.v, .bool c.d, .int .i64 c.s.c, .int .i64 c.s.s, .int .i64 c.a.c, .int .i64 c.a.s, .int .i64 c.p, .int .i64 c.g]) :=
          ⟨((t4.x.setRow_far na.1 _).setRow_far na.2.1 _).setRow_far na.2.2 _, ((t4.y.setRow_far nb.1 _).setRow_far nb.2.1 _).setRow_far nb.2.2 _,
            ((bx.setRow _).setRow_far hxy _).setRow_far hxz _, ((bY.setRow_far hyx _).setRow _).setRow_far hyz _, ((bz.setRow_far hzx _).setRow_far hzy _).setRow _,
            ((t4.ho.setRow (.inr gx) _).setRow (.inr gY') _).setRow (.inr gz) _⟩
        generalize ((w4.setRow gX #[.string a.k, .string a.v, .bool a.d, .int .i64 a.s.c, .int .i64 a.s.s, .int .i64 a.a.c, .int .i64 a.a.s, .int .i64 a.p, .int .i64 a.g]).setRow gY #[.string b.k, .string b.v, .bool b.d, .int .i64 b.s.c, .int .i64 b.s.s, .int .i64 b.a.c, .int .i64 b.a.s, .int .i64 b.p, .int .i64 b.g]).setRow gZ #[.string c.k, .string c.v, .bool c.d, .int .i64 c.s.c, .int .i64 c.s.s, .int .i64 c.a.c, .int .i64 c.a.s, .int .i64 c.p, .int .i64 c.g] = w5 at *
        clear bx bY bz t4 T t3 gx gY' gz na nb hxy hxz hyx hyz hzx hzy
        obtain ⟨p, hp⟩ : ∃ p, enNewer a b = p := ⟨_, rfl⟩
        obtain ⟨q, hq⟩ : ∃ p, enNewer b a = p := ⟨_, rfl⟩
        obtain ⟨r, hr⟩ : ∃ p, enNewer b c = p := ⟨_, rfl⟩
        obtain ⟨s, hs⟩ : ∃ p, enNewer a c = p := ⟨_, rfl⟩
        obtain ⟨e1, h1⟩ : ∃ p, stEq a.s b.s = p := ⟨_, rfl⟩
        obtain ⟨e2, h2⟩ : ∃ p, stEq a.a b.a = p := ⟨_, rfl⟩
        have ways := orders_ways a b c p q r s e1 e2 hp hq hr hs h1 h2
        have HP := Lib.hid hp
        have HQ := Lib.hid hq
        have HR := Lib.hid hr
        have HS := Lib.hid hs
        have HU := Lib.hid (newer_self a)
        have E1 := fun w => eql_of (eq_ref_stamp w a.s b.s 9998)
        have E2 := fun w => eql_of (eq_ref_stamp w a.a b.a 9998)
        rw [h1] at E1
        rw [h2] at E2
        clear hp hq hr hs h1 h2
        rcases ways with ⟨rfl, rfl, rfl, rfl, rfl, rfl⟩ | ⟨rfl, rfl, rfl, rfl, rfl⟩ | ⟨rfl, rfl, rfl, rfl, rfl⟩ | ⟨rfl, rfl, rfl, rfl⟩ | ⟨rfl, rfl, rfl, rfl⟩ | ⟨rfl, rfl, rfl⟩ | ⟨rfl, rfl, rfl, rfl⟩
        all_goals
          go_wp2_with (first
            | (refine wpList_load_g (by rfl) 35 _ rfl gX rfl 35 _ (0, 0) _ (Fiv.X (by assumption)) Try.underlying35 rfl (by kernel_rfl) ?_)
            | (refine wpList_load_g (by rfl) 35 _ rfl gY rfl 35 _ (0, 0) _ (Fiv.Y (by assumption)) Try.underlying35 rfl (by kernel_rfl) ?_)
            | (refine wpList_load_g (by rfl) 35 _ rfl gZ rfl 35 _ (0, 0) _ (Fiv.Z (by assumption)) Try.underlying35 rfl (by kernel_rfl) ?_)
            | (go_at_call 16; refine (en_newer _ _ _).mono ?_; rintro E w9 ⟨rfl, o9⟩; (first | rw [HP.out] | rw [HQ.out] | rw [HR.out] | rw [HS.out] | rw [HU.out])
               have t9 := Fiv.keep (by assumption) o9
               (try clear qq)
               have qq := Fiv.cells t9
               clear o9))
          go_ret
          exact ⟨rfl, t9.ho.below (Nat.le_refl _) (fun k hk => hk.elim)⟩
end Go.Proofs.Ytkddmdgehnijiaa
