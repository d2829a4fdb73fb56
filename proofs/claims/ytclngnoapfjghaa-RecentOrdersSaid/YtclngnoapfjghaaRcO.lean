/- The call of RecentOrders answers yes, and changes nothing that was there. The statement itself is proved in another text. -/
import Derived.Test.YtclngnoapfjghaaRcW
import Derived.Test.YtclngnoapfjghaaRcR
import Derived.Test.YtclngnoapfjghaaRcU
namespace Go.Proofs.Ytclngnoapfjghaa
open Go.RowKit
set_option maxRecDepth 100000
set_option linter.all false

/-- The boxes of three marks that came in. -/
structure Bq3 (W : World) (a b c : Mk) (w : World) : Prop where
  x : Blk w W.heap.size 31 #[.int .i64 a.a.c, .int .i64 a.a.s, .string a.k]
  y : Blk w (W.heap.size + 1) 31 #[.int .i64 b.a.c, .int .i64 b.a.s, .string b.k]
  z : Blk w (W.heap.size + 2) 31 #[.int .i64 c.a.c, .int .i64 c.a.s, .string c.k]
  o : Only none_ W w
theorem Bq3.keep {W w w' : World} {a b c : Mk} (h : Bq3 W a b c w) (o : Only none_ w w') : Bq3 W a b c w' := ⟨h.x.only o (fun h => h), h.y.only o (fun h => h), h.z.only o (fun h => h), h.o.trans o⟩
theorem Bq3.new (W : World) (a b c : Mk) : Bq3 W a b c (((W.alloc (.cells #[.int .i64 a.a.c, .int .i64 a.a.s, .string a.k] 31)).alloc (.cells #[.int .i64 b.a.c, .int .i64 b.a.s, .string b.k] 31)).alloc (.cells #[.int .i64 c.a.c, .int .i64 c.a.s, .string c.k] 31)) := by
  have B2 := Blk.new (W.alloc (.cells #[.int .i64 a.a.c, .int .i64 a.a.s, .string a.k] 31)) 31 #[.int .i64 b.a.c, .int .i64 b.a.s, .string b.k]
  have B3 := Blk.new ((W.alloc (.cells #[.int .i64 a.a.c, .int .i64 a.a.s, .string a.k] 31)).alloc (.cells #[.int .i64 b.a.c, .int .i64 b.a.s, .string b.k] 31)) 31 #[.int .i64 c.a.c, .int .i64 c.a.s, .string c.k]
  rw [World.size_alloc] at B2
  rw [World.size_alloc, World.size_alloc] at B3
  exact ⟨((Blk.new W _ _).alloc _).alloc _, B2.alloc _, B3, (((Only.refl none_ W).alloc _).alloc _).alloc _⟩
structure Bc3 (W : World) (ac as_ bc bs cc cs : Int) (ak bk ck : ByteArray) (w : World) : Prop where
  x0 : w.cell? ⟨W.heap.size, 0, none⟩ = some (.int .i64 ac)
  x1 : w.cell? ⟨W.heap.size, 1, none⟩ = some (.int .i64 as_)
  x2 : w.cell? ⟨W.heap.size, 2, none⟩ = some (.string ak)
  y0 : w.cell? ⟨W.heap.size + 1, 0, none⟩ = some (.int .i64 bc)
  y1 : w.cell? ⟨W.heap.size + 1, 1, none⟩ = some (.int .i64 bs)
  y2 : w.cell? ⟨W.heap.size + 1, 2, none⟩ = some (.string bk)
  z0 : w.cell? ⟨W.heap.size + 2, 0, none⟩ = some (.int .i64 cc)
  z1 : w.cell? ⟨W.heap.size + 2, 1, none⟩ = some (.int .i64 cs)
  z2 : w.cell? ⟨W.heap.size + 2, 2, none⟩ = some (.string ck)
theorem Bq3.cells {W w : World} {a b c : Mk} (h : Bq3 W a b c w) : Bc3 W a.a.c a.a.s b.a.c b.a.s c.a.c c.a.s a.k b.k c.k w :=
  ⟨h.x.cell_ rfl, h.x.cell_ rfl, h.x.cell_ rfl, h.y.cell_ rfl, h.y.cell_ rfl, h.y.cell_ rfl, h.z.cell_ rfl, h.z.cell_ rfl, h.z.cell_ rfl⟩

theorem rco_cmp (a b : Mk) : ∃ p : Int, mkCmp a b = p ∧ ((p = -1 ∧ mkLater a b = false ∧ mkLater b a = true) ∨ (p = 0 ∧ mkLater a b = false ∧ mkLater b a = false) ∨ (p = 1 ∧ mkLater a b = true ∧ mkLater b a = false)) := by
  refine ⟨_, rfl, ?_⟩
  have h1 := mkCmp_pos a b
  have h2 := mkCmp_neg a b
  have h3 := mkCmp_i64 a b
  rw [← h1, ← h2]
  have : mkCmp a b = -1 ∨ mkCmp a b = 0 ∨ mkCmp a b = 1 := by omega
  rcases this with e | e | e <;> rw [e] <;> simp

set_option maxHeartbeats 6400000 in
theorem rco_far (a b c : Mk) (W : World) (h : 40 < a.k.size ∨ 40 < b.k.size ∨ 40 < c.k.size) :
    Calls Try.prog 4 #[.agg #[.int .i64 a.a.c, .int .i64 a.a.s, .string a.k], .agg #[.int .i64 b.a.c, .int .i64 b.a.s, .string b.k], .agg #[.int .i64 c.a.c, .int .i64 c.a.s, .string c.k]] W fun e w' => e = .returned (.bool true) ∧ Below W.heap.size W w' := by
  have T := Lib.hid (Bq3.new W a b c)
  obtain ⟨⟨ac, as_⟩, ak⟩ := a
  obtain ⟨⟨bc, bs⟩, bk⟩ := b
  obtain ⟨⟨cc, cs⟩, ck⟩ := c
  simp only [] at h T ⊢
  have hs := r_speaks
  have tok : True := trivial
  by_cases h1 : 40 < ak.size
  · clear h
    go_enter Try.func4, Try.ntmps4
    go_wp2_with (first
      | (go_at_call 9; have _t := tok; clear tok; refine (hs _).mono ?_; rintro e w1 ⟨rfl, o1⟩
         have T1 := Lib.hid (T.out.keep o1)
         obtain ⟨x0, x1, x2, y0, y1, y2, z0, z1, z2⟩ := T1.out.cells
         clear o1)
      | (go_at_call 9; refine (hs _).mono ?_; rintro e w2 ⟨rfl, o2⟩
         have T2 := Lib.hid (T1.out.keep o2)
         clear o2))
    go_ret
    exact ⟨rfl, T2.out.o.below (Nat.le_refl _) (fun k hk => hk.elim)⟩
  by_cases h2 : 40 < bk.size
  · clear h
    go_enter Try.func4, Try.ntmps4
    go_wp2_with (first
      | (go_at_call 9; have _t := tok; clear tok; refine (hs _).mono ?_; rintro e w1 ⟨rfl, o1⟩
         have T1 := Lib.hid (T.out.keep o1)
         obtain ⟨x0, x1, x2, y0, y1, y2, z0, z1, z2⟩ := T1.out.cells
         clear o1)
      | (go_at_call 9; refine (hs _).mono ?_; rintro e w2 ⟨rfl, o2⟩
         have T2 := Lib.hid (T1.out.keep o2)
         clear o2))
    go_ret
    exact ⟨rfl, T2.out.o.below (Nat.le_refl _) (fun k hk => hk.elim)⟩
  by_cases h3 : 40 < ck.size
  · clear h
    go_enter Try.func4, Try.ntmps4
    go_wp2_with (first
      | (go_at_call 9; have _t := tok; clear tok; refine (hs _).mono ?_; rintro e w1 ⟨rfl, o1⟩
         have T1 := Lib.hid (T.out.keep o1)
         obtain ⟨x0, x1, x2, y0, y1, y2, z0, z1, z2⟩ := T1.out.cells
         clear o1)
      | (go_at_call 9; refine (hs _).mono ?_; rintro e w2 ⟨rfl, o2⟩
         have T2 := Lib.hid (T1.out.keep o2)
         clear o2))
    go_ret
    exact ⟨rfl, T2.out.o.below (Nat.le_refl _) (fun k hk => hk.elim)⟩
  · rcases h with h | h | h <;> exact absurd h (by assumption)

set_option maxHeartbeats 6400000 in
theorem rco_any (a b c : Mk) (W : World) :
    Calls Try.prog 4 #[.agg #[.int .i64 a.a.c, .int .i64 a.a.s, .string a.k], .agg #[.int .i64 b.a.c, .int .i64 b.a.s, .string b.k], .agg #[.int .i64 c.a.c, .int .i64 c.a.s, .string c.k]] W fun e w' => e = .returned (.bool true) ∧ Below W.heap.size W w' := by
  by_cases h : 40 < a.k.size ∨ 40 < b.k.size ∨ 40 < c.k.size
  · exact rco_far a b c W h
  have h1 : ¬ (40 < a.k.size) := fun e => h (.inl e)
  have h2 : ¬ (40 < b.k.size) := fun e => h (.inr (.inl e))
  have h3 : ¬ (40 < c.k.size) := fun e => h (.inr (.inr e))
  clear h
  have T := Lib.hid (Bq3.new W a b c)
  have hs := r_speaks
  obtain ⟨p, hp, PP⟩ := rco_cmp a b
  obtain ⟨q, hq, QQ⟩ := rco_cmp b c
  obtain ⟨r, hr, RR⟩ := rco_cmp a c
  have HT : Hid (mkLater a b = true → mkLater b c = true → mkLater a c = true) := fun x y => later_tr x y
  have HP := Lib.hid PP
  have HQ := Lib.hid QQ
  have HR := Lib.hid RR
  have C1 := Lib.hid (rc_compare a b)
  have C2 := Lib.hid (rc_compare b c)
  have C3 := Lib.hid (rc_compare a c)
  have L1 := Lib.hid (rm_later a b)
  have L2 := Lib.hid (rm_later b a)
  rw [hp] at C1
  rw [hq] at C2
  rw [hr] at C3
  clear hp hq hr PP QQ RR
  have O1 := Lib.hid (mk_of a)
  have O2 := Lib.hid (mk_of b)
  have O3 := Lib.hid (mk_of c)
  generalize mkLater a b = l1 at HP HT L1
  generalize mkLater b a = l2 at HP L2
  generalize mkLater b c = l3 at HQ HT
  generalize mkLater a c = l4 at HR HT
  generalize mkLater c b = l5 at HQ
  generalize mkLater c a = l6 at HR
  obtain ⟨⟨ac, as_⟩, ak⟩ := a
  obtain ⟨⟨bc, bs⟩, bk⟩ := b
  obtain ⟨⟨cc, cs⟩, ck⟩ := c
  simp only [] at h1 h2 h3 T C1 C2 C3 L1 L2 O1 O2 O3 ⊢
  have tok : True := trivial
  go_enter Try.func4, Try.ntmps4
  go_wp2_with (first
    | (go_at_call 9; have _t := tok; clear tok; refine (hs _).mono ?_; rintro e w1 ⟨rfl, o1⟩
       have T1 := Lib.hid (T.out.keep o1)
       obtain ⟨x0, x1, x2, y0, y1, y2, z0, z1, z2⟩ := T1.out.cells
       clear o1))
  clear x0 x1 x2 y0 y1 y2 z0 z1 z2
  (refine wp_region_steady (fun w' => Bq3 W ⟨⟨ac, as_⟩, ak⟩ ⟨⟨bc, bs⟩, bk⟩ ⟨⟨cc, cs⟩, ck⟩ w') 18 (by kernel_rfl) (by kernel_rfl) (T1.out.keep (Only.refl none_ _).drew) ?_; simp only [List.take_succ_cons, List.take_zero, List.drop_succ_cons, List.drop_zero])
  repeat (first
    | (refine sd_value (v := ?_) (by rfl) (fun w0 hS => ?_) ?_; rotate_left; (· (obtain ⟨x0, x1, x2, y0, y1, y2, z0, z1, z2⟩ := hS.cells; go_simp; try (with_reducible rfl))); try simp only [Act.put, List.setIfInBounds_toArray, List.set_cons_zero, List.set_cons_succ])
    | (refine sd_call (v := ?_) (f := 15) (args := ?_) (by rfl) (fun w0 hS => ?_) (fun w0 hS => ?_) ?_; rotate_left 2; (· (skip; go_simp; try (with_reducible rfl))); (· ((first | with_reducible refine (O1.out _).mono ?_ | with_reducible refine (O2.out _).mono ?_ | with_reducible refine (O3.out _).mono ?_); rintro E w9 ⟨rfl, o9⟩; refine ⟨?_, hS.keep o9⟩; rfl)); try simp only [Act.put, List.setIfInBounds_toArray, List.set_cons_zero, List.set_cons_succ])
    | (refine sd_call (v := ?_) (f := 26) (args := ?_) (by rfl) (fun w0 hS => ?_) (fun w0 hS => ?_) ?_; rotate_left 2; (· (skip; go_simp; try (with_reducible rfl))); (· ((first | with_reducible refine (C1.out _).mono ?_ | with_reducible refine (C2.out _).mono ?_ | with_reducible refine (C3.out _).mono ?_); rintro E w9 ⟨rfl, o9⟩; refine ⟨?_, hS.keep o9⟩; rfl)); try simp only [Act.put, List.setIfInBounds_toArray, List.set_cons_zero, List.set_cons_succ]))
  refine sd_nil ?_
  intro w3 t3
  have T3 := Lib.hid t3
  clear t3
  obtain ⟨x0, x1, x2, y0, y1, y2, z0, z1, z2⟩ := T3.out.cells
  rcases HP.out with ⟨rfl, rfl, rfl⟩ | ⟨rfl, rfl, rfl⟩ | ⟨rfl, rfl, rfl⟩
  · clear HP HQ HR HT C1 C2 C3 O1 O2 O3
    go_wp2_with (first
      | (go_at_call 27; with_reducible refine (L1.out _).mono ?_; rintro e w4 ⟨rfl, o4⟩
         have T4 := Lib.hid (T3.out.keep o4)
         obtain ⟨x0, x1, x2, y0, y1, y2, z0, z1, z2⟩ := T4.out.cells
         clear o4)
      | (go_at_call 27; with_reducible refine (L2.out _).mono ?_; rintro e w5 ⟨rfl, o5⟩
         have T5 := Lib.hid (T4.out.keep o5)
         clear o5))
    go_ret
    exact ⟨rfl, T5.out.o.below (Nat.le_refl _) (fun k hk => hk.elim)⟩
  · clear HP HQ HR HT C1 C2 C3 O1 O2 O3
    go_wp2_with (first
      | (go_at_call 27; with_reducible refine (L1.out _).mono ?_; rintro e w4 ⟨rfl, o4⟩
         have T4 := Lib.hid (T3.out.keep o4)
         obtain ⟨x0, x1, x2, y0, y1, y2, z0, z1, z2⟩ := T4.out.cells
         clear o4)
      | (go_at_call 27; with_reducible refine (L2.out _).mono ?_; rintro e w5 ⟨rfl, o5⟩
         have T5 := Lib.hid (T4.out.keep o5)
         clear o5))
    go_ret
    exact ⟨rfl, T5.out.o.below (Nat.le_refl _) (fun k hk => hk.elim)⟩
  rcases HQ.out with ⟨rfl, rfl, rfl⟩ | ⟨rfl, rfl, rfl⟩ | ⟨rfl, rfl, rfl⟩
  · clear HP HQ HR HT C1 C2 C3 O1 O2 O3
    go_wp2_with (first
      | (go_at_call 27; with_reducible refine (L1.out _).mono ?_; rintro e w4 ⟨rfl, o4⟩
         have T4 := Lib.hid (T3.out.keep o4)
         obtain ⟨x0, x1, x2, y0, y1, y2, z0, z1, z2⟩ := T4.out.cells
         clear o4)
      | (go_at_call 27; with_reducible refine (L2.out _).mono ?_; rintro e w5 ⟨rfl, o5⟩
         have T5 := Lib.hid (T4.out.keep o5)
         clear o5))
    go_ret
    exact ⟨rfl, T5.out.o.below (Nat.le_refl _) (fun k hk => hk.elim)⟩
  · clear HP HQ HR HT C1 C2 C3 O1 O2 O3
    go_wp2_with (first
      | (go_at_call 27; with_reducible refine (L1.out _).mono ?_; rintro e w4 ⟨rfl, o4⟩
         have T4 := Lib.hid (T3.out.keep o4)
         obtain ⟨x0, x1, x2, y0, y1, y2, z0, z1, z2⟩ := T4.out.cells
         clear o4)
      | (go_at_call 27; with_reducible refine (L2.out _).mono ?_; rintro e w5 ⟨rfl, o5⟩
         have T5 := Lib.hid (T4.out.keep o5)
         clear o5))
    go_ret
    exact ⟨rfl, T5.out.o.below (Nat.le_refl _) (fun k hk => hk.elim)⟩
  have e4 := HT.out rfl rfl
  subst e4
  rcases HR.out with ⟨_, h, _⟩ | ⟨_, h, _⟩ | ⟨rfl, _, rfl⟩
  · cases h
  · cases h
  · clear HP HQ HR HT C1 C2 C3 O1 O2 O3
    go_wp2_with (first
      | (go_at_call 27; with_reducible refine (L1.out _).mono ?_; rintro e w4 ⟨rfl, o4⟩
         have T4 := Lib.hid (T3.out.keep o4)
         obtain ⟨x0, x1, x2, y0, y1, y2, z0, z1, z2⟩ := T4.out.cells
         clear o4)
      | (go_at_call 27; with_reducible refine (L2.out _).mono ?_; rintro e w5 ⟨rfl, o5⟩
         have T5 := Lib.hid (T4.out.keep o5)
         clear o5))
    go_ret
    exact ⟨rfl, T5.out.o.below (Nat.le_refl _) (fun k hk => hk.elim)⟩
end Go.Proofs.Ytclngnoapfjghaa
