/- The call of StampOrders answers yes, and changes nothing that was there. The statement itself is proved in another text. -/
import Derived.Test.YtolgjjjclihmkaaStI
import Derived.Test.YtolgjjjclihmkaaStB
import Derived.Test.YtolgjjjclihmkaaStE
import Derived.Deep.RegionHeld3
namespace Go.Proofs.Ytolgjjjclihmkaa
open Go.RowKit
set_option maxRecDepth 100000

/-- Two stamps in the blocks g and h, all else as in B. -/
structure Bxs (B : World) (g h : Nat) (a b : St) (w : World) : Prop where
  x : Blk w g 23 #[.int .i64 a.c, .int .i64 a.s]
  y : Blk w h 23 #[.int .i64 b.c, .int .i64 b.s]
  ho : Only none_ B w
section
variable {B w w' : World} {g h : Nat} {a b : St}
theorem Bxs.keep (t : Bxs B g h a b w) (o : Only none_ w w') : Bxs B g h a b w' := ⟨t.x.only o (fun h => h), t.y.only o (fun h => h), t.ho.trans o⟩
theorem Bxs.cells (t : Bxs B g h a b w) : (w.cell? ⟨g, 0, none⟩ = some (.int .i64 a.c) ∧ w.cell? ⟨g, 1, none⟩ = some (.int .i64 a.s)) ∧ w.cell? ⟨h, 0, none⟩ = some (.int .i64 b.c) ∧ w.cell? ⟨h, 1, none⟩ = some (.int .i64 b.s) := ⟨⟨t.x.cell_ rfl, t.x.cell_ rfl⟩, t.y.cell_ rfl, t.y.cell_ rfl⟩
end

set_option maxHeartbeats 3200000 in
theorem orders_any (a b : St) (W : World) :
    Calls Try.prog 3 #[.agg #[.int .i64 a.c, .int .i64 a.s], .agg #[.int .i64 b.c, .int .i64 b.s]] W fun e w' => e = .returned (.bool true) ∧ Below W.heap.size W w' := by
  obtain ⟨gb, hgb⟩ : ∃ gb, stGood ⟨a.c, a.s⟩ = gb := ⟨_, rfl⟩
  have HGB := Lib.hid hgb
  have O := Lib.hid (((Only.refl none_ W).alloc (.cells #[.int .i64 a.c, .int .i64 a.s] 23)).alloc (.cells #[.int .i64 b.c, .int .i64 b.s] 23))
  have T0 : Hid (Bxs ((W.alloc (.cells #[.int .i64 a.c, .int .i64 a.s] 23)).alloc (.cells #[.int .i64 b.c, .int .i64 b.s] 23)) W.heap.size (W.heap.size + 1) a b ((W.alloc (.cells #[.int .i64 a.c, .int .i64 a.s] 23)).alloc (.cells #[.int .i64 b.c, .int .i64 b.s] 23))) := by
    refine ⟨(Blk.new W 23 #[.int .i64 a.c, .int .i64 a.s]).alloc _, ?_, Only.refl _ _⟩
    have := Blk.new (W.alloc (.cells #[.int .i64 a.c, .int .i64 a.s] 23)) 23 #[.int .i64 b.c, .int .i64 b.s]
    simpa using this
  have HW := cmp_want a b
  obtain ⟨r, hr⟩ : ∃ r, stCmp ⟨a.c, a.s⟩ ⟨b.c, b.s⟩ = r := ⟨_, rfl⟩
  have hr' : stCmp a b = r := hr
  have HR := Lib.hid hr
  rw [hr'] at HW
  obtain ⟨l1, hl1⟩ : ∃ l, stLater a b = l := ⟨_, rfl⟩
  obtain ⟨l2, hl2⟩ : ∃ l, stLater b a = l := ⟨_, rfl⟩
  have H1 : Hid (stLater ⟨a.c, a.s⟩ ⟨b.c, b.s⟩ = l1) := hl1
  have H2 : Hid (stLater ⟨b.c, b.s⟩ ⟨a.c, a.s⟩ = l2) := hl2
  rw [hl1, hl2] at HW
  clear hr hr' hl1 hl2 hgb
  have tok : True := trivial
  cases l2 <;> cases l1 <;> simp at HW <;> subst HW
  all_goals
    go_enter Try.func3, Try.ntmps3
    go_wp2_with (first
      | (go_at_call 8; have _t := tok; refine (rf_later _ _ _ _ _).mono ?_; rintro e w1 ⟨rfl, o1⟩; rw [H1.out]
         have T1 := Lib.hid (T0.out.keep o1)
         obtain ⟨⟨x0, x1⟩, y0, y1⟩ := T1.out.cells
         clear o1 tok)
      | (go_at_call 8; refine (rf_later _ _ _ _ _).mono ?_; rintro e w2 ⟨rfl, o2⟩; rw [H2.out]
         have T2 := Lib.hid (T1.out.keep o2)
         clear o2))
    clear x0 x1 y0 y1
    have t2 := T2.out.keep (Only.refl none_ w2).drew
    go_region_held3 (fun w' => (w'.cell? ⟨W.heap.size, 0, none⟩ = some (.int .i64 a.c) ∧ w'.cell? ⟨W.heap.size, 1, none⟩ = some (.int .i64 a.s)) ∧ w'.cell? ⟨W.heap.size + 1, 0, none⟩ = some (.int .i64 b.c) ∧ w'.cell? ⟨W.heap.size + 1, 1, none⟩ = some (.int .i64 b.s))
      (with_reducible exact Bxs.cells (by assumption))
      (first
        | (go_at_call 9; refine (st_speaks _).mono ?_; rintro e w5 ⟨rfl, o5⟩; have t5 := Bxs.keep (by assumption) o5; clear o5)
        | (go_at_call 11; refine (st_of _ _ _).mono ?_; rintro e w5 ⟨rfl, o5⟩; have t5 := Bxs.keep (by assumption) o5; clear o5)
        | (go_at_call 10; refine (st_compare _ _ _ _ _).mono ?_; rintro e w5 ⟨rfl, o5⟩; rw [HR.out]; have t5 := Bxs.keep (by assumption) o5; clear o5)
        | (go_at_call 12; refine (st_good _ _ _).mono ?_; rintro e w5 ⟨rfl, o5⟩; rw [HGB.out]; have t5 := Bxs.keep (by assumption) o5; clear o5)
        | (go_at_call 13; refine (rf_good _ _ _).mono ?_; rintro e w5 ⟨rfl, o5⟩; rw [HGB.out]; have t5 := Bxs.keep (by assumption) o5; clear o5))
    go_wp2_with fail
    go_ret
    exact ⟨rfl, (O.out.trans t5.ho).below (Nat.le_refl _) (fun k hk => hk.elim)⟩
end Go.Proofs.Ytolgjjjclihmkaa
