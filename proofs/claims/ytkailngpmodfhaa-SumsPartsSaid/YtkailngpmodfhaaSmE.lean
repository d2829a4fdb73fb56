/- The example that the statements of layer 9 begin with. No statement of the seat is proved here. -/
import Derived.Test.YtkailngpmodfhaaSmB
import Derived.Deep.RegionHeld3
namespace Go.Proofs.Ytkailngpmodfhaa
open Go.RowKit
set_option maxRecDepth 100000
set_option linter.all false

theorem Tm.step {W w w' : World} {t : TypeId} {g h1 : Nat} {z z' : Int} {a : En} (k : Tm W t g h1 z a w) (hs : Su w' g z') (o : Only (one g) w w') (hne : h1 ≠ g) (hg : W.heap.size ≤ g) : Tm W t g h1 z' a w' :=
  ⟨k.x.only o (fun e => hne e), hs, k.ho.trans' o (fun i hi e => by have e' : i = g := e; omega)⟩
def en0 : En := ⟨⟨#[107]⟩, ⟨#[]⟩, false, ⟨1, 0⟩, ⟨1, 0⟩, 0, 0⟩
theorem hsh_en0 : ∃ H : Nat, hsh en0 = H ∧ H < 18446744073709551616 ∧ H ≠ 0 := by
  refine ⟨_, rfl, hsh_lt _, ?_⟩
  decide +kernel

set_option maxHeartbeats 6400000 in
theorem sm_speaks (w : World) :
    Calls Try.prog 29 #[] w fun E w' => E = .returned (.bool true) ∧ Only none_ w w' := by
  obtain ⟨H, hH, hlt, hne⟩ := hsh_en0
  have T : Hid (Tm w 78 (w.heap.size + 1) w.heap.size 0 en0 ((w.alloc (.cells #[.string ⟨#[107]⟩, .string ⟨#[]⟩, .bool false, .int .i64 1, .int .i64 0, .int .i64 1, .int .i64 0, .int .i64 0, .int .i64 0] 78)).alloc (.cells #[.int .u64 0] 92))) := by
    have B := Su.new (w.alloc (.cells #[.string ⟨#[107]⟩, .string ⟨#[]⟩, .bool false, .int .i64 1, .int .i64 0, .int .i64 1, .int .i64 0, .int .i64 0, .int .i64 0] 78))
    rw [World.size_alloc] at B
    exact ⟨(Blk.new w _ _).alloc _, B, ((Only.refl none_ w).alloc _).alloc _⟩
  have HA : Hid (w64 (0 + ((hsh en0 : Nat) : Int)) = H) := by rw [Hid, hH]; unfold w64; omega
  have HD : Hid (w64 (0 + ((hsh en0 : Nat) : Int) - ((hsh en0 : Nat) : Int)) = 0) := by rw [Hid]; unfold w64; omega
  have HH := Lib.hid hH
  have hz : ((H : Int) != 0) = true := by simp; omega
  have N1 : Hid (w.heap.size ≠ w.heap.size + 1) := by rw [Hid]; omega
  have N2 : Hid (w.heap.size ≤ w.heap.size + 1) := by rw [Hid]; omega
  clear hH
  have tok1 : True := trivial
  have tokA : True := trivial
  go_enter Try.func29, Try.ntmps29
  go_wp2_with fail
  have t0 := T.out.keep (Only.refl none_ _).drew
  generalize (w.alloc _).alloc _ = W2 at *
  have na0 := nine_of t0.x
  simp only [en0] at na0
  go_region_held3 (fun w' => Nine w' w.heap.size (.string ⟨#[107]⟩) (.string ⟨#[]⟩) (.bool false) (.int .i64 1) (.int .i64 0) (.int .i64 1) (.int .i64 0) (.int .i64 0) (.int .i64 0))
    (first | with_reducible exact na0 | with_reducible exact na1 | with_reducible exact na2 | with_reducible exact na3 | with_reducible exact na4 | with_reducible exact na5)
    (first
      | (go_at_call 40; refine (su_add _ 0 en0 _ t0.s).mono ?_; rw [HA.out]; rintro E w1 ⟨rfl, s1, o1⟩
         have t1 := t0.step s1 o1 N1.out N2.out
         have na1 := nine_of t1.x
         simp only [en0] at na1
         clear s1 o1)
      | (go_at_call 31; refine (sm_hash en0 _).mono ?_; rw [HH.out]; rintro E w2 ⟨rfl, o2⟩
         have t2 := t1.keep o2
         have na2 := nine_of t2.x
         simp only [en0] at na2
         clear o2)
      | (go_at_call 41; have _t := tokA; clear tokA; refine (su_value _ _ _ t2.s).mono ?_; rw [HA.out]; rintro E w3 ⟨rfl, e3⟩
         have t3 : Tm w 78 (w.heap.size + 1) w.heap.size (0 + ((hsh en0 : Nat) : Int)) en0 w3 := e3 ▸ t2
         have na3 := nine_of t3.x
         simp only [en0] at na3
         clear e3)
      | (go_at_call 38; refine (su_drop _ _ en0 _ t3.s).mono ?_; rw [HD.out]; rintro E w4 ⟨rfl, s4, o4⟩
         have t4 := t3.step s4 o4 N1.out N2.out
         have na4 := nine_of t4.x
         simp only [en0] at na4
         clear s4 o4)
      | (go_at_call 41; refine (su_value _ _ _ t4.s).mono ?_; rw [HD.out]; rintro E w5 ⟨rfl, e5⟩
         have t5 : Tm w 78 (w.heap.size + 1) w.heap.size (0 + ((hsh en0 : Nat) : Int) - ((hsh en0 : Nat) : Int)) en0 w5 := e5 ▸ t4
         have na5 := nine_of t5.x
         simp only [en0] at na5
         clear e5))
  all_goals go_wp2_with fail
  go_ret
  exact ⟨rfl, t5.ho⟩
end Go.Proofs.Ytkailngpmodfhaa
