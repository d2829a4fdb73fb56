/- The call of TablePlays, where there is no table, or the acts are many. The statement itself is proved in another text. -/
import Derived.Test.YtkailngpmodfhaaTbN
namespace Go.Proofs.Ytkailngpmodfhaa
open Go.RowKit
set_option maxRecDepth 100000
set_option linter.all false

set_option maxHeartbeats 6400000 in
theorem tp_none (room : Int) (A0 : Option Addr) (c0 : Nat) (l : List Ta) (W : World) (hx : Cel W (fun b => b < W.heap.size) (.slice A0 l.length c0) l.length 5 (l.flatMap taRow)) (hl : (l.all taShort && decide (l.length ≤ 60)) = true) (hr : room < 1 ∨ 4096 < room) :
    Calls Try.prog 3 #[.int .i64 room, .slice A0 l.length c0] W fun e w' => e = .returned (.bool true) ∧ Below W.heap.size W w' := by
  have CX := Lib.hid (fun (w' : World) (o : Only none_ W w') => hx.only o (fun _ _ h => h))
  have FL := Lib.hid hl
  obtain ⟨N, hN⟩ : ∃ N, N = l.length := ⟨_, rfl⟩
  rw [← hN] at CX ⊢
  have HN := Lib.hid hN
  have HA := Lib.hid (fun (w : World) => tb_new_no room w hr)
  have HB := Lib.hid (fun (w : World) => rf_new_no room w hr)
  clear hx hl hN hr
  go_enter Try.func3, Try.ntmps3
  go_wp2_with (first
    | (go_at_call 10; refine (t_speaks _).mono ?_; rintro e w1 ⟨rfl, o1⟩; have O1 := Lib.hid o1; clear o1)
    | (go_at_call 11; refine (t_few _ l _ _ (by rw [← HN.out]; exact CX.out _ O1.out)).mono ?_; rw [FL.out]; rintro e w2 ⟨rfl, o2⟩; have O2 := Lib.hid (O1.out.trans o2); clear o2)
    | (go_at_call 12; refine (HA.out _).mono ?_; rintro e w3 ⟨rfl, e3⟩; have O3 : Hid (Only none_ W w3) := e3 ▸ O2.out; clear e3)
    | (go_at_call 13; refine (HB.out _).mono ?_; rintro e w4 ⟨rfl, o4⟩; have O4 := Lib.hid ((O3.out.trans o4).alloc (.cells #[.int .i64 0, .slice none 0 0] 31)); clear o4))
  go_ret
  exact ⟨rfl, O4.out.below (Nat.le_refl _) (fun k hk => hk.elim)⟩

set_option maxHeartbeats 3200000 in
theorem tp_long8 (room : Int) (A0 : Option Addr) (c0 : Nat) (l : List Ta) (W : World) (hx : Cel W (fun b => b < W.heap.size) (.slice A0 l.length c0) l.length 5 (l.flatMap taRow)) (hl : (l.all taShort && decide (l.length ≤ 60)) = false) :
    Calls Try.prog 3 #[.int .i64 room, .slice A0 l.length c0] W fun e w' => e = .returned (.bool true) ∧ Below W.heap.size W w' := by
  have CX := Lib.hid (fun (w' : World) (o : Only none_ W w') => hx.only o (fun _ _ h => h))
  have FL := Lib.hid hl
  obtain ⟨N, hN⟩ : ∃ N, N = l.length := ⟨_, rfl⟩
  rw [← hN] at CX ⊢
  have HN := Lib.hid hN
  have tokS : True := trivial
  clear hx hl hN
  go_enter Try.func3, Try.ntmps3
  go_wp2_with (first
    | (go_at_call 10; have _t := tokS; clear tokS; refine (t_speaks _).mono ?_; rintro e w1 ⟨rfl, o1⟩; have O1 := Lib.hid o1; clear o1)
    | (go_at_call 11; refine (t_few _ l _ _ (by rw [← HN.out]; exact CX.out _ O1.out)).mono ?_; rw [FL.out]; rintro e w2 ⟨rfl, o2⟩; have O2 := Lib.hid (O1.out.trans o2); clear o2)
    | (go_at_call 10; refine (t_speaks _).mono ?_; rintro e w3 ⟨rfl, o3⟩; have O3 := Lib.hid (O2.out.trans o3); clear o3))
  go_ret
  exact ⟨rfl, O3.out.below (Nat.le_refl _) (fun k hk => hk.elim)⟩
end Go.Proofs.Ytkailngpmodfhaa
