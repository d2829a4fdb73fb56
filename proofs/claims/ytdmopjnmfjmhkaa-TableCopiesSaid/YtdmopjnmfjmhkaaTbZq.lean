/- The call of TableCopies, where acts are many, or a key is long. The statement itself is proved in another text. -/
import Derived.Test.YtdmopjnmfjmhkaaTbN
namespace Go.Proofs.Ytdmopjnmfjmhkaa
open Go.RowKit
set_option maxRecDepth 100000
set_option linter.all false

set_option maxHeartbeats 3200000 in
theorem tc_long1 (A0 A1 : Option Addr) (c0 c1 n1 : Nat) (l : List Ta) (W : World) (hx : Cel W (fun b => b < W.heap.size) (.slice A0 l.length c0) l.length 5 (l.flatMap taRow)) (hl : (l.all taShort && decide (l.length ≤ 60)) = false) :
    Calls Try.prog 3 #[.slice A0 l.length c0, .slice A1 n1 c1] W fun e w' => e = .returned (.bool true) ∧ Below W.heap.size W w' := by
  have CX := Lib.hid (fun (w' : World) (o : Only none_ W w') => hx.only o (fun _ _ h => h))
  have FL := Lib.hid hl
  obtain ⟨N, hN⟩ : ∃ N, N = l.length := ⟨_, rfl⟩
  rw [← hN] at CX ⊢
  have HN := Lib.hid hN
  have tokS : True := trivial
  clear hx hl hN
  go_enter Try.func3, Try.ntmps3
  go_wp2_with (first
    | (go_at_call 6; have _t := tokS; clear tokS; refine (t_speaks _).mono ?_; rintro e w1 ⟨rfl, o1⟩; have O1 := Lib.hid o1; clear o1)
    | (go_at_call 7; refine (t_few _ l _ _ (by rw [← HN.out]; exact CX.out _ O1.out)).mono ?_; rw [FL.out]; rintro e w2 ⟨rfl, o2⟩; have O2 := Lib.hid (O1.out.trans o2); clear o2)
    | (go_at_call 6; refine (t_speaks _).mono ?_; rintro e w3 ⟨rfl, o3⟩; have O3 := Lib.hid (O2.out.trans o3); clear o3))
  go_ret
  exact ⟨rfl, O3.out.below (Nat.le_refl _) (fun k hk => hk.elim)⟩

set_option maxHeartbeats 3200000 in
theorem tc_long2 (A0 A1 : Option Addr) (c0 c1 : Nat) (l l2 : List Ta) (W : World) (hx : Cel W (fun b => b < W.heap.size) (.slice A0 l.length c0) l.length 5 (l.flatMap taRow)) (hx2 : Cel W (fun b => b < W.heap.size) (.slice A1 l2.length c1) l2.length 5 (l2.flatMap taRow)) (hl : (l.all taShort && decide (l.length ≤ 60)) = true) (hl2 : (l2.all taShort && decide (l2.length ≤ 60)) = false) :
    Calls Try.prog 3 #[.slice A0 l.length c0, .slice A1 l2.length c1] W fun e w' => e = .returned (.bool true) ∧ Below W.heap.size W w' := by
  have CX := Lib.hid (fun (w' : World) (o : Only none_ W w') => hx.only o (fun _ _ h => h))
  have CX2 := Lib.hid (fun (w' : World) (o : Only none_ W w') => hx2.only o (fun _ _ h => h))
  have FL := Lib.hid hl
  have FL2 := Lib.hid hl2
  obtain ⟨N, hN⟩ : ∃ N, N = l.length := ⟨_, rfl⟩
  obtain ⟨M, hM⟩ : ∃ M, M = l2.length := ⟨_, rfl⟩
  rw [← hN] at CX ⊢
  rw [← hM] at CX2 ⊢
  have HN := Lib.hid hN
  have HM := Lib.hid hM
  have tokS : True := trivial
  have tokF : True := trivial
  clear hx hl hN hx2 hl2 hM
  go_enter Try.func3, Try.ntmps3
  go_wp2_with (first
    | (go_at_call 6; have _t := tokS; clear tokS; refine (t_speaks _).mono ?_; rintro e w1 ⟨rfl, o1⟩; have O1 := Lib.hid o1; clear o1)
    | (go_at_call 7; have _t := tokF; clear tokF; refine (t_few _ l _ _ (by rw [← HN.out]; exact CX.out _ O1.out)).mono ?_; rw [FL.out]; rintro e w2 ⟨rfl, o2⟩; have O2 := Lib.hid (O1.out.trans o2); clear o2)
    | (go_at_call 7; refine (t_few _ l2 _ _ (by rw [← HM.out]; exact CX2.out _ O2.out)).mono ?_; rw [FL2.out]; rintro e w2b ⟨rfl, o2b⟩; have O2b := Lib.hid (O2.out.trans o2b); clear o2b)
    | (go_at_call 6; refine (t_speaks _).mono ?_; rintro e w3 ⟨rfl, o3⟩; have O3 := Lib.hid (O2b.out.trans o3); clear o3))
  go_ret
  exact ⟨rfl, O3.out.below (Nat.le_refl _) (fun k hk => hk.elim)⟩
end Go.Proofs.Ytdmopjnmfjmhkaa
