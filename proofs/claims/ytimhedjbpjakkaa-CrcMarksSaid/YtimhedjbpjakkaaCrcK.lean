/- The call of CrcMarks answers yes, and changes nothing that was there, if the calls of a table do what is asked of them. The statement itself is proved in another text. -/
import Derived.Test.YtimhedjbpjakkaaCrcS
namespace Go.Proofs.Ytimhedjbpjakkaa
open Go.RowKit
attribute [local go_sem ↓] Go.wp_at_zero Go.wp_at_succ

section
variable {Tb : World → Nat → Prop} (C : TabC Tb)
include C
set_option maxRecDepth 100000 in
set_option maxHeartbeats 1600000 in
theorem marks_short (x : Value) (bs : List UInt8) (S : Nat → Prop) (W : World) (hx : Byt W S x bs) (hS : ∀ b, S b → b < W.heap.size) (hl : bs.length ≤ 400) :
    Calls Try.prog 6 #[x] W fun e w' => e = .returned (.bool true) ∧ Below W.heap.size W w' := by
  have hv : ∃ A L c, L = bs.length ∧ x = .slice A L c := by obtain ⟨A, c, h, _⟩ := hx; exact ⟨A, _, c, rfl, h⟩
  obtain ⟨A, L, c, hL, rfl⟩ := hv
  have HB := Lib.hid hx
  have hL4 : L ≤ 400 := by omega
  have hlb : bs.length ≤ 400 := hl
  have hz := run_zero_tab
  clear hx hl hL
  go_enter Try.func6, Try.ntmps6
  go_wp2_with (first
    | (go_at_call 9; refine (speaks_any C _).mono ?_; rintro e W1 ⟨rfl, o1⟩))
  have P0 := Lib.hid (Pk.start C W1)
  have OB : Hid (Only none_ W (W1.alloc (.cells tabZero 38))) := o1.alloc _
  have hWg : Hid (W.heap.size ≤ W1.heap.size) := o1.size
  have FB := Lib.hid (byt_far HB.out hS OB.out hWg.out)
  clear HB
  generalize W1.alloc (.cells tabZero 38) = W2 at *
  generalize W1.heap.size = g at *
  clear o1
  have hM : Hid (crcHolds (crcMark bs) = true) := holds_mark bs
  have hml : (crcMark bs).length ≤ 1000000 := by rw [mark_len]; omega
  go_region_held3 (fun w' => Pk Tb W2 g w')
    (first | exact P0.out.drew C | exact P1.out | exact P2.out | exact ⟨P3.out, k3⟩ | exact ⟨⟨P4.out, k3⟩, k4⟩ | exact ⟨⟨P5.out, k3⟩, k4⟩ | exact ⟨⟨P6.out, k3⟩, k4⟩)
    (first
      | (go_at_call_of 19 L; refine (pk_holds C (P0.out.drew C) ((P0.out.drew C).byt FB.out) (by omega)).mono ?_; rintro e w1 ⟨rfl, p1, _⟩; have P1 := Lib.hid p1; clear p1)
      | (go_at_call 20; refine (refHolds_any _ bs _ _ (P1.out.byt FB.out) (by omega)).mono ?_; rintro e w2 ⟨rfl, o2⟩; have P2 := Lib.hid (Pk.keep C P1.out o2); clear o2)
      | (go_at_call_of 18 L; refine (pk_mark C P2.out (P2.out.byt FB.out) (by omega)).mono ?_; rintro e w3 ⟨A3, n3, c3, rfl, _, b3, p3, _⟩
         have P3 := Lib.hid p3
         have B3 := Lib.hid b3
         have k3 := run_bytes_string w3 _ _ _ b3
         have eK := shut_more (fun w' => Pk Tb W2 g w' ∧ (convert 22 9 (.slice A3 n3 c3)).run Try.prog w' = .ok (.string ⟨(crcMark bs).toArray⟩) w') (fun _ h => h.1) ‹Shut _›
         simp only [eK] at *
         clear eK p3 b3 P2)
      | (go_at_call 21; refine (pk_refMark C P3.out (P3.out.byt FB.out) (by omega)).mono ?_; rintro e w4 ⟨A4, n4, c4, rfl, b4, p4, o4⟩
         have P4 := Lib.hid p4
         have B4 := Lib.hid b4
         have B34 := Lib.hid (B3.out.only o4 (fun _ _ h => h))
         clear k3
         have k3 := run_bytes_string w4 _ _ _ B34.out
         have k4 := run_bytes_string w4 _ _ _ b4
         have eK := shut_more (fun w' => (Pk Tb W2 g w' ∧ (convert 22 9 (.slice A3 n3 c3)).run Try.prog w' = .ok (.string ⟨(crcMark bs).toArray⟩) w') ∧ (convert 22 9 (.slice A4 n4 c4)).run Try.prog w' = .ok (.string ⟨(crcMark bs).toArray⟩) w') (fun _ h => h.1) ‹Shut _›
         simp only [eK] at *
         clear eK p4 b4 o4 P3 B3)
      | (go_at_call_of 18 L; refine (pk_mark C P4.out (P4.out.byt FB.out) (by omega)).mono ?_; rintro e w5 ⟨A5, n5, c5, rfl, _, b5, p5, o5⟩
         have P5 := Lib.hid p5
         have B5 := Lib.hid b5
         have B35 := Lib.hid (B34.out.only o5 (fun _ h => h))
         have B45 := Lib.hid (B4.out.only o5 (fun _ h => h))
         clear k3 k4
         have k3 := run_bytes_string w5 _ _ _ B35.out
         have k4 := run_bytes_string w5 _ _ _ B45.out
         clear p5 b5 o5 P4 B34 B4)
      | (go_at_call 19; refine (pk_holds C P5.out B5.out hml).mono ?_; rintro e w6 ⟨rfl, p6, o6⟩; rw [hM.out]
         have P6 := Lib.hid p6
         have B36 := Lib.hid (B35.out.only o6 (fun _ h => h))
         have B46 := Lib.hid (B45.out.only o6 (fun _ h => h))
         clear k3 k4
         have k3 := run_bytes_string w6 _ _ _ B36.out
         have k4 := run_bytes_string w6 _ _ _ B46.out
         clear p6 o6))
  go_wp2_with fail
  go_ret
  exact ⟨rfl, P6.out.below OB.out hWg.out⟩
theorem marks_long (x : Value) (A : Option Addr) (n c : Nat) (W : World) (hx : x = .slice A n c) (hn : 400 < n) :
    Calls Try.prog 6 #[x] W fun e w' => e = .returned (.bool true) ∧ Below W.heap.size W w' := by
  subst hx
  go_enter Try.func6, Try.ntmps6
  go_wp2_with fail
  refine (speaks_any C _).mono ?_
  rintro e W1 ⟨rfl, o1⟩
  go_wp2_with fail
  refine (speaks_any C _).mono ?_
  rintro e W3 ⟨rfl, o3⟩
  go_wp2
  go_ret
  exact ⟨rfl, (o1.trans o3).below (Nat.le_refl _) (fun k hk => hk.elim)⟩
end
end Go.Proofs.Ytimhedjbpjakkaa
