/- What New of views comes to. No statement of the seat is proved here. -/
import Derived.Test.YtiigebdmkibnbaaVwG
namespace Go.Proofs.Ytiigebdmkibnbaa
open Go.RowKit
set_option maxRecDepth 100000
set_option linter.all false

/-- How many a view may have. -/
def sizeB (n : Int) : Bool := decide (1 ≤ n) && decide (n ≤ 11)
def newOk (self a p : Int) : Bool := nodeB self && sizeB a && sizeB p
def vm0 (self : Int) (a p : Nat) : Vm := ⟨self, [], [], a, p⟩
theorem newOk_of {self a p : Int} (h : newOk self a p = true) : (0 ≤ self ∧ self < 12) ∧ (1 ≤ a ∧ a ≤ 11) ∧ (1 ≤ p ∧ p ≤ 11) := by
  simpa [newOk, nodeB, sizeB, and_assoc] using h
theorem vm0_ok {self : Int} {a p : Nat} (h : newOk self a p = true) : Vok (vm0 self a p) := by
  obtain ⟨h1, h2, h3⟩ := newOk_of h
  have r0 : Rl [] := ⟨List.Pairwise.nil, fun z hz => by simp at hz⟩
  exact ⟨h1, r0, r0, by simp [vm0], by simp [vm0], by simp [vm0], Nat.zero_le _, Nat.zero_le _, ⟨by show 1 ≤ a; omega, by show a ≤ 11; omega⟩, ⟨by show 1 ≤ p; omega, by show p ≤ 11; omega⟩⟩
set_option maxHeartbeats 1600000 in
theorem vw_size (p : Int) (w : World) :
    Calls Try.prog 24 #[.int .i64 p] w fun e w' => e = .returned (.bool (sizeB p)) ∧ w = w' := by
  by_cases h1 : 1 ≤ p
  · have e1 : decide (1 ≤ p) = true := by simpa using h1
    have e2 : sizeB p = decide (p ≤ 11) := by simp [sizeB, h1]
    rw [e2]
    go_enter Try.func24, Try.ntmps24
    go_wp2_with fail
    go_ret
    exact ⟨rfl, rfl⟩
  · have e1 : decide (1 ≤ p) = false := by simpa using h1
    have e2 : sizeB p = false := by simp [sizeB, h1]
    rw [e2]
    go_enter Try.func24, Try.ntmps24
    go_wp2_with fail
    go_ret
    exact ⟨rfl, rfl⟩
set_option maxHeartbeats 3200000 in
theorem vs_new_ok (self : Int) (a p : Nat) (w : World) (h : newOk self a p = true) :
    Calls Try.prog 7 #[.int .i64 self, .int .i64 a, .int .i64 p] w fun e w' => e = .returned (.tuple #[.pointer (some ⟨w.heap.size, 0, none⟩), .int .i64 0]) ∧ Blk w' w.heap.size 52 (vcs (vm0 self a p) (.slice none 0 0) (.slice none 0 0)) ∧ Only none_ w w' := by
  simp only [newOk, Bool.and_eq_true] at h
  have h1 := Lib.hid (fun w => vw_site self w)
  have h2 := Lib.hid (fun w => vw_size (a : Int) w)
  have h3 := Lib.hid (fun w => vw_size (p : Int) w)
  rw [h.1.1] at h1
  rw [h.1.2] at h2
  rw [h.2] at h3
  clear h
  have tok1 : True := trivial
  have F : Hid (Blk (w.alloc (.cells (vcs (vm0 self a p) (.slice none 0 0) (.slice none 0 0)) 52)) w.heap.size 52 (vcs (vm0 self a p) (.slice none 0 0) (.slice none 0 0)) ∧ Only none_ w (w.alloc (.cells (vcs (vm0 self a p) (.slice none 0 0) (.slice none 0 0)) 52))) := ⟨Blk.new _ _ _, (Only.refl none_ w).alloc _⟩
  go_enter Try.func7, Try.ntmps7
  go_wp2_with (first
    | (go_at_call 23; refine (h1.out _).mono ?_; rintro E w1 ⟨rfl, rfl⟩)
    | (go_at_call 24; have _t := tok1; clear tok1; refine (h2.out _).mono ?_; rintro E w1 ⟨rfl, rfl⟩)
    | (go_at_call 24; refine (h3.out _).mono ?_; rintro E w1 ⟨rfl, rfl⟩))
  go_ret2
  exact ⟨rfl, F.out⟩
set_option maxHeartbeats 3200000 in
theorem vs_new_bad (self a p : Int) (w : World) (h : newOk self a p = false) :
    Calls Try.prog 7 #[.int .i64 self, .int .i64 a, .int .i64 p] w fun e w' => e = .returned (.tuple #[.pointer none, .int .i64 1]) ∧ Only none_ w w' := by
  have h1 := Lib.hid (fun w => vw_site self w)
  have h2 := Lib.hid (fun w => vw_size a w)
  have h3 := Lib.hid (fun w => vw_size p w)
  rw [newOk] at h
  cases b1 : nodeB self with
  | false =>
    rw [b1] at h1
    clear h b1 h2 h3
    go_enter Try.func7, Try.ntmps7
    go_wp2_with (first
      | (go_at_call 23; refine (h1.out _).mono ?_; rintro E w1 ⟨rfl, rfl⟩))
    go_ret2
    exact ⟨rfl, Only.refl _ _⟩
  | true =>
    rw [b1] at h1
    cases b2 : sizeB a with
    | false =>
      rw [b2] at h2
      clear h b1 b2 h3
      go_enter Try.func7, Try.ntmps7
      go_wp2_with (first
        | (go_at_call 23; refine (h1.out _).mono ?_; rintro E w1 ⟨rfl, rfl⟩)
        | (go_at_call 24; refine (h2.out _).mono ?_; rintro E w1 ⟨rfl, rfl⟩))
      go_ret2
      exact ⟨rfl, Only.refl _ _⟩
    | true =>
      have b3 : sizeB p = false := by simpa [b1, b2] using h
      rw [b2] at h2
      rw [b3] at h3
      clear h b1 b2 b3
      have tok1 : True := trivial
      go_enter Try.func7, Try.ntmps7
      go_wp2_with (first
        | (go_at_call 23; refine (h1.out _).mono ?_; rintro E w1 ⟨rfl, rfl⟩)
        | (go_at_call 24; have _t := tok1; clear tok1; refine (h2.out _).mono ?_; rintro E w1 ⟨rfl, rfl⟩)
        | (go_at_call 24; refine (h3.out _).mono ?_; rintro E w1 ⟨rfl, rfl⟩))
      go_ret2
      exact ⟨rfl, Only.refl _ _⟩
/-- New views, and dice. -/
theorem vs_made {w : World} {B d dd : Nat} {vd : Value} {zs : List Int} {self : Int} {a p : Nat} (hb : Blk w d 52 (vcs (vm0 self a p) (.slice none 0 0) (.slice none 0 0))) (hB : B ≤ d) (hd : Dc w B dd vd zs) (h : newOk self a p = true) :
    Vs w B d (vm0 self a p) (.slice none 0 0) (.slice none 0 0) dd vd zs :=
  ⟨hb, World.ownsRow_nil _ _ _ _, World.ownsRow_nil _ _ _ _, hd, vm0_ok h, fun k hk => by simp [Value.ownBlock] at hk, fun k hk => by simp [Value.ownBlock] at hk, fun k hk => by simp [Value.ownBlock] at hk, hB⟩

set_option maxHeartbeats 6400000 in
theorem vw_speaks (w : World) :
    Calls Try.prog 6 #[] w fun e w' => e = .returned (.bool true) ∧ Only none_ w w' := by
  have HN := Lib.hid (vs_new_ok 0 1 2 w rfl)
  have tok1 : True := trivial
  have tokA : True := trivial
  have hr1 : rsG (vm0 0 1 2) 1 [] = -1 ∧ rsOk (vm0 0 1 2) 1 = true ∧ rsV (vm0 0 1 2) 1 [] = ⟨0, [1], [], 1, 2⟩ ∧ rsZ (vm0 0 1 2) 1 [] = [] := by refine ⟨?_, ?_, ?_, ?_⟩ <;> rfl
  have hr2 : rsG ⟨0, [1], [], 1, 2⟩ 2 [] = 1 ∧ rsOk ⟨0, [1], [], 1, 2⟩ 2 = true ∧ rsV ⟨0, [1], [], 1, 2⟩ 2 [] = ⟨0, [2], [1], 1, 2⟩ ∧ rsZ ⟨0, [1], [], 1, 2⟩ 2 [] = [] := by refine ⟨?_, ?_, ?_, ?_⟩ <;> rfl
  have R1 := Lib.hid hr1
  have R2 := Lib.hid hr2
  clear hr1 hr2
  go_enter Try.func6, Try.ntmps6
  go_wp2_with (first
    | (go_at_call 7; refine HN.out.mono ?_; rintro E w1 ⟨rfl, b1, o1⟩; have H1 := Lib.hid (show _ ∧ _ from ⟨b1, o1⟩); clear b1 o1)
    | (go_at_call 9; refine (dc_new _ [] none_ _ (Nm.nil _ _) (by simp)).mono ?_; rintro E w2 ⟨dd, vd, rfl, d2, o2⟩
       have H2 : Hid (Vs w2 w.heap.size w.heap.size (vm0 0 1 2) (.slice none 0 0) (.slice none 0 0) dd vd [] ∧ Only none_ w w2) := ⟨vs_made (H1.out.1.only o2 (fun e => e)) (Nat.le_refl _) (d2.base H1.out.2.size) rfl, H1.out.2.trans o2⟩
       clear d2 o2)
    | (go_at_call 16; have _t := tok1; clear tok1
       refine (vs_raise w.heap.size w.heap.size _ _ _ dd vd [] 1 w2 H2.out.1 H2.out.2.size).mono ?_; rintro E w3 ⟨rfl, vA3, vP3, vd3, s3, o3, m3⟩
       rw [R1.out.2.2.1, R1.out.2.2.2] at s3
       rw [R1.out.1, R1.out.2.1]
       have H3 : Hid (Vs w3 w.heap.size w.heap.size ⟨0, [1], [], 1, 2⟩ vA3 vP3 dd vd3 [] ∧ Only none_ w w3) := ⟨s3, H2.out.2.trans' o3 (fun k hk e => by have := (H2.out.1.foot e).1; omega)⟩
       clear s3 o3 m3)
    | (go_at_call 16
       refine (vs_raise w.heap.size w.heap.size _ _ _ dd vd3 [] 2 w3 H3.out.1 H3.out.2.size).mono ?_; rintro E w4 ⟨rfl, vA4, vP4, vd4, s4, o4, m4⟩
       rw [R2.out.2.2.1, R2.out.2.2.2] at s4
       rw [R2.out.1, R2.out.2.1]
       have H4 : Hid (Vs w4 w.heap.size w.heap.size ⟨0, [2], [1], 1, 2⟩ vA4 vP4 dd vd4 [] ∧ Only none_ w w4) := ⟨s4, H3.out.2.trans' o4 (fun k hk e => by have := (H3.out.1.foot e).1; omega)⟩
       clear s4 o4 m4)
    | (go_at_call 14; refine (vs_isA w.heap.size w.heap.size _ _ _ dd vd4 [] 2 w4 H4.out.1).mono ?_; rintro E w5 ⟨rfl, o5⟩
       have H5 : Hid (Vs w5 w.heap.size w.heap.size ⟨0, [2], [1], 1, 2⟩ vA4 vP4 dd vd4 [] ∧ Only none_ w w5) := ⟨H4.out.1.keep o5, H4.out.2.trans o5⟩
       have e5 : decide ((2 : Int) ∈ ([2] : List Int)) = true := rfl
       dsimp only
       rw [e5]
       clear o5 e5)
    | (go_at_call 15; refine (vs_isP w.heap.size w.heap.size _ _ _ dd vd4 [] 1 w5 H5.out.1).mono ?_; rintro E w6 ⟨rfl, o6⟩
       have H6 := Lib.hid (H5.out.2.trans o6)
       have e6 : decide ((1 : Int) ∈ ([1] : List Int)) = true := rfl
       dsimp only
       rw [e6]
       clear o6 e6))
  go_ret
  exact ⟨rfl, H6.out⟩
end Go.Proofs.Ytiigebdmkibnbaa
