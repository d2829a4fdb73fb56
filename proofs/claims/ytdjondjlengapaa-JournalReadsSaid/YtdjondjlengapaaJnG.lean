/- The call of JournalReads answers yes, and changes nothing that was there. The statement itself is proved in another text. -/
import Derived.Test.YtdjondjlengapaaJnS
import Derived.Test.YtdjondjlengapaaJnF
import Derived.Deep.RegionHeld
import Derived.Test.YtdjondjlengapaaStd
namespace Go.Proofs.Ytdjondjlengapaa
open Go.RowKit
set_option maxRecDepth 100000
set_option linter.all false

set_option maxHeartbeats 800000 in
theorem jr_long (A : Option Addr) (L c : Nat) (B : Option Addr) (M d : Nat) (W : World) (h : 600 < L ∨ 2000 < M) :
    Calls Try.prog 4 #[.slice A L c, .slice B M d] W fun e w' => e = .returned (.bool true) ∧ Below W.heap.size W w' := by
  have tokA : True := trivial
  by_cases h6 : 600 < L
  · have hd : decide ((600 : Int) < (L : Int)) = true := by simp; omega
    clear h h6
    go_enter Try.func4, Try.ntmps4
    go_wp2_with (first
      | (go_at_call 20; have _t := tokA; clear tokA; refine (j_speaks _).mono ?_; rintro E w1 ⟨rfl, o1⟩; have O1 := Lib.hid o1; clear o1; have tokB : True := trivial)
      | (go_at_call 20; have _t := tokB; clear tokB; refine (j_speaks _).mono ?_; rintro E w2 ⟨rfl, o2⟩; have O2 := Lib.hid (O1.out.trans o2); clear o2))
    go_ret
    exact ⟨rfl, O2.out.below (Nat.le_refl _) (fun k hk => hk.elim)⟩
  · have hd : decide ((600 : Int) < (L : Int)) = false := by simp; omega
    have he : decide ((2000 : Int) < (M : Int)) = true := by simp; omega
    clear h h6
    go_enter Try.func4, Try.ntmps4
    go_wp2_with (first
      | (go_at_call 20; have _t := tokA; clear tokA; refine (j_speaks _).mono ?_; rintro E w1 ⟨rfl, o1⟩; have O1 := Lib.hid o1; clear o1; have tokB : True := trivial)
      | (go_at_call 20; have _t := tokB; clear tokB; refine (j_speaks _).mono ?_; rintro E w2 ⟨rfl, o2⟩; have O2 := Lib.hid (O1.out.trans o2); clear o2))
    go_ret
    exact ⟨rfl, O2.out.below (Nat.le_refl _) (fun k hk => hk.elim)⟩

set_option maxHeartbeats 6400000 in
theorem jr_yes (A : Option Addr) (c : Nat) (xs : List UInt8) (B : Option Addr) (d : Nat) (bs : List UInt8) (W : World) (ha : Byt W (fun b => b < W.heap.size) (.slice A xs.length c) xs) (hb : Byt W (fun b => b < W.heap.size) (.slice B bs.length d) bs) (h6 : xs.length ≤ 600) (h2 : bs.length ≤ 2000) :
    Calls Try.prog 4 #[.slice A xs.length c, .slice B bs.length d] W fun e w' => e = .returned (.bool true) ∧ Below W.heap.size W w' := by
  have HRC : Hid (∀ w, Only none_ W w → Calls Try.prog 21 #[.slice A xs.length c] w fun e w' => ∃ v, e = .returned (.tuple #[v, .int .i64 (recCode xs.length)]) ∧ RecV w w' v xs ∧ Only none_ w w') :=
    fun w o => record_any _ _ xs w (ha.only o (fun _ _ h => h))
  have HCK : Hid (∀ w, Calls Try.prog 22 #[.slice A xs.length c] w fun e w' => e = .returned (.int .i64 (recCode xs.length)) ∧ w = w') := fun w => rf_check7 A xs.length c w
  have HRR : Hid (xs.length ≤ 512 → ∀ w, Only none_ W w → Calls Try.prog 23 #[.slice A xs.length c] w fun e w' => ∃ A n c, e = .returned (.slice A n c) ∧ w'.ownsRow w.heap.size 5 1 (.slice A n c) (recB xs).length (byts (recB xs)) ∧ Only none_ w w') :=
    fun h w o => rf_record7 _ xs _ w (ha.only o (fun _ _ h => h)) h
  have HRD : Hid (∀ w, Only none_ W w → Calls Try.prog 24 #[.slice B bs.length d] w fun e w' => ∃ v, e = .returned (.tuple #[v, .int .i64 ((jnRead bs).2.1 : Int), .int .i64 (jnRead bs).2.2]) ∧ Lst w' (w.heap.size + 1) (fun b => w.heap.size + 1 ≤ b) v (jnRead bs).1 ∧ Only none_ w w') :=
    fun w o => read7 B d bs _ w (hb.only o (fun _ _ h => h)) (by omega)
  have HRF : Hid (∀ w, Only none_ W w → Calls Try.prog 25 #[.slice B bs.length d] w fun e w' => ∃ v, e = .returned (.tuple #[v, .int .i64 ((jnRead bs).2.1 : Int), .int .i64 (jnRead bs).2.2]) ∧ Lst w' w.heap.size (fun b => b < w.heap.size) v (jnRead bs).1 ∧ Only none_ w w') :=
    fun w o => rf_read7 B d bs _ w (hb.only o (fun _ _ h => h)) (by omega)
  obtain ⟨L, hL⟩ : ∃ L, xs.length = L := ⟨_, rfl⟩
  obtain ⟨M, hM⟩ : ∃ L, bs.length = L := ⟨_, rfl⟩
  obtain ⟨RB, hRB⟩ : ∃ r, recB xs = r := ⟨_, rfl⟩
  obtain ⟨R, hR⟩ : ∃ r, jnRead bs = r := ⟨_, rfl⟩
  obtain ⟨z, hz⟩ : ∃ r, recCode L = r := ⟨_, rfl⟩
  have HV : Hid (∀ w w' v, RecV w w' v xs → (z = 0 ∧ ∃ A n c, v = .slice A n c ∧ w'.ownsRow w.heap.size 5 1 (.slice A n c) RB.length (byts RB)) ∨ (z ≠ 0 ∧ v = .slice none 0 0)) := by
    intro w w' v h
    unfold RecV at h
    rw [hL, hz, hRB] at h
    exact h
  have hz5 : z = 0 → L ≤ 512 := fun h => (rec_ok (hz.trans h)).2
  rw [hL, hz] at HRC HCK
  rw [hL, hRB] at HRR
  rw [hM, hR] at HRD HRF
  have hd6 : decide ((600 : Int) < (L : Int)) = false := by simp; omega
  have hd2 : decide ((2000 : Int) < (M : Int)) = false := by simp; omega
  have hzz : (z != z) = false := by simp
  rw [hL, hM]
  have HS : Hid (∀ (x y : Value) (S T : Nat → Prop) (w : World), Rows_ w S x R.1 → Rows_ w T y R.1 → Calls Try.prog 26 #[x, y] w fun e w' => e = .returned (.bool true) ∧ Only none_ w w') := by
    intro x y S T w h1 h2
    have := rf_same x y R.1 R.1 S T w h1 h2
    simpa using this
  obtain ⟨l, n, k⟩ := R
  dsimp only at HRD HRF HS
  clear ha hb h6 h2 hL hM hRB hR hz
  by_cases hz0 : z = 0
  · have hzb : (z != 0) = false := by simpa using hz0
    have hze : (z == 0) = true := by simpa using hz0
    have HR5 := Lib.hid (HRR.out (hz5 hz0))
    have HV0 : Hid (∀ w w' v, RecV w w' v xs → ∃ A n c, v = .slice A n c ∧ w'.ownsRow w.heap.size 5 1 (.slice A n c) RB.length (byts RB)) := fun w w' v h => by
      rcases HV.out w w' v h with h | h
      · exact h.2
      · exact absurd hz0 h.1
    clear hz0 hz5 HRR HV
    go_enter Try.func4, Try.ntmps4
    go_wp2_with (first
      | (go_at_call 20; refine (j_speaks _).mono ?_; rintro E w0 ⟨rfl, o0⟩; have O0 := Lib.hid o0; clear o0)
      | (go_at_call 21; refine (HRC.out _ O0.out).mono ?_; rintro E w1 ⟨v, rfl, r, o1⟩
         obtain ⟨A1, n1, c1, rfl, own1⟩ := HV0.out _ _ _ r
         have O1 := Lib.hid (O0.out.trans o1)
         have B1 := Lib.hid (Byt.of_own own1)
         clear r o1 own1)
      | (go_at_call 22; refine (HCK.out _).mono ?_; rintro E w9 ⟨rfl, rfl⟩))
    have k0 := run_bytes_string w1.drew _ _ _ B1.out.drew
    have OD := Lib.hid O1.out.drew
    first
      | (go_region_held (fun w' => (convert 22 9 (.slice A1 n1 c1)).run Try.prog w' = .ok (.string ⟨RB.toArray⟩) w')
          (first | with_reducible exact k0 | with_reducible exact ⟨k3, k2⟩)
          (first
            | (go_at_call 23; refine (HR5.out _ OD.out).mono ?_; rintro e w2 ⟨A2, n2, c2, rfl, hm2, o2⟩
               have O2 := Lib.hid (OD.out.trans o2)
               have k2 := run_bytes_string w2 _ _ _ (Byt.of_own hm2)
               have k3 := run_bytes_string w2 _ _ _ (B1.out.drew.only o2 (fun _ _ h => h))
               clear hm2 o2
               have eK := shut_more (fun w' => (convert 22 9 (.slice A1 n1 c1)).run Try.prog w' = .ok (.string ⟨RB.toArray⟩) w' ∧ (convert 22 9 (.slice A2 n2 c2)).run Try.prog w' = .ok (.string ⟨RB.toArray⟩) w') (fun _ h => h.1) ‹Shut _›
               simp only [eK] at *
               clear eK)))
      | fail
    have OX := O2
    clear k0 k2 k3
    go_wp2_with (first
      | (go_at_call 24; refine (HRD.out _ OX.out).mono ?_; rintro E w3 ⟨v3, rfl, l3, o3⟩
         obtain ⟨A3, c3, rfl⟩ := l3.shape
         have L3 := Lib.hid l3
         have O3 := Lib.hid (OX.out.trans o3)
         clear l3 o3)
      | (go_at_call 25; refine (HRF.out _ O3.out).mono ?_; rintro E w4 ⟨v4, rfl, l4, o4⟩
         have R3 := Lib.hid (L3.out.keep o4).rows
         have R4 := Lib.hid l4.rows
         have O4 := Lib.hid (O3.out.trans o4)
         clear l4 o4)
      | (go_at_call 26; refine (HS.out _ _ _ _ _ R3.out R4.out).mono ?_; rintro E w5 ⟨rfl, o5⟩
         have O5 := Lib.hid (O4.out.trans o5)
         clear o5))
    go_ret
    exact ⟨rfl, O5.out.below (Nat.le_refl _) (fun k hk => hk.elim)⟩
  · have hzb : (z != 0) = true := by simpa using hz0
    have hze : (z == 0) = false := by simpa using hz0
    have HV0 : Hid (∀ w w' v, RecV w w' v xs → v = .slice none 0 0) := fun w w' v h => by
      rcases HV.out w w' v h with h | h
      · exact absurd h.1 hz0
      · exact h.2
    clear hz0 hz5 HRR HV
    go_enter Try.func4, Try.ntmps4
    go_wp2_with (first
      | (go_at_call 20; refine (j_speaks _).mono ?_; rintro E w0 ⟨rfl, o0⟩; have O0 := Lib.hid o0; clear o0)
      | (go_at_call 21; refine (HRC.out _ O0.out).mono ?_; rintro E w1 ⟨v, rfl, r, o1⟩
         obtain rfl := HV0.out _ _ _ r
         have O1 := Lib.hid (O0.out.trans o1)
         clear r o1)
      | (go_at_call 22; refine (HCK.out _).mono ?_; rintro E w9 ⟨rfl, rfl⟩))
    (refine wp_region_steady (fun w' => Only none_ W w') 24 (by kernel_rfl) (by kernel_rfl) (O1.out.drew) ?_; simp only [List.take_succ_cons, List.take_zero, List.drop_succ_cons, List.drop_zero])
    repeat (first
      | (refine sd_value (v := ?_) (by rfl) (fun w0 hS => ?_) ?_; rotate_left; (· (skip; go_simp; try (with_reducible rfl))); try simp only [Act.put, List.setIfInBounds_toArray, List.set_cons_zero, List.set_cons_succ])
      | (refine sd_skip (by rfl) ?_; try simp only [Act.put, List.setIfInBounds_toArray, List.set_cons_zero, List.set_cons_succ]))
    refine sd_nil ?_
    intro w2 ox
    have OX := Lib.hid ox
    clear ox
    go_wp2_with (first
      | (go_at_call 24; refine (HRD.out _ OX.out).mono ?_; rintro E w3 ⟨v3, rfl, l3, o3⟩
         obtain ⟨A3, c3, rfl⟩ := l3.shape
         have L3 := Lib.hid l3
         have O3 := Lib.hid (OX.out.trans o3)
         clear l3 o3)
      | (go_at_call 25; refine (HRF.out _ O3.out).mono ?_; rintro E w4 ⟨v4, rfl, l4, o4⟩
         have R3 := Lib.hid (L3.out.keep o4).rows
         have R4 := Lib.hid l4.rows
         have O4 := Lib.hid (O3.out.trans o4)
         clear l4 o4)
      | (go_at_call 26; refine (HS.out _ _ _ _ _ R3.out R4.out).mono ?_; rintro E w5 ⟨rfl, o5⟩
         have O5 := Lib.hid (O4.out.trans o5)
         clear o5))
    go_ret
    exact ⟨rfl, O5.out.below (Nat.le_refl _) (fun k hk => hk.elim)⟩
end Go.Proofs.Ytdjondjlengapaa
