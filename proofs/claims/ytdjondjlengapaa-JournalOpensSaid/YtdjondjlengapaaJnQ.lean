/- The call of JournalOpens answers yes, and changes nothing that was there. The statement itself is proved in another text. -/
import Derived.Test.YtdjondjlengapaaJnP
import Derived.Test.YtdjondjlengapaaJnS
import Derived.Test.YtdjondjlengapaaJnF
import Derived.Test.YtdjondjlengapaaStd
namespace Go.Proofs.Ytdjondjlengapaa
open Go.RowKit
set_option maxRecDepth 100000
set_option linter.all false

set_option maxHeartbeats 800000 in
theorem jo_long (A : Option Addr) (L c : Nat) (n : Int) (W : World) (h : 2000 < L) :
    Calls Try.prog 5 #[.slice A L c, .int .i64 n] W fun e w' => e = .returned (.bool true) ∧ Below W.heap.size W w' := by
  have tokA : True := trivial
  have hd : decide ((2000 : Int) < (L : Int)) = true := by simp; omega
  clear h
  go_enter Try.func5, Try.ntmps5
  go_wp2_with (first
    | (go_at_call 20; have _t := tokA; clear tokA; refine (j_speaks _).mono ?_; rintro E w1 ⟨rfl, o1⟩; have O1 := Lib.hid o1; clear o1; have tokB : True := trivial)
    | (go_at_call 20; have _t := tokB; clear tokB; refine (j_speaks _).mono ?_; rintro E w2 ⟨rfl, o2⟩; have O2 := Lib.hid (O1.out.trans o2); clear o2))
  go_ret
  exact ⟨rfl, O2.out.below (Nat.le_refl _) (fun k hk => hk.elim)⟩

/-- The disk, the journal, both lists, both texts, behind an opening. -/
structure Js (W : World) (g j : Nat) (d : Dv) (v : Value) (k : Int) (x y : Value) (l : List (List UInt8)) (s t : Value) (bs cs : List UInt8) (w : World) : Prop where
  j : Jn w j g k
  x : Rows_ w (fun b => b < w.heap.size) x l
  y : Rows_ w (fun b => b < w.heap.size) y l
  s : Byt w (fun b => b < w.heap.size) s bs
  t : Byt w (fun b => b < w.heap.size) t cs
  ho : Only none_ W w
theorem Js.keep {W w w' : World} {g j : Nat} {d : Dv} {v x y s t : Value} {k : Int} {l : List (List UInt8)} {bs cs : List UInt8} (h : Js W g j d v k x y l s t bs cs w) (o : Only none_ w w') : Js W g j d v k x y l s t bs cs w' :=
  have e : ∀ b, b < w.heap.size → b < w'.heap.size := fun b hb => Nat.lt_of_lt_of_le hb o.size
  ⟨h.j.only o (fun h => h), (h.x.only o (fun _ _ h => h)).mono (fun b hb _ => e b hb), (h.y.only o (fun _ _ h => h)).mono (fun b hb _ => e b hb), (h.s.only o (fun _ _ h => h)).mono (fun b hb _ => hb), (h.t.only o (fun _ _ h => h)).mono (fun b hb _ => hb), h.ho.trans o⟩

set_option maxHeartbeats 12800000 in
theorem jo_yes (A : Option Addr) (c : Nat) (xs : List UInt8) (f : Int) (W : World) (ha : Byt W (fun b => b < W.heap.size) (.slice A xs.length c) xs) (h2 : xs.length ≤ 2000) (hf1 : -9223372036854775808 ≤ f) (hf2 : f < 9223372036854775808) :
    Calls Try.prog 5 #[.slice A xs.length c, .int .i64 f] W fun e w' => e = .returned (.bool true) ∧ Below W.heap.size W w' := by
  obtain ⟨i0, hi0, hz0, hz1, hz2⟩ := info_parts u8_info
  have HRF : Hid (∀ w, Only none_ W w → Calls Try.prog 25 #[.slice A xs.length c] w fun e w' => ∃ v, e = .returned (.tuple #[v, .int .i64 ((jnRead xs).2.1 : Int), .int .i64 (jnRead xs).2.2]) ∧ Lst w' w.heap.size (fun b => b < w.heap.size) v (jnRead xs).1 ∧ Only none_ w w') :=
    fun w o => rf_read7 A c xs _ w (ha.only o (fun _ _ h => h)) (by omega)
  have HAP : Hid (∀ g v w, W.heap.size ≤ g → Only none_ W w → Dsk W g ⟨true, -1, [], 0⟩ v w → Calls Try.prog 28 #[.pointer (some ⟨g, 0, none⟩), .slice A xs.length c] w fun e w' => e = .returned (.int .i64 0) ∧ Left_ W g v w ⟨true, -1, xs, 0⟩ w') := by
    intro g v w hg o h
    have := disk_append W g ⟨true, -1, [], 0⟩ v (.slice A xs.length c) xs _ w h (ha.only o (fun _ _ h => h)) (fun b hb => by omega)
    have e0 : (if 1048576 < ([] : List UInt8).length + xs.length then (7 : Int) else 0) = 0 := if_neg (by simp; omega)
    simp only [e0] at this
    have e1 : chCode ⟨true, -1, [], 0⟩ 0 = 0 := by simp [chCode]
    have e2 : chD ⟨true, -1, [], 0⟩ 0 (dApp xs (burnt ⟨true, -1, [], 0⟩)) = ⟨true, -1, xs, 0⟩ := by simp [chD, burnt, dApp]
    rw [e1, e2] at this
    exact this
  obtain ⟨D, hD⟩ : ∃ D : Dv, (⟨true, f, xs, 0⟩ : Dv) = D := ⟨_, rfl⟩
  have hDo : D.on = true := by rw [← hD]
  have hDb : D.bs = xs := by rw [← hD]
  have hDf : D.fuse = f := by rw [← hD]
  have HFU : Hid (∀ g v w, Dsk W g ⟨true, -1, xs, 0⟩ v w → Calls Try.prog 29 #[.pointer (some ⟨g, 0, none⟩), .int .i64 f] w fun e w' => e = .returned (.tuple #[]) ∧ Dsk W g D v w' ∧ Only (one g) w w') := by
    intro g v w h
    have := power_fuse W g f _ v w h hf1 hf2
    rw [← hD]
    exact this
  have HA := Lib.hid ha
  obtain ⟨L, hL⟩ : ∃ L, xs.length = L := ⟨_, rfl⟩
  have hle := jnRead_le xs
  obtain ⟨R, hR⟩ : ∃ r, jnRead xs = r := ⟨_, rfl⟩
  rw [hL, hR] at HRF
  rw [hL] at HAP HA h2 ⊢
  rw [hR, hL] at hle
  have HLL := Lib.hid hL
  have hd2 : decide ((2000 : Int) < (L : Int)) = false := by simp; omega
  obtain ⟨l, n, k⟩ := R
  dsimp only at HRF hle
  have HJR : Hid (jnRead D.bs = (l, n, k)) := by rw [hDb]; exact hR
  have HDo := Lib.hid hDo
  have HDb := Lib.hid hDb
  clear ha hf1 hf2 hL hR hD
  have tokA : True := trivial
  by_cases hk : k = 0
  · have hkb : (k == 0) = true := by simpa using hk
    have hkn : (k != 0) = false := by simpa using hk
    by_cases hs : n < L ∧ f = 0
    · have hsn := hs.1
      have hfb : (f == 0) = true := by simpa using hs.2
      have OD := op_dark (d := D) hDo (by rw [HJR.out]; exact hk) (by rw [HJR.out, hDb, HLL.out]; exact hs.1) (by rw [hDf]; exact hs.2)
      have HOP : Hid (∀ g v w, Dsk W g D v w → Calls Try.prog 30 #[.pointer (some ⟨g, 0, none⟩)] w fun e w' => e = .returned (.tuple #[.pointer none, .slice none 0 0, .int .i64 11]) ∧ Left_ W g v w (opD D) w') := by
        intro g v w h
        refine (open_any W g D v w h).mono ?_
        rintro e w' ⟨vj, vl, rfl, ho, lf⟩
        rcases ho with ⟨_, rfl, rfl⟩ | ⟨h0, _⟩
        · exact ⟨by rw [OD.1], lf⟩
        · exact absurd (OD.1.symm.trans h0) (by decide)
      have hbsl : (opD D).bs.length = L := by rw [OD.2.2, hDb]; exact HLL.out
      have HON := Lib.hid OD.2.1
      have HBL := Lib.hid hbsl
      clear OD hk hs hDo hDb hDf HDo HDb HJR hbsl hle
      go_enter Try.func5, Try.ntmps5
      go_wp2_with (first
        | (go_at_call 20; refine (j_speaks _).mono ?_; rintro E w0 ⟨rfl, o0⟩; have O0 := Lib.hid o0; clear o0)
        | (go_at_call 27; refine (disk_new W _ O0.out).mono ?_; rintro E w1 ⟨g, rfl, hg, d1, o1⟩
           have D1 := Lib.hid d1
           have G1 : Hid (W.heap.size ≤ g) := Nat.le_trans O0.out.size hg
           clear hg d1 o1)
        | (go_at_call 28; refine (HAP.out _ _ _ G1.out D1.out.ho D1.out).mono ?_; rintro E w2 ⟨rfl, l2⟩
           obtain ⟨v2, d2, o2, m2⟩ := l2
           have D2 := Lib.hid d2
           have dp := d2.bk.cell_ (i := 0) rfl
           clear d2 o2 m2)
        | (go_at_call 29; refine (HFU.out _ _ _ D2.out).mono ?_; rintro E w3 ⟨rfl, d3, o3⟩
           have D3 := Lib.hid d3
           clear d3 o3)
        | (go_at_call 30; refine (HOP.out _ _ _ D3.out).mono ?_; rintro E w5 ⟨rfl, l5⟩
           obtain ⟨v5, d5, o5, m5⟩ := l5
           have D5 := Lib.hid d5
           clear d5 o5 m5)
        | (go_at_call 25; refine (HRF.out _ D5.out.ho).mono ?_; rintro E w6 ⟨v6, rfl, l6, o6⟩
           obtain ⟨A6, c6, rfl⟩ := l6.shape
           have D6 := Lib.hid (D5.out.keep o6)
           have dp6 := D6.out.bk.cell_ (i := 0) rfl
           clear l6 o6)
        | (go_at_call 31; refine (power_on W g _ _ _ D6.out).mono ?_; rw [HON.out]; rintro E w9 ⟨rfl, rfl⟩)
        | (go_at_call 32; refine (disk_len W g _ _ _ D6.out).mono ?_; rw [HBL.out]; rintro E w9 ⟨rfl, rfl⟩))
      go_ret
      exact ⟨rfl, D6.out.ho.below (Nat.le_refl _) (fun k hk => hk.elim)⟩
    · have HOK := op_code (d := D) hDo (by rw [HJR.out]; exact hk) (by rw [HJR.out, hDb, HLL.out, hDf]; exact hs)
      have OK := op_ok hDo HOK
      rw [HJR.out] at OK
      dsimp only at OK
      have HOP : Hid (∀ g v w, Dsk W g D v w → Calls Try.prog 30 #[.pointer (some ⟨g, 0, none⟩)] w fun e w' => ∃ j vl, e = .returned (.tuple #[.pointer (some ⟨j, 0, none⟩), vl, .int .i64 0]) ∧ Jn w' j g (l.length : Int) ∧ Lst w' w.heap.size (fun b => w.heap.size ≤ b) vl l ∧ Left_ W g v w (opD D) w') := by
        intro g v w h
        refine (open_any W g D v w h).mono ?_
        rintro e w' ⟨vj, vl, rfl, ho, lf⟩
        rcases ho with ⟨h0, _⟩ | ⟨_, j, rfl, _, hj, hl⟩
        · exact absurd HOK h0
        · rw [HJR.out] at hj hl
          exact ⟨j, vl, by rw [HOK], hj, hl, lf⟩
      have HBS : Hid ((opD D).bs = xs.take n) := by rw [Hid, OK.1, hDb]
      have HON := Lib.hid OK.2.1
      obtain ⟨At, hslt, hbt⟩ := byt_hi Try.underlying22 hi0 HA.out n (by omega) (n : Int) rfl
      have HBT := Lib.hid hbt
      have HSM : Hid (∀ (x y : Value) (S T : Nat → Prop) (w : World), Rows_ w S x l → Rows_ w T y l → Calls Try.prog 26 #[x, y] w fun e w' => e = .returned (.bool true) ∧ Only none_ w w') := by
        intro x y S T w h1 h2
        have := rf_same x y l l S T w h1 h2
        simpa using this
      have hnf : (n < L ∧ (f == 0) = false) ∨ ¬ n < L := by
        by_cases h1 : n < L
        · exact .inl ⟨h1, by have : f ≠ 0 := fun e => hs ⟨h1, e⟩; simpa using this⟩
        · exact .inr h1
      have hnL : (n : Int) ≤ (L : Int) := by omega
      have hll : ((l.length : Int) != (l.length : Int)) = false := by simp
      clear OK HOK hk hs hDo hDb hDf HDo HDb HJR hle hbt
      rcases hnf with ⟨hn1, hn2⟩ | hn1
      all_goals
        go_enter Try.func5, Try.ntmps5
        go_wp2_with (first
          | (go_at_call 20; refine (j_speaks _).mono ?_; rintro E w0 ⟨rfl, o0⟩; have O0 := Lib.hid o0; clear o0)
          | (go_at_call 27; refine (disk_new W _ O0.out).mono ?_; rintro E w1 ⟨g, rfl, hg, d1, o1⟩
             have D1 := Lib.hid d1
             have G1 : Hid (W.heap.size ≤ g) := Nat.le_trans O0.out.size hg
             clear hg d1 o1)
          | (go_at_call 28; refine (HAP.out _ _ _ G1.out D1.out.ho D1.out).mono ?_; rintro E w2 ⟨rfl, l2⟩
             obtain ⟨v2, d2, o2, m2⟩ := l2
             have D2 := Lib.hid d2
             have dp := d2.bk.cell_ (i := 0) rfl
             clear d2 o2 m2)
          | (go_at_call 29; refine (HFU.out _ _ _ D2.out).mono ?_; rintro E w3 ⟨rfl, d3, o3⟩
             have D3 := Lib.hid d3
             clear d3 o3)
          | (go_at_call 30; refine (HOP.out _ _ _ D3.out).mono ?_; rintro E w5 ⟨j, vl, rfl, hj, hl, l5⟩
             obtain ⟨v5, d5, o5, m5⟩ := l5
             obtain ⟨Al, cl, rfl⟩ := hl.shape
             have D5 := Lib.hid d5
             have J5 := Lib.hid hj
             have L5 := Lib.hid hl
             clear d5 o5 m5 hj hl)
          | (go_at_call 25; refine (HRF.out _ D5.out.ho).mono ?_; rintro E w6 ⟨v6, rfl, l6, o6⟩
             obtain ⟨A6, c6, rfl⟩ := l6.shape
             have D6 := Lib.hid (D5.out.keep o6)
             have J6 := Lib.hid (J5.out.only o6 (fun h => h))
             have O56 := Lib.hid o6
             have L6 := Lib.hid l6
             clear l6 o6)
          | (go_at_call 33; refine (disk_read W g _ _ _ D6.out).mono ?_; rw [HON.out]; simp only [if_true]; rintro E w7 ⟨⟨A7, n7, c7, rfl, own7⟩, o7⟩
             rw [HBS.out] at own7
             have T7 : Hid (Js W g j D v5 (l.length : Int) (.slice Al l.length cl) (.slice A6 l.length c6) l (.slice A7 n7 c7) (.slice At n c) (xs.take n) (xs.take n) w7.drew) := Js.keep (w := w7) ⟨J6.out.only o7 (fun h => h), ((L5.out.keep (O56.out.trans o7)).rows).mono (fun b _ hb => hb), ((L6.out.keep o7).rows).mono (fun b _ hb => hb), (Byt.of_own own7).mono (fun b hb _ => hb), (HBT.out.only (D6.out.ho.trans o7) (fun _ _ h => h)).mono (fun b hb _ => hb), D6.out.ho.trans o7⟩ (Only.refl none_ _).drew
             clear own7 o7))
        (refine wp_region_steady (fun w' => Js W g j D v5 (l.length : Int) (.slice Al l.length cl) (.slice A6 l.length c6) l (.slice A7 n7 c7) (.slice At n c) (xs.take n) (xs.take n) w') 32 (by kernel_rfl) (by kernel_rfl) (T7.out) ?_; simp only [List.take_succ_cons, List.take_zero, List.drop_succ_cons, List.drop_zero])
        repeat (first
          | (refine sd_value (v := ?_) (by rfl) (fun w0 hS => ?_) ?_; rotate_left; (· (skip; go_simp; try (with_reducible rfl))); try simp only [Act.put, List.setIfInBounds_toArray, List.set_cons_zero, List.set_cons_succ])
          | (refine sd_value (v := ?_) (by rfl) (fun w0 hS => ?_) ?_; rotate_left; (· (have hc := hS.j.disk; go_simp; try (with_reducible rfl))); try simp only [Act.put, List.setIfInBounds_toArray, List.set_cons_zero, List.set_cons_succ])
          | (refine sd_value (v := ?_) (by rfl) (fun w0 hS => ?_) ?_; rotate_left; (· (have hc := run_bytes_string _ _ _ _ hS.s; have hd := run_bytes_string _ _ _ _ hS.t; go_simp; try (with_reducible rfl))); try simp only [Act.put, List.setIfInBounds_toArray, List.set_cons_zero, List.set_cons_succ])
          | (refine sd_call (v := ?_) (f := 26) (args := ?_) (by rfl) (fun w0 hS => ?_) (fun w0 hS => ?_) ?_; rotate_left 2; (· (skip; go_simp; try (with_reducible rfl))); (· (refine (HSM.out _ _ _ _ _ hS.x hS.y).mono ?_; rintro E w8 ⟨rfl, o8⟩; refine ⟨?_, hS.keep o8⟩; rfl)); try simp only [Act.put, List.setIfInBounds_toArray, List.set_cons_zero, List.set_cons_succ])
          | (refine sd_call (v := ?_) (f := 34) (args := ?_) (by rfl) (fun w0 hS => ?_) (fun w0 hS => ?_) ?_; rotate_left 2; (· (have hc := hS.j.disk; go_simp; try (with_reducible rfl))); (· (refine (jn_len _ _ _ _ hS.j).mono ?_; rintro E w8 ⟨rfl, rfl⟩; refine ⟨?_, hS⟩; rfl)); try simp only [Act.put, List.setIfInBounds_toArray, List.set_cons_zero, List.set_cons_succ]))
        refine sd_nil ?_
        intro w8 t8
        go_wp2_with fail
        go_ret
        exact ⟨rfl, t8.ho.below (Nat.le_refl _) (fun k hk => hk.elim)⟩
  · have hkb : (k == 0) = false := by simpa using hk
    have hkn : (k != 0) = true := by simpa using hk
    have OR := op_rot (d := D) hDo (by rw [HJR.out]; exact hk)
    rw [HJR.out] at OR
    dsimp only at OR
    have HOP : Hid (∀ g v w, Dsk W g D v w → Calls Try.prog 30 #[.pointer (some ⟨g, 0, none⟩)] w fun e w' => e = .returned (.tuple #[.pointer none, .slice none 0 0, .int .i64 k]) ∧ Left_ W g v w D w') := by
      intro g v w h
      refine (open_any W g D v w h).mono ?_
      rintro e w' ⟨vj, vl, rfl, ho, lf⟩
      rw [OR.2] at lf
      rcases ho with ⟨_, rfl, rfl⟩ | ⟨h0, _⟩
      · exact ⟨by rw [OR.1], lf⟩
      · rw [OR.1] at h0; exact absurd h0 hk
    have hbsl : D.bs.length = L := by rw [hDb]; exact HLL.out
    have HBL := Lib.hid hbsl
    have hkk : (k == k) = true := by simp
    clear OR hk hDo hDb hDf HDo HDb HJR hbsl hle
    go_enter Try.func5, Try.ntmps5
    go_wp2_with (first
      | (go_at_call 20; refine (j_speaks _).mono ?_; rintro E w0 ⟨rfl, o0⟩; have O0 := Lib.hid o0; clear o0)
      | (go_at_call 27; refine (disk_new W _ O0.out).mono ?_; rintro E w1 ⟨g, rfl, hg, d1, o1⟩
         have D1 := Lib.hid d1
         have G1 : Hid (W.heap.size ≤ g) := Nat.le_trans O0.out.size hg
         clear hg d1 o1)
      | (go_at_call 28; refine (HAP.out _ _ _ G1.out D1.out.ho D1.out).mono ?_; rintro E w2 ⟨rfl, l2⟩
         obtain ⟨v2, d2, o2, m2⟩ := l2
         have D2 := Lib.hid d2
         have dp := d2.bk.cell_ (i := 0) rfl
         clear d2 o2 m2)
      | (go_at_call 29; refine (HFU.out _ _ _ D2.out).mono ?_; rintro E w3 ⟨rfl, d3, o3⟩
         have D3 := Lib.hid d3
         clear d3 o3)
      | (go_at_call 30; refine (HOP.out _ _ _ D3.out).mono ?_; rintro E w5 ⟨rfl, l5⟩
         obtain ⟨v5, d5, o5, m5⟩ := l5
         have D5 := Lib.hid d5
         clear d5 o5 m5)
      | (go_at_call 25; refine (HRF.out _ D5.out.ho).mono ?_; rintro E w6 ⟨v6, rfl, l6, o6⟩
         obtain ⟨A6, c6, rfl⟩ := l6.shape
         have D6 := Lib.hid (D5.out.keep o6)
         have dp6 := D6.out.bk.cell_ (i := 0) rfl
         clear l6 o6)
      | (go_at_call 32; refine (disk_len W g _ _ _ D6.out).mono ?_; rw [HBL.out]; rintro E w9 ⟨rfl, rfl⟩))
    go_ret
    exact ⟨rfl, D6.out.ho.below (Nat.le_refl _) (fun k hk => hk.elim)⟩
end Go.Proofs.Ytdjondjlengapaa
