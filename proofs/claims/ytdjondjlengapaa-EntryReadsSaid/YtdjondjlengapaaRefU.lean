/- What the document's own calls Value, Take, Flag, Text and Done give. No statement of the seat is proved here. -/
import Derived.Test.YtdjondjlengapaaRefT
import Derived.Test.YtdjondjlengapaaRefN
namespace Go.Proofs.Ytdjondjlengapaa
open Go.RowKit
set_option linter.all false
set_option maxRecDepth 100000
attribute [local go_sem ↓] Go.wp_at_zero Go.wp_at_succ

theorem leVal_drop (xs : List UInt8) (j : Nat) (hj : j < xs.length) : leVal (xs.drop j) = xs[j].toNat + 256 * leVal (xs.drop (j + 1)) := by
  rw [List.drop_eq_getElem_cons hj]; rfl
theorem leVal_drop_lt (xs : List UInt8) (j : Nat) (h8 : xs.length ≤ 8) : leVal (xs.drop j) < 18446744073709551616 := by
  have h1 := leVal_lt (xs.drop j)
  have h2 : 256 ^ (xs.drop j).length ≤ 256 ^ 8 := Nat.pow_le_pow_right (by omega) (by simp; omega)
  omega

set_option maxHeartbeats 400000 in
theorem ref_value (A : Option Addr) (L c : Nat) (xs : List UInt8) (S : Nat → Prop) (w : World) (h : Byt w S (.slice A L c) xs) (h8 : xs.length ≤ 8) :
    Calls Try.prog 59 #[.slice A L c] w fun e w' => e = .returned (.int .u64 (leVal xs : Int)) ∧ w = w' := by
  obtain ⟨A', c', he, _, _, _, hc⟩ := h
  injection he with e1 e2 e3
  subst e1 e2 e3
  have HC := Lib.hid hc
  clear hc
  go_enter Try.func59, Try.ntmps59
  go_wp2
  go_loop [3, 4] (fun v i => ∃ j : Nat, j ≤ xs.length ∧ i = .int .i64 ((j : Int) - 1) ∧ v = .int .u64 (leVal (xs.drop j) : Int)) (fun _ i => (intOf i + 1).toNat)
  case atStart => exact ⟨xs.length, Nat.le_refl _, rfl, by simp [leVal]⟩
  case round =>
    obtain ⟨j, hj, rfl, rfl⟩ := hrel
    by_cases h0 : 0 < j
    · obtain ⟨b, off, rfl, _, _, hcell⟩ := HC.out (by omega)
      obtain ⟨k, rfl⟩ : ∃ k, j = k + 1 := ⟨j - 1, by omega⟩
      have hk := hcell k (by omega)
      have hstep := leVal_drop xs k (by omega)
      have hlt := leVal_drop_lt xs k h8
      obtain ⟨z, hz⟩ : ∃ z, z = xs[k]'(by omega) := ⟨_, rfl⟩
      simp only [byt, ← hz] at hk hstep
      have hz8 := z.toNat_lt
      obtain ⟨y, hy⟩ : ∃ y, y = leVal (xs.drop (k + 1)) := ⟨_, rfl⟩
      rw [← hy] at hstep ⊢
      rw [hstep] at hlt
      have HS := Lib.hid hstep
      have e1 : (((k + 1 : Nat) : Int) - 1) = (k : Int) := by omega
      rw [e1]
      clear hstep hz hcell hy e1
      go_wp2
      go_round
      case rel => exact ⟨k, by omega, rfl, by rw [HS.out]; go_num⟩
      case measure => simp [intOf]
    · obtain rfl : j = 0 := by omega
      go_wp2
      go_ret
      exact ⟨rfl, rfl⟩

theorem rawR_left (err : Int) (r : List UInt8) (n : Int) : (rawR err r n).2.1 = r.drop (rawR err r n).2.2.length := by
  unfold rawR
  split
  · rfl
  · split
    · rename_i h
      simp only [List.length_take]
      rw [Nat.min_eq_left h.2]
    · rfl
theorem rawR_len (err : Int) (r : List UInt8) (n : Int) : (rawR err r n).2.2.length ≤ r.length := by
  unfold rawR
  split
  · simp
  · split
    · simp only [List.length_take]; omega
    · simp
theorem rawR_told (err : Int) (r : List UInt8) (n : Int) (m : Nat) (h : n ≤ m) : (rawR err r n).2.2.length ≤ m := by
  unfold rawR
  split
  · simp
  · split
    · simp only [List.length_take]; omega
    · simp
theorem numR_raw {err : Int} {r : List UInt8} {n : Int} (h : isW n = true) : numR err r n = ((rawR err r n).1, (rawR err r n).2.1, leVal (rawR err r n).2.2) := by
  have hr : 1 ≤ n ∧ n ≤ 8 := by simpa [isW] using h
  have h0 : ¬ n < 0 := by omega
  unfold numR rawR
  rw [if_pos h, if_neg h0]
  split <;> simp [leVal]
theorem drop_more {bs : List UInt8} {k d : Nat} : (bs.drop k).drop d = bs.drop (k + d) := by rw [List.drop_drop]

set_option maxHeartbeats 800000 in
theorem ref_take (A : Option Addr) (L c : Nat) (bs : List UInt8) (k : Nat) (err n : Int) (S : Nat → Prop) (w : World) (h : Byt w S (.slice A L c) bs) (hS : ∀ b, S b → b < w.heap.size) (hk : k ≤ L) (hL : L ≤ 100000) (hn : n ≤ 9223372036854775807) :
    Calls Try.prog 50 #[.agg #[.slice A L c, .int .i64 (k : Int), .int .i64 err], .int .i64 n] w fun E w' =>
      ∃ d : Nat, E = .returned (.tuple #[.agg #[.slice A L c, .int .i64 ((k + d : Nat) : Int), .int .i64 (numR err (bs.drop k) n).1], .int .u64 ((numR err (bs.drop k) n).2.2 : Int)]) ∧
        (numR err (bs.drop k) n).2.1 = bs.drop (k + d) ∧ k + d ≤ L ∧ Only none_ w w' := by
  have hLb : L = bs.length := by obtain ⟨_, _, he, _⟩ := h; injection he
  have H := Lib.hid h
  by_cases hw : isW n = true
  · have hr : 1 ≤ n ∧ n ≤ 8 := by simpa [isW] using hw
    have HR : Hid (numR err (bs.drop k) n = ((rawR err (bs.drop k) n).1, (rawR err (bs.drop k) n).2.1, leVal (rawR err (bs.drop k) n).2.2)) := numR_raw hw
    have hT8 := rawR_told err (bs.drop k) n 8 (by omega)
    have hTL := rawR_len err (bs.drop k) n
    have HLeft := Lib.hid (rawR_left err (bs.drop k) n)
    have HW := Lib.hid hw
    have hB1 := blk_two w 41 #[.slice A L c, .int .i64 (k : Int), .int .i64 err] #[.slice none 0 0, .int .i64 0, .int .i64 0]
    have HRaw := fun w' hw' => ref_raw A L c bs k err n S w' hw' hk hL hn
    obtain ⟨rr, hrr⟩ : ∃ rr, rr = rawR err (bs.drop k) n := ⟨_, rfl⟩
    rw [← hrr] at HR hT8 hTL HLeft HRaw
    simp only [List.length_drop, ← hLb] at hTL
    have HLb := Lib.hid hLb
    clear h hw hrr hLb
    go_enter Try.func50, Try.ntmps50
    go_wp2_with (first
      | (go_at_call 78; refine (refWidth_any _ _).mono ?_; rintro e w' ⟨rfl, rfl⟩; rw [HW.out])
      | (go_at_call 77; refine (HRaw _ (H.out.only (((Only.refl none_ w).alloc _).alloc _) (fun _ _ h => h))).mono ?_; rintro e w1 ⟨A1, L1, c1, rfl, b1, o1⟩; have B1 := Lib.hid b1; have O1 := Lib.hid o1; clear b1 o1))
    have B4 := Lib.hid ((hB1.1.only O1.out (fun h => h)).alloc (.cells #[.slice A L c, .int .i64 ((k : Int) + (rr.2.2.length : Int)), .int .i64 rr.1] 41))
    have B6 := Lib.hid (Blk.new w1 41 #[.slice A L c, .int .i64 ((k : Int) + (rr.2.2.length : Int)), .int .i64 rr.1])
    have BV := Lib.hid (B1.out.alloc (.cells #[.slice A L c, .int .i64 ((k : Int) + (rr.2.2.length : Int)), .int .i64 rr.1] 41))
    have O2 := Lib.hid ((((((Only.refl none_ w).alloc _).alloc _).trans O1.out).alloc (.cells #[.slice A L c, .int .i64 ((k : Int) + (rr.2.2.length : Int)), .int .i64 rr.1] 41)))
    have hne : w.heap.size + 1 < w1.heap.size := by have := O1.out.size; simp at this; omega
    generalize w1.alloc (.cells #[.slice A L c, .int .i64 ((k : Int) + (rr.2.2.length : Int)), .int .i64 rr.1] 41) = W2 at *
    generalize w1.heap.size = g6 at *
    obtain ⟨f0, f1, f2, g0, g1, g2⟩ := cur_facts B4.out
    obtain ⟨d0, d1, d2, _, _, _⟩ := cur_facts B6.out
    clear hB1 O1 B1
    go_region_held3 (fun w' => w'.cell? ⟨g6, 0, none⟩ = some (.slice A L c) ∧ w'.cell? ⟨g6, 1, none⟩ = some (.int .i64 ((k : Int) + (rr.2.2.length : Int))) ∧ w'.cell? ⟨g6, 2, none⟩ = some (.int .i64 rr.1))
      (first | exact ⟨d0, d1, d2⟩ | exact far_fill B6.out (Nat.ne_of_lt hne) _ _ _)
      (first | (go_at_call 59; refine (ref_value _ _ _ _ _ _ (by exact BV.out) hT8).mono ?_; rintro e w' ⟨rfl, rfl⟩))
    all_goals
      go_wp2
      refine bodyPost_ret (results_cell_tmp rfl _ _ (w.heap.size + 1) 41 _ _ rfl (Blk.drew (blk_fill B4.out _ _ _)) Try.underlying41 rfl (by kernel_rfl) _ rfl) rfl ?_
      rw [HR.out]
      exact ⟨rr.2.2.length, rfl, by rw [HLeft.out, drop_more], by omega, (only_fill O2.out (.inr (by omega)) _ _ _).drew⟩
  · have hwf : isW n = false := by simpa using hw
    have HR : Hid (numR err (bs.drop k) n = (first_ err 1, bs.drop k, 0)) := by simp only [Hid, numR, if_neg hw]
    have HW := Lib.hid hwf
    clear h hLb hw hwf
    have hB1 := (blk_two w 41 #[.slice A L c, .int .i64 (k : Int), .int .i64 err] #[.slice none 0 0, .int .i64 0, .int .i64 0]).1
    go_enter Try.func50, Try.ntmps50
    go_wp2_with (first
      | (go_at_call 78; refine (refWidth_any _ _).mono ?_; rintro e w' ⟨rfl, rfl⟩; rw [HW.out])
      | (go_at_call 68; refine (ref_fail _ _ _ _ _ _ _).mono ?_; rintro e w1 ⟨rfl, o1⟩; obtain ⟨f0, f1, f2, g0, g1, g2⟩ := cur_facts (hB1.only o1 (fun h => h))))
    refine bodyPost_ret (results_cell_tmp rfl _ _ (w.heap.size + 1) 41 _ _ rfl (blk_fill (hB1.only o1 (fun h => h)) _ _ _) Try.underlying41 rfl (by kernel_rfl) _ rfl) rfl ?_
    rw [HR.out]
    exact ⟨0, rfl, rfl, by omega, only_fill ((((Only.refl none_ w).alloc _).alloc _).trans o1) (.inr (by simp)) _ _ _⟩

theorem first_ne (err e : Int) (h : e ≠ 0) : first_ err e ≠ 0 := by unfold first_; split <;> simp_all

set_option maxHeartbeats 1600000 in
theorem ref_flag (A : Option Addr) (L c : Nat) (bs : List UInt8) (k : Nat) (err : Int) (S : Nat → Prop) (w : World) (h : Byt w S (.slice A L c) bs) (hS : ∀ b, S b → b < w.heap.size) (hk : k ≤ L) (hL : L ≤ 100000) :
    Calls Try.prog 49 #[.agg #[.slice A L c, .int .i64 (k : Int), .int .i64 err]] w fun E w' =>
      ∃ d : Nat, E = .returned (.tuple #[.agg #[.slice A L c, .int .i64 ((k + d : Nat) : Int), .int .i64 (flagR err (bs.drop k)).1], .bool (flagR err (bs.drop k)).2.2]) ∧
        (flagR err (bs.drop k)).2.1 = bs.drop (k + d) ∧ k + d ≤ L ∧ Only none_ w w' := by
  have hLb : L = bs.length := by obtain ⟨_, _, he, _⟩ := h; injection he
  have H := Lib.hid h
  have hB1 := blk_two w 41 #[.slice A L c, .int .i64 (k : Int), .int .i64 err] #[.slice none 0 0, .int .i64 0, .int .i64 0]
  have HRaw := fun w' hw' => ref_raw A L c bs k err 1 S w' hw' hk hL (by omega)
  by_cases hstop : err ≠ 0 ∨ bs.length ≤ k
  · have hr1 : rawR err (bs.drop k) 1 = (takeCode err (bs.drop k) 1, bs.drop k, []) := by
      have h3 : ¬ (err = 0 ∧ 1 ≤ (bs.drop k).length) := by
        rintro ⟨h4, h5⟩
        rcases hstop with h6 | h6
        · exact h6 h4
        · simp at h5; omega
      simp only [rawR, show ¬ ((1 : Int) < 0) from by omega, if_false, show (1 : Int).toNat = 1 from rfl, h3]
    have hne : (takeCode err (bs.drop k) 1 != 0) = true := by
      rw [bne_iff_ne]
      unfold takeCode
      split
      · exact first_ne _ _ (by decide)
      · rcases hstop with h6 | h6
        · exact h6
        · rename_i h7; exact absurd (by simp; omega) h7
    have HR : Hid (flagR err (bs.drop k) = (takeCode err (bs.drop k) 1, bs.drop k, false)) := by
      unfold Hid
      cases hr : bs.drop k with
      | nil => simp [flagR, takeCode]
      | cons b r =>
        have : err ≠ 0 := by
          rcases hstop with h6 | h6
          · exact h6
          · have := List.drop_eq_nil_iff.2 h6; rw [this] at hr; cases hr
        simp [flagR, this, takeCode]
    simp only [hr1, List.length_nil, Nat.add_zero] at HRaw
    obtain ⟨c1, hc1⟩ : ∃ c1, c1 = takeCode err (bs.drop k) 1 := ⟨_, rfl⟩
    rw [← hc1] at HRaw hne HR
    clear h hLb hstop hr1 hc1
    go_enter Try.func49, Try.ntmps49
    go_wp2_with (first
      | (go_at_call 77; refine (HRaw _ (H.out.only (((Only.refl none_ w).alloc _).alloc _) (fun _ _ h => h))).mono ?_; rintro e w1 ⟨A1, L1, c2, rfl, b1, o1⟩; have O1 := Lib.hid o1
         have B4 := Lib.hid ((hB1.1.only o1 (fun h => h)).alloc (.cells #[.slice A L c, .int .i64 (k : Int), .int .i64 c1] 41))
         obtain ⟨f0, f1, f2, g0, g1, g2⟩ := cur_facts B4.out
         clear b1 o1))
    refine bodyPost_ret (results_cell_tmp rfl _ _ (w.heap.size + 1) 41 _ _ rfl (blk_fill B4.out _ _ _) Try.underlying41 rfl (by kernel_rfl) _ rfl) rfl ?_
    rw [HR.out]
    exact ⟨0, rfl, rfl, by omega, only_fill (((((Only.refl none_ w).alloc _).alloc _).trans O1.out).alloc _) (.inr (by simp)) _ _ _⟩
  · obtain ⟨rfl, hkl⟩ : err = 0 ∧ k < bs.length := ⟨Classical.byContradiction fun h => hstop (.inl h), by have : ¬ bs.length ≤ k := fun h => hstop (.inr h); omega⟩
    clear hstop
    obtain ⟨b, hb⟩ : ∃ b, b = bs[k] := ⟨_, rfl⟩
    have hdr : bs.drop k = b :: bs.drop (k + 1) := by rw [hb, List.drop_eq_getElem_cons hkl]
    have hr1 : rawR 0 (bs.drop k) 1 = (0, bs.drop (k + 1), [b]) := by
      rw [hdr]
      simp [rawR]
    have hb8 := b.toNat_lt
    simp only [hr1, List.length_cons, List.length_nil, Nat.zero_add] at HRaw
    by_cases hb1 : 1 < b.toNat
    · have HR : Hid (flagR 0 (bs.drop k) = (4, bs.drop k, false)) := by rw [Hid, hdr]; simp [flagR, hb1]
      have hkk : k + 0 ≤ L := by omega
      clear h hLb hr1 hdr hb
      go_enter Try.func49, Try.ntmps49
      go_wp2_with (first
        | (go_at_call 77; refine (HRaw _ (H.out.only (((Only.refl none_ w).alloc _).alloc _) (fun _ _ h => h))).mono ?_; rintro e w1 ⟨A1, L1, c2, rfl, b1, o1⟩; have O1 := Lib.hid o1
           obtain ⟨A', c', he', _, _, _, hcs⟩ := b1
           injection he' with ha1 ha2 ha3
           subst ha1 ha2 ha3
           obtain ⟨bb, bo, rfl, hSb, hblt, hcc⟩ := hcs (by simp)
           have hcell : ∀ o, (w1.alloc o).cell? ⟨bb, bo, none⟩ = some (.int .u8 (b.toNat : Int)) := fun o => (World.cell?_alloc_lt w1 o ⟨bb, bo, none⟩ hblt).trans (by simpa [byt] using hcc 0 (by simp))
           have B4 := Lib.hid ((hB1.1.only o1 (fun h => h)).alloc (.cells #[.slice A L c, .int .i64 ((k : Int) + 1), .int .i64 0] 41))
           have B1 := (hB1.2.only o1 (fun h => h)).alloc (.cells #[.slice A L c, .int .i64 ((k : Int) + 1), .int .i64 0] 41)
           obtain ⟨d0, d1, d2, _, _, _⟩ := cur_facts B1
           clear hcs hcc o1 B1)
        | (go_at_call 68; refine (ref_fail _ _ _ _ _ _ _).mono ?_; rintro e w3 ⟨rfl, o3⟩; have O3 := Lib.hid o3
           have B5 := Lib.hid (B4.out.only o3 (fun h => h))
           obtain ⟨f0, f1, f2, g0, g1, g2⟩ := cur_facts B5.out
           clear o3))
      refine bodyPost_ret (results_cell_tmp rfl _ _ (w.heap.size + 1) 41 _ _ rfl (blk_fill B5.out _ _ _) Try.underlying41 rfl (by kernel_rfl) _ rfl) rfl ?_
      rw [HR.out]
      exact ⟨0, by simp [first_], rfl, by omega, only_fill ((((((Only.refl none_ w).alloc _).alloc _).trans O1.out).alloc _).trans O3.out) (.inr (by simp)) _ _ _⟩
    · have HR : Hid (flagR 0 (bs.drop k) = (0, bs.drop (k + 1), decide (b.toNat = 1))) := by rw [Hid, hdr]; simp [flagR, hb1]
      have hkk : k + 1 ≤ L := by omega
      clear h hLb hr1 hdr hb
      go_enter Try.func49, Try.ntmps49
      go_wp2_with (first
        | (go_at_call 77; refine (HRaw _ (H.out.only (((Only.refl none_ w).alloc _).alloc _) (fun _ _ h => h))).mono ?_; rintro e w1 ⟨A1, L1, c2, rfl, b1, o1⟩; have O1 := Lib.hid o1
           obtain ⟨A', c', he', _, _, _, hcs⟩ := b1
           injection he' with ha1 ha2 ha3
           subst ha1 ha2 ha3
           obtain ⟨bb, bo, rfl, hSb, hblt, hcc⟩ := hcs (by simp)
           have hcell : ∀ o, (w1.alloc o).cell? ⟨bb, bo, none⟩ = some (.int .u8 (b.toNat : Int)) := fun o => (World.cell?_alloc_lt w1 o ⟨bb, bo, none⟩ hblt).trans (by simpa [byt] using hcc 0 (by simp))
           have B4 := Lib.hid ((hB1.1.only o1 (fun h => h)).alloc (.cells #[.slice A L c, .int .i64 ((k : Int) + 1), .int .i64 0] 41))
           clear hcs hcc o1))
      have B6 := Lib.hid (Blk.new w1 41 #[.slice A L c, .int .i64 ((k : Int) + 1), .int .i64 0])
      have O2 := Lib.hid ((((((Only.refl none_ w).alloc _).alloc _).trans O1.out).alloc (.cells #[.slice A L c, .int .i64 ((k : Int) + 1), .int .i64 0] 41)))
      have hne : w.heap.size + 1 < w1.heap.size := by have := O1.out.size; simp at this; omega
      have hbn : bb ≠ w.heap.size + 1 := by have := hS bb hSb; omega
      have hc := hcell (.cells #[.slice A L c, .int .i64 ((k : Int) + 1), .int .i64 0] 41)
      clear hcell hB1 O1
      generalize w1.alloc (.cells #[.slice A L c, .int .i64 ((k : Int) + 1), .int .i64 0] 41) = W2 at *
      generalize w1.heap.size = g6 at *
      obtain ⟨f0, f1, f2, g0, g1, g2⟩ := cur_facts B4.out
      obtain ⟨d0, d1, d2, _, _, _⟩ := cur_facts B6.out
      go_region_held3 (fun w' => (w'.cell? ⟨g6, 0, none⟩ = some (.slice A L c) ∧ w'.cell? ⟨g6, 1, none⟩ = some (.int .i64 ((k : Int) + 1)) ∧ w'.cell? ⟨g6, 2, none⟩ = some (.int .i64 0)) ∧ w'.cell? ⟨bb, bo, none⟩ = some (.int .u8 (b.toNat : Int)))
        (first | exact ⟨⟨d0, d1, d2⟩, hc⟩ | exact ⟨far_fill B6.out (Nat.ne_of_lt hne) _ _ _, far_cell hc hbn _ _ _⟩)
        (first | fail)
      all_goals
        go_wp2
        refine bodyPost_ret (results_cell_tmp rfl _ _ (w.heap.size + 1) 41 _ _ rfl (Blk.drew (blk_fill B4.out _ _ _)) Try.underlying41 rfl (by kernel_rfl) _ rfl) rfl ?_
        rw [HR.out]
        refine ⟨1, ?_, rfl, hkk, (only_fill O2.out (.inr (by omega)) _ _ _).drew⟩
        show Ending.returned (.tuple #[.agg #[.slice A L c, .int .i64 ((k : Int) + 1), .int .i64 0], .bool ((b.toNat : Int) == 1)]) = .returned (.tuple #[.agg #[.slice A L c, .int .i64 ((k + 1 : Nat) : Int), .int .i64 0], .bool (decide (b.toNat = 1))])
        rw [show ((b.toNat : Int) == 1) = decide (b.toNat = 1) from by rw [Bool.eq_iff_iff]; simp only [beq_iff_eq, decide_eq_true_eq]; omega]
        rfl
end Go.Proofs.Ytdjondjlengapaa
