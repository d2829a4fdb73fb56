/- What the document's own calls Done and Text give. No statement of the seat is proved here. -/
import Derived.Test.YtdjondjlengapaaRefU
namespace Go.Proofs.Ytdjondjlengapaa
open Go.RowKit
set_option linter.all false
set_option maxRecDepth 100000
attribute [local go_sem ↓] Go.wp_at_zero Go.wp_at_succ

set_option maxHeartbeats 800000 in
theorem ref_done (A : Option Addr) (L c : Nat) (bs : List UInt8) (k : Nat) (err : Int) (w : World) (hLb : L = bs.length) (hk : k ≤ L) (hL : L ≤ 100000) :
    Calls Try.prog 42 #[.agg #[.slice A L c, .int .i64 (k : Int), .int .i64 err]] w fun E w' =>
      E = .returned (.agg #[.slice A L c, .int .i64 (k : Int), .int .i64 (doneCode err (bs.drop k))]) ∧ Only none_ w w' := by
  have hB1 := blk_two w 41 #[.slice A L c, .int .i64 (k : Int), .int .i64 err] #[.slice none 0 0, .int .i64 0, .int .i64 0]
  by_cases h : k < L
  · have HR : Hid (doneCode err (bs.drop k) = first_ err 4) := by rw [Hid, doneCode, if_pos (by simp; omega)]
    clear hLb
    go_enter Try.func42, Try.ntmps42
    go_wp2_with (first
      | (go_at_call 68; refine (ref_fail _ _ _ _ _ _ _).mono ?_; rintro e w1 ⟨rfl, o1⟩; have O1 := Lib.hid o1
         have B4 := Lib.hid (hB1.1.only o1 (fun h => h))
         obtain ⟨f0, f1, f2, g0, g1, g2⟩ := cur_facts B4.out
         clear o1))
    refine bodyPost_ret (results_cell_row rfl _ _ (w.heap.size + 1) 41 _ (0, 0) _ rfl (blk_fill B4.out _ _ _) Try.underlying41 rfl (by kernel_rfl)) rfl ?_
    rw [HR.out]
    exact ⟨rfl, only_fill ((((Only.refl none_ w).alloc _).alloc _).trans O1.out) (.inr (by simp)) _ _ _⟩
  · have HR : Hid (doneCode err (bs.drop k) = err) := by rw [Hid, doneCode, if_neg (by simp; omega)]
    clear hLb
    go_enter Try.func42, Try.ntmps42
    go_wp2
    refine bodyPost_ret (results_cell_row rfl _ _ (w.heap.size + 1) 41 _ (0, 0) _ rfl (blk_two _ _ _ _).1 Try.underlying41 rfl (by kernel_rfl)) rfl ?_
    rw [HR.out]
    exact ⟨rfl, ((Only.refl none_ w).alloc _).alloc _⟩

set_option maxHeartbeats 1600000 in
theorem ref_text (A : Option Addr) (L c : Nat) (bs : List UInt8) (k : Nat) (err most : Int) (S : Nat → Prop) (w : World) (h : Byt w S (.slice A L c) bs) (hS : ∀ b, S b → b < w.heap.size) (hk : k ≤ L) (hL : L ≤ 100000) :
    Calls Try.prog 48 #[.agg #[.slice A L c, .int .i64 (k : Int), .int .i64 err], .int .i64 most] w fun E w' =>
      ∃ d : Nat, E = .returned (.tuple #[.agg #[.slice A L c, .int .i64 ((k + d : Nat) : Int), .int .i64 (textR err (bs.drop k) most).1], .string ⟨(textR err (bs.drop k) most).2.2.toArray⟩]) ∧
        (textR err (bs.drop k) most).2.1 = bs.drop (k + d) ∧ k + d ≤ L ∧ Only none_ w w' := by
  have hLb : L = bs.length := by obtain ⟨_, _, he, _⟩ := h; injection he
  have H := Lib.hid h
  have hB1 := blk_two w 41 #[.slice A L c, .int .i64 (k : Int), .int .i64 err] #[.slice none 0 0, .int .i64 0, .int .i64 0]
  have HRaw := fun w' hw' => ref_raw A L c bs k err 1 S w' hw' hk hL (by omega)
  by_cases hstop : err ≠ 0 ∨ bs.length ≤ k
  · have hr1 : rawR err (bs.drop k) 1 = (takeCode err (bs.drop k) 1, bs.drop k, []) := by
      have h3 : ¬ (err = 0 ∧ 1 ≤ (bs.drop k).length) := by
        rintro ⟨h4, h5⟩
        rcases hstop with h6 | h6
        · exact h6 h4
        · simp at h5; omega
      simp only [rawR, show ¬ ((1 : Int) < 0) from by omega, if_false, show (1 : Int).toNat = 1 from rfl, h3]
    have hne : (takeCode err (bs.drop k) 1 != 0) = true := by
      rw [bne_iff_ne]
      unfold takeCode
      split
      · exact first_ne _ _ (by decide)
      · rcases hstop with h6 | h6
        · exact h6
        · rename_i h7; exact absurd (by simp; omega) h7
    have HR : Hid (textR err (bs.drop k) most = (takeCode err (bs.drop k) 1, bs.drop k, [])) := by
      unfold Hid
      cases hr : bs.drop k with
      | nil => simp [textR, takeCode]
      | cons b r =>
        have : err ≠ 0 := by
          rcases hstop with h6 | h6
          · exact h6
          · have := List.drop_eq_nil_iff.2 h6; rw [this] at hr; cases hr
        simp [textR, this, takeCode]
    simp only [hr1, List.length_nil, Nat.add_zero] at HRaw
    obtain ⟨c1, hc1⟩ : ∃ c1, c1 = takeCode err (bs.drop k) 1 := ⟨_, rfl⟩
    rw [← hc1] at HRaw hne HR
    clear h hLb hstop hr1 hc1
    go_enter Try.func48, Try.ntmps48
    go_wp2_with (first
      | (go_at_call 77; refine (HRaw _ (H.out.only (((Only.refl none_ w).alloc _).alloc _) (fun _ _ h => h))).mono ?_; rintro e w1 ⟨A1, L1, c2, rfl, b1, o1⟩; have O1 := Lib.hid o1
         have B4 := Lib.hid ((hB1.1.only o1 (fun h => h)).alloc (.cells #[.slice A L c, .int .i64 (k : Int), .int .i64 c1] 41))
         obtain ⟨f0, f1, f2, g0, g1, g2⟩ := cur_facts B4.out
         clear b1 o1))
    refine bodyPost_ret (results_cell_tmp rfl _ _ (w.heap.size + 1) 41 _ _ rfl (blk_fill B4.out _ _ _) Try.underlying41 rfl (by kernel_rfl) _ rfl) rfl ?_
    rw [HR.out]
    exact ⟨0, rfl, rfl, by omega, only_fill (((((Only.refl none_ w).alloc _).alloc _).trans O1.out).alloc _) (.inr (by simp)) _ _ _⟩
  · obtain ⟨rfl, hkl⟩ : err = 0 ∧ k < bs.length := ⟨Classical.byContradiction fun h => hstop (.inl h), by have : ¬ bs.length ≤ k := fun h => hstop (.inr h); omega⟩
    clear hstop
    obtain ⟨b, hb⟩ : ∃ b, b = bs[k] := ⟨_, rfl⟩
    have hdr : bs.drop k = b :: bs.drop (k + 1) := by rw [hb, List.drop_eq_getElem_cons hkl]
    have hr1 : rawR 0 (bs.drop k) 1 = (0, bs.drop (k + 1), [b]) := by
      rw [hdr]
      simp [rawR]
    have hb8 := b.toNat_lt
    simp only [hr1, List.length_cons, List.length_nil, Nat.zero_add] at HRaw
    by_cases hb1 : most < (b.toNat : Int)
    · have HR : Hid (textR 0 (bs.drop k) most = (4, bs.drop k, [])) := by rw [Hid, hdr]; simp [textR, hb1]
      have hkk : k + 0 ≤ L := by omega
      clear h hLb hr1 hdr hb
      go_enter Try.func48, Try.ntmps48
      go_wp2_with (first
        | (go_at_call 77; refine (HRaw _ (H.out.only (((Only.refl none_ w).alloc _).alloc _) (fun _ _ h => h))).mono ?_; rintro e w1 ⟨A1, L1, c2, rfl, b1, o1⟩; have O1 := Lib.hid o1
           obtain ⟨A', c', he', _, _, _, hcs⟩ := b1
           injection he' with ha1 ha2 ha3
           subst ha1 ha2 ha3
           obtain ⟨bb, bo, rfl, _, hblt, hcc⟩ := hcs (by simp)
           have hcell : ∀ o, (w1.alloc o).cell? ⟨bb, bo, none⟩ = some (.int .u8 (b.toNat : Int)) := fun o => (World.cell?_alloc_lt w1 o ⟨bb, bo, none⟩ hblt).trans (by simpa [byt] using hcc 0 (by simp))
           have B4 := Lib.hid ((hB1.1.only o1 (fun h => h)).alloc (.cells #[.slice A L c, .int .i64 ((k : Int) + 1), .int .i64 0] 41))
           have B1 := (hB1.2.only o1 (fun h => h)).alloc (.cells #[.slice A L c, .int .i64 ((k : Int) + 1), .int .i64 0] 41)
           obtain ⟨d0, d1, d2, _, _, _⟩ := cur_facts B1
           clear hcs hcc o1 B1)
        | (go_at_call 68; refine (ref_fail _ _ _ _ _ _ _).mono ?_; rintro e w3 ⟨rfl, o3⟩; have O3 := Lib.hid o3
           have B5 := Lib.hid (B4.out.only o3 (fun h => h))
           obtain ⟨f0, f1, f2, g0, g1, g2⟩ := cur_facts B5.out
           clear o3))
      refine bodyPost_ret (results_cell_tmp rfl _ _ (w.heap.size + 1) 41 _ _ rfl (blk_fill B5.out _ _ _) Try.underlying41 rfl (by kernel_rfl) _ rfl) rfl ?_
      rw [HR.out]
      exact ⟨0, by simp [first_], rfl, by omega, only_fill ((((((Only.refl none_ w).alloc _).alloc _).trans O1.out).alloc _).trans O3.out) (.inr (by simp)) _ _ _⟩
    · have HT2 := fun w' hw' => ref_raw A L c bs (k + 1) 0 (b.toNat : Int) S w' hw' (by omega) hL (by omega)
      have hkk : k + 1 ≤ L := by omega
      by_cases hlen : (bs.drop (k + 1)).length < b.toNat
      · have HR : Hid (textR 0 (bs.drop k) most = (6, bs.drop k, [])) := by rw [Hid, hdr]; simp only [textR, ne_eq, not_true_eq_false, if_false, if_neg hb1, if_pos hlen]
        have hr2 : rawR 0 (bs.drop (k + 1)) (b.toNat : Int) = (6, bs.drop (k + 1), []) := by
          have h2 : ¬ ((b.toNat : Int) < 0) := by omega
          have h3 : ¬ ((0 : Int) = 0 ∧ (b.toNat : Int).toNat ≤ (bs.drop (k + 1)).length) := fun h => by have := h.2; omega
          unfold rawR
          rw [if_neg h2, if_neg h3]
          simp only [Int.toNat_natCast, takeCode, if_pos hlen, first_, if_true]
        simp only [hr2, List.length_nil, Nat.add_zero] at HT2
        have e1 : ((k + 1 : Nat) : Int) = (k : Int) + 1 := by omega
        rw [e1] at HT2
        clear h hLb hr1 hdr hb hlen hr2 e1
        go_enter Try.func48, Try.ntmps48
        go_wp2_with (first
          | (go_at_call 77; refine (HRaw _ (H.out.only (((Only.refl none_ w).alloc _).alloc _) (fun _ _ h => h))).mono ?_; rintro e w1 ⟨A1, L1, c2, rfl, b1, o1⟩; have O1 := Lib.hid o1
             obtain ⟨A', c', he', _, _, _, hcs⟩ := b1
             injection he' with ha1 ha2 ha3
             subst ha1 ha2 ha3
             obtain ⟨bb, bo, rfl, hSb, hblt, hcc⟩ := hcs (by simp)
             have hcell : ∀ o, (w1.alloc o).cell? ⟨bb, bo, none⟩ = some (.int .u8 (b.toNat : Int)) := fun o => (World.cell?_alloc_lt w1 o ⟨bb, bo, none⟩ hblt).trans (by simpa [byt] using hcc 0 (by simp))
             have B4 := Lib.hid ((hB1.1.only o1 (fun h => h)).alloc (.cells #[.slice A L c, .int .i64 ((k : Int) + 1), .int .i64 0] 41))
             have B2 := Lib.hid ((hB1.2.only o1 (fun h => h)).alloc (.cells #[.slice A L c, .int .i64 ((k : Int) + 1), .int .i64 0] 41))
             clear hcs hcc o1))
        have B6 := Lib.hid (Blk.new w1 41 #[.slice A L c, .int .i64 ((k : Int) + 1), .int .i64 0])
        have O2 := Lib.hid ((((((Only.refl none_ w).alloc _).alloc _).trans O1.out).alloc (.cells #[.slice A L c, .int .i64 ((k : Int) + 1), .int .i64 0] 41)))
        have hne : w.heap.size + 1 < w1.heap.size := by have := O1.out.size; simp at this; omega
        have hbl : bb < w.heap.size := hS bb hSb
        have hc := hcell (.cells #[.slice A L c, .int .i64 ((k : Int) + 1), .int .i64 0] 41)
        have hbW : bb < (w1.alloc (.cells #[.slice A L c, .int .i64 ((k : Int) + 1), .int .i64 0] 41)).heap.size := by simp; omega
        clear hcell hB1 O1
        generalize w1.alloc (.cells #[.slice A L c, .int .i64 ((k : Int) + 1), .int .i64 0] 41) = W2 at *
        generalize w1.heap.size = g6 at *
        have hwr : IntKind.i64.wrap (b.toNat : Int) = (b.toNat : Int) := IntWalk.i64_in _ (by omega)
        have SE : ∀ w', Only none_ W2 w' → (w'.cell? ⟨g6, 0, none⟩ = some (.slice A L c) ∧ w'.cell? ⟨g6, 1, none⟩ = some (.int .i64 ((k : Int) + 1)) ∧ w'.cell? ⟨g6, 2, none⟩ = some (.int .i64 0)) ∧ w'.cell? ⟨bb, bo, none⟩ = some (.int .u8 (b.toNat : Int)) := fun w' o => by
          obtain ⟨e0, e1, e2, _⟩ := cur_facts (B6.out.only o (fun h => h))
          exact ⟨⟨e0, e1, e2⟩, (o.cell hbW (fun h => h)).trans hc⟩
        have HSE := Lib.hid SE
        clear SE hc
        go_region_held3 (fun w' => (w'.cell? ⟨g6, 0, none⟩ = some (.slice A L c) ∧ w'.cell? ⟨g6, 1, none⟩ = some (.int .i64 ((k : Int) + 1)) ∧ w'.cell? ⟨g6, 2, none⟩ = some (.int .i64 0)) ∧ w'.cell? ⟨bb, bo, none⟩ = some (.int .u8 (b.toNat : Int)))
          (first | exact HSE.out _ ((Only.refl none_ W2).drew) | exact HSE.out _ (((Only.refl none_ W2).alloc _).drew) | exact HSE.out _ o5.out | exact HSE.out _ (o5.out.alloc _) | exact HSE.out _ (only_fill o5.out (.inr (Nat.le_refl _)) _ _ _))
          (first | (go_at_call 77; refine (HT2 _ (H.out.only (O2.out.trans (by first | exact (Only.refl none_ W2).drew | exact ((Only.refl none_ W2).alloc _).drew)) (fun _ _ h => h))).mono ?_; rintro e w5 ⟨A5, L5, c5, rfl, b5, o5'⟩
                    have o5 : Hid (Only none_ W2 w5) := (by first | exact ((Only.refl none_ W2).drew).trans o5' | exact ((Only.refl none_ W2).alloc _).drew.trans o5')
                    have B5 := Lib.hid b5
                    first
                      | (have K8 : Hid (Blk w5 W2.heap.size 41 #[.slice none 0 0, .int .i64 0, .int .i64 0]) := (show Blk (W2.alloc (.cells #[.slice none 0 0, .int .i64 0, .int .i64 0] 41)).drew W2.heap.size 41 _ from Blk.new W2 _ _).only o5' (fun h => h)
                         obtain ⟨z0, z1, z2, y0, y1, y2⟩ := cur_facts K8.out)
                      | skip
                    clear b5 o5'))
        · have E8 := Lib.hid (Blk.new w5 41 #[.slice A L c, .int .i64 ((k : Int) + 1), .int .i64 6])
          have O8 := Lib.hid (o5.out.alloc (.cells #[.slice A L c, .int .i64 ((k : Int) + 1), .int .i64 6] 41))
          have T8 := Lib.hid (B5.out.alloc (.cells #[.slice A L c, .int .i64 ((k : Int) + 1), .int .i64 6] 41))
          have hg8 : W2.heap.size ≤ w5.heap.size := o5.out.size
          generalize w5.alloc (.cells #[.slice A L c, .int .i64 ((k : Int) + 1), .int .i64 6] 41) = W8 at *
          generalize w5.heap.size = g8 at *
          clear o5 B5
          obtain ⟨x0, x1, x2, _, _, _⟩ := cur_facts E8.out
          obtain ⟨d0, d1, d2, _, _, _⟩ := cur_facts (B2.out.only O8.out (fun h => h))
          go_wp2_with (first
            | (go_at_call 68; refine (ref_fail _ _ _ _ _ _ _).mono ?_; rintro e w9 ⟨rfl, o9⟩; have O9 := Lib.hid (O8.out.trans o9)
               obtain ⟨f0, f1, f2, g0, g1, g2⟩ := cur_facts (B4.out.only O9.out (fun h => h))
               clear o9))
          refine bodyPost_ret (results_cell_tmp rfl _ _ (w.heap.size + 1) 41 _ _ rfl (blk_fill (B4.out.only O9.out (fun h => h)) _ _ _) Try.underlying41 rfl (by kernel_rfl) _ rfl) rfl ?_
          rw [HR.out]
          exact ⟨0, by simp [first_], rfl, by omega, only_fill (O2.out.trans O9.out) (.inr (by simp)) _ _ _⟩
        · have E8 := Lib.hid (blk_fill K8.out (.slice A L c) (.int .i64 ((k : Int) + 1)) (.int .i64 6))
          have O8 := Lib.hid (only_fill o5.out (.inr (Nat.le_refl W2.heap.size)) (.slice A L c) (.int .i64 ((k : Int) + 1)) (.int .i64 6))
          have T8 := Lib.hid (B5.out.only (only_fill (Only.refl (one W2.heap.size) w5) (.inl (show one W2.heap.size W2.heap.size from rfl)) (.slice A L c) (.int .i64 ((k : Int) + 1)) (.int .i64 6)) (fun b hb h => by have := hS b hb; have := O2.out.size; simp only [one] at h; omega))
          have hg8 : W2.heap.size ≤ W2.heap.size := Nat.le_refl _
          clear K8 z0 z1 z2 y0 y1 y2 o5 B5
          generalize ((w5.setCell ⟨W2.heap.size, 0, none⟩ (.slice A L c)).setCell ⟨W2.heap.size, 1, none⟩ (.int .i64 ((k : Int) + 1))).setCell ⟨W2.heap.size, 2, none⟩ (.int .i64 6) = W8 at *
          obtain ⟨g8, hg⟩ : ∃ g8, g8 = W2.heap.size := ⟨_, rfl⟩
          rw [← hg] at E8 ⊢
          have HG := Lib.hid hg
          clear hg
          obtain ⟨x0, x1, x2, _, _, _⟩ := cur_facts E8.out
          obtain ⟨d0, d1, d2, _, _, _⟩ := cur_facts (B2.out.only O8.out (fun h => h))
          go_wp2_with (first
            | (go_at_call 68; refine (ref_fail _ _ _ _ _ _ _).mono ?_; rintro e w9 ⟨rfl, o9⟩; have O9 := Lib.hid (O8.out.trans o9)
               obtain ⟨f0, f1, f2, g0, g1, g2⟩ := cur_facts (B4.out.only O9.out (fun h => h))
               clear o9))
          refine bodyPost_ret (results_cell_tmp rfl _ _ (w.heap.size + 1) 41 _ _ rfl (blk_fill (B4.out.only O9.out (fun h => h)) _ _ _) Try.underlying41 rfl (by kernel_rfl) _ rfl) rfl ?_
          rw [HR.out]
          exact ⟨0, by simp [first_], rfl, by omega, only_fill (O2.out.trans O9.out) (.inr (by simp)) _ _ _⟩
      · have HR : Hid (textR 0 (bs.drop k) most = (0, (bs.drop (k + 1)).drop b.toNat, (bs.drop (k + 1)).take b.toNat)) := by rw [Hid, hdr]; simp only [textR, ne_eq, not_true_eq_false, if_false, if_neg hb1, if_neg hlen]
        have hr2 : rawR 0 (bs.drop (k + 1)) (b.toNat : Int) = (0, (bs.drop (k + 1)).drop b.toNat, (bs.drop (k + 1)).take b.toNat) := by
          have h2 : ¬ ((b.toNat : Int) < 0) := by omega
          have h3 : ((0 : Int) = 0 ∧ (b.toNat : Int).toNat ≤ (bs.drop (k + 1)).length) := ⟨rfl, by simp only [Int.toNat_natCast]; omega⟩
          unfold rawR
          rw [if_neg h2, if_pos h3]
          simp only [Int.toNat_natCast]
        have htl : ((bs.drop (k + 1)).take b.toNat).length = b.toNat := by simp only [List.length_take]; omega
        have hkn : k + 1 + b.toNat ≤ L := by simp only [List.length_drop] at hlen; omega
        simp only [hr2, htl] at HT2
        have e1 : ((k + 1 : Nat) : Int) = (k : Int) + 1 := by omega
        have e2 : ((k + 1 + b.toNat : Nat) : Int) = (k : Int) + 1 + (b.toNat : Int) := by omega
        rw [e2, e1] at HT2
        obtain ⟨told, htd⟩ : ∃ told, told = (bs.drop (k + 1)).take b.toNat := ⟨_, rfl⟩
        rw [← htd] at HT2 HR
        clear h hLb hr1 hdr hb hlen hr2 e1 e2 htl htd
        go_enter Try.func48, Try.ntmps48
        go_wp2_with (first
          | (go_at_call 77; refine (HRaw _ (H.out.only (((Only.refl none_ w).alloc _).alloc _) (fun _ _ h => h))).mono ?_; rintro e w1 ⟨A1, L1, c2, rfl, b1, o1⟩; have O1 := Lib.hid o1
             obtain ⟨A', c', he', _, _, _, hcs⟩ := b1
             injection he' with ha1 ha2 ha3
             subst ha1 ha2 ha3
             obtain ⟨bb, bo, rfl, hSb, hblt, hcc⟩ := hcs (by simp)
             have hcell : ∀ o, (w1.alloc o).cell? ⟨bb, bo, none⟩ = some (.int .u8 (b.toNat : Int)) := fun o => (World.cell?_alloc_lt w1 o ⟨bb, bo, none⟩ hblt).trans (by simpa [byt] using hcc 0 (by simp))
             have B4 := Lib.hid ((hB1.1.only o1 (fun h => h)).alloc (.cells #[.slice A L c, .int .i64 ((k : Int) + 1), .int .i64 0] 41))
             have B2 := Lib.hid ((hB1.2.only o1 (fun h => h)).alloc (.cells #[.slice A L c, .int .i64 ((k : Int) + 1), .int .i64 0] 41))
             clear hcs hcc o1))
        have B6 := Lib.hid (Blk.new w1 41 #[.slice A L c, .int .i64 ((k : Int) + 1), .int .i64 0])
        have O2 := Lib.hid ((((((Only.refl none_ w).alloc _).alloc _).trans O1.out).alloc (.cells #[.slice A L c, .int .i64 ((k : Int) + 1), .int .i64 0] 41)))
        have hne : w.heap.size + 1 < w1.heap.size := by have := O1.out.size; simp at this; omega
        have hbl : bb < w.heap.size := hS bb hSb
        have hc := hcell (.cells #[.slice A L c, .int .i64 ((k : Int) + 1), .int .i64 0] 41)
        have hbW : bb < (w1.alloc (.cells #[.slice A L c, .int .i64 ((k : Int) + 1), .int .i64 0] 41)).heap.size := by simp; omega
        clear hcell hB1 O1
        generalize w1.alloc (.cells #[.slice A L c, .int .i64 ((k : Int) + 1), .int .i64 0] 41) = W2 at *
        generalize w1.heap.size = g6 at *
        have hwr : IntKind.i64.wrap (b.toNat : Int) = (b.toNat : Int) := IntWalk.i64_in _ (by omega)
        have SE : ∀ w', Only none_ W2 w' → (w'.cell? ⟨g6, 0, none⟩ = some (.slice A L c) ∧ w'.cell? ⟨g6, 1, none⟩ = some (.int .i64 ((k : Int) + 1)) ∧ w'.cell? ⟨g6, 2, none⟩ = some (.int .i64 0)) ∧ w'.cell? ⟨bb, bo, none⟩ = some (.int .u8 (b.toNat : Int)) := fun w' o => by
          obtain ⟨e0, e1, e2, _⟩ := cur_facts (B6.out.only o (fun h => h))
          exact ⟨⟨e0, e1, e2⟩, (o.cell hbW (fun h => h)).trans hc⟩
        have HSE := Lib.hid SE
        clear SE hc
        go_region_held3 (fun w' => (w'.cell? ⟨g6, 0, none⟩ = some (.slice A L c) ∧ w'.cell? ⟨g6, 1, none⟩ = some (.int .i64 ((k : Int) + 1)) ∧ w'.cell? ⟨g6, 2, none⟩ = some (.int .i64 0)) ∧ w'.cell? ⟨bb, bo, none⟩ = some (.int .u8 (b.toNat : Int)))
          (first | exact HSE.out _ ((Only.refl none_ W2).drew) | exact HSE.out _ (((Only.refl none_ W2).alloc _).drew) | exact HSE.out _ o5.out | exact HSE.out _ (o5.out.alloc _) | exact HSE.out _ (only_fill o5.out (.inr (Nat.le_refl _)) _ _ _))
          (first | (go_at_call 77; refine (HT2 _ (H.out.only (O2.out.trans (by first | exact (Only.refl none_ W2).drew | exact ((Only.refl none_ W2).alloc _).drew)) (fun _ _ h => h))).mono ?_; rintro e w5 ⟨A5, L5, c5, rfl, b5, o5'⟩
                    have o5 : Hid (Only none_ W2 w5) := (by first | exact ((Only.refl none_ W2).drew).trans o5' | exact ((Only.refl none_ W2).alloc _).drew.trans o5')
                    have B5 := Lib.hid b5
                    first
                      | (have K8 : Hid (Blk w5 W2.heap.size 41 #[.slice none 0 0, .int .i64 0, .int .i64 0]) := (show Blk (W2.alloc (.cells #[.slice none 0 0, .int .i64 0, .int .i64 0] 41)).drew W2.heap.size 41 _ from Blk.new W2 _ _).only o5' (fun h => h)
                         obtain ⟨z0, z1, z2, y0, y1, y2⟩ := cur_facts K8.out)
                      | skip
                    clear b5 o5'))
        · have E8 := Lib.hid (Blk.new w5 41 #[.slice A L c, .int .i64 ((k : Int) + 1 + (b.toNat : Int)), .int .i64 0])
          have O8 := Lib.hid (o5.out.alloc (.cells #[.slice A L c, .int .i64 ((k : Int) + 1 + (b.toNat : Int)), .int .i64 0] 41))
          have T8 := Lib.hid (B5.out.alloc (.cells #[.slice A L c, .int .i64 ((k : Int) + 1 + (b.toNat : Int)), .int .i64 0] 41))
          have hg8 : W2.heap.size ≤ w5.heap.size := o5.out.size
          generalize w5.alloc (.cells #[.slice A L c, .int .i64 ((k : Int) + 1 + (b.toNat : Int)), .int .i64 0] 41) = W8 at *
          generalize w5.heap.size = g8 at *
          clear o5 B5
          obtain ⟨x0, x1, x2, _, _, _⟩ := cur_facts E8.out
          obtain ⟨f0, f1, f2, g0, g1, g2⟩ := cur_facts (B4.out.only O8.out (fun h => h))
          have h48 : w.heap.size + 1 ≠ g8 := by have h7 := B6.out.lt; omega
          have TF : Hid (∀ a b c, Byt ((((W8.setCell ⟨w.heap.size + 1, 0, none⟩ a).setCell ⟨w.heap.size + 1, 1, none⟩ b).setCell ⟨w.heap.size + 1, 2, none⟩ c).drew) S (.slice A5 L5 c5) told) := fun a b c =>
            T8.out.only ((only_fill (Only.refl (one (w.heap.size + 1)) W8) (.inl (show one (w.heap.size + 1) (w.heap.size + 1) from rfl)) a b c).drew) (fun b hb h => by have := hS b hb; simp only [one] at h; omega)
          go_wp2_with fail
          go_region_held3 (fun w' => (w'.cell? ⟨g8, 0, none⟩ = some (.slice A L c) ∧ w'.cell? ⟨g8, 1, none⟩ = some (.int .i64 ((k : Int) + 1 + (b.toNat : Int))) ∧ w'.cell? ⟨g8, 2, none⟩ = some (.int .i64 0)) ∧ (convert 22 9 (.slice A5 L5 c5)).run Try.prog w' = .ok (.string ⟨told.toArray⟩) w')
            (first | exact ⟨⟨x0, x1, x2⟩, run_bytes_string _ S _ _ T8.out.drew⟩ | exact ⟨far_fill E8.out h48 _ _ _, run_bytes_string _ S _ _ (TF.out _ _ _)⟩)
            (first | fail)
          all_goals
            go_wp2
            refine bodyPost_ret (results_cell_tmp rfl _ _ (w.heap.size + 1) 41 _ _ rfl (Blk.drew (blk_fill (B4.out.only O8.out (fun h => h)) _ _ _)) Try.underlying41 rfl (by kernel_rfl) _ rfl) rfl ?_
            rw [HR.out]
            refine ⟨1 + b.toNat, ?_, by rw [drop_more, Nat.add_assoc], by omega, (only_fill (O2.out.trans O8.out) (.inr (by simp)) _ _ _).drew⟩
            rw [show ((k + (1 + b.toNat) : Nat) : Int) = (k : Int) + 1 + (b.toNat : Int) from by omega]
            rfl
        · have E8 := Lib.hid (blk_fill K8.out (.slice A L c) (.int .i64 ((k : Int) + 1 + (b.toNat : Int))) (.int .i64 0))
          have O8 := Lib.hid (only_fill o5.out (.inr (Nat.le_refl W2.heap.size)) (.slice A L c) (.int .i64 ((k : Int) + 1 + (b.toNat : Int))) (.int .i64 0))
          have T8 := Lib.hid (B5.out.only (only_fill (Only.refl (one W2.heap.size) w5) (.inl (show one W2.heap.size W2.heap.size from rfl)) (.slice A L c) (.int .i64 ((k : Int) + 1 + (b.toNat : Int))) (.int .i64 0)) (fun b hb h => by have := hS b hb; have := O2.out.size; simp only [one] at h; omega))
          have hg8 : W2.heap.size ≤ W2.heap.size := Nat.le_refl _
          clear K8 z0 z1 z2 y0 y1 y2 o5 B5
          generalize ((w5.setCell ⟨W2.heap.size, 0, none⟩ (.slice A L c)).setCell ⟨W2.heap.size, 1, none⟩ (.int .i64 ((k : Int) + 1 + (b.toNat : Int)))).setCell ⟨W2.heap.size, 2, none⟩ (.int .i64 0) = W8 at *
          obtain ⟨g8, hg⟩ : ∃ g8, g8 = W2.heap.size := ⟨_, rfl⟩
          rw [← hg] at E8 ⊢
          have HG := Lib.hid hg
          clear hg
          obtain ⟨x0, x1, x2, _, _, _⟩ := cur_facts E8.out
          obtain ⟨f0, f1, f2, g0, g1, g2⟩ := cur_facts (B4.out.only O8.out (fun h => h))
          have h48 : w.heap.size + 1 ≠ g8 := by have h7 := B6.out.lt; have h8 := HG.out; omega
          have TF : Hid (∀ a b c, Byt ((((W8.setCell ⟨w.heap.size + 1, 0, none⟩ a).setCell ⟨w.heap.size + 1, 1, none⟩ b).setCell ⟨w.heap.size + 1, 2, none⟩ c).drew) S (.slice A5 L5 c5) told) := fun a b c =>
            T8.out.only ((only_fill (Only.refl (one (w.heap.size + 1)) W8) (.inl (show one (w.heap.size + 1) (w.heap.size + 1) from rfl)) a b c).drew) (fun b hb h => by have := hS b hb; simp only [one] at h; omega)
          go_wp2_with fail
          go_region_held3 (fun w' => (w'.cell? ⟨g8, 0, none⟩ = some (.slice A L c) ∧ w'.cell? ⟨g8, 1, none⟩ = some (.int .i64 ((k : Int) + 1 + (b.toNat : Int))) ∧ w'.cell? ⟨g8, 2, none⟩ = some (.int .i64 0)) ∧ (convert 22 9 (.slice A5 L5 c5)).run Try.prog w' = .ok (.string ⟨told.toArray⟩) w')
            (first | exact ⟨⟨x0, x1, x2⟩, run_bytes_string _ S _ _ T8.out.drew⟩ | exact ⟨far_fill E8.out h48 _ _ _, run_bytes_string _ S _ _ (TF.out _ _ _)⟩)
            (first | fail)
          all_goals
            go_wp2
            refine bodyPost_ret (results_cell_tmp rfl _ _ (w.heap.size + 1) 41 _ _ rfl (Blk.drew (blk_fill (B4.out.only O8.out (fun h => h)) _ _ _)) Try.underlying41 rfl (by kernel_rfl) _ rfl) rfl ?_
            rw [HR.out]
            refine ⟨1 + b.toNat, ?_, by rw [drop_more, Nat.add_assoc], by omega, (only_fill (O2.out.trans O8.out) (.inr (by simp)) _ _ _).drew⟩
            rw [show ((k + (1 + b.toNat) : Nat) : Int) = (k : Int) + 1 + (b.toNat : Int) from by omega]
            rfl
end Go.Proofs.Ytdjondjlengapaa
