/- Texts of mine, one behind the other: OctX, RefT, RefU, RefV, EoH, EnD. No statement of the seat is proved here. -/
import Derived.Test.YtlieolehpmobfaaGreatDoorWr2
import Derived.Test.YtlieolehpmobfaaGreatDoorWr3
import Derived.Deep.RegionHeld3
import Derived.Deep.DrawnRows
import Derived.Test.YtlieolehpmobfaaGreatDoorWr8
section
namespace Go.Proofs.YtlieolehpmobfaaGreatDoor
open Go.RowKit
set_option linter.all false
set_option maxRecDepth 100000
theorem first_stop {c e : Int} (h : c ≠ 0) : first_ c e = c := by simp [first_, h]
theorem takeCode_stop {c : Int} (h : c ≠ 0) (bs : List UInt8) (n : Nat) : takeCode c bs n = c := by unfold takeCode; split <;> first | rfl | exact first_stop h
theorem rawR_stop {c : Int} (h : c ≠ 0) (bs : List UInt8) (n : Int) : rawR c bs n = (c, bs, []) := by
  unfold rawR
  rw [first_stop h, takeCode_stop h]
  split
  · rfl
  · rw [if_neg (fun h' => h h'.1)]
end Go.Proofs.YtlieolehpmobfaaGreatDoor
end
section
namespace Go.Proofs.YtlieolehpmobfaaGreatDoor
open Go.RowKit
set_option maxRecDepth 100000
attribute [local go_sem ↓] Go.wp_at_zero Go.wp_at_succ
set_option maxHeartbeats 400000 in
theorem ref_fail (A : Option Addr) (L c : Nat) (at_ err e : Int) (w : World) :
    Calls Tryz.prog 188 #[.agg #[.slice A L c, .int .i64 at_, .int .i64 err], .int .i64 e] w fun E w' =>
      E = .returned (.agg #[.slice A L c, .int .i64 at_, .int .i64 (first_ err e)]) ∧ Only none_ w w' := by
  by_cases h : err = 0
  · have hb : (err == 0) = true := by simp [h]
    have hf : Hid (first_ err e = e) := by simp [Hid, first_, h]
    clear h
    go_enter Tryz.func188, Tryz.ntmps188
    go_wp2
    rw [hf.out]
    exact bodyPost_ret (v := .agg #[.slice A L c, .int .i64 at_, .int .i64 e]) (by simp [results, Tryz.results188, go_sem]) rfl ⟨rfl, ((Only.refl none_ w).alloc _).alloc _⟩
  · have hb : (err == 0) = false := by simp [h]
    have hf : Hid (first_ err e = err) := by simp [Hid, first_, h]
    clear h
    go_enter Tryz.func188, Tryz.ntmps188
    go_wp2
    rw [hf.out]
    exact bodyPost_ret (v := .agg #[.slice A L c, .int .i64 at_, .int .i64 err]) (by simp [results, Tryz.results188, go_sem]) rfl ⟨rfl, ((Only.refl none_ w).alloc _).alloc _⟩
theorem cur_facts {w : World} {g : Nat} {t : TypeId} {x y z : Value} (h : Blk w g t #[x, y, z]) :
    w.cell? ⟨g, 0, none⟩ = some x ∧ w.cell? ⟨g, 1, none⟩ = some y ∧ w.cell? ⟨g, 2, none⟩ = some z ∧ w.frozen? ⟨g, 0, none⟩ = false ∧ w.frozen? ⟨g, 1, none⟩ = false ∧ w.frozen? ⟨g, 2, none⟩ = false :=
  ⟨h.cell_ (i := 0) rfl, h.cell_ (i := 1) rfl, h.cell_ (i := 2) rfl, h.frozen 0, h.frozen 1, h.frozen 2⟩
theorem blk_two (w : World) (t : TypeId) (x y : Array Value) : Blk ((w.alloc (.cells x t)).alloc (.cells y t)) (w.heap.size + 1) t y ∧ Blk ((w.alloc (.cells x t)).alloc (.cells y t)) w.heap.size t x :=
  ⟨by have := Blk.new (w.alloc (.cells x t)) t y; simpa using this, (Blk.new w t x).alloc _⟩
theorem blk_fill {w : World} {g : Nat} {t : TypeId} {x y z : Value} (h : Blk w g t #[x, y, z]) (a b c : Value) : Blk (((w.setCell ⟨g, 0, none⟩ a).setCell ⟨g, 1, none⟩ b).setCell ⟨g, 2, none⟩ c) g t #[a, b, c] := by
  have := ((h.set_ 0 a).set_ 1 b).set_ 2 c
  simpa using this
theorem far_fill {w : World} {g h : Nat} {t : TypeId} {x y z : Value} (hb : Blk w g t #[x, y, z]) (hn : h ≠ g) (a b c : Value) :
    (((w.setCell ⟨h, 0, none⟩ a).setCell ⟨h, 1, none⟩ b).setCell ⟨h, 2, none⟩ c).drew.cell? ⟨g, 0, none⟩ = some x ∧
    (((w.setCell ⟨h, 0, none⟩ a).setCell ⟨h, 1, none⟩ b).setCell ⟨h, 2, none⟩ c).drew.cell? ⟨g, 1, none⟩ = some y ∧
    (((w.setCell ⟨h, 0, none⟩ a).setCell ⟨h, 1, none⟩ b).setCell ⟨h, 2, none⟩ c).drew.cell? ⟨g, 2, none⟩ = some z := by
  have h3 := ((hb.far (p := ⟨h, 0, none⟩) (fun e => hn e.symm) a).far (p := ⟨h, 1, none⟩) (fun e => hn e.symm) b).far (p := ⟨h, 2, none⟩) (fun e => hn e.symm) c
  obtain ⟨h0, h1, h2, _⟩ := cur_facts h3
  exact ⟨h0, h1, h2⟩
theorem far_cell {w : World} {h : Nat} {p : Addr} {v : Value} (hc : w.cell? p = some v) (hn : p.block ≠ h) (a b c : Value) :
    (((w.setCell ⟨h, 0, none⟩ a).setCell ⟨h, 1, none⟩ b).setCell ⟨h, 2, none⟩ c).drew.cell? p = some v := by
  have hne : ∀ i, (⟨h, i, none⟩ : Addr) ≠ p := fun i e => hn (by rw [← e])
  rw [World.cell?_drew, World.cell?_setCell_other _ _ _ _ (hne 2), World.cell?_setCell_other _ _ _ _ (hne 1), World.cell?_setCell_other _ _ _ _ (hne 0)]
  exact hc
theorem only_fill {w : World} {g : Nat} {S : Nat → Prop} {a : World} (h : Only S a w) (hg : S g ∨ a.heap.size ≤ g) (x y z : Value) : Only S a (((w.setCell ⟨g, 0, none⟩ x).setCell ⟨g, 1, none⟩ y).setCell ⟨g, 2, none⟩ z) :=
  ((h.setCell (p := ⟨g, 0, none⟩) hg x).setCell (p := ⟨g, 1, none⟩) hg y).setCell (p := ⟨g, 2, none⟩) hg z
set_option maxHeartbeats 800000 in
theorem ref_raw (A : Option Addr) (L c : Nat) (bs : List UInt8) (k : Nat) (err n : Int) (S : Nat → Prop) (w : World) (h : Byt w S (.slice A L c) bs) (hk : k ≤ L) (hL : L ≤ 100000) (hn : n ≤ 9223372036854775807) :
    Calls Tryz.prog 241 #[.agg #[.slice A L c, .int .i64 (k : Int), .int .i64 err], .int .i64 n] w fun E w' =>
      ∃ A1 L1 c1, E = .returned (.tuple #[.agg #[.slice A L c, .int .i64 ((k + (rawR err (bs.drop k) n).2.2.length : Nat) : Int), .int .i64 (rawR err (bs.drop k) n).1], .slice A1 L1 c1]) ∧
        Byt w' S (.slice A1 L1 c1) (rawR err (bs.drop k) n).2.2 ∧ Only none_ w w' := by
  have hLb : L = bs.length := by obtain ⟨_, _, he, _⟩ := h; injection he
  have H := Lib.hid h
  by_cases h0 : n < 0
  · have HR : Hid (rawR err (bs.drop k) n = (first_ err 1, bs.drop k, [])) := by simp only [Hid, rawR, if_pos h0]
    have HB : ∀ w', Hid (Byt w' S (.slice none 0 0) []) := fun w' => Byt.nil w' S
    clear h hLb
    go_enter Tryz.func241, Tryz.ntmps241
    have hB1 := (blk_two w 169 #[.slice A L c, .int .i64 (k : Int), .int .i64 err] #[.slice none 0 0, .int .i64 0, .int .i64 0]).1
    go_wp2_with (go_at_call 188; refine (ref_fail _ _ _ _ _ _ _).mono ?_; rintro e w1 ⟨rfl, o1⟩; obtain ⟨f0, f1, f2, g0, g1, g2⟩ := cur_facts (hB1.only o1 (fun h => h)))
    refine bodyPost_ret (results_cell_tmp rfl _ _ (w.heap.size + 1) 169 _ _ rfl (blk_fill (hB1.only o1 (fun h => h)) _ _ _) Tryz.underlying169 rfl (by kernel_rfl) _ rfl) rfl ?_
    rw [HR.out]
    exact ⟨none, 0, 0, rfl, Byt.nil _ _, only_fill ((((Only.refl none_ w).alloc _).alloc _).trans o1) (.inr (by simp)) _ _ _⟩
  · obtain ⟨m, rfl⟩ : ∃ m : Nat, n = m := ⟨n.toNat, by omega⟩
    by_cases h1 : L - k < m
    · have hlen : (bs.drop k).length < m := by simp; omega
      have HR : Hid (rawR err (bs.drop k) (m : Int) = (first_ err 6, bs.drop k, [])) := by
        have h2 : ¬ ((m : Int) < 0) := by omega
        have h3 : ¬ (err = 0 ∧ m ≤ (bs.drop k).length) := fun h => by omega
        simp only [Hid, rawR, h2, if_false, Int.toNat_natCast, h3, takeCode, if_pos hlen]
      clear h hLb hlen
      have hB1 := (blk_two w 169 #[.slice A L c, .int .i64 (k : Int), .int .i64 err] #[.slice none 0 0, .int .i64 0, .int .i64 0]).1
      go_enter Tryz.func241, Tryz.ntmps241
      go_wp2_with (go_at_call 188; refine (ref_fail _ _ _ _ _ _ _).mono ?_; rintro e w1 ⟨rfl, o1⟩; obtain ⟨f0, f1, f2, g0, g1, g2⟩ := cur_facts (hB1.only o1 (fun h => h)))
      refine bodyPost_ret (results_cell_tmp rfl _ _ (w.heap.size + 1) 169 _ _ rfl (blk_fill (hB1.only o1 (fun h => h)) _ _ _) Tryz.underlying169 rfl (by kernel_rfl) _ rfl) rfl ?_
      rw [HR.out]
      exact ⟨none, 0, 0, rfl, Byt.nil _ _, only_fill ((((Only.refl none_ w).alloc _).alloc _).trans o1) (.inr (by simp)) _ _ _⟩
    · by_cases he : err = 0
      · have HR : Hid (rawR err (bs.drop k) (m : Int) = (0, (bs.drop k).drop m, (bs.drop k).take m)) := by
          have h2 : ¬ ((m : Int) < 0) := by omega
          have h3 : err = 0 ∧ m ≤ (bs.drop k).length := ⟨he, by simp; omega⟩
          simp only [Hid, rawR, h2, if_false, Int.toNat_natCast, h3, and_self, if_true]
        have hT : Hid (k + ((bs.drop k).take m).length = k + m) := by simp only [Hid, List.length_take, List.length_drop]; omega
        subst he
        obtain ⟨i0, hi0, _, hz1, _⟩ := info_parts u8_info
        obtain ⟨A1, L1, c1, r1, b1⟩ := byt_mid Tryz.underlying35 hi0 hz1 h k (k + m) (by omega) (by omega) (k : Int) ((k : Int) + (m : Int)) rfl (by omega)
        have B1 : Hid (Byt w S (.slice A1 L1 c1) ((bs.drop k).take m)) := by rw [show k + m - k = m from by omega] at b1; exact b1
        clear h hLb hi0 hz1 b1
        go_enter Tryz.func241, Tryz.ntmps241
        go_wp2
        refine bodyPost_ret (results_cell_tmp rfl _ _ (w.heap.size + 1) 169 _ _ rfl (blk_two _ _ _ _).1 Tryz.underlying169 rfl (by kernel_rfl) _ rfl) rfl ?_
        rw [HR.out]
        have hm' : (((bs.drop k).take m).length : Int) = m := by have := hT.out; omega
        exact ⟨A1, L1, c1, by simp only [hm']; rfl, B1.out.only (((Only.refl none_ w).alloc _).alloc _) (fun _ _ h => h), ((Only.refl none_ w).alloc _).alloc _⟩
      · have HR : Hid (rawR err (bs.drop k) (m : Int) = (err, bs.drop k, [])) := rawR_stop he _ _
        have hb : (err != 0) = true := by simp [he]
        clear h hLb he
        go_enter Tryz.func241, Tryz.ntmps241
        go_wp2
        refine bodyPost_ret (results_cell_tmp rfl _ _ (w.heap.size + 1) 169 _ _ rfl (blk_two _ _ _ _).1 Tryz.underlying169 rfl (by kernel_rfl) _ rfl) rfl ?_
        rw [HR.out]
        exact ⟨none, 0, 0, by simp, Byt.nil _ _, ((Only.refl none_ w).alloc _).alloc _⟩
end Go.Proofs.YtlieolehpmobfaaGreatDoor
end
section
namespace Go.Proofs.YtlieolehpmobfaaGreatDoor
open Go.RowKit
set_option linter.all false
set_option maxRecDepth 100000
attribute [local go_sem ↓] Go.wp_at_zero Go.wp_at_succ
theorem leVal_drop (xs : List UInt8) (j : Nat) (hj : j < xs.length) : leVal (xs.drop j) = xs[j].toNat + 256 * leVal (xs.drop (j + 1)) := by
  rw [List.drop_eq_getElem_cons hj]; rfl
theorem leVal_drop_lt (xs : List UInt8) (j : Nat) (h8 : xs.length ≤ 8) : leVal (xs.drop j) < 18446744073709551616 := by
  have h1 := leVal_lt (xs.drop j)
  have h2 : 256 ^ (xs.drop j).length ≤ 256 ^ 8 := Nat.pow_le_pow_right (by omega) (by simp; omega)
  omega
set_option maxHeartbeats 400000 in
theorem ref_value (A : Option Addr) (L c : Nat) (xs : List UInt8) (S : Nat → Prop) (w : World) (h : Byt w S (.slice A L c) xs) (h8 : xs.length ≤ 8) :
    Calls Tryz.prog 242 #[.slice A L c] w fun e w' => e = .returned (.int .u64 (leVal xs : Int)) ∧ w = w' := by
  obtain ⟨A', c', he, _, _, _, hc⟩ := h
  injection he with e1 e2 e3
  subst e1 e2 e3
  have HC := Lib.hid hc
  clear hc
  go_enter Tryz.func242, Tryz.ntmps242
  go_wp2
  go_loop [3, 4] (fun v i => ∃ j : Nat, j ≤ xs.length ∧ i = .int .i64 ((j : Int) - 1) ∧ v = .int .u64 (leVal (xs.drop j) : Int)) (fun _ i => (intOf i + 1).toNat)
  case atStart => exact ⟨xs.length, Nat.le_refl _, rfl, by simp [leVal]⟩
  case round =>
    obtain ⟨j, hj, rfl, rfl⟩ := hrel
    by_cases h0 : 0 < j
    · obtain ⟨b, off, rfl, _, _, hcell⟩ := HC.out (by omega)
      obtain ⟨k, rfl⟩ : ∃ k, j = k + 1 := ⟨j - 1, by omega⟩
      have hk := hcell k (by omega)
      have hstep := leVal_drop xs k (by omega)
      have hlt := leVal_drop_lt xs k h8
      obtain ⟨z, hz⟩ : ∃ z, z = xs[k]'(by omega) := ⟨_, rfl⟩
      simp only [byt, ← hz] at hk hstep
      have hz8 := z.toNat_lt
      obtain ⟨y, hy⟩ : ∃ y, y = leVal (xs.drop (k + 1)) := ⟨_, rfl⟩
      rw [← hy] at hstep ⊢
      rw [hstep] at hlt
      have HS := Lib.hid hstep
      have e1 : (((k + 1 : Nat) : Int) - 1) = (k : Int) := by omega
      rw [e1]
      clear hstep hz hcell hy e1
      go_wp2
      go_round
      case rel => exact ⟨k, by omega, rfl, by rw [HS.out]; go_num⟩
      case measure => simp [intOf]
    · obtain rfl : j = 0 := by omega
      go_wp2
      go_ret
      exact ⟨rfl, rfl⟩
theorem rawR_left (err : Int) (r : List UInt8) (n : Int) : (rawR err r n).2.1 = r.drop (rawR err r n).2.2.length := by
  unfold rawR
  split
  · rfl
  · split
    · rename_i h
      simp only [List.length_take]
      rw [Nat.min_eq_left h.2]
    · rfl
theorem rawR_len (err : Int) (r : List UInt8) (n : Int) : (rawR err r n).2.2.length ≤ r.length := by
  unfold rawR
  split
  · simp
  · split
    · simp only [List.length_take]; omega
    · simp
theorem rawR_told (err : Int) (r : List UInt8) (n : Int) (m : Nat) (h : n ≤ m) : (rawR err r n).2.2.length ≤ m := by
  unfold rawR
  split
  · simp
  · split
    · simp only [List.length_take]; omega
    · simp
theorem numR_raw {err : Int} {r : List UInt8} {n : Int} (h : isW n = true) : numR err r n = ((rawR err r n).1, (rawR err r n).2.1, leVal (rawR err r n).2.2) := by
  have hr : 1 ≤ n ∧ n ≤ 8 := by simpa [isW] using h
  have h0 : ¬ n < 0 := by omega
  unfold numR rawR
  rw [if_pos h, if_neg h0]
  split <;> simp [leVal]
theorem drop_more {bs : List UInt8} {k d : Nat} : (bs.drop k).drop d = bs.drop (k + d) := by rw [List.drop_drop]
set_option maxHeartbeats 800000 in
theorem ref_take (A : Option Addr) (L c : Nat) (bs : List UInt8) (k : Nat) (err n : Int) (S : Nat → Prop) (w : World) (h : Byt w S (.slice A L c) bs) (hS : ∀ b, S b → b < w.heap.size) (hk : k ≤ L) (hL : L ≤ 100000) (hn : n ≤ 9223372036854775807) :
    Calls Tryz.prog 183 #[.agg #[.slice A L c, .int .i64 (k : Int), .int .i64 err], .int .i64 n] w fun E w' =>
      ∃ d : Nat, E = .returned (.tuple #[.agg #[.slice A L c, .int .i64 ((k + d : Nat) : Int), .int .i64 (numR err (bs.drop k) n).1], .int .u64 ((numR err (bs.drop k) n).2.2 : Int)]) ∧
        (numR err (bs.drop k) n).2.1 = bs.drop (k + d) ∧ k + d ≤ L ∧ Only none_ w w' := by
  have hLb : L = bs.length := by obtain ⟨_, _, he, _⟩ := h; injection he
  have H := Lib.hid h
  by_cases hw : isW n = true
  · have hr : 1 ≤ n ∧ n ≤ 8 := by simpa [isW] using hw
    have HR : Hid (numR err (bs.drop k) n = ((rawR err (bs.drop k) n).1, (rawR err (bs.drop k) n).2.1, leVal (rawR err (bs.drop k) n).2.2)) := numR_raw hw
    have hT8 := rawR_told err (bs.drop k) n 8 (by omega)
    have hTL := rawR_len err (bs.drop k) n
    have HLeft := Lib.hid (rawR_left err (bs.drop k) n)
    have HW := Lib.hid hw
    have hB1 := blk_two w 169 #[.slice A L c, .int .i64 (k : Int), .int .i64 err] #[.slice none 0 0, .int .i64 0, .int .i64 0]
    have HRaw := fun w' hw' => ref_raw A L c bs k err n S w' hw' hk hL hn
    obtain ⟨rr, hrr⟩ : ∃ rr, rr = rawR err (bs.drop k) n := ⟨_, rfl⟩
    rw [← hrr] at HR hT8 hTL HLeft HRaw
    simp only [List.length_drop, ← hLb] at hTL
    have HLb := Lib.hid hLb
    clear h hw hrr hLb
    go_enter Tryz.func183, Tryz.ntmps183
    go_wp2_with (first
      | (go_at_call 240; refine (refWidth_any _ _).mono ?_; rintro e w' ⟨rfl, rfl⟩; rw [HW.out])
      | (go_at_call 241; refine (HRaw _ (H.out.only (((Only.refl none_ w).alloc _).alloc _) (fun _ _ h => h))).mono ?_; rintro e w1 ⟨A1, L1, c1, rfl, b1, o1⟩; have B1 := Lib.hid b1; have O1 := Lib.hid o1; clear b1 o1))
    have B4 := Lib.hid ((hB1.1.only O1.out (fun h => h)).alloc (.cells #[.slice A L c, .int .i64 ((k : Int) + (rr.2.2.length : Int)), .int .i64 rr.1] 169))
    have B6 := Lib.hid (Blk.new w1 169 #[.slice A L c, .int .i64 ((k : Int) + (rr.2.2.length : Int)), .int .i64 rr.1])
    have BV := Lib.hid (B1.out.alloc (.cells #[.slice A L c, .int .i64 ((k : Int) + (rr.2.2.length : Int)), .int .i64 rr.1] 169))
    have O2 := Lib.hid ((((((Only.refl none_ w).alloc _).alloc _).trans O1.out).alloc (.cells #[.slice A L c, .int .i64 ((k : Int) + (rr.2.2.length : Int)), .int .i64 rr.1] 169)))
    have hne : w.heap.size + 1 < w1.heap.size := by have := O1.out.size; simp at this; omega
    generalize w1.alloc (.cells #[.slice A L c, .int .i64 ((k : Int) + (rr.2.2.length : Int)), .int .i64 rr.1] 169) = W2 at *
    generalize w1.heap.size = g6 at *
    obtain ⟨f0, f1, f2, g0, g1, g2⟩ := cur_facts B4.out
    obtain ⟨d0, d1, d2, _, _, _⟩ := cur_facts B6.out
    clear hB1 O1 B1
    go_region_held3 (fun w' => w'.cell? ⟨g6, 0, none⟩ = some (.slice A L c) ∧ w'.cell? ⟨g6, 1, none⟩ = some (.int .i64 ((k : Int) + (rr.2.2.length : Int))) ∧ w'.cell? ⟨g6, 2, none⟩ = some (.int .i64 rr.1))
      (first | exact ⟨d0, d1, d2⟩ | exact far_fill B6.out (Nat.ne_of_lt hne) _ _ _)
      (first | (go_at_call 242; refine (ref_value _ _ _ _ _ _ (by exact BV.out) hT8).mono ?_; rintro e w' ⟨rfl, rfl⟩))
    all_goals
      go_wp2
      refine bodyPost_ret (results_cell_tmp rfl _ _ (w.heap.size + 1) 169 _ _ rfl (Blk.drew (blk_fill B4.out _ _ _)) Tryz.underlying169 rfl (by kernel_rfl) _ rfl) rfl ?_
      rw [HR.out]
      exact ⟨rr.2.2.length, rfl, by rw [HLeft.out, drop_more], by omega, (only_fill O2.out (.inr (by omega)) _ _ _).drew⟩
  · have hwf : isW n = false := by simpa using hw
    have HR : Hid (numR err (bs.drop k) n = (first_ err 1, bs.drop k, 0)) := by simp only [Hid, numR, if_neg hw]
    have HW := Lib.hid hwf
    clear h hLb hw hwf
    have hB1 := (blk_two w 169 #[.slice A L c, .int .i64 (k : Int), .int .i64 err] #[.slice none 0 0, .int .i64 0, .int .i64 0]).1
    go_enter Tryz.func183, Tryz.ntmps183
    go_wp2_with (first
      | (go_at_call 240; refine (refWidth_any _ _).mono ?_; rintro e w' ⟨rfl, rfl⟩; rw [HW.out])
      | (go_at_call 188; refine (ref_fail _ _ _ _ _ _ _).mono ?_; rintro e w1 ⟨rfl, o1⟩; obtain ⟨f0, f1, f2, g0, g1, g2⟩ := cur_facts (hB1.only o1 (fun h => h))))
    refine bodyPost_ret (results_cell_tmp rfl _ _ (w.heap.size + 1) 169 _ _ rfl (blk_fill (hB1.only o1 (fun h => h)) _ _ _) Tryz.underlying169 rfl (by kernel_rfl) _ rfl) rfl ?_
    rw [HR.out]
    exact ⟨0, rfl, rfl, by omega, only_fill ((((Only.refl none_ w).alloc _).alloc _).trans o1) (.inr (by simp)) _ _ _⟩
theorem first_ne (err e : Int) (h : e ≠ 0) : first_ err e ≠ 0 := by unfold first_; split <;> simp_all
set_option maxHeartbeats 1600000 in
theorem ref_flag (A : Option Addr) (L c : Nat) (bs : List UInt8) (k : Nat) (err : Int) (S : Nat → Prop) (w : World) (h : Byt w S (.slice A L c) bs) (hS : ∀ b, S b → b < w.heap.size) (hk : k ≤ L) (hL : L ≤ 100000) :
    Calls Tryz.prog 184 #[.agg #[.slice A L c, .int .i64 (k : Int), .int .i64 err]] w fun E w' =>
      ∃ d : Nat, E = .returned (.tuple #[.agg #[.slice A L c, .int .i64 ((k + d : Nat) : Int), .int .i64 (flagR err (bs.drop k)).1], .bool (flagR err (bs.drop k)).2.2]) ∧
        (flagR err (bs.drop k)).2.1 = bs.drop (k + d) ∧ k + d ≤ L ∧ Only none_ w w' := by
  have hLb : L = bs.length := by obtain ⟨_, _, he, _⟩ := h; injection he
  have H := Lib.hid h
  have hB1 := blk_two w 169 #[.slice A L c, .int .i64 (k : Int), .int .i64 err] #[.slice none 0 0, .int .i64 0, .int .i64 0]
  have HRaw := fun w' hw' => ref_raw A L c bs k err 1 S w' hw' hk hL (by omega)
  by_cases hstop : err ≠ 0 ∨ bs.length ≤ k
  · have hr1 : rawR err (bs.drop k) 1 = (takeCode err (bs.drop k) 1, bs.drop k, []) := by
      have h3 : ¬ (err = 0 ∧ 1 ≤ (bs.drop k).length) := by
        rintro ⟨h4, h5⟩
        rcases hstop with h6 | h6
        · exact h6 h4
        · simp at h5; omega
      simp only [rawR, show ¬ ((1 : Int) < 0) from by omega, if_false, show (1 : Int).toNat = 1 from rfl, h3]
    have hne : (takeCode err (bs.drop k) 1 != 0) = true := by
      rw [bne_iff_ne]
      unfold takeCode
      split
      · exact first_ne _ _ (by decide)
      · rcases hstop with h6 | h6
        · exact h6
        · rename_i h7; exact absurd (by simp; omega) h7
    have HR : Hid (flagR err (bs.drop k) = (takeCode err (bs.drop k) 1, bs.drop k, false)) := by
      unfold Hid
      cases hr : bs.drop k with
      | nil => simp [flagR, takeCode]
      | cons b r =>
        have : err ≠ 0 := by
          rcases hstop with h6 | h6
          · exact h6
          · have := List.drop_eq_nil_iff.2 h6; rw [this] at hr; cases hr
        simp [flagR, this, takeCode]
    simp only [hr1, List.length_nil, Nat.add_zero] at HRaw
    obtain ⟨c1, hc1⟩ : ∃ c1, c1 = takeCode err (bs.drop k) 1 := ⟨_, rfl⟩
    rw [← hc1] at HRaw hne HR
    clear h hLb hstop hr1 hc1
    go_enter Tryz.func184, Tryz.ntmps184
    go_wp2_with (first
      | (go_at_call 241; refine (HRaw _ (H.out.only (((Only.refl none_ w).alloc _).alloc _) (fun _ _ h => h))).mono ?_; rintro e w1 ⟨A1, L1, c2, rfl, b1, o1⟩; have O1 := Lib.hid o1
         have B4 := Lib.hid ((hB1.1.only o1 (fun h => h)).alloc (.cells #[.slice A L c, .int .i64 (k : Int), .int .i64 c1] 169))
         obtain ⟨f0, f1, f2, g0, g1, g2⟩ := cur_facts B4.out
         clear b1 o1))
    refine bodyPost_ret (results_cell_tmp rfl _ _ (w.heap.size + 1) 169 _ _ rfl (blk_fill B4.out _ _ _) Tryz.underlying169 rfl (by kernel_rfl) _ rfl) rfl ?_
    rw [HR.out]
    exact ⟨0, rfl, rfl, by omega, only_fill (((((Only.refl none_ w).alloc _).alloc _).trans O1.out).alloc _) (.inr (by simp)) _ _ _⟩
  · obtain ⟨rfl, hkl⟩ : err = 0 ∧ k < bs.length := ⟨Classical.byContradiction fun h => hstop (.inl h), by have : ¬ bs.length ≤ k := fun h => hstop (.inr h); omega⟩
    clear hstop
    obtain ⟨b, hb⟩ : ∃ b, b = bs[k] := ⟨_, rfl⟩
    have hdr : bs.drop k = b :: bs.drop (k + 1) := by rw [hb, List.drop_eq_getElem_cons hkl]
    have hr1 : rawR 0 (bs.drop k) 1 = (0, bs.drop (k + 1), [b]) := by
      rw [hdr]
      simp [rawR]
    have hb8 := b.toNat_lt
    simp only [hr1, List.length_cons, List.length_nil, Nat.zero_add] at HRaw
    by_cases hb1 : 1 < b.toNat
    · have HR : Hid (flagR 0 (bs.drop k) = (4, bs.drop k, false)) := by rw [Hid, hdr]; simp [flagR, hb1]
      have hkk : k + 0 ≤ L := by omega
      clear h hLb hr1 hdr hb
      go_enter Tryz.func184, Tryz.ntmps184
      go_wp2_with (first
        | (go_at_call 241; refine (HRaw _ (H.out.only (((Only.refl none_ w).alloc _).alloc _) (fun _ _ h => h))).mono ?_; rintro e w1 ⟨A1, L1, c2, rfl, b1, o1⟩; have O1 := Lib.hid o1
           obtain ⟨A', c', he', _, _, _, hcs⟩ := b1
           injection he' with ha1 ha2 ha3
           subst ha1 ha2 ha3
           obtain ⟨bb, bo, rfl, hSb, hblt, hcc⟩ := hcs (by simp)
           have hcell : ∀ o, (w1.alloc o).cell? ⟨bb, bo, none⟩ = some (.int .u8 (b.toNat : Int)) := fun o => (World.cell?_alloc_lt w1 o ⟨bb, bo, none⟩ hblt).trans (by simpa [byt] using hcc 0 (by simp))
           have B4 := Lib.hid ((hB1.1.only o1 (fun h => h)).alloc (.cells #[.slice A L c, .int .i64 ((k : Int) + 1), .int .i64 0] 169))
           have B1 := (hB1.2.only o1 (fun h => h)).alloc (.cells #[.slice A L c, .int .i64 ((k : Int) + 1), .int .i64 0] 169)
           obtain ⟨d0, d1, d2, _, _, _⟩ := cur_facts B1
           clear hcs hcc o1 B1)
        | (go_at_call 188; refine (ref_fail _ _ _ _ _ _ _).mono ?_; rintro e w3 ⟨rfl, o3⟩; have O3 := Lib.hid o3
           have B5 := Lib.hid (B4.out.only o3 (fun h => h))
           obtain ⟨f0, f1, f2, g0, g1, g2⟩ := cur_facts B5.out
           clear o3))
      refine bodyPost_ret (results_cell_tmp rfl _ _ (w.heap.size + 1) 169 _ _ rfl (blk_fill B5.out _ _ _) Tryz.underlying169 rfl (by kernel_rfl) _ rfl) rfl ?_
      rw [HR.out]
      exact ⟨0, by simp [first_], rfl, by omega, only_fill ((((((Only.refl none_ w).alloc _).alloc _).trans O1.out).alloc _).trans O3.out) (.inr (by simp)) _ _ _⟩
    · have HR : Hid (flagR 0 (bs.drop k) = (0, bs.drop (k + 1), decide (b.toNat = 1))) := by rw [Hid, hdr]; simp [flagR, hb1]
      have hkk : k + 1 ≤ L := by omega
      clear h hLb hr1 hdr hb
      go_enter Tryz.func184, Tryz.ntmps184
      go_wp2_with (first
        | (go_at_call 241; refine (HRaw _ (H.out.only (((Only.refl none_ w).alloc _).alloc _) (fun _ _ h => h))).mono ?_; rintro e w1 ⟨A1, L1, c2, rfl, b1, o1⟩; have O1 := Lib.hid o1
           obtain ⟨A', c', he', _, _, _, hcs⟩ := b1
           injection he' with ha1 ha2 ha3
           subst ha1 ha2 ha3
           obtain ⟨bb, bo, rfl, hSb, hblt, hcc⟩ := hcs (by simp)
           have hcell : ∀ o, (w1.alloc o).cell? ⟨bb, bo, none⟩ = some (.int .u8 (b.toNat : Int)) := fun o => (World.cell?_alloc_lt w1 o ⟨bb, bo, none⟩ hblt).trans (by simpa [byt] using hcc 0 (by simp))
           have B4 := Lib.hid ((hB1.1.only o1 (fun h => h)).alloc (.cells #[.slice A L c, .int .i64 ((k : Int) + 1), .int .i64 0] 169))
           clear hcs hcc o1))
      have B6 := Lib.hid (Blk.new w1 169 #[.slice A L c, .int .i64 ((k : Int) + 1), .int .i64 0])
      have O2 := Lib.hid ((((((Only.refl none_ w).alloc _).alloc _).trans O1.out).alloc (.cells #[.slice A L c, .int .i64 ((k : Int) + 1), .int .i64 0] 169)))
      have hne : w.heap.size + 1 < w1.heap.size := by have := O1.out.size; simp at this; omega
      have hbn : bb ≠ w.heap.size + 1 := by have := hS bb hSb; omega
      have hc := hcell (.cells #[.slice A L c, .int .i64 ((k : Int) + 1), .int .i64 0] 169)
      clear hcell hB1 O1
      generalize w1.alloc (.cells #[.slice A L c, .int .i64 ((k : Int) + 1), .int .i64 0] 169) = W2 at *
      generalize w1.heap.size = g6 at *
      obtain ⟨f0, f1, f2, g0, g1, g2⟩ := cur_facts B4.out
      obtain ⟨d0, d1, d2, _, _, _⟩ := cur_facts B6.out
      go_region_held3 (fun w' => (w'.cell? ⟨g6, 0, none⟩ = some (.slice A L c) ∧ w'.cell? ⟨g6, 1, none⟩ = some (.int .i64 ((k : Int) + 1)) ∧ w'.cell? ⟨g6, 2, none⟩ = some (.int .i64 0)) ∧ w'.cell? ⟨bb, bo, none⟩ = some (.int .u8 (b.toNat : Int)))
        (first | exact ⟨⟨d0, d1, d2⟩, hc⟩ | exact ⟨far_fill B6.out (Nat.ne_of_lt hne) _ _ _, far_cell hc hbn _ _ _⟩)
        (first | fail)
      all_goals
        go_wp2
        refine bodyPost_ret (results_cell_tmp rfl _ _ (w.heap.size + 1) 169 _ _ rfl (Blk.drew (blk_fill B4.out _ _ _)) Tryz.underlying169 rfl (by kernel_rfl) _ rfl) rfl ?_
        rw [HR.out]
        refine ⟨1, ?_, rfl, hkk, (only_fill O2.out (.inr (by omega)) _ _ _).drew⟩
        show Ending.returned (.tuple #[.agg #[.slice A L c, .int .i64 ((k : Int) + 1), .int .i64 0], .bool ((b.toNat : Int) == 1)]) = .returned (.tuple #[.agg #[.slice A L c, .int .i64 ((k + 1 : Nat) : Int), .int .i64 0], .bool (decide (b.toNat = 1))])
        rw [show ((b.toNat : Int) == 1) = decide (b.toNat = 1) from by rw [Bool.eq_iff_iff]; simp only [beq_iff_eq, decide_eq_true_eq]; omega]
        rfl
end Go.Proofs.YtlieolehpmobfaaGreatDoor
end
section
namespace Go.Proofs.YtlieolehpmobfaaGreatDoor
open Go.RowKit
set_option linter.all false
set_option maxRecDepth 100000
attribute [local go_sem ↓] Go.wp_at_zero Go.wp_at_succ
set_option maxHeartbeats 800000 in
theorem ref_done (A : Option Addr) (L c : Nat) (bs : List UInt8) (k : Nat) (err : Int) (w : World) (hLb : L = bs.length) (hk : k ≤ L) (hL : L ≤ 100000) :
    Calls Tryz.prog 83 #[.agg #[.slice A L c, .int .i64 (k : Int), .int .i64 err]] w fun E w' =>
      E = .returned (.agg #[.slice A L c, .int .i64 (k : Int), .int .i64 (doneCode err (bs.drop k))]) ∧ Only none_ w w' := by
  have hB1 := blk_two w 169 #[.slice A L c, .int .i64 (k : Int), .int .i64 err] #[.slice none 0 0, .int .i64 0, .int .i64 0]
  by_cases h : k < L
  · have HR : Hid (doneCode err (bs.drop k) = first_ err 4) := by rw [Hid, doneCode, if_pos (by simp; omega)]
    clear hLb
    go_enter Tryz.func83, Tryz.ntmps83
    go_wp2_with (first
      | (go_at_call 188; refine (ref_fail _ _ _ _ _ _ _).mono ?_; rintro e w1 ⟨rfl, o1⟩; have O1 := Lib.hid o1
         have B4 := Lib.hid (hB1.1.only o1 (fun h => h))
         obtain ⟨f0, f1, f2, g0, g1, g2⟩ := cur_facts B4.out
         clear o1))
    refine bodyPost_ret (results_cell_row rfl _ _ (w.heap.size + 1) 169 _ (0, 0) _ rfl (blk_fill B4.out _ _ _) Tryz.underlying169 rfl (by kernel_rfl)) rfl ?_
    rw [HR.out]
    exact ⟨rfl, only_fill ((((Only.refl none_ w).alloc _).alloc _).trans O1.out) (.inr (by simp)) _ _ _⟩
  · have HR : Hid (doneCode err (bs.drop k) = err) := by rw [Hid, doneCode, if_neg (by simp; omega)]
    clear hLb
    go_enter Tryz.func83, Tryz.ntmps83
    go_wp2
    refine bodyPost_ret (results_cell_row rfl _ _ (w.heap.size + 1) 169 _ (0, 0) _ rfl (blk_two _ _ _ _).1 Tryz.underlying169 rfl (by kernel_rfl)) rfl ?_
    rw [HR.out]
    exact ⟨rfl, ((Only.refl none_ w).alloc _).alloc _⟩
set_option maxHeartbeats 1600000 in
theorem ref_text (A : Option Addr) (L c : Nat) (bs : List UInt8) (k : Nat) (err most : Int) (S : Nat → Prop) (w : World) (h : Byt w S (.slice A L c) bs) (hS : ∀ b, S b → b < w.heap.size) (hk : k ≤ L) (hL : L ≤ 100000) :
    Calls Tryz.prog 243 #[.agg #[.slice A L c, .int .i64 (k : Int), .int .i64 err], .int .i64 most] w fun E w' =>
      ∃ d : Nat, E = .returned (.tuple #[.agg #[.slice A L c, .int .i64 ((k + d : Nat) : Int), .int .i64 (textR err (bs.drop k) most).1], .string ⟨(textR err (bs.drop k) most).2.2.toArray⟩]) ∧
        (textR err (bs.drop k) most).2.1 = bs.drop (k + d) ∧ k + d ≤ L ∧ Only none_ w w' := by
  have hLb : L = bs.length := by obtain ⟨_, _, he, _⟩ := h; injection he
  have H := Lib.hid h
  have hB1 := blk_two w 169 #[.slice A L c, .int .i64 (k : Int), .int .i64 err] #[.slice none 0 0, .int .i64 0, .int .i64 0]
  have HRaw := fun w' hw' => ref_raw A L c bs k err 1 S w' hw' hk hL (by omega)
  by_cases hstop : err ≠ 0 ∨ bs.length ≤ k
  · have hr1 : rawR err (bs.drop k) 1 = (takeCode err (bs.drop k) 1, bs.drop k, []) := by
      have h3 : ¬ (err = 0 ∧ 1 ≤ (bs.drop k).length) := by
        rintro ⟨h4, h5⟩
        rcases hstop with h6 | h6
        · exact h6 h4
        · simp at h5; omega
      simp only [rawR, show ¬ ((1 : Int) < 0) from by omega, if_false, show (1 : Int).toNat = 1 from rfl, h3]
    have hne : (takeCode err (bs.drop k) 1 != 0) = true := by
      rw [bne_iff_ne]
      unfold takeCode
      split
      · exact first_ne _ _ (by decide)
      · rcases hstop with h6 | h6
        · exact h6
        · rename_i h7; exact absurd (by simp; omega) h7
    have HR : Hid (textR err (bs.drop k) most = (takeCode err (bs.drop k) 1, bs.drop k, [])) := by
      unfold Hid
      cases hr : bs.drop k with
      | nil => simp [textR, takeCode]
      | cons b r =>
        have : err ≠ 0 := by
          rcases hstop with h6 | h6
          · exact h6
          · have := List.drop_eq_nil_iff.2 h6; rw [this] at hr; cases hr
        simp [textR, this, takeCode]
    simp only [hr1, List.length_nil, Nat.add_zero] at HRaw
    obtain ⟨c1, hc1⟩ : ∃ c1, c1 = takeCode err (bs.drop k) 1 := ⟨_, rfl⟩
    rw [← hc1] at HRaw hne HR
    clear h hLb hstop hr1 hc1
    go_enter Tryz.func243, Tryz.ntmps243
    go_wp2_with (first
      | (go_at_call 241; refine (HRaw _ (H.out.only (((Only.refl none_ w).alloc _).alloc _) (fun _ _ h => h))).mono ?_; rintro e w1 ⟨A1, L1, c2, rfl, b1, o1⟩; have O1 := Lib.hid o1
         have B4 := Lib.hid ((hB1.1.only o1 (fun h => h)).alloc (.cells #[.slice A L c, .int .i64 (k : Int), .int .i64 c1] 169))
         obtain ⟨f0, f1, f2, g0, g1, g2⟩ := cur_facts B4.out
         clear b1 o1))
    refine bodyPost_ret (results_cell_tmp rfl _ _ (w.heap.size + 1) 169 _ _ rfl (blk_fill B4.out _ _ _) Tryz.underlying169 rfl (by kernel_rfl) _ rfl) rfl ?_
    rw [HR.out]
    exact ⟨0, rfl, rfl, by omega, only_fill (((((Only.refl none_ w).alloc _).alloc _).trans O1.out).alloc _) (.inr (by simp)) _ _ _⟩
  · obtain ⟨rfl, hkl⟩ : err = 0 ∧ k < bs.length := ⟨Classical.byContradiction fun h => hstop (.inl h), by have : ¬ bs.length ≤ k := fun h => hstop (.inr h); omega⟩
    clear hstop
    obtain ⟨b, hb⟩ : ∃ b, b = bs[k] := ⟨_, rfl⟩
    have hdr : bs.drop k = b :: bs.drop (k + 1) := by rw [hb, List.drop_eq_getElem_cons hkl]
    have hr1 : rawR 0 (bs.drop k) 1 = (0, bs.drop (k + 1), [b]) := by
      rw [hdr]
      simp [rawR]
    have hb8 := b.toNat_lt
    simp only [hr1, List.length_cons, List.length_nil, Nat.zero_add] at HRaw
    by_cases hb1 : most < (b.toNat : Int)
    · have HR : Hid (textR 0 (bs.drop k) most = (4, bs.drop k, [])) := by rw [Hid, hdr]; simp [textR, hb1]
      have hkk : k + 0 ≤ L := by omega
      clear h hLb hr1 hdr hb
      go_enter Tryz.func243, Tryz.ntmps243
      go_wp2_with (first
        | (go_at_call 241; refine (HRaw _ (H.out.only (((Only.refl none_ w).alloc _).alloc _) (fun _ _ h => h))).mono ?_; rintro e w1 ⟨A1, L1, c2, rfl, b1, o1⟩; have O1 := Lib.hid o1
           obtain ⟨A', c', he', _, _, _, hcs⟩ := b1
           injection he' with ha1 ha2 ha3
           subst ha1 ha2 ha3
           obtain ⟨bb, bo, rfl, _, hblt, hcc⟩ := hcs (by simp)
           have hcell : ∀ o, (w1.alloc o).cell? ⟨bb, bo, none⟩ = some (.int .u8 (b.toNat : Int)) := fun o => (World.cell?_alloc_lt w1 o ⟨bb, bo, none⟩ hblt).trans (by simpa [byt] using hcc 0 (by simp))
           have B4 := Lib.hid ((hB1.1.only o1 (fun h => h)).alloc (.cells #[.slice A L c, .int .i64 ((k : Int) + 1), .int .i64 0] 169))
           have B1 := (hB1.2.only o1 (fun h => h)).alloc (.cells #[.slice A L c, .int .i64 ((k : Int) + 1), .int .i64 0] 169)
           obtain ⟨d0, d1, d2, _, _, _⟩ := cur_facts B1
           clear hcs hcc o1 B1)
        | (go_at_call 188; refine (ref_fail _ _ _ _ _ _ _).mono ?_; rintro e w3 ⟨rfl, o3⟩; have O3 := Lib.hid o3
           have B5 := Lib.hid (B4.out.only o3 (fun h => h))
           obtain ⟨f0, f1, f2, g0, g1, g2⟩ := cur_facts B5.out
           clear o3))
      refine bodyPost_ret (results_cell_tmp rfl _ _ (w.heap.size + 1) 169 _ _ rfl (blk_fill B5.out _ _ _) Tryz.underlying169 rfl (by kernel_rfl) _ rfl) rfl ?_
      rw [HR.out]
      exact ⟨0, by simp [first_], rfl, by omega, only_fill ((((((Only.refl none_ w).alloc _).alloc _).trans O1.out).alloc _).trans O3.out) (.inr (by simp)) _ _ _⟩
    · have HT2 := fun w' hw' => ref_raw A L c bs (k + 1) 0 (b.toNat : Int) S w' hw' (by omega) hL (by omega)
      have hkk : k + 1 ≤ L := by omega
      by_cases hlen : (bs.drop (k + 1)).length < b.toNat
      · have HR : Hid (textR 0 (bs.drop k) most = (6, bs.drop k, [])) := by rw [Hid, hdr]; simp only [textR, ne_eq, not_true_eq_false, if_false, if_neg hb1, if_pos hlen]
        have hr2 : rawR 0 (bs.drop (k + 1)) (b.toNat : Int) = (6, bs.drop (k + 1), []) := by
          have h2 : ¬ ((b.toNat : Int) < 0) := by omega
          have h3 : ¬ ((0 : Int) = 0 ∧ (b.toNat : Int).toNat ≤ (bs.drop (k + 1)).length) := fun h => by have := h.2; omega
          unfold rawR
          rw [if_neg h2, if_neg h3]
          simp only [Int.toNat_natCast, takeCode, if_pos hlen, first_, if_true]
        simp only [hr2, List.length_nil, Nat.add_zero] at HT2
        have e1 : ((k + 1 : Nat) : Int) = (k : Int) + 1 := by omega
        rw [e1] at HT2
        clear h hLb hr1 hdr hb hlen hr2 e1
        go_enter Tryz.func243, Tryz.ntmps243
        go_wp2_with (first
          | (go_at_call 241; refine (HRaw _ (H.out.only (((Only.refl none_ w).alloc _).alloc _) (fun _ _ h => h))).mono ?_; rintro e w1 ⟨A1, L1, c2, rfl, b1, o1⟩; have O1 := Lib.hid o1
             obtain ⟨A', c', he', _, _, _, hcs⟩ := b1
             injection he' with ha1 ha2 ha3
             subst ha1 ha2 ha3
             obtain ⟨bb, bo, rfl, hSb, hblt, hcc⟩ := hcs (by simp)
             have hcell : ∀ o, (w1.alloc o).cell? ⟨bb, bo, none⟩ = some (.int .u8 (b.toNat : Int)) := fun o => (World.cell?_alloc_lt w1 o ⟨bb, bo, none⟩ hblt).trans (by simpa [byt] using hcc 0 (by simp))
             have B4 := Lib.hid ((hB1.1.only o1 (fun h => h)).alloc (.cells #[.slice A L c, .int .i64 ((k : Int) + 1), .int .i64 0] 169))
             have B2 := Lib.hid ((hB1.2.only o1 (fun h => h)).alloc (.cells #[.slice A L c, .int .i64 ((k : Int) + 1), .int .i64 0] 169))
             clear hcs hcc o1))
        have B6 := Lib.hid (Blk.new w1 169 #[.slice A L c, .int .i64 ((k : Int) + 1), .int .i64 0])
        have O2 := Lib.hid ((((((Only.refl none_ w).alloc _).alloc _).trans O1.out).alloc (.cells #[.slice A L c, .int .i64 ((k : Int) + 1), .int .i64 0] 169)))
        have hne : w.heap.size + 1 < w1.heap.size := by have := O1.out.size; simp at this; omega
        have hbl : bb < w.heap.size := hS bb hSb
        have hc := hcell (.cells #[.slice A L c, .int .i64 ((k : Int) + 1), .int .i64 0] 169)
        have hbW : bb < (w1.alloc (.cells #[.slice A L c, .int .i64 ((k : Int) + 1), .int .i64 0] 169)).heap.size := by simp; omega
        clear hcell hB1 O1
        generalize w1.alloc (.cells #[.slice A L c, .int .i64 ((k : Int) + 1), .int .i64 0] 169) = W2 at *
        generalize w1.heap.size = g6 at *
        have hwr : IntKind.i64.wrap (b.toNat : Int) = (b.toNat : Int) := IntWalk.i64_in _ (by omega)
        have SE : ∀ w', Only none_ W2 w' → (w'.cell? ⟨g6, 0, none⟩ = some (.slice A L c) ∧ w'.cell? ⟨g6, 1, none⟩ = some (.int .i64 ((k : Int) + 1)) ∧ w'.cell? ⟨g6, 2, none⟩ = some (.int .i64 0)) ∧ w'.cell? ⟨bb, bo, none⟩ = some (.int .u8 (b.toNat : Int)) := fun w' o => by
          obtain ⟨e0, e1, e2, _⟩ := cur_facts (B6.out.only o (fun h => h))
          exact ⟨⟨e0, e1, e2⟩, (o.cell hbW (fun h => h)).trans hc⟩
        have HSE := Lib.hid SE
        clear SE hc
        go_region_held3 (fun w' => (w'.cell? ⟨g6, 0, none⟩ = some (.slice A L c) ∧ w'.cell? ⟨g6, 1, none⟩ = some (.int .i64 ((k : Int) + 1)) ∧ w'.cell? ⟨g6, 2, none⟩ = some (.int .i64 0)) ∧ w'.cell? ⟨bb, bo, none⟩ = some (.int .u8 (b.toNat : Int)))
          (first | exact HSE.out _ ((Only.refl none_ W2).drew) | exact HSE.out _ (((Only.refl none_ W2).alloc _).drew) | exact HSE.out _ o5.out | exact HSE.out _ (o5.out.alloc _) | exact HSE.out _ (only_fill o5.out (.inr (Nat.le_refl _)) _ _ _))
          (first | (go_at_call 241; refine (HT2 _ (H.out.only (O2.out.trans (by first | exact (Only.refl none_ W2).drew | exact ((Only.refl none_ W2).alloc _).drew)) (fun _ _ h => h))).mono ?_; rintro e w5 ⟨A5, L5, c5, rfl, b5, o5'⟩
                    have o5 : Hid (Only none_ W2 w5) := (by first | exact ((Only.refl none_ W2).drew).trans o5' | exact ((Only.refl none_ W2).alloc _).drew.trans o5')
                    have B5 := Lib.hid b5
                    first
                      | (have K8 : Hid (Blk w5 W2.heap.size 169 #[.slice none 0 0, .int .i64 0, .int .i64 0]) := (show Blk (W2.alloc (.cells #[.slice none 0 0, .int .i64 0, .int .i64 0] 169)).drew W2.heap.size 169 _ from Blk.new W2 _ _).only o5' (fun h => h)
                         obtain ⟨z0, z1, z2, y0, y1, y2⟩ := cur_facts K8.out)
                      | skip
                    clear b5 o5'))
        · have E8 := Lib.hid (Blk.new w5 169 #[.slice A L c, .int .i64 ((k : Int) + 1), .int .i64 6])
          have O8 := Lib.hid (o5.out.alloc (.cells #[.slice A L c, .int .i64 ((k : Int) + 1), .int .i64 6] 169))
          have T8 := Lib.hid (B5.out.alloc (.cells #[.slice A L c, .int .i64 ((k : Int) + 1), .int .i64 6] 169))
          have hg8 : W2.heap.size ≤ w5.heap.size := o5.out.size
          generalize w5.alloc (.cells #[.slice A L c, .int .i64 ((k : Int) + 1), .int .i64 6] 169) = W8 at *
          generalize w5.heap.size = g8 at *
          clear o5 B5
          obtain ⟨x0, x1, x2, _, _, _⟩ := cur_facts E8.out
          obtain ⟨d0, d1, d2, _, _, _⟩ := cur_facts (B2.out.only O8.out (fun h => h))
          go_wp2_with (first
            | (go_at_call 188; refine (ref_fail _ _ _ _ _ _ _).mono ?_; rintro e w9 ⟨rfl, o9⟩; have O9 := Lib.hid (O8.out.trans o9)
               obtain ⟨f0, f1, f2, g0, g1, g2⟩ := cur_facts (B4.out.only O9.out (fun h => h))
               clear o9))
          refine bodyPost_ret (results_cell_tmp rfl _ _ (w.heap.size + 1) 169 _ _ rfl (blk_fill (B4.out.only O9.out (fun h => h)) _ _ _) Tryz.underlying169 rfl (by kernel_rfl) _ rfl) rfl ?_
          rw [HR.out]
          exact ⟨0, by simp [first_], rfl, by omega, only_fill (O2.out.trans O9.out) (.inr (by simp)) _ _ _⟩
        · have E8 := Lib.hid (blk_fill K8.out (.slice A L c) (.int .i64 ((k : Int) + 1)) (.int .i64 6))
          have O8 := Lib.hid (only_fill o5.out (.inr (Nat.le_refl W2.heap.size)) (.slice A L c) (.int .i64 ((k : Int) + 1)) (.int .i64 6))
          have T8 := Lib.hid (B5.out.only (only_fill (Only.refl (one W2.heap.size) w5) (.inl (show one W2.heap.size W2.heap.size from rfl)) (.slice A L c) (.int .i64 ((k : Int) + 1)) (.int .i64 6)) (fun b hb h => by have := hS b hb; have := O2.out.size; simp only [one] at h; omega))
          have hg8 : W2.heap.size ≤ W2.heap.size := Nat.le_refl _
          clear K8 z0 z1 z2 y0 y1 y2 o5 B5
          generalize ((w5.setCell ⟨W2.heap.size, 0, none⟩ (.slice A L c)).setCell ⟨W2.heap.size, 1, none⟩ (.int .i64 ((k : Int) + 1))).setCell ⟨W2.heap.size, 2, none⟩ (.int .i64 6) = W8 at *
          obtain ⟨g8, hg⟩ : ∃ g8, g8 = W2.heap.size := ⟨_, rfl⟩
          rw [← hg] at E8 ⊢
          have HG := Lib.hid hg
          clear hg
          obtain ⟨x0, x1, x2, _, _, _⟩ := cur_facts E8.out
          obtain ⟨d0, d1, d2, _, _, _⟩ := cur_facts (B2.out.only O8.out (fun h => h))
          go_wp2_with (first
            | (go_at_call 188; refine (ref_fail _ _ _ _ _ _ _).mono ?_; rintro e w9 ⟨rfl, o9⟩; have O9 := Lib.hid (O8.out.trans o9)
               obtain ⟨f0, f1, f2, g0, g1, g2⟩ := cur_facts (B4.out.only O9.out (fun h => h))
               clear o9))
          refine bodyPost_ret (results_cell_tmp rfl _ _ (w.heap.size + 1) 169 _ _ rfl (blk_fill (B4.out.only O9.out (fun h => h)) _ _ _) Tryz.underlying169 rfl (by kernel_rfl) _ rfl) rfl ?_
          rw [HR.out]
          exact ⟨0, by simp [first_], rfl, by omega, only_fill (O2.out.trans O9.out) (.inr (by simp)) _ _ _⟩
      · have HR : Hid (textR 0 (bs.drop k) most = (0, (bs.drop (k + 1)).drop b.toNat, (bs.drop (k + 1)).take b.toNat)) := by rw [Hid, hdr]; simp only [textR, ne_eq, not_true_eq_false, if_false, if_neg hb1, if_neg hlen]
        have hr2 : rawR 0 (bs.drop (k + 1)) (b.toNat : Int) = (0, (bs.drop (k + 1)).drop b.toNat, (bs.drop (k + 1)).take b.toNat) := by
          have h2 : ¬ ((b.toNat : Int) < 0) := by omega
          have h3 : ((0 : Int) = 0 ∧ (b.toNat : Int).toNat ≤ (bs.drop (k + 1)).length) := ⟨rfl, by simp only [Int.toNat_natCast]; omega⟩
          unfold rawR
          rw [if_neg h2, if_pos h3]
          simp only [Int.toNat_natCast]
        have htl : ((bs.drop (k + 1)).take b.toNat).length = b.toNat := by simp only [List.length_take]; omega
        have hkn : k + 1 + b.toNat ≤ L := by simp only [List.length_drop] at hlen; omega
        simp only [hr2, htl] at HT2
        have e1 : ((k + 1 : Nat) : Int) = (k : Int) + 1 := by omega
        have e2 : ((k + 1 + b.toNat : Nat) : Int) = (k : Int) + 1 + (b.toNat : Int) := by omega
        rw [e2, e1] at HT2
        obtain ⟨told, htd⟩ : ∃ told, told = (bs.drop (k + 1)).take b.toNat := ⟨_, rfl⟩
        rw [← htd] at HT2 HR
        clear h hLb hr1 hdr hb hlen hr2 e1 e2 htl htd
        go_enter Tryz.func243, Tryz.ntmps243
        go_wp2_with (first
          | (go_at_call 241; refine (HRaw _ (H.out.only (((Only.refl none_ w).alloc _).alloc _) (fun _ _ h => h))).mono ?_; rintro e w1 ⟨A1, L1, c2, rfl, b1, o1⟩; have O1 := Lib.hid o1
             obtain ⟨A', c', he', _, _, _, hcs⟩ := b1
             injection he' with ha1 ha2 ha3
             subst ha1 ha2 ha3
             obtain ⟨bb, bo, rfl, hSb, hblt, hcc⟩ := hcs (by simp)
             have hcell : ∀ o, (w1.alloc o).cell? ⟨bb, bo, none⟩ = some (.int .u8 (b.toNat : Int)) := fun o => (World.cell?_alloc_lt w1 o ⟨bb, bo, none⟩ hblt).trans (by simpa [byt] using hcc 0 (by simp))
             have B4 := Lib.hid ((hB1.1.only o1 (fun h => h)).alloc (.cells #[.slice A L c, .int .i64 ((k : Int) + 1), .int .i64 0] 169))
             have B2 := Lib.hid ((hB1.2.only o1 (fun h => h)).alloc (.cells #[.slice A L c, .int .i64 ((k : Int) + 1), .int .i64 0] 169))
             clear hcs hcc o1))
        have B6 := Lib.hid (Blk.new w1 169 #[.slice A L c, .int .i64 ((k : Int) + 1), .int .i64 0])
        have O2 := Lib.hid ((((((Only.refl none_ w).alloc _).alloc _).trans O1.out).alloc (.cells #[.slice A L c, .int .i64 ((k : Int) + 1), .int .i64 0] 169)))
        have hne : w.heap.size + 1 < w1.heap.size := by have := O1.out.size; simp at this; omega
        have hbl : bb < w.heap.size := hS bb hSb
        have hc := hcell (.cells #[.slice A L c, .int .i64 ((k : Int) + 1), .int .i64 0] 169)
        have hbW : bb < (w1.alloc (.cells #[.slice A L c, .int .i64 ((k : Int) + 1), .int .i64 0] 169)).heap.size := by simp; omega
        clear hcell hB1 O1
        generalize w1.alloc (.cells #[.slice A L c, .int .i64 ((k : Int) + 1), .int .i64 0] 169) = W2 at *
        generalize w1.heap.size = g6 at *
        have hwr : IntKind.i64.wrap (b.toNat : Int) = (b.toNat : Int) := IntWalk.i64_in _ (by omega)
        have SE : ∀ w', Only none_ W2 w' → (w'.cell? ⟨g6, 0, none⟩ = some (.slice A L c) ∧ w'.cell? ⟨g6, 1, none⟩ = some (.int .i64 ((k : Int) + 1)) ∧ w'.cell? ⟨g6, 2, none⟩ = some (.int .i64 0)) ∧ w'.cell? ⟨bb, bo, none⟩ = some (.int .u8 (b.toNat : Int)) := fun w' o => by
          obtain ⟨e0, e1, e2, _⟩ := cur_facts (B6.out.only o (fun h => h))
          exact ⟨⟨e0, e1, e2⟩, (o.cell hbW (fun h => h)).trans hc⟩
        have HSE := Lib.hid SE
        clear SE hc
        go_region_held3 (fun w' => (w'.cell? ⟨g6, 0, none⟩ = some (.slice A L c) ∧ w'.cell? ⟨g6, 1, none⟩ = some (.int .i64 ((k : Int) + 1)) ∧ w'.cell? ⟨g6, 2, none⟩ = some (.int .i64 0)) ∧ w'.cell? ⟨bb, bo, none⟩ = some (.int .u8 (b.toNat : Int)))
          (first | exact HSE.out _ ((Only.refl none_ W2).drew) | exact HSE.out _ (((Only.refl none_ W2).alloc _).drew) | exact HSE.out _ o5.out | exact HSE.out _ (o5.out.alloc _) | exact HSE.out _ (only_fill o5.out (.inr (Nat.le_refl _)) _ _ _))
          (first | (go_at_call 241; refine (HT2 _ (H.out.only (O2.out.trans (by first | exact (Only.refl none_ W2).drew | exact ((Only.refl none_ W2).alloc _).drew)) (fun _ _ h => h))).mono ?_; rintro e w5 ⟨A5, L5, c5, rfl, b5, o5'⟩
                    have o5 : Hid (Only none_ W2 w5) := (by first | exact ((Only.refl none_ W2).drew).trans o5' | exact ((Only.refl none_ W2).alloc _).drew.trans o5')
                    have B5 := Lib.hid b5
                    first
                      | (have K8 : Hid (Blk w5 W2.heap.size 169 #[.slice none 0 0, .int .i64 0, .int .i64 0]) := (show Blk (W2.alloc (.cells #[.slice none 0 0, .int .i64 0, .int .i64 0] 169)).drew W2.heap.size 169 _ from Blk.new W2 _ _).only o5' (fun h => h)
                         obtain ⟨z0, z1, z2, y0, y1, y2⟩ := cur_facts K8.out)
                      | skip
                    clear b5 o5'))
        · have E8 := Lib.hid (Blk.new w5 169 #[.slice A L c, .int .i64 ((k : Int) + 1 + (b.toNat : Int)), .int .i64 0])
          have O8 := Lib.hid (o5.out.alloc (.cells #[.slice A L c, .int .i64 ((k : Int) + 1 + (b.toNat : Int)), .int .i64 0] 169))
          have T8 := Lib.hid (B5.out.alloc (.cells #[.slice A L c, .int .i64 ((k : Int) + 1 + (b.toNat : Int)), .int .i64 0] 169))
          have hg8 : W2.heap.size ≤ w5.heap.size := o5.out.size
          generalize w5.alloc (.cells #[.slice A L c, .int .i64 ((k : Int) + 1 + (b.toNat : Int)), .int .i64 0] 169) = W8 at *
          generalize w5.heap.size = g8 at *
          clear o5 B5
          obtain ⟨x0, x1, x2, _, _, _⟩ := cur_facts E8.out
          obtain ⟨f0, f1, f2, g0, g1, g2⟩ := cur_facts (B4.out.only O8.out (fun h => h))
          have h48 : w.heap.size + 1 ≠ g8 := by have h7 := B6.out.lt; omega
          have TF : Hid (∀ a b c, Byt ((((W8.setCell ⟨w.heap.size + 1, 0, none⟩ a).setCell ⟨w.heap.size + 1, 1, none⟩ b).setCell ⟨w.heap.size + 1, 2, none⟩ c).drew) S (.slice A5 L5 c5) told) := fun a b c =>
            T8.out.only ((only_fill (Only.refl (one (w.heap.size + 1)) W8) (.inl (show one (w.heap.size + 1) (w.heap.size + 1) from rfl)) a b c).drew) (fun b hb h => by have := hS b hb; simp only [one] at h; omega)
          go_wp2_with fail
          go_region_held3 (fun w' => (w'.cell? ⟨g8, 0, none⟩ = some (.slice A L c) ∧ w'.cell? ⟨g8, 1, none⟩ = some (.int .i64 ((k : Int) + 1 + (b.toNat : Int))) ∧ w'.cell? ⟨g8, 2, none⟩ = some (.int .i64 0)) ∧ (convert 35 9 (.slice A5 L5 c5)).run Tryz.prog w' = .ok (.string ⟨told.toArray⟩) w')
            (first | exact ⟨⟨x0, x1, x2⟩, run_bytes_string _ S _ _ T8.out.drew⟩ | exact ⟨far_fill E8.out h48 _ _ _, run_bytes_string _ S _ _ (TF.out _ _ _)⟩)
            (first | fail)
          all_goals
            go_wp2
            refine bodyPost_ret (results_cell_tmp rfl _ _ (w.heap.size + 1) 169 _ _ rfl (Blk.drew (blk_fill (B4.out.only O8.out (fun h => h)) _ _ _)) Tryz.underlying169 rfl (by kernel_rfl) _ rfl) rfl ?_
            rw [HR.out]
            refine ⟨1 + b.toNat, ?_, by rw [drop_more, Nat.add_assoc], by omega, (only_fill (O2.out.trans O8.out) (.inr (by simp)) _ _ _).drew⟩
            rw [show ((k + (1 + b.toNat) : Nat) : Int) = (k : Int) + 1 + (b.toNat : Int) from by omega]
            rfl
        · have E8 := Lib.hid (blk_fill K8.out (.slice A L c) (.int .i64 ((k : Int) + 1 + (b.toNat : Int))) (.int .i64 0))
          have O8 := Lib.hid (only_fill o5.out (.inr (Nat.le_refl W2.heap.size)) (.slice A L c) (.int .i64 ((k : Int) + 1 + (b.toNat : Int))) (.int .i64 0))
          have T8 := Lib.hid (B5.out.only (only_fill (Only.refl (one W2.heap.size) w5) (.inl (show one W2.heap.size W2.heap.size from rfl)) (.slice A L c) (.int .i64 ((k : Int) + 1 + (b.toNat : Int))) (.int .i64 0)) (fun b hb h => by have := hS b hb; have := O2.out.size; simp only [one] at h; omega))
          have hg8 : W2.heap.size ≤ W2.heap.size := Nat.le_refl _
          clear K8 z0 z1 z2 y0 y1 y2 o5 B5
          generalize ((w5.setCell ⟨W2.heap.size, 0, none⟩ (.slice A L c)).setCell ⟨W2.heap.size, 1, none⟩ (.int .i64 ((k : Int) + 1 + (b.toNat : Int)))).setCell ⟨W2.heap.size, 2, none⟩ (.int .i64 0) = W8 at *
          obtain ⟨g8, hg⟩ : ∃ g8, g8 = W2.heap.size := ⟨_, rfl⟩
          rw [← hg] at E8 ⊢
          have HG := Lib.hid hg
          clear hg
          obtain ⟨x0, x1, x2, _, _, _⟩ := cur_facts E8.out
          obtain ⟨f0, f1, f2, g0, g1, g2⟩ := cur_facts (B4.out.only O8.out (fun h => h))
          have h48 : w.heap.size + 1 ≠ g8 := by have h7 := B6.out.lt; have h8 := HG.out; omega
          have TF : Hid (∀ a b c, Byt ((((W8.setCell ⟨w.heap.size + 1, 0, none⟩ a).setCell ⟨w.heap.size + 1, 1, none⟩ b).setCell ⟨w.heap.size + 1, 2, none⟩ c).drew) S (.slice A5 L5 c5) told) := fun a b c =>
            T8.out.only ((only_fill (Only.refl (one (w.heap.size + 1)) W8) (.inl (show one (w.heap.size + 1) (w.heap.size + 1) from rfl)) a b c).drew) (fun b hb h => by have := hS b hb; simp only [one] at h; omega)
          go_wp2_with fail
          go_region_held3 (fun w' => (w'.cell? ⟨g8, 0, none⟩ = some (.slice A L c) ∧ w'.cell? ⟨g8, 1, none⟩ = some (.int .i64 ((k : Int) + 1 + (b.toNat : Int))) ∧ w'.cell? ⟨g8, 2, none⟩ = some (.int .i64 0)) ∧ (convert 35 9 (.slice A5 L5 c5)).run Tryz.prog w' = .ok (.string ⟨told.toArray⟩) w')
            (first | exact ⟨⟨x0, x1, x2⟩, run_bytes_string _ S _ _ T8.out.drew⟩ | exact ⟨far_fill E8.out h48 _ _ _, run_bytes_string _ S _ _ (TF.out _ _ _)⟩)
            (first | fail)
          all_goals
            go_wp2
            refine bodyPost_ret (results_cell_tmp rfl _ _ (w.heap.size + 1) 169 _ _ rfl (Blk.drew (blk_fill (B4.out.only O8.out (fun h => h)) _ _ _)) Tryz.underlying169 rfl (by kernel_rfl) _ rfl) rfl ?_
            rw [HR.out]
            refine ⟨1 + b.toNat, ?_, by rw [drop_more, Nat.add_assoc], by omega, (only_fill (O2.out.trans O8.out) (.inr (by simp)) _ _ _).drew⟩
            rw [show ((k + (1 + b.toNat) : Nat) : Int) = (k : Int) + 1 + (b.toNat : Int) from by omega]
            rfl
end Go.Proofs.YtlieolehpmobfaaGreatDoor
end
section
namespace Go.Proofs.YtlieolehpmobfaaGreatDoor
open Go.RowKit
set_option maxRecDepth 100000
theorem rest_ok {bs r : List UInt8} {L k : Nat} (hL : L = bs.length) (h : r = bs.drop k) (hk : k ≤ L) : L - r.length = k ∧ r = bs.drop (L - r.length) ∧ r.length ≤ L := by
  have hl : r.length = L - k := by rw [h, List.length_drop, hL]
  have e : L - r.length = k := by omega
  exact ⟨e, by rw [e]; exact h, by omega⟩
def Rest (bs r : List UInt8) : Prop := r = bs.drop (bs.length - r.length) ∧ r.length ≤ bs.length
section
variable {A : Option Addr} {c : Nat} {bs r : List UInt8} {err : Int} {S : Nat → Prop} {w : World} (h : Byt w S (.slice A bs.length c) bs) (hS : ∀ b, S b → b < w.heap.size) (hr : Rest bs r) (hL : bs.length ≤ 100000)
include h hS hr hL
theorem rest_take (p : Nat) (hp : p = bs.length - r.length) (n : Int) (hn : n ≤ 9223372036854775807) :
    Calls Tryz.prog 183 #[.agg #[.slice A bs.length c, .int .i64 (p : Int), .int .i64 err], .int .i64 n] w fun E w' =>
      ∃ q : Nat, E = .returned (.tuple #[.agg #[.slice A bs.length c, .int .i64 (q : Int), .int .i64 (numR err r n).1], .int .u64 ((numR err r n).2.2 : Int)]) ∧ q = bs.length - (numR err r n).2.1.length ∧ Rest bs (numR err r n).2.1 ∧ Only none_ w w' := by
  subst hp
  have := ref_take A bs.length c bs (bs.length - r.length) err n S w h hS (by omega) hL hn
  rw [← hr.1] at this
  refine this.mono ?_
  rintro E w' ⟨d, rfl, hd, hk, o⟩
  obtain ⟨e1, e2, e3⟩ := rest_ok rfl hd hk
  exact ⟨_, rfl, e1.symm, ⟨e2, e3⟩, o⟩
theorem rest_text (p : Nat) (hp : p = bs.length - r.length) (most : Int) :
    Calls Tryz.prog 243 #[.agg #[.slice A bs.length c, .int .i64 (p : Int), .int .i64 err], .int .i64 most] w fun E w' =>
      ∃ q : Nat, E = .returned (.tuple #[.agg #[.slice A bs.length c, .int .i64 (q : Int), .int .i64 (textR err r most).1], .string ⟨(textR err r most).2.2.toArray⟩]) ∧ q = bs.length - (textR err r most).2.1.length ∧ Rest bs (textR err r most).2.1 ∧ Only none_ w w' := by
  subst hp
  have := ref_text A bs.length c bs (bs.length - r.length) err most S w h hS (by omega) hL
  rw [← hr.1] at this
  refine this.mono ?_
  rintro E w' ⟨d, rfl, hd, hk, o⟩
  obtain ⟨e1, e2, e3⟩ := rest_ok rfl hd hk
  exact ⟨_, rfl, e1.symm, ⟨e2, e3⟩, o⟩
theorem rest_flag (p : Nat) (hp : p = bs.length - r.length) :
    Calls Tryz.prog 184 #[.agg #[.slice A bs.length c, .int .i64 (p : Int), .int .i64 err]] w fun E w' =>
      ∃ q : Nat, E = .returned (.tuple #[.agg #[.slice A bs.length c, .int .i64 (q : Int), .int .i64 (flagR err r).1], .bool (flagR err r).2.2]) ∧ q = bs.length - (flagR err r).2.1.length ∧ Rest bs (flagR err r).2.1 ∧ Only none_ w w' := by
  subst hp
  have := ref_flag A bs.length c bs (bs.length - r.length) err S w h hS (by omega) hL
  rw [← hr.1] at this
  refine this.mono ?_
  rintro E w' ⟨d, rfl, hd, hk, o⟩
  obtain ⟨e1, e2, e3⟩ := rest_ok rfl hd hk
  exact ⟨_, rfl, e1.symm, ⟨e2, e3⟩, o⟩
end
def wd (j : Nat) : Nat := [4, 1, 4, 1, 2, 4].getD j 0
def curs (e : Int) (r : List UInt8) : Nat → Int × List UInt8
  | 0 => (e, r)
  | j + 1 => ((numR (curs e r j).1 (curs e r j).2 (wd j : Int)).1, (numR (curs e r j).1 (curs e r j).2 (wd j : Int)).2.1)
def vals (e : Int) (r : List UInt8) (j : Nat) : Nat := (numR (curs e r j).1 (curs e r j).2 (wd j : Int)).2.2
def nArr (f : Nat → Nat) (j : Nat) : Array Value := ((List.range 6).map fun i => if i < j then .int .u64 (f i : Int) else .int .u64 0).toArray
theorem nArr_set (f : Nat → Nat) (j : Nat) (hj : j < 6) : (nArr f j).setIfInBounds j (.int .u64 (f j : Int)) = nArr f (j + 1) := by
  apply Array.ext_getElem?
  intro i
  rw [Array.getElem?_setIfInBounds]
  simp only [nArr, List.size_toArray, List.length_map, List.length_range, List.getElem?_toArray, List.getElem?_map]
  by_cases hi : i < 6
  · rw [List.getElem?_range hi]
    by_cases hij : j = i
    · subst hij; simp [hj]
    · simp only [hij, if_false, Option.map_some]
      congr 1
      by_cases h1 : i < j
      · rw [if_pos h1, if_pos (by omega)]
      · rw [if_neg h1, if_neg (by omega)]
  · have hn : (List.range 6)[i]? = none := List.getElem?_eq_none (by simp; omega)
    rw [hn]
    split
    · next h => subst h; omega
    · rfl
theorem nArr_six (f : Nat → Nat) : nArr f 6 = #[.int .u64 (f 0 : Int), .int .u64 (f 1 : Int), .int .u64 (f 2 : Int), .int .u64 (f 3 : Int), .int .u64 (f 4 : Int), .int .u64 (f 5 : Int)] := rfl
theorem wd_cell {w : World} {g : Nat} {t : TypeId} (b : Blk w g t #[.int .i64 4, .int .i64 1, .int .i64 4, .int .i64 1, .int .i64 2, .int .i64 4]) (j : Nat) (hj : j < 6) : w.cell? ⟨g, j, none⟩ = some (.int .i64 (wd j : Int)) := by
  rw [b.cell]
  match j, hj with
  | 0, _ => rfl
  | 1, _ => rfl
  | 2, _ => rfl
  | 3, _ => rfl
  | 4, _ => rfl
  | 5, _ => rfl
theorem wd_small (j : Nat) : (wd j : Int) ≤ 9223372036854775807 := by
  by_cases h : j < 6
  · match j, h with
    | 0, _ => decide
    | 1, _ => decide
    | 2, _ => decide
    | 3, _ => decide
    | 4, _ => decide
    | 5, _ => decide
  · have : wd j = 0 := by unfold wd; rw [List.getD_eq_getElem?_getD, List.getElem?_eq_none (by simp; omega)]; rfl
    rw [this]; decide
theorem fields_curs (code : Int) (bs : List UInt8) (a1 : Int × List UInt8 × List UInt8) (a2 : Int × List UInt8 × Bool) (a3 : Int × List UInt8 × List UInt8) (h1 : textR code bs 16 = a1) (h2 : flagR a1.1 a1.2.1 = a2) (h3 : textR a2.1 a2.2.1 32 = a3) :
    (fieldsF code bs).en = ⟨⟨a1.2.2.toArray⟩, ⟨a3.2.2.toArray⟩, a2.2.2, ⟨vals a3.1 a3.2.1 0, vals a3.1 a3.2.1 1⟩, ⟨vals a3.1 a3.2.1 2, vals a3.1 a3.2.1 3⟩, vals a3.1 a3.2.1 4, vals a3.1 a3.2.1 5⟩ ∧
    (fieldsF code bs).a7.1 = (curs a3.1 a3.2.1 6).1 ∧ (fieldsF code bs).a7.2.1 = (curs a3.1 a3.2.1 6).2 := by
  subst h3 h2 h1
  exact ⟨rfl, rfl, rfl⟩
end Go.Proofs.YtlieolehpmobfaaGreatDoor
end
section
namespace Go.Proofs.YtlieolehpmobfaaGreatDoor
open Go.RowKit
set_option linter.all false
set_option maxRecDepth 100000
set_option linter.unusedSimpArgs false
set_option maxHeartbeats 6400000 in
theorem rf_check (e : En) (w : World) :
    Calls Tryz.prog 59 #[.agg #[.string e.k, .string e.v, .bool e.d, .int .i64 e.s.c, .int .i64 e.s.s, .int .i64 e.a.c, .int .i64 e.a.s, .int .i64 e.p, .int .i64 e.g]] w fun E w' => E = .returned (.int .i64 (enCheck e)) ∧ Only none_ w w' := by
  have O := Lib.hid ((Only.refl none_ w).alloc (.cells #[.string e.k, .string e.v, .bool e.d, .int .i64 e.s.c, .int .i64 e.s.s, .int .i64 e.a.c, .int .i64 e.a.s, .int .i64 e.p, .int .i64 e.g] 123))
  have B := Lib.hid (Blk.new w 123 #[.string e.k, .string e.v, .bool e.d, .int .i64 e.s.c, .int .i64 e.s.s, .int .i64 e.a.c, .int .i64 e.a.s, .int .i64 e.p, .int .i64 e.g])
  have heq := fun w => neq_of (eq_ref_stamp w e.a e.s 9998)
  obtain ⟨g1, hg1⟩ : ∃ b, stGood ⟨e.s.c, e.s.s⟩ = b := ⟨_, rfl⟩
  obtain ⟨g2, hg2⟩ : ∃ b, stGood ⟨e.a.c, e.a.s⟩ = b := ⟨_, rfl⟩
  obtain ⟨lt, hlt⟩ : ∃ b, stLater ⟨e.s.c, e.s.s⟩ ⟨e.a.c, e.a.s⟩ = b := ⟨_, rfl⟩
  obtain ⟨q, hq⟩ : ∃ b, stEq e.a e.s = b := ⟨_, rfl⟩
  rw [hq] at heq
  have HC : Hid (enCheck e = if (decide (e.k.size < 1) || decide (16 < e.k.size)) = true then 9 else if (decide (32 < e.v.size) || (e.d && decide (0 < e.v.size))) = true then 10 else if (!(g1 && g2) || lt) = true then 1 else
      if (!(if e.d = true then decide (1 ≤ e.p) && decide (e.p ≤ 4095) && decide (0 ≤ e.g) && decide (e.g ≤ 2147483647) else q && e.p == 0 && e.g == 0)) = true then 1 else 0) := by
    rw [Hid, ← hg1, ← hg2, ← hlt, ← hq]; rfl
  have G1 := Lib.hid hg1
  have G2 := Lib.hid hg2
  have L := Lib.hid hlt
  clear hg1 hg2 hlt hq
  have tok : True := trivial
  obtain ⟨k, v, d, s, a, p, g⟩ := e
  simp only at *
  cases d
  all_goals
   go_enter Tryz.func59, Tryz.ntmps59
   go_wp2_with (first
     | (go_at_call 111; have _t := tok; refine (rf_good _ _ _).mono ?_; rintro E w1 ⟨rfl, o1⟩; rw [G1.out]
        have O1 := Lib.hid (O.out.trans o1)
        have B1 := Lib.hid (B.out.only o1 (fun h => h))
        have c2 := B1.out.cell_ (i := 2) rfl
        have c3 := B1.out.cell_ (i := 3) rfl
        have c4 := B1.out.cell_ (i := 4) rfl
        have c5 := B1.out.cell_ (i := 5) rfl
        have c6 := B1.out.cell_ (i := 6) rfl
        have c7 := B1.out.cell_ (i := 7) rfl
        have c8 := B1.out.cell_ (i := 8) rfl
        clear o1 tok)
     | (go_at_call 111; refine (rf_good _ _ _).mono ?_; rintro E w2 ⟨rfl, o2⟩; rw [G2.out]
        have O2 := Lib.hid (O1.out.trans o2)
        have B2 := Lib.hid (B1.out.only o2 (fun h => h))
        have d2 := B2.out.cell_ (i := 2) rfl
        have d3 := B2.out.cell_ (i := 3) rfl
        have d4 := B2.out.cell_ (i := 4) rfl
        have d5 := B2.out.cell_ (i := 5) rfl
        have d6 := B2.out.cell_ (i := 6) rfl
        have d7 := B2.out.cell_ (i := 7) rfl
        have d8 := B2.out.cell_ (i := 8) rfl
        clear o2)
     | (go_at_call 112; refine (rf_later _ _ _ _ _).mono ?_; rintro E w3 ⟨rfl, o3⟩; rw [L.out]
        have O3 := Lib.hid (O2.out.trans o3)
        have B3 := Lib.hid (B2.out.only o3 (fun h => h))
        have e2 := B3.out.cell_ (i := 2) rfl
        have e3 := B3.out.cell_ (i := 3) rfl
        have e4 := B3.out.cell_ (i := 4) rfl
        have e5 := B3.out.cell_ (i := 5) rfl
        have e6 := B3.out.cell_ (i := 6) rfl
        have e7 := B3.out.cell_ (i := 7) rfl
        have e8 := B3.out.cell_ (i := 8) rfl
        clear o3))
   all_goals
     go_ret
     refine ⟨congrArg (fun z => Ending.returned (.int .i64 z)) (Eq.symm ?_), ?_⟩
     · rw [HC.out]
       clear HC heq O B G1 G2 L
       try clear c2 c3 c4 c5 c6 c7 c8 O1 B1
       try clear d2 d3 d4 d5 d6 d7 d8 O2 B2
       try clear e2 e3 e4 e5 e6 e7 e8 O3 B3
       simp only [Bool.or_eq_true, Bool.and_eq_true, Bool.not_eq_true', Bool.or_eq_false_iff, Bool.and_eq_false_iff, decide_eq_true_eq, decide_eq_false_iff_not, Bool.false_eq_true, if_true, if_false, beq_iff_eq, beq_eq_false_iff_ne, bne_iff_ne, ne_eq, Bool.not_eq_true, bne_eq_false_iff_eq, false_and, true_and, and_true, and_false, or_false, false_or, or_true, true_or, not_true_eq_false, not_false_eq_true] at *
       (repeat' split) <;> first | rfl | omega | (exfalso; simp_all; done) | (exfalso; simp_all; omega)
     · first
         | exact O3.out
         | exact O2.out
         | exact O1.out
         | exact O.out
end Go.Proofs.YtlieolehpmobfaaGreatDoor
end
