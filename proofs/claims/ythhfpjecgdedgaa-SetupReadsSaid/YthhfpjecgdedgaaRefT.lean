/- What the document's own calls on a cursor give: fail, Raw, Value, Take, Flag, Text, Done. No statement of the seat is proved here. -/
import Derived.Test.YthhfpjecgdedgaaOctX
import Derived.Test.YthhfpjecgdedgaaRes
import Derived.Deep.RegionHeld3
import Derived.Deep.DrawnRows
namespace Go.Proofs.Ythhfpjecgdedgaa
open Go.RowKit
set_option maxRecDepth 100000
attribute [local go_sem ↓] Go.wp_at_zero Go.wp_at_succ

set_option maxHeartbeats 400000 in
theorem ref_fail (A : Option Addr) (L c : Nat) (at_ err e : Int) (w : World) :
    Calls Try.prog 54 #[.agg #[.slice A L c, .int .i64 at_, .int .i64 err], .int .i64 e] w fun E w' =>
      E = .returned (.agg #[.slice A L c, .int .i64 at_, .int .i64 (first_ err e)]) ∧ Only none_ w w' := by
  by_cases h : err = 0
  · have hb : (err == 0) = true := by simp [h]
    have hf : Hid (first_ err e = e) := by simp [Hid, first_, h]
    clear h
    go_enter Try.func54, Try.ntmps54
    go_wp2
    rw [hf.out]
    exact bodyPost_ret (v := .agg #[.slice A L c, .int .i64 at_, .int .i64 e]) (by simp [results, Try.results54, go_sem]) rfl ⟨rfl, ((Only.refl none_ w).alloc _).alloc _⟩
  · have hb : (err == 0) = false := by simp [h]
    have hf : Hid (first_ err e = err) := by simp [Hid, first_, h]
    clear h
    go_enter Try.func54, Try.ntmps54
    go_wp2
    rw [hf.out]
    exact bodyPost_ret (v := .agg #[.slice A L c, .int .i64 at_, .int .i64 err]) (by simp [results, Try.results54, go_sem]) rfl ⟨rfl, ((Only.refl none_ w).alloc _).alloc _⟩

/-- A cursor in a block: its cells. -/
theorem cur_facts {w : World} {g : Nat} {t : TypeId} {x y z : Value} (h : Blk w g t #[x, y, z]) :
    w.cell? ⟨g, 0, none⟩ = some x ∧ w.cell? ⟨g, 1, none⟩ = some y ∧ w.cell? ⟨g, 2, none⟩ = some z ∧ w.frozen? ⟨g, 0, none⟩ = false ∧ w.frozen? ⟨g, 1, none⟩ = false ∧ w.frozen? ⟨g, 2, none⟩ = false :=
  ⟨h.cell_ (i := 0) rfl, h.cell_ (i := 1) rfl, h.cell_ (i := 2) rfl, h.frozen 0, h.frozen 1, h.frozen 2⟩
theorem blk_two (w : World) (t : TypeId) (x y : Array Value) : Blk ((w.alloc (.cells x t)).alloc (.cells y t)) (w.heap.size + 1) t y ∧ Blk ((w.alloc (.cells x t)).alloc (.cells y t)) w.heap.size t x :=
  ⟨by have := Blk.new (w.alloc (.cells x t)) t y; simpa using this, (Blk.new w t x).alloc _⟩

/-- Three stores fill a block of three cells. -/
theorem blk_fill {w : World} {g : Nat} {t : TypeId} {x y z : Value} (h : Blk w g t #[x, y, z]) (a b c : Value) : Blk (((w.setCell ⟨g, 0, none⟩ a).setCell ⟨g, 1, none⟩ b).setCell ⟨g, 2, none⟩ c) g t #[a, b, c] := by
  have := ((h.set_ 0 a).set_ 1 b).set_ 2 c
  simpa using this
theorem far_fill {w : World} {g h : Nat} {t : TypeId} {x y z : Value} (hb : Blk w g t #[x, y, z]) (hn : h ≠ g) (a b c : Value) :
    (((w.setCell ⟨h, 0, none⟩ a).setCell ⟨h, 1, none⟩ b).setCell ⟨h, 2, none⟩ c).drew.cell? ⟨g, 0, none⟩ = some x ∧
    (((w.setCell ⟨h, 0, none⟩ a).setCell ⟨h, 1, none⟩ b).setCell ⟨h, 2, none⟩ c).drew.cell? ⟨g, 1, none⟩ = some y ∧
    (((w.setCell ⟨h, 0, none⟩ a).setCell ⟨h, 1, none⟩ b).setCell ⟨h, 2, none⟩ c).drew.cell? ⟨g, 2, none⟩ = some z := by
  have h3 := ((hb.far (p := ⟨h, 0, none⟩) (fun e => hn e.symm) a).far (p := ⟨h, 1, none⟩) (fun e => hn e.symm) b).far (p := ⟨h, 2, none⟩) (fun e => hn e.symm) c
  obtain ⟨h0, h1, h2, _⟩ := cur_facts h3
  exact ⟨h0, h1, h2⟩
theorem far_cell {w : World} {h : Nat} {p : Addr} {v : Value} (hc : w.cell? p = some v) (hn : p.block ≠ h) (a b c : Value) :
    (((w.setCell ⟨h, 0, none⟩ a).setCell ⟨h, 1, none⟩ b).setCell ⟨h, 2, none⟩ c).drew.cell? p = some v := by
  have hne : ∀ i, (⟨h, i, none⟩ : Addr) ≠ p := fun i e => hn (by rw [← e])
  rw [World.cell?_drew, World.cell?_setCell_other _ _ _ _ (hne 2), World.cell?_setCell_other _ _ _ _ (hne 1), World.cell?_setCell_other _ _ _ _ (hne 0)]
  exact hc
theorem only_fill {w : World} {g : Nat} {S : Nat → Prop} {a : World} (h : Only S a w) (hg : S g ∨ a.heap.size ≤ g) (x y z : Value) : Only S a (((w.setCell ⟨g, 0, none⟩ x).setCell ⟨g, 1, none⟩ y).setCell ⟨g, 2, none⟩ z) :=
  ((h.setCell (p := ⟨g, 0, none⟩) hg x).setCell (p := ⟨g, 1, none⟩) hg y).setCell (p := ⟨g, 2, none⟩) hg z

set_option maxHeartbeats 800000 in
theorem ref_raw (A : Option Addr) (L c : Nat) (bs : List UInt8) (k : Nat) (err n : Int) (S : Nat → Prop) (w : World) (h : Byt w S (.slice A L c) bs) (hk : k ≤ L) (hL : L ≤ 100000) (hn : n ≤ 9223372036854775807) :
    Calls Try.prog 55 #[.agg #[.slice A L c, .int .i64 (k : Int), .int .i64 err], .int .i64 n] w fun E w' =>
      ∃ A1 L1 c1, E = .returned (.tuple #[.agg #[.slice A L c, .int .i64 ((k + (rawR err (bs.drop k) n).2.2.length : Nat) : Int), .int .i64 (rawR err (bs.drop k) n).1], .slice A1 L1 c1]) ∧
        Byt w' S (.slice A1 L1 c1) (rawR err (bs.drop k) n).2.2 ∧ Only none_ w w' := by
  have hLb : L = bs.length := by obtain ⟨_, _, he, _⟩ := h; injection he
  have H := Lib.hid h
  by_cases h0 : n < 0
  · have HR : Hid (rawR err (bs.drop k) n = (first_ err 1, bs.drop k, [])) := by simp only [Hid, rawR, if_pos h0]
    have HB : ∀ w', Hid (Byt w' S (.slice none 0 0) []) := fun w' => Byt.nil w' S
    clear h hLb
    go_enter Try.func55, Try.ntmps55
    have hB1 := (blk_two w 79 #[.slice A L c, .int .i64 (k : Int), .int .i64 err] #[.slice none 0 0, .int .i64 0, .int .i64 0]).1
    go_wp2_with (go_at_call 54; refine (ref_fail _ _ _ _ _ _ _).mono ?_; rintro e w1 ⟨rfl, o1⟩; obtain ⟨f0, f1, f2, g0, g1, g2⟩ := cur_facts (hB1.only o1 (fun h => h)))
    refine bodyPost_ret (results_cell_tmp rfl _ _ (w.heap.size + 1) 79 _ _ rfl (blk_fill (hB1.only o1 (fun h => h)) _ _ _) Try.underlying79 rfl (by kernel_rfl) _ rfl) rfl ?_
    rw [HR.out]
    exact ⟨none, 0, 0, rfl, Byt.nil _ _, only_fill ((((Only.refl none_ w).alloc _).alloc _).trans o1) (.inr (by simp)) _ _ _⟩
  · obtain ⟨m, rfl⟩ : ∃ m : Nat, n = m := ⟨n.toNat, by omega⟩
    by_cases h1 : L - k < m
    · have hlen : (bs.drop k).length < m := by simp; omega
      have HR : Hid (rawR err (bs.drop k) (m : Int) = (first_ err 6, bs.drop k, [])) := by
        have h2 : ¬ ((m : Int) < 0) := by omega
        have h3 : ¬ (err = 0 ∧ m ≤ (bs.drop k).length) := fun h => by omega
        simp only [Hid, rawR, h2, if_false, Int.toNat_natCast, h3, takeCode, if_pos hlen]
      clear h hLb hlen
      have hB1 := (blk_two w 79 #[.slice A L c, .int .i64 (k : Int), .int .i64 err] #[.slice none 0 0, .int .i64 0, .int .i64 0]).1
      go_enter Try.func55, Try.ntmps55
      go_wp2_with (go_at_call 54; refine (ref_fail _ _ _ _ _ _ _).mono ?_; rintro e w1 ⟨rfl, o1⟩; obtain ⟨f0, f1, f2, g0, g1, g2⟩ := cur_facts (hB1.only o1 (fun h => h)))
      refine bodyPost_ret (results_cell_tmp rfl _ _ (w.heap.size + 1) 79 _ _ rfl (blk_fill (hB1.only o1 (fun h => h)) _ _ _) Try.underlying79 rfl (by kernel_rfl) _ rfl) rfl ?_
      rw [HR.out]
      exact ⟨none, 0, 0, rfl, Byt.nil _ _, only_fill ((((Only.refl none_ w).alloc _).alloc _).trans o1) (.inr (by simp)) _ _ _⟩
    · by_cases he : err = 0
      · have HR : Hid (rawR err (bs.drop k) (m : Int) = (0, (bs.drop k).drop m, (bs.drop k).take m)) := by
          have h2 : ¬ ((m : Int) < 0) := by omega
          have h3 : err = 0 ∧ m ≤ (bs.drop k).length := ⟨he, by simp; omega⟩
          simp only [Hid, rawR, h2, if_false, Int.toNat_natCast, h3, and_self, if_true]
        have hT : Hid (k + ((bs.drop k).take m).length = k + m) := by simp only [Hid, List.length_take, List.length_drop]; omega
        subst he
        obtain ⟨i0, hi0, _, hz1, _⟩ := info_parts u8_info
        obtain ⟨A1, L1, c1, r1, b1⟩ := byt_mid Try.underlying48 hi0 hz1 h k (k + m) (by omega) (by omega) (k : Int) ((k : Int) + (m : Int)) rfl (by omega)
        have B1 : Hid (Byt w S (.slice A1 L1 c1) ((bs.drop k).take m)) := by rw [show k + m - k = m from by omega] at b1; exact b1
        clear h hLb hi0 hz1 b1
        go_enter Try.func55, Try.ntmps55
        go_wp2
        refine bodyPost_ret (results_cell_tmp rfl _ _ (w.heap.size + 1) 79 _ _ rfl (blk_two _ _ _ _).1 Try.underlying79 rfl (by kernel_rfl) _ rfl) rfl ?_
        rw [HR.out]
        have hm' : (((bs.drop k).take m).length : Int) = m := by have := hT.out; omega
        exact ⟨A1, L1, c1, by simp only [hm']; rfl, B1.out.only (((Only.refl none_ w).alloc _).alloc _) (fun _ _ h => h), ((Only.refl none_ w).alloc _).alloc _⟩
      · have HR : Hid (rawR err (bs.drop k) (m : Int) = (err, bs.drop k, [])) := rawR_stop he _ _
        have hb : (err != 0) = true := by simp [he]
        clear h hLb he
        go_enter Try.func55, Try.ntmps55
        go_wp2
        refine bodyPost_ret (results_cell_tmp rfl _ _ (w.heap.size + 1) 79 _ _ rfl (blk_two _ _ _ _).1 Try.underlying79 rfl (by kernel_rfl) _ rfl) rfl ?_
        rw [HR.out]
        exact ⟨none, 0, 0, by simp, Byt.nil _ _, ((Only.refl none_ w).alloc _).alloc _⟩
end Go.Proofs.Ythhfpjecgdedgaa
