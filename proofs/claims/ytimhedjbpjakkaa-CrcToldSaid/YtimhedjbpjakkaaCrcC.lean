/- What the calls of package crc's table do: its rows are made by its first call; Row, More, Of, Join. No statement of the seat is proved here. -/
import Derived.Test.YtimhedjbpjakkaaCrcB
import Derived.Test.YtimhedjbpjakkaaOnce
namespace Go.Proofs.Ytimhedjbpjakkaa
open Go.RowKit
attribute [local go_sem ↓] Go.wp_at_zero Go.wp_at_succ

/-- A table in a block of its own: new, or its rows made. -/
def Tab (w : World) (g : Nat) : Prop := Blk w g 38 (rowCells 0 0 0) ∨ Blk w g 38 (rowCells 1 0 256)
/-- Its rows are made. -/
def TabD (w : World) (g : Nat) : Prop := Blk w g 38 (rowCells 1 0 256)
theorem TabD.tab {w : World} {g : Nat} (h : TabD w g) : Tab w g := .inr h
theorem TabD.only {S : Nat → Prop} {w w' : World} {g : Nat} (h : TabD w g) (ho : Only S w w') (hn : ¬ S g) : TabD w' g := Blk.only (t := 38) h ho hn
theorem Tab.only {S : Nat → Prop} {w w' : World} {g : Nat} (h : Tab w g) (ho : Only S w w') (hn : ¬ S g) : Tab w' g := h.imp (fun h => h.only ho hn) (fun h => h.only ho hn)
theorem Tab.lt {w : World} {g : Nat} (h : Tab w g) : g < w.heap.size := by rcases h with h | h <;> exact h.lt
theorem Tab.new (w : World) : Tab (w.alloc (.cells tabZero 38)) w.heap.size := .inl (by rw [← rowCells_zero]; exact Blk.new w _ _)
theorem Tab.head {w : World} {g : Nat} (h : Tab w g) (j : Nat) (A : Option Addr) (n c : Nat) : w.cell? ⟨g, j, none⟩ ≠ some (.slice A n c) := by
  rcases h with h | h
  · rw [h.cell]; exact rowCells_head _ _ _ _ _ _ _
  · rw [h.cell]; exact rowCells_head _ _ _ _ _ _ _

theorem once_any (g : Nat) (w : World) (h : Tab w g) :
    Calls Try.prog 29 #[.pointer (some ⟨g, 0, none⟩), .func (.func 30) #[.pointer (some ⟨g, 0, none⟩)] #[]] w fun e w' => e = .returned (.tuple #[]) ∧ TabD w' g ∧ Only (one g) w w' := by
  have c0 : ∀ d m k, (rowCells d m k)[0]? = some (.int .u32 d) := fun d m k => by rw [rowCells, Array.getElem?_append_left (by simp)]; rfl
  have c1 : ∀ d m k, (rowCells d m k)[1]? = some (.int .i32 m) := fun d m k => by rw [rowCells, Array.getElem?_append_left (by simp)]; rfl
  rcases h with h | h
  · have hb : Blk (w.setCell ⟨g, 0 + 1, none⟩ (.int .i32 1)) g 38 (rowCells 0 1 0) := by
      have := h.set_ 1 (.int .i32 1)
      rw [rowCells_lock] at this
      exact this
    have ho : Only (one g) w (w.setCell ⟨g, 0 + 1, none⟩ (.int .i32 1)) := (Only.refl _ _).setCell (.inl (show one g g from rfl)) _
    refine (do_first g 0 (.pointer (some ⟨g, 0, none⟩)) (fun w2 => Blk w2 g 38 (rowCells 0 1 256) ∧ Only (one g) w w2) w (h.cell_ (c0 _ _ _)) (h.cell_ (c1 _ _ _)) (h.frozen _)
      ((makeRows_any g 0 1 _ hb).mono fun e w2 ⟨h1, h2, h3⟩ => ⟨h1, ⟨_, h2.cell_ (c0 _ _ _)⟩, h2.frozen _, h2.cell_ (c1 _ _ _), h2.frozen _, h2, ho.trans h3⟩)).mono ?_
    rintro e w' ⟨rfl, w2, ⟨h2, o2⟩, rfl⟩
    refine ⟨rfl, ?_, (o2.drew.setCell (.inl (show one g g from rfl)) _).setCell (.inl (show one g g from rfl)) _⟩
    have := (h2.drew.set_ 0 (.int .u32 1)).set_ 1 (.int .i32 0)
    rw [rowCells_done, rowCells_lock] at this
    exact this
  · refine (do_done g 0 1 rfl _ w (h.cell_ (c0 _ _ _))).mono ?_
    rintro e w' ⟨rfl, rfl⟩
    exact ⟨rfl, h, Only.refl _ _⟩
theorem made_any (g : Nat) (w : World) (h : Tab w g) :
    Calls Try.prog 22 #[.pointer (some ⟨g, 0, none⟩)] w fun e w' => e = .returned (.pointer (some ⟨g, 3, none⟩)) ∧ TabD w' g ∧ Only (one g) w w' := by
  have hd : ∃ cs, Blk w g 38 cs ∧ ∃ u, cs[0]? = some u := by
    have c0 : ∀ d m k, ∃ u, (rowCells d m k)[0]? = some u := fun d m k => ⟨_, by rw [rowCells, Array.getElem?_append_left (by simp)]; rfl⟩
    rcases h with h | h
    · exact ⟨_, h, c0 _ _ _⟩
    · exact ⟨_, h, c0 _ _ _⟩
  obtain ⟨cs, hB, u, hu⟩ := hd
  have hc := hB.cell_ hu
  have HT := once_any g w h
  clear hB hu h
  go_enter Try.func22, Try.ntmps22
  go_wp2_with (go_at_call 29; refine HT.mono ?_; rintro e w1 ⟨rfl, t1, o1⟩
               have hc1 : ∃ u, w1.cell? ⟨g, 0, none⟩ = some u := ⟨_, Blk.cell_ (t := 38) t1 (show (rowCells 1 0 256)[0]? = some (.int .u32 1) by rw [rowCells, Array.getElem?_append_left (by simp)]; rfl)⟩
               obtain ⟨u1, hc1⟩ := hc1)
  go_ret
  exact ⟨rfl, t1, o1⟩

theorem tab_row (g : Nat) (i : Int) (w : World) (h : Tab w g) :
    Calls Try.prog 10 #[.pointer (some ⟨g, 0, none⟩), .int .i64 i] w fun e w' => e = .returned (.int .u32 (crcRow i : Nat)) ∧ Tab w' g ∧ Only (one g) w w' := by
  by_cases h0 : i < 0
  · have HR : Hid (crcRow i = 0) := by rw [Hid, crcRow, if_neg (by omega)]
    have hd0 : decide (i < 0) = true := by simp [h0]
    go_enter Try.func10, Try.ntmps10
    go_wp2
    go_ret
    rw [HR.out]
    exact ⟨rfl, h, Only.refl _ _⟩
  · have hd0 : decide (i < 0) = false := by simp [h0]
    by_cases h1 : 256 ≤ i
    · have HR : Hid (crcRow i = 0) := by rw [Hid, crcRow, if_neg (by omega)]
      have hd1 : decide (256 ≤ i) = true := by simp [h1]
      go_enter Try.func10, Try.ntmps10
      go_wp2
      go_ret
      rw [HR.out]
      exact ⟨rfl, h, Only.refl _ _⟩
    · have hd1 : decide (256 ≤ i) = false := by simp [h1]
      obtain ⟨n, rfl⟩ : ∃ n : Nat, i = n := ⟨i.toNat, by omega⟩
      have HR : Hid (crcRow (n : Int) = cstN 8 n) := by rw [Hid, crcRow, if_pos (by omega)]; rfl
      have hn : n < 256 := by omega
      have HM := made_any g w h
      clear h0 h1 h
      go_enter Try.func10, Try.ntmps10
      go_wp2_with (go_at_call 22; refine HM.mono ?_; rintro e w1 ⟨rfl, t1, o1⟩
                   have hc0 := Blk.cell_ (t := 38) t1 (rowCells_row 1 0 256 0 (by omega))
                   have hc1 := Blk.cell_ (t := 38) t1 (rowCells_row 1 0 256 n hn)
                   rw [if_pos (by omega)] at hc0 hc1)
      go_ret
      rw [HR.out]
      exact ⟨rfl, t1.tab, o1⟩
end Go.Proofs.Ytimhedjbpjakkaa
