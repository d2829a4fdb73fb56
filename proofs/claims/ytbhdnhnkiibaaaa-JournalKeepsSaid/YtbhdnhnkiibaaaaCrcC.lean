/- What the calls of package crc's table do: its rows are made by its first call; Row, More, Of, Join. No statement of the seat is proved here. -/
import Derived.Test.YtbhdnhnkiibaaaaCrcB
import Derived.Test.YtbhdnhnkiibaaaaOnce
namespace Go.Proofs.Ytbhdnhnkiibaaaa
open Go.RowKit
attribute [local go_sem ↓] Go.wp_at_zero Go.wp_at_succ

/-- A table in a block of its own: new, or its rows made. -/
def Tab (tt : TypeId) (w : World) (g : Nat) : Prop := Blk w g tt (rowCells 0 0 0) ∨ Blk w g tt (rowCells 1 0 256)
/-- Its rows are made. -/
def TabD (tt : TypeId) (w : World) (g : Nat) : Prop := Blk w g tt (rowCells 1 0 256)
theorem TabD.tab {tt : TypeId} {w : World} {g : Nat} (h : TabD tt w g) : Tab tt w g := .inr h
theorem TabD.only {tt : TypeId} {S : Nat → Prop} {w w' : World} {g : Nat} (h : TabD tt w g) (ho : Only S w w') (hn : ¬ S g) : TabD tt w' g := Blk.only (t := tt) h ho hn
theorem Tab.only {tt : TypeId} {S : Nat → Prop} {w w' : World} {g : Nat} (h : Tab tt w g) (ho : Only S w w') (hn : ¬ S g) : Tab tt w' g := h.imp (fun h => h.only ho hn) (fun h => h.only ho hn)
theorem Tab.lt {tt : TypeId} {w : World} {g : Nat} (h : Tab tt w g) : g < w.heap.size := by rcases h with h | h <;> exact h.lt
theorem Tab.new (tt : TypeId) (w : World) : Tab tt (w.alloc (.cells tabZero tt)) w.heap.size := .inl (by rw [← rowCells_zero]; exact Blk.new w _ _)
theorem Tab.head {tt : TypeId} {w : World} {g : Nat} (h : Tab tt w g) (j : Nat) (A : Option Addr) (n c : Nat) : w.cell? ⟨g, j, none⟩ ≠ some (.slice A n c) := by
  rcases h with h | h
  · rw [h.cell]; exact rowCells_head _ _ _ _ _ _ _
  · rw [h.cell]; exact rowCells_head _ _ _ _ _ _ _

theorem once_any {tt : TypeId} (g : Nat) (w : World) (h : Tab tt w g) :
    Calls Try.prog 115 #[.pointer (some ⟨g, 0, none⟩), .func (.func 116) #[.pointer (some ⟨g, 0, none⟩)] #[]] w fun e w' => e = .returned (.tuple #[]) ∧ TabD tt w' g ∧ Only (one g) w w' := by
  have c0 : ∀ d m k, (rowCells d m k)[0]? = some (.int .u32 d) := fun d m k => by rw [rowCells, Array.getElem?_append_left (by simp)]; rfl
  have c1 : ∀ d m k, (rowCells d m k)[1]? = some (.int .i32 m) := fun d m k => by rw [rowCells, Array.getElem?_append_left (by simp)]; rfl
  rcases h with h | h
  · have hb : Blk (w.setCell ⟨g, 0 + 1, none⟩ (.int .i32 1)) g tt (rowCells 0 1 0) := by
      have := h.set_ 1 (.int .i32 1)
      rw [rowCells_lock] at this
      exact this
    have ho : Only (one g) w (w.setCell ⟨g, 0 + 1, none⟩ (.int .i32 1)) := (Only.refl _ _).setCell (.inl (show one g g from rfl)) _
    refine (do_first g 0 (.pointer (some ⟨g, 0, none⟩)) (fun w2 => Blk w2 g tt (rowCells 0 1 256) ∧ Only (one g) w w2) w (h.cell_ (c0 _ _ _)) (h.cell_ (c1 _ _ _)) (h.frozen _)
      ((makeRows_any g 0 1 _ hb).mono fun e w2 ⟨h1, h2, h3⟩ => ⟨h1, ⟨_, h2.cell_ (c0 _ _ _)⟩, h2.frozen _, h2.cell_ (c1 _ _ _), h2.frozen _, h2, ho.trans h3⟩)).mono ?_
    rintro e w' ⟨rfl, w2, ⟨h2, o2⟩, rfl⟩
    refine ⟨rfl, ?_, (o2.drew.setCell (.inl (show one g g from rfl)) _).setCell (.inl (show one g g from rfl)) _⟩
    have := (h2.drew.set_ 0 (.int .u32 1)).set_ 1 (.int .i32 0)
    rw [rowCells_done, rowCells_lock] at this
    exact this
  · refine (do_done g 0 1 rfl _ w (h.cell_ (c0 _ _ _))).mono ?_
    rintro e w' ⟨rfl, rfl⟩
    exact ⟨rfl, h, Only.refl _ _⟩
theorem made_any {tt : TypeId} (g : Nat) (w : World) (h : Tab tt w g) :
    Calls Try.prog 114 #[.pointer (some ⟨g, 0, none⟩)] w fun e w' => e = .returned (.pointer (some ⟨g, 3, none⟩)) ∧ TabD tt w' g ∧ Only (one g) w w' := by
  have hd : ∃ cs, Blk w g tt cs ∧ ∃ u, cs[0]? = some u := by
    have c0 : ∀ d m k, ∃ u, (rowCells d m k)[0]? = some u := fun d m k => ⟨_, by rw [rowCells, Array.getElem?_append_left (by simp)]; rfl⟩
    rcases h with h | h
    · exact ⟨_, h, c0 _ _ _⟩
    · exact ⟨_, h, c0 _ _ _⟩
  obtain ⟨cs, hB, u, hu⟩ := hd
  have hc := hB.cell_ hu
  have HT := once_any g w h
  clear hB hu h
  go_enter Try.func114, Try.ntmps114
  go_wp2_with (go_at_call 115; refine HT.mono ?_; rintro e w1 ⟨rfl, t1, o1⟩
               have hc1 : ∃ u, w1.cell? ⟨g, 0, none⟩ = some u := ⟨_, Blk.cell_ (t := tt) t1 (show (rowCells 1 0 256)[0]? = some (.int .u32 1) by rw [rowCells, Array.getElem?_append_left (by simp)]; rfl)⟩
               obtain ⟨u1, hc1⟩ := hc1)
  go_ret
  exact ⟨rfl, t1, o1⟩

end Go.Proofs.Ytbhdnhnkiibaaaa
