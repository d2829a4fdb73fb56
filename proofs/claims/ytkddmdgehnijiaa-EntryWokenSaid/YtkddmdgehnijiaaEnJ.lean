/- What the document's Wake does. No statement of the seat is proved here. -/
import Derived.Test.YtkddmdgehnijiaaEnD
import Derived.Test.YtkddmdgehnijiaaEnI
namespace Go.Proofs.Ytkddmdgehnijiaa
open Go.RowKit
set_option maxRecDepth 100000

set_option maxHeartbeats 6400000 in
theorem rf_wake (e : En) (a : St) (w : World) :
    Calls Try.prog 30 #[.agg #[.string e.k, .string e.v, .bool e.d, .int .i64 e.s.c, .int .i64 e.s.s, .int .i64 e.a.c, .int .i64 e.a.s, .int .i64 e.p, .int .i64 e.g], .agg #[.int .i64 a.c, .int .i64 a.s]] w fun E w' => E = .returned (.tuple #[.agg #[.string (enWake e a).1.k, .string (enWake e a).1.v, .bool (enWake e a).1.d, .int .i64 (enWake e a).1.s.c, .int .i64 (enWake e a).1.s.s, .int .i64 (enWake e a).1.a.c, .int .i64 (enWake e a).1.a.s, .int .i64 (enWake e a).1.p, .int .i64 (enWake e a).1.g], .int .i64 (enWake e a).2]) ∧ Only none_ w w' := by
  have O := Lib.hid ((((Only.refl none_ w).alloc (.cells #[.string e.k, .string e.v, .bool e.d, .int .i64 e.s.c, .int .i64 e.s.s, .int .i64 e.a.c, .int .i64 e.a.s, .int .i64 e.p, .int .i64 e.g] 25)).alloc (.cells #[.int .i64 a.c, .int .i64 a.s] 23)).alloc (.cells #[.string enZero.k, .string enZero.v, .bool enZero.d, .int .i64 enZero.s.c, .int .i64 enZero.s.s, .int .i64 enZero.a.c, .int .i64 enZero.a.s, .int .i64 enZero.p, .int .i64 enZero.g] 25))
  have BX := Lib.hid (((Blk.new w 25 #[.string e.k, .string e.v, .bool e.d, .int .i64 e.s.c, .int .i64 e.s.s, .int .i64 e.a.c, .int .i64 e.a.s, .int .i64 e.p, .int .i64 e.g]).alloc (.cells #[.int .i64 a.c, .int .i64 a.s] 23)).alloc (.cells #[.string enZero.k, .string enZero.v, .bool enZero.d, .int .i64 enZero.s.c, .int .i64 enZero.s.s, .int .i64 enZero.a.c, .int .i64 enZero.a.s, .int .i64 enZero.p, .int .i64 enZero.g] 25))
  have BY := Lib.hid ((blk_more (w := w) (t := 25) (u := 23) #[.string e.k, .string e.v, .bool e.d, .int .i64 e.s.c, .int .i64 e.s.s, .int .i64 e.a.c, .int .i64 e.a.s, .int .i64 e.p, .int .i64 e.g] #[.int .i64 a.c, .int .i64 a.s]).alloc (.cells #[.string enZero.k, .string enZero.v, .bool enZero.d, .int .i64 enZero.s.c, .int .i64 enZero.s.s, .int .i64 enZero.a.c, .int .i64 enZero.a.s, .int .i64 enZero.p, .int .i64 enZero.g] 25))
  have BZ := Blk.new ((w.alloc (.cells #[.string e.k, .string e.v, .bool e.d, .int .i64 e.s.c, .int .i64 e.s.s, .int .i64 e.a.c, .int .i64 e.a.s, .int .i64 e.p, .int .i64 e.g] 25)).alloc (.cells #[.int .i64 a.c, .int .i64 a.s] 23)) 25 #[.string enZero.k, .string enZero.v, .bool enZero.d, .int .i64 enZero.s.c, .int .i64 enZero.s.s, .int .i64 enZero.a.c, .int .i64 enZero.a.s, .int .i64 enZero.p, .int .i64 enZero.g]
  simp only [World.size_alloc] at BZ
  have BZ := Lib.hid BZ
  simp only [enZero, stZero] at O BX BY BZ
  obtain ⟨z, hz⟩ : ∃ z, enCheck e = z := ⟨_, rfl⟩
  obtain ⟨gb, hg⟩ : ∃ b, stGood ⟨a.c, a.s⟩ = b := ⟨_, rfl⟩
  obtain ⟨lt, hl⟩ : ∃ b, stLater ⟨a.c, a.s⟩ ⟨e.a.c, e.a.s⟩ = b := ⟨_, rfl⟩
  obtain ⟨r, hr⟩ : ∃ b, stCmp ⟨a.c, a.s⟩ ⟨e.a.c, e.a.s⟩ = b := ⟨_, rfl⟩
  have ways := wake_ways e a z gb lt r hz hg hl hr
  have HZ0 := fun w => rf_check e w
  rw [hz] at HZ0
  have HZ := Lib.hid HZ0
  have HG := Lib.hid hg
  have HL := Lib.hid hl
  have HR := Lib.hid hr
  clear hz hg hl hr HZ0
  obtain ⟨x, hx⟩ : ∃ x, enWake e a = x := ⟨_, rfl⟩
  rw [hx] at ways ⊢
  clear hx
  obtain ⟨k, v, d, s, b, p, g⟩ := e
  simp only at *
  rcases ways with ⟨h0, rfl⟩ | ⟨h0, rfl, rfl⟩ | ⟨h0, rfl, rfl, rfl⟩ | ⟨h0, rfl, rfl, rfl, h4, rfl⟩ | ⟨h0, rfl, rfl, rfl, h4, rfl⟩
  all_goals
    go_enter Try.func30, Try.ntmps30
    go_wp2_with (first
      | (go_at_call 12; refine (HZ.out _).mono ?_; rintro E w1 ⟨rfl, o1⟩
         have O1 := Lib.hid (O.out.trans o1)
         have X1 := Lib.hid (BX.out.only o1 (fun h => h))
         have Y1 := Lib.hid (BY.out.only o1 (fun h => h))
         have Z1 := Lib.hid (BZ.out.only o1 (fun h => h))
         have x1 := nine_of X1.out
         have y1 := two_of Y1.out
         have z1 := nine_of Z1.out
         have f1 := frozen9 Z1.out
         clear o1)
      | (go_at_call 42; refine (rf_good _ _ _).mono ?_; rintro E w2 ⟨rfl, o2⟩; rw [HG.out]
         have O2 := Lib.hid (O1.out.trans o2)
         have X2 := Lib.hid (X1.out.only o2 (fun h => h))
         have Y2 := Lib.hid (Y1.out.only o2 (fun h => h))
         have Z2 := Lib.hid (Z1.out.only o2 (fun h => h))
         have x2 := nine_of X2.out
         have y2 := two_of Y2.out
         have z2 := nine_of Z2.out
         have f2 := frozen9 Z2.out
         clear o2)
      | (go_at_call 41; refine (rf_later _ _ _ _ _).mono ?_; rintro E w3 ⟨rfl, o3⟩; rw [HL.out]
         have O3 := Lib.hid (O2.out.trans o3)
         have X3 := Lib.hid (X2.out.only o3 (fun h => h))
         have Z3 := Lib.hid (Z2.out.only o3 (fun h => h))
         have y3 := two_of (Y2.out.only o3 (fun h => h))
         have x3 := nine_of X3.out
         have z3 := nine_of Z3.out
         have f3 := frozen9 Z3.out
         have u3 := frozen9 X3.out
         clear o3))
  · exact bodyPost_ret (results_cell_tmp rfl _ _ (w.heap.size + 1 + 1) 25 _ _ rfl (fill9_blk Z1.out _ _ _ _ _ _ _ _ _) Try.underlying25 rfl (by kernel_rfl) _ rfl) rfl ⟨rfl, fill9_only O1.out (.inr (by show w.heap.size ≤ w.heap.size + 1 + 1; omega)) _ _ _ _ _ _ _ _ _⟩
  · exact bodyPost_ret (results_cell_tmp rfl _ _ (w.heap.size + 1 + 1) 25 _ _ rfl (fill9_blk Z1.out _ _ _ _ _ _ _ _ _) Try.underlying25 rfl (by kernel_rfl) _ rfl) rfl ⟨rfl, fill9_only O1.out (.inr (by show w.heap.size ≤ w.heap.size + 1 + 1; omega)) _ _ _ _ _ _ _ _ _⟩
  · exact bodyPost_ret (results_cell_tmp rfl _ _ (w.heap.size + 1 + 1) 25 _ _ rfl (fill9_blk Z2.out _ _ _ _ _ _ _ _ _) Try.underlying25 rfl (by kernel_rfl) _ rfl) rfl ⟨rfl, fill9_only O2.out (.inr (by show w.heap.size ≤ w.heap.size + 1 + 1; omega)) _ _ _ _ _ _ _ _ _⟩
  · exact bodyPost_ret (results_cell_tmp rfl _ _ (w.heap.size + 1 + 1) 25 _ _ rfl (fill9_blk Z3.out _ _ _ _ _ _ _ _ _) Try.underlying25 rfl (by kernel_rfl) _ rfl) rfl ⟨rfl, fill9_only O3.out (.inr (by show w.heap.size ≤ w.heap.size + 1 + 1; omega)) _ _ _ _ _ _ _ _ _⟩
  · have hne : w.heap.size + 1 + 1 ≠ w.heap.size := by omega
    have Z4 := ((Z3.out.far (p := ⟨w.heap.size, 5, none⟩) hne (.int .i64 a.c)).far (p := ⟨w.heap.size, 6, none⟩) hne (.int .i64 a.s)).far (p := ⟨w.heap.size, 8, none⟩) hne (.int .i64 0)
    have O4 := ((O3.out.setCell (p := ⟨w.heap.size, 5, none⟩) (.inr (Nat.le_refl _)) (.int .i64 a.c)).setCell (p := ⟨w.heap.size, 6, none⟩) (.inr (Nat.le_refl _)) (.int .i64 a.s)).setCell (p := ⟨w.heap.size, 8, none⟩) (.inr (Nat.le_refl _)) (.int .i64 0)
    exact bodyPost_ret (results_cell_tmp rfl _ _ (w.heap.size + 1 + 1) 25 _ _ rfl (fill9_blk Z4 _ _ _ _ _ _ _ _ _) Try.underlying25 rfl (by kernel_rfl) _ rfl) rfl ⟨rfl, fill9_only O4 (.inr (by show w.heap.size ≤ w.heap.size + 1 + 1; omega)) _ _ _ _ _ _ _ _ _⟩
end Go.Proofs.Ytkddmdgehnijiaa
