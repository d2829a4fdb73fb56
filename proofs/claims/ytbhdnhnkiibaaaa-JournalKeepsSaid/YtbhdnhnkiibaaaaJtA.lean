/- A table of sums that stands anywhere in a block: its rows are made by its first call. No statement of the seat is proved here. -/
import Derived.Test.YtbhdnhnkiibaaaaCrcC
namespace Go.Proofs.Ytbhdnhnkiibaaaa
open Go.RowKit
set_option maxRecDepth 100000
attribute [local go_sem ↓] Go.wp_at_zero Go.wp_at_succ

theorem pad_at {P Q cs : Array Value} {o : Nat} (ho : P.size = o) {j : Nat} {v : Value} (h : cs[j]? = some v) : (P ++ cs ++ Q)[o + j]? = some v := by
  subst ho
  have hj : j < cs.size := by
    rcases Nat.lt_or_ge j cs.size with h1 | h1
    · exact h1
    · rw [Array.getElem?_eq_none h1] at h; cases h
  rw [Array.getElem?_append_left (by rw [Array.size_append]; omega), Array.getElem?_append_right (by omega), show P.size + j - P.size = j by omega]
  exact h
theorem pad_set {P Q cs : Array Value} {o : Nat} (ho : P.size = o) {j : Nat} (hj : j < cs.size) (v : Value) : (P ++ cs ++ Q).setIfInBounds (o + j) v = P ++ cs.setIfInBounds j v ++ Q := by
  subst ho
  rw [Array.setIfInBounds_append_left (by rw [Array.size_append]; omega), Array.setIfInBounds_append_right (by omega), show P.size + j - P.size = j by omega]

/-- A table with cells ahead and behind: new, or its rows made. -/
def TabP (tt : TypeId) (P Q : Array Value) (w : World) (g : Nat) : Prop := Blk w g tt (P ++ rowCells 0 0 0 ++ Q) ∨ Blk w g tt (P ++ rowCells 1 0 256 ++ Q)
/-- Its rows are made. -/
def TabQ (tt : TypeId) (P Q : Array Value) (w : World) (g : Nat) : Prop := Blk w g tt (P ++ rowCells 1 0 256 ++ Q)
theorem TabQ.tab {tt : TypeId} {P Q : Array Value} {w : World} {g : Nat} (h : TabQ tt P Q w g) : TabP tt P Q w g := .inr h
theorem TabQ.only {tt : TypeId} {P Q : Array Value} {S : Nat → Prop} {w w' : World} {g : Nat} (h : TabQ tt P Q w g) (ho : Only S w w') (hn : ¬ S g) : TabQ tt P Q w' g := Blk.only (t := tt) h ho hn
theorem TabP.only {tt : TypeId} {P Q : Array Value} {S : Nat → Prop} {w w' : World} {g : Nat} (h : TabP tt P Q w g) (ho : Only S w w') (hn : ¬ S g) : TabP tt P Q w' g := h.imp (fun h => h.only ho hn) (fun h => h.only ho hn)
theorem TabP.lt {tt : TypeId} {P Q : Array Value} {w : World} {g : Nat} (h : TabP tt P Q w g) : g < w.heap.size := by rcases h with h | h <;> exact h.lt
theorem TabP.cell {tt : TypeId} {P Q : Array Value} {w : World} {g : Nat} (h : TabP tt P Q w g) {j : Nat} {v : Value} (hv : ∀ cs : Array Value, cs.size = 259 → (P ++ cs ++ Q)[j]? = some v) : w.cell? ⟨g, j, none⟩ = some v := by
  rcases h with h | h
  · exact h.cell_ (hv _ (rowCells_size _ _ _))
  · exact h.cell_ (hv _ (rowCells_size _ _ _))
theorem TabP.ahead {P Q : Array Value} {j : Nat} {v : Value} (h : P[j]? = some v) (cs : Array Value) (_ : cs.size = 259) : (P ++ cs ++ Q)[j]? = some v := by
  have hj : j < P.size := by
    rcases Nat.lt_or_ge j P.size with h1 | h1
    · exact h1
    · rw [Array.getElem?_eq_none h1] at h; cases h
  rw [Array.getElem?_append_left (by rw [Array.size_append]; omega), Array.getElem?_append_left hj]
  exact h
theorem TabP.behind {P Q : Array Value} {o j : Nat} {v : Value} (ho : P.size = o) (h : Q[j]? = some v) (cs : Array Value) (hc : cs.size = 259) : (P ++ cs ++ Q)[o + 259 + j]? = some v := by
  subst ho
  rw [Array.getElem?_append_right (by rw [Array.size_append]; omega), Array.size_append, hc, show P.size + 259 + j - (P.size + 259) = j by omega]
  exact h
theorem TabP.frozen {tt : TypeId} {P Q : Array Value} {w : World} {g : Nat} (h : TabP tt P Q w g) (j : Nat) : w.frozen? ⟨g, j, none⟩ = false := by
  rcases h with h | h
  · exact h.frozen j
  · exact h.frozen j
theorem TabP.setQ {tt : TypeId} {P Q : Array Value} {w : World} {g o : Nat} (h : TabP tt P Q w g) (ho : P.size = o) (j : Nat) (v : Value) : TabP tt P (Q.setIfInBounds j v) (w.setCell ⟨g, o + 259 + j, none⟩ v) g := by
  subst ho
  have e : ∀ cs : Array Value, cs.size = 259 → (P ++ cs ++ Q).setIfInBounds (P.size + 259 + j) v = P ++ cs ++ Q.setIfInBounds j v := fun cs hc => by
    rw [Array.setIfInBounds_append_right (by rw [Array.size_append]; omega), Array.size_append, hc, show P.size + 259 + j - (P.size + 259) = j by omega]
  rcases h with h | h
  · have := h.set_ (P.size + 259 + j) v
    rw [e _ (rowCells_size _ _ _)] at this
    exact .inl this
  · have := h.set_ (P.size + 259 + j) v
    rw [e _ (rowCells_size _ _ _)] at this
    exact .inr this
theorem Tab.pad {tt : TypeId} {w : World} {g : Nat} (h : Tab tt w g) : TabP tt #[] #[] w g := by
  rcases h with h | h
  · exact .inl (by simpa using h)
  · exact .inr (by simpa using h)
theorem TabP.tab {tt : TypeId} {w : World} {g : Nat} (h : TabP tt #[] #[] w g) : Tab tt w g := by
  rcases h with h | h
  · exact .inl (by simpa using h)
  · exact .inr (by simpa using h)

set_option maxRecDepth 100000 in
set_option maxHeartbeats 400000 in
/-- The rows are made. -/
theorem makeRows_at {tt : TypeId} {P Q : Array Value} {o : Nat} (ho : P.size = o) (g : Nat) (d m : Int) (w : World) (h : Blk w g tt (P ++ rowCells d m 0 ++ Q)) :
    Calls Try.prog 116 #[.pointer (some ⟨g, o, none⟩)] w fun e w' => e = .returned (.tuple #[]) ∧ Blk w' g tt (P ++ rowCells d m 256 ++ Q) ∧ Only (one g) w w' := by
  have HB0 := Lib.hid h
  have HP := Lib.hid ho
  clear h ho
  go_enter Try.func116, Try.ntmps116
  go_wp2
  go_loopw [4] (fun i wr => ∃ k : Nat, k ≤ 256 ∧ i = .int .i64 k ∧ Blk wr g tt (P ++ rowCells d m k ++ Q) ∧ Only (one g) w wr) (fun i _ => 256 - (intOf i).toNat)
  case atStart => exact ⟨0, by omega, rfl, HB0.out, Only.refl _ _⟩
  case round =>
    obtain ⟨k, hk, rfl, hb, ho⟩ := hrel
    have HB := Lib.hid hb
    have HO := Lib.hid ho
    by_cases hlt : k < 256
    · have hc := hb.cell_ (i := o + 3 + k) (by rw [Nat.add_assoc]; exact pad_at HP.out (rowCells_row d m k k hlt))
      rw [if_neg (by omega)] at hc
      have hf := hb.frozen (o + 3 + k)
      have hdk : decide ((k : Int) < 256) = true := by simp; omega
      clear hb ho
      go_wp2
      go_loop [3, 9] (fun x i => ∃ j : Nat, j ≤ 8 ∧ i = .int .i64 j ∧ x = .int .u32 (cstN j k : Nat)) (fun _ i => 8 - (intOf i).toNat)
      case atStart => exact ⟨0, by omega, rfl, rfl⟩
      case round =>
        obtain ⟨j, hj, rfl, rfl⟩ := hrel
        have hm := move_any (cstN j k) (cstN_lt j (by omega))
        rw [← cstN_next] at hm
        by_cases h8 : j < 8
        · go_wp2_with (go_at_call 119; refine (hm _).mono ?_; rintro e w' ⟨rfl, rfl⟩)
          go_round
          case rel => exact ⟨j + 1, by omega, by go_num, rfl⟩
          case measure => simp [intOf]; omega
        · obtain rfl : j = 8 := by omega
          clear hm
          go_wp2
          go_roundw
          case rel =>
            refine ⟨k + 1, by omega, by go_num, ?_, HO.out.setCell (.inl (show one g g from rfl)) _⟩
            have := HB.out.set_ (o + 3 + k) (.int .u32 (cstN 8 k : Nat))
            rw [Nat.add_assoc o 3 k, pad_set HP.out (by rw [rowCells_size]; omega), rowCells_set d m k hlt, ← Nat.add_assoc] at this
            exact this
          case measure => simp [intOf]; omega
    · obtain rfl : k = 256 := by omega
      clear hb ho
      go_wp2
      go_end0
      exact ⟨rfl, HB.out, HO.out⟩
theorem once_at {tt : TypeId} {P Q : Array Value} {o : Nat} (ho : P.size = o) (g : Nat) (w : World) (h : TabP tt P Q w g) :
    Calls Try.prog 115 #[.pointer (some ⟨g, o, none⟩), .func (.func 116) #[.pointer (some ⟨g, o, none⟩)] #[]] w fun e w' => e = .returned (.tuple #[]) ∧ TabQ tt P Q w' g ∧ Only (one g) w w' := by
  have c0 : ∀ d m k, (P ++ rowCells d m k ++ Q)[o]? = some (.int .u32 d) := fun d m k => pad_at (j := 0) ho (by rw [rowCells, Array.getElem?_append_left (by simp)]; rfl)
  have c1 : ∀ d m k, (P ++ rowCells d m k ++ Q)[o + 1]? = some (.int .i32 m) := fun d m k => pad_at (j := 1) ho (by rw [rowCells, Array.getElem?_append_left (by simp)]; rfl)
  rcases h with h | h
  · have hb : Blk (w.setCell ⟨g, o + 1, none⟩ (.int .i32 1)) g tt (P ++ rowCells 0 1 0 ++ Q) := by
      have := h.set_ (o + 1) (.int .i32 1)
      rw [pad_set ho (by rw [rowCells_size]; omega), rowCells_lock] at this
      exact this
    have ho1 : Only (one g) w (w.setCell ⟨g, o + 1, none⟩ (.int .i32 1)) := (Only.refl _ _).setCell (.inl (show one g g from rfl)) _
    refine (do_first g o (.pointer (some ⟨g, o, none⟩)) (fun w2 => Blk w2 g tt (P ++ rowCells 0 1 256 ++ Q) ∧ Only (one g) w w2) w (h.cell_ (c0 _ _ _)) (h.cell_ (c1 _ _ _)) (h.frozen _)
      ((makeRows_at ho g 0 1 _ hb).mono fun e w2 ⟨h1, h2, h3⟩ => ⟨h1, ⟨_, h2.cell_ (c0 _ _ _)⟩, h2.frozen _, h2.cell_ (c1 _ _ _), h2.frozen _, h2, ho1.trans h3⟩)).mono ?_
    rintro e w' ⟨rfl, w2, ⟨h2, o2⟩, rfl⟩
    refine ⟨rfl, ?_, (o2.drew.setCell (.inl (show one g g from rfl)) _).setCell (.inl (show one g g from rfl)) _⟩
    have := (h2.drew.set_ o (.int .u32 1)).set_ (o + 1) (.int .i32 0)
    rw [show o = o + 0 from rfl, pad_set ho (by rw [rowCells_size]; omega), rowCells_done, show o + 0 + 1 = o + 1 from rfl, pad_set ho (by rw [rowCells_size]; omega), rowCells_lock] at this
    exact this
  · refine (do_done g o 1 rfl _ w (h.cell_ (c0 _ _ _))).mono ?_
    rintro e w' ⟨rfl, rfl⟩
    exact ⟨rfl, h, Only.refl _ _⟩
theorem made_at {tt : TypeId} {P Q : Array Value} {o : Nat} (ho : P.size = o) (g : Nat) (w : World) (h : TabP tt P Q w g) :
    Calls Try.prog 114 #[.pointer (some ⟨g, o, none⟩)] w fun e w' => e = .returned (.pointer (some ⟨g, o + 3, none⟩)) ∧ TabQ tt P Q w' g ∧ Only (one g) w w' := by
  have hd : ∃ cs, Blk w g tt cs ∧ ∃ u, cs[o]? = some u := by
    have c0 : ∀ d m k, ∃ u, (P ++ rowCells d m k ++ Q)[o]? = some u := fun d m k => ⟨_, pad_at (j := 0) ho (by rw [rowCells, Array.getElem?_append_left (by simp)]; rfl)⟩
    rcases h with h | h
    · exact ⟨_, h, c0 _ _ _⟩
    · exact ⟨_, h, c0 _ _ _⟩
  obtain ⟨cs, hB, u, hu⟩ := hd
  have hc := hB.cell_ hu
  have HT := once_at ho g w h
  have HP := Lib.hid ho
  clear hB hu h ho
  go_enter Try.func114, Try.ntmps114
  go_wp2_with (go_at_call 115; refine HT.mono ?_; rintro e w1 ⟨rfl, t1, o1⟩
               have hc1 : ∃ u, w1.cell? ⟨g, o, none⟩ = some u := ⟨_, Blk.cell_ (t := tt) t1 (pad_at (j := 0) HP.out (show (rowCells 1 0 256)[0]? = some (.int .u32 1) by rw [rowCells, Array.getElem?_append_left (by simp)]; rfl))⟩
               obtain ⟨u1, hc1⟩ := hc1)
  go_ret
  exact ⟨rfl, t1, o1⟩

end Go.Proofs.Ytbhdnhnkiibaaaa
