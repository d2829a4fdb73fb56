/- Texts of mine, one behind the other: StB, StL. No statement of the seat is proved here. -/
import Derived.Test.YtniacolkjdmflaaPg3
import Derived.Test.YtniacolkjdmflaaChecked
import Derived.Test.YtniacolkjdmflaaPg1
import Derived.Deep.QuietTactic
import Derived.BigQuiet
import Derived.Test.YtniacolkjdmflaaPg2
import Derived.LoopTactic
import Derived.Deep.RegionHeld3
section
namespace Go.Proofs.Ytniacolkjdmflaa
open Go.RowKit
set_option maxRecDepth 100000

theorem isNaN_int (n : Int) (w : World) :
    Calls Try.prog 114 #[.int .i64 n] w fun e w' => e = .returned (.bool false) ∧ w = w' := by
  have h : (n != n) = false := by simp
  go_enter Try.func114, Try.ntmps114
  go_wp2
  go_ret
  exact ⟨rfl, rfl⟩
theorem cmp_int (a b : Int) (w : World) :
    Calls Try.prog 85 #[.int .i64 a, .int .i64 b] w fun e w' => e = .returned (.int .i64 (cmpI a b)) ∧ w = w' := by
  by_cases h1 : a < b
  · have H : Hid (cmpI a b = -1) := by simp [Hid, cmpI, h1]
    go_enter Try.func85, Try.ntmps85
    go_wp2_with (go_at_call 114; refine (isNaN_int _ _).mono ?_; rintro e w' ⟨rfl, rfl⟩)
    go_ret
    rw [H.out]
    exact ⟨rfl, rfl⟩
  · by_cases h2 : b < a
    · have H : Hid (cmpI a b = 1) := by simp [Hid, cmpI, h1, h2]
      go_enter Try.func85, Try.ntmps85
      go_wp2_with (go_at_call 114; refine (isNaN_int _ _).mono ?_; rintro e w' ⟨rfl, rfl⟩)
      go_ret
      rw [H.out]
      exact ⟨rfl, rfl⟩
    · have H : Hid (cmpI a b = 0) := by simp [Hid, cmpI, h1, h2]
      go_enter Try.func85, Try.ntmps85
      go_wp2_with (go_at_call 114; refine (isNaN_int _ _).mono ?_; rintro e w' ⟨rfl, rfl⟩)
      go_ret
      rw [H.out]
      exact ⟨rfl, rfl⟩

theorem st_compare (c s c' s' : Int) (w : World) :
    Calls Try.prog 57 #[.agg #[.int .i64 c, .int .i64 s], .agg #[.int .i64 c', .int .i64 s']] w fun e w' => e = .returned (.int .i64 (stCmp ⟨c, s⟩ ⟨c', s'⟩)) ∧ Only none_ w w' := by
  have O := Lib.hid (((Only.refl none_ w).alloc (.cells #[.int .i64 c, .int .i64 s] 49)).alloc (.cells #[.int .i64 c', .int .i64 s'] 49))
  obtain ⟨r, hr⟩ : ∃ r, cmpI c c' = r := ⟨_, rfl⟩
  have HR := Lib.hid hr
  by_cases h : c = c'
  · have hz : (r != 0) = false := by subst h hr; simp [cmpI]
    have H : Hid (stCmp ⟨c, s⟩ ⟨c', s'⟩ = cmpI s s') := by simp [Hid, stCmp, h]
    clear h hr
    go_enter Try.func57, Try.ntmps57
    go_wp2_with (first
      | (go_at_call 85; refine (cmp_int _ _ _).mono ?_; rintro e w' ⟨rfl, rfl⟩; first | rw [HR.out] | skip))
    go_ret
    rw [H.out]
    exact ⟨rfl, O.out⟩
  · have hz : (r != 0) = true := by
      have := mt (cmpI_zero c c').1 h
      rw [hr] at this
      simpa using this
    have H : Hid (stCmp ⟨c, s⟩ ⟨c', s'⟩ = r) := by simp [Hid, stCmp, h, hr]
    clear h hr
    go_enter Try.func57, Try.ntmps57
    go_wp2_with (first
      | (go_at_call 85; refine (cmp_int c c' _).mono ?_; rintro e w' ⟨rfl, rfl⟩; rw [HR.out]))
    go_ret
    rw [H.out]
    exact ⟨rfl, O.out⟩
end Go.Proofs.Ytniacolkjdmflaa
end
section
namespace Go.Proofs.Ytniacolkjdmflaa
open Go.RowKit
set_option linter.all false
set_option maxRecDepth 100000

/-- The cells of stamps, one behind the other. -/
def stCells : List St → List Value
  | [] => []
  | x :: l => .int .i64 x.c :: .int .i64 x.s :: stCells l
theorem stCells_length : ∀ l : List St, (stCells l).length = l.length * 2
  | [] => rfl
  | x :: l => by simp [stCells, stCells_length l]; omega
theorem stCells_append : ∀ a b : List St, stCells (a ++ b) = stCells a ++ stCells b
  | [], b => rfl
  | x :: a, b => by simp [stCells, stCells_append a b]
theorem stCells_at : ∀ (l : List St) (k : Nat) (y : St), l[k]? = some y → (stCells l)[k * 2]? = some (.int .i64 y.c) ∧ (stCells l)[k * 2 + 1]? = some (.int .i64 y.s)
  | [], k, y, h => by simp at h
  | x :: l, 0, y, h => by
    have : x = y := by simpa using h
    subst this
    exact ⟨rfl, rfl⟩
  | x :: l, k + 1, y, h => by
    obtain ⟨h1, h2⟩ := stCells_at l k y (by simpa using h)
    rw [show (k + 1) * 2 = k * 2 + 1 + 1 from by omega]
    exact ⟨h1, h2⟩

/-- The greatest so far lies in block g. -/
structure MaxAt (B : World) (g : Nat) (m : St) (w : World) : Prop where
  blk : Blk w g 49 #[.int .i64 m.c, .int .i64 m.s]
  ho : Only (one g) B w
/-- The two stamps that are held against each other, and that nothing old has changed since wr. -/
structure MaxIn (B : World) (b o g : Nat) (y m : St) (w : World) : Prop where
  y0 : w.cell? ⟨b, o, none⟩ = some (.int .i64 y.c)
  y1 : w.cell? ⟨b, o + 1, none⟩ = some (.int .i64 y.s)
  blk : Blk w g 49 #[.int .i64 m.c, .int .i64 m.s]
  ho : Only none_ B w
  lt : b < B.heap.size
section
variable {B w w' : World} {b o g : Nat} {y m : St}
theorem MaxIn.keep (h : MaxIn B b o g y m w) (k : Only none_ w w') : MaxIn B b o g y m w' :=
  ⟨(k.cell (p := ⟨b, o, none⟩) (Nat.lt_of_lt_of_le h.lt h.ho.size) (fun x => x)).trans h.y0, (k.cell (p := ⟨b, o + 1, none⟩) (Nat.lt_of_lt_of_le h.lt h.ho.size) (fun x => x)).trans h.y1, h.blk.only k (fun x => x), h.ho.trans k, h.lt⟩
theorem MaxIn.cells (h : MaxIn B b o g y m w) : (w.cell? ⟨b, o, none⟩ = some (.int .i64 y.c) ∧ w.cell? ⟨b, o + 1, none⟩ = some (.int .i64 y.s)) ∧ w.cell? ⟨g, 0, none⟩ = some (.int .i64 m.c) ∧ w.cell? ⟨g, 1, none⟩ = some (.int .i64 m.s) :=
  ⟨⟨h.y0, h.y1⟩, h.blk.cell_ rfl, h.blk.cell_ rfl⟩
end
theorem fold_snoc {l : List St} {k : Nat} (h : k < l.length) (x : St) : (l.take (k + 1)).foldl stMax x = stMax ((l.take k).foldl stMax x) l[k] := by
  rw [List.take_succ_eq_append_getElem h, List.foldl_append]
  rfl
set_option maxHeartbeats 1600000 in
theorem maxFunc (x : St) (l : List St) (v : Value) (S : Nat → Prop) (w : World) (hx : Cel w S v (l.length + 1) 2 (stCells (x :: l))) (hS : ∀ b, S b → b < w.heap.size) (hl : l.length + 1 ≤ 9223372036854775807) :
    Calls Try.prog 111 #[v, .func (.func 57) #[] #[]] w fun e w' => e = .returned (.agg #[.int .i64 (stLatest (x :: l)).c, .int .i64 (stLatest (x :: l)).s]) ∧ Only none_ w w' := by
  obtain ⟨A, c, rfl, h0, h1, h2, h3, h4⟩ := hx
  obtain ⟨b, off, rfl, hb, hlt, hc⟩ := h4 (by omega)
  have c0 : w.cell? ⟨b, off, none⟩ = _ := hc 0 _ rfl
  have c1 := hc 1 _ rfl
  obtain ⟨L, hL⟩ : ∃ L, L = l.length + 1 := ⟨_, rfl⟩
  rw [← hL] at h1 hl ⊢
  have hL1 : decide ((L : Int) < 1) = false := by rw [hL]; simp; omega
  have hLp : (0 : Int) < (L : Int) := by rw [hL]; omega
  have hLn : 0 < L := by omega
  have HL := Lib.hid hL
  have HC := Lib.hid hc
  have HR := Lib.hid (Blk.new w 49 #[.int .i64 0, .int .i64 0])
  clear h3 h4 hc h0 hL
  go_enter Try.func111, Try.ntmps111
  go_wp2_with fail
  have M0 := Lib.hid (MaxAt.mk (B := (w.alloc (.cells #[.int .i64 0, .int .i64 0] 49)).alloc (.cells #[.int .i64 x.c, .int .i64 x.s] 49)) (Blk.new (w.alloc (.cells #[.int .i64 0, .int .i64 0] 49)) 49 #[.int .i64 x.c, .int .i64 x.s]) (Only.refl _ _))
  have O0 := Lib.hid (((Only.refl none_ w).alloc (.cells #[.int .i64 0, .int .i64 0] 49)).alloc (.cells #[.int .i64 x.c, .int .i64 x.s] 49))
  have R0 := Lib.hid (HR.out.alloc (.cells #[.int .i64 x.c, .int .i64 x.s] 49))
  have HG : Hid (w.heap.size + 1 = (w.alloc (.cells #[.int .i64 0, .int .i64 0] 49)).heap.size) := by simp [Hid]
  rw [← HG.out] at M0
  have HGB : Hid (b < w.heap.size) := hlt
  clear HR c0 c1 hlt
  generalize (w.alloc (.cells #[.int .i64 0, .int .i64 0] 49)).alloc (.cells #[.int .i64 x.c, .int .i64 x.s] 49) = W2 at *
  clear HG
  go_loopw [6] (fun i wr => ∃ k : Nat, k ≤ l.length ∧ i = .int .i64 ((k : Int) + 1) ∧ MaxAt W2 (w.heap.size + 1) ((l.take k).foldl stMax x) wr) (fun i _ => l.length + 1 - (intOf i).toNat)
  case atStart => exact ⟨0, Nat.zero_le _, rfl, M0.out⟩
  case round =>
    obtain ⟨k, hk, rfl, hm⟩ := hrel
    have HM := Lib.hid hm
    clear hm
    by_cases hlt : k < l.length
    · have hkL : decide ((k : Int) + 1 < (L : Int)) = true := by have := HL.out; simp; omega
      have hkn : k + 1 < L := by have := HL.out; omega
      have hkI : (k : Int) + 1 < (L : Int) := by omega
      have hk0 : (0 : Int) ≤ (k : Int) + 1 := by omega
      have HF := Lib.hid (fold_snoc hlt x)
      obtain ⟨y, hy⟩ : ∃ y, y = l[k] := ⟨_, rfl⟩
      rw [← hy] at HF
      have hyat : (x :: l)[k + 1]? = some y := by rw [hy]; simp [hlt]
      obtain ⟨ya, yb⟩ := stCells_at _ _ _ hyat
      obtain ⟨m, hmm⟩ : ∃ m, m = (l.take k).foldl stMax x := ⟨_, rfl⟩
      rw [← hmm] at HM HF
      have HI : Hid (MaxIn wr b (off + (k + 1) * 2) (w.heap.size + 1) y m wr) := by
        have o1 := (O0.out.of_none (S := one (w.heap.size + 1))).trans HM.out.ho
        have hne : ¬ one (w.heap.size + 1) b := fun e => by have : b = w.heap.size + 1 := e; have := HGB.out; omega
        exact ⟨(o1.cell (p := ⟨b, off + (k + 1) * 2, none⟩) HGB.out hne).trans (HC.out _ _ ya), (o1.cell (p := ⟨b, off + ((k + 1) * 2 + 1), none⟩) HGB.out hne).trans (HC.out _ _ yb), HM.out.blk, Only.refl _ _, Nat.lt_of_lt_of_le HGB.out o1.size⟩
      have HMo := Lib.hid HM.out.ho
      obtain ⟨r, hr⟩ : ∃ r, stCmp y m = r := ⟨_, rfl⟩
      have HR := Lib.hid hr
      clear HM hmm hy hyat ya yb
      have z0 := Lib.hid (HI.out.blk.frozen 0)
      have z1 := Lib.hid (HI.out.blk.frozen 1)
      by_cases hp : 0 < r
      · have hX : Hid (stMax m y = y) := by rw [Hid, stMax, hr, if_pos hp]
        clear hr
        go_wp2_with fail
        have t0 := HI.out.keep (Only.refl none_ wr).drew
        go_region_held3 (fun w' => (w'.cell? ⟨b, off + (k + 1) * 2, none⟩ = some (.int .i64 y.c) ∧ w'.cell? ⟨b, off + (k + 1) * 2 + 1, none⟩ = some (.int .i64 y.s)) ∧ w'.cell? ⟨w.heap.size + 1, 0, none⟩ = some (.int .i64 m.c) ∧ w'.cell? ⟨w.heap.size + 1, 1, none⟩ = some (.int .i64 m.s))
          (with_reducible exact MaxIn.cells (by assumption))
          (first
            | (go_at_call 57; refine (st_compare _ _ _ _ _).mono ?_; rintro e w5 ⟨rfl, o5⟩; rw [HR.out]; have t5 := MaxIn.keep (by assumption) o5; clear o5))
        obtain ⟨⟨y0, y1⟩, m0, m1⟩ := t5.cells
        have z0 := t5.blk.frozen 0
        have z1 := t5.blk.frozen 1
        have T5 := Lib.hid t5
        clear t0 t5
        go_wp2_with fail
        go_roundw
        case rel =>
          refine ⟨k + 1, by omega, by go_num, ?_, ?_⟩
          · rw [HF.out, hX.out]
            have := (T5.out.blk.set_ 0 (.int .i64 y.c)).set_ 1 (.int .i64 y.s)
            simpa using this
          · exact (((HMo.out).trans T5.out.ho.of_none).setCell (p := ⟨w.heap.size + 1, 0, none⟩) (.inl rfl) _).setCell (p := ⟨w.heap.size + 1, 1, none⟩) (.inl rfl) _
        case measure => simp [intOf]; omega
      · have hX : Hid (stMax m y = m) := by rw [Hid, stMax, hr, if_neg hp]
        clear hr
        go_wp2_with fail
        have t0 := HI.out.keep (Only.refl none_ wr).drew
        go_region_held3 (fun w' => (w'.cell? ⟨b, off + (k + 1) * 2, none⟩ = some (.int .i64 y.c) ∧ w'.cell? ⟨b, off + (k + 1) * 2 + 1, none⟩ = some (.int .i64 y.s)) ∧ w'.cell? ⟨w.heap.size + 1, 0, none⟩ = some (.int .i64 m.c) ∧ w'.cell? ⟨w.heap.size + 1, 1, none⟩ = some (.int .i64 m.s))
          (with_reducible exact MaxIn.cells (by assumption))
          (first
            | (go_at_call 57; refine (st_compare _ _ _ _ _).mono ?_; rintro e w5 ⟨rfl, o5⟩; rw [HR.out]; have t5 := MaxIn.keep (by assumption) o5; clear o5))
        have T5 := Lib.hid t5
        clear t0 t5
        go_wp2_with fail
        go_roundw
        case rel =>
          refine ⟨k + 1, by omega, by go_num, ?_, (HMo.out).trans T5.out.ho.of_none⟩
          rw [HF.out, hX.out]
          exact T5.out.blk
        case measure => simp [intOf]; omega
    · have hkL : decide ((k : Int) + 1 < (L : Int)) = false := by have := HL.out; simp; omega
      obtain ⟨m, hmm⟩ : ∃ m, m = (l.take k).foldl stMax x := ⟨_, rfl⟩
      rw [← hmm] at HM
      have m0 := HM.out.blk.cell_ (i := 0) rfl
      have m1 := HM.out.blk.cell_ (i := 1) rfl
      have HME : Hid (stLatest (x :: l) = m) := by rw [Hid, hmm, List.take_of_length_le (by omega)]; rfl
      have RR := Lib.hid (R0.out.only HM.out.ho (fun e => by have : w.heap.size = w.heap.size + 1 := e; omega))
      have r0 := RR.out.cell_ (i := 0) rfl
      have r1 := RR.out.cell_ (i := 1) rfl
      have z0 := RR.out.frozen 0
      have z1 := RR.out.frozen 1
      clear hmm
      go_wp2_with fail
      have q0 := (RR.out.set_ 0 (.int .i64 m.c)).cell_ (i := 0) (u := .int .i64 m.c) (by simp)
      have q1 := ((RR.out.set_ 0 (.int .i64 m.c)).set_ 1 (.int .i64 m.s)).cell_ (i := 1) (u := .int .i64 m.s) (by simp)
      have o1 := (O0.out.of_none (S := one (w.heap.size + 1))).trans HM.out.ho
      have o2 := (o1.setCell (p := ⟨w.heap.size, 0, none⟩) (.inr (Nat.le_refl _)) (.int .i64 m.c)).setCell (p := ⟨w.heap.size, 1, none⟩) (.inr (Nat.le_refl _)) (.int .i64 m.s)
      exact bodyPost_ret (v := .agg #[.int .i64 m.c, .int .i64 m.s]) (by simp [results, Try.results111, go_sem, q0, q1]) rfl
        ⟨by rw [HME.out], o2.mono (fun g hg e => by have : g = w.heap.size + 1 := e; omega)⟩

theorem st_latest (l : List St) (v : Value) (S : Nat → Prop) (w : World) (hx : Cel w S v l.length 2 (stCells l)) (hS : ∀ b, S b → b < w.heap.size) (hl : l.length ≤ 9223372036854775807) :
    Calls Try.prog 83 #[v] w fun e w' => e = .returned (.agg #[.int .i64 (stLatest l).c, .int .i64 (stLatest l).s]) ∧ Only none_ w w' := by
  have HR := Lib.hid (Blk.new w 49 #[.int .i64 0, .int .i64 0])
  have O := Lib.hid ((Only.refl none_ w).alloc (.cells #[.int .i64 0, .int .i64 0] 49))
  cases l with
  | nil =>
    obtain ⟨A, c, rfl, _⟩ := hx
    go_enter Try.func83, Try.ntmps83
    go_wp2_with fail
    exact bodyPost_ret (v := .agg #[.int .i64 0, .int .i64 0]) (by simp [results, Try.results83, go_sem]) rfl ⟨rfl, O.out⟩
  | cons x l =>
    have HX := Lib.hid (hx.alloc (.cells #[.int .i64 0, .int .i64 0] 49))
    have HS : Hid (∀ b, S b → b < (w.alloc (.cells #[.int .i64 0, .int .i64 0] 49)).heap.size) := fun b hb => by have := hS b hb; simp; omega
    obtain ⟨A, c, rfl, _⟩ := hx
    obtain ⟨L, hL⟩ : ∃ L, L = (x :: l).length := ⟨_, rfl⟩
    have hlen : l.length + 1 ≤ 9223372036854775807 := by simpa using hl
    have hLz : ((L : Int) == 0) = false := by rw [hL, beq_eq_false_iff_ne]; simp; omega
    have HX2 : Hid (Cel (w.alloc (.cells #[.int .i64 0, .int .i64 0] 49)) S (.slice A L c) (l.length + 1) 2 (stCells (x :: l))) := by rw [hL]; exact HX.out
    obtain ⟨m, hm⟩ : ∃ m, stLatest (x :: l) = m := ⟨_, rfl⟩
    have HM := Lib.hid hm
    rw [← hL, hm]
    clear hL hS hl HX hm
    go_enter Try.func83, Try.ntmps83
    go_wp2_with (go_at_call 111; refine (maxFunc x l _ S _ HX2.out HS.out hlen).mono ?_; rintro e w1 ⟨rfl, o1⟩; rw [HM.out]
                 have R1 := Lib.hid (HR.out.only o1 (fun h => h))
                 have O1 := Lib.hid (O.out.trans o1)
                 have r0 := R1.out.cell_ (i := 0) rfl
                 have r1 := R1.out.cell_ (i := 1) rfl
                 have z0 := R1.out.frozen 0
                 have z1 := R1.out.frozen 1
                 clear o1)
    have q0 := (R1.out.set_ 0 (.int .i64 m.c)).cell_ (i := 0) (u := .int .i64 m.c) (by simp)
    have q1 := ((R1.out.set_ 0 (.int .i64 m.c)).set_ 1 (.int .i64 m.s)).cell_ (i := 1) (u := .int .i64 m.s) (by simp)
    have o2 := (O1.out.setCell (p := ⟨w.heap.size, 0, none⟩) (.inr (Nat.le_refl _)) (.int .i64 m.c)).setCell (p := ⟨w.heap.size, 1, none⟩) (.inr (Nat.le_refl _)) (.int .i64 m.s)
    exact bodyPost_ret (v := .agg #[.int .i64 m.c, .int .i64 m.s]) (by simp [results, Try.results83, go_sem, q0, q1]) rfl ⟨rfl, o2⟩
end Go.Proofs.Ytniacolkjdmflaa
end
