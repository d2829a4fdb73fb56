/- What Open of package journal does. No statement of the seat is proved here. -/
import Derived.Test.YtbhdnhnkiibaaaaJnD
import Derived.Test.YtbhdnhnkiibaaaaDkD
namespace Go.Proofs.Ytbhdnhnkiibaaaa
open Go.RowKit
set_option maxRecDepth 100000
set_option linter.all false

theorem jnR_le : ∀ (f : Nat) (acc : List (List UInt8)) (n : Nat) (bs : List UInt8), (jnR f acc n bs).2.1 ≤ n + bs.length
  | 0, _, n, bs => by simp [jnR]
  | f + 1, acc, n, bs => by
    rw [jnR_step]
    rcases jnK_cases bs with h | h | h
    · have hz := jnK_zero h
      rw [if_neg (by omega), if_neg (by omega)]
      have := jnR_le f (acc ++ [jnB bs]) (n + (10 + jnN bs)) (bs.drop (10 + jnN bs))
      rw [List.length_drop] at this
      omega
    · rw [if_neg (by omega), if_pos h]
      show n ≤ _
      omega
    · rw [if_pos h]
      show 0 ≤ _
      omega
theorem jnRead_le (bs : List UInt8) : (jnRead bs).2.1 ≤ bs.length := by have := jnR_le (bs.length + 1) [] 0 bs; rw [Nat.zero_add] at this; exact this
theorem jnR_count : ∀ (f : Nat) (acc : List (List UInt8)) (n : Nat) (bs : List UInt8), acc.length ≤ n → (jnR f acc n bs).1.length ≤ n + bs.length
  | 0, _, n, bs, h => by show _ ≤ n + bs.length; simp only [jnR]; omega
  | f + 1, acc, n, bs, h => by
    rw [jnR_step]
    rcases jnK_cases bs with hk | hk | hk
    · have hz := jnK_zero hk
      rw [if_neg (by omega), if_neg (by omega)]
      have := jnR_count f (acc ++ [jnB bs]) (n + (10 + jnN bs)) (bs.drop (10 + jnN bs)) (by rw [List.length_append, List.length_cons, List.length_nil]; omega)
      rw [List.length_drop] at this
      omega
    · rw [if_neg (by omega), if_pos hk]
      show acc.length ≤ _
      omega
    · rw [if_pos hk]
      show 0 ≤ _
      omega
theorem jnRead_count (bs : List UInt8) : (jnRead bs).1.length ≤ bs.length := by have := jnR_count (bs.length + 1) [] 0 bs (by simp); rw [Nat.zero_add] at this; exact this

/-- The cells of a journal. -/
noncomputable abbrev jnCells (a b : Value) : Array Value := (Try.zeroCells126.setIfInBounds 0 a).setIfInBounds 260 b
theorem jn_cells (a b : Value) : jnCells a b = #[a] ++ rowCells 0 0 0 ++ #[b] := by
  have h : Try.zeroCells126 = #[.pointer none] ++ tabZero ++ #[.int .i64 0] := by kernel_rfl
  have e1 : ∀ (T : Array Value) (x y : Value), (#[x] ++ T ++ #[y]).setIfInBounds 0 a = #[a] ++ T ++ #[y] := fun T x y => by
    rw [Array.append_assoc, Array.setIfInBounds_append_left (by simp), Array.append_assoc]
    rfl
  have e2 : ∀ (T : Array Value) (y : Value), T.size = 259 → (#[a] ++ T ++ #[y]).setIfInBounds 260 b = #[a] ++ T ++ #[b] := fun T y hT => by
    have h2 : (#[a] ++ T).size = 260 := by rw [Array.size_append, hT]; rfl
    rw [Array.setIfInBounds_append_right (by rw [h2]; exact Nat.le_refl _), h2]
    rfl
  unfold jnCells
  rw [h, e1, e2 _ _ (by rw [rowCells_zero, rowCells_size]), rowCells_zero]
/-- A journal at block j, of the disk at g, with so many records. -/
def Jn (w : World) (j g : Nat) (n : Int) : Prop := TabP 126 #[.pointer (some ⟨g, 0, none⟩)] #[.int .i64 n] w j
theorem Jn.new (w : World) (g : Nat) (n : Int) : Jn (w.alloc (.cells (jnCells (.pointer (some ⟨g, 0, none⟩)) (.int .i64 n)) 126)) w.heap.size g n := by
  refine .inl ?_
  have := Blk.new w 126 (jnCells (.pointer (some ⟨g, 0, none⟩)) (.int .i64 n))
  rw [jn_cells] at this
  rw [jn_cells]
  exact this
theorem Jn.only {w w' : World} {j g : Nat} {n : Int} {S : Nat → Prop} (h : Jn w j g n) (ho : Only S w w') (hn : ¬ S j) : Jn w' j g n := TabP.only h ho hn

/-- What an opening tells, and leaves of the disk. -/
def opC (d : Dv) : Int := if d.on = false then 11 else if (jnRead d.bs).2.2 ≠ 0 then (jnRead d.bs).2.2 else if (jnRead d.bs).2.1 < d.bs.length ∧ d.fuse = 0 then 11 else 0
def opD (d : Dv) : Dv := if d.on = false then d else if (jnRead d.bs).2.2 ≠ 0 then d else if (jnRead d.bs).2.1 < d.bs.length then chD d 0 (dTrim (jnRead d.bs).2.1 (burnt d)) else d
/-- What it tells beside. -/
def Opn_ (w w' : World) (g : Nat) (d : Dv) (vj vl : Value) : Prop :=
  (opC d ≠ 0 ∧ vj = .pointer none ∧ vl = .slice none 0 0) ∨
  (opC d = 0 ∧ ∃ j, vj = .pointer (some ⟨j, 0, none⟩) ∧ w.heap.size ≤ j ∧ Jn w' j g ((jnRead d.bs).1.length : Int) ∧ Lst w' w.heap.size (fun b => w.heap.size ≤ b) vl (jnRead d.bs).1)
theorem Dsk.foot_lt {B w : World} {g : Nat} {d : Dv} {v : Value} (h : Dsk B g d v w) {b : Nat} (hf : foot g v b) : b < w.heap.size := by
  rcases hf with rfl | hf
  · exact h.bk.lt
  · exact (h.ow.lt b hf).2
theorem Lst.lift {w w' : World} {base n : Nat} {v : Value} {pss : List (List UInt8)} (h : Lst w base (fun b => base ≤ b) v pss) (hb : n ≤ base) : Lst w n (fun b => n ≤ b) v pss :=
  (h.based hb).mono (fun b _ hb' => Nat.le_trans hb hb')

set_option maxHeartbeats 3200000 in
theorem open_any (B : World) (g : Nat) (d : Dv) (v : Value) (w : World) (h : Dsk B g d v w) :
    Calls Try.prog 32 #[.pointer (some ⟨g, 0, none⟩)] w fun e w' => ∃ vj vl, e = .returned (.tuple #[vj, vl, .int .i64 (opC d)]) ∧ Opn_ w w' g d vj vl ∧ Left_ B g v w (opD d) w' := by
  have HRD := disk_read B g d v w h
  have H := Lib.hid h
  have hml := h.ml
  by_cases hon : d.on = false
  · have e1 : Hid (opC d = 11 ∧ opD d = d) := by constructor <;> simp [opC, opD, hon]
    rw [hon] at HRD
    simp only [Bool.false_eq_true, if_false] at HRD
    have HR := Lib.hid HRD
    clear h HRD hml hon
    go_enter Try.func32, Try.ntmps32
    go_wp2_with (first
      | (go_at_call 57; refine HR.out.mono ?_; rintro e w1 ⟨⟨A1, n1, c1, rfl, _⟩, o1⟩))
    refine bodyPost_ret (v := .tuple #[.pointer none, .slice none 0 0, .int .i64 11]) (by simp [results, Try.results32, go_sem]) rfl ?_
    rw [e1.out.2]
    exact ⟨_, _, by rw [e1.out.1], .inl ⟨by rw [e1.out.1]; decide, rfl, rfl⟩, Left_.after0 o1 (Left_.same (H.out.keep o1))⟩
  have hon1 : d.on = true := by cases hd : d.on <;> simp_all
  rw [hon1] at HRD
  simp only [if_true] at HRD
  obtain ⟨R, hR⟩ : ∃ r, jnRead d.bs = r := ⟨_, rfl⟩
  have hle := jnRead_le d.bs
  have hct := jnRead_count d.bs
  have HQ : Hid (∀ (A : Option Addr) (n c : Nat) (S : Nat → Prop) (w' : World), Byt w' S (.slice A n c) d.bs → n = d.bs.length → Calls Try.prog 58 #[.slice A n c] w' fun e w'' => ∃ v, e = .returned (.tuple #[v, .int .i64 ((jnRead d.bs).2.1 : Int), .int .i64 (jnRead d.bs).2.2]) ∧ Lst w'' (w'.heap.size + 1) (fun b => w'.heap.size + 1 ≤ b) v (jnRead d.bs).1 ∧ Only none_ w' w'') := by
    intro A n c S w' hb hn
    subst hn
    exact read7 A c d.bs S w' hb hml
  rw [hR] at hle hct
  rw [hR] at HQ
  obtain ⟨l, n, k⟩ := R
  dsimp only at HQ hle hct
  have HR := Lib.hid HRD
  obtain ⟨L, hL⟩ : ∃ L, d.bs.length = L := ⟨_, rfl⟩
  have HL := Lib.hid hL
  rw [hL] at hle hml
  by_cases hk : k = 0
  · subst hk
    by_cases hs : n < L
    · have hsb : decide ((n : Int) < (L : Int)) = true := by simp; omega
      have HT := fun (w' : World) (v' : Value) (h' : Dsk B g d v' w') => disk_trim B g n d v' w' h'
      have hf0 : (if (n : Int) < 0 ∨ (d.bs.length : Int) < (n : Int) then (2 : Int) else 0) = 0 := if_neg (by rw [hL]; omega)
      simp only [hf0, Int.toNat_natCast] at HT
      by_cases hfz : d.fuse = 0
      · have hcc : chCode d 0 = 11 := by simp [chCode, hon1, hfz]
        have e1 : Hid (opC d = 11 ∧ opD d = chD d 0 (dTrim n (burnt d))) := by
          constructor
          · simp only [opC, hon1, hR, hL]; simp [hs, hfz]
          · simp only [opD, hon1, hR, hL]; simp [hs]
        rw [hcc] at HT
        have HTT := Lib.hid HT
        clear h HRD hml hon hon1 hR hle hct HT hf0 hfz hcc hL
        go_enter Try.func32, Try.ntmps32
        go_wp2_with (first
          | (go_at_call 57; refine HR.out.mono ?_; rintro e w1 ⟨⟨A1, n1, c1, rfl, own1⟩, o1⟩
             obtain rfl : n1 = L := by rw [own_len own1]; exact HL.out
             have B1 := Lib.hid (Byt.of_own own1)
             have O1 := Lib.hid o1
             have N1 : Hid (w.heap.size ≤ w1.heap.size) := o1.size
             clear own1 o1)
          | (go_at_call 58; refine (HQ.out A1 _ c1 _ _ B1.out HL.out.symm).mono ?_; rintro e w2 ⟨v2, rfl, l2, o2⟩
             obtain ⟨A2, c2, rfl⟩ := l2.shape
             have L2 := Lib.hid l2
             have O2 := Lib.hid (O1.out.trans o2)
             have D2 := Lib.hid (H.out.keep O2.out)
             clear l2 o2)
          | (go_at_call 59; refine (HTT.out _ _ D2.out).mono ?_; rintro e w3 ⟨rfl, l3⟩
             have F3 := Lib.hid (Left_.after0 O2.out l3)
             clear l3))
        refine bodyPost_ret (v := .tuple #[.pointer none, .slice none 0 0, .int .i64 11]) (by simp [results, Try.results32, go_sem]) rfl ?_
        rw [e1.out.2]
        exact ⟨_, _, by rw [e1.out.1], .inl ⟨by rw [e1.out.1]; decide, rfl, rfl⟩, F3.out⟩
      · have hcc : chCode d 0 = 0 := by simp [chCode, hon1, hfz]
        have e1 : Hid (opC d = 0 ∧ opD d = chD d 0 (dTrim n (burnt d)) ∧ (jnRead d.bs).1 = l) := by
          refine ⟨?_, ?_, by rw [hR]⟩
          · simp only [opC, hon1, hR, hL]; simp [hfz]
          · simp only [opD, hon1, hR, hL]; simp [hs]
        rw [hcc] at HT
        have HTT := Lib.hid HT
        clear h HRD hml hon hon1 hR hle hct HT hf0 hfz hcc hL
        go_enter Try.func32, Try.ntmps32
        go_wp2_with (first
          | (go_at_call 57; refine HR.out.mono ?_; rintro e w1 ⟨⟨A1, n1, c1, rfl, own1⟩, o1⟩
             obtain rfl : n1 = L := by rw [own_len own1]; exact HL.out
             have B1 := Lib.hid (Byt.of_own own1)
             have O1 := Lib.hid o1
             have N1 : Hid (w.heap.size ≤ w1.heap.size) := o1.size
             clear own1 o1)
          | (go_at_call 58; refine (HQ.out A1 _ c1 _ _ B1.out HL.out.symm).mono ?_; rintro e w2 ⟨v2, rfl, l2, o2⟩
             obtain ⟨A2, c2, rfl⟩ := l2.shape
             have L2 := Lib.hid l2
             have O2 := Lib.hid (O1.out.trans o2)
             have D2 := Lib.hid (H.out.keep O2.out)
             clear l2 o2)
          | (go_at_call 59; refine (HTT.out _ _ D2.out).mono ?_; rintro e w3 ⟨rfl, l3⟩
             have F3 := Lib.hid (Left_.after0 O2.out l3)
             obtain ⟨v3, d3, o3, m3⟩ := l3
             have L3 := Lib.hid (L2.out.only o3 (fun b hb hf => by have h1 := H.out.foot_lt hf; have h2 := (L2.out.own_lt b hb).1; have h3 := N1.out; omega) (fun b hb hf => by have h1 := H.out.foot_lt hf; have hb' : w1.heap.size + 1 ≤ b := hb; have h3 := N1.out; omega))
             have N3 : Hid (w.heap.size ≤ w3.heap.size) := Nat.le_trans O2.out.size o3.size
             clear d3 o3 m3))
        refine bodyPost_ret (v := .tuple #[.pointer (some ⟨w3.heap.size, 0, none⟩), .slice A2 l.length c2, .int .i64 0]) (by simp [results, Try.results32, go_sem]) rfl ?_
        have oa := (Only.refl none_ w3).alloc (.cells (jnCells (.pointer (some ⟨g, 0, none⟩)) (.int .i64 (l.length : Int))) 126)
        rw [e1.out.2.1]
        refine ⟨_, _, by rw [e1.out.1], .inr ⟨e1.out.1, w3.heap.size, rfl, N3.out, ?_, ?_⟩, by obtain ⟨v3, d3, o3, m3⟩ := F3.out; exact ⟨v3, d3.keep oa, o3.trans' oa (fun _ _ h => h.elim), m3⟩⟩
        · rw [e1.out.2.2]; exact Jn.new _ _ _
        · rw [e1.out.2.2]; exact Lst.lift (w' := w) (L3.out.keep oa) (Nat.le_succ_of_le N1.out)
    · have hnL : n = L := by omega
      have hsb : decide ((n : Int) < (L : Int)) = false := by simp; omega
      have e1 : Hid (opC d = 0 ∧ opD d = d ∧ (jnRead d.bs).1 = l) := by
        refine ⟨?_, ?_, by rw [hR]⟩
        · simp only [opC, hon1, hR, hL]; simp [hs]
        · simp only [opD, hon1, hR, hL]; simp [hs]
      clear h HRD hml hon hon1 hR hle hct hL hnL
      go_enter Try.func32, Try.ntmps32
      go_wp2_with (first
        | (go_at_call 57; refine HR.out.mono ?_; rintro e w1 ⟨⟨A1, n1, c1, rfl, own1⟩, o1⟩
           obtain rfl : n1 = L := by rw [own_len own1]; exact HL.out
           have B1 := Lib.hid (Byt.of_own own1)
           have O1 := Lib.hid o1
           have N1 : Hid (w.heap.size ≤ w1.heap.size) := o1.size
           clear own1 o1)
        | (go_at_call 58; refine (HQ.out A1 _ c1 _ _ B1.out HL.out.symm).mono ?_; rintro e w2 ⟨v2, rfl, l2, o2⟩
           obtain ⟨A2, c2, rfl⟩ := l2.shape
           have L2 := Lib.hid l2
           have O2 := Lib.hid (O1.out.trans o2)
           have D2 := Lib.hid (H.out.keep O2.out)
           clear l2 o2))
      refine bodyPost_ret (v := .tuple #[.pointer (some ⟨w2.heap.size, 0, none⟩), .slice A2 l.length c2, .int .i64 0]) (by simp [results, Try.results32, go_sem]) rfl ?_
      have oa := (Only.refl none_ w2).alloc (.cells (jnCells (.pointer (some ⟨g, 0, none⟩)) (.int .i64 (l.length : Int))) 126)
      rw [e1.out.2.1]
      refine ⟨_, _, by rw [e1.out.1], .inr ⟨e1.out.1, w2.heap.size, rfl, O2.out.size, ?_, ?_⟩, Left_.after0 (O2.out.trans oa) (Left_.same (D2.out.keep oa))⟩
      · rw [e1.out.2.2]; exact Jn.new _ _ _
      · rw [e1.out.2.2]; exact Lst.lift (w' := w) (L2.out.keep oa) (Nat.le_succ_of_le N1.out)
  · have hkb : (k != 0) = true := by simpa using hk
    have e1 : Hid (opC d = k ∧ opD d = d) := by
      constructor
      · simp only [opC, hon1, hR]; simp [hk]
      · simp only [opD, hon1, hR]; simp [hk]
    have HK := Lib.hid hk
    clear h HRD hml hon hon1 hR hle hct hk hL
    go_enter Try.func32, Try.ntmps32
    go_wp2_with (first
      | (go_at_call 57; refine HR.out.mono ?_; rintro e w1 ⟨⟨A1, n1, c1, rfl, own1⟩, o1⟩
         obtain rfl : n1 = L := by rw [own_len own1]; exact HL.out
         have B1 := Lib.hid (Byt.of_own own1)
         have O1 := Lib.hid o1
         have N1 : Hid (w.heap.size ≤ w1.heap.size) := o1.size
         clear own1 o1)
      | (go_at_call 58; refine (HQ.out A1 _ c1 _ _ B1.out HL.out.symm).mono ?_; rintro e w2 ⟨v2, rfl, l2, o2⟩
         obtain ⟨A2, c2, rfl⟩ := l2.shape
         have L2 := Lib.hid l2
         have O2 := Lib.hid (O1.out.trans o2)
         have D2 := Lib.hid (H.out.keep O2.out)
         clear l2 o2))
    refine bodyPost_ret (v := .tuple #[.pointer none, .slice none 0 0, .int .i64 k]) (by simp [results, Try.results32, go_sem]) rfl ?_
    rw [e1.out.2]
    exact ⟨_, _, by rw [e1.out.1], .inl ⟨by rw [e1.out.1]; exact HK.out, rfl, rfl⟩, Left_.after0 O2.out (Left_.same D2.out)⟩
end Go.Proofs.Ytbhdnhnkiibaaaa
