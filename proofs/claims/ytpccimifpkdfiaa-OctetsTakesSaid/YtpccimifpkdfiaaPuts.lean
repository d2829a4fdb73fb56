/- A slice of puts that came in, as a list; and whether they are few. No statement of the seat is proved here. -/
import Derived.Test.YtpccimifpkdfiaaLawA
namespace Go.Proofs.Ytpccimifpkdfiaa
open Go.RowKit

/-- A put: kind, width, number, the value of its bytes, its bytes. -/
structure PutR where
  kind : Int
  width : Int
  v : Nat
  x : Value
  bs : List UInt8

/-- The four cells of a put. -/
def PutAt (w : World) (S : Nat → Prop) (b o : Nat) (p : PutR) : Prop :=
  w.cell? ⟨b, o, none⟩ = some (.int .i64 p.kind) ∧ w.cell? ⟨b, o + 1, none⟩ = some (.int .i64 p.width) ∧ w.cell? ⟨b, o + 2, none⟩ = some (.int .u64 (p.v : Int)) ∧ w.cell? ⟨b, o + 3, none⟩ = some p.x ∧
    p.v < 18446744073709551616 ∧ Byt w S p.x p.bs
/-- A slice of puts that is only read. -/
def Puts (w : World) (S : Nat → Prop) (pv : Value) (l : List PutR) : Prop :=
  ∃ A c, pv = .slice A l.length c ∧ l.length ≤ maxLen ∧ (0 < l.length → ∃ b off, A = some ⟨b, off, none⟩ ∧ b < w.heap.size ∧ S b ∧ ∀ j (hj : j < l.length), PutAt w S b (off + j * 4) l[j])

theorem PutAt.only {w w' : World} {S T : Nat → Prop} {b o : Nat} {p : PutR} (h : PutAt w S b o p) (hb : b < w.heap.size) (hS : S b) (ho : Only T w w') (hn : ∀ b, S b → ¬ T b) : PutAt w' S b o p := by
  obtain ⟨h0, h1, h2, h3, h4, h5⟩ := h
  exact ⟨(ho.cell hb (hn b hS)).trans h0, (ho.cell hb (hn b hS)).trans h1, (ho.cell hb (hn b hS)).trans h2, (ho.cell hb (hn b hS)).trans h3, h4, h5.only ho hn⟩
theorem Puts.only {w w' : World} {S T : Nat → Prop} {pv : Value} {l : List PutR} (h : Puts w S pv l) (ho : Only T w w') (hn : ∀ b, S b → ¬ T b) : Puts w' S pv l := by
  obtain ⟨A, c, rfl, hm, h⟩ := h
  refine ⟨A, c, rfl, hm, fun hp => ?_⟩
  obtain ⟨b, off, rfl, hb, hS, hc⟩ := h hp
  exact ⟨b, off, rfl, Nat.lt_of_lt_of_le hb ho.size, hS, fun j hj => (hc j hj).only hb hS ho hn⟩

def fewP (l : List PutR) : Prop := (∀ p ∈ l, p.bs.length ≤ 300) ∧ l.length ≤ 40

set_option maxHeartbeats 400000 in
theorem few_yes (pv : Value) (l : List PutR) (S : Nat → Prop) (w : World) (h : Puts w S pv l) (hf : ∀ p ∈ l, p.bs.length ≤ 300) (T : Bool) (hT : T = decide (l.length ≤ 40)) :
    Calls Try.prog 9 #[pv] w fun e w' => e = .returned (.bool T) ∧ Only none_ w w' := by
  obtain ⟨A, c, rfl, hm, h⟩ := h
  unfold maxLen at hm
  have H := Lib.hid h
  have HF := Lib.hid hf
  have HT := Lib.hid hT
  clear h hf hT
  go_enter Try.func9, Try.ntmps9
  go_wp2
  go_loopw [7] (fun i wr => ∃ k : Nat, k ≤ l.length ∧ i = .int .i64 k ∧ Only none_ w wr) (fun i _ => l.length - (intOf i).toNat)
  case atStart => exact ⟨0, by omega, rfl, Only.refl _ _⟩
  case round =>
    obtain ⟨k, hk, rfl, ho⟩ := hrel
    by_cases hlt : k < l.length
    · obtain ⟨b, off, rfl, hb, hS, hc⟩ := H.out (by omega)
      obtain ⟨h0, h1, h2, h3, h4, h5⟩ := (hc k hlt).only hb hS ho (fun _ _ h => h)
      have h6 := HF.out l[k] (List.getElem_mem hlt)
      obtain ⟨p, hp⟩ : ∃ p, p = l[k] := ⟨_, rfl⟩
      rw [← hp] at h0 h1 h2 h3 h4 h5 h6
      obtain ⟨A', c', hx, _⟩ := h5
      rw [hx] at h3
      clear hp hx hc
      go_wp2
      go_roundw
      case rel => exact ⟨k + 1, by omega, by go_num, ho.alloc _⟩
      case measure => simp [intOf]; omega
    · have h9 : Hid (T = decide ((l.length : Int) ≤ 40)) := by
        rw [Hid, HT.out, Bool.eq_iff_iff]
        simp only [decide_eq_true_eq]
        omega
      go_wp2
      go_ret
      rw [h9.out]
      exact ⟨rfl, ho⟩

set_option maxHeartbeats 400000 in
theorem few_no (pv : Value) (l : List PutR) (S : Nat → Prop) (w : World) (h : Puts w S pv l) (m : Nat) (hm : m < l.length) (hf : ∀ j (hj : j < l.length), j < m → l[j].bs.length ≤ 300) (hx : 300 < l[m].bs.length) :
    Calls Try.prog 9 #[pv] w fun e w' => e = .returned (.bool false) ∧ Only none_ w w' := by
  obtain ⟨A, c, rfl, hm', h⟩ := h
  unfold maxLen at hm'
  obtain ⟨b, off, rfl, hb, hS, hc⟩ := h (by omega)
  have HC := Lib.hid hc
  have HF := Lib.hid hf
  have HX := Lib.hid hx
  clear h hf hc hx
  go_enter Try.func9, Try.ntmps9
  go_wp2
  go_loopw [7] (fun i wr => ∃ k : Nat, k ≤ m ∧ i = .int .i64 k ∧ Only none_ w wr) (fun i _ => l.length - (intOf i).toNat)
  case atStart => exact ⟨0, by omega, rfl, Only.refl _ _⟩
  case round =>
    obtain ⟨k, hk, rfl, ho⟩ := hrel
    have hlt : k < l.length := by omega
    obtain ⟨h0, h1, h2, h3, h4, h5⟩ := (HC.out k hlt).only hb hS ho (fun _ _ h => h)
    by_cases hkm : k < m
    · have h6 := HF.out k hlt hkm
      obtain ⟨p, hp⟩ : ∃ p, p = l[k] := ⟨_, rfl⟩
      rw [← hp] at h0 h1 h2 h3 h4 h5 h6
      obtain ⟨A', c', hx, _⟩ := h5
      rw [hx] at h3
      clear hp hx
      go_wp2
      go_roundw
      case rel => exact ⟨k + 1, by omega, by go_num, ho.alloc _⟩
      case measure => simp [intOf]; omega
    · obtain rfl : k = m := by omega
      have h6 := HX.out
      obtain ⟨p, hp⟩ : ∃ p, p = l[k] := ⟨_, rfl⟩
      rw [← hp] at h0 h1 h2 h3 h4 h5 h6
      obtain ⟨A', c', hx, _⟩ := h5
      rw [hx] at h3
      clear hp hx
      go_wp2
      go_ret
      exact ⟨rfl, ho.alloc _⟩

theorem few_any (pv : Value) (l : List PutR) (S : Nat → Prop) (w : World) (_h : Puts w S pv l) :
    ∃ T : Bool, (T = true ↔ fewP l) ∧ ∀ w', Puts w' S pv l → Calls Try.prog 9 #[pv] w' fun e w'' => e = .returned (.bool T) ∧ Only none_ w' w'' := by
  by_cases hf : ∀ p ∈ l, p.bs.length ≤ 300
  · refine ⟨decide (l.length ≤ 40), by simp only [fewP, decide_eq_true_eq]; exact ⟨fun h => ⟨hf, h⟩, fun h => h.2⟩, fun w' h' => few_yes pv l S w' h' hf _ rfl⟩
  · have : ∃ m, ∃ hm : m < l.length, 300 < l[m].bs.length ∧ ∀ j (hj : j < l.length), j < m → l[j].bs.length ≤ 300 := by
      clear _h
      induction l with
      | nil => simp at hf
      | cons p r ih =>
        by_cases hp : p.bs.length ≤ 300
        · have hr : ¬ ∀ q ∈ r, q.bs.length ≤ 300 := fun h => hf fun q hq => by
            rcases List.mem_cons.1 hq with rfl | hq
            · exact hp
            · exact h q hq
          obtain ⟨m, hm, h1, h2⟩ := ih hr
          refine ⟨m + 1, by simpa using hm, by simpa using h1, fun j hj hjm => ?_⟩
          match j with
          | 0 => simpa using hp
          | j + 1 => simpa using h2 j (by simpa using hj) (by omega)
        · exact ⟨0, by simp, by simp; omega, fun j _ h => absurd h (by omega)⟩
    obtain ⟨m, hm, h1, h2⟩ := this
    refine ⟨false, ?_, fun w' h' => few_no pv l S w' h' m hm h2 h1⟩
    simp only [Bool.false_eq_true, false_iff]
    exact fun h => hf h.1

/-- A take: kind, number. -/
structure TakeR where
  kind : Int
  n : Int
def TakeAt (w : World) (b o : Nat) (t : TakeR) : Prop :=
  w.cell? ⟨b, o, none⟩ = some (.int .i64 t.kind) ∧ w.cell? ⟨b, o + 1, none⟩ = some (.int .i64 t.n)
/-- A slice of takes that is only read. -/
def Takes (w : World) (S : Nat → Prop) (tv : Value) (l : List TakeR) : Prop :=
  ∃ A c, tv = .slice A l.length c ∧ l.length ≤ maxLen ∧ (0 < l.length → ∃ b off, A = some ⟨b, off, none⟩ ∧ b < w.heap.size ∧ S b ∧ ∀ j (hj : j < l.length), TakeAt w b (off + j * 2) l[j])
theorem Takes.only {w w' : World} {S T : Nat → Prop} {tv : Value} {l : List TakeR} (h : Takes w S tv l) (ho : Only T w w') (hn : ∀ b, S b → ¬ T b) : Takes w' S tv l := by
  obtain ⟨A, c, rfl, hm, h⟩ := h
  refine ⟨A, c, rfl, hm, fun hp => ?_⟩
  obtain ⟨b, off, rfl, hb, hS, hc⟩ := h hp
  exact ⟨b, off, rfl, Nat.lt_of_lt_of_le hb ho.size, hS, fun j hj => ⟨(ho.cell hb (hn b hS)).trans (hc j hj).1, (ho.cell hb (hn b hS)).trans (hc j hj).2⟩⟩

/-! Behind an error nothing is put and nothing is taken. -/
theorem first_stop {c e : Int} (h : c ≠ 0) : first_ c e = c := by simp [first_, h]
theorem numCode_stop {c : Int} (h : c ≠ 0) (n : Nat) (wd : Int) : numCode c n wd = c := by unfold numCode; split <;> (try split) <;> first | rfl | exact first_stop h
theorem putS_stop {c : Int} (h : c ≠ 0) (bs x : List UInt8) : putS c bs x = bs := by simp [putS, h]
theorem numBs_stop {c : Int} (h : c ≠ 0) (bs : List UInt8) (n : Nat) (wd : Int) : numBs c bs n wd = bs := by unfold numBs; split <;> (try split) <;> first | rfl | exact putS_stop h _ _
theorem textCode_stop {c : Int} (h : c ≠ 0) (s : List UInt8) : textCode c s = c := by unfold textCode; split <;> first | rfl | exact first_stop h
theorem textBs_stop {c : Int} (h : c ≠ 0) (bs s : List UInt8) : textBs c bs s = bs := by unfold textBs; split <;> first | rfl | exact putS_stop h _ _
theorem takeCode_stop {c : Int} (h : c ≠ 0) (bs : List UInt8) (n : Nat) : takeCode c bs n = c := by unfold takeCode; split <;> first | rfl | exact first_stop h
theorem rawR_stop {c : Int} (h : c ≠ 0) (bs : List UInt8) (n : Int) : rawR c bs n = (c, bs, []) := by
  unfold rawR
  rw [first_stop h, takeCode_stop h]
  split
  · rfl
  · rw [if_neg (fun h' => h h'.1)]
theorem numR_stop {c : Int} (h : c ≠ 0) (bs : List UInt8) (n : Int) : numR c bs n = (c, bs, 0) := by
  unfold numR
  rw [first_stop h, takeCode_stop h]
  split
  · rw [if_neg (fun h' => h h'.1)]
  · rfl
theorem flagR_stop {c : Int} (h : c ≠ 0) (bs : List UInt8) : flagR c bs = (c, bs, false) := by
  cases bs <;> simp [flagR, first_stop h, h]
theorem textR_stop {c : Int} (h : c ≠ 0) (bs : List UInt8) (m : Int) : textR c bs m = (c, bs, []) := by
  cases bs <;> simp [textR, first_stop h, h]
theorem doneCode_stop {c : Int} (h : c ≠ 0) (bs : List UInt8) : doneCode c bs = c := by unfold doneCode; split <;> first | rfl | exact first_stop h
end Go.Proofs.Ytpccimifpkdfiaa
