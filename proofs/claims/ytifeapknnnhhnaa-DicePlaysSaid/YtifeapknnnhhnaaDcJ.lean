/- Acts with dice: how they lie, how they came in; whether they are few. No statement of the seat is proved here. -/
import Derived.Test.YtifeapknnnhhnaaOpenZ
import Derived.Test.YtifeapknnnhhnaaDcG
import Derived.Lib.SmallJoins
namespace Go.Proofs.Ytifeapknnnhhnaa
open Go.Joins Go.ChangeShapes Go.WideShapes Go.RowKit Go.Deep
set_option linter.all false
set_option maxRecDepth 100000

/-- An act: its kind, its number, the value of its list, the list. -/
structure Za where
  k : Int
  n : Int
  x : Value
  l : List Int
def zaRow (a : Za) : List Value := [.int .i64 a.k, .int .i64 a.n, a.x]
theorem zaRow_length (a : Za) : (zaRow a).length = 3 := rfl
def zaOk (W : World) (a : Za) : Prop := Nm W (fun b => b < W.heap.size) a.x a.l ∧ I64 a.n
def zaShort (a : Za) : Bool := decide (a.l.length ≤ 30)
def zaFew (l : List Za) : Bool := l.all zaShort && decide (l.length ≤ 40)
theorem trod_z3 {H : Type} {enc : TypeId × Value → H} {P : Program} {w : World} {base : Nat} {spare : Nat → Bool} {held : Bool} {t : TypeId} {f0 f1 f2 : Field} {fuel : Nat} {cs : List Value} {x : DataW H × List MemPlace} (ht : P.underlying t = some (.struct #[f0, f1, f2])) (h : DataW.trod enc P w base spare held fuel t cs = some x) :
    ∃ y0 y1 y2 n, DataW.trod enc P w base spare held n f0.type ((cs.drop f0.offset).take (P.cellsOf f0.type)) = some y0 ∧ DataW.trod enc P w base spare held n f1.type ((cs.drop f1.offset).take (P.cellsOf f1.type)) = some y1 ∧ DataW.trod enc P w base spare held n f2.type ((cs.drop f2.offset).take (P.cellsOf f2.type)) = some y2 := by
  obtain ⟨xs, n, _, _, _, hlen, hf⟩ := DataW.trod_struct ht h
  match xs, hlen with
  | [y0, y1, y2], _ => exact ⟨y0, y1, y2, n, by simpa using hf 0 f0 rfl, by simpa using hf 1 f1 rfl, by simpa using hf 2 f2 rfl⟩
theorem za_cells {H : Type} {enc : TypeId × Value → H} {W : World} (n : Nat) (r : List Value) (y : DataW H × List MemPlace) (hr : r.length = 3) (h : DataW.trod enc Try.prog W 0 (fun _ => true) true n 29 r = some y) :
    ∃ a : Za, r = zaRow a ∧ zaOk W a := by
  obtain ⟨y0, y1, y2, n', h0, h1, h2⟩ := trod_z3 Try.underlying29 h
  match r, hr with
  | [r0, r1, r2], _ =>
      have e0 : Try.prog.cellsOf 3 = 1 := by kernel_rfl
      have e1 : Try.prog.cellsOf 22 = 1 := by kernel_rfl
      simp only [e0, e1, List.drop_zero, List.drop_succ_cons, List.take_succ_cons, List.take_zero] at h0 h1 h2
      obtain ⟨k, q0, _, w0⟩ := DataW.trod_int Try.underlying3 h0
      obtain ⟨m, q1, _, w1⟩ := DataW.trod_int Try.underlying3 h1
      obtain ⟨zs, hb, _⟩ := ints_cell h2
      simp only [List.cons.injEq, and_true] at q0 q1
      subst q0 q1
      have hw := bounds_i64 w1
      exact ⟨⟨k, m, r2, zs⟩, rfl, hb, hw.1, by show m ≤ _; omega⟩
theorem zas_arg {H : Type} {enc : TypeId × Value → H} {W : World} {a : Option Addr} {len cap : Nat} {d : DataW H} {p : List MemPlace} (h : DataW.Trod enc Try.prog W 0 (fun _ => true) true 23 (.slice a len cap) d p) :
    ∃ l : List Za, len = l.length ∧ Cel W (fun b => b < W.heap.size) (.slice a len cap) len 3 (l.flatMap zaRow) ∧ ∀ x ∈ l, zaOk W x :=
  cel_in zaRow (zaOk W) Try.underlying23 (by kernel_rfl) zaRow_length (by omega) (fun n r y hr ht => za_cells n r y hr ht) h

/-- One act of a slice: where it lies. -/
theorem za_at {W w : World} {A : Option Addr} {L c j : Nat} {l : List Za} (h : Cel W (fun b => b < W.heap.size) (.slice A L c) L 3 (l.flatMap zaRow)) {a : Za} (ha : l[j]? = some a) (hl : L = l.length) (o : Only none_ W w) :
    ∃ (b off : Nat), A = some ⟨b, off, none⟩ ∧ w.cell? ⟨b, off + j * 3, none⟩ = some (.int .i64 a.k) ∧ w.cell? ⟨b, off + j * 3 + 1, none⟩ = some (.int .i64 a.n) ∧ w.cell? ⟨b, off + j * 3 + 2, none⟩ = some a.x := by
  obtain ⟨A', c', hv, _, _, _, _, h4⟩ := h
  injection hv with e1 e2 e3
  subst e1 e3
  have hj : j < l.length := (List.getElem?_eq_some_iff.1 ha).1
  obtain ⟨b, off, rfl, _, hlt, hc⟩ := h4 (by omega)
  have f := flat_at zaRow zaRow_length l j a ha
  have c0 := (o.cell (p := ⟨b, off + (j * 3 + 0), none⟩) hlt (fun h => h)).trans (hc _ _ (f 0 (by omega)))
  have c1 := (o.cell (p := ⟨b, off + (j * 3 + 1), none⟩) hlt (fun h => h)).trans (hc _ _ (f 1 (by omega)))
  have c2 := (o.cell (p := ⟨b, off + (j * 3 + 2), none⟩) hlt (fun h => h)).trans (hc _ _ (f 2 (by omega)))
  exact ⟨b, off, rfl, c0, c1, c2⟩
theorem za_succ {l : List Za} {k : Nat} {e : Za} (h : l[k]? = some e) : (l.take (k + 1)).all zaShort = ((l.take k).all zaShort && zaShort e) := by
  obtain ⟨hk, hb⟩ := List.getElem?_eq_some_iff.1 h
  rw [List.take_succ_eq_append_getElem hk, List.all_append, hb]
  simp

set_option maxHeartbeats 3200000 in
theorem za_few (A : Option Addr) (L c : Nat) (l : List Za) (W w : World) (hx : Cel W (fun b => b < W.heap.size) (.slice A L c) L 3 (l.flatMap zaRow)) (hL : L = l.length) (ok : ∀ x ∈ l, zaOk W x) (o : Only none_ W w) :
    Calls Try.prog 7 #[.slice A L c] w fun E w' => E = .returned (.bool (zaFew l)) ∧ Only none_ w w' := by
  have hLm : L ≤ 9223372036854775807 := by obtain ⟨A', c', e, _, h1, h2, _⟩ := hx; injection e with _ e2 _; simp only [maxLen] at h2; omega
  have HX := Lib.hid hx
  have HL := Lib.hid hL
  have HOK := Lib.hid ok
  have HO := Lib.hid o
  have O0 := Lib.hid (Only.refl none_ w)
  clear hx hL ok o
  go_enter Try.func7, Try.ntmps7
  go_wp2_with fail
  go_loopw [7] (fun i wr => ∃ k : Nat, k ≤ L ∧ i = .int .i64 (k : Int) ∧ (l.take k).all zaShort = true ∧ Only none_ w wr) (fun i _ => L - (intOf i).toNat)
  case atStart => exact ⟨0, Nat.zero_le _, rfl, by simp, O0.out⟩
  case round =>
    obtain ⟨k, hk, rfl, hall, ho⟩ := hrel
    have HW := Lib.hid ho
    have HA := Lib.hid hall
    clear ho hall
    by_cases hlt : k < L
    · have hki : (k : Int) < (L : Int) := by omega
      obtain ⟨a, ha⟩ : ∃ a, l[k]? = some a := ⟨l[k]'(by have := HL.out; omega), List.getElem?_eq_getElem _⟩
      obtain ⟨b, off, hA, c0, c1, c2⟩ := za_at HX.out ha HL.out (HO.out.trans HW.out)
      subst hA
      have HS := Lib.hid (za_succ ha)
      have hmem : a ∈ l := List.mem_of_getElem? ha
      obtain ⟨hnm, hn64⟩ := HOK.out a hmem
      obtain ⟨AX, cX, hxe⟩ := hnm.shape
      obtain ⟨M, hM⟩ : ∃ M, a.l.length = M := ⟨_, rfl⟩
      rw [hM] at hxe
      have HM := Lib.hid hM
      have O5 := Lib.hid (HW.out.alloc (.cells #[.int .i64 a.k, .int .i64 a.n, .slice AX M cX] 29))
      have HF : Hid (zaShort a = false → zaFew l = false) := fun e => by
        rw [zaFew, List.all_eq_false.2 ⟨a, hmem, by simp [e]⟩]
        rfl
      obtain ⟨ak, an, ax, al⟩ := a
      simp only at hxe c0 c1 c2
      subst hxe
      clear ha hmem hnm hn64 hM
      by_cases h1 : (M : Int) ≤ 30
      · have HSS : Hid (zaShort ⟨ak, an, .slice AX M cX, al⟩ = true) := by have := HM.out; simp [Hid, zaShort]; simp at this; omega
        clear HF
        go_wp2_with fail
        go_roundw
        case rel => exact ⟨k + 1, by omega, by go_num, by rw [HS.out, HA.out, HSS.out]; rfl, O5.out⟩
        case measure => simp [intOf]; omega
      · have HSS : Hid (zaShort ⟨ak, an, .slice AX M cX, al⟩ = false) := by have := HM.out; simp [Hid, zaShort]; simp at this; omega
        have HFF : Hid (zaFew l = false) := HF.out HSS.out
        clear HF
        go_wp2_with fail
        go_ret
        exact ⟨by rw [HFF.out]; rfl, O5.out⟩
    · obtain rfl : k = L := by omega
      have HT : Hid (l.all zaShort = true) := by have := HA.out; rwa [HL.out, List.take_length] at this
      by_cases h40 : k ≤ 40
      · have hz : Hid (zaFew l = true) := by rw [Hid, zaFew, HT.out, ← HL.out]; simp [h40]
        have hd : decide ((k : Int) ≤ 40) = true := by simp; omega
        go_wp2_with fail
        go_ret
        exact ⟨by rw [hz.out]; rfl, HW.out⟩
      · have hz : Hid (zaFew l = false) := by rw [Hid, zaFew, HT.out, ← HL.out]; simp; omega
        have hd : decide ((k : Int) ≤ 40) = false := by simp; omega
        go_wp2_with fail
        go_ret
        exact ⟨by rw [hz.out]; rfl, HW.out⟩
end Go.Proofs.Ytifeapknnnhhnaa
