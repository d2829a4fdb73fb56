/- Acts with an index: how they lie; whether they are few. No statement of the seat is proved here. -/
import Derived.Test.YtclngnoapfjghaaRcW
import Derived.Test.YtclngnoapfjghaaRcU
import Derived.Test.YtclngnoapfjghaaRcT
import Derived.Test.YtclngnoapfjghaaRcV
namespace Go.Proofs.Ytclngnoapfjghaa
open Go.RowKit
set_option maxRecDepth 100000
set_option linter.all false

/-- What is done with an index. -/
structure Ra where
  kind : Int
  m : Mk
  b : Mk
  n : Int
def raRow (x : Ra) : List Value := [.int .i64 x.kind, .int .i64 x.m.a.c, .int .i64 x.m.a.s, .string x.m.k, .int .i64 x.b.a.c, .int .i64 x.b.a.s, .string x.b.k, .int .i64 x.n]
theorem raRow_length (x : Ra) : (raRow x).length = 8 := rfl
def raShort (x : Ra) : Bool := decide (x.m.k.size ≤ 40) && decide (x.b.k.size ≤ 40)
theorem ra_row {W w : World} {b off : Nat} {l : List Ra} (hc : ∀ j u, (l.flatMap raRow)[j]? = some u → W.cell? ⟨b, off + j, none⟩ = some u) (o : Only none_ W w) (hb : b < W.heap.size) {k : Nat} {a : Ra} (ha : l[k]? = some a) :
    ∀ j u, (raRow a)[j]? = some u → w.cell? ⟨b, off + k * 8 + j, none⟩ = some u := fun j u hu => by
  have hj : j < 8 := by have := (List.getElem?_eq_some_iff.1 hu).1; rwa [raRow_length] at this
  have h := flat_at raRow raRow_length l k a ha j hj
  rw [Nat.add_assoc]
  exact (o.cell (p := ⟨b, off + (k * 8 + j), none⟩) hb (fun h => h)).trans (hc _ _ (h.trans hu))
theorem ra_at {W w : World} {b off : Nat} {l : List Ra} (hc : ∀ j u, (l.flatMap raRow)[j]? = some u → W.cell? ⟨b, off + j, none⟩ = some u) (o : Only none_ W w) (hb : b < W.heap.size) {k : Nat} {a : Ra} (ha : l[k]? = some a) :
    w.cell? ⟨b, off + k * 8, none⟩ = some (.int .i64 a.kind) ∧ w.cell? ⟨b, off + k * 8 + 1, none⟩ = some (.int .i64 a.m.a.c) ∧ w.cell? ⟨b, off + k * 8 + 2, none⟩ = some (.int .i64 a.m.a.s) ∧ w.cell? ⟨b, off + k * 8 + 3, none⟩ = some (.string a.m.k) ∧ w.cell? ⟨b, off + k * 8 + 4, none⟩ = some (.int .i64 a.b.a.c) ∧ w.cell? ⟨b, off + k * 8 + 5, none⟩ = some (.int .i64 a.b.a.s) ∧ w.cell? ⟨b, off + k * 8 + 6, none⟩ = some (.string a.b.k) ∧ w.cell? ⟨b, off + k * 8 + 7, none⟩ = some (.int .i64 a.n) := by
  have h := ra_row hc o hb ha
  exact ⟨h 0 _ rfl, h 1 _ rfl, h 2 _ rfl, h 3 _ rfl, h 4 _ rfl, h 5 _ rfl, h 6 _ rfl, h 7 _ rfl⟩
theorem ra_succ {l : List Ra} {k : Nat} {e : Ra} (h : l[k]? = some e) : (l.take (k + 1)).all raShort = ((l.take k).all raShort && raShort e) := by
  obtain ⟨hk, hb⟩ := List.getElem?_eq_some_iff.1 h
  rw [List.take_succ_eq_append_getElem hk, List.all_append, hb]
  simp

set_option maxHeartbeats 3200000 in
theorem r_few (v : Value) (l : List Ra) (w : World) (S : Nat → Prop) (hx : Cel w S v l.length 8 (l.flatMap raRow)) :
    Calls Try.prog 10 #[v] w fun E w' => E = .returned (.bool (l.all raShort && decide (l.length ≤ 60))) ∧ Only none_ w w' := by
  obtain ⟨A, c, rfl, _, h2, h3, _, h4⟩ := hx
  obtain ⟨L, hL⟩ : ∃ L, L = l.length := ⟨_, rfl⟩
  rw [← hL] at h2 h4 ⊢
  have HX := Lib.hid h4
  have HL := Lib.hid hL
  have hLm : L ≤ 9223372036854775807 := by simp only [maxLen] at h3; omega
  have O0 := Lib.hid (Only.refl none_ w)
  clear h4 hL
  go_enter Try.func10, Try.ntmps10
  go_wp2_with fail
  go_loopw [7] (fun i wr => ∃ k : Nat, k ≤ L ∧ i = .int .i64 (k : Int) ∧ (l.take k).all raShort = true ∧ Only none_ w wr) (fun i _ => L - (intOf i).toNat)
  case atStart => exact ⟨0, Nat.zero_le _, rfl, by simp, O0.out⟩
  case round =>
    obtain ⟨k, hk, rfl, hall, ho⟩ := hrel
    have HW := Lib.hid ho
    have HA := Lib.hid hall
    clear ho hall
    by_cases hlt : k < L
    · obtain ⟨b, off, rfl, _, hb, hc⟩ := HX.out (by omega)
      obtain ⟨a, ha⟩ : ∃ a, l[k]? = some a := ⟨l[k]'(by have := HL.out; omega), List.getElem?_eq_getElem _⟩
      have q := ra_at hc HW.out hb ha
      have HS := Lib.hid (ra_succ ha)
      have hmem : a ∈ l := List.mem_of_getElem? ha
      have O5 := Lib.hid (HW.out.alloc (.cells #[.int .i64 a.kind, .int .i64 a.m.a.c, .int .i64 a.m.a.s, .string a.m.k, .int .i64 a.b.a.c, .int .i64 a.b.a.s, .string a.b.k, .int .i64 a.n] 33))
      by_cases h1 : (a.m.k.size : Int) ≤ 40
      · by_cases h2 : (a.b.k.size : Int) ≤ 40
        · have HSS : Hid (raShort a = true) := by simp [Hid, raShort]; omega
          clear ha hc hmem
          go_wp2_with fail
          go_roundw
          case rel => exact ⟨k + 1, by omega, by go_num, by rw [HS.out, HA.out, HSS.out]; rfl, O5.out⟩
          case measure => simp [intOf]; omega
        · have HF : Hid (l.all raShort = false) := by rw [Hid, List.all_eq_false]; exact ⟨a, hmem, by simp [raShort]; omega⟩
          clear ha hc hmem
          go_wp2_with fail
          go_ret
          exact ⟨by rw [HF.out]; rfl, O5.out⟩
      · have HF : Hid (l.all raShort = false) := by rw [Hid, List.all_eq_false]; exact ⟨a, hmem, by simp [raShort]; omega⟩
        clear ha hc hmem
        go_wp2_with fail
        go_ret
        exact ⟨by rw [HF.out]; rfl, O5.out⟩
    · obtain rfl : k = L := by omega
      have HT : Hid (l.all raShort = true) := by have := HA.out; rwa [HL.out, List.take_length] at this
      by_cases h40 : k ≤ 60
      · have hz : Hid (decide (k ≤ 60) = true) := by simp [Hid, h40]
        have hd : decide ((k : Int) ≤ 60) = true := by simp; omega
        go_wp2_with fail
        go_ret
        exact ⟨by rw [HT.out, hz.out]; rfl, HW.out⟩
      · have hz : Hid (decide (k ≤ 60) = false) := by simp [Hid]; omega
        have hd : decide ((k : Int) ≤ 60) = false := by simp; omega
        go_wp2_with fail
        go_ret
        exact ⟨by rw [HT.out, hz.out]; rfl, HW.out⟩
end Go.Proofs.Ytclngnoapfjghaa
