/- How slices of structs that came in are opened: puts and takes. No statement of the seat is proved here. -/
import Derived.Test.YtpccimifpkdfiaaOpen
import Derived.Test.YtpccimifpkdfiaaPuts
import Derived.Deep.Slices
import Derived.Deep.Fields
namespace Go.Proofs.Ytpccimifpkdfiaa
open Go.ChangeShapes Go.WideShapes Go.RowKit

section
variable {H : Type} {enc : TypeId × Value → H} {P : Program} {w : World} {base : Nat} {spare : Nat → Bool} {held : Bool}
/-- The cells of a slice of structs, each field of one cell: field j of element i lies at i times the number of fields, and j; and it reads by its type. -/
theorem rows_in {t e : TypeId} {fs : Array Field} {fuel : Nat} {cs : List Value} {x : DataW H × List MemPlace} (ht : P.underlying t = some (.slice e)) (he : P.underlying e = some (.struct fs))
    (hone : Go.Deep.oneCellFields P fs = true) (hC : P.cellsOf e = fs.size) (h : DataW.trod enc P w base spare held fuel t cs = some x) :
    cs = [.slice none 0 0] ∨ ∃ (a : Addr) (len cap : Nat), cs = [.slice (some a) len cap] ∧ len ≤ cap ∧ cap ≤ maxLen ∧
      ∀ i, i < len → ∀ (j : Nat) (f : Field), fs[j]? = some f → ∃ (v : Value) (y : DataW H × List MemPlace) (n : Nat), w.cell? (a.add (i * fs.size + j)) = some v ∧ DataW.trod enc P w base spare held n f.type [v] = some y := by
  rcases Go.Deep.open_slice ht h with ⟨h0, _⟩ | ⟨a, len, cap, m, n, D, Pl, hcs, _, hl, hm, hmm, _, hi⟩
  · exact .inl h0
  · have hlm : len ≤ m := by rw [hmm]; split <;> omega
    refine .inr ⟨a, len, cap, hcs, hl, hm, fun i hil j f hj => ?_⟩
    obtain ⟨r, hr, htr⟩ := hi i (by omega)
    rw [hC] at hr
    obtain ⟨ys, n', _, _, _, hyl, hf⟩ := DataW.trod_struct he htr
    obtain ⟨_, hrl, hat⟩ := World.cells?_some hr
    obtain ⟨hoff, hone1⟩ := Go.Deep.hone_of hone j f hj
    have hjl : j < fs.size := (Array.getElem?_eq_some_iff.1 hj).1
    have hjr : j < r.length := by omega
    have hjy : j < ys.length := by omega
    have h1 := hf j f hj
    rw [hoff, hone1, List.drop_eq_getElem_cons hjr, List.take_succ_cons, List.take_zero, List.getElem?_eq_getElem hjy] at h1
    have h2 := hat j hjl
    rw [Go.Deep.add_add, List.getElem?_eq_getElem hjr] at h2
    exact ⟨_, _, _, h2, h1⟩
end

theorem put_one : Go.Deep.oneCellFields Try.prog #[{ name := "Kind", type := 3, offset := 0, embedded := false, tag := "", pkgPath := "", byteOffset := 0 },
        { name := "Width", type := 3, offset := 1, embedded := false, tag := "", pkgPath := "", byteOffset := 8 },
        { name := "V", type := 31, offset := 2, embedded := false, tag := "", pkgPath := "", byteOffset := 16 },
        { name := "B", type := 28, offset := 3, embedded := false, tag := "", pkgPath := "", byteOffset := 24 }] = true := by kernel_rfl
theorem put_cells : Try.prog.cellsOf 33 = 4 := by kernel_rfl
theorem take_one : Go.Deep.oneCellFields Try.prog #[{ name := "Kind", type := 3, offset := 0, embedded := false, tag := "", pkgPath := "", byteOffset := 0 },
        { name := "N", type := 3, offset := 1, embedded := false, tag := "", pkgPath := "", byteOffset := 8 }] = true := by kernel_rfl
theorem take_cells : Try.prog.cellsOf 51 = 2 := by kernel_rfl

theorem slice_one {H : Type} {enc : TypeId × Value → H} {P : Program} {w : World} {t e : TypeId} {n : Nat} {x : Value} {y : DataW H × List MemPlace} (ht : P.underlying t = some (.slice e)) (h : DataW.trod enc P w 0 (fun _ => true) true n t [x] = some y) :
    ∃ A l c, x = .slice A l c := by
  rcases Go.Deep.open_slice ht h with ⟨h0, _⟩ | ⟨a, len, cap, m, n, D, Pl, hcs, _⟩
  · simp at h0; exact ⟨_, _, _, h0⟩
  · simp at hcs; exact ⟨_, _, _, hcs⟩

theorem add_plain (b off n : Nat) : (⟨b, off, none⟩ : Addr).add n = ⟨b, off + n, none⟩ := by unfold Addr.add; split <;> simp_all
theorem list_of {α : Type} (n : Nat) (p : Nat → α → Prop) (h : ∀ i, i < n → ∃ a, p i a) : ∃ l : List α, l.length = n ∧ ∀ i (hi : i < l.length), p i l[i] := by
  induction n with
  | zero => exact ⟨[], rfl, fun i hi => absurd hi (by simp)⟩
  | succ n ih =>
    obtain ⟨l, hl, hp⟩ := ih fun i hi => h i (by omega)
    obtain ⟨a, ha⟩ := h n (by omega)
    refine ⟨l ++ [a], by simp [hl], fun i hi => ?_⟩
    by_cases hin : i < l.length
    · rw [List.getElem_append_left hin]; exact hp i hin
    · have : i = n := by simp at hi; omega
      subst this
      rw [List.getElem_append_right (by omega)]
      simpa [hl] using ha

/-- An argument that is a slice of puts: what it reads as. -/
theorem puts_arg {H : Type} {enc : TypeId × Value → H} {W : World} {a : Option Addr} {len cap : Nat} {d : DataW H} {p : List MemPlace} (h : DataW.Trod enc Try.prog W 0 (fun _ => true) true 22 (.slice a len cap) d p) :
    ∃ l, len = l.length ∧ Puts W (fun b => b < W.heap.size) (.slice a len cap) l := by
  obtain ⟨fuel, hf⟩ := h
  rcases rows_in Try.underlying22 Try.underlying33 put_one put_cells hf with hcs | ⟨x, l, c, hcs, hl, hm, hc⟩
  · simp [Value.cells] at hcs
    obtain ⟨rfl, rfl, rfl⟩ := hcs
    exact ⟨[], rfl, none, 0, rfl, by simp [maxLen], by simp⟩
  · simp [Value.cells] at hcs
    obtain ⟨rfl, rfl, rfl⟩ := hcs
    obtain ⟨ls, hls, hp⟩ := list_of len (fun i (p : PutR) => ∀ (b off : Nat), x = ⟨b, off, none⟩ → PutAt W (fun b => b < W.heap.size) b (off + i * 4) p) (fun i hi => by
      obtain ⟨v0, y0, n0, c0, t0⟩ := hc i hi 0 _ rfl
      obtain ⟨v1, y1, n1, c1, t1⟩ := hc i hi 1 _ rfl
      obtain ⟨v2, y2, n2, c2, t2⟩ := hc i hi 2 _ rfl
      obtain ⟨v3, y3, n3, c3, t3⟩ := hc i hi 3 _ rfl
      obtain ⟨k, e0, _, w0⟩ := DataW.trod_int Try.underlying3 t0
      obtain ⟨wd, e1, _, w1⟩ := DataW.trod_int Try.underlying3 t1
      obtain ⟨v, e2, _, w2⟩ := DataW.trod_int Try.underlying31 t2
      simp only [List.cons.injEq, and_true] at e0 e1 e2
      subst e0 e1 e2
      obtain ⟨A3, l3, k3, rfl⟩ := slice_one Try.underlying28 t3
      obtain ⟨bs, hbl, hb⟩ := byt_arg (a := A3) (len := l3) (cap := k3) (d := y3.1) (p := y3.2) ⟨n3, by simpa [Value.cells] using t3⟩
      have hv := bounds_u64 w2
      refine ⟨⟨k, wd, v.toNat, .slice A3 l3 k3, bs⟩, fun b off hx => ?_⟩
      subst hx
      simp only [add_plain] at c0 c1 c2 c3
      refine ⟨by simpa using c0, by simpa [Nat.add_assoc] using c1, ?_, by simpa [Nat.add_assoc] using c3, by simp only; omega, hb⟩
      rw [show ((v.toNat : Nat) : Int) = v from by omega]
      simpa [Nat.add_assoc] using c2)
    subst hls
    refine ⟨ls, rfl, some x, cap, rfl, by omega, fun hpos => ?_⟩
    obtain ⟨v0, y0, n0, c0, t0⟩ := hc 0 hpos 0 _ rfl
    obtain ⟨b, off, spot⟩ := x
    have hspot : spot = none := by simpa [Addr.add] using World.cell?_spot c0
    subst hspot
    have hlt : b < W.heap.size := World.block_lt_of_cell? W _ (by simpa [Addr.add] using c0)
    exact ⟨b, off, rfl, hlt, hlt, fun j hj => hp j hj b off rfl⟩

/-- An argument that is a slice of takes: what it reads as. -/
theorem takes_arg {H : Type} {enc : TypeId × Value → H} {W : World} {a : Option Addr} {len cap : Nat} {d : DataW H} {p : List MemPlace} (h : DataW.Trod enc Try.prog W 0 (fun _ => true) true 45 (.slice a len cap) d p) :
    ∃ l, len = l.length ∧ Takes W (fun b => b < W.heap.size) (.slice a len cap) l ∧ ∀ t ∈ l, -9223372036854775808 ≤ t.n ∧ t.n ≤ 9223372036854775807 := by
  obtain ⟨fuel, hf⟩ := h
  rcases rows_in Try.underlying45 Try.underlying51 take_one take_cells hf with hcs | ⟨x, l, c, hcs, hl, hm, hc⟩
  · simp [Value.cells] at hcs
    obtain ⟨rfl, rfl, rfl⟩ := hcs
    exact ⟨[], rfl, ⟨none, 0, rfl, by simp [maxLen], by simp⟩, by simp⟩
  · simp [Value.cells] at hcs
    obtain ⟨rfl, rfl, rfl⟩ := hcs
    obtain ⟨ls, hls, hp⟩ := list_of len (fun i (t : TakeR) => (∀ (b off : Nat), x = ⟨b, off, none⟩ → TakeAt W b (off + i * 2) t) ∧ -9223372036854775808 ≤ t.n ∧ t.n ≤ 9223372036854775807) (fun i hi => by
      obtain ⟨v0, y0, n0, c0, t0⟩ := hc i hi 0 _ rfl
      obtain ⟨v1, y1, n1, c1, t1⟩ := hc i hi 1 _ rfl
      obtain ⟨k, e0, _, w0⟩ := DataW.trod_int Try.underlying3 t0
      obtain ⟨n, e1, _, w1⟩ := DataW.trod_int Try.underlying3 t1
      simp only [List.cons.injEq, and_true] at e0 e1
      subst e0 e1
      have hb := bounds_i64 w1
      refine ⟨⟨k, n⟩, fun b off hx => ?_, hb⟩
      subst hx
      simp only [add_plain] at c0 c1
      exact ⟨by simpa using c0, by simpa [Nat.add_assoc] using c1⟩)
    subst hls
    refine ⟨ls, rfl, ⟨some x, cap, rfl, by omega, fun hpos => ?_⟩, fun t ht => ?_⟩
    · obtain ⟨v0, y0, n0, c0, t0⟩ := hc 0 hpos 0 _ rfl
      obtain ⟨b, off, spot⟩ := x
      have hspot : spot = none := by simpa [Addr.add] using World.cell?_spot c0
      subst hspot
      have hlt : b < W.heap.size := World.block_lt_of_cell? W _ (by simpa [Addr.add] using c0)
      exact ⟨b, off, rfl, hlt, hlt, fun j hj => (hp j hj).1 b off rfl⟩
    · obtain ⟨j, hj, rfl⟩ := List.mem_iff_getElem.1 ht
      exact (hp j hj).2
end Go.Proofs.Ytpccimifpkdfiaa
