/- How a slice of bytes that came in is opened: it reads as bytes. No statement of the seat is proved here. -/
import Derived.Test.YthhfpjecgdedgaaOpn
import Derived.Test.YthhfpjecgdedgaaByt
import Derived.ProofKit
import Derived.OpenShut
import Derived.ShutString
import Derived.ChangeOld
namespace Go.Proofs.Ythhfpjecgdedgaa
open Go.ChangeShapes Go.WideShapes Go.ChangeAt Go.RowKit
set_option linter.unusedVariables false

/-- A slice of bytes that came in reads as bytes. -/
theorem byt_in {w : World} {A : Option Addr} {len cap : Nat} {zs : List Int} (hl : len ≤ cap) (hm : cap ≤ maxLen) (hz : zs.length = cap) {x : Addr} (hA : A = some x)
    (hc : ∀ i, i < zs.length → w.cell? (x.add i) = some (.int .u8 (zs.getD i 0))) (hw : ∀ n ∈ zs, (Lit.int .u8 n).wf = true) :
    Byt w (fun b => b < w.heap.size) (.slice A len cap) ((zs.take len).map fun z => UInt8.ofNat z.toNat) := by
  subst hA
  have hn : ((zs.take len).map fun z => UInt8.ofNat z.toNat).length = len := by simp; omega
  refine ⟨_, cap, by rw [hn], by omega, hm, by simp, fun hp => ?_⟩
  rw [hn] at hp
  obtain ⟨b, off, spot⟩ := x
  have h0 := hc 0 (by omega)
  have hspot : spot = none := by simpa [Addr.add] using World.cell?_spot h0
  subst hspot
  refine ⟨b, off, rfl, World.block_lt_of_cell? w _ (by simpa [Addr.add] using h0), World.block_lt_of_cell? w _ (by simpa [Addr.add] using h0), fun j hj => ?_⟩
  rw [hn] at hj
  have h1 := hc j (by omega)
  have e2 : (⟨b, off, none⟩ : Addr).add j = ⟨b, off + j, none⟩ := by unfold Addr.add; split <;> simp_all
  rw [e2] at h1
  rw [h1]
  have hjl : j < zs.length := by omega
  have hwf := hw zs[j] (List.getElem_mem hjl)
  have hb := bounds_u8 hwf
  simp only [byt, List.getElem_map, List.getElem_take, List.getD_eq_getElem?_getD, List.getElem?_eq_getElem hjl, Option.getD_some]
  congr 2
  have : (UInt8.ofNat zs[j].toNat).toNat = zs[j].toNat := by simp; omega
  rw [this]
  omega

/-- An argument that is a slice of bytes: what it reads as. -/
theorem byt_arg {H : Type} {enc : TypeId × Value → H} {W : World} {a : Option Addr} {len cap : Nat} {d : DataW H} {p : List MemPlace} (h : DataW.Trod enc Try.prog W 0 (fun _ => true) true 48 (.slice a len cap) d p) :
    ∃ bs, len = bs.length ∧ Byt W (fun b => b < W.heap.size) (.slice a len cap) bs := by
  obtain ⟨fuel, hf⟩ := h
  rcases open_ints Try.underlying48 Try.underlying5 (by kernel_rfl) hf with ⟨hcs, _⟩ | ⟨x, l, c, zs, hcs, _, hl, hm, hz, _, hcell, hwz⟩
  · simp [Value.cells] at hcs
    obtain ⟨rfl, rfl, rfl⟩ := hcs
    exact ⟨[], rfl, Byt.nil _ _⟩
  · simp [Value.cells] at hcs
    obtain ⟨rfl, rfl, rfl⟩ := hcs
    have hz' : zs.length = cap := by simpa using hz
    exact ⟨_, by simp; omega, byt_in hl hm hz' rfl hcell hwz⟩
end Go.Proofs.Ythhfpjecgdedgaa
