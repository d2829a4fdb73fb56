/- Slices whose elements take several cells each, as a list of their cells. No statement of the seat is proved here. -/
import Derived.Test.YtiigebdmkibnbaaBase
namespace Go.Proofs.Ytiigebdmkibnbaa
open Go.RowKit

/-- A slice of n elements, k cells each, whose cells read as cs; they lie in a block of which S holds. -/
def Cel (w : World) (S : Nat → Prop) (v : Value) (n k : Nat) (cs : List Value) : Prop :=
  ∃ A c, v = .slice A n c ∧ cs.length = n * k ∧ n ≤ c ∧ c ≤ maxLen ∧ (A = none → c = 0) ∧
    (0 < n → ∃ b off, A = some ⟨b, off, none⟩ ∧ S b ∧ b < w.heap.size ∧ ∀ j u, cs[j]? = some u → w.cell? ⟨b, off + j, none⟩ = some u)
section
variable {w w' : World} {S T : Nat → Prop} {v : Value} {n k : Nat} {cs : List Value}
theorem Cel.mono (h : Cel w S v n k cs) (hk : ∀ b, b < w.heap.size → S b → T b) : Cel w T v n k cs := by
  obtain ⟨A, c, rfl, h0, h1, h2, h3, h4⟩ := h
  refine ⟨A, c, rfl, h0, h1, h2, h3, fun hp => ?_⟩
  obtain ⟨b, off, rfl, hs, hlt, hc⟩ := h4 hp
  exact ⟨b, off, rfl, hk b hlt hs, hlt, hc⟩
theorem Cel.only (h : Cel w S v n k cs) (ho : Only T w w') (hn : ∀ b, S b → ¬ T b) : Cel w' S v n k cs := by
  obtain ⟨A, c, rfl, h0, h1, h2, h3, h4⟩ := h
  refine ⟨A, c, rfl, h0, h1, h2, h3, fun hp => ?_⟩
  obtain ⟨b, off, rfl, hs, hlt, hc⟩ := h4 hp
  exact ⟨b, off, rfl, hs, Nat.lt_of_lt_of_le hlt ho.size, fun j u hu => (ho.cell (p := ⟨b, off + j, none⟩) hlt (hn _ hs)).trans (hc j u hu)⟩
theorem Cel.drew (h : Cel w S v n k cs) : Cel w.drew S v n k cs := h
theorem Cel.drewN (h : Cel w S v n k cs) (m : Nat) : Cel (w.drewN m) S v n k cs := h
theorem Cel.alloc (h : Cel w S v n k cs) (o : Obj) : Cel (w.alloc o) S v n k cs := h.only ((Only.refl none_ w).alloc o) fun _ _ x => x
theorem Cel.nil (w : World) (S : Nat → Prop) (k : Nat) : Cel w S (.slice none 0 0) 0 k [] := ⟨none, 0, rfl, by simp, by simp, by simp [maxLen], fun _ => rfl, by simp⟩
theorem Cel.of_own {base : Nat} {e : TypeId} (h : w.ownsRow base e k v n cs) : Cel w (ownb v) v n k cs := by
  have hl : cs.length = n * k := by have := h.1; simpa using this
  rcases h.2 with ⟨hv, hn⟩ | ⟨g, cap, cur, hv, hb, hh, hnc, hcm, hcs, ht⟩
  · subst hn hv
    exact ⟨none, 0, rfl, hl, by simp, by simp [maxLen], fun _ => rfl, by simp⟩
  · subst hv
    refine ⟨_, cap, rfl, hl, hnc, hcm, by simp, fun hp => ⟨g, 0, rfl, by simp [ownb, Value.ownBlock], Blk.lt (t := e) hh, fun j u hu => ?_⟩⟩
    have e1 : (⟨g, 0, none⟩ : Addr).add j = ⟨g, 0 + j, none⟩ := by unfold Addr.add; split <;> simp_all
    have := h.cells (g := g) (by simp [Value.ownBlock]) j u hu
    rw [← e1]
    exact this
end
end Go.Proofs.Ytiigebdmkibnbaa
