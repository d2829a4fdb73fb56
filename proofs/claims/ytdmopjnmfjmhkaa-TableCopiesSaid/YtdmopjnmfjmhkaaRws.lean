/- Slices of slices of bytes that are only read. No statement of the seat is proved here. -/
import Derived.Test.YtdmopjnmfjmhkaaByt
namespace Go.Proofs.Ytdmopjnmfjmhkaa
open Go.RowKit

/-- A slice of slices of bytes that is only read, the empty one too. -/
def Rows_ (w : World) (S : Nat → Prop) (pv : Value) (pss : List (List UInt8)) : Prop :=
  ∃ A c, pv = .slice A pss.length c ∧ pss.length ≤ maxLen ∧ (0 < pss.length → ∃ b off, A = some ⟨b, off, none⟩ ∧ S b ∧ b < w.heap.size ∧ ∀ j (hj : j < pss.length), ∃ x, w.cell? ⟨b, off + j, none⟩ = some x ∧ Byt w S x pss[j])
theorem Rows_.nil (w : World) (S : Nat → Prop) : Rows_ w S (.slice none 0 0) [] := ⟨none, 0, rfl, by simp [maxLen], by simp⟩
theorem Rows_.only {w w' : World} {S T : Nat → Prop} {pv : Value} {pss : List (List UInt8)} (h : Rows_ w S pv pss) (ho : Only T w w') (hn : ∀ b, S b → ¬ T b) : Rows_ w' S pv pss := by
  obtain ⟨A, c, rfl, h1, h2⟩ := h
  refine ⟨A, c, rfl, h1, fun hp => ?_⟩
  obtain ⟨b, off, rfl, hS, hb, hc⟩ := h2 hp
  refine ⟨b, off, rfl, hS, Nat.lt_of_lt_of_le hb ho.size, fun j hj => ?_⟩
  obtain ⟨x, hx, hy⟩ := hc j hj
  exact ⟨x, (ho.cell (p := ⟨b, off + j, none⟩) hb (hn _ hS)).trans hx, hy.only ho hn⟩
theorem rows_two {w : World} {S : Nat → Prop} {x y : Value} {bs cs : List UInt8} {t : TypeId} (h : Byt w S x bs) (h' : Byt w S y cs) (hS : S w.heap.size) (g : Nat) (hg : g = w.heap.size) :
    Rows_ (w.alloc (.cells #[x, y] t)) S (.slice (some ⟨g, 0, none⟩) 2 2) [bs, cs] := by
  subst hg
  refine ⟨_, 2, rfl, by simp [maxLen], fun _ => ⟨_, _, rfl, hS, by simp, fun j hj => ?_⟩⟩
  have hj0 : j = 0 ∨ j = 1 := by simp at hj; omega
  rcases hj0 with rfl | rfl
  · exact ⟨x, by simp, h.alloc _⟩
  · exact ⟨y, by simp, h'.alloc _⟩
theorem rows_one {w : World} {S : Nat → Prop} {x : Value} {bs : List UInt8} {t : TypeId} (h : Byt w S x bs) (hS : S w.heap.size) (g : Nat) (hg : g = w.heap.size) :
    Rows_ (w.alloc (.cells #[x] t)) S (.slice (some ⟨g, 0, none⟩) 1 1) [bs] := by
  subst hg
  refine ⟨_, 1, rfl, by simp [maxLen], fun _ => ⟨_, _, rfl, hS, by simp, fun j hj => ?_⟩⟩
  have hj0 : j = 0 := by simp at hj; omega
  subst hj0
  exact ⟨x, by simp, h.alloc _⟩
theorem Rows_.mono {w : World} {S T : Nat → Prop} {pv : Value} {pss : List (List UInt8)} (h : Rows_ w S pv pss) (hk : ∀ b, S b → b < w.heap.size → T b) : Rows_ w T pv pss := by
  obtain ⟨A, c, rfl, h1, h2⟩ := h
  refine ⟨A, c, rfl, h1, fun hp => ?_⟩
  obtain ⟨b, off, rfl, hS, hb, hc⟩ := h2 hp
  refine ⟨b, off, rfl, hk _ hS hb, hb, fun j hj => ?_⟩
  obtain ⟨x, hx, hy⟩ := hc j hj
  exact ⟨x, hx, hy.mono (fun b hb hS => hk b hS hb)⟩
theorem rows_at {w : World} {S : Nat → Prop} {A : Option Addr} {L c j : Nat} {pss : List (List UInt8)} (h : Rows_ w S (.slice A L c) pss) (hj : j < L) :
    ∃ (b off : Nat) (A1 : Option Addr) (L1 c1 : Nat) (hp : j < pss.length), A = some ⟨b, off, none⟩ ∧ w.cell? ⟨b, off + j, none⟩ = some (.slice A1 L1 c1) ∧ L1 = pss[j].length ∧ Byt w S (.slice A1 L1 c1) pss[j] := by
  obtain ⟨A0, c0, e0, _, h4⟩ := h
  injection e0 with e1 e2 e3
  have hp : j < pss.length := by omega
  obtain ⟨b, off, rfl, _, _, hc⟩ := h4 (by omega)
  obtain ⟨x, hcx, hbx⟩ := hc j hp
  obtain ⟨A1, c1, hx1, _⟩ := id hbx
  subst hx1
  exact ⟨b, off, A1, _, c1, hp, e1, hcx, rfl, hbx⟩
theorem own_shape {w : World} {base size n : Nat} {e : TypeId} {v : Value} {xs : List Value} (h : w.ownsRow base e size v n xs) : ∃ A n c, v = .slice A n c := by
  rcases h.2 with ⟨rfl, _⟩ | ⟨g, cap, cur, rfl, _⟩
  · exact ⟨_, _, _, rfl⟩
  · exact ⟨_, _, _, rfl⟩
theorem owns_nil (w : World) (base : Nat) : w.ownsRow base 5 1 (.slice none 0 0) ([] : List UInt8).length (byts []) := ⟨by simp, .inl ⟨rfl, rfl⟩⟩
theorem flatten_short (pss : List (List UInt8)) (h : ∀ bs ∈ pss, bs.length ≤ 30) : pss.flatten.length ≤ 30 * pss.length := by
  induction pss with
  | nil => simp
  | cons a l ih =>
    have h1 := h a (by simp)
    have h2 := ih (fun b hb => h b (by simp [hb]))
    simp only [List.flatten_cons, List.length_append, List.length_cons]
    omega

end Go.Proofs.Ytdmopjnmfjmhkaa
