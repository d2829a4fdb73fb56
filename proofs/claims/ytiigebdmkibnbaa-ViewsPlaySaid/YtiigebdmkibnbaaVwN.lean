/- Views as plain values: what holds of them stays; nobody is forgotten; who moves. No statement of the seat is proved here. -/
import Derived.Test.YtiigebdmkibnbaaVwM
namespace Go.Proofs.Ytiigebdmkibnbaa
open Go.RowKit
set_option linter.all false
set_option maxRecDepth 100000

theorem lo_vok {s : Vm} {p : Int} {zs : List Int} (h : Vok s) : Vok (loV s p zs) := by
  unfold loV
  split
  · rename_i hm
    have hnp := h.ds p hm
    obtain ⟨f1, f2, f3, _, _⟩ := vput_facts (zs := zs) h.up (node_of h.ua hm) hnp h.lp h.rp.1
    have hd := vdel_mem h.ua.1 hm
    refine ⟨h.me, vdel_rl h.ua hm, f1, fun e => h.na ((hd _).1 e).1, fun e => ?_, fun z hz e => ?_, by have := vdel_len h.ua.1 hm; have := h.la; show (vdel s.act p).length ≤ s.a; omega, f2, h.ra, h.rp⟩
    · rcases (f3 _).1 e with h1 | h1
      · exact h.np h1.1
      · exact h.na (by have h2 : s.self = p := h1; rw [h2]; exact hm)
    · have h1 := (hd z).1 hz
      rcases (f3 _).1 e with h2 | h2
      · exact h.ds z h1.1 h2.1
      · exact h1.2 h2
  · exact h
theorem le_vok {s : Vm} {p : Int} {zs : List Int} (h : Vok s) : Vok (leV s p zs) := by
  unfold leV
  split
  · rename_i hm
    obtain ⟨k1, k2, k3, k4⟩ := le_node hm
    obtain ⟨f1, f2, f3, _, _⟩ := vput_facts (zs := zs) h.up k1 k4 h.lp h.rp.1
    refine ⟨h.me, h.ua, f1, h.na, fun e => ?_, fun z hz e => ?_, h.la, f2, h.ra, h.rp⟩
    · rcases (f3 _).1 e with h1 | h1
      · exact h.np h1.1
      · exact k2 (Eq.symm h1)
    · rcases (f3 _).1 e with h2 | h2
      · exact h.ds z hz h2.1
      · exact k3 (h2 ▸ hz)
  · exact h
/-- What holds once one is raised. -/
theorem rs_facts {s : Vm} {p : Int} {zs : List Int} (h : Vok s) (hm : rsOk s p = true) :
    Vok (rsV s p zs) ∧ (∀ z, z ∈ (rsV s p zs).act ↔ (z ∈ s.act ∧ z ≠ vputG s.act s.a zs) ∨ z = p) ∧ (vputG s.act s.a zs = -1 ↔ s.act.length ≠ s.a) ∧ (s.act.length = s.a → vputG s.act s.a zs ∈ s.act ∧ vputG s.act s.a zs ∈ (rsV s p zs).pas ∧ vputG s.act s.a zs ∉ vrm s.pas p) ∧
      (vputG s.act s.a zs = -1 → ∀ z, z ∈ (rsV s p zs).pas ↔ z ∈ s.pas ∧ z ≠ p) := by
  obtain ⟨k1, k2, k3⟩ := rs_node hm
  obtain ⟨f1, f2, f3, f4, f5⟩ := vput_facts (zs := zs) h.ua k1 k3 h.la h.ra.1
  have v1 := vrm_mem h.up.1 p
  have v2 := vrm_rl h.up p
  have v3 := vrm_len h.up.1 p
  have hlp := h.lp
  unfold rsV
  rw [if_pos hm]
  obtain ⟨g, hg⟩ : ∃ g, vputG s.act s.a zs = g := ⟨_, rfl⟩
  rw [hg] at f3 f4 f5 ⊢
  by_cases hg1 : g = -1
  · rw [if_pos hg1]
    refine ⟨⟨h.me, f1, v2, fun e => ?_, fun e => h.np ((v1 _).1 e).1, fun z hz e => ?_, f2, by show (vrm s.pas p).length ≤ s.p; omega, h.ra, h.rp⟩, f3, f4, fun e => absurd hg1 (fun h1 => f4.1 h1 e), fun _ => v1⟩
    · rcases (f3 _).1 e with h1 | h1
      · exact h.na h1.1
      · exact k2 h1.symm
    · have h1 := (v1 z).1 e
      rcases (f3 _).1 hz with h2 | h2
      · exact h.ds z h2.1 h1.1
      · exact h1.2 h2
  · rw [if_neg hg1]
    have hfull : s.act.length = s.a := by
      rcases Nat.decEq s.act.length s.a with h1 | h1
      · exact absurd (f4.2 h1) hg1
      · exact h1
    have gm := f5 hfull
    have gn : g ∉ vrm s.pas p := fun e => h.ds g gm ((v1 g).1 e).1
    obtain ⟨e1, e2, e3, _, _⟩ := vput_facts (p := g) (zs := vputZ s.act s.a zs) (n := s.p) v2 (node_of h.ua gm) gn (by omega) h.rp.1
    refine ⟨⟨h.me, f1, e1, fun e => ?_, fun e => ?_, fun z hz e => ?_, f2, e2, h.ra, h.rp⟩, f3, f4, fun _ => ⟨gm, (e3 g).2 (.inr rfl), gn⟩, fun e => absurd e hg1⟩
    · rcases (f3 _).1 e with h1 | h1
      · exact h.na h1.1
      · exact k2 h1.symm
    · rcases (e3 _).1 e with h1 | h1
      · exact h.np ((v1 _).1 h1.1).1
      · exact h.na (by have h2 : s.self = g := h1; rw [h2]; exact gm)
    · rcases (f3 _).1 hz with h1 | h1
      · rcases (e3 _).1 e with h2 | h2
        · exact h.ds z h1.1 ((v1 _).1 h2.1).1
        · exact h1.2 h2
      · rcases (e3 _).1 e with h2 | h2
        · exact ((v1 _).1 h2.1).2 h1
        · exact k3 (by rw [← h1, h2]; exact gm)
theorem rs_vok {s : Vm} {p : Int} {zs : List Int} (h : Vok s) : Vok (rsV s p zs) := by
  cases hm : rsOk s p with
  | true => exact (rs_facts h hm).1
  | false => unfold rsV; rw [hm]; exact h

/-- Twelve nodes, one of which is self: who isn't there has room among eleven. -/
theorem room_eleven {l : List Int} {s x : Int} (h : Rl l) (hs : 0 ≤ s ∧ s < 12) (hns : s ∉ l) (hx : nodeB x = true) (hnx : x ∉ l) (hxs : x ≠ s) : l.length < 11 := by
  have hx' : 0 ≤ x ∧ x < 12 := by simpa [nodeB] using hx
  have u1 := vins_up h.1 hnx
  have m1 := vins_mem h.1 x
  have hns2 : s ∉ vins l x := fun e => by
    rcases (m1 s).1 e with h1 | h1
    · exact hns h1
    · exact hxs h1.symm
  have u2 := vins_up u1 hns2
  have r2 : Rl (vins (vins l x) s) := ⟨u2, fun z hz => by
    rcases (vins_mem u1 s z).1 hz with h1 | h1
    · rcases (m1 z).1 h1 with h2 | h2
      · exact h.2 z h2
      · omega
    · omega⟩
  have := rl_le r2
  rw [vins_len, vins_len] at this
  omega
/-- Who is known. -/
def vkn (s : Vm) : List Int := (s.act ++ s.pas).mergeSort fun x y => decide (x ≤ y)
theorem vkn_mem {s : Vm} (z : Int) : z ∈ vkn s ↔ z ∈ s.act ∨ z ∈ s.pas := by rw [vkn, List.mem_mergeSort, List.mem_append]
theorem vkn_len (s : Vm) : (vkn s).length = s.act.length + s.pas.length := by rw [vkn, List.length_mergeSort, List.length_append]
theorem vkn_up {s : Vm} (h : Vok s) : (vkn s).Pairwise (· < ·) := by
  have h1 : (vkn s).Pairwise (fun x y => decide (x ≤ y) = true) := List.pairwise_mergeSort (fun a b c h1 h2 => by simp at h1 h2 ⊢; omega) (fun a b => by simp; omega) _
  have h2 : (vkn s).Nodup := by
    refine (List.mergeSort_perm _ _).symm.nodup ?_
    rw [List.nodup_append]
    exact ⟨up_nodup h.ua.1, up_nodup h.up.1, fun a ha b hb e => h.ds a ha (e ▸ hb)⟩
  exact (h1.and h2).imp (fun ⟨a, b⟩ => by simp at a; omega)
theorem vkn_rl {s : Vm} (h : Vok s) : Rl (vkn s) := ⟨vkn_up h, fun z hz => by
  rcases (vkn_mem z).1 hz with h1 | h1
  · exact h.ua.2 z h1
  · exact h.up.2 z h1⟩
/-- Nobody is forgotten. -/
theorem lo_kept {s : Vm} {p : Int} {zs : List Int} (h : Vok s) (h11 : s.p = 11) {z : Int} (hz : z ∈ s.act ∨ z ∈ s.pas) : z ∈ (loV s p zs).act ∨ z ∈ (loV s p zs).pas := by
  unfold loV
  split
  · rename_i hm
    have hnp := h.ds p hm
    have hr := room_eleven h.up h.me h.np (node_of h.ua hm) hnp (fun e => h.na (e ▸ hm))
    have hne : s.pas.length ≠ s.p := by omega
    rcases hz with hz | hz
    · by_cases e : z = p
      · exact .inr (by show z ∈ vputL s.pas s.p p zs; rw [vputL, if_neg hne, vins_mem h.up.1]; exact .inr e)
      · exact .inl ((vdel_mem h.ua.1 hm z).2 ⟨hz, e⟩)
    · exact .inr (by show z ∈ vputL s.pas s.p p zs; rw [vputL, if_neg hne, vins_mem h.up.1]; exact .inl hz)
  · exact hz
theorem le_kept {s : Vm} {p : Int} {zs : List Int} (h : Vok s) (h11 : s.p = 11) {z : Int} (hz : z ∈ s.act ∨ z ∈ s.pas) : z ∈ (leV s p zs).act ∨ z ∈ (leV s p zs).pas := by
  unfold leV
  split
  · rename_i hm
    obtain ⟨k1, k2, k3, k4⟩ := le_node hm
    have hr := room_eleven h.up h.me h.np k1 k4 k2
    have hne : s.pas.length ≠ s.p := by omega
    rcases hz with hz | hz
    · exact .inl hz
    · exact .inr (by show z ∈ vputL s.pas s.p p zs; rw [vputL, if_neg hne, vins_mem h.up.1]; exact .inl hz)
  · exact hz
theorem rs_kept {s : Vm} {p : Int} {zs : List Int} (h : Vok s) (h11 : s.p = 11) {z : Int} (hz : z ∈ s.act ∨ z ∈ s.pas) : z ∈ (rsV s p zs).act ∨ z ∈ (rsV s p zs).pas := by
  cases hm : rsOk s p with
  | false => unfold rsV; rw [hm]; exact hz
  | true =>
    obtain ⟨k1, k2, k3⟩ := rs_node hm
    obtain ⟨_, f3, f4, f5, f6⟩ := rs_facts (zs := zs) h hm
    by_cases hp : z = p
    · exact .inl ((f3 z).2 (.inr hp))
    rcases hz with hz | hz
    · by_cases hg : z = vputG s.act s.a zs
      · have hfull : s.act.length = s.a := by
          rcases Nat.decEq s.act.length s.a with h1 | h1
          · have := f4.2 h1
            have := h.ua.2 z hz
            omega
          · exact h1
        exact .inr (by rw [hg]; exact (f5 hfull).2.1)
      · exact .inl ((f3 z).2 (.inl ⟨hz, hg⟩))
    · by_cases hg : vputG s.act s.a zs = -1
      · exact .inr ((f6 hg z).2 ⟨hz, hp⟩)
      · have hfull : s.act.length = s.a := by
          rcases Nat.decEq s.act.length s.a with h1 | h1
          · exact absurd (f4.2 h1) hg
          · exact h1
        obtain ⟨gm, _, gn⟩ := f5 hfull
        have v2 := vrm_rl h.up p
        have v1 := vrm_mem h.up.1 p
        have hr := room_eleven v2 h.me (fun e => h.np ((v1 _).1 e).1) (node_of h.ua gm) gn (fun e => h.na (e ▸ gm))
        have hne : (vrm s.pas p).length ≠ s.p := by omega
        refine .inr ?_
        unfold rsV
        rw [if_pos hm, if_neg hg]
        show z ∈ vputL (vrm s.pas p) s.p _ _
        rw [vputL, if_neg hne, vins_mem v2.1]
        exact .inl ((v1 z).2 ⟨hz, hp⟩)
theorem rs_p (s : Vm) (p : Int) (zs : List Int) : (rsV s p zs).p = s.p ∧ (rsV s p zs).a = s.a ∧ (rsV s p zs).self = s.self := by unfold rsV; split <;> exact ⟨rfl, rfl, rfl⟩
theorem lo_p (s : Vm) (p : Int) (zs : List Int) : (loV s p zs).p = s.p ∧ (loV s p zs).a = s.a ∧ (loV s p zs).self = s.self := by unfold loV; split <;> exact ⟨rfl, rfl, rfl⟩
theorem le_p (s : Vm) (p : Int) (zs : List Int) : (leV s p zs).p = s.p ∧ (leV s p zs).a = s.a ∧ (leV s p zs).self = s.self := by unfold leV; split <;> exact ⟨rfl, rfl, rfl⟩
end Go.Proofs.Ytiigebdmkibnbaa
