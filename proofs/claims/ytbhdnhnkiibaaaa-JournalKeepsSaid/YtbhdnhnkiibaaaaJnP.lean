/- What a disk is behind an opening; Len and the rest of package journal's small calls. No statement of the seat is proved here. -/
import Derived.Test.YtbhdnhnkiibaaaaJnO
namespace Go.Proofs.Ytbhdnhnkiibaaaa
open Go.RowKit
set_option maxRecDepth 100000
set_option linter.all false

theorem op_ok {d : Dv} (hon : d.on = true) (hc : opC d = 0) : (opD d).bs = d.bs.take (jnRead d.bs).2.1 ∧ (opD d).on = true ∧ (jnRead d.bs).2.2 = 0 := by
  have hle := jnRead_le d.bs
  unfold opC at hc
  rw [if_neg (by simp [hon])] at hc
  by_cases hk : (jnRead d.bs).2.2 = 0
  · rw [if_neg (by simpa using hk)] at hc
    by_cases hs : (jnRead d.bs).2.1 < d.bs.length
    · have hf : d.fuse ≠ 0 := fun e => by rw [if_pos ⟨hs, e⟩] at hc; cases hc
      have e : opD d = dTrim (jnRead d.bs).2.1 (burnt d) := by
        unfold opD
        rw [if_neg (by simp [hon]), if_neg (by simpa using hk), if_pos hs]
        simp [chD, hon, hf]
      rw [e]
      refine ⟨?_, ?_, hk⟩
      · show ((burnt d).bs).take _ = _
        rw [(burnt_bs d).1]
      · show (burnt d).on = true
        unfold burnt
        rw [if_neg hf]
        split
        · exact hon
        · exact hon
    · have e : opD d = d := by
        unfold opD
        rw [if_neg (by simp [hon]), if_neg (by simpa using hk), if_neg hs]
      rw [e]
      exact ⟨by rw [List.take_of_length_le (by omega)], hon, hk⟩
  · rw [if_pos hk] at hc
    exact absurd hc hk
theorem op_dark {d : Dv} (hon : d.on = true) (hk : (jnRead d.bs).2.2 = 0) (hs : (jnRead d.bs).2.1 < d.bs.length) (hf : d.fuse = 0) : opC d = 11 ∧ (opD d).on = false ∧ (opD d).bs = d.bs := by
  refine ⟨?_, ?_, ?_⟩
  · unfold opC
    rw [if_neg (by simp [hon]), if_neg (by simpa using hk), if_pos ⟨hs, hf⟩]
  all_goals
    unfold opD
    rw [if_neg (by simp [hon]), if_neg (by simpa using hk), if_pos hs]
    simp [chD, hon, hf]
theorem op_rot {d : Dv} (hon : d.on = true) (hk : (jnRead d.bs).2.2 ≠ 0) : opC d = (jnRead d.bs).2.2 ∧ opD d = d := by
  constructor
  · unfold opC
    rw [if_neg (by simp [hon]), if_pos hk]
  · unfold opD
    rw [if_neg (by simp [hon]), if_pos hk]
theorem op_code {d : Dv} (hon : d.on = true) (hk : (jnRead d.bs).2.2 = 0) (h : ¬ ((jnRead d.bs).2.1 < d.bs.length ∧ d.fuse = 0)) : opC d = 0 := by
  unfold opC
  rw [if_neg (by simp [hon]), if_neg (by simpa using hk), if_neg h]

theorem Jn.count {w : World} {j g : Nat} {n : Int} (h : Jn w j g n) : w.cell? ⟨j, 260, none⟩ = some (.int .i64 n) :=
  TabP.cell h (j := 260) (fun cs hc => TabP.behind (P := #[.pointer (some ⟨g, 0, none⟩)]) (Q := #[.int .i64 n]) (o := 1) (j := 0) rfl rfl cs hc)
theorem Jn.disk {w : World} {j g : Nat} {n : Int} (h : Jn w j g n) : w.cell? ⟨j, 0, none⟩ = some (.pointer (some ⟨g, 0, none⟩)) :=
  TabP.cell h (j := 0) (fun cs hc => TabP.ahead (P := #[.pointer (some ⟨g, 0, none⟩)]) rfl cs hc)
theorem jn_len (j g : Nat) (n : Int) (w : World) (h : Jn w j g n) :
    Calls Try.prog 38 #[.pointer (some ⟨j, 0, none⟩)] w fun e w' => e = .returned (.int .i64 n) ∧ w = w' := by
  have h0 := h.disk
  have h1 := h.count
  clear h
  go_enter Try.func38, Try.ntmps38
  go_wp2
  go_ret
  exact ⟨rfl, rfl⟩
end Go.Proofs.Ytbhdnhnkiibaaaa
