/- What slices.Grow of nil, and slices.Concat, do with bytes. No statement of the seat is proved here. -/
import Derived.Test.YtbhdnhnkiibaaaaOctC
import Derived.Test.YtbhdnhnkiibaaaaRws
import Derived.Lib.AppendZeros
import Derived.Deep.LoopGhost
import Derived.Deep.DrawnRows
namespace Go.Proofs.Ytbhdnhnkiibaaaa
open Go.RowKit
set_option maxRecDepth 100000
set_option linter.all false
attribute [local go_sem ↓] Go.wp_at_zero Go.wp_at_succ

theorem grow_nil (n : Nat) (h0 : 0 < n) (hn : n ≤ 1000000) (w : World) :
    Calls Try.prog 98 #[.slice none 0 0, .int .i64 (n : Int)] w fun e w' => ∃ A m c, e = .returned (.slice A m c) ∧ w'.ownsRow w.heap.size 5 1 (.slice A m c) ([] : List UInt8).length (byts []) ∧ Only none_ w w' := by
  obtain ⟨i0, hi0, hz0, hz1, hz2⟩ := info_parts u8_info
  have hr := fun ty => Lib.run_append_nil_zeros (P := Try.prog) w 71 3 ty 5 i0 (.int .u8 0) .i64 .i64 Try.underlying71 Try.underlying3 hi0 hz0 n h0 (by omega) (by omega) (by rw [hz2]; omega)
  obtain ⟨cap, hcap⟩ : ∃ c, grownCap w n 0 5 = c := ⟨_, rfl⟩
  have hge := grownCap_ge w n 0 5
  have hle := grownCap_le_maxLen w n 0 5 (by simp only [maxLen]; omega)
  rw [hcap] at hge hle hr
  obtain ⟨M, hM⟩ : ∃ M, Builtin.zeroCells (Value.int .u8 0).cells n ++ Builtin.zeroCells (Value.int .u8 0).cells (cap - n) = M := ⟨_, rfl⟩
  have hMs : M.size = cap := by
    rw [← hM, Array.size_append, size_zeroCells, size_zeroCells]
    simp [Value.cells]
    try omega
  rw [hM] at hr
  have HM := Lib.hid hMs
  have HL := Lib.hid hle
  have hc0 : (0 : Int) ≤ (cap : Int) := by omega
  have hn0 : decide ((n : Int) < 0) = false := by rw [decide_eq_false_iff_not]; omega
  have hnp : decide ((0 : Int) < (n : Int)) = true := by simp; omega
  clear hM hMs hle hge hcap
  go_enter Try.func98, Try.ntmps98
  go_wp2_with (first
    | (at_builtin; refine Lib.wpList_append_run _ rfl _ _ _ _ rfl _ _ rfl rfl _ _ (hr _) ?_))
  go_ret
  exact ⟨_, _, _, rfl, World.ownsRow_made w.drew M cap (Nat.le_refl _) HL.out (by have := HM.out; omega), ((Only.refl none_ w).drew).alloc _⟩

theorem rows_cell {w : World} {S : Nat → Prop} {A : Option Addr} {L c : Nat} {pss : List (List UInt8)} (h : Rows_ w S (.slice A L c) pss) (j : Nat) (hj : j < L) : ∃ b off A1 L1 c1, A = some ⟨b, off, none⟩ ∧ S b ∧ b < w.heap.size ∧ w.cell? ⟨b, off + j, none⟩ = some (.slice A1 L1 c1) ∧ ∃ hp : j < pss.length, L1 = pss[j].length ∧ Byt w S (.slice A1 L1 c1) pss[j] := by
  obtain ⟨A0, c0, e0, _, h4⟩ := h
  injection e0 with e1 e2 e3
  have hp : j < pss.length := by omega
  obtain ⟨b, off, rfl, hs, hb, hc⟩ := h4 (by omega)
  obtain ⟨x, hcx, hbx⟩ := hc j hp
  obtain ⟨A1, c1, hx1, _⟩ := id hbx
  subst hx1
  exact ⟨b, off, A1, _, c1, e1, hs, hb, hcx, hp, rfl, hbx⟩
theorem flat_snoc' (pss : List (List UInt8)) (k : Nat) (hk : k < pss.length) : (pss.take (k + 1)).flatten = (pss.take k).flatten ++ pss[k] := by
  rw [List.take_succ_eq_append_getElem hk, List.flatten_append]; rw [List.flatten_singleton]
theorem flat_le' (pss : List (List UInt8)) (k : Nat) : (pss.take k).flatten.length ≤ pss.flatten.length := by
  conv => rhs; rw [← List.take_append_drop k pss]
  rw [List.flatten_append, List.length_append]; omega

set_option maxHeartbeats 1600000 in
theorem concat_any (pv : Value) (pss : List (List UInt8)) (S : Nat → Prop) (w : World) (hp : Rows_ w S pv pss) (h0 : 0 < pss.flatten.length) (hm : pss.flatten.length ≤ 1000000) :
    Calls Try.prog 82 #[pv] w fun e w' => ∃ A n c, e = .returned (.slice A n c) ∧ w'.ownsRow w.heap.size 5 1 (.slice A n c) pss.flatten.length (byts pss.flatten) ∧ Only none_ w w' := by
  obtain ⟨i0, hi0, hz0, hz1, hz2⟩ := info_parts u8_info
  have hv : ∃ A c, pv = .slice A pss.length c ∧ pss.length ≤ maxLen := by obtain ⟨A, c, h, h1, _⟩ := hp; exact ⟨A, c, h, h1⟩
  obtain ⟨A, c, rfl, hmx⟩ := hv
  obtain ⟨L, hL⟩ : ∃ L, L = pss.length := ⟨_, rfl⟩
  rw [← hL] at hp hmx ⊢
  have hLm : L ≤ 9223372036854775807 := by simp only [maxLen] at hmx; omega
  obtain ⟨N, hN⟩ : ∃ N, pss.flatten.length = N := ⟨_, rfl⟩
  have HN := Lib.hid hN
  rw [hN] at h0 hm
  have hG := grow_nil N h0 hm
  have HP := Lib.hid hp
  have HL := Lib.hid hL
  clear hp hL hmx hN
  go_enter Try.func82, Try.ntmps82
  go_wp2
  go_loop [3, 11] (fun x k => ∃ j : Nat, j ≤ L ∧ k = .int .i64 j ∧ x = .int .i64 ((pss.take j).flatten.length : Int)) (fun _ k => L - (intOf k).toNat)
  case atStart => exact ⟨0, by omega, rfl, by simp⟩
  case round =>
    obtain ⟨j, hj, rfl, rfl⟩ := hrel
    by_cases hlb : j < L
    · obtain ⟨b, off, A1, L1, c1, rfl, hq1, hq2, hc, hp, hL1, hq3⟩ := rows_cell HP.out j hlb
      have hs := flat_snoc' pss j hp
      have hle := flat_le' pss (j + 1)
      rw [HN.out, hs, List.length_append] at hle
      obtain ⟨s, hse⟩ : ∃ s, (pss.take j).flatten.length = s := ⟨_, rfl⟩
      rw [hse, ← hL1] at hle
      have hs2 : (pss.take (j + 1)).flatten.length = s + L1 := by rw [hs, List.length_append, hse, hL1]
      rw [hse]
      have HS2 := Lib.hid hs2
      have hw : IntKind.i64.wrap ((s : Int) + (L1 : Int)) = (s : Int) + (L1 : Int) := IntWalk.i64_in _ (by omega)
      have hneg : decide ((s : Int) + (L1 : Int) < 0) = false := by rw [decide_eq_false_iff_not]; omega
      clear hs hs2 hse hL1 hq3 hp hq1 hq2
      go_wp2
      go_round
      case rel => exact ⟨j + 1, by omega, by go_num, by rw [HS2.out]; push_cast; rfl⟩
      case measure => simp [intOf]; omega
    · have hjL : (pss.take j).flatten.length = N := by rw [List.take_of_length_le (by have := HL.out; omega)]; exact HN.out
      rw [hjL]
      clear hjL
      go_wp2_with (first
        | (go_at_call 98; refine (hG _).mono ?_; rintro e w1 ⟨A1, m1, c1, rfl, own, o⟩
           have OW := Lib.hid own
           have OO := Lib.hid o
           clear own o))
      go_loopw [6, 27] (fun v k wr => ∃ j : Nat, j ≤ L ∧ k = .int .i64 j ∧ ∃ A' n' c', v = .slice A' n' c' ∧ wr.ownsRow w.heap.size 5 1 (.slice A' n' c') (pss.take j).flatten.length (byts (pss.take j).flatten) ∧ Only none_ w wr) (fun _ k _ => L - (intOf k).toNat)
      case atStart => exact ⟨0, by omega, rfl, _, _, _, rfl, by simpa using OW.out, OO.out⟩
      case round =>
        obtain ⟨k, hk, rfl, A2, n2, c2, rfl, hown, ho⟩ := hrel
        by_cases hlt : k < L
        · obtain ⟨b, off, A3, L3, c3, rfl, hSb, hbw, hc, hp, hL3, hb3⟩ := rows_cell HP.out k hlt
          have hc' := (ho.cell (p := ⟨b, off + k, none⟩) hbw (fun h => h)).trans hc
          have hs := Lib.hid (flat_snoc' pss k hp)
          have hle := flat_le' pss (k + 1)
          rw [HN.out, hs.out, List.length_append] at hle
          have hsum : (pss.take k).flatten.length + pss[k].length ≤ 140737488355328 := by omega
          have HB := Lib.hid (hb3.only ho (fun _ _ h => h))
          have HO := Lib.hid ho
          have HW := Lib.hid hown
          clear hc hb3 ho hown hle hL3
          go_wp2_with (first
            | (at_builtin; refine wpList_append_byt _ rfl (.tmp 31) (.tmp 32) _ rfl w.heap.size 5 i0 (.int .u8 0) Try.underlying71 hi0 hz0 hz1 hz2 rfl _ _ rfl HW.out S _ _ rfl HB.out hsum HO.out.size ?_; intro A5 n5 c5 w5 hown5 hgrow5 hmv5))
          have hO : Only none_ w w5 := HO.out.grown hgrow5 (fun k hk => .inr (HW.out.lt k hk).1)
          go_roundw
          case rel => exact ⟨k + 1, by omega, by go_num, _, _, _, rfl, by rw [hs.out]; exact hown5, hO⟩
          case measure => simp [intOf]; omega
        · have hkk : Hid (pss.take k = pss) := List.take_of_length_le (by have := HL.out; omega)
          have HO := Lib.hid ho
          have HW := Lib.hid hown
          clear ho hown
          go_wp2
          go_ret
          have := HW.out
          rw [hkk.out] at this
          exact ⟨_, _, _, rfl, this, HO.out⟩
end Go.Proofs.Ytbhdnhnkiibaaaa
