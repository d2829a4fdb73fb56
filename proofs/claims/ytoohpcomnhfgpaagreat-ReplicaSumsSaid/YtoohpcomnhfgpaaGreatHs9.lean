/- Texts of mine, one behind the other: JnM, JnA, Phase, CrcR, CrcA, CrcT, CrcB, Once, CrcC, JtA, CrcD, JtB, CrcE, JtC. No statement of the seat is proved here. -/
import Derived.Test.YtoohpcomnhfgpaaGreatHs8
import Derived.Test.YtoohpcomnhfgpaaGreatHs3
import Derived.Test.YtoohpcomnhfgpaaGreatHs5
import Derived.Lib.AppendZeros
import Derived.Deep.LoopGhost
import Derived.Deep.DrawnRows
import Derived.Deep.RegionHeld3
import Derived.Test.YtoohpcomnhfgpaaGreatChecked
import Derived.Test.YtoohpcomnhfgpaaGreatHs2
import Derived.Laws.BitsAllLaws
import Derived.Deep.QuietTactic
import Derived.BigQuiet
import Derived.Laws.Rows
import Derived.WalkKit
import Derived.Defers
import Derived.Laws.Pointers
import Derived.Laws.LoneSync
import Derived.RegionTactic
import Derived.RegionCalls
import Derived.ChangeAlike
import Derived.Laws.NewBlocks
section
namespace Go.Proofs.YtoohpcomnhfgpaaGreat
open Go.RowKit
set_option linter.all false
set_option maxRecDepth 100000
theorem two_put (n : Nat) (hn : n < 65536) (bs : List UInt8) : numCode 0 n 2 = 0 ∧ numBs 0 bs n 2 = bs ++ leBytes n 2 := by
  have h : n / 65536 = 0 := by omega
  constructor
  · simp [numCode, isW, h]
  · simp [numBs, isW, putS, h]
def recCode (n : Nat) : Int := if n = 0 then 1 else if 512 < n then 7 else 0
def hdB (n : Nat) : List UInt8 := crcMark (leBytes n 2)
def recB (bs : List UInt8) : List UInt8 := hdB bs.length ++ crcMark bs
theorem mark_len7 (bs : List UInt8) : (crcMark bs).length = bs.length + 4 := by simp [crcMark, lowB]
theorem hdB_len (n : Nat) : (hdB n).length = 6 := by rw [hdB, mark_len7, leBytes_length]
theorem recB_len (bs : List UInt8) : (recB bs).length = bs.length + 10 := by rw [recB, List.length_append, hdB_len, mark_len7]; omega
def jnN (bs : List UInt8) : Nat := leVal (bs.take 2)
def jnK (bs : List UInt8) : Nat :=
  if bs.length < 6 then 1
  else if crcHolds (bs.take 6) = false ∨ jnN bs < 1 ∨ 512 < jnN bs then 2
  else if bs.length < 10 + jnN bs then 1
  else if crcHolds ((bs.drop 6).take (jnN bs + 4)) = false then 2
  else 0
def jnB (bs : List UInt8) : List UInt8 := (bs.drop 6).take (jnN bs)
def jnR : Nat → List (List UInt8) → Nat → List UInt8 → List (List UInt8) × Nat × Int
  | 0, acc, at_, _ => (acc, at_, 0)
  | f + 1, acc, at_, bs => if jnK bs = 2 then ([], 0, 12) else if jnK bs = 1 then (acc, at_, 0) else jnR f (acc ++ [jnB bs]) (at_ + (10 + jnN bs)) (bs.drop (10 + jnN bs))
def jnRead (bs : List UInt8) : List (List UInt8) × Nat × Int := jnR (bs.length + 1) [] 0 bs
theorem jnK_zero {bs : List UInt8} (h : jnK bs = 0) : 6 ≤ bs.length ∧ crcHolds (bs.take 6) = true ∧ 1 ≤ jnN bs ∧ jnN bs ≤ 512 ∧ 10 + jnN bs ≤ bs.length ∧ crcHolds ((bs.drop 6).take (jnN bs + 4)) = true := by
  unfold jnK at h
  split at h
  · cases h
  · next h1 =>
    split at h
    · cases h
    · next h2 =>
      split at h
      · cases h
      · next h3 =>
        split at h
        · cases h
        · next h4 =>
          refine ⟨by omega, ?_, by omega, by omega, by omega, by simpa using h4⟩
          cases hc : crcHolds (bs.take 6)
          · exact absurd (.inl hc) h2
          · rfl
theorem jnK_cases (bs : List UInt8) : jnK bs = 0 ∨ jnK bs = 1 ∨ jnK bs = 2 := by
  unfold jnK
  split
  · exact .inr (.inl rfl)
  · split
    · exact .inr (.inr rfl)
    · split
      · exact .inr (.inl rfl)
      · split
        · exact .inr (.inr rfl)
        · exact .inl rfl
theorem jnR_step (f : Nat) (acc : List (List UInt8)) (n : Nat) (bs : List UInt8) : jnR (f + 1) acc n bs = if jnK bs = 2 then ([], 0, 12) else if jnK bs = 1 then (acc, n, 0) else jnR f (acc ++ [jnB bs]) (n + (10 + jnN bs)) (bs.drop (10 + jnN bs)) := rfl
end Go.Proofs.YtoohpcomnhfgpaaGreat
end
section
namespace Go.Proofs.YtoohpcomnhfgpaaGreat
open Go.RowKit
set_option maxRecDepth 100000
set_option linter.all false
attribute [local go_sem ↓] Go.wp_at_zero Go.wp_at_succ
theorem grow_nil (n : Nat) (h0 : 0 < n) (hn : n ≤ 1000000) (w : World) :
    Calls Tryz.prog 296 #[.slice none 0 0, .int .i64 (n : Int)] w fun e w' => ∃ A m c, e = .returned (.slice A m c) ∧ w'.ownsRow w.heap.size 5 1 (.slice A m c) ([] : List UInt8).length (byts []) ∧ Only none_ w w' := by
  obtain ⟨i0, hi0, hz0, hz1, hz2⟩ := info_parts u8_info
  have hr := fun ty => Lib.run_append_nil_zeros (P := Tryz.prog) w 114 3 ty 5 i0 (.int .u8 0) .i64 .i64 Tryz.underlying114 Tryz.underlying3 hi0 hz0 n h0 (by omega) (by omega) (by rw [hz2]; omega)
  obtain ⟨cap, hcap⟩ : ∃ c, grownCap w n 0 5 = c := ⟨_, rfl⟩
  have hge := grownCap_ge w n 0 5
  have hle := grownCap_le_maxLen w n 0 5 (by simp only [maxLen]; omega)
  rw [hcap] at hge hle hr
  obtain ⟨M, hM⟩ : ∃ M, Builtin.zeroCells (Value.int .u8 0).cells n ++ Builtin.zeroCells (Value.int .u8 0).cells (cap - n) = M := ⟨_, rfl⟩
  have hMs : M.size = cap := by
    rw [← hM, Array.size_append, size_zeroCells, size_zeroCells]
    simp [Value.cells]
    try omega
  rw [hM] at hr
  have HM := Lib.hid hMs
  have HL := Lib.hid hle
  have hc0 : (0 : Int) ≤ (cap : Int) := by omega
  have hn0 : decide ((n : Int) < 0) = false := by rw [decide_eq_false_iff_not]; omega
  have hnp : decide ((0 : Int) < (n : Int)) = true := by simp; omega
  clear hM hMs hle hge hcap
  go_enter Tryz.func296, Tryz.ntmps296
  go_wp2_with (first
    | (at_builtin; refine Lib.wpList_append_run _ rfl _ _ _ _ rfl _ _ rfl rfl _ _ (hr _) ?_))
  go_ret
  exact ⟨_, _, _, rfl, World.ownsRow_made w.drew M cap (Nat.le_refl _) HL.out (by have := HM.out; omega), ((Only.refl none_ w).drew).alloc _⟩
theorem rows_cell {w : World} {S : Nat → Prop} {A : Option Addr} {L c : Nat} {pss : List (List UInt8)} (h : Rows_ w S (.slice A L c) pss) (j : Nat) (hj : j < L) : ∃ b off A1 L1 c1, A = some ⟨b, off, none⟩ ∧ S b ∧ b < w.heap.size ∧ w.cell? ⟨b, off + j, none⟩ = some (.slice A1 L1 c1) ∧ ∃ hp : j < pss.length, L1 = pss[j].length ∧ Byt w S (.slice A1 L1 c1) pss[j] := by
  obtain ⟨A0, c0, e0, _, h4⟩ := h
  injection e0 with e1 e2 e3
  have hp : j < pss.length := by omega
  obtain ⟨b, off, rfl, hs, hb, hc⟩ := h4 (by omega)
  obtain ⟨x, hcx, hbx⟩ := hc j hp
  obtain ⟨A1, c1, hx1, _⟩ := id hbx
  subst hx1
  exact ⟨b, off, A1, _, c1, e1, hs, hb, hcx, hp, rfl, hbx⟩
theorem flat_snoc' (pss : List (List UInt8)) (k : Nat) (hk : k < pss.length) : (pss.take (k + 1)).flatten = (pss.take k).flatten ++ pss[k] := by
  rw [List.take_succ_eq_append_getElem hk, List.flatten_append]; rw [List.flatten_singleton]
theorem flat_le' (pss : List (List UInt8)) (k : Nat) : (pss.take k).flatten.length ≤ pss.flatten.length := by
  conv => rhs; rw [← List.take_append_drop k pss]
  rw [List.flatten_append, List.length_append]; omega
set_option maxHeartbeats 1600000 in
theorem concat_any (pv : Value) (pss : List (List UInt8)) (S : Nat → Prop) (w : World) (hp : Rows_ w S pv pss) (h0 : 0 < pss.flatten.length) (hm : pss.flatten.length ≤ 1000000) :
    Calls Tryz.prog 290 #[pv] w fun e w' => ∃ A n c, e = .returned (.slice A n c) ∧ w'.ownsRow w.heap.size 5 1 (.slice A n c) pss.flatten.length (byts pss.flatten) ∧ Only none_ w w' := by
  obtain ⟨i0, hi0, hz0, hz1, hz2⟩ := info_parts u8_info
  have hv : ∃ A c, pv = .slice A pss.length c ∧ pss.length ≤ maxLen := by obtain ⟨A, c, h, h1, _⟩ := hp; exact ⟨A, c, h, h1⟩
  obtain ⟨A, c, rfl, hmx⟩ := hv
  obtain ⟨L, hL⟩ : ∃ L, L = pss.length := ⟨_, rfl⟩
  rw [← hL] at hp hmx ⊢
  have hLm : L ≤ 9223372036854775807 := by simp only [maxLen] at hmx; omega
  obtain ⟨N, hN⟩ : ∃ N, pss.flatten.length = N := ⟨_, rfl⟩
  have HN := Lib.hid hN
  rw [hN] at h0 hm
  have hG := grow_nil N h0 hm
  have HP := Lib.hid hp
  have HL := Lib.hid hL
  clear hp hL hmx hN
  go_enter Tryz.func290, Tryz.ntmps290
  go_wp2
  go_loop [3, 11] (fun x k => ∃ j : Nat, j ≤ L ∧ k = .int .i64 j ∧ x = .int .i64 ((pss.take j).flatten.length : Int)) (fun _ k => L - (intOf k).toNat)
  case atStart => exact ⟨0, by omega, rfl, by simp⟩
  case round =>
    obtain ⟨j, hj, rfl, rfl⟩ := hrel
    by_cases hlb : j < L
    · obtain ⟨b, off, A1, L1, c1, rfl, hq1, hq2, hc, hp, hL1, hq3⟩ := rows_cell HP.out j hlb
      have hs := flat_snoc' pss j hp
      have hle := flat_le' pss (j + 1)
      rw [HN.out, hs, List.length_append] at hle
      obtain ⟨s, hse⟩ : ∃ s, (pss.take j).flatten.length = s := ⟨_, rfl⟩
      rw [hse, ← hL1] at hle
      have hs2 : (pss.take (j + 1)).flatten.length = s + L1 := by rw [hs, List.length_append, hse, hL1]
      rw [hse]
      have HS2 := Lib.hid hs2
      have hw : IntKind.i64.wrap ((s : Int) + (L1 : Int)) = (s : Int) + (L1 : Int) := IntWalk.i64_in _ (by omega)
      have hneg : decide ((s : Int) + (L1 : Int) < 0) = false := by rw [decide_eq_false_iff_not]; omega
      clear hs hs2 hse hL1 hq3 hp hq1 hq2
      go_wp2
      go_round
      case rel => exact ⟨j + 1, by omega, by go_num, by rw [HS2.out]; push_cast; rfl⟩
      case measure => simp [intOf]; omega
    · have hjL : (pss.take j).flatten.length = N := by rw [List.take_of_length_le (by have := HL.out; omega)]; exact HN.out
      rw [hjL]
      clear hjL
      go_wp2_with (first
        | (go_at_call 296; refine (hG _).mono ?_; rintro e w1 ⟨A1, m1, c1, rfl, own, o⟩
           have OW := Lib.hid own
           have OO := Lib.hid o
           clear own o))
      go_loopw [6, 27] (fun v k wr => ∃ j : Nat, j ≤ L ∧ k = .int .i64 j ∧ ∃ A' n' c', v = .slice A' n' c' ∧ wr.ownsRow w.heap.size 5 1 (.slice A' n' c') (pss.take j).flatten.length (byts (pss.take j).flatten) ∧ Only none_ w wr) (fun _ k _ => L - (intOf k).toNat)
      case atStart => exact ⟨0, by omega, rfl, _, _, _, rfl, by simpa using OW.out, OO.out⟩
      case round =>
        obtain ⟨k, hk, rfl, A2, n2, c2, rfl, hown, ho⟩ := hrel
        by_cases hlt : k < L
        · obtain ⟨b, off, A3, L3, c3, rfl, hSb, hbw, hc, hp, hL3, hb3⟩ := rows_cell HP.out k hlt
          have hc' := (ho.cell (p := ⟨b, off + k, none⟩) hbw (fun h => h)).trans hc
          have hs := Lib.hid (flat_snoc' pss k hp)
          have hle := flat_le' pss (k + 1)
          rw [HN.out, hs.out, List.length_append] at hle
          have hsum : (pss.take k).flatten.length + pss[k].length ≤ 140737488355328 := by omega
          have HB := Lib.hid (hb3.only ho (fun _ _ h => h))
          have HO := Lib.hid ho
          have HW := Lib.hid hown
          clear hc hb3 ho hown hle hL3
          go_wp2_with (first
            | (at_builtin; refine wpList_append_byt _ rfl (.tmp 31) (.tmp 32) _ rfl w.heap.size 5 i0 (.int .u8 0) Tryz.underlying114 hi0 hz0 hz1 hz2 rfl _ _ rfl HW.out S _ _ rfl HB.out hsum HO.out.size ?_; intro A5 n5 c5 w5 hown5 hgrow5 hmv5))
          have hO : Only none_ w w5 := HO.out.grown hgrow5 (fun k hk => .inr (HW.out.lt k hk).1)
          go_roundw
          case rel => exact ⟨k + 1, by omega, by go_num, _, _, _, rfl, by rw [hs.out]; exact hown5, hO⟩
          case measure => simp [intOf]; omega
        · have hkk : Hid (pss.take k = pss) := List.take_of_length_le (by have := HL.out; omega)
          have HO := Lib.hid ho
          have HW := Lib.hid hown
          clear ho hown
          go_wp2
          go_ret
          have := HW.out
          rw [hkk.out] at this
          exact ⟨_, _, _, rfl, this, HO.out⟩
end Go.Proofs.YtoohpcomnhfgpaaGreat
end
section
namespace Go.Proofs.YtoohpcomnhfgpaaGreat
open Go.RowKit
set_option linter.all false
attribute [local go_sem ↓] Go.wp_at_zero Go.wp_at_succ
theorem cst_odd {u : Nat} (hu : u < 4294967296) (h : u % 2 = 1) : bits .xor .u32 ((u : Int) / 2) 3988292384 = ((cst u : Nat) : Int) := by
  have := u32_xor_nat (u / 2) 3988292384 (by omega) (by omega)
  rw [cst, if_pos h, ← this]
  rfl
theorem cst_even {u : Nat} (h : ¬ u % 2 = 1) : (u : Int) / 2 = ((cst u : Nat) : Int) := by
  rw [cst, if_neg h]
  rfl
end Go.Proofs.YtoohpcomnhfgpaaGreat
end
section
namespace Go.Proofs.YtoohpcomnhfgpaaGreat
open Go.RowKit
set_option linter.all false
attribute [local go_sem ↓] Go.wp_at_zero Go.wp_at_succ
theorem low_bit (u : Nat) (hu : u < 4294967296) : bits .and .u32 (u : Int) 1 = ((u % 2 : Nat) : Int) := by
  have := u32_and_nat u 1 hu (by omega)
  rw [Nat.and_one_is_mod] at this
  exact this
theorem move_any (v : Nat) (hv : v < 4294967296) (w : World) :
    Calls Tryz.prog 299 #[.int .u32 (v : Int)] w fun e w' => e = .returned (.int .u32 (cst v : Nat)) ∧ w = w' := by
  have hb := low_bit v hv
  by_cases h : v % 2 = 1
  · have hq : (((v % 2 : Nat) : Int) == 0) = false := by rw [h]; rfl
    have hx := cst_odd hv h
    clear h
    go_enter Tryz.func299, Tryz.ntmps299
    go_wp2
    go_ret
    exact ⟨rfl, rfl⟩
  · have hq : (((v % 2 : Nat) : Int) == 0) = true := by rw [show v % 2 = 0 from by omega]; rfl
    have hx := cst_even h
    clear h
    go_enter Tryz.func299, Tryz.ntmps299
    go_wp2
    go_ret
    exact ⟨rfl, rfl⟩
end Go.Proofs.YtoohpcomnhfgpaaGreat
end
section
namespace Go.Proofs.YtoohpcomnhfgpaaGreat
open Go.RowKit
set_option linter.all false
attribute [local go_sem ↓] Go.wp_at_zero Go.wp_at_succ
noncomputable def tabZero : Array Value := match (Tryz.prog.info? 210).bind (·.zero) with
  | some (.agg cs) => cs
  | _ => #[]
end Go.Proofs.YtoohpcomnhfgpaaGreat
end
section
namespace Go.Proofs.YtoohpcomnhfgpaaGreat
open Go.RowKit
set_option linter.all false
attribute [local go_sem ↓] Go.wp_at_zero Go.wp_at_succ
def sumByte (n k : Nat) : UInt8 := UInt8.ofNat (n / 2 ^ (8 * k))
def sumArr (n k : Nat) : Array Value := ((List.range 4).map fun j => if j < k then byt (sumByte n j) else .int .u8 0).toArray
theorem byt_sumByte (n k : Nat) : byt (sumByte n k) = .int .u8 ((n : Int) / 2 ^ (8 * k) % 256) := by
  unfold byt sumByte
  have : (UInt8.ofNat (n / 2 ^ (8 * k))).toNat = n / 2 ^ (8 * k) % 256 := by simp
  rw [this, Int.natCast_emod, Int.natCast_ediv, Int.natCast_pow]
  rfl
theorem sumArr_set (n k : Nat) (hk : k < 4) : (sumArr n k).setIfInBounds k (byt (sumByte n k)) = sumArr n (k + 1) := by
  apply Array.ext_getElem?
  intro i
  rw [Array.getElem?_setIfInBounds]
  simp only [sumArr, List.size_toArray, List.length_map, List.length_range, List.getElem?_toArray, List.getElem?_map]
  by_cases hi : i < 4
  · rw [List.getElem?_range hi]
    by_cases hik : k = i
    · subst hik; simp [hk]
    · simp only [hik, if_false, Option.map_some]
      congr 1
      by_cases h1 : i < k
      · rw [if_pos h1, if_pos (by omega)]
      · rw [if_neg h1, if_neg (by omega)]
  · rw [if_neg (by omega)]
    simp [hi]
theorem sumArr_size (n k : Nat) : (sumArr n k).size = 4 := by simp [sumArr]
theorem sumArr_at (n k j : Nat) (hj : j < 4) : (sumArr n k)[j]? = some (if j < k then byt (sumByte n j) else .int .u8 0) := by
  simp [sumArr, hj]
theorem sumArr_one (n k : Nat) : (sumArr n k).all (·.oneCell') = true := by
  simp only [sumArr, List.all_toArray, List.all_map, List.all_eq_true, Function.comp]
  intro j _
  split <;> rfl
theorem sumArr_cell (n k j : Nat) (hj : j < 4) : ∃ z : Int, (sumArr n k)[j]? = some (.int .u8 z) := by
  rw [sumArr_at n k j hj]
  split
  · exact ⟨_, rfl⟩
  · exact ⟨_, rfl⟩
theorem sumByte_low (s : Nat) (hs : s < 4294967296) : lowB s = [sumByte s 0, sumByte s 1, sumByte s 2, sumByte s 3] := by
  have h : ∀ a b : Nat, a % 256 = b % 256 → UInt8.ofNat a = UInt8.ofNat b := fun a b h => by
    apply UInt8.toNat_inj.1
    simp [h]
  simp only [lowB, sumByte]
  rw [h (s % 256) (s / 2 ^ (8 * 0)) (by omega), h (s / 256 % 256) (s / 2 ^ (8 * 1)) (by omega), h (s / 65536 % 256) (s / 2 ^ (8 * 2)) (by omega), h (s / 16777216) (s / 2 ^ (8 * 3)) (by omega)]
theorem sumArr_byts (s : Nat) (hs : s < 4294967296) : (sumArr s 4).toList = byts (lowB s) := by
  rw [sumByte_low s hs]
  simp [sumArr, byts, List.range, List.range.loop]
set_option maxHeartbeats 400000 in
theorem lowest4_any (n : Nat) (_hn : n < 4294967296) (w : World) :
    Calls Tryz.prog 252 #[.int .u32 (n : Int)] w fun e w' => e = .returned (.agg (sumArr n 4)) ∧ Only none_ w w' := by
  have h0 : Hid (#[Value.int .u8 0, .int .u8 0, .int .u8 0, .int .u8 0] = sumArr n 0) := by
    simp [Hid, sumArr, List.range, List.range.loop]
  go_enter Tryz.func252, Tryz.ntmps252
  go_wp2
  go_loopw [5] (fun i wr => ∃ k : Nat, k ≤ 4 ∧ i = .int .i64 k ∧ Blk wr (w.heap.size + 1) 359 (sumArr n k) ∧ Blk wr w.heap.size 359 (sumArr n 0) ∧ Only none_ w wr) (fun i _ => 4 - (intOf i).toNat)
  case atStart =>
    refine ⟨0, by omega, rfl, ?_, ?_, ((Only.refl _ _).alloc _).alloc _⟩
    · rw [← h0.out]
      have := Blk.new (w.alloc (Obj.cells #[Value.int .u8 0, .int .u8 0, .int .u8 0, .int .u8 0] 359)) 359 #[Value.int .u8 0, .int .u8 0, .int .u8 0, .int .u8 0]
      simpa using this
    · rw [← h0.out]; exact (Blk.new w _ _).alloc _
  case round =>
    obtain ⟨k, hk, rfl, hb, hb0, ho⟩ := hrel
    by_cases hlt : k < 4
    · obtain ⟨z, hz⟩ := sumArr_cell n k k hlt
      have hc := hb.cell_ hz
      have hf := hb.frozen k
      have HB := Lib.hid hb
      have HB0 := Lib.hid hb0
      clear hb hz hb0
      go_wp2
      go_roundw
      case rel =>
        refine ⟨k + 1, by omega, by go_num, ?_, HB0.out.far (by simp) _, ho.setCell (.inr (by simp)) _⟩
        have := HB.out.set_ k (byt (sumByte n k))
        rw [sumArr_set n k hlt, byt_sumByte] at this
        exact this
      case measure => simp [intOf]; omega
    · have hk8 : k = 4 := by omega
      subst hk8
      have hs := Lib.hid (sumArr_size n 4)
      have HB := Lib.hid hb
      have HB0 := Lib.hid hb0
      have HO := Lib.hid ho
      clear hb hb0 ho
      go_wp2_with (first
        | (refine wpList_load_row rfl 359 _ rfl (w.heap.size + 1) rfl 359 (sumArr n 4) (0, 0) _ HB.out Tryz.underlying359 rfl (by rw [hs.out]; kernel_rfl) ?_)
        | (refine wpList_store_row rfl 359 _ _ rfl w.heap.size (sumArr n 4) rfl rfl 359 (sumArr n 0) HB0.out (by rw [hs.out]; kernel_rfl) (by rw [hs.out, sumArr_size]) (sumArr_one n 4) ?_))
      refine bodyPost_ret (results_cell_row rfl _ _ w.heap.size 359 (sumArr n 4) (0, 0) _ rfl (HB0.out.setRow (sumArr n 4)) Tryz.underlying359 rfl (by rw [hs.out]; kernel_rfl)) rfl ⟨rfl, HO.out.setRow (.inr (by simp)) _⟩
def rowCells (d m : Int) (k : Nat) : Array Value := #[.int .u32 d, .int .i32 m, .int .u32 0] ++ ((List.range 256).map fun j => if j < k then Value.int .u32 (cstN 8 j : Nat) else .int .u32 0).toArray
theorem rowCells_size (d m : Int) (k : Nat) : (rowCells d m k).size = 259 := by simp [rowCells]
theorem rowCells_row (d m : Int) (k j : Nat) (hj : j < 256) : (rowCells d m k)[3 + j]? = some (if j < k then Value.int .u32 (cstN 8 j : Nat) else .int .u32 0) := by
  rw [rowCells, Array.getElem?_append_right (by simp)]
  simp [hj]
theorem rowCells_set (d m : Int) (k : Nat) (hk : k < 256) : (rowCells d m k).setIfInBounds (3 + k) (.int .u32 (cstN 8 k : Nat)) = rowCells d m (k + 1) := by
  apply Array.ext_getElem?
  intro i
  rw [Array.getElem?_setIfInBounds, rowCells_size]
  by_cases hi : i < 3
  · rw [if_neg (by omega), rowCells, rowCells, Array.getElem?_append_left (by simpa using hi), Array.getElem?_append_left (by simpa using hi)]
  · obtain ⟨j, rfl⟩ : ∃ j, i = 3 + j := ⟨i - 3, by omega⟩
    by_cases hj : j < 256
    · rw [rowCells_row _ _ _ _ hj, rowCells_row _ _ _ _ hj]
      by_cases e : k = j
      · subst e
        rw [if_pos rfl, if_pos (by omega), if_pos (by omega)]
      · rw [if_neg (by omega)]
        by_cases h1 : j < k
        · rw [if_pos h1, if_pos (by omega)]
        · rw [if_neg h1, if_neg (by omega)]
    · rw [if_neg (by omega), Array.getElem?_eq_none (by rw [rowCells_size]; omega), Array.getElem?_eq_none (by rw [rowCells_size]; omega)]
theorem rowCells_done (d d' m : Int) (k : Nat) : (rowCells d m k).setIfInBounds 0 (.int .u32 d') = rowCells d' m k := by
  unfold rowCells
  rw [Array.setIfInBounds_append_left (by simp)]
  rfl
theorem rowCells_lock (d m m' : Int) (k : Nat) : (rowCells d m k).setIfInBounds 1 (.int .i32 m') = rowCells d m' k := by
  unfold rowCells
  rw [Array.setIfInBounds_append_left (by simp)]
  rfl
theorem rowCells_zero : tabZero = rowCells 0 0 0 := by
  have h : tabZero = #[.int .u32 0, .int .i32 0, .int .u32 0] ++ Array.replicate 256 (.int .u32 0) := by kernel_rfl
  rw [h]
  have e : ∀ n, Array.replicate n (Value.int .u32 0) = ((List.range n).map fun j => if j < 0 then Value.int .u32 (cstN 8 j : Nat) else .int .u32 0).toArray := fun n => by
    apply Array.ext_getElem?
    intro i
    by_cases hi : i < n
    · simp [hi]
    · rw [Array.getElem?_eq_none (by simp; omega), Array.getElem?_eq_none (by simp; omega)]
  rw [e 256]
  rfl
end Go.Proofs.YtoohpcomnhfgpaaGreat
end
section
namespace Go.Proofs.YtoohpcomnhfgpaaGreat
theorem disable (w : World) : (callFunc 308 #[]).run Tryz.prog w = .ok (.value (.tuple #[])) w := run_call_mark0 Tryz.func308 (by kernel_rfl) (by kernel_rfl) (by kernel_rfl) .disable (by kernel_rfl) w
theorem enable (w : World) : (callFunc 310 #[]).run Tryz.prog w = .ok (.value (.tuple #[])) w := run_call_mark0 Tryz.func310 (by kernel_rfl) (by kernel_rfl) (by kernel_rfl) .enable (by kernel_rfl) w
theorem acquire (a : Addr) (w : World) : (callFunc 311 #[.pointer (some a)]).run Tryz.prog w = .ok (.value (.tuple #[])) w := run_call_marked Tryz.func311 (by kernel_rfl) (by kernel_rfl) (by kernel_rfl) .acquire (by kernel_rfl) a w
theorem releaseMerge (a : Addr) (w : World) : (callFunc 313 #[.pointer (some a)]).run Tryz.prog w = .ok (.value (.tuple #[])) w := run_call_marked Tryz.func313 (by kernel_rfl) (by kernel_rfl) (by kernel_rfl) .releaseMerge (by kernel_rfl) a w
theorem store_deferred (a : Addr) (x : Value) (u : FrameMode) (w : World) (hc : w.cell? a = some x) (hz : w.frozen? a = false) :
    CallsD Tryz.prog 303 #[.pointer (some a), .bool true] u w fun e u' w' => u' = u ∧ (e = .returned (.tuple #[]) ∧ w' = w.drew.setCell a (.int .u32 1)) := by
  have hc' : w.drew.cell? a = some x := by go_simp
  have hz' : w.drew.frozen? a = false := by go_simp
  have hst := run_call_store (P := Tryz.prog) Tryz.func306 (by kernel_rfl) (by kernel_rfl) (by kernel_rfl) (by kernel_rfl) (k := .u32) (y := 1) hc' hz'
  go_enter_d Tryz.func303, Tryz.ntmps303
  go_wp2
  go_region_calls
  all_goals (go_end0; exact ⟨rfl, rfl⟩)
set_option maxRecDepth 100000 in
theorem ilock_free (a : Addr) (w : World) (hc : w.cell? a = some (.int .i32 0)) (hz : w.frozen? a = false) :
    Calls Tryz.prog 304 #[.pointer (some a)] w fun e w' => e = .returned (.tuple #[]) ∧ w' = w.setCell a (.int .i32 1) := by
  have hd := disable
  have he := enable
  have ha := acquire
  have hcas := run_call_cas_hit (P := Tryz.prog) Tryz.func309 (by kernel_rfl) (by kernel_rfl) (by kernel_rfl) .i32 (by kernel_rfl) (y := 1) hc hz
  have hc' : (w.setCell a (.int .i32 1)).cell? a = some (.int .i32 1) := World.cell?_setCell_same w a _ hc
  have hcv := run_convert_to_unsafe (P := Tryz.prog) (src := 409) (dst := 413) Tryz.underlying409 Tryz.underlying413 (by kernel_rfl) hc'
  go_enter Tryz.func304, Tryz.ntmps304
  go_wp2
  first | go_end0 | (simp only [Exit.inBlock, Exit.then]; refine bodyPost_ret (results_none rfl _ _ _) rfl ?_) | refine bodyPost_ret (results_none rfl _ _ _) rfl ?_
  exact ⟨rfl, rfl⟩
theorem lock_free (a : Addr) (w : World) (hc : w.cell? a = some (.int .i32 0)) (hz : w.frozen? a = false) :
    Calls Tryz.prog 301 #[.pointer (some a)] w fun e w' => e = .returned (.tuple #[]) ∧ w' = w.setCell a (.int .i32 1) := by
  go_enter Tryz.func301, Tryz.ntmps301
  go_wp2_with (go_at_call 304; refine (ilock_free a w hc hz).mono ?_; rintro e w' ⟨rfl, rfl⟩)
  go_end0
  exact ⟨rfl, rfl⟩
set_option maxRecDepth 100000 in
theorem iunlock (a : Addr) (w : World) (hc : w.cell? a = some (.int .i32 1)) (hz : w.frozen? a = false) :
    Calls Tryz.prog 305 #[.pointer (some a)] w fun e w' => e = .returned (.tuple #[]) ∧ w' = w.setCell a (.int .i32 0) := by
  have hd := disable
  have he := enable
  have hr := releaseMerge
  have hadd := run_call_add (P := Tryz.prog) Tryz.func314 (by kernel_rfl) (by kernel_rfl) (by kernel_rfl) .i32 (by kernel_rfl) (y := -1) (s := 0) hc hz (by simp [go_sem]; rfl)
  have hcv := run_convert_to_unsafe (P := Tryz.prog) (src := 409) (dst := 413) Tryz.underlying409 Tryz.underlying413 (by kernel_rfl) hc
  go_enter Tryz.func305, Tryz.ntmps305
  go_wp2
  go_end0
  exact ⟨rfl, rfl⟩
theorem unlock_deferred (a : Addr) (u : FrameMode) (w : World) (hc : w.cell? a = some (.int .i32 1)) (hz : w.frozen? a = false) :
    CallsD Tryz.prog 302 #[.pointer (some a)] u w fun e u' w' => u' = u ∧ (e = .returned (.tuple #[]) ∧ w' = w.setCell a (.int .i32 0)) := by
  go_enter_d Tryz.func302, Tryz.ntmps302
  go_wp2_with (go_at_call 305; refine (iunlock a w hc hz).mono ?_; rintro e w' ⟨rfl, rfl⟩)
  go_end0
  exact ⟨rfl, rfl⟩
theorem load_bool (a : Addr) (d : Int) (w : World) (hc : w.cell? a = some (.int .u32 d)) :
    Calls Tryz.prog 297 #[.pointer (some a)] w fun e w' => e = .returned (.bool (d != 0)) ∧ w = w' := by
  have hl := run_call_load (P := Tryz.prog) Tryz.func300 (by kernel_rfl) (by kernel_rfl) (by kernel_rfl) .u32 (by kernel_rfl) hc
  go_enter Tryz.func297, Tryz.ntmps297
  go_wp2
  go_ret
  exact ⟨rfl, rfl⟩
theorem slow_any (b off : Nat) (x : Value) (F : World → Prop) (w : World)
    (h0 : w.cell? ⟨b, off, none⟩ = some (.int .u32 0)) (h1 : w.cell? ⟨b, off + 1, none⟩ = some (.int .i32 0)) (f1 : w.frozen? ⟨b, off + 1, none⟩ = false)
    (hf : Calls Tryz.prog 295 #[x] (w.setCell ⟨b, off + 1, none⟩ (.int .i32 1)) fun e w2 => e = .returned (.tuple #[]) ∧ (∃ d, w2.cell? ⟨b, off, none⟩ = some d) ∧ w2.frozen? ⟨b, off, none⟩ = false ∧ w2.cell? ⟨b, off + 1, none⟩ = some (.int .i32 1) ∧ w2.frozen? ⟨b, off + 1, none⟩ = false ∧ F w2) :
    Calls Tryz.prog 298 #[.pointer (some ⟨b, off, none⟩), .func (.func 295) #[x] #[]] w fun e w' => e = .returned (.tuple #[]) ∧
      ∃ w2, F w2 ∧ w' = (w2.drew.setCell ⟨b, off, none⟩ (.int .u32 1)).setCell ⟨b, off + 1, none⟩ (.int .i32 0) := by
  have h00 : (w.setCell ⟨b, off + 1, none⟩ (.int .i32 1)).cell? ⟨b, off, none⟩ = some (.int .u32 0) := (World.cell?_setCell_other _ ⟨b, off + 1, none⟩ ⟨b, off, none⟩ _ (by simp)).trans h0
  have hnot : ∀ (x : Bool) (w : World), (Op.unary .not (.bool x)).run Tryz.prog w = .ok (.bool (!x)) w := fun _ _ => rfl
  go_enter_defers Tryz.func298, Tryz.ntmps298
  go_wp2_with (first
    | (go_at_call 301; refine (lock_free ⟨b, off + 1, none⟩ _ (by go_simp) (by go_simp)).mono ?_; rintro e w' ⟨rfl, rfl⟩)
    | (go_at_call 297; refine (load_bool ⟨b, off, none⟩ 0 _ h00).mono ?_; rintro e w' ⟨rfl, rfl⟩)
    | (go_at_call 295; refine hf.mono ?_; rintro e w2 ⟨rfl, ⟨d, d0⟩, d1, d2, d3, dF⟩))
  refine leaves_cons (f := 303) (args := #[.pointer (some ⟨b, off, none⟩), .bool true]) (by simp) (by simp [go_sem]) ?_
  refine (store_deferred ⟨b, off, none⟩ d .returning _ d0 d1).mono ?_
  rintro e u' w'' ⟨rfl, rfl, rfl⟩
  refine leaves_cons (f := 302) (args := #[.pointer (some ⟨b, off + 1, none⟩)]) (by simp [settle]) (by simp [go_sem]) ?_
  refine (unlock_deferred ⟨b, off + 1, none⟩ _ _ ?_ (by simp [d3])).mono ?_
  · exact (World.cell?_setCell_other _ ⟨b, off, none⟩ ⟨b, off + 1, none⟩ _ (by simp)).trans (by rw [World.cell?_drew]; exact d2)
  rintro e u' w'' ⟨rfl, rfl, rfl⟩
  simp [Leaves, settle, results, Tryz.results298]
  exact ⟨w2, dF, rfl⟩
theorem do_first (b off : Nat) (x : Value) (F : World → Prop) (w : World)
    (h0 : w.cell? ⟨b, off, none⟩ = some (.int .u32 0)) (h1 : w.cell? ⟨b, off + 1, none⟩ = some (.int .i32 0)) (f1 : w.frozen? ⟨b, off + 1, none⟩ = false)
    (hf : Calls Tryz.prog 295 #[x] (w.setCell ⟨b, off + 1, none⟩ (.int .i32 1)) fun e w2 => e = .returned (.tuple #[]) ∧ (∃ d, w2.cell? ⟨b, off, none⟩ = some d) ∧ w2.frozen? ⟨b, off, none⟩ = false ∧ w2.cell? ⟨b, off + 1, none⟩ = some (.int .i32 1) ∧ w2.frozen? ⟨b, off + 1, none⟩ = false ∧ F w2) :
    Calls Tryz.prog 294 #[.pointer (some ⟨b, off, none⟩), .func (.func 295) #[x] #[]] w fun e w' => e = .returned (.tuple #[]) ∧
      ∃ w2, F w2 ∧ w' = (w2.drew.setCell ⟨b, off, none⟩ (.int .u32 1)).setCell ⟨b, off + 1, none⟩ (.int .i32 0) := by
  have hnot : ∀ (x : Bool) (w : World), (Op.unary .not (.bool x)).run Tryz.prog w = .ok (.bool (!x)) w := fun _ _ => rfl
  have HS := slow_any b off x F w h0 h1 f1 hf
  clear hf
  go_enter Tryz.func294, Tryz.ntmps294
  go_wp2_with (first
    | (go_at_call 297; refine (load_bool ⟨b, off, none⟩ 0 _ h0).mono ?_; rintro e w' ⟨rfl, rfl⟩)
    | (go_at_call 298; refine HS.mono ?_; rintro e w' ⟨rfl, hw'⟩))
  go_end0
  exact ⟨rfl, hw'⟩
theorem do_done (b off : Nat) (d : Int) (hd : (d != 0) = true) (fv : Value) (w : World) (h0 : w.cell? ⟨b, off, none⟩ = some (.int .u32 d)) :
    Calls Tryz.prog 294 #[.pointer (some ⟨b, off, none⟩), fv] w fun e w' => e = .returned (.tuple #[]) ∧ w = w' := by
  have hnot : ∀ (x : Bool) (w : World), (Op.unary .not (.bool x)).run Tryz.prog w = .ok (.bool (!x)) w := fun _ _ => rfl
  go_enter Tryz.func294, Tryz.ntmps294
  go_wp2_with (first
    | (go_at_call 297; refine (load_bool ⟨b, off, none⟩ d _ h0).mono ?_; rintro e w' ⟨rfl, rfl⟩))
  go_end0
  exact ⟨rfl, rfl⟩
end Go.Proofs.YtoohpcomnhfgpaaGreat
end
section
namespace Go.Proofs.YtoohpcomnhfgpaaGreat
open Go.RowKit
set_option linter.all false
attribute [local go_sem ↓] Go.wp_at_zero Go.wp_at_succ
def Tab (tt : TypeId) (w : World) (g : Nat) : Prop := Blk w g tt (rowCells 0 0 0) ∨ Blk w g tt (rowCells 1 0 256)
def TabD (tt : TypeId) (w : World) (g : Nat) : Prop := Blk w g tt (rowCells 1 0 256)
theorem TabD.tab {tt : TypeId} {w : World} {g : Nat} (h : TabD tt w g) : Tab tt w g := .inr h
theorem TabD.only {tt : TypeId} {S : Nat → Prop} {w w' : World} {g : Nat} (h : TabD tt w g) (ho : Only S w w') (hn : ¬ S g) : TabD tt w' g := Blk.only (t := tt) h ho hn
theorem Tab.only {tt : TypeId} {S : Nat → Prop} {w w' : World} {g : Nat} (h : Tab tt w g) (ho : Only S w w') (hn : ¬ S g) : Tab tt w' g := h.imp (fun h => h.only ho hn) (fun h => h.only ho hn)
theorem Tab.lt {tt : TypeId} {w : World} {g : Nat} (h : Tab tt w g) : g < w.heap.size := by rcases h with h | h <;> exact h.lt
theorem Tab.new (tt : TypeId) (w : World) : Tab tt (w.alloc (.cells tabZero tt)) w.heap.size := .inl (by rw [← rowCells_zero]; exact Blk.new w _ _)
end Go.Proofs.YtoohpcomnhfgpaaGreat
end
section
namespace Go.Proofs.YtoohpcomnhfgpaaGreat
open Go.RowKit
set_option linter.all false
set_option maxRecDepth 100000
attribute [local go_sem ↓] Go.wp_at_zero Go.wp_at_succ
theorem pad_at {P Q cs : Array Value} {o : Nat} (ho : P.size = o) {j : Nat} {v : Value} (h : cs[j]? = some v) : (P ++ cs ++ Q)[o + j]? = some v := by
  subst ho
  have hj : j < cs.size := by
    rcases Nat.lt_or_ge j cs.size with h1 | h1
    · exact h1
    · rw [Array.getElem?_eq_none h1] at h; cases h
  rw [Array.getElem?_append_left (by rw [Array.size_append]; omega), Array.getElem?_append_right (by omega), show P.size + j - P.size = j by omega]
  exact h
theorem pad_set {P Q cs : Array Value} {o : Nat} (ho : P.size = o) {j : Nat} (hj : j < cs.size) (v : Value) : (P ++ cs ++ Q).setIfInBounds (o + j) v = P ++ cs.setIfInBounds j v ++ Q := by
  subst ho
  rw [Array.setIfInBounds_append_left (by rw [Array.size_append]; omega), Array.setIfInBounds_append_right (by omega), show P.size + j - P.size = j by omega]
def TabP (tt : TypeId) (P Q : Array Value) (w : World) (g : Nat) : Prop := Blk w g tt (P ++ rowCells 0 0 0 ++ Q) ∨ Blk w g tt (P ++ rowCells 1 0 256 ++ Q)
def TabQ (tt : TypeId) (P Q : Array Value) (w : World) (g : Nat) : Prop := Blk w g tt (P ++ rowCells 1 0 256 ++ Q)
theorem TabQ.tab {tt : TypeId} {P Q : Array Value} {w : World} {g : Nat} (h : TabQ tt P Q w g) : TabP tt P Q w g := .inr h
theorem TabQ.only {tt : TypeId} {P Q : Array Value} {S : Nat → Prop} {w w' : World} {g : Nat} (h : TabQ tt P Q w g) (ho : Only S w w') (hn : ¬ S g) : TabQ tt P Q w' g := Blk.only (t := tt) h ho hn
theorem TabP.only {tt : TypeId} {P Q : Array Value} {S : Nat → Prop} {w w' : World} {g : Nat} (h : TabP tt P Q w g) (ho : Only S w w') (hn : ¬ S g) : TabP tt P Q w' g := h.imp (fun h => h.only ho hn) (fun h => h.only ho hn)
theorem TabP.lt {tt : TypeId} {P Q : Array Value} {w : World} {g : Nat} (h : TabP tt P Q w g) : g < w.heap.size := by rcases h with h | h <;> exact h.lt
theorem TabP.cell {tt : TypeId} {P Q : Array Value} {w : World} {g : Nat} (h : TabP tt P Q w g) {j : Nat} {v : Value} (hv : ∀ cs : Array Value, cs.size = 259 → (P ++ cs ++ Q)[j]? = some v) : w.cell? ⟨g, j, none⟩ = some v := by
  rcases h with h | h
  · exact h.cell_ (hv _ (rowCells_size _ _ _))
  · exact h.cell_ (hv _ (rowCells_size _ _ _))
theorem TabP.ahead {P Q : Array Value} {j : Nat} {v : Value} (h : P[j]? = some v) (cs : Array Value) (_ : cs.size = 259) : (P ++ cs ++ Q)[j]? = some v := by
  have hj : j < P.size := by
    rcases Nat.lt_or_ge j P.size with h1 | h1
    · exact h1
    · rw [Array.getElem?_eq_none h1] at h; cases h
  rw [Array.getElem?_append_left (by rw [Array.size_append]; omega), Array.getElem?_append_left hj]
  exact h
theorem TabP.behind {P Q : Array Value} {o j : Nat} {v : Value} (ho : P.size = o) (h : Q[j]? = some v) (cs : Array Value) (hc : cs.size = 259) : (P ++ cs ++ Q)[o + 259 + j]? = some v := by
  subst ho
  rw [Array.getElem?_append_right (by rw [Array.size_append]; omega), Array.size_append, hc, show P.size + 259 + j - (P.size + 259) = j by omega]
  exact h
theorem TabP.frozen {tt : TypeId} {P Q : Array Value} {w : World} {g : Nat} (h : TabP tt P Q w g) (j : Nat) : w.frozen? ⟨g, j, none⟩ = false := by
  rcases h with h | h
  · exact h.frozen j
  · exact h.frozen j
theorem TabP.setQ {tt : TypeId} {P Q : Array Value} {w : World} {g o : Nat} (h : TabP tt P Q w g) (ho : P.size = o) (j : Nat) (v : Value) : TabP tt P (Q.setIfInBounds j v) (w.setCell ⟨g, o + 259 + j, none⟩ v) g := by
  subst ho
  have e : ∀ cs : Array Value, cs.size = 259 → (P ++ cs ++ Q).setIfInBounds (P.size + 259 + j) v = P ++ cs ++ Q.setIfInBounds j v := fun cs hc => by
    rw [Array.setIfInBounds_append_right (by rw [Array.size_append]; omega), Array.size_append, hc, show P.size + 259 + j - (P.size + 259) = j by omega]
  rcases h with h | h
  · have := h.set_ (P.size + 259 + j) v
    rw [e _ (rowCells_size _ _ _)] at this
    exact .inl this
  · have := h.set_ (P.size + 259 + j) v
    rw [e _ (rowCells_size _ _ _)] at this
    exact .inr this
theorem TabP.tab {tt : TypeId} {w : World} {g : Nat} (h : TabP tt #[] #[] w g) : Tab tt w g := by
  rcases h with h | h
  · exact .inl (by simpa using h)
  · exact .inr (by simpa using h)
set_option maxRecDepth 100000 in
set_option maxHeartbeats 400000 in
theorem makeRows_at {tt : TypeId} {P Q : Array Value} {o : Nat} (ho : P.size = o) (g : Nat) (d m : Int) (w : World) (h : Blk w g tt (P ++ rowCells d m 0 ++ Q)) :
    Calls Tryz.prog 295 #[.pointer (some ⟨g, o, none⟩)] w fun e w' => e = .returned (.tuple #[]) ∧ Blk w' g tt (P ++ rowCells d m 256 ++ Q) ∧ Only (one g) w w' := by
  have HB0 := Lib.hid h
  have HP := Lib.hid ho
  clear h ho
  go_enter Tryz.func295, Tryz.ntmps295
  go_wp2
  go_loopw [4] (fun i wr => ∃ k : Nat, k ≤ 256 ∧ i = .int .i64 k ∧ Blk wr g tt (P ++ rowCells d m k ++ Q) ∧ Only (one g) w wr) (fun i _ => 256 - (intOf i).toNat)
  case atStart => exact ⟨0, by omega, rfl, HB0.out, Only.refl _ _⟩
  case round =>
    obtain ⟨k, hk, rfl, hb, ho⟩ := hrel
    have HB := Lib.hid hb
    have HO := Lib.hid ho
    by_cases hlt : k < 256
    · have hc := hb.cell_ (i := o + 3 + k) (by rw [Nat.add_assoc]; exact pad_at HP.out (rowCells_row d m k k hlt))
      rw [if_neg (by omega)] at hc
      have hf := hb.frozen (o + 3 + k)
      have hdk : decide ((k : Int) < 256) = true := by simp; omega
      clear hb ho
      go_wp2
      go_loop [3, 9] (fun x i => ∃ j : Nat, j ≤ 8 ∧ i = .int .i64 j ∧ x = .int .u32 (cstN j k : Nat)) (fun _ i => 8 - (intOf i).toNat)
      case atStart => exact ⟨0, by omega, rfl, rfl⟩
      case round =>
        obtain ⟨j, hj, rfl, rfl⟩ := hrel
        have hm := move_any (cstN j k) (cstN_lt j (by omega))
        rw [← cstN_next] at hm
        by_cases h8 : j < 8
        · go_wp2_with (go_at_call 299; refine (hm _).mono ?_; rintro e w' ⟨rfl, rfl⟩)
          go_round
          case rel => exact ⟨j + 1, by omega, by go_num, rfl⟩
          case measure => simp [intOf]; omega
        · obtain rfl : j = 8 := by omega
          clear hm
          go_wp2
          go_roundw
          case rel =>
            refine ⟨k + 1, by omega, by go_num, ?_, HO.out.setCell (.inl (show one g g from rfl)) _⟩
            have := HB.out.set_ (o + 3 + k) (.int .u32 (cstN 8 k : Nat))
            rw [Nat.add_assoc o 3 k, pad_set HP.out (by rw [rowCells_size]; omega), rowCells_set d m k hlt, ← Nat.add_assoc] at this
            exact this
          case measure => simp [intOf]; omega
    · obtain rfl : k = 256 := by omega
      clear hb ho
      go_wp2
      go_end0
      exact ⟨rfl, HB.out, HO.out⟩
theorem once_at {tt : TypeId} {P Q : Array Value} {o : Nat} (ho : P.size = o) (g : Nat) (w : World) (h : TabP tt P Q w g) :
    Calls Tryz.prog 294 #[.pointer (some ⟨g, o, none⟩), .func (.func 295) #[.pointer (some ⟨g, o, none⟩)] #[]] w fun e w' => e = .returned (.tuple #[]) ∧ TabQ tt P Q w' g ∧ Only (one g) w w' := by
  have c0 : ∀ d m k, (P ++ rowCells d m k ++ Q)[o]? = some (.int .u32 d) := fun d m k => pad_at (j := 0) ho (by rw [rowCells, Array.getElem?_append_left (by simp)]; rfl)
  have c1 : ∀ d m k, (P ++ rowCells d m k ++ Q)[o + 1]? = some (.int .i32 m) := fun d m k => pad_at (j := 1) ho (by rw [rowCells, Array.getElem?_append_left (by simp)]; rfl)
  rcases h with h | h
  · have hb : Blk (w.setCell ⟨g, o + 1, none⟩ (.int .i32 1)) g tt (P ++ rowCells 0 1 0 ++ Q) := by
      have := h.set_ (o + 1) (.int .i32 1)
      rw [pad_set ho (by rw [rowCells_size]; omega), rowCells_lock] at this
      exact this
    have ho1 : Only (one g) w (w.setCell ⟨g, o + 1, none⟩ (.int .i32 1)) := (Only.refl _ _).setCell (.inl (show one g g from rfl)) _
    refine (do_first g o (.pointer (some ⟨g, o, none⟩)) (fun w2 => Blk w2 g tt (P ++ rowCells 0 1 256 ++ Q) ∧ Only (one g) w w2) w (h.cell_ (c0 _ _ _)) (h.cell_ (c1 _ _ _)) (h.frozen _)
      ((makeRows_at ho g 0 1 _ hb).mono fun e w2 ⟨h1, h2, h3⟩ => ⟨h1, ⟨_, h2.cell_ (c0 _ _ _)⟩, h2.frozen _, h2.cell_ (c1 _ _ _), h2.frozen _, h2, ho1.trans h3⟩)).mono ?_
    rintro e w' ⟨rfl, w2, ⟨h2, o2⟩, rfl⟩
    refine ⟨rfl, ?_, (o2.drew.setCell (.inl (show one g g from rfl)) _).setCell (.inl (show one g g from rfl)) _⟩
    have := (h2.drew.set_ o (.int .u32 1)).set_ (o + 1) (.int .i32 0)
    rw [show o = o + 0 from rfl, pad_set ho (by rw [rowCells_size]; omega), rowCells_done, show o + 0 + 1 = o + 1 from rfl, pad_set ho (by rw [rowCells_size]; omega), rowCells_lock] at this
    exact this
  · refine (do_done g o 1 rfl _ w (h.cell_ (c0 _ _ _))).mono ?_
    rintro e w' ⟨rfl, rfl⟩
    exact ⟨rfl, h, Only.refl _ _⟩
theorem made_at {tt : TypeId} {P Q : Array Value} {o : Nat} (ho : P.size = o) (g : Nat) (w : World) (h : TabP tt P Q w g) :
    Calls Tryz.prog 288 #[.pointer (some ⟨g, o, none⟩)] w fun e w' => e = .returned (.pointer (some ⟨g, o + 3, none⟩)) ∧ TabQ tt P Q w' g ∧ Only (one g) w w' := by
  have hd : ∃ cs, Blk w g tt cs ∧ ∃ u, cs[o]? = some u := by
    have c0 : ∀ d m k, ∃ u, (P ++ rowCells d m k ++ Q)[o]? = some u := fun d m k => ⟨_, pad_at (j := 0) ho (by rw [rowCells, Array.getElem?_append_left (by simp)]; rfl)⟩
    rcases h with h | h
    · exact ⟨_, h, c0 _ _ _⟩
    · exact ⟨_, h, c0 _ _ _⟩
  obtain ⟨cs, hB, u, hu⟩ := hd
  have hc := hB.cell_ hu
  have HT := once_at ho g w h
  have HP := Lib.hid ho
  clear hB hu h ho
  go_enter Tryz.func288, Tryz.ntmps288
  go_wp2_with (go_at_call 294; refine HT.mono ?_; rintro e w1 ⟨rfl, t1, o1⟩
               have hc1 : ∃ u, w1.cell? ⟨g, o, none⟩ = some u := ⟨_, Blk.cell_ (t := tt) t1 (pad_at (j := 0) HP.out (show (rowCells 1 0 256)[0]? = some (.int .u32 1) by rw [rowCells, Array.getElem?_append_left (by simp)]; rfl))⟩
               obtain ⟨u1, hc1⟩ := hc1)
  go_ret
  exact ⟨rfl, t1, o1⟩
end Go.Proofs.YtoohpcomnhfgpaaGreat
end
section
namespace Go.Proofs.YtoohpcomnhfgpaaGreat
open Go.RowKit
set_option linter.all false
attribute [local go_sem ↓] Go.wp_at_zero Go.wp_at_succ
theorem xor_small (u z : Nat) (hz : z < 256) : cstN 8 (u ^^^ z) = u / 256 ^^^ cstN 8 (u % 256 ^^^ z) := by
  rw [cstN_row, xor_div256, xor_mod256, show z / 256 = 0 from by omega, show z % 256 = z from by omega, Nat.xor_zero]
theorem u32_turn (s : Nat) (hs : s < 4294967296) : bits .xor .u32 IntKind.u32.max (s : Int) = ((4294967295 ^^^ s : Nat) : Int) :=
  u32_xor_nat 4294967295 s (by omega) hs
end Go.Proofs.YtoohpcomnhfgpaaGreat
end
section
namespace Go.Proofs.YtoohpcomnhfgpaaGreat
open Go.RowKit
set_option linter.all false
set_option maxRecDepth 100000
attribute [local go_sem ↓] Go.wp_at_zero Go.wp_at_succ
set_option maxHeartbeats 400000 in
theorem more_at {tt : TypeId} {P Q : Array Value} {o : Nat} (ho : P.size = o) (g : Nat) (S : Nat → Prop) (s : Nat) (x : Value) (bs : List UInt8) (w : World) (h : TabP tt P Q w g) (hs : s < 4294967296) (hx : Byt w S x bs) (hS : ∀ b, S b → b ≠ g) :
    Calls Tryz.prog 278 #[.pointer (some ⟨g, o, none⟩), .int .u32 (s : Int), x] w fun e w' => e = .returned (.int .u32 (crcMore s bs : Nat)) ∧ TabP tt P Q w' g ∧ Only (one g) w w' := by
  have hv : ∃ A L c, L = bs.length ∧ x = .slice A L c := by obtain ⟨A, c, h, _⟩ := hx; exact ⟨A, _, c, rfl, h⟩
  obtain ⟨A, L, c, hL, rfl⟩ := hv
  have hLm : L ≤ 9223372036854775807 := by obtain ⟨_, c', he, h1, h2, _⟩ := hx; simp only [maxLen] at h2; omega
  have ht := u32_turn s hs
  have hF : 4294967295 ^^^ s < 4294967296 := Nat.xor_lt_two_pow (n := 32) (by omega) hs
  have HM : Hid (crcMore s bs = 4294967295 ^^^ crcRun (4294967295 ^^^ s) bs) := rfl
  have HL := Lib.hid hL
  have HX := Lib.hid hx
  have HD := made_at ho g w h
  obtain ⟨f, hf⟩ : ∃ f, f = 4294967295 ^^^ s := ⟨_, rfl⟩
  rw [← hf] at hF HM ht
  have HP := Lib.hid ho
  clear hx hL h hf ho
  go_enter Tryz.func278, Tryz.ntmps278
  go_wp2_with (go_at_call 288; refine HD.mono ?_; rintro e w1 ⟨rfl, t1, o1⟩
               have HT := Lib.hid t1
               have HO := Lib.hid o1
               clear t1 o1)
  go_loop [8, 17] (fun x k => ∃ j : Nat, j ≤ L ∧ k = .int .i64 j ∧ x = .int .u32 (crcRun f (bs.take j) : Nat)) (fun _ k => L - (intOf k).toNat)
  case atStart => exact ⟨0, by omega, rfl, rfl⟩
  case round =>
    obtain ⟨j, hj, rfl, rfl⟩ := hrel
    have hu := run_lt (bs.take j) hF
    by_cases hlb : j < L
    · have hlB : j < bs.length := by have := HL.out; omega
      have hs := run_snoc (bs.take j) bs[j] f
      rw [List.take_append_getElem hlB] at hs
      obtain ⟨A', c', he, _, _, _, h4⟩ := (HX.out.only HO.out hS)
      obtain ⟨b, off, rfl, _, _, hc⟩ := h4 (by omega)
      injection he with he
      subst he
      have hcj := hc j hlB
      obtain ⟨z, hz⟩ : ∃ z, z = bs[j] := ⟨_, rfl⟩
      obtain ⟨u, hue⟩ : ∃ u, u = crcRun f (bs.take j) := ⟨_, rfl⟩
      rw [← hz] at hs hcj
      rw [← hue] at hs hu ⊢
      have hz8 := z.toNat_lt
      rw [xor_small u z.toNat (by omega)] at hs
      have HS := Lib.hid hs
      have hx8 : bits .xor .u8 ((u : Int) % 256) (z.toNat : Int) = ((u % 256 ^^^ z.toNat : Nat) : Int) := u8_xor_nat (u % 256) z.toNat (by omega) (by omega)
      have hr8 : u % 256 ^^^ z.toNat < 256 := Nat.xor_lt_two_pow (n := 8) (by omega) (by omega)
      obtain ⟨r, hr⟩ : ∃ r, r = u % 256 ^^^ z.toNat := ⟨_, rfl⟩
      rw [← hr] at hs hx8 hr8 HS
      have hrow := Blk.cell_ (i := o + 3 + r) (t := tt) HT.out (by rw [Nat.add_assoc]; exact pad_at HP.out (rowCells_row 1 0 256 r hr8))
      have hrow0 := Blk.cell_ (i := o + 3) (t := tt) HT.out (pad_at HP.out (rowCells_row 1 0 256 0 (by omega)))
      rw [if_pos (by omega)] at hrow hrow0
      have hx32 : bits .xor .u32 ((u : Int) / 256) ((cstN 8 r : Nat) : Int) = ((u / 256 ^^^ cstN 8 r : Nat) : Int) := u32_xor_nat (u / 256) (cstN 8 r) (by omega) (cstN_lt 8 (by omega))
      simp only [byt] at hcj
      clear hs hue hz hc hr h4
      go_wp2_with fail
      exact ⟨⟨j + 1, by omega, by go_num, by rw [HS.out]⟩, by simp [intOf]; omega⟩
    · have hjL : bs.take j = bs := List.take_of_length_le (by have := HL.out; omega)
      rw [hjL] at hu ⊢
      have ht2 := u32_turn _ hu
      clear hjL
      go_wp2
      go_ret
      rw [HM.out]
      exact ⟨rfl, HT.out.tab, HO.out⟩
set_option maxHeartbeats 400000 in
theorem of_at {tt : TypeId} {P Q : Array Value} {o : Nat} (ho : P.size = o) (g : Nat) (S : Nat → Prop) (pv : Value) (pss : List (List UInt8)) (w : World) (h : TabP tt P Q w g) (hp : Rows_ w S pv pss) (hS : ∀ b, S b → b ≠ g) :
    Calls Tryz.prog 253 #[.pointer (some ⟨g, o, none⟩), pv] w fun e w' => e = .returned (.int .u32 (crcSum pss.flatten : Nat)) ∧ TabP tt P Q w' g ∧ Only (one g) w w' := by
  obtain ⟨A, c, rfl, hm, hc⟩ := hp
  obtain ⟨L, hL⟩ : ∃ L, L = pss.length := ⟨_, rfl⟩
  have hLm : L ≤ 9223372036854775807 := by simp only [maxLen] at hm; omega
  have HL := Lib.hid hL
  have HC := Lib.hid hc
  have HT := Lib.hid h
  rw [← hL]
  have HP := Lib.hid ho
  clear hm hc hL h ho
  go_enter Tryz.func253, Tryz.ntmps253
  go_wp2
  go_loopw [5, 10] (fun x k wr => ∃ j : Nat, j ≤ L ∧ k = .int .i64 j ∧ x = .int .u32 (crcSum (pss.take j).flatten : Nat) ∧ TabP tt P Q wr g ∧ Only (one g) w wr) (fun _ k _ => L - (intOf k).toNat)
  case atStart => exact ⟨0, by omega, rfl, by rw [List.take_zero, List.flatten_nil, sum_nil]; rfl, HT.out, Only.refl _ _⟩
  case round =>
    obtain ⟨j, hj, rfl, rfl, ht, ho⟩ := hrel
    have hu := sum_lt (pss.take j).flatten
    by_cases hlb : j < L
    · have hlB : j < pss.length := by have := HL.out; omega
      obtain ⟨b, off, rfl, hSb, hbw, hc⟩ := HC.out (by omega)
      obtain ⟨x, hcx, hbx⟩ := hc j hlB
      have hs : Hid (crcSum (pss.take (j + 1)).flatten = crcMore (crcSum (pss.take j).flatten) pss[j]) := by
        rw [Hid, ← sum_append, ← List.take_append_getElem hlB, List.flatten_append, List.flatten_cons, List.flatten_nil, List.append_nil]
      have hcj := (ho.cell (p := ⟨b, off + j, none⟩) hbw (hS _ hSb)).trans hcx
      have HM := more_at HP.out g S (crcSum (pss.take j).flatten) x pss[j] _ ht hu (hbx.only ho hS) hS
      have HO := Lib.hid ho
      rw [← hs.out] at HM
      clear hc hcx hbx ht ho hs
      go_wp2_with (go_at_call 278; refine HM.mono ?_; rintro e w2 ⟨rfl, t2, o2⟩)
      go_roundw
      case rel => exact ⟨j + 1, by omega, by go_num, rfl, t2, HO.out.trans o2⟩
      case measure => simp [intOf]; omega
    · have hjL : Hid (pss.take j = pss) := List.take_of_length_le (by have := HL.out; omega)
      have HO := Lib.hid ho
      have HT2 := Lib.hid ht
      clear ho ht
      go_wp2
      go_ret
      rw [hjL.out]
      exact ⟨rfl, HT2.out, HO.out⟩
end Go.Proofs.YtoohpcomnhfgpaaGreat
end
section
namespace Go.Proofs.YtoohpcomnhfgpaaGreat
open Go.RowKit
set_option linter.all false
attribute [local go_sem ↓] Go.wp_at_zero Go.wp_at_succ
theorem equal_any (x y : Value) (xs ys : List UInt8) (S T : Nat → Prop) (w : World) (hx : Byt w S x xs) (hy : Byt w T y ys) :
    Calls Tryz.prog 254 #[x, y] w fun e w' => e = .returned (.bool (xs == ys)) ∧ w = w' := by
  have k1 := run_bytes_string w _ _ _ hx
  have k2 := run_bytes_string w _ _ _ hy
  obtain ⟨A1, L1, c1, rfl⟩ : ∃ A L c, x = .slice A L c := by obtain ⟨A, c, h, _⟩ := hx; exact ⟨A, _, c, h⟩
  obtain ⟨A2, L2, c2, rfl⟩ : ∃ A L c, y = .slice A L c := by obtain ⟨A, c, h, _⟩ := hy; exact ⟨A, _, c, h⟩
  clear hx hy
  go_enter Tryz.func254, Tryz.ntmps254
  go_wp2
  go_ret
  exact ⟨rfl, rfl⟩
theorem make_room (L : Nat) (hL : L ≤ 1000000) : ∃ M : Array Value, M.size = L + 4 ∧ ∀ w : World, (Instr.makeSlice 114 (.int .i64 0) (.int .i64 ((L : Int) + 4))).run Tryz.prog w = .ok (.slice (some ⟨w.heap.size, 0, none⟩) 0 (L + 4)) (w.alloc (.cells M 5)) := by
  obtain ⟨i0, hi0, hz0, hz1, hz2⟩ := info_parts u8_info
  refine ⟨madeCells (Value.int .u8 0).cells (((L : Int) + 4).toNat * i0.size), ?_, fun w => ?_⟩
  · rw [hz1]
    have : ∀ n, (madeCells (Value.int .u8 0).cells n).size = n := fun n => by simp [madeCells, Value.cells]
    rw [this]
    omega
  · rw [run_makeSlice w 114 5 i0 (.int .u8 0) Tryz.underlying114 hi0 hz0 .i64 .i64 0 ((L : Int) + 4) (by omega) (by omega) (by rw [hz1]; omega) (by rw [hz2]; omega) (by omega)]
    rw [show ((L : Int) + 4).toNat = L + 4 from by omega]
    rfl
theorem sum_bytes {w : World} {g : Nat} (s : Nat) (hs : s < 4294967296) (h : Blk w g 359 (sumArr s 4)) : Byt w (fun b => b = g) (.slice (some ⟨g, 0, none⟩) 4 4) (lowB s) := by
  refine ⟨_, 4, rfl, by simp [lowB], by simp [maxLen], by simp, fun _ => ⟨g, 0, rfl, rfl, h.lt, fun j hj => ?_⟩⟩
  rw [Nat.zero_add, h.cell, ← Array.getElem?_toList, sumArr_byts s hs]
  simp [byts, hj]
theorem holds_eq (bs : List UInt8) (n : Nat) (h4 : 4 ≤ bs.length) (hn : n = bs.length - 4) : crcHolds bs = (bs.drop n == lowB (crcSum (bs.take n))) := by
  subst hn
  rw [crcHolds, show decide (4 ≤ bs.length) = true from by simp [h4], Bool.true_and, crcMark, Bool.eq_iff_iff, beq_iff_eq, beq_iff_eq]
  constructor
  · intro h
    conv at h => rhs; rw [← List.take_append_drop (bs.length - 4) bs]
    exact (List.append_cancel_left h).symm
  · intro h
    rw [← h, List.take_append_drop]
end Go.Proofs.YtoohpcomnhfgpaaGreat
end
section
namespace Go.Proofs.YtoohpcomnhfgpaaGreat
open Go.RowKit
set_option linter.all false
set_option maxRecDepth 100000
attribute [local go_sem ↓] Go.wp_at_zero Go.wp_at_succ
set_option maxHeartbeats 400000 in
theorem mark_at {tt : TypeId} {P Q : Array Value} {o : Nat} (ho : P.size = o) (g : Nat) (S : Nat → Prop) (x : Value) (bs : List UInt8) (w : World) (h : TabP tt P Q w g) (hx : Byt w S x bs) (hS : ∀ b, S b → b ≠ g) (hl : bs.length ≤ 1000000) :
    Calls Tryz.prog 291 #[.pointer (some ⟨g, o, none⟩), x] w fun e w' => ∃ A n c, e = .returned (.slice A n c) ∧ w'.ownsRow w.heap.size 5 1 (.slice A n c) (crcMark bs).length (byts (crcMark bs)) ∧ TabP tt P Q w' g ∧ Only (one g) w w' := by
  have hv : ∃ A L c, L = bs.length ∧ x = .slice A L c := by obtain ⟨A, c, h, _⟩ := hx; exact ⟨A, _, c, rfl, h⟩
  obtain ⟨A, L, c, hL, rfl⟩ := hv
  have hL6 : L ≤ 1000000 := by omega
  have hgw := h.lt
  have HX := Lib.hid (hx.mono (T := fun b => b ≠ g) (fun b _ h => hS b h))
  have O1 : Hid (Only none_ w (w.alloc (.cells #[.slice A L c] 114))) := (Only.refl _ _).alloc _
  have HOf := of_at ho g (fun b => b ≠ g) _ [bs] (w.alloc (.cells #[.slice A L c] 114)) (h.only O1.out (fun h => h)) (rows_one (t := 114) (S := fun b => b ≠ g) HX.out (by omega) w.heap.size rfl) (fun _ h => h)
  rw [List.flatten_cons, List.flatten_nil, List.append_nil] at HOf
  have hsl := sum_lt bs
  have HLo := lowest4_any (crcSum bs) hsl
  have hgh : Hid (g < w.heap.size) := hgw
  obtain ⟨M, hMs, hmk⟩ := make_room L hL6
  have HMs := Lib.hid hMs
  obtain ⟨i0, hi0, hz0, hz1, hz2⟩ := info_parts u8_info
  have hc1 : ([] : List UInt8).length + bs.length ≤ 140737488355328 := by simp; omega
  have hc2 : ([] ++ bs : List UInt8).length + (lowB (crcSum bs)).length ≤ 140737488355328 := by simp [lowB]; omega
  have HM : Hid (crcMark bs = [] ++ bs ++ lowB (crcSum bs)) := rfl
  clear hMs
  have HLn := Lib.hid hL
  clear hx h hgw hL hl
  go_enter Tryz.func291, Tryz.ntmps291
  go_wp2_with (first
    | (at_builtin; refine wpList_append_byt _ rfl (.tmp 16) (.tmp 17) _ rfl w3.heap.size 5 i0 (.int .u8 0) Tryz.underlying114 hi0 hz0 hz1 hz2 rfl (.slice (some ⟨w3.heap.size, 0, none⟩) 0 (L + 4)) [] rfl X3.out _ _ bs rfl HX3.out hc1 hs3 ?_; intro A4 n4 c4 w4 hown4 hgrow4 hmv4
       have X4 := Lib.hid hown4
       have hb4 := Lib.hid (hb3a.out.grown' hgrow4 (fun e => hne3 (by simpa [Value.ownBlock] using e)))
       have O4 : Hid (Only none_ w3 w4) := ((Only.refl none_ w3).alloc _).grown hgrow4 (fun k hk => .inr (by simp [Value.ownBlock] at hk; omega))
       have S4 := sum_bytes _ hsl hb4.out
       have hs4 : w3.heap.size ≤ w4.heap.size := O4.out.size
       clear hown4 hgrow4 hmv4)
    | (at_builtin; refine wpList_append_byt _ rfl (.tmp 19) (.tmp 20) _ rfl w3.heap.size 5 i0 (.int .u8 0) Tryz.underlying114 hi0 hz0 hz1 hz2 rfl _ _ rfl X4.out _ _ _ rfl S4 hc2 hs4 ?_; intro A5 n5 c5 w5 hown5 hgrow5 hmv5
       have ON5 : Only none_ w3 w5 := O4.out.grown hgrow5 (fun k hk => .inr (X4.out.lt k hk).1)
       have O5 : Hid (Only (one g) w w5) := O3.out.trans ON5.of_none
       have T5 : Hid (TabP tt P Q w5 g) := T3.out.only ON5 (fun h => h)
       have X5 := Lib.hid (owns_base hown5 O3.out.size)
       clear hgrow5 hmv5 ON5 hown5)
    | (go_at_call 253; refine HOf.mono ?_; rintro e w1 ⟨rfl, t1, o1⟩)
    | (go_at_call 252; refine (HLo _).mono ?_; rintro e w2 ⟨rfl, o2⟩
       have T2 := t1.only o2 (fun h => h)
       have O2 : Only (one g) w w2 := (O1.out.of_none.trans o1).trans o2.of_none)
    | (refine wpList_store_row rfl 359 _ _ rfl w2.heap.size (sumArr (crcSum bs) 4) rfl rfl 359 _ (Blk.new w2 _ _) (by rw [sumArr_size]; kernel_rfl) (by rw [sumArr_size]; rfl) (sumArr_one _ 4) ?_
       have hb3 := Lib.hid ((Blk.new w2 359 #[Value.int .u8 0, .int .u8 0, .int .u8 0, .int .u8 0]).setRow (sumArr (crcSum bs) 4))
       have hon := ((Only.refl none_ w2).alloc (.cells #[Value.int .u8 0, .int .u8 0, .int .u8 0, .int .u8 0] 359)).setRow (.inr (Nat.le_refl _)) (sumArr (crcSum bs) 4)
       have T3 := Lib.hid (T2.only hon (fun h => h))
       have O3 := Lib.hid (O2.trans hon.of_none)
       have hg3 : Hid (w.heap.size ≤ w2.heap.size) := O2.size
       clear hon T2 O2 o1 t1 o2
       generalize (w2.alloc (.cells #[Value.int .u8 0, .int .u8 0, .int .u8 0, .int .u8 0] 359)).setRow w2.heap.size (sumArr (crcSum bs) 4) = w3 at *
       generalize w2.heap.size = g3 at *
       have hne3 : w3.heap.size ≠ g3 := by have := hb3.out.lt; omega
       have hs3 : w3.heap.size ≤ (w3.alloc (.cells M 5)).heap.size := by simp
       have hb3a := Lib.hid (hb3.out.alloc (.cells M 5))
       have X3 : Hid ((w3.alloc (.cells M 5)).ownsRow w3.heap.size 5 1 (.slice (some ⟨w3.heap.size, 0, none⟩) 0 (L + 4)) ([] : List UInt8).length (byts [])) := World.ownsRow_made w3 M (L + 4) (Nat.le_refl _) (by simp only [maxLen]; omega) (by have := HMs.out; omega)
       have HX3 := Lib.hid ((HX.out.only O3.out (fun _ h => h)).alloc (.cells M 5))))
  go_ret
  exact ⟨_, _, _, rfl, by rw [HM.out]; exact X5.out, T5.out, O5.out⟩
set_option maxHeartbeats 400000 in
theorem holds_at {tt : TypeId} {P Q : Array Value} {o : Nat} (ho : P.size = o) (g : Nat) (S : Nat → Prop) (x : Value) (bs : List UInt8) (w : World) (h : TabP tt P Q w g) (hx : Byt w S x bs) (hS : ∀ b, S b → b ≠ g) (hl : bs.length ≤ 1000000) :
    Calls Tryz.prog 216 #[.pointer (some ⟨g, o, none⟩), x] w fun e w' => e = .returned (.bool (crcHolds bs)) ∧ TabP tt P Q w' g ∧ Only (one g) w w' := by
  have hv : ∃ A L c, L = bs.length ∧ x = .slice A L c := by obtain ⟨A, c, h, _⟩ := hx; exact ⟨A, _, c, rfl, h⟩
  obtain ⟨A, L, c, hL, rfl⟩ := hv
  have hL6 : L ≤ 1000000 := by omega
  by_cases h4 : 4 ≤ L
  · obtain ⟨i0, hi0, hz0, hz1, hz2⟩ := info_parts u8_info
    have HX0 : Byt w (fun b => b ≠ g) (.slice A L c) bs := hx.mono (fun b _ h => hS b h)
    obtain ⟨n, hn⟩ : ∃ n, n = L - 4 := ⟨_, rfl⟩
    have HE : Hid (crcHolds bs = (bs.drop n == lowB (crcSum (bs.take n)))) := holds_eq bs n (by omega) (by omega)
    obtain ⟨A1, hsl1, hb1⟩ := byt_hi Tryz.underlying114 hi0 HX0 n (by omega) ((L : Int) - 4) (by omega)
    obtain ⟨A2, L2, c2, hsl2, hb2⟩ := byt_lo Tryz.underlying114 hi0 hz1 HX0 n (by omega) ((L : Int) - 4) (by omega)
    have hgw := h.lt
    have O1 : Hid (Only none_ w (w.alloc (.cells #[.slice A1 n c] 114))) := (Only.refl _ _).alloc _
    have HOf := of_at ho g (fun b => b ≠ g) _ [bs.take n] (w.alloc (.cells #[.slice A1 n c] 114)) (h.only O1.out (fun h => h)) (rows_one (t := 114) (S := fun b => b ≠ g) hb1 (by omega) w.heap.size rfl) (fun _ h => h)
    rw [List.flatten_cons, List.flatten_nil, List.append_nil] at HOf
    have hs := sum_lt (bs.take n)
    have HLo := lowest4_any (crcSum (bs.take n)) hs
    have HB2 := Lib.hid hb2
    have hd4 : ((L : Int) - 4 < 0) = False := by simp; omega
    clear hx h hgw hL hl hi0 hz0 hz1 hz2 hb1 hb2 HX0 hn
    go_enter Tryz.func216, Tryz.ntmps216
    go_wp2_with (first
      | (go_at_call 253; refine HOf.mono ?_; rintro e w1 ⟨rfl, t1, o1⟩)
      | (go_at_call 252; refine (HLo _).mono ?_; rintro e w2 ⟨rfl, o2⟩
         have T2 := t1.only o2 (fun h => h)
         have O2 : Only (one g) w w2 := (O1.out.of_none.trans o1).trans o2.of_none)
      | (refine wpList_store_row rfl 359 _ _ rfl w2.heap.size (sumArr (crcSum (bs.take n)) 4) rfl rfl 359 _ (Blk.new w2 _ _) (by rw [sumArr_size]; kernel_rfl) (by rw [sumArr_size]; rfl) (sumArr_one _ 4) ?_
         have hb3 := (Blk.new w2 359 #[Value.int .u8 0, .int .u8 0, .int .u8 0, .int .u8 0]).setRow (sumArr (crcSum (bs.take n)) 4)
         have hon := ((Only.refl none_ w2).alloc (.cells #[Value.int .u8 0, .int .u8 0, .int .u8 0, .int .u8 0] 359)).setRow (.inr (Nat.le_refl _)) (sumArr (crcSum (bs.take n)) 4)
         have T3 := Lib.hid (T2.only hon (fun h => h))
         have O3 := Lib.hid (O2.trans hon.of_none)
         clear hon T2 O2 o1 t1 o2
         generalize (w2.alloc (.cells #[Value.int .u8 0, .int .u8 0, .int .u8 0, .int .u8 0] 359)).setRow w2.heap.size (sumArr (crcSum (bs.take n)) 4) = w3 at *
         generalize w2.heap.size = g3 at *
         have S3 := Lib.hid (sum_bytes _ hs hb3)
         have B3 := Lib.hid (HB2.out.only O3.out (fun _ h => h))
         clear hb3))
    go_quiet ((go_at_call 254; exact Calls.quiet_of_same ((equal_any _ _ _ _ _ _ _ (B3.out.drewN _) (S3.out.drewN _)).mono fun _ _ ⟨h1, h2⟩ => ⟨h1, h2.symm⟩)))
    go_wp2
    go_ret
    rw [HE.out]
    exact ⟨rfl, T3.out, O3.out.drewN _⟩
  · have HE : Hid (crcHolds bs = false) := by rw [Hid, crcHolds]; simp; omega
    have hd4 : ((L : Int) - 4 < 0) = True := by simp; omega
    have H := Lib.hid h
    clear hx h hL hl
    go_enter Tryz.func216, Tryz.ntmps216
    go_wp2
    go_ret
    rw [HE.out]
    exact ⟨rfl, H.out, Only.refl _ _⟩
end Go.Proofs.YtoohpcomnhfgpaaGreat
end
