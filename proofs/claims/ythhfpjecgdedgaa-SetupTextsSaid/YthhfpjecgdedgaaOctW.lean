/- What the calls of a writer of package octets do, and bytes.Clone. No statement of the seat is proved here. -/
import Derived.Test.YthhfpjecgdedgaaOctA
import Derived.Deep.RegionLaw
import Derived.Deep.LoopGhost
namespace Go.Proofs.Ythhfpjecgdedgaa
open Go.RowKit
set_option linter.all false

/-- A writer at block g: its first error, the value of its bytes, the bytes. -/
def Wr (w : World) (g base : Nat) (code : Int) (v : Value) (bs : List UInt8) : Prop :=
  Blk w g 67 #[.int .i64 code, v] ∧ w.ownsRow base 5 1 v bs.length (byts bs)
theorem Wr.c0 {w : World} {g base : Nat} {code : Int} {v : Value} {bs : List UInt8} (h : Wr w g base code v bs) : w.cell? ⟨g, 0, none⟩ = some (.int .i64 code) := h.1.cell_ (i := 0) rfl
theorem Wr.c1 {w : World} {g base : Nat} {code : Int} {v : Value} {bs : List UInt8} (h : Wr w g base code v bs) : w.cell? ⟨g, 1, none⟩ = some v := h.1.cell_ (i := 1) rfl
/-- Its bytes were appended to by the law's append. -/
theorem Wr.app {w w' : World} {g base : Nat} {code : Int} {v : Value} {bs : List UInt8} (h : Wr w g base code v bs) (hg : w.grownBy w' v.ownBlock) : Blk w' g 67 #[.int .i64 code, v] :=
  h.1.grown' hg (own_blk_ne h.2 h.1 (by decide))
/-- What a call of it may change among what was there. -/
def foot (g : Nat) (v : Value) : Nat → Prop := fun k => k = g ∨ v.ownBlock = some k


/-- A slice of slices of bytes that is only read. -/
def Parts (w : World) (S : Nat → Prop) (pv : Value) (pss : List (List UInt8)) : Prop :=
  ∃ b off c, pv = .slice (some ⟨b, off, none⟩) pss.length c ∧ b < w.heap.size ∧ S b ∧ ∀ j (hj : j < pss.length), ∃ x, w.cell? ⟨b, off + j, none⟩ = some x ∧ Byt w S x pss[j]

theorem writer_err (g base : Nat) (code : Int) (v : Value) (bs : List UInt8) (w : World) (h : Wr w g base code v bs) :
    Calls Try.prog 57 #[.pointer (some ⟨g, 0, none⟩)] w fun e w' => e = .returned (.int .i64 code) ∧ w = w' := by
  have H := Lib.hid h.1
  clear h
  go_enter Try.func57, Try.ntmps57
  go_wp2_with (go_at_call 52; refine (fault_err _ _ _ _ _ H.out rfl).mono ?_; rintro e w' ⟨rfl, rfl⟩)
  go_ret
  exact ⟨rfl, rfl⟩

theorem flat_snoc (pss : List (List UInt8)) (k : Nat) (hk : k < pss.length) : (pss.take (k + 1)).flatten = (pss.take k).flatten ++ pss[k] := by
  rw [List.take_succ_eq_append_getElem hk, List.flatten_append]; rw [List.flatten_singleton]
theorem flat_le (pss : List (List UInt8)) (k : Nat) : (pss.take k).flatten.length ≤ pss.flatten.length := by
  conv => rhs; rw [← List.take_append_drop k pss]
  rw [List.flatten_append, List.length_append]; omega

set_option maxHeartbeats 400000 in
theorem writer_raw_ok (g base : Nat) (v pv : Value) (bs : List UInt8) (pss : List (List UInt8)) (S : Nat → Prop) (w : World) (h : Wr w g base 0 v bs) (hp : Parts w S pv pss)
    (hS : ∀ b, S b → ¬ foot g v b) (hb : bs.length + pss.flatten.length ≤ 140737488355328) (hbase : base ≤ w.heap.size) (hpl : pss.length ≤ 1000) :
    Calls Try.prog 48 #[.pointer (some ⟨g, 0, none⟩), pv] w fun e w' => e = .returned (.pointer (some ⟨g, 0, none⟩)) ∧
      ∃ v', Wr w' g base 0 v' (bs ++ pss.flatten) ∧ Only (foot g v) w w' ∧ Moved w v v' := by
  obtain ⟨i0, hi0, hz0, hz1, hz2⟩ := info_parts u8_info
  obtain ⟨b, off, c, rfl, hlt, hSb, hcs⟩ := hp
  have H := Lib.hid h
  have HS := Lib.hid hS
  have HC := Lib.hid hcs
  clear h hS hcs
  go_enter Try.func48, Try.ntmps48
  go_wp2_with (go_at_call 57; refine (writer_err _ _ _ _ _ _ H.out).mono ?_; rintro e w' ⟨rfl, rfl⟩)
  go_loopw [13] (fun i wr => ∃ k : Nat, k ≤ pss.length ∧ i = .int .i64 k ∧ ∃ v', Wr wr g base 0 v' (bs ++ (pss.take k).flatten) ∧ Only (foot g v) w wr ∧ Moved w v v') (fun i _ => pss.length - (intOf i).toNat)
  case atStart => exact ⟨0, Nat.zero_le _, rfl, v, by simpa using H.out, Only.refl _ _, Moved.refl _ _⟩
  case round =>
    obtain ⟨k, hk, rfl, v1, h1, ho, hm⟩ := hrel
    by_cases hlt2 : k < pss.length
    · obtain ⟨x, hcx, hbx⟩ := HC.out k hlt2
      have hx1 : wr.cell? ⟨b, off + k, none⟩ = some x := (ho.cell hlt (HS.out b hSb)).trans hcx
      have hpc := h1.c1
      have hpf := h1.1.frozen 1
      have hbx1 : Byt wr S x pss[k] := hbx.only ho HS.out
      have H1 := Lib.hid h1
      have HO := Lib.hid ho
      have HB := Lib.hid hbx1
      have hfl : Hid ((pss.take (k + 1)).flatten = (pss.take k).flatten ++ pss[k]) := flat_snoc pss k hlt2
      have hle : (bs ++ (pss.take k).flatten).length + pss[k].length ≤ 140737488355328 := by
        have := flat_le pss (k + 1)
        rw [hfl.out] at this
        simp only [List.length_append] at this ⊢
        omega
      clear h1 ho hbx1 hcx hbx
      go_wp2_with (first
        | (at_builtin; refine wpList_append_byt _ rfl (.tmp 21) (.tmp 22) _ rfl base 5 i0 (.int .u8 0) Try.underlying48 hi0 hz0 hz1 hz2 rfl v1 _ rfl H1.out.2 S x pss[k] rfl HB.out hle (Nat.le_trans hbase HO.out.size) ?_; intro A2 n2 c2 w2 hown2 hgrow2 hmv2; have hpc2 : w2.cell? ⟨g, 1, none⟩ = some v1 := (H1.out.app hgrow2).cell_ rfl; have hpf2 := (H1.out.app hgrow2).frozen 1))
      have hW : Wr (w2.setCell ⟨g, 1, none⟩ (.slice A2 n2 c2)) g base 0 (.slice A2 n2 c2) (bs ++ (pss.take (k + 1)).flatten) := by
        refine ⟨(H1.out.app hgrow2).set_ 1 _, ?_⟩
        rw [hfl.out, ← List.append_assoc]
        exact owns_only hown2 ((Only.refl (one g) w2).setCell (.inl (show one g g from rfl)) _) (fun b hb hg => own_blk_ne hown2 (H1.out.app hgrow2) (by decide) (by rw [hb]; exact congrArg some hg))
      have hO : Only (foot g v) w (w2.setCell ⟨g, 1, none⟩ (.slice A2 n2 c2)) := (HO.out.grown hgrow2 (fun b hb => (hm b hb).imp .inr id)).setCell (.inl (.inl rfl)) _
      have hM : Moved w v (.slice A2 n2 c2) := hm.trans hmv2 HO.out.size
      go_roundw
      case rel => exact ⟨k + 1, by omega, by go_num, _, hW, hO, hM⟩
      case measure => simp [intOf]; omega
    · have hkk : Hid (pss.take k = pss) := List.take_of_length_le (by omega)
      go_wp2
      go_ret
      rw [hkk.out] at h1
      exact ⟨rfl, v1, h1, ho, hm⟩
/-- The bytes of a number, the lowest first. -/
def leByte (n k : Nat) : UInt8 := UInt8.ofNat (n / 2 ^ (8 * k))
def leBytes (n width : Nat) : List UInt8 := (List.range width).map (leByte n)
def leArr (n k : Nat) : Array Value := ((List.range 8).map fun j => if j < k then byt (leByte n j) else .int .u8 0).toArray
theorem byt_leByte (n k : Nat) : byt (leByte n k) = .int .u8 ((n : Int) / 2 ^ (8 * k) % 256) := by
  unfold byt leByte
  have : (UInt8.ofNat (n / 2 ^ (8 * k))).toNat = n / 2 ^ (8 * k) % 256 := by simp
  rw [this, Int.natCast_emod, Int.natCast_ediv, Int.natCast_pow]
  rfl
theorem leArr_set (n k : Nat) (hk : k < 8) : (leArr n k).setIfInBounds k (byt (leByte n k)) = leArr n (k + 1) := by
  apply Array.ext_getElem?
  intro i
  rw [Array.getElem?_setIfInBounds]
  simp only [leArr, List.size_toArray, List.length_map, List.length_range, List.getElem?_toArray, List.getElem?_map]
  by_cases hi : i < 8
  · rw [List.getElem?_range hi]
    by_cases hik : k = i
    · subst hik; simp [hk]
    · simp only [hik, if_false, Option.map_some]
      congr 1
      by_cases h1 : i < k
      · rw [if_pos h1, if_pos (by omega)]
      · rw [if_neg h1, if_neg (by omega)]
  · rw [if_neg (by omega)]
    simp [hi]
theorem leArr_size (n k : Nat) : (leArr n k).size = 8 := by simp [leArr]
theorem leArr_at (n k j : Nat) (hj : j < 8) : (leArr n k)[j]? = some (if j < k then byt (leByte n j) else .int .u8 0) := by
  simp [leArr, hj]
theorem leArr_one (n k : Nat) : (leArr n k).all (·.oneCell') = true := by
  simp only [leArr, List.all_toArray, List.all_map, List.all_eq_true, Function.comp]
  intro j _
  split <;> rfl
theorem leArr_cell (n k j : Nat) (hj : j < 8) : ∃ z : Int, (leArr n k)[j]? = some (.int .u8 z) := by
  rw [leArr_at n k j hj]
  split
  · exact ⟨_, rfl⟩
  · exact ⟨_, rfl⟩

set_option maxHeartbeats 400000 in
theorem lowest_any (n : Nat) (_hn : n < 18446744073709551616) (w : World) :
    Calls Try.prog 47 #[.int .u64 (n : Int)] w fun e w' => e = .returned (.agg (leArr n 8)) ∧ Only none_ w w' := by
  have h0 : Hid (#[Value.int .u8 0, .int .u8 0, .int .u8 0, .int .u8 0, .int .u8 0, .int .u8 0, .int .u8 0, .int .u8 0] = leArr n 0) := by
    simp [Hid, leArr, List.range, List.range.loop]
  go_enter Try.func47, Try.ntmps47
  go_wp2
  go_loopw [5] (fun i wr => ∃ k : Nat, k ≤ 8 ∧ i = .int .i64 k ∧ Blk wr (w.heap.size + 1) 85 (leArr n k) ∧ Blk wr w.heap.size 85 (leArr n 0) ∧ Only none_ w wr) (fun i _ => 8 - (intOf i).toNat)
  case atStart =>
    refine ⟨0, by omega, rfl, ?_, ?_, ((Only.refl _ _).alloc _).alloc _⟩
    · rw [← h0.out]
      have := Blk.new (w.alloc (Obj.cells #[Value.int .u8 0, .int .u8 0, .int .u8 0, .int .u8 0, .int .u8 0, .int .u8 0, .int .u8 0, .int .u8 0] 85)) 85 #[Value.int .u8 0, .int .u8 0, .int .u8 0, .int .u8 0, .int .u8 0, .int .u8 0, .int .u8 0, .int .u8 0]
      simpa using this
    · rw [← h0.out]; exact (Blk.new w _ _).alloc _
  case round =>
    obtain ⟨k, hk, rfl, hb, hb0, ho⟩ := hrel
    by_cases hlt : k < 8
    · obtain ⟨z, hz⟩ := leArr_cell n k k hlt
      have hc := hb.cell_ hz
      have hf := hb.frozen k
      have HB := Lib.hid hb
      have HB0 := Lib.hid hb0
      clear hb hz hb0
      go_wp2
      go_roundw
      case rel =>
        refine ⟨k + 1, by omega, by go_num, ?_, HB0.out.far (by simp) _, ho.setCell (.inr (by simp)) _⟩
        have := HB.out.set_ k (byt (leByte n k))
        rw [leArr_set n k hlt, byt_leByte] at this
        exact this
      case measure => simp [intOf]; omega
    · have hk8 : k = 8 := by omega
      subst hk8
      have hs := Lib.hid (leArr_size n 8)
      have HB := Lib.hid hb
      have HB0 := Lib.hid hb0
      have HO := Lib.hid ho
      clear hb hb0 ho
      go_wp2_with (first
        | (refine wpList_load_row rfl 85 _ rfl (w.heap.size + 1) rfl 85 (leArr n 8) (0, 0) _ HB.out Try.underlying85 rfl (by rw [hs.out]; kernel_rfl) ?_)
        | (refine wpList_store_row rfl 85 _ _ rfl w.heap.size (leArr n 8) rfl rfl 85 (leArr n 0) HB0.out (by rw [hs.out]; kernel_rfl) (by rw [hs.out, leArr_size]) (leArr_one n 8) ?_))
      refine bodyPost_ret (results_cell_row rfl _ _ w.heap.size 85 (leArr n 8) (0, 0) _ rfl (HB0.out.setRow (leArr n 8)) Try.underlying85 rfl (by rw [hs.out]; kernel_rfl)) rfl ⟨rfl, HO.out.setRow (.inr (by simp)) _⟩
end Go.Proofs.Ythhfpjecgdedgaa
