/- Texts of mine, one behind the other: Byt, OctA, OctW, OctN, OctC, OctT, OctG, EnZ. No statement of the seat is proved here. -/
import Derived.Test.YtoohpcomnhfgpaaGreatChecked
import Derived.Test.YtoohpcomnhfgpaaGreatHn1
import Derived.Deep.RegionLaw
import Derived.Deep.LoopGhost
import Derived.Test.YtoohpcomnhfgpaaGreatHn2
import Derived.Deep.RegionHeld3
section
namespace Go.Proofs.YtoohpcomnhfgpaaGreat
open Go.RowKit
theorem u8_info : (Tryz.prog.info? 5).map (fun i => (i.zero, i.size, i.bytes)) = some (some (.int .u8 0), 1, 1) := by kernel_rfl
section
variable {P : Program} {t e : TypeId} {i : TypeInfo} {w : World} {S : Nat → Prop} {A : Option Addr} {c L : Nat} {bs : List UInt8}
theorem byt_hi (ht : P.underlying t = some (.slice e)) (hi : P.info? e = some i) (h : Byt w S (.slice A L c) bs) (n : Nat) (hn : n ≤ L) (z : Int) (hzn : z = n) :
    ∃ A1, (∀ w', (Instr.sliceAt t (.slice A L c) none (some (.int .i64 z)) none).run P w' = .ok (.slice A1 n c) w') ∧ Byt w S (.slice A1 n c) (bs.take n) := by
  subst hzn
  obtain ⟨A', c', he, h1, h2, h3, h4⟩ := h
  injection he with e1 e2 e3
  subst e1 e2 e3
  refine ⟨if c = 0 then A else A.map (·.add (0 * 1)), fun w' => ?_, ?_⟩
  · have hc : (n : Int) ≤ (c : Int) := by omega
    simp [Instr.sliceAt, Instr.slice, run_underlying ht, Instr.sliceBounds, run_sliceBound, sizeOf, typeInfo, hi, hc]
  · have hl : (bs.take n).length = n := by simp; omega
    refine ⟨_, c, by rw [hl], by omega, h2, fun hA => h3 ?_, fun hp => ?_⟩
    · split at hA
      · exact hA
      · cases A with
        | none => rfl
        | some a => simp at hA
    · obtain ⟨b, off, rfl, hs, hlt, hc⟩ := h4 (by omega)
      rw [if_neg (by omega)]
      refine ⟨b, off, by simp [Addr.add], hs, hlt, fun j hj => ?_⟩
      rw [hc j (by omega)]
      simp
theorem byt_lo (ht : P.underlying t = some (.slice e)) (hi : P.info? e = some i) (hz : i.size = 1) (h : Byt w S (.slice A L c) bs) (n : Nat) (hn : n ≤ L) (z : Int) (hzn : z = n) :
    ∃ A1 L1 c1, (∀ w', (Instr.sliceAt t (.slice A L c) (some (.int .i64 z)) none none).run P w' = .ok (.slice A1 L1 c1) w') ∧ Byt w S (.slice A1 L1 c1) (bs.drop n) := by
  subst hzn
  obtain ⟨A', c', he, h1, h2, h3, h4⟩ := h
  injection he with e1 e2 e3
  subst e1 e2 e3
  refine ⟨if c = n then A else A.map (·.add (n * 1)), bs.length - n, c - n, fun w' => ?_, ?_⟩
  · have hc : (n : Int) ≤ (bs.length : Int) := by omega
    simp [Instr.sliceAt, Instr.slice, run_underlying ht, Instr.sliceBounds, run_sliceBound, sizeOf, typeInfo, hi, hz, hc]
  · have hl : (bs.drop n).length = bs.length - n := by simp
    refine ⟨_, c - n, by rw [hl], by omega, by omega, fun hA => ?_, fun hp => ?_⟩
    · have : A = none := by
        split at hA
        · exact hA
        · cases A with
          | none => rfl
          | some a => simp at hA
      have := h3 this
      omega
    · obtain ⟨b, off, rfl, hs, hlt, hc⟩ := h4 (by omega)
      rw [if_neg (by omega)]
      refine ⟨b, off + n, by simp [Addr.add], hs, hlt, fun j hj => ?_⟩
      rw [Nat.add_assoc, hc (n + j) (by omega)]
      simp
end
section
variable {P : Program} {t e : TypeId} {i : TypeInfo} {w : World} {S : Nat → Prop} {A : Option Addr} {c L : Nat} {bs : List UInt8}
theorem byt_mid (ht : P.underlying t = some (.slice e)) (hi : P.info? e = some i) (hz : i.size = 1) (h : Byt w S (.slice A L c) bs) (m n : Nat) (hmn : m ≤ n) (hn : n ≤ L) (y z : Int) (hy : y = m) (hzn : z = n) :
    ∃ A1 L1 c1, (∀ w', (Instr.sliceAt t (.slice A L c) (some (.int .i64 y)) (some (.int .i64 z)) none).run P w' = .ok (.slice A1 L1 c1) w') ∧ Byt w S (.slice A1 L1 c1) ((bs.drop m).take (n - m)) := by
  subst hy hzn
  obtain ⟨A', c', he, h1, h2, h3, h4⟩ := h
  injection he with e1 e2 e3
  subst e1 e2 e3
  refine ⟨if c = m then A else A.map (·.add (m * 1)), n - m, c - m, fun w' => ?_, ?_⟩
  · have hc1 : (n : Int) ≤ (c : Int) := by omega
    have hc2 : (m : Int) ≤ (n : Int) := by omega
    simp [Instr.sliceAt, Instr.slice, run_underlying ht, Instr.sliceBounds, run_sliceBound, sizeOf, typeInfo, hi, hz, hc1, hc2]
  · have hl : ((bs.drop m).take (n - m)).length = n - m := by simp; omega
    refine ⟨_, c - m, by rw [hl], by omega, by omega, fun hA => ?_, fun hp => ?_⟩
    · have : A = none := by
        split at hA
        · exact hA
        · cases A with
          | none => rfl
          | some a => simp at hA
      have := h3 this
      omega
    · rw [hl] at hp
      obtain ⟨b, off, rfl, hs, hlt, hc⟩ := h4 (by omega)
      rw [if_neg (by omega)]
      refine ⟨b, off + m, by simp [Addr.add], hs, hlt, fun j hj => ?_⟩
      rw [hl] at hj
      rw [Nat.add_assoc, hc (m + j) (by omega)]
      simp
end
theorem run_bytes_string (w : World) (S : Nat → Prop) (x : Value) (bs : List UInt8) (h : Byt w S x bs) : (convert 114 9 x).run Tryz.prog w = .ok (.string ⟨bs.toArray⟩) w := by
  obtain ⟨A, c, rfl, h1, h2, h3, h4⟩ := h
  rcases A with _ | ad
  · have hn : bs = [] := List.eq_nil_of_length_eq_zero (by have := h3 rfl; omega)
    subst hn
    exact run_convert_bytes_nil w 114 5 Tryz.underlying114 Tryz.underlying5 _ _ _ Tryz.underlying9
  · refine run_convert_bytes_back w 114 9 5 ad c bs Tryz.underlying114 Tryz.underlying5 Tryz.underlying9 fun j hj => ?_
    obtain ⟨g, off, e1, _, _, hc⟩ := h4 (by omega)
    injection e1 with e1
    subst e1
    have e2 : (⟨g, off, none⟩ : Addr).add j = ⟨g, off + j, none⟩ := by unfold Addr.add; split <;> simp_all
    rw [e2, hc j hj]; rfl
end Go.Proofs.YtoohpcomnhfgpaaGreat
end
section
namespace Go.Proofs.YtoohpcomnhfgpaaGreat
open Go.RowKit
set_option linter.all false
def first_ (c e : Int) : Int := if c = 0 then e else c
theorem fault_err (g : Nat) (t : TypeId) (cs : Array Value) (c : Int) (w : World) (h : Blk w g t cs) (h0 : cs[0]? = some (.int .i64 c)) :
    Calls Tryz.prog 221 #[.pointer (some ⟨g, 0, none⟩)] w fun e w' => e = .returned (.int .i64 c) ∧ w = w' := by
  have hc := h.cell_ h0
  clear h h0
  go_enter Tryz.func221, Tryz.ntmps221
  go_wp2
  go_ret
  exact ⟨rfl, rfl⟩
theorem fault_fail (g : Nat) (t : TypeId) (cs : Array Value) (c k : Int) (w : World) (h : Blk w g t cs) (h0 : cs[0]? = some (.int .i64 c)) :
    Calls Tryz.prog 220 #[.pointer (some ⟨g, 0, none⟩), .int .i64 k] w fun e w' => e = .returned (.tuple #[]) ∧ Blk w' g t (cs.setIfInBounds 0 (.int .i64 (first_ c k))) ∧ Only (one g) w w' := by
  have hc := h.cell_ h0
  have hf := h.frozen 0
  have hB := Lib.hid h
  have hs : Hid (cs.setIfInBounds 0 (.int .i64 c) = cs) := by
    apply Array.ext_getElem?
    intro i
    rw [Array.getElem?_setIfInBounds]
    split
    · next hi => subst hi; split
                 · exact h0.symm
                 · next hi => rw [Array.getElem?_eq_none (by omega)]
    · rfl
  clear h h0
  by_cases h1 : c = 0
  · have h2 : (c == 0) = true := by simp [h1]
    have h3 : Hid (first_ c k = k) := by simp [Hid, first_, h1]
    clear h1
    go_enter Tryz.func220, Tryz.ntmps220
    go_wp2
    go_end0
    refine ⟨rfl, ?_, (Only.refl (one g) w).setCell (.inl (show one g g from rfl)) _⟩
    rw [h3.out]
    exact hB.out.set_ 0 _
  · have h2 : (c == 0) = false := by simp [h1]
    have h3 : Hid (first_ c k = c) := by simp [Hid, first_, h1]
    clear h1
    go_enter Tryz.func220, Tryz.ntmps220
    go_wp2
    go_end0
    refine ⟨rfl, ?_, Only.refl _ _⟩
    rw [h3.out, hs.out]
    exact hB.out
def isW (n : Int) : Bool := decide (1 ≤ n ∧ n ≤ 8)
theorem isWidth_any (n : Int) (w : World) :
    Calls Tryz.prog 269 #[.int .i64 n] w fun e w' => e = .returned (.bool (isW n)) ∧ w = w' := by
  by_cases h1 : 1 ≤ n
  · by_cases h2 : n ≤ 8
    · have H : Hid (isW n = true) := by simp [Hid, isW, h1, h2]
      go_enter Tryz.func269, Tryz.ntmps269
      go_wp2
      go_ret
      rw [H.out]
      exact ⟨rfl, rfl⟩
    · have H : Hid (isW n = false) := by simp [Hid, isW, h2]
      go_enter Tryz.func269, Tryz.ntmps269
      go_wp2
      go_ret
      rw [H.out]
      exact ⟨rfl, rfl⟩
  · have H : Hid (isW n = false) := by simp [Hid, isW, h1]
    go_enter Tryz.func269, Tryz.ntmps269
    go_wp2
    go_ret
    rw [H.out]
    exact ⟨rfl, rfl⟩
end Go.Proofs.YtoohpcomnhfgpaaGreat
end
section
namespace Go.Proofs.YtoohpcomnhfgpaaGreat
open Go.RowKit
set_option linter.all false
def Wr (w : World) (g base : Nat) (code : Int) (v : Value) (bs : List UInt8) : Prop :=
  Blk w g 318 #[.int .i64 code, v] ∧ w.ownsRow base 5 1 v bs.length (byts bs)
theorem Wr.c0 {w : World} {g base : Nat} {code : Int} {v : Value} {bs : List UInt8} (h : Wr w g base code v bs) : w.cell? ⟨g, 0, none⟩ = some (.int .i64 code) := h.1.cell_ (i := 0) rfl
theorem Wr.c1 {w : World} {g base : Nat} {code : Int} {v : Value} {bs : List UInt8} (h : Wr w g base code v bs) : w.cell? ⟨g, 1, none⟩ = some v := h.1.cell_ (i := 1) rfl
theorem Wr.app {w w' : World} {g base : Nat} {code : Int} {v : Value} {bs : List UInt8} (h : Wr w g base code v bs) (hg : w.grownBy w' v.ownBlock) : Blk w' g 318 #[.int .i64 code, v] :=
  h.1.grown' hg (own_blk_ne h.2 h.1 (by decide))
def foot (g : Nat) (v : Value) : Nat → Prop := fun k => k = g ∨ v.ownBlock = some k
def Parts (w : World) (S : Nat → Prop) (pv : Value) (pss : List (List UInt8)) : Prop :=
  ∃ b off c, pv = .slice (some ⟨b, off, none⟩) pss.length c ∧ b < w.heap.size ∧ S b ∧ ∀ j (hj : j < pss.length), ∃ x, w.cell? ⟨b, off + j, none⟩ = some x ∧ Byt w S x pss[j]
theorem writer_err (g base : Nat) (code : Int) (v : Value) (bs : List UInt8) (w : World) (h : Wr w g base code v bs) :
    Calls Tryz.prog 211 #[.pointer (some ⟨g, 0, none⟩)] w fun e w' => e = .returned (.int .i64 code) ∧ w = w' := by
  have H := Lib.hid h.1
  clear h
  go_enter Tryz.func211, Tryz.ntmps211
  go_wp2_with (go_at_call 221; refine (fault_err _ _ _ _ _ H.out rfl).mono ?_; rintro e w' ⟨rfl, rfl⟩)
  go_ret
  exact ⟨rfl, rfl⟩
theorem flat_snoc (pss : List (List UInt8)) (k : Nat) (hk : k < pss.length) : (pss.take (k + 1)).flatten = (pss.take k).flatten ++ pss[k] := by
  rw [List.take_succ_eq_append_getElem hk, List.flatten_append]; rw [List.flatten_singleton]
theorem flat_le (pss : List (List UInt8)) (k : Nat) : (pss.take k).flatten.length ≤ pss.flatten.length := by
  conv => rhs; rw [← List.take_append_drop k pss]
  rw [List.flatten_append, List.length_append]; omega
set_option maxHeartbeats 400000 in
theorem writer_raw_ok (g base : Nat) (v pv : Value) (bs : List UInt8) (pss : List (List UInt8)) (S : Nat → Prop) (w : World) (h : Wr w g base 0 v bs) (hp : Parts w S pv pss)
    (hS : ∀ b, S b → ¬ foot g v b) (hb : bs.length + pss.flatten.length ≤ 140737488355328) (hbase : base ≤ w.heap.size) (hpl : pss.length ≤ 1000) :
    Calls Tryz.prog 268 #[.pointer (some ⟨g, 0, none⟩), pv] w fun e w' => e = .returned (.pointer (some ⟨g, 0, none⟩)) ∧
      ∃ v', Wr w' g base 0 v' (bs ++ pss.flatten) ∧ Only (foot g v) w w' ∧ Moved w v v' := by
  obtain ⟨i0, hi0, hz0, hz1, hz2⟩ := info_parts u8_info
  obtain ⟨b, off, c, rfl, hlt, hSb, hcs⟩ := hp
  have H := Lib.hid h
  have HS := Lib.hid hS
  have HC := Lib.hid hcs
  clear h hS hcs
  go_enter Tryz.func268, Tryz.ntmps268
  go_wp2_with (go_at_call 211; refine (writer_err _ _ _ _ _ _ H.out).mono ?_; rintro e w' ⟨rfl, rfl⟩)
  go_loopw [13] (fun i wr => ∃ k : Nat, k ≤ pss.length ∧ i = .int .i64 k ∧ ∃ v', Wr wr g base 0 v' (bs ++ (pss.take k).flatten) ∧ Only (foot g v) w wr ∧ Moved w v v') (fun i _ => pss.length - (intOf i).toNat)
  case atStart => exact ⟨0, Nat.zero_le _, rfl, v, by simpa using H.out, Only.refl _ _, Moved.refl _ _⟩
  case round =>
    obtain ⟨k, hk, rfl, v1, h1, ho, hm⟩ := hrel
    by_cases hlt2 : k < pss.length
    · obtain ⟨x, hcx, hbx⟩ := HC.out k hlt2
      have hx1 : wr.cell? ⟨b, off + k, none⟩ = some x := (ho.cell hlt (HS.out b hSb)).trans hcx
      have hpc := h1.c1
      have hpf := h1.1.frozen 1
      have hbx1 : Byt wr S x pss[k] := hbx.only ho HS.out
      have H1 := Lib.hid h1
      have HO := Lib.hid ho
      have HB := Lib.hid hbx1
      have hfl : Hid ((pss.take (k + 1)).flatten = (pss.take k).flatten ++ pss[k]) := flat_snoc pss k hlt2
      have hle : (bs ++ (pss.take k).flatten).length + pss[k].length ≤ 140737488355328 := by
        have := flat_le pss (k + 1)
        rw [hfl.out] at this
        simp only [List.length_append] at this ⊢
        omega
      clear h1 ho hbx1 hcx hbx
      go_wp2_with (first
        | (at_builtin; refine wpList_append_byt _ rfl (.tmp 21) (.tmp 22) _ rfl base 5 i0 (.int .u8 0) Tryz.underlying114 hi0 hz0 hz1 hz2 rfl v1 _ rfl H1.out.2 S x pss[k] rfl HB.out hle (Nat.le_trans hbase HO.out.size) ?_; intro A2 n2 c2 w2 hown2 hgrow2 hmv2; have hpc2 : w2.cell? ⟨g, 1, none⟩ = some v1 := (H1.out.app hgrow2).cell_ rfl; have hpf2 := (H1.out.app hgrow2).frozen 1))
      have hW : Wr (w2.setCell ⟨g, 1, none⟩ (.slice A2 n2 c2)) g base 0 (.slice A2 n2 c2) (bs ++ (pss.take (k + 1)).flatten) := by
        refine ⟨(H1.out.app hgrow2).set_ 1 _, ?_⟩
        rw [hfl.out, ← List.append_assoc]
        exact owns_only hown2 ((Only.refl (one g) w2).setCell (.inl (show one g g from rfl)) _) (fun b hb hg => own_blk_ne hown2 (H1.out.app hgrow2) (by decide) (by rw [hb]; exact congrArg some hg))
      have hO : Only (foot g v) w (w2.setCell ⟨g, 1, none⟩ (.slice A2 n2 c2)) := (HO.out.grown hgrow2 (fun b hb => (hm b hb).imp .inr id)).setCell (.inl (.inl rfl)) _
      have hM : Moved w v (.slice A2 n2 c2) := hm.trans hmv2 HO.out.size
      go_roundw
      case rel => exact ⟨k + 1, by omega, by go_num, _, hW, hO, hM⟩
      case measure => simp [intOf]; omega
    · have hkk : Hid (pss.take k = pss) := List.take_of_length_le (by omega)
      go_wp2
      go_ret
      rw [hkk.out] at h1
      exact ⟨rfl, v1, h1, ho, hm⟩
def leByte (n k : Nat) : UInt8 := UInt8.ofNat (n / 2 ^ (8 * k))
def leBytes (n width : Nat) : List UInt8 := (List.range width).map (leByte n)
def leArr (n k : Nat) : Array Value := ((List.range 8).map fun j => if j < k then byt (leByte n j) else .int .u8 0).toArray
theorem byt_leByte (n k : Nat) : byt (leByte n k) = .int .u8 ((n : Int) / 2 ^ (8 * k) % 256) := by
  unfold byt leByte
  have : (UInt8.ofNat (n / 2 ^ (8 * k))).toNat = n / 2 ^ (8 * k) % 256 := by simp
  rw [this, Int.natCast_emod, Int.natCast_ediv, Int.natCast_pow]
  rfl
theorem leArr_set (n k : Nat) (hk : k < 8) : (leArr n k).setIfInBounds k (byt (leByte n k)) = leArr n (k + 1) := by
  apply Array.ext_getElem?
  intro i
  rw [Array.getElem?_setIfInBounds]
  simp only [leArr, List.size_toArray, List.length_map, List.length_range, List.getElem?_toArray, List.getElem?_map]
  by_cases hi : i < 8
  · rw [List.getElem?_range hi]
    by_cases hik : k = i
    · subst hik; simp [hk]
    · simp only [hik, if_false, Option.map_some]
      congr 1
      by_cases h1 : i < k
      · rw [if_pos h1, if_pos (by omega)]
      · rw [if_neg h1, if_neg (by omega)]
  · rw [if_neg (by omega)]
    simp [hi]
theorem leArr_size (n k : Nat) : (leArr n k).size = 8 := by simp [leArr]
theorem leArr_at (n k j : Nat) (hj : j < 8) : (leArr n k)[j]? = some (if j < k then byt (leByte n j) else .int .u8 0) := by
  simp [leArr, hj]
theorem leArr_one (n k : Nat) : (leArr n k).all (·.oneCell') = true := by
  simp only [leArr, List.all_toArray, List.all_map, List.all_eq_true, Function.comp]
  intro j _
  split <;> rfl
theorem leArr_cell (n k j : Nat) (hj : j < 8) : ∃ z : Int, (leArr n k)[j]? = some (.int .u8 z) := by
  rw [leArr_at n k j hj]
  split
  · exact ⟨_, rfl⟩
  · exact ⟨_, rfl⟩
set_option maxHeartbeats 400000 in
theorem lowest_any (n : Nat) (_hn : n < 18446744073709551616) (w : World) :
    Calls Tryz.prog 270 #[.int .u64 (n : Int)] w fun e w' => e = .returned (.agg (leArr n 8)) ∧ Only none_ w w' := by
  have h0 : Hid (#[Value.int .u8 0, .int .u8 0, .int .u8 0, .int .u8 0, .int .u8 0, .int .u8 0, .int .u8 0, .int .u8 0] = leArr n 0) := by
    simp [Hid, leArr, List.range, List.range.loop]
  go_enter Tryz.func270, Tryz.ntmps270
  go_wp2
  go_loopw [5] (fun i wr => ∃ k : Nat, k ≤ 8 ∧ i = .int .i64 k ∧ Blk wr (w.heap.size + 1) 374 (leArr n k) ∧ Blk wr w.heap.size 374 (leArr n 0) ∧ Only none_ w wr) (fun i _ => 8 - (intOf i).toNat)
  case atStart =>
    refine ⟨0, by omega, rfl, ?_, ?_, ((Only.refl _ _).alloc _).alloc _⟩
    · rw [← h0.out]
      have := Blk.new (w.alloc (Obj.cells #[Value.int .u8 0, .int .u8 0, .int .u8 0, .int .u8 0, .int .u8 0, .int .u8 0, .int .u8 0, .int .u8 0] 374)) 374 #[Value.int .u8 0, .int .u8 0, .int .u8 0, .int .u8 0, .int .u8 0, .int .u8 0, .int .u8 0, .int .u8 0]
      simpa using this
    · rw [← h0.out]; exact (Blk.new w _ _).alloc _
  case round =>
    obtain ⟨k, hk, rfl, hb, hb0, ho⟩ := hrel
    by_cases hlt : k < 8
    · obtain ⟨z, hz⟩ := leArr_cell n k k hlt
      have hc := hb.cell_ hz
      have hf := hb.frozen k
      have HB := Lib.hid hb
      have HB0 := Lib.hid hb0
      clear hb hz hb0
      go_wp2
      go_roundw
      case rel =>
        refine ⟨k + 1, by omega, by go_num, ?_, HB0.out.far (by simp) _, ho.setCell (.inr (by simp)) _⟩
        have := HB.out.set_ k (byt (leByte n k))
        rw [leArr_set n k hlt, byt_leByte] at this
        exact this
      case measure => simp [intOf]; omega
    · have hk8 : k = 8 := by omega
      subst hk8
      have hs := Lib.hid (leArr_size n 8)
      have HB := Lib.hid hb
      have HB0 := Lib.hid hb0
      have HO := Lib.hid ho
      clear hb hb0 ho
      go_wp2_with (first
        | (refine wpList_load_row rfl 374 _ rfl (w.heap.size + 1) rfl 374 (leArr n 8) (0, 0) _ HB.out Tryz.underlying374 rfl (by rw [hs.out]; kernel_rfl) ?_)
        | (refine wpList_store_row rfl 374 _ _ rfl w.heap.size (leArr n 8) rfl rfl 374 (leArr n 0) HB0.out (by rw [hs.out]; kernel_rfl) (by rw [hs.out, leArr_size]) (leArr_one n 8) ?_))
      refine bodyPost_ret (results_cell_row rfl _ _ w.heap.size 374 (leArr n 8) (0, 0) _ rfl (HB0.out.setRow (leArr n 8)) Tryz.underlying374 rfl (by rw [hs.out]; kernel_rfl)) rfl ⟨rfl, HO.out.setRow (.inr (by simp)) _⟩
end Go.Proofs.YtoohpcomnhfgpaaGreat
end
section
namespace Go.Proofs.YtoohpcomnhfgpaaGreat
open Go.RowKit
set_option linter.all false
theorem Wr.foot_lt {w : World} {g base : Nat} {code : Int} {v : Value} {bs : List UInt8} (h : Wr w g base code v bs) {b : Nat} (hb : foot g v b) : b < w.heap.size := by
  rcases hb with rfl | hb
  · exact h.1.lt
  · exact (h.2.lt b hb).2
theorem Wr.foot_ge {w : World} {g base : Nat} {code : Int} {v : Value} {bs : List UInt8} (h : Wr w g base code v bs) (hg : base ≤ g) {b : Nat} (hb : foot g v b) : base ≤ b := by
  rcases hb with rfl | hb
  · exact hg
  · exact (h.2.lt b hb).1
theorem Wr.only {w w' : World} {g base : Nat} {code : Int} {v : Value} {bs : List UInt8} {S : Nat → Prop} (h : Wr w g base code v bs) (ho : Only S w w') (hn : ∀ b, foot g v b → ¬ S b) : Wr w' g base code v bs :=
  ⟨h.1.only ho (hn g (.inl rfl)), owns_only h.2 ho fun b hb => hn b (.inr hb)⟩
theorem Wr.fail {w w' : World} {g base : Nat} {code code' : Int} {v : Value} {bs : List UInt8} (h : Wr w g base code v bs)
    (hb : Blk w' g 318 (#[Value.int .i64 code, v].setIfInBounds 0 (.int .i64 code'))) (ho : Only (one g) w w') : Wr w' g base code' v bs :=
  ⟨by simpa using hb, owns_only h.2 ho fun b hb' => by rintro rfl; exact own_blk_ne h.2 h.1 (by decide) hb'⟩
theorem one_foot {w w' : World} {g : Nat} {v : Value} (ho : Only (one g) w w') : Only (foot g v) w w' := ho.mono fun _ _ h => .inl h
def putS (code : Int) (bs x : List UInt8) : List UInt8 := if code = 0 then bs ++ x else bs
set_option maxHeartbeats 400000 in
theorem writer_raw (g base : Nat) (code : Int) (v pv : Value) (bs : List UInt8) (pss : List (List UInt8)) (S : Nat → Prop) (w : World) (h : Wr w g base code v bs) (hp : Parts w S pv pss)
    (hS : ∀ b, S b → ¬ foot g v b) (hb : bs.length + pss.flatten.length ≤ 140737488355328) (hbase : base ≤ w.heap.size) (hpl : pss.length ≤ 1000) :
    Calls Tryz.prog 268 #[.pointer (some ⟨g, 0, none⟩), pv] w fun e w' => e = .returned (.pointer (some ⟨g, 0, none⟩)) ∧
      ∃ v', Wr w' g base code v' (putS code bs pss.flatten) ∧ Only (foot g v) w w' ∧ Moved w v v' := by
  by_cases hc : code = 0
  · subst hc
    exact writer_raw_ok g base v pv bs pss S w h hp hS hb hbase hpl
  · have h2 : (code != 0) = true := by simp [hc]
    have h3 : Hid (putS code bs pss.flatten = bs) := by simp [Hid, putS, hc]
    obtain ⟨b, off, c, rfl, _⟩ := hp
    have H := Lib.hid h
    clear h hc
    go_enter Tryz.func268, Tryz.ntmps268
    go_wp2_with (go_at_call 211; refine (writer_err _ _ _ _ _ _ H.out).mono ?_; rintro e w' ⟨rfl, rfl⟩)
    go_ret
    rw [h3.out]
    exact ⟨rfl, v, H.out, Only.refl _ _, Moved.refl _ _⟩
def numCode (code : Int) (n : Nat) (width : Int) : Int := if isW width = true then (if n / 2 ^ (8 * width.toNat) = 0 then code else first_ code 2) else first_ code 1
def numBs (code : Int) (bs : List UInt8) (n : Nat) (width : Int) : List UInt8 := if isW width = true then (if n / 2 ^ (8 * width.toNat) = 0 then putS code bs (leBytes n width.toNat) else bs) else bs
theorem run_sliceAt_hm {P : Program} (t e : TypeId) (n m : Nat) (ht : P.underlying t = some (.array n e)) (i : TypeInfo) (hi : P.info? e = some i) (hm : m ≤ n) (a : Addr) (w : World) :
    (Instr.sliceAt t (.pointer (some a)) none (some (.int .i64 (m : Int))) (some (.int .i64 (m : Int)))).run P w = .ok (.slice (some a) m m) w := by
  have h2 : (m : Int) ≤ (n : Int) := by omega
  simp [Instr.sliceAt, Instr.sureAddr, run_underlying ht, Instr.sliceBounds, run_sliceBound, sizeOf, typeInfo, hi, Addr.add, h2]
theorem leBytes_length (n m : Nat) : (leBytes n m).length = m := by simp [leBytes]
theorem leBytes_at (n m j : Nat) (hj : j < (leBytes n m).length) : (leBytes n m)[j] = leByte n j := by simp [leBytes]
theorem leBytes_byt (n m : Nat) (hm : m ≤ 8) {w : World} {g : Nat} (hb : Blk w g 374 (leArr n 8)) : Byt w (fun b => b = g) (.slice (some ⟨g, 0, none⟩) m m) (leBytes n m) := by
  refine ⟨_, m, by rw [leBytes_length], by rw [leBytes_length]; omega, by simp only [maxLen]; omega, by simp, fun _ => ⟨g, 0, rfl, rfl, hb.lt, fun j hj => ?_⟩⟩
  have hj' : j < m := by rw [leBytes_length] at hj; exact hj
  rw [leBytes_at]
  have := hb.cell_ (leArr_at n 8 j (by omega))
  rw [if_pos (by omega)] at this
  simpa using this
theorem parts_one {w : World} {S : Nat → Prop} {x : Value} {bs : List UInt8} {t : TypeId} (h : Byt w S x bs) (hS : S w.heap.size) : Parts (w.alloc (.cells #[x] t)) S (.slice (some ⟨w.heap.size, 0, none⟩) 1 1) [bs] := by
  refine ⟨_, _, 1, rfl, by simp, hS, fun j hj => ?_⟩
  have hj0 : j = 0 := by simp at hj; omega
  subst hj0
  exact ⟨x, by simp, h.alloc _⟩
theorem parts_two {w : World} {S : Nat → Prop} {x y : Value} {bs cs : List UInt8} {t : TypeId} (h : Byt w S x bs) (h' : Byt w S y cs) (hS : S w.heap.size) : Parts (w.alloc (.cells #[x, y] t)) S (.slice (some ⟨w.heap.size, 0, none⟩) 2 2) [bs, cs] := by
  refine ⟨_, _, 2, rfl, by simp, hS, fun j hj => ?_⟩
  have hj0 : j = 0 ∨ j = 1 := by simp at hj; omega
  rcases hj0 with rfl | rfl
  · exact ⟨x, by simp, h.alloc _⟩
  · exact ⟨y, by simp, h'.alloc _⟩
set_option maxHeartbeats 400000 in
theorem writer_number (g base : Nat) (code width : Int) (n : Nat) (v : Value) (bs : List UInt8) (w : World) (h : Wr w g base code v bs) (hn : n < 18446744073709551616)
    (hb : bs.length + 8 ≤ 140737488355328) (hbase : base ≤ w.heap.size) :
    Calls Tryz.prog 239 #[.pointer (some ⟨g, 0, none⟩), .int .u64 (n : Int), .int .i64 width] w fun e w' => e = .returned (.pointer (some ⟨g, 0, none⟩)) ∧
      ∃ v', Wr w' g base (numCode code n width) v' (numBs code bs n width) ∧ Only (foot g v) w w' ∧ Moved w v v' := by
  by_cases hw : isW width = true
  · have hr : 1 ≤ width ∧ width ≤ 8 := by simpa [isW] using hw
    obtain ⟨m, rfl⟩ : ∃ m : Nat, width = m := ⟨width.toNat, by omega⟩
    obtain ⟨hm1, hm2⟩ : 1 ≤ m ∧ m ≤ 8 := by omega
    clear hr
    by_cases h0 : n / 2 ^ (8 * m) = 0
    · have ht : ((n : Int) / 2 ^ (8 * m) != 0) = false := by
        have : (n : Int) / 2 ^ (8 * m) = ((n / 2 ^ (8 * m) : Nat) : Int) := by push_cast; rfl
        rw [this, h0]; rfl
      have hcode : Hid (numCode code n (m : Int) = code) := by simp [Hid, numCode, hw, h0]
      have hbs : Hid (numBs code bs n (m : Int) = putS code bs (leBytes n m)) := by simp [Hid, numBs, hw, h0]
      have HW := Lib.hid hw
      have H := Lib.hid h
      clear h h0 hw
      obtain ⟨i0, hi0, _⟩ := info_parts u8_info
      have hsl := fun a w => run_sliceAt_hm 374 5 8 m Tryz.underlying374 i0 hi0 hm2 a w
      clear hi0
      go_enter Tryz.func239, Tryz.ntmps239
      go_wp2_with (first
        | (go_at_call 269; refine (isWidth_any _ _).mono ?_; rintro e w' ⟨rfl, rfl⟩; rw [HW.out])
        | (go_at_call 270; refine (lowest_any n hn _).mono ?_; rintro e w1 ⟨rfl, ho1⟩)
        | (refine wpList_store_row rfl 374 _ _ rfl w1.heap.size (leArr n 8) rfl rfl 374 _ (Blk.new w1 _ _) (by rw [leArr_size]; kernel_rfl) (by rw [leArr_size]; rfl) (leArr_one n 8) ?_
           have hb2 := (Blk.new w1 374 #[Value.int .u8 0, .int .u8 0, .int .u8 0, .int .u8 0, .int .u8 0, .int .u8 0, .int .u8 0, .int .u8 0]).setRow (leArr n 8)
           have ho2 := (ho1.alloc (.cells #[Value.int .u8 0, .int .u8 0, .int .u8 0, .int .u8 0, .int .u8 0, .int .u8 0, .int .u8 0, .int .u8 0] 374)).setRow (.inr ho1.size) (leArr n 8)
           have hg2 := ho1.size
           generalize (w1.alloc (.cells #[Value.int .u8 0, .int .u8 0, .int .u8 0, .int .u8 0, .int .u8 0, .int .u8 0, .int .u8 0, .int .u8 0] 374)).setRow w1.heap.size (leArr n 8) = w2 at *
           generalize w1.heap.size = g2 at *
           clear ho1
           have HR := writer_raw g base code v _ bs [leBytes n m] (fun k => w.heap.size ≤ k) (w2.alloc (.cells #[.slice (some ⟨g2, 0, none⟩) m m] 114))
             (H.out.only (ho2.alloc _) (fun _ _ h => h)) (parts_one ((leBytes_byt n m hm2 hb2).mono (fun b _ hbg => hbg ▸ hg2)) ho2.size) (fun b hb1 hb2 => by have := H.out.foot_lt hb2; omega) (by simp [leBytes_length]; omega) (by have := ho2.size; simp; omega) (by simp)
           have HO := Lib.hid ho2
           clear ho2)
        | (go_at_call 268; refine HR.mono ?_; rintro e w3 ⟨rfl, v3, h3, o3, m3⟩))
      go_ret
      rw [hcode.out, hbs.out]
      exact ⟨rfl, v3, by simpa using h3, (HO.out.alloc _).of_none.trans o3, (Moved.refl w v).trans m3 (HO.out.alloc _).size⟩
    · have ht : ((n : Int) / 2 ^ (8 * m) != 0) = true := by
        have : (n : Int) / 2 ^ (8 * m) = ((n / 2 ^ (8 * m) : Nat) : Int) := by push_cast; rfl
        rw [this]; simp only [bne_iff_ne, ne_eq]; omega
      have hcode : Hid (numCode code n (m : Int) = first_ code 2) := by simp [Hid, numCode, hw, h0]
      have hbs : Hid (numBs code bs n (m : Int) = bs) := by simp [Hid, numBs, hw, h0]
      have HW := Lib.hid hw
      have H := Lib.hid h
      clear h h0 hw
      go_enter Tryz.func239, Tryz.ntmps239
      go_wp2_with (first
        | (go_at_call 269; refine (isWidth_any _ _).mono ?_; rintro e w' ⟨rfl, rfl⟩; rw [HW.out])
        | (go_at_call 220; refine (fault_fail _ _ _ _ _ _ H.out.1 rfl).mono ?_; rintro e w1 ⟨rfl, hb1, ho1⟩))
      go_ret
      rw [hcode.out, hbs.out]
      exact ⟨rfl, v, H.out.fail hb1 ho1, one_foot ho1, Moved.refl _ _⟩
  · have hw' : isW width = false := by simpa using hw
    have hcode : Hid (numCode code n width = first_ code 1) := by simp [Hid, numCode, hw']
    have hbs : Hid (numBs code bs n width = bs) := by simp [Hid, numBs, hw']
    have HW := Lib.hid hw'
    have H := Lib.hid h
    clear h hw hw'
    go_enter Tryz.func239, Tryz.ntmps239
    go_wp2_with (first
      | (go_at_call 269; refine (isWidth_any _ _).mono ?_; rintro e w' ⟨rfl, rfl⟩; rw [HW.out])
      | (go_at_call 220; refine (fault_fail _ _ _ _ _ _ H.out.1 rfl).mono ?_; rintro e w1 ⟨rfl, hb1, ho1⟩))
    go_ret
    rw [hcode.out, hbs.out]
    exact ⟨rfl, v, H.out.fail hb1 ho1, one_foot ho1, Moved.refl _ _⟩
end Go.Proofs.YtoohpcomnhfgpaaGreat
end
section
namespace Go.Proofs.YtoohpcomnhfgpaaGreat
open Go.RowKit
set_option linter.all false
set_option maxHeartbeats 400000 in
theorem bytes_clone (x : Value) (bs : List UInt8) (S : Nat → Prop) (w : World) (h : Byt w S x bs) (hb : bs.length ≤ 140737488355328) :
    Calls Tryz.prog 168 #[x] w fun e w' => ∃ A n c, e = .returned (.slice A n c) ∧ w'.ownsRow w.heap.size 5 1 (.slice A n c) bs.length (byts bs) ∧ Only none_ w w' := by
  obtain ⟨i0, hi0, hz0, hz1, hz2⟩ := info_parts u8_info
  obtain ⟨A, c, rfl, h1, h2, h3, h4⟩ := h
  have H : Hid (Byt w S (.slice A bs.length c) bs) := ⟨A, c, rfl, h1, h2, h3, h4⟩
  rcases A with _ | ad
  · have hn : Hid (bs = []) := List.eq_nil_of_length_eq_zero (by have := h3 rfl; omega)
    have hnil := fun w a n c => Lib.run_eql_slice_nil (P := Tryz.prog) w 114 5 a n c 0 0 Tryz.underlying114
    clear h4
    go_enter Tryz.func168, Tryz.ntmps168
    go_wp2
    go_ret
    rw [hn.out]
    exact ⟨_, _, _, rfl, World.ownsRow_nil _ _ _ _, Only.refl _ _⟩
  · clear h4
    have hnil := fun w a n c => Lib.run_eql_slice_nil (P := Tryz.prog) w 114 5 a n c 0 0 Tryz.underlying114
    go_enter Tryz.func168, Tryz.ntmps168
    go_wp2_with (first
      | (at_builtin; refine wpList_append_byt _ rfl (.tmp 5) (.tmp 6) _ rfl w.heap.size 5 i0 (.int .u8 0) Tryz.underlying114 hi0 hz0 hz1 hz2 rfl (.slice (some ⟨w.heap.size, 0, none⟩) 0 0) [] rfl (World.ownsRow_made w #[] 0 (Nat.le_refl _) (by simp [maxLen]) rfl) S _ bs rfl (H.out.alloc _) (by simpa using hb) (by simp) ?_; intro A2 n2 c2 w2 hown2 hgrow2 hmv2))
    go_ret
    exact ⟨_, _, _, rfl, by simpa using hown2, ((Only.refl none_ w).alloc _).grown hgrow2 (fun k hk => .inr (by simp [Value.ownBlock] at hk; omega))⟩
theorem writer_bytes (g base : Nat) (code : Int) (v : Value) (bs : List UInt8) (w : World) (h : Wr w g base code v bs) (hb : bs.length ≤ 140737488355328) :
    Calls Tryz.prog 210 #[.pointer (some ⟨g, 0, none⟩)] w fun e w' => ∃ A n c, e = .returned (.slice A n c) ∧ w'.ownsRow w.heap.size 5 1 (.slice A n c) bs.length (byts bs) ∧ Only none_ w w' := by
  have hc := h.c1
  have H := Lib.hid h
  clear h
  go_enter Tryz.func210, Tryz.ntmps210
  go_wp2_with (first
      | (go_at_call 168; refine (bytes_clone _ bs _ _ (Byt.of_own H.out.2) hb).mono ?_; rintro e w1 ⟨A, n, c, rfl, h1, o1⟩))
  go_ret
  exact ⟨_, _, _, rfl, h1, o1⟩
end Go.Proofs.YtoohpcomnhfgpaaGreat
end
section
namespace Go.Proofs.YtoohpcomnhfgpaaGreat
open Go.RowKit
set_option linter.all false
def bitN (b : Bool) : Nat := if b then 1 else 0
theorem num_bit (code : Int) (b : Bool) : numCode code (bitN b) 1 = code := by cases b <;> simp [numCode, isW, bitN]
theorem bs_bit (code : Int) (bs : List UInt8) (b : Bool) : numBs code bs (bitN b) 1 = putS code bs [UInt8.ofNat (bitN b)] := by
  cases b <;> simp [numBs, isW, bitN, leBytes, leByte, List.range, List.range.loop]
theorem writer_flag (g base : Nat) (code : Int) (b : Bool) (v : Value) (bs : List UInt8) (w : World) (h : Wr w g base code v bs) 
    (hb : bs.length + 8 ≤ 140737488355328) (hbase : base ≤ w.heap.size) :
    Calls Tryz.prog 238 #[.pointer (some ⟨g, 0, none⟩), .bool b] w fun e w' => e = .returned (.pointer (some ⟨g, 0, none⟩)) ∧
      ∃ v', Wr w' g base code v' (putS code bs [UInt8.ofNat (bitN b)]) ∧ Only (foot g v) w w' ∧ Moved w v v' := by
  have HN := writer_number g base code 1 (bitN b) v bs w h (by cases b <;> simp [bitN]) hb hbase
  rw [num_bit, bs_bit] at HN
  clear h
  cases b
  all_goals
    go_enter Tryz.func238, Tryz.ntmps238
    go_wp2_with (first | (go_at_call 239; refine HN.mono ?_; rintro e w3 ⟨rfl, v3, h3, o3, m3⟩))
    go_ret
    exact ⟨rfl, v3, h3, o3, m3⟩
def textCode (code : Int) (s : List UInt8) : Int := if 255 < s.length then first_ code 2 else code
def textBs (code : Int) (bs s : List UInt8) : List UInt8 := if 255 < s.length then bs else putS code bs (UInt8.ofNat s.length :: s)
theorem byt_of_string (w : World) (s : ByteArray) (cap : Nat) (hs : s.size ≤ cap) (hm : cap ≤ maxLen) (t : TypeId) (fr : Nat × Nat) :
    Byt (w.alloc (.cells (bytesRow s cap) t fr)) (fun b => b = w.heap.size) (.slice (some ⟨w.heap.size, 0, none⟩) s.size cap) s.data.toList := by
  have hl : s.data.toList.length = s.size := Array.length_toList
  refine ⟨_, cap, by rw [hl], by omega, hm, by simp, fun _ => ⟨_, 0, rfl, rfl, by simp, fun j hj => ?_⟩⟩
  have hj' : j < s.data.size := by simpa using hj
  have := World.cell?_alloc_mark w (bytesRow s cap) t fr j
  rw [bytesRow_at s cap j hj'] at this
  simpa [byt] using this
theorem byt_one (w : World) (n : Nat) (hn : n ≤ 255) (t : TypeId) : Byt (w.alloc (.cells #[.int .u8 (n : Int)] t)) (fun b => b = w.heap.size) (.slice (some ⟨w.heap.size, 0, none⟩) 1 1) [UInt8.ofNat n] := by
  refine ⟨_, 1, rfl, by simp, by simp [maxLen], by simp, fun _ => ⟨_, 0, rfl, rfl, by simp, fun j hj => ?_⟩⟩
  have hj0 : j = 0 := by simp at hj; omega
  subst hj0
  have : (UInt8.ofNat n).toNat = n := by simp; omega
  simp [byt, this]
theorem text_parts (w : World) (s : ByteArray) (hs : s.size ≤ 255) (tb tp : TypeId) (cap : Nat) (hc : s.size ≤ cap) (hm : cap ≤ maxLen) (fr : Nat × Nat) :
    Parts (((w.alloc (.cells #[.int .u8 (s.size : Int)] tb)).alloc (.cells (bytesRow s cap) tb fr)).alloc (.cells #[.slice (some ⟨w.heap.size, 0, none⟩) 1 1, .slice (some ⟨w.heap.size + 1, 0, none⟩) s.size cap] tp)) (fun k => w.heap.size ≤ k)
      (.slice (some ⟨w.heap.size + 1 + 1, 0, none⟩) 2 2) [[UInt8.ofNat s.size], s.data.toList] := by
  have h1 := ((byt_one w s.size hs tb).alloc (.cells (bytesRow s cap) tb fr)).mono (T := fun k => w.heap.size ≤ k) (fun b _ hb => by simp only [hb]; omega)
  have h2 := (byt_of_string (w.alloc (.cells #[.int .u8 (s.size : Int)] tb)) s cap hc hm tb fr).mono (T := fun k => w.heap.size ≤ k) (fun b _ hb => by simp only [hb, World.size_alloc]; omega)
  simp only [World.size_alloc] at h2
  have := parts_two (t := tp) h1 h2 (by simp only [World.size_alloc]; omega)
  simpa only [World.size_alloc] using this
set_option maxHeartbeats 400000 in
theorem writer_text (g base : Nat) (code : Int) (s : ByteArray) (v : Value) (bs : List UInt8) (w : World) (h : Wr w g base code v bs) 
    (hb : bs.length + 300 ≤ 140737488355328) (hbase : base ≤ w.heap.size) (hs : s.size ≤ 9223372036854775807) :
    Calls Tryz.prog 237 #[.pointer (some ⟨g, 0, none⟩), .string s] w fun e w' => e = .returned (.pointer (some ⟨g, 0, none⟩)) ∧
      ∃ v', Wr w' g base (textCode code s.data.toList) v' (textBs code bs s.data.toList) ∧ Only (foot g v) w w' ∧ Moved w v v' := by
  have hl : s.data.toList.length = s.size := Array.length_toList
  by_cases h0 : 255 < s.size
  · have hcode : Hid (textCode code s.data.toList = first_ code 2) := by rw [Hid, textCode, hl, if_pos h0]
    have hbs : Hid (textBs code bs s.data.toList = bs) := by rw [Hid, textBs, hl, if_pos h0]
    have H := Lib.hid h
    clear h hl
    go_enter Tryz.func237, Tryz.ntmps237
    go_wp2_with (first
        | (go_at_call 220; refine (fault_fail _ _ _ _ _ _ H.out.1 rfl).mono ?_; rintro e w1 ⟨rfl, hb1, ho1⟩))
    go_ret
    rw [hcode.out, hbs.out]
    exact ⟨rfl, v, H.out.fail hb1 ho1, one_foot ho1, Moved.refl _ _⟩
  · have hcode : Hid (textCode code s.data.toList = code) := by rw [Hid, textCode, hl, if_neg h0]
    have hbs : Hid (textBs code bs s.data.toList = putS code bs (UInt8.ofNat s.data.toList.length :: s.data.toList)) := by rw [Hid, textBs, hl, if_neg h0]
    have H := Lib.hid h
    have HL := Lib.hid hl
    clear h hl
    have hcv := fun w => run_bytes_of_string (P := Tryz.prog) w 9 114 5 s Tryz.underlying9 Tryz.underlying114 Tryz.underlying5
    go_enter Tryz.func237, Tryz.ntmps237
    go_wp2_with fail
    have hW1 := (((Only.refl none_ w).alloc (.cells #[.int .u8 (s.size : Int)] 5)).alloc (.cells (bytesRow s (grownCap (w.alloc (.cells #[.int .u8 (s.size : Int)] 5)) s.size 0 5)) 5
      ((bytesRow s (grownCap (w.alloc (.cells #[.int .u8 (s.size : Int)] 5)) s.size 0 5)).size, (bytesRow s (grownCap (w.alloc (.cells #[.int .u8 (s.size : Int)] 5)) s.size 0 5)).size + 1))).alloc
      (.cells #[.slice (some ⟨w.heap.size, 0, none⟩) 1 1, .slice (some ⟨w.heap.size + 1, 0, none⟩) s.size (grownCap (w.alloc (.cells #[.int .u8 (s.size : Int)] 5)) s.size 0 5)] 114)
    have hpp := text_parts w s (by omega) 5 114 (grownCap (w.alloc (.cells #[.int .u8 (s.size : Int)] 5)) s.size 0 5) (grownCap_ge _ _ _ _) (grownCap_le_maxLen _ _ _ _ (by simp only [maxLen]; omega))
      ((bytesRow s (grownCap (w.alloc (.cells #[.int .u8 (s.size : Int)] 5)) s.size 0 5)).size, (bytesRow s (grownCap (w.alloc (.cells #[.int .u8 (s.size : Int)] 5)) s.size 0 5)).size + 1)
    generalize (((w.alloc (.cells #[.int .u8 (s.size : Int)] 5)).alloc (.cells (bytesRow s (grownCap (w.alloc (.cells #[.int .u8 (s.size : Int)] 5)) s.size 0 5)) 5
      ((bytesRow s (grownCap (w.alloc (.cells #[.int .u8 (s.size : Int)] 5)) s.size 0 5)).size, (bytesRow s (grownCap (w.alloc (.cells #[.int .u8 (s.size : Int)] 5)) s.size 0 5)).size + 1))).alloc
      (.cells #[.slice (some ⟨w.heap.size, 0, none⟩) 1 1, .slice (some ⟨w.heap.size + 1, 0, none⟩) s.size (grownCap (w.alloc (.cells #[.int .u8 (s.size : Int)] 5)) s.size 0 5)] 114)) = w2 at *
    refine (writer_raw g base code v _ bs [[UInt8.ofNat s.size], s.data.toList] (fun k => w.heap.size ≤ k) w2.drew (H.out.only (S := none_) hW1.drew (fun _ _ h => h)) hpp (fun b hb1 hb2 => by have := H.out.foot_lt hb2; omega)
      (by have := HL.out; simp only [List.flatten_cons, List.flatten_nil, List.length_append, List.length_cons, List.length_nil]; omega) (by have := hW1.size; simp; omega) (by simp)).mono ?_
    rintro e w3 ⟨rfl, v3, h3, o3, m3⟩
    go_wp2
    go_ret
    rw [hcode.out, hbs.out, HL.out]
    exact ⟨rfl, v3, by simpa using h3, hW1.drew.of_none.trans o3, (Moved.refl w v).trans m3 hW1.size⟩
end Go.Proofs.YtoohpcomnhfgpaaGreat
end
section
namespace Go.Proofs.YtoohpcomnhfgpaaGreat
open Go.RowKit
set_option linter.all false
set_option maxRecDepth 100000
structure Lw (B : World) (g : Nat) (bs : List UInt8) (v : Value) (w : World) : Prop where
  wr : Wr w g g 0 v bs
  ho : Only none_ B w
  ge : B.heap.size ≤ g
section
variable {B w w' : World} {g h : Nat} {bs bs' : List UInt8} {v v' : Value} {t : TypeId} {cs : Array Value}
theorem Lw.new (B : World) : Lw B B.heap.size [] (.slice none 0 0) (B.alloc (.cells #[.int .i64 0, .slice none 0 0] 318)) :=
  ⟨⟨Blk.new _ _ _, World.ownsRow_nil _ _ _ _⟩, (Only.refl _ _).alloc _, Nat.le_refl _⟩
theorem Lw.far (s : Lw B g bs v w) {k : Nat} (hf : foot g v k) : B.heap.size ≤ k ∧ k < w.heap.size := ⟨Nat.le_trans s.ge (s.wr.foot_ge (Nat.le_refl _) hf), s.wr.foot_lt hf⟩
theorem Lw.step (s : Lw B g bs v w) (hw : Wr w' g g 0 v' bs') (o : Only (foot g v) w w') : Lw B g bs' v' w' :=
  ⟨hw, s.ho.trans' o (fun k hk hf => by have := s.far hf; omega), s.ge⟩
theorem Lw.keep (s : Lw B g bs v w) (o : Only none_ w w') : Lw B g bs v w' := ⟨s.wr.only o (fun _ _ h => h), s.ho.trans o, s.ge⟩
theorem Lw.box (s : Lw B g bs v w) (b : Blk w h t cs) (o : Only (foot g v) w w') (h1 : 5 ≠ t) (h2 : t ≠ 318) : Blk w' h t cs :=
  b.only o (fun hf => hf.elim (fun e => Blk.ne_ b s.wr.1 h2 e) (fun e => own_blk_ne s.wr.2 b h1 e))
theorem lw_text (s : Lw B g bs v w) (x : ByteArray) (hx : x.size ≤ 255) (hl : bs.length ≤ 1000000) :
    Calls Tryz.prog 237 #[.pointer (some ⟨g, 0, none⟩), .string x] w fun e w' => e = .returned (.pointer (some ⟨g, 0, none⟩)) ∧ ∃ v', Lw B g (bs ++ (UInt8.ofNat x.size :: x.data.toList)) v' w' ∧ Only (foot g v) w w' := by
  have hlen : x.data.toList.length = x.size := Array.length_toList
  have e1 : textCode 0 x.data.toList = 0 := by rw [textCode, if_neg (by omega)]
  have e2 : textBs 0 bs x.data.toList = bs ++ (UInt8.ofNat x.size :: x.data.toList) := by rw [textBs, if_neg (by omega), hlen]; rfl
  refine (writer_text g g 0 x v bs w s.wr (by omega) (Nat.le_of_lt s.wr.1.lt) (by omega)).mono ?_
  rintro e w' ⟨rfl, v', h', o', _⟩
  rw [e1, e2] at h'
  exact ⟨rfl, v', s.step h' o', o'⟩
theorem lw_flag (s : Lw B g bs v w) (b : Bool) (hl : bs.length ≤ 1000000) :
    Calls Tryz.prog 238 #[.pointer (some ⟨g, 0, none⟩), .bool b] w fun e w' => e = .returned (.pointer (some ⟨g, 0, none⟩)) ∧ ∃ v', Lw B g (bs ++ [UInt8.ofNat (bitN b)]) v' w' ∧ Only (foot g v) w w' := by
  refine (writer_flag g g 0 b v bs w s.wr (by omega) (Nat.le_of_lt s.wr.1.lt)).mono ?_
  rintro e w' ⟨rfl, v', h', o', _⟩
  exact ⟨rfl, v', s.step h' o', o'⟩
theorem lw_num (s : Lw B g bs v w) (n m : Nat) (hm : 1 ≤ m ∧ m ≤ 8) (hn : n < 2 ^ (8 * m)) (hl : bs.length ≤ 1000000) :
    Calls Tryz.prog 239 #[.pointer (some ⟨g, 0, none⟩), .int .u64 (n : Int), .int .i64 (m : Int)] w fun e w' => e = .returned (.pointer (some ⟨g, 0, none⟩)) ∧ ∃ v', Lw B g (bs ++ leBytes n m) v' w' ∧ Only (foot g v) w w' := by
  have hw : isW (m : Int) = true := by simp [isW]; omega
  have hz : n / 2 ^ (8 * m) = 0 := Nat.div_eq_of_lt hn
  have e1 : numCode 0 n (m : Int) = 0 := by rw [numCode, if_pos hw, Int.toNat_natCast, if_pos hz]
  have e2 : numBs 0 bs n (m : Int) = bs ++ leBytes n m := by rw [numBs, if_pos hw, Int.toNat_natCast, if_pos hz]; rfl
  have hb : n < 18446744073709551616 := by
    have : 2 ^ (8 * m) ≤ 2 ^ 64 := Nat.pow_le_pow_right (by omega) (by omega)
    omega
  refine (writer_number g g 0 (m : Int) n v bs w s.wr hb (by omega) (Nat.le_of_lt s.wr.1.lt)).mono ?_
  rintro e w' ⟨rfl, v', h', o', _⟩
  rw [e1, e2] at h'
  exact ⟨rfl, v', s.step h' o', o'⟩
theorem lw_bytes (s : Lw B g bs v w) (hl : bs.length ≤ 1000000) :
    Calls Tryz.prog 210 #[.pointer (some ⟨g, 0, none⟩)] w fun e w' => ∃ A n c, e = .returned (.slice A n c) ∧ w'.ownsRow w.heap.size 5 1 (.slice A n c) bs.length (byts bs) ∧ Only none_ w w' :=
  writer_bytes g g 0 v bs w s.wr (by omega)
theorem lw_err (s : Lw B g bs v w) :
    Calls Tryz.prog 211 #[.pointer (some ⟨g, 0, none⟩)] w fun e w' => e = .returned (.int .i64 0) ∧ w = w' := writer_err g g 0 v bs w s.wr
end
end Go.Proofs.YtoohpcomnhfgpaaGreat
end
section
namespace Go.Proofs.YtoohpcomnhfgpaaGreat
open Go.RowKit
set_option linter.all false
set_option maxRecDepth 100000
structure Ne where
  k : ByteArray
  v : ByteArray
  d : Bool
  s1 : Nat
  s2 : Nat
  a1 : Nat
  a2 : Nat
  p : Nat
  q : Nat
def Ne.en (e : Ne) : En := ⟨e.k, e.v, e.d, ⟨e.s1, e.s2⟩, ⟨e.a1, e.a2⟩, e.p, e.q⟩
def Ne.ok (e : Ne) : Prop := e.k.size ≤ 255 ∧ e.v.size ≤ 255 ∧ e.s1 < 4294967296 ∧ e.s2 < 256 ∧ e.a1 < 4294967296 ∧ e.a2 < 256 ∧ e.p < 65536 ∧ e.q < 4294967296
def txtB (x : ByteArray) : List UInt8 := UInt8.ofNat x.size :: x.data.toList
theorem txtB_len (x : ByteArray) : (txtB x).length = x.size + 1 := by
  show x.data.toList.length + 1 = _
  rw [Array.length_toList]; rfl
def layB (e : Ne) : List UInt8 := txtB e.k ++ [UInt8.ofNat (bitN e.d)] ++ txtB e.v ++ leBytes e.s1 4 ++ leBytes e.s2 1 ++ leBytes e.a1 4 ++ leBytes e.a2 1 ++ leBytes e.p 2 ++ leBytes e.q 4
theorem first3 {w : World} {g : Nat} {t : TypeId} {a b c d e f h i j : Value} (x : Blk w g t #[a, b, c, d, e, f, h, i, j]) : w.cell? ⟨g, 0, none⟩ = some a ∧ w.cell? ⟨g, 1, none⟩ = some b ∧ w.cell? ⟨g, 2, none⟩ = some c :=
  ⟨x.cell_ rfl, x.cell_ rfl, x.cell_ rfl⟩
theorem last2 {w : World} {g : Nat} {t : TypeId} {a b c d e f h i j : Value} (x : Blk w g t #[a, b, c, d, e, f, h, i, j]) : w.cell? ⟨g, 7, none⟩ = some i ∧ w.cell? ⟨g, 8, none⟩ = some j := ⟨x.cell_ rfl, x.cell_ rfl⟩
theorem both2 {w : World} {g : Nat} {t : TypeId} {a b : Value} (x : Blk w g t #[a, b]) : w.cell? ⟨g, 0, none⟩ = some a ∧ w.cell? ⟨g, 1, none⟩ = some b := ⟨x.cell_ rfl, x.cell_ rfl⟩
theorem leBytes_len (n k : Nat) : (leBytes n k).length = k := by simp [leBytes]
set_option maxHeartbeats 3200000 in
theorem lay_any (B : World) (g : Nat) (e : Ne) (bs : List UInt8) (v : Value) (w : World) (he : e.ok) (s : Lw B g bs v w) (hl : bs.length ≤ 900000) :
    Calls Tryz.prog 209 #[.pointer (some ⟨g, 0, none⟩), .agg #[.string e.en.k, .string e.en.v, .bool e.en.d, .int .i64 e.en.s.c, .int .i64 e.en.s.s, .int .i64 e.en.a.c, .int .i64 e.en.a.s, .int .i64 e.en.p, .int .i64 e.en.g]] w fun E w' => E = .returned (.tuple #[]) ∧ ∃ v', Lw B g (bs ++ layB e) v' w' := by
  obtain ⟨k, x, d, s1, s2, a1, a2, p, q⟩ := e
  obtain ⟨hk, hv, h1, h2, h3, h4, h5, h6⟩ := he
  have HF : Hid (layB ⟨k, x, d, s1, s2, a1, a2, p, q⟩ = txtB k ++ [UInt8.ofNat (bitN d)] ++ txtB x ++ leBytes s1 4 ++ leBytes s2 1 ++ leBytes a1 4 ++ leBytes a2 1 ++ leBytes p 2 ++ leBytes q 4) := rfl
  dsimp only at hk hv h1 h2 h3 h4 h5 h6
  show Calls Tryz.prog 209 #[.pointer (some ⟨g, 0, none⟩), .agg #[.string k, .string x, .bool d, .int .i64 (s1 : Int), .int .i64 (s2 : Int), .int .i64 (a1 : Int), .int .i64 (a2 : Int), .int .i64 (p : Int), .int .i64 (q : Int)]] w _
  have u1 : IntKind.u64.wrap (s1 : Int) = (s1 : Int) := IntWalk.u64_in _ (by omega)
  have u2 : IntKind.u64.wrap (s2 : Int) = (s2 : Int) := IntWalk.u64_in _ (by omega)
  have u3 : IntKind.u64.wrap (a1 : Int) = (a1 : Int) := IntWalk.u64_in _ (by omega)
  have u4 : IntKind.u64.wrap (a2 : Int) = (a2 : Int) := IntWalk.u64_in _ (by omega)
  have u5 : IntKind.u64.wrap (p : Int) = (p : Int) := IntWalk.u64_in _ (by omega)
  have u6 : IntKind.u64.wrap (q : Int) = (q : Int) := IntWalk.u64_in _ (by omega)
  obtain ⟨b1, e1⟩ : ∃ b, bs ++ txtB k = b := ⟨_, rfl⟩
  obtain ⟨b2, e2⟩ : ∃ b, b1 ++ [UInt8.ofNat (bitN d)] = b := ⟨_, rfl⟩
  obtain ⟨b3, e3⟩ : ∃ b, b2 ++ txtB x = b := ⟨_, rfl⟩
  obtain ⟨b4, e4⟩ : ∃ b, b3 ++ leBytes s1 4 = b := ⟨_, rfl⟩
  obtain ⟨b5, e5⟩ : ∃ b, b4 ++ leBytes s2 1 = b := ⟨_, rfl⟩
  obtain ⟨b6, e6⟩ : ∃ b, b5 ++ leBytes a1 4 = b := ⟨_, rfl⟩
  obtain ⟨b7, e7⟩ : ∃ b, b6 ++ leBytes a2 1 = b := ⟨_, rfl⟩
  obtain ⟨b8, e8⟩ : ∃ b, b7 ++ leBytes p 2 = b := ⟨_, rfl⟩
  obtain ⟨b9, e9⟩ : ∃ b, b8 ++ leBytes q 4 = b := ⟨_, rfl⟩
  have EB : Hid (bs ++ layB ⟨k, x, d, s1, s2, a1, a2, p, q⟩ = b9) := by
    rw [Hid, HF.out, ← e9, ← e8, ← e7, ← e6, ← e5, ← e4, ← e3, ← e2, ← e1]
    simp only [List.append_assoc]
  have n1 : b1.length = bs.length + (k.size + 1) := by rw [← e1, List.length_append, txtB_len]
  have n2 : b2.length = b1.length + 1 := by rw [← e2, List.length_append]; rfl
  have n3 : b3.length = b2.length + (x.size + 1) := by rw [← e3, List.length_append, txtB_len]
  have n4 : b4.length = b3.length + 4 := by rw [← e4, List.length_append, leBytes_len]
  have n5 : b5.length = b4.length + 1 := by rw [← e5, List.length_append, leBytes_len]
  have n6 : b6.length = b5.length + 4 := by rw [← e6, List.length_append, leBytes_len]
  have n7 : b7.length = b6.length + 1 := by rw [← e7, List.length_append, leBytes_len]
  have n8 : b8.length = b7.length + 2 := by rw [← e8, List.length_append, leBytes_len]
  have HN : Hid (bs.length ≤ 1000000 ∧ b1.length ≤ 1000000 ∧ b2.length ≤ 1000000 ∧ b3.length ≤ 1000000 ∧ b4.length ≤ 1000000 ∧ b5.length ≤ 1000000 ∧ b6.length ≤ 1000000 ∧ b7.length ≤ 1000000 ∧ b8.length ≤ 1000000) := by
    refine ⟨?_, ?_, ?_, ?_, ?_, ?_, ?_, ?_, ?_⟩ <;> omega
  have E1 := Lib.hid e1
  have E2 := Lib.hid e2
  have E3 := Lib.hid e3
  have E4 := Lib.hid e4
  have E5 := Lib.hid e5
  have E6 := Lib.hid e6
  have E7 := Lib.hid e7
  have E8 := Lib.hid e8
  have E9 := Lib.hid e9
  have HK := Lib.hid hk
  have HX := Lib.hid hv
  have A1 : Hid (s1 < 2 ^ (8 * 4)) := h1
  have A2 : Hid (s2 < 2 ^ (8 * 1)) := h2
  have A3 : Hid (a1 < 2 ^ (8 * 4)) := h3
  have A4 : Hid (a2 < 2 ^ (8 * 1)) := h4
  have A5 : Hid (p < 2 ^ (8 * 2)) := h5
  have A6 : Hid (q < 2 ^ (8 * 4)) := h6
  have L0 := Lib.hid (s.keep (((Only.refl none_ w).alloc (.cells #[.string k, .string x, .bool d, .int .i64 (s1 : Int), .int .i64 (s2 : Int), .int .i64 (a1 : Int), .int .i64 (a2 : Int), .int .i64 (p : Int), .int .i64 (q : Int)] 82)).drew))
  have X0 := Lib.hid (Blk.new w 82 #[.string k, .string x, .bool d, .int .i64 (s1 : Int), .int .i64 (s2 : Int), .int .i64 (a1 : Int), .int .i64 (a2 : Int), .int .i64 (p : Int), .int .i64 (q : Int)]).drew
  have y0 := first3 X0.out
  have ix0 := fun w => (run_index_two _ _ _ _ _ (show #[.int .i64 (s1 : Int), .int .i64 (s2 : Int), .int .i64 (a1 : Int), .int .i64 (a2 : Int)] = _ from rfl) w).1
  have ix1 := fun w => (run_index_two _ _ _ _ _ (show #[.int .i64 (s1 : Int), .int .i64 (s2 : Int), .int .i64 (a1 : Int), .int .i64 (a2 : Int)] = _ from rfl) w).2
  clear s hl hk hv h1 h2 h3 h4 h5 h6 e1 e2 e3 e4 e5 e6 e7 e8 e9 n1 n2 n3 n4 n5 n6 n7 n8
  have tok1 : True := trivial
  go_enter Tryz.func209, Tryz.ntmps209
  go_wp2_with fail
  go_region_held3 (fun w' => w'.cell? ⟨w.heap.size, 0, none⟩ = some (.string k) ∧ w'.cell? ⟨w.heap.size, 1, none⟩ = some (.string x) ∧ w'.cell? ⟨w.heap.size, 2, none⟩ = some (.bool d))
    (first | with_reducible exact y0 | with_reducible exact y1 | with_reducible exact y2 | with_reducible exact y3)
    (first
      | (go_at_call 237; have _t := tok1; refine (lw_text L0.out k HK.out HN.out.1).mono ?_; rintro e w1 ⟨rfl, v1, l1, o1⟩
         have L1 : Hid (Lw B g b1 v1 w1) := E1.out ▸ l1
         have X1 := Lib.hid (L0.out.box X0.out o1 (by decide) (by decide))
         have y1 := first3 X1.out
         clear l1 o1 tok1
         have tok2 : True := trivial)
      | (go_at_call 238; refine (lw_flag L1.out d HN.out.2.1).mono ?_; rintro e w2 ⟨rfl, v2, l2, o2⟩
         have L2 : Hid (Lw B g b2 v2 w2) := E2.out ▸ l2
         have X2 := Lib.hid (L1.out.box X1.out o2 (by decide) (by decide))
         have y2 := first3 X2.out
         clear l2 o2)
      | (go_at_call 237; have _t := tok2; refine (lw_text L2.out x HX.out HN.out.2.2.1).mono ?_; rintro e w3 ⟨rfl, v3, l3, o3⟩
         have L3 : Hid (Lw B g b3 v3 w3) := E3.out ▸ l3
         have X3 := Lib.hid (L2.out.box X2.out o3 (by decide) (by decide))
         have y3 := first3 X3.out
         clear l3 o3 tok2))
  all_goals go_wp2_with (first
    | (refine wpl_load rfl 82 _ rfl w.heap.size rfl 82 #[.string k, .string x, .bool d, .int .i64 (s1 : Int), .int .i64 (s2 : Int), .int .i64 (a1 : Int), .int .i64 (a2 : Int), .int .i64 (p : Int), .int .i64 (q : Int)] _ X3.out Tryz.underlying82 rfl (by kernel_rfl) ?_)
    | (go_at_call 191; refine (en_stamps ⟨k, x, d, ⟨s1, s2⟩, ⟨a1, a2⟩, p, q⟩ _).mono ?_; rintro e w4 ⟨rfl, o4⟩
       have L4 := Lib.hid (L3.out.keep o4)
       have X4 := Lib.hid (X3.out.only o4 (fun h => h))
       clear o4))
  refine wp_loop_rounds 3 ?_
  rw [rounds_succ]
  have La5 := Lib.hid (L4.out.keep (((Only.refl none_ w4).alloc (.cells #[.int .i64 (s1 : Int), .int .i64 (s2 : Int)] 80)).drew))
  have Xa5 := Lib.hid (X4.out.only (((Only.refl none_ w4).alloc (.cells #[.int .i64 (s1 : Int), .int .i64 (s2 : Int)] 80)).drew) (fun h => h))
  have Sa5 := Lib.hid (Blk.new w4 80 #[.int .i64 (s1 : Int), .int .i64 (s2 : Int)]).drew
  have ya5 := both2 Sa5.out
  have tokn5 : True := trivial
  go_wp2_with fail
  go_region_held3 (fun w' => w'.cell? ⟨w4.heap.size, 0, none⟩ = some (.int .i64 (s1 : Int)) ∧ w'.cell? ⟨w4.heap.size, 1, none⟩ = some (.int .i64 (s2 : Int)))
    (first | with_reducible exact ya5 | with_reducible exact yb5 | with_reducible exact yc5)
    (first
      | (go_at_call 239; have _t := tokn5; refine (lw_num La5.out s1 4 (by omega) A1.out HN.out.2.2.2.1).mono ?_; rintro e w5 ⟨rfl, v5, l, o⟩
         have L5 : Hid (Lw B g b4 v5 w5) := E4.out ▸ l
         have X5 := Lib.hid (La5.out.box Xa5.out o (by decide) (by decide))
         have S5 := Lib.hid (La5.out.box Sa5.out o (by decide) (by decide))
         have yb5 := both2 S5.out
         clear l o tokn5
         have tokm5 : True := trivial)
      | (go_at_call 239; have _t := tokm5; refine (lw_num L5.out s2 1 (by omega) A2.out HN.out.2.2.2.2.1).mono ?_; rintro e w6 ⟨rfl, v6, l, o⟩
         have L6 : Hid (Lw B g b5 v6 w6) := E5.out ▸ l
         have X6 := Lib.hid (L5.out.box X5.out o (by decide) (by decide))
         have S6 := Lib.hid (L5.out.box S5.out o (by decide) (by decide))
         have yc5 := both2 S6.out
         clear l o tokm5))
  all_goals go_wp2_with fail
  rw [rounds_succ]
  have La7 := Lib.hid (L6.out.keep (((Only.refl none_ w6).alloc (.cells #[.int .i64 (a1 : Int), .int .i64 (a2 : Int)] 80)).drew))
  have Xa7 := Lib.hid (X6.out.only (((Only.refl none_ w6).alloc (.cells #[.int .i64 (a1 : Int), .int .i64 (a2 : Int)] 80)).drew) (fun h => h))
  have Sa7 := Lib.hid (Blk.new w6 80 #[.int .i64 (a1 : Int), .int .i64 (a2 : Int)]).drew
  have ya7 := both2 Sa7.out
  have tokn7 : True := trivial
  go_wp2_with fail
  go_region_held3 (fun w' => w'.cell? ⟨w6.heap.size, 0, none⟩ = some (.int .i64 (a1 : Int)) ∧ w'.cell? ⟨w6.heap.size, 1, none⟩ = some (.int .i64 (a2 : Int)))
    (first | with_reducible exact ya7 | with_reducible exact yb7 | with_reducible exact yc7)
    (first
      | (go_at_call 239; have _t := tokn7; refine (lw_num La7.out a1 4 (by omega) A3.out HN.out.2.2.2.2.2.1).mono ?_; rintro e w7 ⟨rfl, v7, l, o⟩
         have L7 : Hid (Lw B g b6 v7 w7) := E6.out ▸ l
         have X7 := Lib.hid (La7.out.box Xa7.out o (by decide) (by decide))
         have S7 := Lib.hid (La7.out.box Sa7.out o (by decide) (by decide))
         have yb7 := both2 S7.out
         clear l o tokn7
         have tokm7 : True := trivial)
      | (go_at_call 239; have _t := tokm7; refine (lw_num L7.out a2 1 (by omega) A4.out HN.out.2.2.2.2.2.2.1).mono ?_; rintro e w8 ⟨rfl, v8, l, o⟩
         have L8 : Hid (Lw B g b7 v8 w8) := E7.out ▸ l
         have X8 := Lib.hid (L7.out.box X7.out o (by decide) (by decide))
         have S8 := Lib.hid (L7.out.box S7.out o (by decide) (by decide))
         have yc7 := both2 S8.out
         clear l o tokm7))
  all_goals go_wp2_with fail
  rw [rounds_succ]
  have L9 := Lib.hid (L8.out.keep ((Only.refl none_ w8).drew))
  have X9 := Lib.hid (X8.out.only ((Only.refl none_ w8).drew) (fun h => h))
  have y9 := last2 X9.out
  have tokA : True := trivial
  go_wp2_with fail
  go_region_held3 (fun w' => w'.cell? ⟨w.heap.size, 7, none⟩ = some (.int .i64 (p : Int)) ∧ w'.cell? ⟨w.heap.size, 8, none⟩ = some (.int .i64 (q : Int)))
    (first | with_reducible exact y9 | with_reducible exact y10 | with_reducible exact y11)
    (first
      | (go_at_call 239; have _t := tokA; refine (lw_num L9.out p 2 (by omega) A5.out HN.out.2.2.2.2.2.2.2.1).mono ?_; rintro e w10 ⟨rfl, v10, l, o⟩
         have L10 : Hid (Lw B g b8 v10 w10) := E8.out ▸ l
         have X10 := Lib.hid (L9.out.box X9.out o (by decide) (by decide))
         have y10 := last2 X10.out
         clear l o tokA
         have tokB : True := trivial)
      | (go_at_call 239; have _t := tokB; refine (lw_num L10.out q 4 (by omega) A6.out HN.out.2.2.2.2.2.2.2.2).mono ?_; rintro e w11 ⟨rfl, v11, l, o⟩
         have L11 : Hid (Lw B g b9 v11 w11) := E9.out ▸ l
         have X11 := Lib.hid (L10.out.box X10.out o (by decide) (by decide))
         have y11 := last2 X11.out
         clear l o tokB))
  all_goals go_wp2_with fail
  go_end0
  rw [EB.out]
  exact ⟨rfl, v11, L11.out⟩
end Go.Proofs.YtoohpcomnhfgpaaGreat
end
