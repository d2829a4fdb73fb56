/- Texts of mine, one behind the other: OctA, OctW, EnWo, Pcs, Res, Rws, TbDe. No statement of the seat is proved here. -/
import Derived.Test.YtniacolkjdmflaaChecked
import Derived.Test.YtniacolkjdmflaaPg4
import Derived.Deep.RegionLaw
import Derived.Deep.LoopGhost
import Derived.Test.YtniacolkjdmflaaPg3
import Derived.Test.YtniacolkjdmflaaPg1
import Derived.Laws.Tables
import Derived.Test.YtniacolkjdmflaaPg5
import Derived.Test.YtniacolkjdmflaaPg2
section
namespace Go.Proofs.Ytniacolkjdmflaa
open Go.RowKit

/-- The first error: later ones don't take its place. -/
def first_ (c e : Int) : Int := if c = 0 then e else c

theorem fault_err (g : Nat) (t : TypeId) (cs : Array Value) (c : Int) (w : World) (h : Blk w g t cs) (h0 : cs[0]? = some (.int .i64 c)) :
    Calls Try.prog 127 #[.pointer (some ⟨g, 0, none⟩)] w fun e w' => e = .returned (.int .i64 c) ∧ w = w' := by
  have hc := h.cell_ h0
  clear h h0
  go_enter Try.func127, Try.ntmps127
  go_wp2
  go_ret
  exact ⟨rfl, rfl⟩

theorem fault_fail (g : Nat) (t : TypeId) (cs : Array Value) (c k : Int) (w : World) (h : Blk w g t cs) (h0 : cs[0]? = some (.int .i64 c)) :
    Calls Try.prog 136 #[.pointer (some ⟨g, 0, none⟩), .int .i64 k] w fun e w' => e = .returned (.tuple #[]) ∧ Blk w' g t (cs.setIfInBounds 0 (.int .i64 (first_ c k))) ∧ Only (one g) w w' := by
  have hc := h.cell_ h0
  have hf := h.frozen 0
  have hB := Lib.hid h
  have hs : Hid (cs.setIfInBounds 0 (.int .i64 c) = cs) := by
    apply Array.ext_getElem?
    intro i
    rw [Array.getElem?_setIfInBounds]
    split
    · next hi => subst hi; split
                 · exact h0.symm
                 · next hi => rw [Array.getElem?_eq_none (by omega)]
    · rfl
  clear h h0
  by_cases h1 : c = 0
  · have h2 : (c == 0) = true := by simp [h1]
    have h3 : Hid (first_ c k = k) := by simp [Hid, first_, h1]
    clear h1
    go_enter Try.func136, Try.ntmps136
    go_wp2
    go_end0
    refine ⟨rfl, ?_, (Only.refl (one g) w).setCell (.inl (show one g g from rfl)) _⟩
    rw [h3.out]
    exact hB.out.set_ 0 _
  · have h2 : (c == 0) = false := by simp [h1]
    have h3 : Hid (first_ c k = c) := by simp [Hid, first_, h1]
    clear h1
    go_enter Try.func136, Try.ntmps136
    go_wp2
    go_end0
    refine ⟨rfl, ?_, Only.refl _ _⟩
    rw [h3.out, hs.out]
    exact hB.out

def isW (n : Int) : Bool := decide (1 ≤ n ∧ n ≤ 8)
theorem isWidth_any (n : Int) (w : World) :
    Calls Try.prog 138 #[.int .i64 n] w fun e w' => e = .returned (.bool (isW n)) ∧ w = w' := by
  by_cases h1 : 1 ≤ n
  · by_cases h2 : n ≤ 8
    · have H : Hid (isW n = true) := by simp [Hid, isW, h1, h2]
      go_enter Try.func138, Try.ntmps138
      go_wp2
      go_ret
      rw [H.out]
      exact ⟨rfl, rfl⟩
    · have H : Hid (isW n = false) := by simp [Hid, isW, h2]
      go_enter Try.func138, Try.ntmps138
      go_wp2
      go_ret
      rw [H.out]
      exact ⟨rfl, rfl⟩
  · have H : Hid (isW n = false) := by simp [Hid, isW, h1]
    go_enter Try.func138, Try.ntmps138
    go_wp2
    go_ret
    rw [H.out]
    exact ⟨rfl, rfl⟩
end Go.Proofs.Ytniacolkjdmflaa
end
section
namespace Go.Proofs.Ytniacolkjdmflaa
open Go.RowKit

/-- A writer at block g: its first error, the value of its bytes, the bytes. -/
def Wr (w : World) (g base : Nat) (code : Int) (v : Value) (bs : List UInt8) : Prop :=
  Blk w g 164 #[.int .i64 code, v] ∧ w.ownsRow base 5 1 v bs.length (byts bs)
theorem Wr.c0 {w : World} {g base : Nat} {code : Int} {v : Value} {bs : List UInt8} (h : Wr w g base code v bs) : w.cell? ⟨g, 0, none⟩ = some (.int .i64 code) := h.1.cell_ (i := 0) rfl
theorem Wr.c1 {w : World} {g base : Nat} {code : Int} {v : Value} {bs : List UInt8} (h : Wr w g base code v bs) : w.cell? ⟨g, 1, none⟩ = some v := h.1.cell_ (i := 1) rfl
/-- Its bytes were appended to by the law's append. -/
theorem Wr.app {w w' : World} {g base : Nat} {code : Int} {v : Value} {bs : List UInt8} (h : Wr w g base code v bs) (hg : w.grownBy w' v.ownBlock) : Blk w' g 164 #[.int .i64 code, v] :=
  h.1.grown' hg (own_blk_ne h.2 h.1 (by decide))
/-- What a call of it may change among what was there. -/
def foot (g : Nat) (v : Value) : Nat → Prop := fun k => k = g ∨ v.ownBlock = some k


/-- A slice of slices of bytes that is only read. -/
def Parts (w : World) (S : Nat → Prop) (pv : Value) (pss : List (List UInt8)) : Prop :=
  ∃ b off c, pv = .slice (some ⟨b, off, none⟩) pss.length c ∧ b < w.heap.size ∧ S b ∧ ∀ j (hj : j < pss.length), ∃ x, w.cell? ⟨b, off + j, none⟩ = some x ∧ Byt w S x pss[j]

theorem writer_err (g base : Nat) (code : Int) (v : Value) (bs : List UInt8) (w : World) (h : Wr w g base code v bs) :
    Calls Try.prog 100 #[.pointer (some ⟨g, 0, none⟩)] w fun e w' => e = .returned (.int .i64 code) ∧ w = w' := by
  have H := Lib.hid h.1
  clear h
  go_enter Try.func100, Try.ntmps100
  go_wp2_with (go_at_call 127; refine (fault_err _ _ _ _ _ H.out rfl).mono ?_; rintro e w' ⟨rfl, rfl⟩)
  go_ret
  exact ⟨rfl, rfl⟩

theorem flat_snoc (pss : List (List UInt8)) (k : Nat) (hk : k < pss.length) : (pss.take (k + 1)).flatten = (pss.take k).flatten ++ pss[k] := by
  rw [List.take_succ_eq_append_getElem hk, List.flatten_append]; rw [List.flatten_singleton]
theorem flat_le (pss : List (List UInt8)) (k : Nat) : (pss.take k).flatten.length ≤ pss.flatten.length := by
  conv => rhs; rw [← List.take_append_drop k pss]
  rw [List.flatten_append, List.length_append]; omega

set_option maxHeartbeats 400000 in
theorem writer_raw_ok (g base : Nat) (v pv : Value) (bs : List UInt8) (pss : List (List UInt8)) (S : Nat → Prop) (w : World) (h : Wr w g base 0 v bs) (hp : Parts w S pv pss)
    (hS : ∀ b, S b → ¬ foot g v b) (hb : bs.length + pss.flatten.length ≤ 140737488355328) (hbase : base ≤ w.heap.size) (hpl : pss.length ≤ 1000) :
    Calls Try.prog 137 #[.pointer (some ⟨g, 0, none⟩), pv] w fun e w' => e = .returned (.pointer (some ⟨g, 0, none⟩)) ∧
      ∃ v', Wr w' g base 0 v' (bs ++ pss.flatten) ∧ Only (foot g v) w w' ∧ Moved w v v' := by
  obtain ⟨i0, hi0, hz0, hz1, hz2⟩ := info_parts u8_info
  obtain ⟨b, off, c, rfl, hlt, hSb, hcs⟩ := hp
  have H := Lib.hid h
  have HS := Lib.hid hS
  have HC := Lib.hid hcs
  clear h hS hcs
  go_enter Try.func137, Try.ntmps137
  go_wp2_with (go_at_call 100; refine (writer_err _ _ _ _ _ _ H.out).mono ?_; rintro e w' ⟨rfl, rfl⟩)
  go_loopw [13] (fun i wr => ∃ k : Nat, k ≤ pss.length ∧ i = .int .i64 k ∧ ∃ v', Wr wr g base 0 v' (bs ++ (pss.take k).flatten) ∧ Only (foot g v) w wr ∧ Moved w v v') (fun i _ => pss.length - (intOf i).toNat)
  case atStart => exact ⟨0, Nat.zero_le _, rfl, v, by simpa using H.out, Only.refl _ _, Moved.refl _ _⟩
  case round =>
    obtain ⟨k, hk, rfl, v1, h1, ho, hm⟩ := hrel
    by_cases hlt2 : k < pss.length
    · obtain ⟨x, hcx, hbx⟩ := HC.out k hlt2
      have hx1 : wr.cell? ⟨b, off + k, none⟩ = some x := (ho.cell hlt (HS.out b hSb)).trans hcx
      have hpc := h1.c1
      have hpf := h1.1.frozen 1
      have hbx1 : Byt wr S x pss[k] := hbx.only ho HS.out
      have H1 := Lib.hid h1
      have HO := Lib.hid ho
      have HB := Lib.hid hbx1
      have hfl : Hid ((pss.take (k + 1)).flatten = (pss.take k).flatten ++ pss[k]) := flat_snoc pss k hlt2
      have hle : (bs ++ (pss.take k).flatten).length + pss[k].length ≤ 140737488355328 := by
        have := flat_le pss (k + 1)
        rw [hfl.out] at this
        simp only [List.length_append] at this ⊢
        omega
      clear h1 ho hbx1 hcx hbx
      go_wp2_with (first
        | (at_builtin; refine wpList_append_byt _ rfl (.tmp 21) (.tmp 22) _ rfl base 5 i0 (.int .u8 0) Try.underlying135 hi0 hz0 hz1 hz2 rfl v1 _ rfl H1.out.2 S x pss[k] rfl HB.out hle (Nat.le_trans hbase HO.out.size) ?_; intro A2 n2 c2 w2 hown2 hgrow2 hmv2; have hpc2 : w2.cell? ⟨g, 1, none⟩ = some v1 := (H1.out.app hgrow2).cell_ rfl; have hpf2 := (H1.out.app hgrow2).frozen 1))
      have hW : Wr (w2.setCell ⟨g, 1, none⟩ (.slice A2 n2 c2)) g base 0 (.slice A2 n2 c2) (bs ++ (pss.take (k + 1)).flatten) := by
        refine ⟨(H1.out.app hgrow2).set_ 1 _, ?_⟩
        rw [hfl.out, ← List.append_assoc]
        exact owns_only hown2 ((Only.refl (one g) w2).setCell (.inl (show one g g from rfl)) _) (fun b hb hg => own_blk_ne hown2 (H1.out.app hgrow2) (by decide) (by rw [hb]; exact congrArg some hg))
      have hO : Only (foot g v) w (w2.setCell ⟨g, 1, none⟩ (.slice A2 n2 c2)) := (HO.out.grown hgrow2 (fun b hb => (hm b hb).imp .inr id)).setCell (.inl (.inl rfl)) _
      have hM : Moved w v (.slice A2 n2 c2) := hm.trans hmv2 HO.out.size
      go_roundw
      case rel => exact ⟨k + 1, by omega, by go_num, _, hW, hO, hM⟩
      case measure => simp [intOf]; omega
    · have hkk : Hid (pss.take k = pss) := List.take_of_length_le (by omega)
      go_wp2
      go_ret
      rw [hkk.out] at h1
      exact ⟨rfl, v1, h1, ho, hm⟩
/-- The bytes of a number, the lowest first. -/
def leByte (n k : Nat) : UInt8 := UInt8.ofNat (n / 2 ^ (8 * k))
def leBytes (n width : Nat) : List UInt8 := (List.range width).map (leByte n)
def leArr (n k : Nat) : Array Value := ((List.range 8).map fun j => if j < k then byt (leByte n j) else .int .u8 0).toArray
theorem byt_leByte (n k : Nat) : byt (leByte n k) = .int .u8 ((n : Int) / 2 ^ (8 * k) % 256) := by
  unfold byt leByte
  have : (UInt8.ofNat (n / 2 ^ (8 * k))).toNat = n / 2 ^ (8 * k) % 256 := by simp
  rw [this, Int.natCast_emod, Int.natCast_ediv, Int.natCast_pow]
  rfl
theorem leArr_set (n k : Nat) (hk : k < 8) : (leArr n k).setIfInBounds k (byt (leByte n k)) = leArr n (k + 1) := by
  apply Array.ext_getElem?
  intro i
  rw [Array.getElem?_setIfInBounds]
  simp only [leArr, List.size_toArray, List.length_map, List.length_range, List.getElem?_toArray, List.getElem?_map]
  by_cases hi : i < 8
  · rw [List.getElem?_range hi]
    by_cases hik : k = i
    · subst hik; simp [hk]
    · simp only [hik, if_false, Option.map_some]
      congr 1
      by_cases h1 : i < k
      · rw [if_pos h1, if_pos (by omega)]
      · rw [if_neg h1, if_neg (by omega)]
  · rw [if_neg (by omega)]
    simp [hi]
theorem leArr_size (n k : Nat) : (leArr n k).size = 8 := by simp [leArr]
theorem leArr_at (n k j : Nat) (hj : j < 8) : (leArr n k)[j]? = some (if j < k then byt (leByte n j) else .int .u8 0) := by
  simp [leArr, hj]
theorem leArr_one (n k : Nat) : (leArr n k).all (·.oneCell') = true := by
  simp only [leArr, List.all_toArray, List.all_map, List.all_eq_true, Function.comp]
  intro j _
  split <;> rfl
theorem leArr_cell (n k j : Nat) (hj : j < 8) : ∃ z : Int, (leArr n k)[j]? = some (.int .u8 z) := by
  rw [leArr_at n k j hj]
  split
  · exact ⟨_, rfl⟩
  · exact ⟨_, rfl⟩

set_option maxHeartbeats 400000 in
theorem lowest_any (n : Nat) (_hn : n < 18446744073709551616) (w : World) :
    Calls Try.prog 139 #[.int .u64 (n : Int)] w fun e w' => e = .returned (.agg (leArr n 8)) ∧ Only none_ w w' := by
  have h0 : Hid (#[Value.int .u8 0, .int .u8 0, .int .u8 0, .int .u8 0, .int .u8 0, .int .u8 0, .int .u8 0, .int .u8 0] = leArr n 0) := by
    simp [Hid, leArr, List.range, List.range.loop]
  go_enter Try.func139, Try.ntmps139
  go_wp2
  go_loopw [5] (fun i wr => ∃ k : Nat, k ≤ 8 ∧ i = .int .i64 k ∧ Blk wr (w.heap.size + 1) 203 (leArr n k) ∧ Blk wr w.heap.size 203 (leArr n 0) ∧ Only none_ w wr) (fun i _ => 8 - (intOf i).toNat)
  case atStart =>
    refine ⟨0, by omega, rfl, ?_, ?_, ((Only.refl _ _).alloc _).alloc _⟩
    · rw [← h0.out]
      have := Blk.new (w.alloc (Obj.cells #[Value.int .u8 0, .int .u8 0, .int .u8 0, .int .u8 0, .int .u8 0, .int .u8 0, .int .u8 0, .int .u8 0] 203)) 203 #[Value.int .u8 0, .int .u8 0, .int .u8 0, .int .u8 0, .int .u8 0, .int .u8 0, .int .u8 0, .int .u8 0]
      simpa using this
    · rw [← h0.out]; exact (Blk.new w _ _).alloc _
  case round =>
    obtain ⟨k, hk, rfl, hb, hb0, ho⟩ := hrel
    by_cases hlt : k < 8
    · obtain ⟨z, hz⟩ := leArr_cell n k k hlt
      have hc := hb.cell_ hz
      have hf := hb.frozen k
      have HB := Lib.hid hb
      have HB0 := Lib.hid hb0
      clear hb hz hb0
      go_wp2
      go_roundw
      case rel =>
        refine ⟨k + 1, by omega, by go_num, ?_, HB0.out.far (by simp) _, ho.setCell (.inr (by simp)) _⟩
        have := HB.out.set_ k (byt (leByte n k))
        rw [leArr_set n k hlt, byt_leByte] at this
        exact this
      case measure => simp [intOf]; omega
    · have hk8 : k = 8 := by omega
      subst hk8
      have hs := Lib.hid (leArr_size n 8)
      have HB := Lib.hid hb
      have HB0 := Lib.hid hb0
      have HO := Lib.hid ho
      clear hb hb0 ho
      go_wp2_with (first
        | (refine wpList_load_row rfl 203 _ rfl (w.heap.size + 1) rfl 203 (leArr n 8) (0, 0) _ HB.out Try.underlying203 rfl (by rw [hs.out]; kernel_rfl) ?_)
        | (refine wpList_store_row rfl 203 _ _ rfl w.heap.size (leArr n 8) rfl rfl 203 (leArr n 0) HB0.out (by rw [hs.out]; kernel_rfl) (by rw [hs.out, leArr_size]) (leArr_one n 8) ?_))
      refine bodyPost_ret (results_cell_row rfl _ _ w.heap.size 203 (leArr n 8) (0, 0) _ rfl (HB0.out.setRow (leArr n 8)) Try.underlying203 rfl (by rw [hs.out]; kernel_rfl)) rfl ⟨rfl, HO.out.setRow (.inr (by simp)) _⟩
end Go.Proofs.Ytniacolkjdmflaa
end
section
namespace Go.Proofs.Ytniacolkjdmflaa
open Go.RowKit
set_option maxRecDepth 100000
set_option linter.all false

theorem wpl_load {P : Program} {ops : Array Oper} {rest : List Oper} {o : Oper} {a : Act} {w : World} {Q : Exit → Act → World → Prop} (hgd : o.guard = none) (ty : TypeId) (x : Operand) (ho : o.op = .load ty x)
    (g : Nat) (hx : a.eval x = .pointer (some ⟨g, 0, none⟩)) (t : TypeId) (cs : Array Value) (d : TypeDesc) (hg : Blk w g t cs)
    (hu : P.underlying ty = some d) (hd : (match d with | .struct _ | .array _ _ => true | _ => false) = true) (hi : (P.info? ty).map (·.size) = some cs.size)
    (h : wpList P ops Q rest (a.put o.dst (.agg cs)) w) : wpList P ops Q (o :: rest) a w :=
  wpList_plain hgd fun _ hK => wp_load_row ty x ho g hx t cs (0, 0) d hg hu hd hi (hK _ _ h)
theorem en_cells_one (e : En) : (#[.string e.k, .string e.v, .bool e.d, .int .i64 e.s.c, .int .i64 e.s.s, .int .i64 e.a.c, .int .i64 e.a.s, .int .i64 e.p, .int .i64 e.g] : Array Value).all (·.oneCell') = true := by simp [Value.oneCell']
end Go.Proofs.Ytniacolkjdmflaa
end
section
namespace Go.Proofs.Ytniacolkjdmflaa
open Go.RowKit
set_option maxRecDepth 100000
set_option linter.all false

theorem run_storeVar_part {P : Program} (w : World) (g o : Nat) (t ty : TypeId) (cs : List Value) (cells : Array Value) (hg : Blk w g t cs.toArray) (hi : (P.info? ty).map (·.size) = some cells.size) (hl : o + cells.size ≤ cs.length) (h1 : cells.all (·.oneCell') = true) :
    (storeVar ty ⟨g, o, none⟩ (.agg cells)).run P w = .ok () (w.setRow g (putAt cs o cells.toList).toArray) := by
  have := run_storeCells_at P g o t cells.toList 0 cs.toArray w hg (by simpa using hl) (fun v hv => (Array.all_eq_true_iff_forall_mem.1 h1) v (by simpa using hv))
  cases hq : P.info? ty with
  | none => simp [hq] at hi
  | some i =>
    have hs : cells.size = i.size := by simp [hq] at hi; omega
    simpa [storeVar, sizeOf, typeInfo, hq, Value.cells, hs, putAt] using this
theorem wpl_store_part {P : Program} {ops : Array Oper} {rest : List Oper} {o : Oper} {a : Act} {w : World} {Q : Exit → Act → World → Prop} (hgd : o.guard = none) (ty : TypeId) (x y : Operand) (ho : o.op = .store ty x y)
    (g off : Nat) (cells : Array Value) (hx : a.eval x = .pointer (some ⟨g, off, none⟩)) (hy : a.eval y = .agg cells)
    (t : TypeId) (cs : List Value) (hg : Blk w g t cs.toArray) (hi : (P.info? ty).map (·.size) = some cells.size) (hl : off + cells.size ≤ cs.length) (h1 : cells.all (·.oneCell') = true)
    (h : wpList P ops Q rest (a.put o.dst undef) (w.setRow g (putAt cs off cells.toList).toArray)) : wpList P ops Q (o :: rest) a w := by
  refine wpList_plain hgd fun K hK => ?_
  unfold Oper.wp execOp
  simp only [ho, hx, hy, Instr.storeAt, Instr.sureAddr, Sem.run_bind, Sem.run_pure, Result.andThen_ok, run_storeVar_part w g off t ty cs cells hg hi hl h1]
  exact hK _ _ h
end Go.Proofs.Ytniacolkjdmflaa
end
section
namespace Go.Proofs.Ytniacolkjdmflaa
open Go.RowKit
set_option maxRecDepth 100000

/-- Two results, the first of them a struct that lies in a block. -/
theorem results_cell_tmp {P : Program} {fn : Func} {p q : Tmp} {ty : TypeId} (h : fn.results = #[.cell p ty, .tmp q]) (tmps : Array Value) (w : World) (g : Nat) (t : TypeId) (cs : Array Value) (d : TypeDesc)
    (hp : tmps.getD p undef = .pointer (some ⟨g, 0, none⟩)) (hg : Blk w g t cs)
    (hu : P.underlying ty = some d) (hd : (match d with | .struct _ | .array _ _ => true | _ => false) = true) (hi : (P.info? ty).map (·.size) = some cs.size) (v : Value) (hq : tmps.getD q undef = v) :
    (results fn tmps).run P w = .ok (.tuple #[.agg cs, v]) w := by
  have hp' : tmps[p]?.getD undef = .pointer (some ⟨g, 0, none⟩) := by simpa using hp
  have hq' : tmps[q]?.getD undef = v := by simpa using hq
  simp [results, h, hp', hq', asAddr, run_loadVar_row w g t ty cs (0, 0) d hg hu hd hi]
end Go.Proofs.Ytniacolkjdmflaa
end
section
namespace Go.Proofs.Ytniacolkjdmflaa
open Go.RowKit

/-- A slice of slices of bytes that is only read, the empty one too. -/
def Rows_ (w : World) (S : Nat → Prop) (pv : Value) (pss : List (List UInt8)) : Prop :=
  ∃ A c, pv = .slice A pss.length c ∧ pss.length ≤ maxLen ∧ (0 < pss.length → ∃ b off, A = some ⟨b, off, none⟩ ∧ S b ∧ b < w.heap.size ∧ ∀ j (hj : j < pss.length), ∃ x, w.cell? ⟨b, off + j, none⟩ = some x ∧ Byt w S x pss[j])
theorem Rows_.nil (w : World) (S : Nat → Prop) : Rows_ w S (.slice none 0 0) [] := ⟨none, 0, rfl, by simp [maxLen], by simp⟩
theorem Rows_.only {w w' : World} {S T : Nat → Prop} {pv : Value} {pss : List (List UInt8)} (h : Rows_ w S pv pss) (ho : Only T w w') (hn : ∀ b, S b → ¬ T b) : Rows_ w' S pv pss := by
  obtain ⟨A, c, rfl, h1, h2⟩ := h
  refine ⟨A, c, rfl, h1, fun hp => ?_⟩
  obtain ⟨b, off, rfl, hS, hb, hc⟩ := h2 hp
  refine ⟨b, off, rfl, hS, Nat.lt_of_lt_of_le hb ho.size, fun j hj => ?_⟩
  obtain ⟨x, hx, hy⟩ := hc j hj
  exact ⟨x, (ho.cell (p := ⟨b, off + j, none⟩) hb (hn _ hS)).trans hx, hy.only ho hn⟩
theorem rows_two {w : World} {S : Nat → Prop} {x y : Value} {bs cs : List UInt8} {t : TypeId} (h : Byt w S x bs) (h' : Byt w S y cs) (hS : S w.heap.size) (g : Nat) (hg : g = w.heap.size) :
    Rows_ (w.alloc (.cells #[x, y] t)) S (.slice (some ⟨g, 0, none⟩) 2 2) [bs, cs] := by
  subst hg
  refine ⟨_, 2, rfl, by simp [maxLen], fun _ => ⟨_, _, rfl, hS, by simp, fun j hj => ?_⟩⟩
  have hj0 : j = 0 ∨ j = 1 := by simp at hj; omega
  rcases hj0 with rfl | rfl
  · exact ⟨x, by simp, h.alloc _⟩
  · exact ⟨y, by simp, h'.alloc _⟩
theorem rows_one {w : World} {S : Nat → Prop} {x : Value} {bs : List UInt8} {t : TypeId} (h : Byt w S x bs) (hS : S w.heap.size) (g : Nat) (hg : g = w.heap.size) :
    Rows_ (w.alloc (.cells #[x] t)) S (.slice (some ⟨g, 0, none⟩) 1 1) [bs] := by
  subst hg
  refine ⟨_, 1, rfl, by simp [maxLen], fun _ => ⟨_, _, rfl, hS, by simp, fun j hj => ?_⟩⟩
  have hj0 : j = 0 := by simp at hj; omega
  subst hj0
  exact ⟨x, by simp, h.alloc _⟩
theorem Rows_.mono {w : World} {S T : Nat → Prop} {pv : Value} {pss : List (List UInt8)} (h : Rows_ w S pv pss) (hk : ∀ b, S b → b < w.heap.size → T b) : Rows_ w T pv pss := by
  obtain ⟨A, c, rfl, h1, h2⟩ := h
  refine ⟨A, c, rfl, h1, fun hp => ?_⟩
  obtain ⟨b, off, rfl, hS, hb, hc⟩ := h2 hp
  refine ⟨b, off, rfl, hk _ hS hb, hb, fun j hj => ?_⟩
  obtain ⟨x, hx, hy⟩ := hc j hj
  exact ⟨x, hx, hy.mono (fun b hb hS => hk b hS hb)⟩
theorem rows_at {w : World} {S : Nat → Prop} {A : Option Addr} {L c j : Nat} {pss : List (List UInt8)} (h : Rows_ w S (.slice A L c) pss) (hj : j < L) :
    ∃ (b off : Nat) (A1 : Option Addr) (L1 c1 : Nat) (hp : j < pss.length), A = some ⟨b, off, none⟩ ∧ w.cell? ⟨b, off + j, none⟩ = some (.slice A1 L1 c1) ∧ L1 = pss[j].length ∧ Byt w S (.slice A1 L1 c1) pss[j] := by
  obtain ⟨A0, c0, e0, _, h4⟩ := h
  injection e0 with e1 e2 e3
  have hp : j < pss.length := by omega
  obtain ⟨b, off, rfl, _, _, hc⟩ := h4 (by omega)
  obtain ⟨x, hcx, hbx⟩ := hc j hp
  obtain ⟨A1, c1, hx1, _⟩ := id hbx
  subst hx1
  exact ⟨b, off, A1, _, c1, hp, e1, hcx, rfl, hbx⟩
theorem own_shape {w : World} {base size n : Nat} {e : TypeId} {v : Value} {xs : List Value} (h : w.ownsRow base e size v n xs) : ∃ A n c, v = .slice A n c := by
  rcases h.2 with ⟨rfl, _⟩ | ⟨g, cap, cur, rfl, _⟩
  · exact ⟨_, _, _, rfl⟩
  · exact ⟨_, _, _, rfl⟩
theorem owns_nil (w : World) (base : Nat) : w.ownsRow base 5 1 (.slice none 0 0) ([] : List UInt8).length (byts []) := ⟨by simp, .inl ⟨rfl, rfl⟩⟩
theorem flatten_short (pss : List (List UInt8)) (h : ∀ bs ∈ pss, bs.length ≤ 30) : pss.flatten.length ≤ 30 * pss.length := by
  induction pss with
  | nil => simp
  | cons a l ih =>
    have h1 := h a (by simp)
    have h2 := ih (fun b hb => h b (by simp [hb]))
    simp only [List.flatten_cons, List.length_append, List.length_cons]
    omega

end Go.Proofs.Ytniacolkjdmflaa
end
section
namespace Go.Proofs.Ytniacolkjdmflaa.Se
open Go.RowKit
set_option maxRecDepth 100000
set_option linter.all false

/-- A table in block g, behind world B, v the value of its pairs; all that was there in B is as it was. -/
structure Tb (B : World) (g : Nat) (room : Int) (l : List (Pr En)) (v : Value) (w : World) : Prop where
  bk : Blk w g 148 #[.int .i64 room, v]
  ow : w.ownsRow B.heap.size 145 10 v l.length (l.flatMap prI)
  ho : Only none_ B w
  ge : B.heap.size ≤ g
  rs : Ris l
  lr : (l.length : Int) ≤ room
  rm : room ≤ 4096
section
variable {B w w' : World} {g h : Nat} {room : Int} {l l' : List (Pr En)} {v v' : Value} {t : TypeId} {cs : Array Value}
theorem Tb.ml (s : Tb B g room l v w) : l.length ≤ 4096 := by have h1 := s.lr; have h2 := s.rm; omega
theorem Tb.foot_ge (s : Tb B g room l v w) {k : Nat} (hf : foot g v k) : B.heap.size ≤ k ∧ k < w.heap.size := by
  rcases hf with rfl | hf
  · exact ⟨s.ge, s.bk.lt⟩
  · exact s.ow.lt k hf
theorem Tb.keep (s : Tb B g room l v w) (o : Only none_ w w') : Tb B g room l v w' :=
  ⟨s.bk.only o (fun h => h), owns_only s.ow o (fun _ _ h => h), s.ho.trans o, s.ge, s.rs, s.lr, s.rm⟩
theorem Tb.apart {S : Nat → Prop} (s : Tb B g room l v w) (o : Only S w w') (hn : ∀ k, foot g v k → ¬ S k) (hS : ∀ k, S k → B.heap.size ≤ k) : Tb B g room l v w' :=
  ⟨s.bk.only o (hn g (.inl rfl)), owns_only s.ow o (fun k hk => hn k (.inr hk)), s.ho.trans' o (fun k hk hs => by have := hS k hs; omega), s.ge, s.rs, s.lr, s.rm⟩
theorem Tb.shape (s : Tb B g room l v w) : ∃ A c, v = .slice A l.length c := by
  rcases s.ow.2 with ⟨rfl, h0⟩ | ⟨_, _, _, rfl, _⟩
  · exact ⟨none, 0, by rw [h0]⟩
  · exact ⟨_, _, rfl⟩
theorem Tb.cel (s : Tb B g room l v w) : Cel w (ownb v) v l.length 10 (l.flatMap prI) := Cel.of_own s.ow
theorem Tb.drewN (s : Tb B g room l v w) (n : Nat) : Tb B g room l v (w.drewN n) := s.keep ((Only.refl none_ w).drewN n)
theorem Tb.drew (s : Tb B g room l v w) : Tb B g room l v w.drew := s.keep ((Only.refl none_ w).drew)
/-- The same table, told from a later beginning. -/
theorem Tb.base {B' : World} (s : Tb B g room l v w) (h : Only none_ B' w) (hs : B'.heap.size ≤ B.heap.size) : Tb B' g room l v w :=
  ⟨s.bk, owns_base s.ow hs, h, Nat.le_trans hs s.ge, s.rs, s.lr, s.rm⟩
end

set_option maxHeartbeats 800000 in
theorem tb_len (B : World) (g : Nat) (room : Int) (l : List (Pr En)) (v : Value) (w : World) (h : Tb B g room l v w) :
    Calls Try.prog 58 #[.pointer (some ⟨g, 0, none⟩)] w fun e w' => e = .returned (.int .i64 l.length) ∧ w = w' := by
  obtain ⟨A, c, rfl⟩ := h.shape
  have c1 := h.bk.cell_ (i := 1) rfl
  generalize l.length = n at c1 ⊢
  clear h
  go_enter Try.func58, Try.ntmps58
  go_wp2
  go_ret
  exact ⟨rfl, rfl⟩
set_option maxHeartbeats 1600000 in
theorem tb_place (B : World) (g : Nat) (room : Int) (l : List (Pr En)) (v : Value) (x : ByteArray) (w : World) (h : Tb B g room l v w) :
    Calls Try.prog 84 #[.pointer (some ⟨g, 0, none⟩), .string x] w fun e w' => e = .returned (.tuple #[.int .i64 (rnk l x : Nat), .bool (has l x)]) ∧ Only none_ w w' := by
  obtain ⟨A, c, rfl⟩ := h.shape
  have c1 := h.bk.cell_ (i := 1) rfl
  have hb := bsI A c _ l x w h.cel h.rs h.ml
  generalize rnk l x = r at hb ⊢
  generalize has l x = hs at hb ⊢
  generalize l.length = n at c1 hb
  have HB := Lib.hid hb
  clear h hb
  go_enter Try.func84, Try.ntmps84
  go_wp2_with (first
    | (go_at_call 112; refine HB.out.mono ?_; rintro e w1 ⟨rfl, o1⟩))
  go_ret2
  exact ⟨rfl, o1⟩
/-- What a key has; the zero value, if it isn't there. -/
def getL (l : List (Pr En)) (x : ByteArray) : En := if has l x then (l[rnk l x]?.map (·.v)).getD enZero else enZero
set_option maxHeartbeats 6400000 in
theorem tb_get (B : World) (g : Nat) (room : Int) (l : List (Pr En)) (v : Value) (x : ByteArray) (w : World) (h : Tb B g room l v w) :
    Calls Try.prog 55 #[.pointer (some ⟨g, 0, none⟩), .string x] w fun e w' => e = .returned (.tuple #[.agg #[.string (getL l x).k, .string (getL l x).v, .bool (getL l x).d, .int .i64 (getL l x).s.c, .int .i64 (getL l x).s.s, .int .i64 (getL l x).a.c, .int .i64 (getL l x).a.s, .int .i64 (getL l x).p, .int .i64 (getL l x).g], .bool (has l x)]) ∧ Only none_ w w' := by
  have HB := Lib.hid (fun (w' : World) (o : Only none_ w w') => tb_place B g room l v x w' (h.keep o))
  have H := Lib.hid h
  have O0 := Lib.hid ((Only.refl none_ w).alloc (.cells #[.string ⟨#[]⟩, .string ⟨#[]⟩, .bool false, .int .i64 0, .int .i64 0, .int .i64 0, .int .i64 0, .int .i64 0, .int .i64 0] 51))
  have B0 := Lib.hid (Blk.new w 51 #[.string ⟨#[]⟩, .string ⟨#[]⟩, .bool false, .int .i64 0, .int .i64 0, .int .i64 0, .int .i64 0, .int .i64 0, .int .i64 0])
  by_cases hs : has l x = true
  · have hlt : rnk l x < l.length := by
      have := has_at h.rs x
      rw [hs] at this
      have := this.symm
      simp only [Bool.and_eq_true, decide_eq_true_eq] at this
      exact this.1
    have hgv : getL l x = l[rnk l x].v := by rw [getL, if_pos hs, List.getElem?_eq_getElem hlt]; rfl
    rw [hgv, hs]
    rw [hs] at HB
    obtain ⟨A, c, rfl⟩ := h.shape
    have HCL := Lib.hid (fun (w' : World) (o : Only none_ w w') => prI_at (h.keep o).cel (rnk l x) hlt rfl)
    obtain ⟨pp, hpp⟩ : ∃ pp, l[rnk l x] = pp := ⟨_, rfl⟩
    rw [hpp]
    simp only [hpp] at HCL
    clear hgv hpp
    generalize rnk l x = r at HCL hlt HB
    have HK := Lib.hid (fun (w' : World) (o : Only none_ w w') => (h.keep o).bk.cell_ (i := 1) rfl)
    generalize l.length = n at hlt HCL HK
    obtain ⟨kk, vv⟩ := pp
    dsimp only
    clear h hs H
    go_enter Try.func55, Try.ntmps55
    go_wp2_with (first
      | (go_at_call 84; refine (HB.out _ O0.out).mono ?_; rintro e w1 ⟨rfl, o1⟩
         have O1 := Lib.hid (O0.out.trans o1)
         have B1 : Hid (Blk w1 w.heap.size 51 #[.string ⟨#[]⟩, .string ⟨#[]⟩, .bool false, .int .i64 0, .int .i64 0, .int .i64 0, .int .i64 0, .int .i64 0, .int .i64 0]) := B0.out.only o1 (fun h => h)
         have k1 := HK.out _ O1.out
         obtain ⟨b, off, hA, _, _, hc⟩ := HCL.out _ O1.out
         subst hA
         have HC : Hid (∀ j u, (#[.string vv.k, .string vv.v, .bool vv.d, .int .i64 vv.s.c, .int .i64 vv.s.s, .int .i64 vv.a.c, .int .i64 vv.a.s, .int .i64 vv.p, .int .i64 vv.g] : Array Value).toList[j]? = some u → w1.cell? ⟨b, off + r * 10 + 1 + j, none⟩ = some u) := fun j u hu => by
           rw [Nat.add_assoc (off + r * 10)]
           exact hc (1 + j) u (by rw [Nat.add_comm]; exact hu)
         clear o1 hc)
      | (refine wpl_piece rfl 51 _ rfl b _ rfl #[.string vv.k, .string vv.v, .bool vv.d, .int .i64 vv.s.c, .int .i64 vv.s.s, .int .i64 vv.a.c, .int .i64 vv.a.s, .int .i64 vv.p, .int .i64 vv.g] _ HC.out Try.underlying51 rfl (by kernel_rfl) ?_)
      | (refine wpList_store_row rfl 51 _ _ rfl w.heap.size #[.string vv.k, .string vv.v, .bool vv.d, .int .i64 vv.s.c, .int .i64 vv.s.s, .int .i64 vv.a.c, .int .i64 vv.a.s, .int .i64 vv.p, .int .i64 vv.g] rfl rfl _ _ B1.out (by kernel_rfl) rfl (en_cells_one vv) ?_))
    refine bodyPost_ret (results_cell_tmp rfl _ _ w.heap.size 51 #[.string vv.k, .string vv.v, .bool vv.d, .int .i64 vv.s.c, .int .i64 vv.s.s, .int .i64 vv.a.c, .int .i64 vv.a.s, .int .i64 vv.p, .int .i64 vv.g] _ rfl (B1.out.setRow _) Try.underlying51 rfl (by kernel_rfl) (.bool true) rfl) rfl ?_
    exact ⟨rfl, O1.out.setRow (.inr (Nat.le_refl _)) _⟩
  · have hs' : has l x = false := by simpa using hs
    have hgv : getL l x = enZero := by rw [getL, if_neg hs]
    rw [hgv, hs']
    rw [hs'] at HB
    generalize rnk l x = r at HB
    clear h hs hgv hs'
    go_enter Try.func55, Try.ntmps55
    go_wp2_with (first
      | (go_at_call 84; refine (HB.out _ O0.out).mono ?_; rintro e w1 ⟨rfl, o1⟩
         have O1 := Lib.hid ((O0.out.trans o1).alloc (.cells #[.string ⟨#[]⟩, .string ⟨#[]⟩, .bool false, .int .i64 0, .int .i64 0, .int .i64 0, .int .i64 0, .int .i64 0, .int .i64 0] 51))
         have B1 : Hid (Blk (w1.alloc (.cells #[.string ⟨#[]⟩, .string ⟨#[]⟩, .bool false, .int .i64 0, .int .i64 0, .int .i64 0, .int .i64 0, .int .i64 0, .int .i64 0] 51)) w.heap.size 51 #[.string ⟨#[]⟩, .string ⟨#[]⟩, .bool false, .int .i64 0, .int .i64 0, .int .i64 0, .int .i64 0, .int .i64 0, .int .i64 0]) := (B0.out.only o1 (fun h => h)).alloc _
         have B2 := Lib.hid (Blk.new w1 51 #[.string ⟨#[]⟩, .string ⟨#[]⟩, .bool false, .int .i64 0, .int .i64 0, .int .i64 0, .int .i64 0, .int .i64 0, .int .i64 0])
         clear o1)
      | (refine wpl_load rfl 51 _ rfl w1.heap.size rfl _ #[.string ⟨#[]⟩, .string ⟨#[]⟩, .bool false, .int .i64 0, .int .i64 0, .int .i64 0, .int .i64 0, .int .i64 0, .int .i64 0] _ B2.out Try.underlying51 rfl (by kernel_rfl) ?_)
      | (refine wpList_store_row rfl 51 _ _ rfl w.heap.size #[.string ⟨#[]⟩, .string ⟨#[]⟩, .bool false, .int .i64 0, .int .i64 0, .int .i64 0, .int .i64 0, .int .i64 0, .int .i64 0] rfl rfl _ _ B1.out (by kernel_rfl) rfl (en_cells_one enZero) ?_))
    refine bodyPost_ret (results_cell_tmp rfl _ _ w.heap.size 51 #[.string ⟨#[]⟩, .string ⟨#[]⟩, .bool false, .int .i64 0, .int .i64 0, .int .i64 0, .int .i64 0, .int .i64 0, .int .i64 0] _ rfl (B1.out.setRow _) Try.underlying51 rfl (by kernel_rfl) (.bool false) rfl) rfl ?_
    exact ⟨rfl, O1.out.setRow (.inr (Nat.le_refl _)) _⟩

set_option maxHeartbeats 3200000 in
theorem tb_all (B : World) (g : Nat) (room : Int) (l : List (Pr En)) (v : Value) (w : World) (h : Tb B g room l v w) :
    Calls Try.prog 76 #[.pointer (some ⟨g, 0, none⟩)] w fun e w' => ∃ hP A n c, e = .returned (.func (.func 105) #[] #[.pointer (some ⟨hP, 0, none⟩)]) ∧ w.heap.size ≤ hP ∧ n = l.length ∧ Blk w' hP 146 #[.slice A n c] ∧ Cel w' (fun b => w.heap.size ≤ b) (.slice A n c) n 10 (l.flatMap prI) ∧ Only none_ w w' := by
  have hmf : ∀ (fn : Fn) (first cap : Array Value) (w : World), (Instr.makeFunc fn first cap).run Try.prog w = .ok (.func fn first cap) w := fun _ _ _ _ => rfl
  obtain ⟨A, c, rfl⟩ := h.shape
  have c1 := h.bk.cell_ (i := 1) rfl
  have hml := h.ml
  have H := Lib.hid h.cel
  obtain ⟨L, hL⟩ : ∃ L, l.length = L := ⟨_, rfl⟩
  rw [hL] at c1 hml H ⊢
  have CLO := Lib.hid (cloI A L c _ _ w H.out hml (prI_one l))
  have HL := Lib.hid hL
  clear h hL
  go_enter Try.func76, Try.ntmps76
  go_wp2_with (first
    | (go_at_call 104; refine CLO.out.mono ?_; rintro e w1 ⟨v1, rfl, own1, o1⟩
       obtain ⟨A1, n1, c1', rfl⟩ := own_shape own1
       have HN1 : Hid (n1 = L) := by obtain ⟨_, _, e, _⟩ := Cel.of_own own1; injection e
       have C1 : Hid (Cel (w1.alloc (.cells #[.slice A1 n1 c1'] 146)) (fun b => w.heap.size ≤ b) (.slice A1 n1 c1') n1 10 (l.flatMap prI)) := by
         have h2 := (Cel.of_own own1).mono (T := fun b => w.heap.size ≤ b) (fun b _ hb => (own1.lt b hb).1)
         rw [← HN1.out] at h2
         exact h2.alloc _
       have O1 := Lib.hid (o1.alloc (.cells #[.slice A1 n1 c1'] 146))
       have B1 := Lib.hid (Blk.new w1 146 #[.slice A1 n1 c1'])
       have SZ := Lib.hid o1.size
       clear own1 o1))
  go_ret
  exact ⟨w1.heap.size, A1, n1, c1', rfl, SZ.out, HN1.out, B1.out, C1.out, O1.out⟩
end Go.Proofs.Ytniacolkjdmflaa.Se
end
