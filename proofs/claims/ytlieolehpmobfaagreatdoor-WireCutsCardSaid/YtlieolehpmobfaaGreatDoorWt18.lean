/- Texts of mine, one behind the other: WiNm, OpenRc, OpenMs, Open, WiL. No statement of the seat is proved here. -/
import Derived.Test.YtlieolehpmobfaaGreatDoorWt9
import Derived.Test.YtlieolehpmobfaaGreatDoorWt5
import Derived.Test.YtlieolehpmobfaaGreatDoorWt6
import Derived.ProofKit
import Derived.OpenShut
import Derived.ChangeOld
import Derived.Test.YtlieolehpmobfaaGreatDoorWt1
import Derived.ShutString
import Derived.Test.YtlieolehpmobfaaGreatDoorWt7
import Derived.Test.YtlieolehpmobfaaGreatDoorRows
import Derived.LaidMore
section
namespace Go.Proofs.YtlieolehpmobfaaGreatDoor
open Go.RowKit
set_option linter.all false
set_option maxRecDepth 100000
def nmK (k : Int) : ByteArray := if wKind k = true then wNm k.toNat else ⟨#[]⟩
set_option maxHeartbeats 3200000 in
theorem wi_name (k : Int) (w : World) (hk : Kd w) : Calls Tryz.prog 21 #[.int .i64 k] w fun e w' => e = .returned (.string (nmK k)) ∧ Only none_ w w' := by
  cases hw : wKind k
  · have HN : Hid (nmK k = ⟨#[]⟩) := by rw [Hid, nmK, hw]; rfl
    go_enter Tryz.func21, Tryz.ntmps21
    go_wp2_with (first
      | (go_at_call 66; refine (wi_kind _ _).mono ?_; rintro E w9 ⟨rfl, rfl⟩; rw [hw]))
    go_ret
    exact ⟨by rw [HN.out]; rfl, Only.refl _ _⟩
  · obtain ⟨q, rfl⟩ : ∃ q : Nat, k = q := ⟨k.toNat, by simp only [wKind, Bool.and_eq_true, decide_eq_true_eq] at hw; omega⟩
    have h2 : 1 ≤ q ∧ q ≤ 19 := by simp only [wKind, Bool.and_eq_true, decide_eq_true_eq] at hw; omega
    have HN : Hid (nmK q = wNm q) := by rw [Hid, nmK, hw]; rfl
    have c0 := hk.at_ q (by omega) 0 (.string (wNm q)) rfl
    rw [Nat.add_zero] at c0
    have b1 : (q : Int) < 20 := by omega
    have b2 : q < 20 := by omega
    have b3 : (0 : Int) ≤ q := by omega
    clear hk h2
    go_enter Tryz.func21, Tryz.ntmps21
    go_wp2_with (first
      | (go_at_call 66; refine (wi_kind _ _).mono ?_; rintro E w9 ⟨rfl, rfl⟩; rw [hw]))
    go_ret
    exact ⟨by rw [HN.out]; rfl, Only.refl _ _⟩
set_option maxHeartbeats 12800000 in
theorem rd_name (k : Int) (w : World) : Calls Tryz.prog 22 #[.int .i64 k] w fun e w' => e = .returned (.string (nmK k)) ∧ Only none_ w w' := by
  by_cases hw : wKind k = true
  · rcases kind_ways hw with rfl | rfl | rfl | rfl | rfl | rfl | rfl | rfl | rfl | rfl | rfl | rfl | rfl | rfl | rfl | rfl | rfl | rfl | rfl
    all_goals
      clear hw
      go_enter Tryz.func22, Tryz.ntmps22
      go_wp2_with fail
      go_ret
      exact ⟨rfl, (Only.refl none_ w).alloc _⟩
  · have HN : Hid (nmK k = ⟨#[]⟩) := by rw [Hid, nmK, if_neg hw]
    by_cases h1 : k < 1
    · clear hw
      go_enter Tryz.func22, Tryz.ntmps22
      go_wp2_with fail
      go_ret
      exact ⟨by rw [HN.out]; rfl, Only.refl _ _⟩
    · have h2 : 19 < k := by simp only [wKind, Bool.and_eq_true, decide_eq_true_eq] at hw; omega
      clear hw
      go_enter Tryz.func22, Tryz.ntmps22
      go_wp2_with fail
      go_ret
      exact ⟨by rw [HN.out]; rfl, Only.refl _ _⟩
end Go.Proofs.YtlieolehpmobfaaGreatDoor
end
section
namespace Go.Proofs.YtlieolehpmobfaaGreatDoor
open Go.Joins Go.ChangeShapes Go.WideShapes Go.RowKit Go.Deep
set_option maxRecDepth 100000
set_option linter.all false
theorem mark_cells {H : Type} {enc : TypeId × Value → H} {W : World} (n : Nat) (r : List Value) (y : DataW H × List MemPlace) (hr : r.length = 3) (h : DataW.trod enc Tryz.prog W 0 (fun _ => true) true n 27 r = some y) :
    ∃ x : Mk, r = mkI x ∧ (-9223372036854775808 ≤ x.a.c ∧ x.a.c ≤ 9223372036854775807) := by
  obtain ⟨y0, y1, n, _, _, g0, g1⟩ := trod_struct2 Tryz.underlying27 h
  match r, hr with
  | [c0, c1, c2], _ =>
      have e9 : Tryz.prog.cellsOf 9 = 1 := by kernel_rfl
      have e2 : Tryz.prog.cellsOf 25 = 2 := by kernel_rfl
      simp only [e9, e2, List.drop_zero, List.drop_succ_cons, List.take_succ_cons, List.take_zero] at g0 g1
      obtain ⟨t0, q0, w0⟩ := stamp_cells n _ _ rfl g0
      obtain ⟨s1, q1, _, _⟩ := DataW.trod_string Tryz.underlying9 g1
      simp only [stRow, List.cons.injEq, and_true] at q0 q1
      obtain ⟨q0, q0'⟩ := q0
      subst q0 q0' q1
      exact ⟨⟨t0, s1⟩, rfl, w0⟩
theorem marks_arg {H : Type} {enc : TypeId × Value → H} {W : World} {a : Option Addr} {len cap : Nat} {d : DataW H} {p : List MemPlace} (h : DataW.Trod enc Tryz.prog W 0 (fun _ => true) true 28 (.slice a len cap) d p) :
    ∃ l : List Mk, len = l.length ∧ Cel W (fun b => b < W.heap.size) (.slice a len cap) len 3 (l.flatMap mkI) := by
  obtain ⟨l, h1, h2, _⟩ := cel_in mkI _ Tryz.underlying28 (by kernel_rfl) mkI_len (by omega) (fun n r y hr ht => mark_cells n r y hr ht) h
  exact ⟨l, h1, h2⟩
end Go.Proofs.YtlieolehpmobfaaGreatDoor
end
section
namespace Go.Proofs.YtlieolehpmobfaaGreatDoor
open Go.ChangeShapes Go.WideShapes Go.ChangeAt Go.RowKit
set_option linter.all false
set_option maxRecDepth 100000
def J64 (z : Int) : Prop := -9223372036854775808 ≤ z ∧ z ≤ 9223372036854775807
theorem int_cells {H : Type} {enc : TypeId × Value → H} {W : World} (n : Nat) (r : List Value) (y : DataW H × List MemPlace) (hr : r.length = 1) (h : DataW.trod enc Tryz.prog W 0 (fun _ => true) true n 3 r = some y) :
    ∃ z : Int, r = intI z ∧ J64 z := by
  match r, hr with
  | [r0], _ =>
    obtain ⟨k, q0, _, w0⟩ := DataW.trod_int Tryz.underlying3 h
    simp only [List.cons.injEq, and_true] at q0
    subst q0
    have hw := bounds_i64 w0
    exact ⟨k, rfl, hw.1, by have := hw.2; omega⟩
theorem trod_s10 {H : Type} {enc : TypeId × Value → H} {P : Program} {w : World} {base : Nat} {spare : Nat → Bool} {held : Bool} {t : TypeId} {f0 f1 f2 f3 f4 f5 f6 f7 f8 f9 : Field} {fuel : Nat} {cs : List Value} {x : DataW H × List MemPlace} (ht : P.underlying t = some (.struct #[f0, f1, f2, f3, f4, f5, f6, f7, f8, f9])) (h : DataW.trod enc P w base spare held fuel t cs = some x) :
    ∃ n y0 y1 y2 y3 y4 y5 y6 y7 y8 y9, DataW.trod enc P w base spare held n f0.type ((cs.drop f0.offset).take (P.cellsOf f0.type)) = some y0 ∧ DataW.trod enc P w base spare held n f1.type ((cs.drop f1.offset).take (P.cellsOf f1.type)) = some y1 ∧ DataW.trod enc P w base spare held n f2.type ((cs.drop f2.offset).take (P.cellsOf f2.type)) = some y2 ∧ DataW.trod enc P w base spare held n f3.type ((cs.drop f3.offset).take (P.cellsOf f3.type)) = some y3 ∧ DataW.trod enc P w base spare held n f4.type ((cs.drop f4.offset).take (P.cellsOf f4.type)) = some y4 ∧ DataW.trod enc P w base spare held n f5.type ((cs.drop f5.offset).take (P.cellsOf f5.type)) = some y5 ∧ DataW.trod enc P w base spare held n f6.type ((cs.drop f6.offset).take (P.cellsOf f6.type)) = some y6 ∧ DataW.trod enc P w base spare held n f7.type ((cs.drop f7.offset).take (P.cellsOf f7.type)) = some y7 ∧ DataW.trod enc P w base spare held n f8.type ((cs.drop f8.offset).take (P.cellsOf f8.type)) = some y8 ∧ DataW.trod enc P w base spare held n f9.type ((cs.drop f9.offset).take (P.cellsOf f9.type)) = some y9 := by
  obtain ⟨xs, n, _, _, _, hlen, hf⟩ := DataW.trod_struct ht h
  match xs, hlen with
  | [y0, y1, y2, y3, y4, y5, y6, y7, y8, y9], _ => exact ⟨n, y0, y1, y2, y3, y4, y5, y6, y7, y8, y9, by simpa using hf 0 f0 rfl, by simpa using hf 1 f1 rfl, by simpa using hf 2 f2 rfl, by simpa using hf 3 f3 rfl, by simpa using hf 4 f4 rfl, by simpa using hf 5 f5 rfl, by simpa using hf 6 f6 rfl, by simpa using hf 7 f7 rfl, by simpa using hf 8 f8 rfl, by simpa using hf 9 f9 rfl⟩
def Msg (m : Ms) : Prop := m.su < 18446744073709551616 ∧ J64 m.kd ∧ J64 m.pe ∧ J64 m.hp ∧ J64 m.nu ∧ (∀ z ∈ m.ps, J64 z)
theorem ms_cells {H : Type} {enc : TypeId × Value → H} {W : World} (n : Nat) (r : List Value) (y : DataW H × List MemPlace) (hr : r.length = 12) (h : DataW.trod enc Tryz.prog W 0 (fun _ => true) true n 31 r = some y) :
    ∃ (m : Ms) (vp vm ve : Value), r = (#[.int .i64 m.kd, .int .i64 m.pe, .int .i64 m.hp, .bool m.hi, vp, .int .i64 m.nu, .int .u64 (m.su : Int), .int .i64 m.mr.a.c, .int .i64 m.mr.a.s, .string m.mr.k, vm, ve] : Array Value).toList ∧ Ml (fun b => b < W.heap.size) m vp vm ve W ∧ Msg m := by
  obtain ⟨n, y0, y1, y2, y3, y4, y5, y6, y7, y8, y9, g0, g1, g2, g3, g4, g5, g6, g7, g8, g9⟩ := trod_s10 Tryz.underlying31 h
  match r, hr with
  | [c0, c1, c2, c3, c4, c5, c6, c7, c8, c9, c10, c11], _ =>
      have e0 : Tryz.prog.cellsOf 3 = 1 := by kernel_rfl
      have e1 : Tryz.prog.cellsOf 4 = 1 := by kernel_rfl
      have e2 : Tryz.prog.cellsOf 22 = 1 := by kernel_rfl
      have e3 : Tryz.prog.cellsOf 23 = 1 := by kernel_rfl
      have e4 : Tryz.prog.cellsOf 27 = 3 := by kernel_rfl
      have e5 : Tryz.prog.cellsOf 28 = 1 := by kernel_rfl
      have e6 : Tryz.prog.cellsOf 29 = 1 := by kernel_rfl
      simp only [e0, e1, e2, e3, e4, e5, e6, List.drop_zero, List.drop_succ_cons, List.take_succ_cons, List.take_zero] at g0 g1 g2 g3 g4 g5 g6 g7 g8 g9
      obtain ⟨k0, q0, _, w0⟩ := DataW.trod_int Tryz.underlying3 g0
      obtain ⟨k1, q1, _, w1⟩ := DataW.trod_int Tryz.underlying3 g1
      obtain ⟨k2, q2, _, w2⟩ := DataW.trod_int Tryz.underlying3 g2
      obtain ⟨k3, q3, _⟩ := DataW.trod_bool Tryz.underlying4 g3
      obtain ⟨A4, l4, c4', q4⟩ := slice_one Tryz.underlying22 g4
      obtain ⟨k5, q5, _, w5⟩ := DataW.trod_int Tryz.underlying3 g5
      obtain ⟨k6, q6, _, w6⟩ := DataW.trod_int Tryz.underlying23 g6
      obtain ⟨k7, q7, _⟩ := mark_cells n _ _ rfl g7
      obtain ⟨A8, l8, c8', q8⟩ := slice_one Tryz.underlying28 g8
      obtain ⟨A9, l9, c9', q9⟩ := slice_one Tryz.underlying29 g9
      simp only [mkI, List.cons.injEq, and_true] at q0 q1 q2 q3 q5 q6 q7
      obtain ⟨q7a, q7b, q7c⟩ := q7
      subst q0 q1 q2 q3 q4 q5 q6 q7a q7b q7c q8 q9
      obtain ⟨zs, hz1, hz2, hz3⟩ := cel_in (d := y4.1) (p := y4.2) intI J64 Tryz.underlying22 (by kernel_rfl) intI_len (by omega) (fun n r y hr ht => int_cells n r y hr ht) ⟨n, g4⟩
      obtain ⟨ms, hm1, hm2⟩ := marks_arg (d := y8.1) (p := y8.2) ⟨n, g8⟩
      obtain ⟨es, he1, he2⟩ := entries_arg (d := y9.1) (p := y9.2) ⟨n, g9⟩
      have hv := bounds_u64 w6
      have b0 := bounds_i64 w0
      have b1 := bounds_i64 w1
      have b2 := bounds_i64 w2
      have b5 := bounds_i64 w5
      refine ⟨⟨k0, k1, k2, k3, zs, k5, k6.toNat, k7, ms, es⟩, .slice A4 l4 c4', .slice A8 l8 c8', .slice A9 l9 c9', ?_, ⟨by rw [hz1] at hz2 ⊢; exact hz2, by rw [hm1] at hm2 ⊢; exact hm2, by rw [he1] at he2 ⊢; exact he2⟩, by show k6.toNat < _; omega, ⟨b0.1, by have := b0.2; show k0 ≤ _; omega⟩, ⟨b1.1, by have := b1.2; show k1 ≤ _; omega⟩, ⟨b2.1, by have := b2.2; show k2 ≤ _; omega⟩, ⟨b5.1, by have := b5.2; show k5 ≤ _; omega⟩, hz3⟩
      show _ = [Value.int .i64 k0, .int .i64 k1, .int .i64 k2, .bool k3, .slice A4 l4 c4', .int .i64 k5, .int .u64 (k6.toNat : Int), .int .i64 k7.a.c, .int .i64 k7.a.s, .string k7.k, .slice A8 l8 c8', .slice A9 l9 c9']
      rw [show ((k6.toNat : Nat) : Int) = k6 from by omega]
theorem ms_arg {H : Type} {enc : TypeId × Value → H} {W : World} {cs : Array Value} {d : DataW H} {p : List MemPlace} (hs : cs.size = Tryz.prog.cellsOf 31) (h : DataW.Trod enc Tryz.prog W 0 (fun _ => true) true 31 (.agg cs) d p) :
    ∃ (m : Ms) (vp vm ve : Value), cs = #[.int .i64 m.kd, .int .i64 m.pe, .int .i64 m.hp, .bool m.hi, vp, .int .i64 m.nu, .int .u64 (m.su : Int), .int .i64 m.mr.a.c, .int .i64 m.mr.a.s, .string m.mr.k, vm, ve] ∧ Ml (fun b => b < W.heap.size) m vp vm ve W ∧ Msg m := by
  have c9 : Tryz.prog.cellsOf 31 = 12 := by kernel_rfl
  rw [c9] at hs
  obtain ⟨fuel, hf⟩ := h
  obtain ⟨l⟩ := cs
  obtain ⟨m, vp, vm, ve, e, h1, h2⟩ := ms_cells fuel l _ hs hf
  exact ⟨m, vp, vm, ve, by rw [e], h1, h2⟩
end Go.Proofs.YtlieolehpmobfaaGreatDoor
end
section
namespace Go.Proofs.YtlieolehpmobfaaGreatDoor
open Go.Joins Go.ChangeShapes Go.WideShapes Go.ChangeAt Go.RowKit
set_option linter.all false
set_option maxRecDepth 100000
theorem gKinds : Tryz.prog.globalNamed "quidnunc/wire.kinds" = some 0 := by kernel_rfl
theorem tKinds : (Tryz.prog.globals[0]?).map (·.type) = some 140 := by kernel_rfl
def laidK {H : Type} : List (String × DataW H) := [("quidnunc/wire.kinds", Rows.laid_quidnunc_wire_kinds)]
theorem shape_cells {H : Type} {enc : TypeId × Value → H} {W : World} {sp : Nat → Bool} {held : Bool} (m : Nat) (cs : List Value) (x : DataW H × List MemPlace) (h : DataW.trod enc Tryz.prog W 0 sp held m 139 cs = some x) :
    ∃ (s : ByteArray) (a b c : Int), cs = [.string s, .int .i64 a, .int .i64 b, .int .i64 c] ∧ x.1 = .agg [.lit (.string s.data.toList), .lit (.int .i64 a), .lit (.int .i64 b), .lit (.int .i64 c)] := by
  obtain ⟨y0, y1, y2, y3, n, hx, hlen, g0, g1, g2, g3⟩ := trod_struct4 Tryz.underlying139 h
  have c4 : Tryz.prog.cellsOf 139 = 4 := by kernel_rfl
  have e9 : Tryz.prog.cellsOf 9 = 1 := by kernel_rfl
  have e3 : Tryz.prog.cellsOf 3 = 1 := by kernel_rfl
  rw [c4] at hlen
  match cs, hlen with
  | [c0, c1, c2, c3], _ =>
      simp only [e9, e3, List.drop_zero, List.drop_succ_cons, List.take_succ_cons, List.take_zero] at g0 g1 g2 g3
      obtain ⟨s, q0, r0, _⟩ := DataW.trod_string Tryz.underlying9 g0
      obtain ⟨a, q1, r1, _⟩ := DataW.trod_int Tryz.underlying3 g1
      obtain ⟨b, q2, r2, _⟩ := DataW.trod_int Tryz.underlying3 g2
      obtain ⟨c, q3, r3, _⟩ := DataW.trod_int Tryz.underlying3 g3
      simp only [List.cons.injEq, and_true] at q0 q1 q2 q3
      subst q0 q1 q2 q3 r0 r1 r2 r3
      exact ⟨s, a, b, c, rfl, by rw [hx]⟩
theorem kinds_at {H : Type} : ∀ k : Nat, k < 20 → (match (Rows.laid_quidnunc_wire_kinds : DataW H) with | .agg l => l[k]? | _ => none) = some (.agg [.lit (.string (wNm k).data.toList), .lit (.int .i64 (wFld k)), .lit (.int .i64 (wLo k)), .lit (.int .i64 (wUp k))]) := by
  intro k hk
  rcases (by omega : k = 0 ∨ k = 1 ∨ k = 2 ∨ k = 3 ∨ k = 4 ∨ k = 5 ∨ k = 6 ∨ k = 7 ∨ k = 8 ∨ k = 9 ∨ k = 10 ∨ k = 11 ∨ k = 12 ∨ k = 13 ∨ k = 14 ∨ k = 15 ∨ k = 16 ∨ k = 17 ∨ k = 18 ∨ k = 19) with rfl | rfl | rfl | rfl | rfl | rfl | rfl | rfl | rfl | rfl | rfl | rfl | rfl | rfl | rfl | rfl | rfl | rfl | rfl | rfl
  all_goals rfl
theorem kd_of_laid {W : World} (h : laidMetH Tryz.prog laidK W) : Kd W := by
  rw [MakeChecks.laidMetH_plain _ _ _ (by kernel_rfl)] at h
  obtain ⟨ps, ⟨g0, t0, cs0, f0, p0, q0, hg0, ht0, hv0, hd0, _, _⟩, _, _⟩ := h
  obtain rfl := Option.some.inj (gKinds.symm.trans hg0)
  obtain rfl := Option.some.inj (tKinds.symm.trans ht0)
  obtain ⟨xs, m1, _, hx1, hlen, hn3, hel⟩ := DataW.trod_array Tryz.underlying140 hd0
  have c4 : Tryz.prog.cellsOf 139 = 4 := by kernel_rfl
  have hc : ∀ k : Nat, k < 20 → ∀ j u, (shRow (wNm k) (wFld k) (wLo k) (wUp k)).toList[j]? = some u → W.cell? ⟨0, k * 4 + j, none⟩ = some u := by
    intro k hk j u hu
    obtain ⟨y, hy⟩ : ∃ y, xs[k]? = some y := ⟨_, List.getElem?_eq_getElem (by omega)⟩
    have g := hel k hk
    rw [hy, c4] at g
    obtain ⟨s, a, b, c, e1, e2⟩ := shape_cells m1 _ y g
    have hkk := kinds_at (H := Unit) k hk
    have hxx : (Rows.laid_quidnunc_wire_kinds : DataW Unit) = .agg (xs.map (·.1)) := (Prod.mk.inj hx1).1
    rw [hxx] at hkk
    simp only [List.getElem?_map, hy, Option.map_some, Option.some.injEq] at hkk
    rw [e2] at hkk
    simp only [DataW.agg.injEq, List.cons.injEq, DataW.lit.injEq, Lit.string.injEq, Lit.int.injEq, true_and, and_true] at hkk
    obtain ⟨h1, h2, h3, h4⟩ := hkk
    have hs : s = wNm k := key_ext h1
    subst hs h2 h3 h4
    rw [World.var?_cell hg0 hv0, ← Array.getElem?_toList]
    have hj : j < 4 := (List.getElem?_eq_some_iff.1 hu).1
    have e3 := congrArg (fun l => l[j]?) e1
    simp only [List.getElem?_take, List.getElem?_drop, hj, if_true] at e3
    rw [e3]
    exact hu
  refine ⟨?_, hc⟩
  have h0 := hc 0 (by omega) 0 _ rfl
  unfold World.cell? at h0
  by_cases hz : 0 < W.heap.size
  · exact hz
  · have e : W.heap[0]? = none := Array.getElem?_eq_none (by omega)
    simp [e] at h0
theorem door_met (os : Os) (args : Array Value) : laidMetH Tryz.prog laidK ((World.doorLaid Tryz.prog 400 os).forCall (fun _ _ => 0) ⟨#[], args, []⟩).memory :=
  laidMetH_of_parts3 (fuel := 8) (laidMet_of_run' 8 (by kernel_rfl) (by kernel_rfl)) (by kernel_rfl) (by kernel_rfl)
end Go.Proofs.YtlieolehpmobfaaGreatDoor
end
