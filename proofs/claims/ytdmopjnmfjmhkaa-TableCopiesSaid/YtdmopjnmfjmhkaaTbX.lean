/- What All of a table of numbers hands out, as a function that is ranged over. No statement of the seat is proved here. -/
import Derived.RangeFuncBox
import Derived.RangeFuncNested
import Derived.RangeFuncBound
import Derived.RangeFuncCalls
import Derived.RangeFuncLeaves
import Derived.Shelf.Abstract
import Derived.Shelf.RegionOpen
import Derived.OwnWalkIn
import Derived.TacticsInMore
import Derived.LoopNIn
import Derived.LoopIn
import Derived.Test.YtdmopjnmfjmhkaaTbO
namespace Go.Proofs.Ytdmopjnmfjmhkaa
open Go.RowKit Go.Shelf
set_option maxRecDepth 100000
set_option linter.all false
attribute [local go_sem] Oper.semAt_some

set_option maxHeartbeats 4000000 in
theorem all1_in (F : Fence) (n : Nat) (hF : F.fn 56) (hro : F.round = none) (hn : 1 ≤ n) (l Bs : Nat) (S : Nat → Prop) (A : Option Addr) (c L : Nat) (t : List (Pr Int)) (hL : L = t.length) (ht : L ≤ 4096) (J Jx : List (Pr Int) → World → Prop) (W : World) (hJ : AbidesFrom W.heap.size J)
    (hY : ∀ pre x W1, J pre W1 → pre.length < L → YieldAt F (n - 1) Try.prog l #[.string x.k, .int .i64 x.v] W1 fun e W' =>
      (e = .returned (.bool true) ∧ J (pre ++ [x]) W' ∧ Only S W1 W') ∨ (e = .returned (.bool false) ∧ Jx (pre ++ [x]) W'))
    (hBs : W.cell? ⟨Bs, 0, none⟩ = some (.slice A L c)) (hcel : Cel W (fun b => ¬ S b) (.slice A L c) L 2 (t.flatMap prI)) (h0 : J [] W) :
    CallsIn F n Try.prog 56 #[.func (.yield l) #[] #[], .pointer (some ⟨Bs, 0, none⟩)] W fun e W' => (∃ v, e = .returned v) ∧
      ((∃ ys, ys = t ∧ J ys W') ∨ (∃ pre, pre <+: t ∧ Jx pre W')) := by
  refine callsIn_of_wp Try.func56 rfl hF ?_ hro
  simp only [Try.ntmps56, List.size_toArray, List.length_cons, List.length_nil, Nat.reduceAdd, Nat.reduceSub, Array.replicate_succ, Array.replicate_zero, List.push_toArray, List.append_toArray, List.nil_append, List.cons_append]
  have HC := Lib.hid hcel
  have HL := Lib.hid hL
  have HJ := Lib.hid hJ
  have HY := Lib.hid hY
  have H0 := Lib.hid h0
  clear hcel hL hJ hY h0
  gi_wp2
  gi_loopw [7] (fun i wr => ∃ k : Nat, k ≤ L ∧ i = .int .i64 k ∧ J (t.take k) wr ∧ Only S W wr)
    (fun i _ => L - (intOf i).toNat)
  case atStart => exact ⟨0, Nat.zero_le _, rfl, H0.out, Only.refl _ _⟩
  case round =>
    obtain ⟨k, hk, rfl, hJs, hnx⟩ := hrel
    by_cases hlt : k < L
    · have hkt : k < t.length := by have := HL.out; omega
      obtain ⟨b, off, rfl, hb, _, hc0, hc1⟩ := prI_cell (HC.out.only hnx (fun _ h => h)) k hkt HL.out
      obtain ⟨fn, tmps, assign, body, hy, hR⟩ := HY.out _ t[k] (wr.alloc (.cells #[.string t[k].k, .int .i64 t[k].v] 78)) (HJ.out _ _ _ none hJs (World.grownBy_alloc wr _ none) (fun r e => by cases e)) (by rw [List.length_take]; omega)
      have HB : Hid (Only S W (wr.alloc (.cells #[.string t[k].k, .int .i64 t[k].v] 78))) := hnx.alloc _
      have HS : Hid (t.take k ++ [t[k]] = t.take (k + 1)) := (List.take_succ_eq_append_getElem hkt).symm
      have HP : Hid (t.take (k + 1) <+: t) := List.take_prefix _ _
      rw [HS.out] at hR
      generalize t[k].k = kk at *
      generalize t[k].v = vv at *
      have hki : (k : Int) < (L : Int) := by omega
      clear hJs hnx
      gi_wp2
      refine hR.mono ?_
      rintro e W3 (⟨rfl, hJ3, hk3⟩ | ⟨rfl, hJx3⟩)
      · gi_wp2
        go_roundw
        case rel => exact ⟨k + 1, by omega, by simp, hJ3, HB.out.trans hk3⟩
        case measure => simp [intOf]; omega
      · gi_wp2
        refine bodyPost_ret (results_none rfl _ _ _) rfl ?_
        exact ⟨⟨_, rfl⟩, .inr ⟨_, HP.out, hJx3⟩⟩
    · obtain rfl : L = k := by omega
      have HT : Hid (t.take L = t) := by rw [Hid, HL.out, List.take_length]
      rw [HT.out] at hJs
      gi_wp2
      go_end0
      exact ⟨⟨_, rfl⟩, .inl ⟨_, rfl, hJs⟩⟩
theorem all_stops (F : Fence) (n : Nat) (hF : F.fn 56) (hro : F.round = none) (hn : 1 ≤ n) (Bs : Nat) (S : Nat → Prop) (A : Option Addr) (c L : Nat) (t : List (Pr Int)) (hL : L = t.length) (ht : L ≤ 4096) (w : World) (hBs : Bs < w.heap.size)
    (hc : w.cell? ⟨Bs, 0, none⟩ = some (.slice A L c)) (hcel : Cel w (fun b => ¬ S b) (.slice A L c) L 2 (t.flatMap prI)) :
    SeqStopsK F n Try.prog 56 #[.pointer (some ⟨Bs, 0, none⟩)] (fun x : Pr Int => #[Value.string x.k, Value.int .i64 x.v]) (Only S) (fun ys => ys = t) (fun pre => pre <+: t) L w := fun l J Jx W hW hJ _ hY h0 =>
  all1_in F n hF hro hn l Bs S A c L t hL ht J Jx W hJ hY ((hW.cell (p := ⟨Bs, 0, none⟩) hBs).trans hc) (hcel.only (Only.of_below (S := none_) hW) (fun _ _ h => h)) h0
end Go.Proofs.Ytdmopjnmfjmhkaa
