/- The document's views as rows of 27 cells; its List and Known. No statement of the seat is proved here. -/
import Derived.Test.YtiigebdmkibnbaaVwN
import Derived.Test.YtiigebdmkibnbaaPce
import Derived.Test.YtiigebdmkibnbaaOpenZ
import Derived.Test.YtiigebdmkibnbaaFrt
import Derived.Deep.DeepCutAuto
import Derived.Deep.Cut
namespace Go.Proofs.Ytiigebdmkibnbaa
open Go.RowKit
set_option linter.all false
set_option maxRecDepth 100000

def varr (f : Nat → Bool) : Array Value := #[.bool (f 0), .bool (f 1), .bool (f 2), .bool (f 3), .bool (f 4), .bool (f 5), .bool (f 6), .bool (f 7), .bool (f 8), .bool (f 9), .bool (f 10), .bool (f 11)]
def vrw (self : Int) (f g : Nat → Bool) (a p : Nat) : Array Value := #[.int .i64 self, .bool (f 0), .bool (f 1), .bool (f 2), .bool (f 3), .bool (f 4), .bool (f 5), .bool (f 6), .bool (f 7), .bool (f 8), .bool (f 9), .bool (f 10), .bool (f 11), .bool (g 0), .bool (g 1), .bool (g 2), .bool (g 3), .bool (g 4), .bool (g 5), .bool (g 6), .bool (g 7), .bool (g 8), .bool (g 9), .bool (g 10), .bool (g 11), .int .i64 a, .int .i64 p]
def upd (f : Nat → Bool) (k : Nat) (b : Bool) : Nat → Bool := fun i => if i = k then b else f i
/-- Which nodes are in a list. -/
def fb (l : List Int) : Nat → Bool := fun i => decide ((i : Int) ∈ l)
def drow (s : Vm) : Array Value := vrw s.self (fb s.act) (fb s.pas) s.a s.p
section
variable {self : Int} {f g : Nat → Bool} {a p k : Nat} {b : Bool}
theorem varr_at (h : k < 12) : (varr f)[k]? = some (.bool (f k)) := by rcases (by omega : k = 0 ∨ k = 1 ∨ k = 2 ∨ k = 3 ∨ k = 4 ∨ k = 5 ∨ k = 6 ∨ k = 7 ∨ k = 8 ∨ k = 9 ∨ k = 10 ∨ k = 11) with rfl | rfl | rfl | rfl | rfl | rfl | rfl | rfl | rfl | rfl | rfl | rfl <;> rfl
theorem vrw_A (h : k < 12) : (vrw self f g a p)[1 + k]? = some (.bool (f k)) := by rcases (by omega : k = 0 ∨ k = 1 ∨ k = 2 ∨ k = 3 ∨ k = 4 ∨ k = 5 ∨ k = 6 ∨ k = 7 ∨ k = 8 ∨ k = 9 ∨ k = 10 ∨ k = 11) with rfl | rfl | rfl | rfl | rfl | rfl | rfl | rfl | rfl | rfl | rfl | rfl <;> rfl
theorem vrw_P (h : k < 12) : (vrw self f g a p)[13 + k]? = some (.bool (g k)) := by rcases (by omega : k = 0 ∨ k = 1 ∨ k = 2 ∨ k = 3 ∨ k = 4 ∨ k = 5 ∨ k = 6 ∨ k = 7 ∨ k = 8 ∨ k = 9 ∨ k = 10 ∨ k = 11) with rfl | rfl | rfl | rfl | rfl | rfl | rfl | rfl | rfl | rfl | rfl | rfl <;> rfl
theorem vrw_setA (h : k < 12) : (vrw self f g a p).setIfInBounds (1 + k) (.bool b) = vrw self (upd f k b) g a p := by rcases (by omega : k = 0 ∨ k = 1 ∨ k = 2 ∨ k = 3 ∨ k = 4 ∨ k = 5 ∨ k = 6 ∨ k = 7 ∨ k = 8 ∨ k = 9 ∨ k = 10 ∨ k = 11) with rfl | rfl | rfl | rfl | rfl | rfl | rfl | rfl | rfl | rfl | rfl | rfl <;> rfl
theorem vrw_setP (h : k < 12) : (vrw self f g a p).setIfInBounds (13 + k) (.bool b) = vrw self f (upd g k b) a p := by rcases (by omega : k = 0 ∨ k = 1 ∨ k = 2 ∨ k = 3 ∨ k = 4 ∨ k = 5 ∨ k = 6 ∨ k = 7 ∨ k = 8 ∨ k = 9 ∨ k = 10 ∨ k = 11) with rfl | rfl | rfl | rfl | rfl | rfl | rfl | rfl | rfl | rfl | rfl | rfl <;> rfl
theorem vrw_one : (vrw self f g a p).all (·.oneCell') = true := by simp [vrw, Value.oneCell']
theorem varr_one : (varr f).all (·.oneCell') = true := by simp [varr, Value.oneCell']
theorem vrw_pieceA : ∀ j u, (varr f).toList[j]? = some u → (vrw self f g a p)[1 + j]? = some u := by
  intro j u hu
  have hj : j < 12 := (List.getElem?_eq_some_iff.1 hu).1
  rw [vrw_A hj]
  rw [Array.getElem?_toList, varr_at hj] at hu
  exact hu
theorem vrw_pieceP : ∀ j u, (varr g).toList[j]? = some u → (vrw self f g a p)[13 + j]? = some u := by
  intro j u hu
  have hj : j < 12 := (List.getElem?_eq_some_iff.1 hu).1
  rw [vrw_P hj]
  rw [Array.getElem?_toList, varr_at hj] at hu
  exact hu
end
theorem nm_made1 (w : World) (t : TypeId) (j : Nat) : Cel (w.alloc (.cells #[.int .i64 (j : Int)] t)) (fun b => b = w.heap.size) (.slice (some ⟨w.heap.size, 0, none⟩) 1 1) 1 1 (nums [(j : Int)]) :=
  ⟨_, 1, rfl, by simp, Nat.le_refl _, by simp [maxLen], (fun e => by cases e), fun _ => ⟨w.heap.size, 0, rfl, rfl, by rw [World.size_alloc]; omega, fun i u hu => by
    rw [Nat.zero_add]
    exact (Blk.new w t #[.int .i64 (j : Int)]).cell_ (by simpa [nums] using hu)⟩⟩
theorem fb_rm {l : List Int} (h : l.Pairwise (· < ·)) (k : Nat) : upd (fb l) k false = fb (vrm l (k : Int)) := by
  funext i
  unfold upd fb
  have := vrm_mem h (k : Int) (i : Int)
  split
  · rename_i e; subst e
    symm; rw [decide_eq_false_iff_not]; exact fun hc => (this.1 hc).2 rfl
  · rename_i e
    rw [Bool.eq_iff_iff, decide_eq_true_eq, decide_eq_true_eq, this]
    exact ⟨fun h1 => ⟨h1, by omega⟩, fun h1 => h1.1⟩
theorem fb_ins {l : List Int} (h : l.Pairwise (· < ·)) (k : Nat) : upd (fb l) k true = fb (vins l (k : Int)) := by
  funext i
  unfold upd fb
  have := vins_mem h (k : Int) (i : Int)
  split
  · rename_i e; subst e
    symm; rw [decide_eq_true_eq]; exact this.2 (.inr rfl)
  · rename_i e
    rw [Bool.eq_iff_iff, decide_eq_true_eq, decide_eq_true_eq, this]
    exact ⟨fun h1 => .inl h1, fun h1 => h1.resolve_right (by omega)⟩
/-- Those that are there, rising. -/
def lstN (f : Nat → Bool) (n : Nat) : List Int := ((List.range n).filter f).map (fun i : Nat => (i : Int))
theorem lstN_succ (f : Nat → Bool) (n : Nat) : lstN f (n + 1) = if f n = true then lstN f n ++ [(n : Int)] else lstN f n := by
  unfold lstN
  rw [List.range_succ, List.filter_append, List.map_append]
  split <;> simp [*]
theorem lstN_len (f : Nat → Bool) (n : Nat) : (lstN f n).length ≤ n := by
  unfold lstN
  rw [List.length_map]
  exact Nat.le_trans (List.length_filter_le _ _) (by simp)
theorem lstN_mem (f : Nat → Bool) (n : Nat) (z : Int) : z ∈ lstN f n ↔ ∃ i : Nat, i < n ∧ f i = true ∧ (i : Int) = z := by
  unfold lstN
  simp only [List.mem_map, List.mem_filter, List.mem_range, and_assoc]
theorem lstN_up (f : Nat → Bool) (n : Nat) : (lstN f n).Pairwise (· < ·) := by
  unfold lstN
  rw [List.pairwise_map]
  exact (List.pairwise_lt_range.filter _).imp (fun h => by omega)
theorem lst_eq {f : Nat → Bool} {l : List Int} (h : Rl l) (hf : ∀ i, i < 12 → (f i = true ↔ (i : Int) ∈ l)) : lstN f 12 = l := by
  refine up_ext (lstN_up _ _) h.1 (fun z => ?_)
  rw [lstN_mem]
  constructor
  · rintro ⟨i, h1, h2, rfl⟩
    exact (hf i h1).1 h2
  · intro hz
    have hb := h.2 z hz
    obtain ⟨i, rfl⟩ : ∃ i : Nat, (i : Int) = z := ⟨z.toNat, by omega⟩
    exact ⟨i, by omega, (hf i (by omega)).2 hz, rfl⟩
theorem lst_fb {l : List Int} (h : Rl l) : lstN (fb l) 12 = l := lst_eq h (fun i _ => by simp [fb])

set_option maxHeartbeats 6400000 in
theorem rv_listN (f : Nat → Bool) (w : World) :
    Calls Try.prog 30 #[.agg (varr f)] w fun e w' => ∃ v', e = .returned v' ∧ w'.ownsRow w.heap.size 3 1 v' (lstN f 12).length (nums (lstN f 12)) ∧ Only none_ w w' := by
  obtain ⟨i0, hi0, hz0, hz1, hz2⟩ := info_parts int_info
  have hB : Hid (Blk (w.alloc (.cells (varr f) 29)) w.heap.size 29 (varr f)) := Blk.new _ _ _
  have hm := own_made (w.alloc (.cells (varr f) 29)) (w.heap.size + 1) 3 1 0 #[] (by simp) (by simp [maxLen]) (by simp)
  rw [World.size_alloc] at hm
  have M1 : Hid (((w.alloc (.cells (varr f) 29)).alloc (.cells #[] 3)).ownsRow w.heap.size 3 1 (.slice (some ⟨w.heap.size + 1, 0, none⟩) 0 0) 0 []) := owns_base hm (by omega)
  have O1 : Hid (Only none_ w ((w.alloc (.cells (varr f) 29)).alloc (.cells #[] 3))) := ((Only.refl none_ w).alloc _).alloc _
  have B1 := Lib.hid (hB.out.alloc (.cells #[] 3))
  clear hm hB
  go_enter Try.func30, Try.ntmps30
  go_wp2_with fail
  generalize (w.alloc (.cells (varr f) 29)).alloc (.cells #[] 3) = W1 at *
  go_loopw [3, 4] (fun v3 v4 wr => ∃ (j : Nat) (A : Option Addr) (n c : Nat), j ≤ 12 ∧ v4 = .int .i64 (j : Int) ∧ v3 = .slice A n c ∧ wr.ownsRow w.heap.size 3 1 (.slice A n c) n (nums (lstN f j)) ∧ Only none_ w wr ∧ Blk wr w.heap.size 29 (varr f) ∧ n = (lstN f j).length) (fun _ v4 _ => 12 - (intOf v4).toNat)
  case atStart => exact ⟨0, _, _, _, by omega, rfl, rfl, M1.out, O1.out, B1.out, rfl⟩
  case round =>
    obtain ⟨j, A, n, c, hj, rfl, rfl, hown, ho, hb1, hn⟩ := hrel
    have HW := Lib.hid hown
    have HO := Lib.hid ho
    have HB := Lib.hid hb1
    have HN := Lib.hid hn
    clear hown ho hb1 hn
    by_cases hjl : j < 12
    · have hji : (j : Int) < 12 := by omega
      have hc := HB.out.cell_ (varr_at (f := f) hjl)
      have hs := Lib.hid (lstN_succ f j)
      have hn12 : n ≤ 12 := by rw [HN.out]; exact Nat.le_trans (lstN_len f j) hj
      cases hb : f j with
      | true =>
        rw [hb] at hc hs
        have HNX : Hid (n + 1 ≤ maxLen ∧ (n + 1) * 8 ≤ 140737488355328) := by simp only [Hid, maxLen]; omega
        have BV : Hid (Cel (wr.alloc (.cells #[.int .i64 (j : Int)] 3)) (fun b => b = wr.heap.size) (.slice (some ⟨wr.heap.size, 0, none⟩) 1 1) 1 1 (nums [(j : Int)])) := nm_made1 wr 3 j
        have WV := Lib.hid (owns_only HW.out ((Only.refl none_ wr).alloc (.cells #[.int .i64 (j : Int)] 3)) (fun _ _ e => e))
        have hsz : w.heap.size ≤ (wr.alloc (.cells #[.int .i64 (j : Int)] 3)).heap.size := by rw [World.size_alloc]; have := HO.out.size; omega
        have OV : Hid (Only none_ w (wr.alloc (.cells #[.int .i64 (j : Int)] 3)) ∧ Blk (wr.alloc (.cells #[.int .i64 (j : Int)] 3)) w.heap.size 29 (varr f)) := ⟨HO.out.alloc _, HB.out.alloc _⟩
        have h1z := nums_one [(j : Int)]
        have SV := Lib.hid WV.out
        clear hb
        have hcz : ∀ i u, (nums [(j : Int)])[i]? = some u → (wr.alloc (.cells #[.int .i64 (j : Int)] 3)).cell? ((⟨wr.heap.size, 0, none⟩ : Addr).add i) = some u := fun i u hu => by
          have e1 : (⟨wr.heap.size, 0, none⟩ : Addr).add i = ⟨wr.heap.size, i, none⟩ := by unfold Addr.add; split <;> simp_all
          rw [e1]
          exact (Blk.new wr 3 #[.int .i64 (j : Int)]).cell_ (by simpa [nums] using hu)
        obtain ⟨v5, w5, hr5, ho5, hg5, _, _⟩ := run_append_own_at (P := Try.prog) (wr.alloc (.cells #[.int .i64 (j : Int)] 3)) w.heap.size 22 22 3 i0 _ 1 8 Try.underlying22 hi0 hz0 hz1 hz2 rfl (by omega) (.slice A n c) n (nums (lstN f j)) WV.out ⟨wr.heap.size, 0, none⟩ 1 1 (nums [(j : Int)]) rfl hcz h1z HNX.out.1 HNX.out.2 hsz
        obtain ⟨A5, n5, c5, e4⟩ := own_sl ho5
        subst e4
        have e5 : n + 1 = n5 := (own_len ho5).symm
        have o5 : Only none_ w w5 ∧ Blk w5 w.heap.size 29 (varr f) := ⟨OV.out.1.of_none.grown hg5 (fun k hk => .inr (WV.out.lt k hk).1), OV.out.2.grown' hg5 (own_blk_ne WV.out OV.out.2 (by decide))⟩
        have R5 : Hid (w5.ownsRow w.heap.size 3 1 (.slice A5 n5 c5) n5 (nums (lstN f (j + 1))) ∧ Only none_ w w5 ∧ Blk w5 w.heap.size 29 (varr f) ∧ n5 = (lstN f (j + 1)).length) := by
          rw [hs.out, if_pos rfl, nums_append, ← e5]
          rw [← e5] at ho5
          exact ⟨ho5, o5.1, o5.2, by rw [List.length_append, ← HN.out]; rfl⟩
        clear ho5 hg5 e5 o5 hcz
        go_upto_region 6 with fail
        refine wp_region_lit ?_
        go_wp2_with (first
          | (at_builtin; refine wpList_append_run2 rfl (.tmp 13) (.tmp 15) _ _ rfl _ _ (by simp [Act.eval, Act.put]) (by simp [Act.eval, Act.put]) hr5 ?_))
        go_roundw
        case rel => exact ⟨j + 1, _, _, _, by omega, by go_num, rfl, R5.out.1, R5.out.2.1, R5.out.2.2.1, R5.out.2.2.2⟩
        case measure => simp [intOf]; omega
      | false =>
        rw [hb] at hc hs
        clear hb
        go_wp2_with fail
        go_roundw
        case rel => exact ⟨j + 1, A, n, c, by omega, by go_num, rfl, by rw [hs.out, if_neg (by decide)]; exact HW.out, HO.out, HB.out, by rw [hs.out, if_neg (by decide)]; exact HN.out⟩
        case measure => simp [intOf]; omega
    · obtain rfl : j = 12 := by omega
      go_wp2_with fail
      go_ret
      exact ⟨_, rfl, by rw [← HN.out]; exact HW.out, HO.out⟩
end Go.Proofs.Ytiigebdmkibnbaa
