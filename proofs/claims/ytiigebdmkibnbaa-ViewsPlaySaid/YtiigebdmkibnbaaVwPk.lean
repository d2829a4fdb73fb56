/- The document's Known. No statement of the seat is proved here. -/
import Derived.Test.YtiigebdmkibnbaaVwP
namespace Go.Proofs.Ytiigebdmkibnbaa
open Go.RowKit
set_option linter.all false
set_option maxRecDepth 100000

set_option maxHeartbeats 6400000 in
theorem rv_knownN (self : Int) (f g : Nat → Bool) (a p : Nat) (w : World) :
    Calls Try.prog 31 #[.agg (vrw self f g a p)] w fun e w' => ∃ v', e = .returned v' ∧ w'.ownsRow w.heap.size 3 1 v' (lstN (fun i => f i || g i) 12).length (nums (lstN (fun i => f i || g i) 12)) ∧ Only none_ w w' := by
  obtain ⟨i0, hi0, hz0, hz1, hz2⟩ := info_parts int_info
  have hB : Hid (Blk (w.alloc (.cells (vrw self f g a p) 31)) w.heap.size 31 (vrw self f g a p)) := Blk.new _ _ _
  have hm := own_made (w.alloc (.cells (vrw self f g a p) 31)) (w.heap.size + 1) 3 1 0 #[] (by simp) (by simp [maxLen]) (by simp)
  rw [World.size_alloc] at hm
  have M1 : Hid (((w.alloc (.cells (vrw self f g a p) 31)).alloc (.cells #[] 3)).ownsRow w.heap.size 3 1 (.slice (some ⟨w.heap.size + 1, 0, none⟩) 0 0) 0 []) := owns_base hm (by omega)
  have O1 : Hid (Only none_ w ((w.alloc (.cells (vrw self f g a p) 31)).alloc (.cells #[] 3))) := ((Only.refl none_ w).alloc _).alloc _
  have B1 := Lib.hid (hB.out.alloc (.cells #[] 3))
  clear hm hB
  go_enter Try.func31, Try.ntmps31
  go_wp2_with fail
  generalize (w.alloc (.cells (vrw self f g a p) 31)).alloc (.cells #[] 3) = W1 at *
  go_loopw [3, 4] (fun v3 v4 wr => ∃ (j : Nat) (A : Option Addr) (n c : Nat), j ≤ 12 ∧ v4 = .int .i64 (j : Int) ∧ v3 = .slice A n c ∧ wr.ownsRow w.heap.size 3 1 (.slice A n c) n (nums (lstN (fun i => f i || g i) j)) ∧ Only none_ w wr ∧ Blk wr w.heap.size 31 (vrw self f g a p) ∧ n = (lstN (fun i => f i || g i) j).length) (fun _ v4 _ => 12 - (intOf v4).toNat)
  case atStart => exact ⟨0, _, _, _, by omega, rfl, rfl, M1.out, O1.out, B1.out, rfl⟩
  case round =>
    obtain ⟨j, A, n, c, hj, rfl, rfl, hown, ho, hb1, hn⟩ := hrel
    have HW := Lib.hid hown
    have HO := Lib.hid ho
    have HB := Lib.hid hb1
    have HN := Lib.hid hn
    clear hown ho hb1 hn
    by_cases hjl : j < 12
    · have hji : (j : Int) < 12 := by omega
      have hc := HB.out.cell_ (vrw_A (self := self) (f := f) (g := g) (a := a) (p := p) hjl)
      have hd := HB.out.cell_ (vrw_P (self := self) (f := f) (g := g) (a := a) (p := p) hjl)
      have hs := Lib.hid (lstN_succ (fun i => f i || g i) j)
      have hn12 : n ≤ 12 := by rw [HN.out]; exact Nat.le_trans (lstN_len (fun i => f i || g i) j) hj
      cases hb : f j with
      | true =>
        rw [hb] at hc
        have hs : Hid (lstN (fun i => f i || g i) (j + 1) = if true = true then lstN (fun i => f i || g i) j ++ [(j : Int)] else lstN (fun i => f i || g i) j) := by rw [Hid]; have := hs.out; simpa [hb] using this
        clear hb hd
        have HNX : Hid (n + 1 ≤ maxLen ∧ (n + 1) * 8 ≤ 140737488355328) := by simp only [Hid, maxLen]; omega
        have BV : Hid (Cel (wr.alloc (.cells #[.int .i64 (j : Int)] 3)) (fun b => b = wr.heap.size) (.slice (some ⟨wr.heap.size, 0, none⟩) 1 1) 1 1 (nums [(j : Int)])) := nm_made1 wr 3 j
        have WV := Lib.hid (owns_only HW.out ((Only.refl none_ wr).alloc (.cells #[.int .i64 (j : Int)] 3)) (fun _ _ e => e))
        have hsz : w.heap.size ≤ (wr.alloc (.cells #[.int .i64 (j : Int)] 3)).heap.size := by rw [World.size_alloc]; have := HO.out.size; omega
        have OV : Hid (Only none_ w (wr.alloc (.cells #[.int .i64 (j : Int)] 3)) ∧ Blk (wr.alloc (.cells #[.int .i64 (j : Int)] 3)) w.heap.size 31 (vrw self f g a p)) := ⟨HO.out.alloc _, HB.out.alloc _⟩
        have h1z := nums_one [(j : Int)]
        have SV := Lib.hid WV.out
        have hcz : ∀ i u, (nums [(j : Int)])[i]? = some u → (wr.alloc (.cells #[.int .i64 (j : Int)] 3)).cell? ((⟨wr.heap.size, 0, none⟩ : Addr).add i) = some u := fun i u hu => by
          have e1 : (⟨wr.heap.size, 0, none⟩ : Addr).add i = ⟨wr.heap.size, i, none⟩ := by unfold Addr.add; split <;> simp_all
          rw [e1]
          exact (Blk.new wr 3 #[.int .i64 (j : Int)]).cell_ (by simpa [nums] using hu)
        obtain ⟨v5, w5, hr5, ho5, hg5, _, _⟩ := run_append_own_at (P := Try.prog) (wr.alloc (.cells #[.int .i64 (j : Int)] 3)) w.heap.size 22 22 3 i0 _ 1 8 Try.underlying22 hi0 hz0 hz1 hz2 rfl (by omega) (.slice A n c) n (nums (lstN (fun i => f i || g i) j)) WV.out ⟨wr.heap.size, 0, none⟩ 1 1 (nums [(j : Int)]) rfl hcz h1z HNX.out.1 HNX.out.2 hsz
        obtain ⟨A5, n5, c5, e4⟩ := own_sl ho5
        subst e4
        have e5 : n + 1 = n5 := (own_len ho5).symm
        have o5 : Only none_ w w5 ∧ Blk w5 w.heap.size 31 (vrw self f g a p) := ⟨OV.out.1.of_none.grown hg5 (fun k hk => .inr (WV.out.lt k hk).1), OV.out.2.grown' hg5 (own_blk_ne WV.out OV.out.2 (by decide))⟩
        have R5 : Hid (w5.ownsRow w.heap.size 3 1 (.slice A5 n5 c5) n5 (nums (lstN (fun i => f i || g i) (j + 1))) ∧ Only none_ w w5 ∧ Blk w5 w.heap.size 31 (vrw self f g a p) ∧ n5 = (lstN (fun i => f i || g i) (j + 1)).length) := by
          rw [hs.out, if_pos rfl, nums_append, ← e5]
          rw [← e5] at ho5
          exact ⟨ho5, o5.1, o5.2, by rw [List.length_append, ← HN.out]; rfl⟩
        clear ho5 hg5 e5 o5 hcz
        go_upto_region 6 with fail
        refine wp_region_lit ?_
        go_wp2_with (first
          | (at_builtin; refine wpList_append_run2 rfl (.tmp 20) (.tmp 22) _ _ rfl _ _ (by simp [Act.eval, Act.put]) (by simp [Act.eval, Act.put]) hr5 ?_))
        go_roundw
        case rel => exact ⟨j + 1, _, _, _, by omega, by go_num, rfl, R5.out.1, R5.out.2.1, R5.out.2.2.1, R5.out.2.2.2⟩
        case measure => simp [intOf]; omega
      | false =>
        cases hb2 : g j with
        | true =>
          rw [hb] at hc
          rw [hb2] at hd
          have hs : Hid (lstN (fun i => f i || g i) (j + 1) = if true = true then lstN (fun i => f i || g i) j ++ [(j : Int)] else lstN (fun i => f i || g i) j) := by rw [Hid]; have := hs.out; simpa [hb, hb2] using this
          clear hb hb2
          have HNX : Hid (n + 1 ≤ maxLen ∧ (n + 1) * 8 ≤ 140737488355328) := by simp only [Hid, maxLen]; omega
          have BV : Hid (Cel (wr.alloc (.cells #[.int .i64 (j : Int)] 3)) (fun b => b = wr.heap.size) (.slice (some ⟨wr.heap.size, 0, none⟩) 1 1) 1 1 (nums [(j : Int)])) := nm_made1 wr 3 j
          have WV := Lib.hid (owns_only HW.out ((Only.refl none_ wr).alloc (.cells #[.int .i64 (j : Int)] 3)) (fun _ _ e => e))
          have hsz : w.heap.size ≤ (wr.alloc (.cells #[.int .i64 (j : Int)] 3)).heap.size := by rw [World.size_alloc]; have := HO.out.size; omega
          have OV : Hid (Only none_ w (wr.alloc (.cells #[.int .i64 (j : Int)] 3)) ∧ Blk (wr.alloc (.cells #[.int .i64 (j : Int)] 3)) w.heap.size 31 (vrw self f g a p)) := ⟨HO.out.alloc _, HB.out.alloc _⟩
          have h1z := nums_one [(j : Int)]
          have SV := Lib.hid WV.out
          have hcz : ∀ i u, (nums [(j : Int)])[i]? = some u → (wr.alloc (.cells #[.int .i64 (j : Int)] 3)).cell? ((⟨wr.heap.size, 0, none⟩ : Addr).add i) = some u := fun i u hu => by
            have e1 : (⟨wr.heap.size, 0, none⟩ : Addr).add i = ⟨wr.heap.size, i, none⟩ := by unfold Addr.add; split <;> simp_all
            rw [e1]
            exact (Blk.new wr 3 #[.int .i64 (j : Int)]).cell_ (by simpa [nums] using hu)
          obtain ⟨v5, w5, hr5, ho5, hg5, _, _⟩ := run_append_own_at (P := Try.prog) (wr.alloc (.cells #[.int .i64 (j : Int)] 3)) w.heap.size 22 22 3 i0 _ 1 8 Try.underlying22 hi0 hz0 hz1 hz2 rfl (by omega) (.slice A n c) n (nums (lstN (fun i => f i || g i) j)) WV.out ⟨wr.heap.size, 0, none⟩ 1 1 (nums [(j : Int)]) rfl hcz h1z HNX.out.1 HNX.out.2 hsz
          obtain ⟨A5, n5, c5, e4⟩ := own_sl ho5
          subst e4
          have e5 : n + 1 = n5 := (own_len ho5).symm
          have o5 : Only none_ w w5 ∧ Blk w5 w.heap.size 31 (vrw self f g a p) := ⟨OV.out.1.of_none.grown hg5 (fun k hk => .inr (WV.out.lt k hk).1), OV.out.2.grown' hg5 (own_blk_ne WV.out OV.out.2 (by decide))⟩
          have R5 : Hid (w5.ownsRow w.heap.size 3 1 (.slice A5 n5 c5) n5 (nums (lstN (fun i => f i || g i) (j + 1))) ∧ Only none_ w w5 ∧ Blk w5 w.heap.size 31 (vrw self f g a p) ∧ n5 = (lstN (fun i => f i || g i) (j + 1)).length) := by
            rw [hs.out, if_pos rfl, nums_append, ← e5]
            rw [← e5] at ho5
            exact ⟨ho5, o5.1, o5.2, by rw [List.length_append, ← HN.out]; rfl⟩
          clear ho5 hg5 e5 o5 hcz
          go_upto_region 6 with fail
          refine wp_region_lit ?_
          go_wp2_with (first
            | (at_builtin; refine wpList_append_run2 rfl (.tmp 20) (.tmp 22) _ _ rfl _ _ (by simp [Act.eval, Act.put]) (by simp [Act.eval, Act.put]) hr5 ?_))
          go_roundw
          case rel => exact ⟨j + 1, _, _, _, by omega, by go_num, rfl, R5.out.1, R5.out.2.1, R5.out.2.2.1, R5.out.2.2.2⟩
          case measure => simp [intOf]; omega
        | false =>
          rw [hb] at hc
          rw [hb2] at hd
          have hs : Hid (lstN (fun i => f i || g i) (j + 1) = if false = true then lstN (fun i => f i || g i) j ++ [(j : Int)] else lstN (fun i => f i || g i) j) := by rw [Hid]; have := hs.out; simpa [hb, hb2] using this
          clear hb hb2
          go_wp2_with fail
          go_roundw
          case rel => exact ⟨j + 1, A, n, c, by omega, by go_num, rfl, by rw [hs.out, if_neg (by decide)]; exact HW.out, HO.out, HB.out, by rw [hs.out, if_neg (by decide)]; exact HN.out⟩
          case measure => simp [intOf]; omega
    · obtain rfl : j = 12 := by omega
      go_wp2_with fail
      go_ret
      exact ⟨_, rfl, by rw [← HN.out]; exact HW.out, HO.out⟩
theorem vkn_fb {s : Vm} (h : Vok s) : lstN (fun i => fb s.act i || fb s.pas i) 12 = vkn s :=
  lst_eq (vkn_rl h) (fun i _ => by simp [fb, vkn_mem])
theorem rv_known (s : Vm) (h : Vok s) (w : World) :
    Calls Try.prog 31 #[.agg (drow s)] w fun e w' => ∃ A c, e = .returned (.slice A (vkn s).length c) ∧ Nm w' (fun b => w.heap.size ≤ b) (.slice A (vkn s).length c) (vkn s) ∧ Only none_ w w' := by
  refine (rv_knownN s.self (fb s.act) (fb s.pas) s.a s.p w).mono ?_
  rw [vkn_fb h]
  rintro e w' ⟨v, rfl, h1, h2⟩
  obtain ⟨A, n, c, rfl⟩ := own_sl h1
  obtain rfl : (vkn s).length = n := (own_len h1).symm
  exact ⟨A, c, rfl, (Cel.of_own h1).mono (fun b _ hb => (h1.lt b hb).1), h2⟩
end Go.Proofs.Ytiigebdmkibnbaa
