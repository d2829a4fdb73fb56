/- Texts of mine, one behind the other: TbBe, Opn, Pce, TbCe, Pcs, Rws, TbDe. No statement of the seat is proved here. -/
import Derived.Test.YtoohpcomnhfgpaaGreatHn4
import Derived.Test.YtoohpcomnhfgpaaGreatHn1
import Derived.Test.YtoohpcomnhfgpaaGreatHn3
import Derived.Deep.RegionLaw
import Derived.Test.YtoohpcomnhfgpaaGreatRows
import Derived.ProofKit
import Derived.OpenShut
import Derived.ShutString
import Derived.ChangeOld
import Derived.Deep.Slices
import Derived.Deep.Fields
import Derived.Lib.SmallJoins
import Derived.Laws.Tables
import Derived.Test.YtoohpcomnhfgpaaGreatHn2
section
namespace Go.Proofs.YtoohpcomnhfgpaaGreat.Se
open Go.RowKit
set_option maxRecDepth 100000
set_option linter.all false
theorem pairI_info : (Tryz.prog.info? 240).map (fun i => (i.zero, i.size, i.bytes)) = some (some (.agg #[.string ⟨#[]⟩, .string ⟨#[]⟩, .string ⟨#[]⟩, .bool false, .int .i64 0, .int .i64 0, .int .i64 0, .int .i64 0, .int .i64 0, .int .i64 0]), 10, 104) := by kernel_rfl
set_option maxHeartbeats 3200000 in
theorem insI_end (base : Nat) (A : Option Addr) (n c vb : Nat) (xs ys : List Value) (w : World) (h : w.ownsRow base 240 10 (.slice A n c) n xs) (hn : n ≤ 4096) (hb : base ≤ w.heap.size)
    (hv : Blk w vb 240 ys.toArray) (hy : ys.length = 10) (h1y : ∀ u ∈ ys, u.oneCell' = true) :
    Calls Tryz.prog 203 #[.slice A n c, .int .i64 n, .slice (some ⟨vb, 0, none⟩) 1 1] w fun e w' => ∃ v', e = .returned v' ∧ w'.ownsRow base 240 10 v' (n + 1) (xs ++ ys) ∧ Only (ownb (.slice A n c)) w w' ∧ Moved w (.slice A n c) v' := by
  obtain ⟨i0, hi0, hz0, hz1, hz2⟩ := info_parts pairI_info
  have H := Lib.hid h
  have CY : Hid (Cel w (fun b => b = vb) (.slice (some ⟨vb, 0, none⟩) 1 1) 1 10 ys) := ⟨_, _, rfl, by simpa using hy, Nat.le_refl _, by simp [maxLen], fun e => by (cases e), fun _ => ⟨vb, 0, rfl, rfl, hv.lt, fun j u hu => by rw [Nat.zero_add]; exact hv.cell_ (by simpa using hu)⟩⟩
  obtain ⟨A', hsl⟩ := sl_lo_any Tryz.underlying241 hi0 A n c n (Nat.le_refl _) (n : Int) rfl
  have HN : Hid (n + 1 ≤ maxLen ∧ (n + 1) * 104 ≤ 140737488355328) := by simp only [Hid, maxLen]; omega
  clear h hv hy
  go_enter Tryz.func203, Tryz.ntmps203
  go_wp2_with (first
    | (at_builtin; refine wpList_append_cel _ rfl (.tmp 23) (.tmp 24) 241 rfl base 240 i0 _ 10 104 Tryz.underlying241 hi0 hz0 hz1 hz2 rfl (by omega) _ n xs rfl H.out _ _ 1 ys rfl CY.out h1y HN.out.1 HN.out.2 hb ?_
       intro A5 n5 c5 w5 hown5 hgrow5 hmv5
       have R5 : Hid (w5.ownsRow base 240 10 (.slice A5 n5 c5) (n + 1) (xs ++ ys) ∧ Only (ownb (.slice A n c)) w w5 ∧ Moved w (.slice A n c) (.slice A5 n5 c5)) := ⟨hown5, (Only.refl (ownb _) w).grown hgrow5 (fun k hk => .inl hk), hmv5⟩
       clear hown5 hgrow5 hmv5))
  go_ret
  exact ⟨_, rfl, R5.out⟩
set_option maxHeartbeats 6400000 in
theorem insI_mid (base g n c i vb : Nat) (cur xs ys : List Value) (w : World) (h : Rw_ w base g 240 10 c cur) (hx : cur.take (n * 10) = xs) (hin : i < n) (hnc : n ≤ c) (hn : n ≤ 4096) (hb : base ≤ w.heap.size)
    (hv : Blk w vb 240 ys.toArray) (hne : vb ≠ g) (hy : ys.length = 10) (h1x : ∀ u ∈ xs, u.oneCell' = true) (h1y : ∀ u ∈ ys, u.oneCell' = true) :
    Calls Tryz.prog 203 #[.slice (some ⟨g, 0, none⟩) n c, .int .i64 i, .slice (some ⟨vb, 0, none⟩) 1 1] w fun e w' => ∃ v', e = .returned v' ∧ w'.ownsRow base 240 10 v' (n + 1) (xs.take (i * 10) ++ ys ++ xs.drop (i * 10)) ∧ Only (one g) w w' ∧
      (∀ k, v'.ownBlock = some k → k = g ∨ w.heap.size ≤ k) := by
  obtain ⟨i0, hi0, hz0, hz1, hz2⟩ := info_parts pairI_info
  have hxl : xs.length = n * 10 := by rw [← hx, List.length_take, h.cs]; omega
  have hxd : ∀ u ∈ xs.drop (i * 10), u.oneCell' = true := fun u hu => h1x u (List.mem_of_mem_drop hu)
  have hdl : (xs.drop (i * 10)).length = (n - i) * 10 := by rw [List.length_drop, hxl]; omega
  have hcl := h.cs
  have hglt := h.lt
  have hin0 : (i : Int) ≠ (n : Int) := by omega
  have hin1 : ((i : Int) == (n : Int)) = false := by simp; omega
  have hin2 : ¬ (i = n) := by omega
  have hsl0 := sl_lo0 Tryz.underlying241 hi0 hz1 g n c i (by omega) (by omega) (i : Int) rfl
  have hw1 : IntKind.i64.wrap ((n : Int) + 1) = (n : Int) + 1 := IntWalk.i64_in _ (by omega)
  have hw2 : IntKind.i64.wrap ((i : Int) + 1) = (i : Int) + 1 := IntWalk.i64_in _ (by omega)
  have hsrcx : ∀ (w' : World), Rw_ w' base g 240 10 c cur → ∀ j v, (xs.drop (i * 10))[j]? = some v → w'.cell? ((⟨g, i * 10, none⟩ : Addr).add j) = some v := by
    intro w' h' j v hj
    have e1 : (⟨g, i * 10, none⟩ : Addr).add j = ⟨g, i * 10 + j, none⟩ := by unfold Addr.add; split <;> simp_all
    rw [e1, h'.cell]
    rw [List.getElem?_drop, ← hx, List.getElem?_take] at hj
    split at hj
    · exact hj
    · cases hj
  have hsrcy : ∀ (w' : World), Blk w' vb 240 ys.toArray → ∀ j v, ys[j]? = some v → w'.cell? ((⟨vb, 0, none⟩ : Addr).add j) = some v := by
    intro w' h' j v hj
    have e1 : (⟨vb, 0, none⟩ : Addr).add j = ⟨vb, j, none⟩ := by unfold Addr.add; split <;> simp_all
    rw [e1]
    exact h'.cell_ (by simpa using hj)
  by_cases hroom : n + 1 ≤ c
  · have hgt : ¬ ((c : Int) < (n : Int) + 1) := by omega
    have hgt2 : ¬ (c < n + 1) := by omega
    have hsl1 := sl_hi Tryz.underlying241 hi0 g 0 n c (n + 1) hroom ((n : Int) + 1) (by omega)
    have hsl2 := sl_lo0 Tryz.underlying241 hi0 hz1 g (n + 1) c (i + 1) (by omega) (by omega) ((i : Int) + 1) (by omega)
    have hsl3 := sl_lo0 Tryz.underlying241 hi0 hz1 g (n + 1) c i (by omega) (by omega) (i : Int) rfl
    have hov : ∀ lb cb, (callFunc 234 #[.slice (some ⟨vb, 0, none⟩) 1 1, .slice (some ⟨g, (i + 1) * 10, none⟩) lb cb]).run Tryz.prog w = .ok (.value (.bool false)) w := fun lb cb => by
      rw [run_callFunc_extern Tryz.func234 (by kernel_rfl) (by kernel_rfl) (by kernel_rfl) (e := Extern.SlicesOverlaps.overlaps #[241, 241] #[4]) (by kernel_rfl),
        Lib.run_overlaps_apart w 241 4 240 Tryz.underlying241 10 (fun w => by simp [sizeOf, typeInfo, hi0, hz1]) ⟨vb, 0, none⟩ ⟨g, (i + 1) * 10, none⟩ 1 1 lb cb hne 240 240 ys.toArray.size cur.toArray.size
          (by have hv' := hv; unfold Blk at hv'; simp [World.shape?, hv']) (by have hb' := h.bk; simp [World.shape?, hb']) (by simp [hcl]; omega) (hv.frozen 0) (hv.frozen _)]
      rfl
    obtain ⟨W1, hW1⟩ : ∃ W1, W1 = w.drew.setRow g (putAt cur ((i + 1) * 10) (xs.drop (i * 10))).toArray := ⟨_, rfl⟩
    have hlen1 : (putAt cur ((i + 1) * 10) (xs.drop (i * 10))).length = cur.length := putAt_len (by rw [hdl, hcl]; omega)
    have R1 : Hid (Rw_ W1 base g 240 10 c (putAt cur ((i + 1) * 10) (xs.drop (i * 10)))) := by rw [hW1]; exact h.drew.set hlen1
    have O1 : Hid (Only (one g) w W1) := by rw [hW1]; exact ((Only.refl (one g) w).drew).setRow (.inl rfl) _
    have hcp1 : ∀ ty dc sc, (Builtin.copy_ #[241, 241] ty #[.slice (some ⟨g, (i + 1) * 10, none⟩) (n - i) dc, .slice (some ⟨g, i * 10, none⟩) (n + 1 - i) sc]).run Tryz.prog w.drew = .ok (goInt (Nat.min (n + 1 - i) (n - i))) W1 := fun ty dc sc => by
      rw [hW1]
      have := run_copy_k (P := Tryz.prog) w.drew _ 241 ty _ i0 10 Tryz.underlying241 hi0 hz1 base g ((i + 1) * 10) (n - i) dc c cur h.drew ⟨g, i * 10, none⟩ (n + 1 - i) sc (xs.drop (i * 10)) (by rw [hdl]; congr 1; simp only [Nat.min_def]; split <;> omega) (hsrcx _ h.drew) (by rw [hdl, hcl]; omega) hxd
      exact this
    have V1 : Hid (Blk W1 vb 240 ys.toArray) := hv.only O1.out (fun e => hne e)
    obtain ⟨W2, hW2⟩ : ∃ W2, W2 = W1.setRow g (putAt (putAt cur ((i + 1) * 10) (xs.drop (i * 10))) (i * 10) ys).toArray := ⟨_, rfl⟩
    have hcp2 : ∀ ty dc, (Builtin.copy_ #[241, 241] ty #[.slice (some ⟨g, i * 10, none⟩) (n + 1 - i) dc, .slice (some ⟨vb, 0, none⟩) 1 1]).run Tryz.prog W1 = .ok (goInt (Nat.min 1 (n + 1 - i))) W2 := fun ty dc => by
      rw [hW2]
      have := run_copy_k (P := Tryz.prog) W1 _ 241 ty _ i0 10 Tryz.underlying241 hi0 hz1 base g (i * 10) (n + 1 - i) dc c _ R1.out ⟨vb, 0, none⟩ 1 1 ys (by rw [hy, show Nat.min 1 (n + 1 - i) = 1 from Nat.min_eq_left (by omega)]) (hsrcy _ V1.out) (by rw [hlen1, hy, hcl]; omega) h1y
      exact this
    have F : Hid (W2.ownsRow base 240 10 (.slice (some ⟨g, 0, none⟩) (n + 1) c) (n + 1) (xs.take (i * 10) ++ ys ++ xs.drop (i * 10)) ∧ Only (one g) w W2) := by
      constructor
      · rw [hW2]
        refine (R1.out.set (putAt_len (by rw [hlen1, hy, hcl]; omega))).own (n + 1) _ hroom ?_
        exact ins_shift cur xs ys 10 n i (by rw [hcl]; omega) hx hy (by omega)
      · rw [hW2]; exact O1.out.setRow (.inl rfl) _
    generalize Nat.min (n + 1 - i) (n - i) = m1 at hcp1
    generalize Nat.min 1 (n + 1 - i) = m2 at hcp2
    have HC1 := Lib.hid hcp1
    clear hcp1 h hx hv hxl hxd hdl hcl hsrcx hsrcy hlen1 hW1 hW2 hn hb h1x h1y hy
    go_enter Tryz.func203, Tryz.ntmps203
    go_wp2_with fail
    go_region_law (first
      | (refine step_copy_run rfl (.tmp 73) (.tmp 76) _ _ rfl (.slice (some ⟨g, (i + 1) * 10, none⟩) (n - i) (c - (i + 1))) (.slice (some ⟨g, i * 10, none⟩) (n + 1 - i) (c - i)) (by simp [Act.eval, Act.put]) (by simp [Act.eval, Act.put]) (HC1.out _ _ _) ?_))
    all_goals go_wp2_with fail
    all_goals go_ret
    all_goals exact ⟨_, rfl, F.out.1, F.out.2, fun k hk => .inl (by have e : some g = some k := hk; injection e with e; exact e.symm)⟩
  · obtain rfl : c = n := by omega
    have hgt : ((c : Int) < (c : Int) + 1) := by omega
    have hsl1 := sl_hi Tryz.underlying241 hi0 g 0 c c i (by omega) (i : Int) rfl
    have hw3 : IntKind.i64.wrap ((c : Int) + 1 - (i : Int)) = (c : Int) + 1 - (i : Int) := IntWalk.i64_in _ (by omega)
    have hw4 : ((c + 1 - i : Nat) : Int) = (c : Int) + 1 - (i : Int) := by omega
    obtain ⟨G, curN, W1, hrun1, hrw1, hG, htk1, o1, hs1⟩ := app_zero (P := Tryz.prog) w 3 241 _ .i64 .i64 Tryz.underlying241 Tryz.underlying3 hi0 hz0 hz1 rfl base g i c c cur h (by omega) (c + 1 - i) (by omega) (by omega) (by omega) (by omega) (by rw [hz2]; decide) hb
    have hiG : i + (c + 1 - i) = c + 1 := by omega
    rw [hiG, hw4] at hrun1
    rw [hiG] at hG
    clear hw4
    have R1 := Lib.hid hrw1
    obtain ⟨N, hN⟩ : ∃ N, w.heap.size = N := ⟨_, rfl⟩
    have HNN := Lib.hid hN
    rw [hN] at hrun1 R1 hglt
    have hcl1 := R1.out.cs
    have G1 : Hid (Rw_ W1 base g 240 10 c cur) := h.only o1 (fun h => h)
    have V1 : Hid (Blk W1 vb 240 ys.toArray) := hv.only o1 (fun h => h)
    have hvN : vb ≠ N := by have := hv.lt; omega
    have hgN : g ≠ N := by omega
    obtain ⟨W2, hW2⟩ : ∃ W2, W2 = W1.setRow N (putAt curN (i * 10) ys).toArray := ⟨_, rfl⟩
    have hlen2 : (putAt curN (i * 10) ys).length = curN.length := putAt_len (by rw [hy, hcl1]; omega)
    have R2 : Hid (Rw_ W2 base N 240 10 G (putAt curN (i * 10) ys)) := by rw [hW2]; exact R1.out.set hlen2
    have O2 : Hid (Only (one N) W1 W2) := by rw [hW2]; exact only_row N _
    have G2 : Hid (Rw_ W2 base g 240 10 c cur) := G1.out.only O2.out (fun e => hgN e)
    have hsl2 := sl_lo0 Tryz.underlying241 hi0 hz1 N (c + 1) G i (by omega) (by omega) (i : Int) rfl
    have hsl3 := sl_lo0 Tryz.underlying241 hi0 hz1 N (c + 1) G (i + 1) (by omega) (by omega) ((i : Int) + 1) (by omega)
    have hcp1 : ∀ ty dc, (Builtin.copy_ #[241, 241] ty #[.slice (some ⟨N, i * 10, none⟩) (c + 1 - i) dc, .slice (some ⟨vb, 0, none⟩) 1 1]).run Tryz.prog W1 = .ok (goInt (Nat.min 1 (c + 1 - i))) W2 := fun ty dc => by
      rw [hW2]
      have := run_copy_k (P := Tryz.prog) W1 _ 241 ty _ i0 10 Tryz.underlying241 hi0 hz1 base N (i * 10) (c + 1 - i) dc G _ R1.out ⟨vb, 0, none⟩ 1 1 ys (by rw [hy, show Nat.min 1 (c + 1 - i) = 1 from Nat.min_eq_left (by omega)]) (hsrcy _ V1.out) (by rw [hy, hcl1]; omega) h1y
      exact this
    obtain ⟨W3, hW3⟩ : ∃ W3, W3 = W2.drew.setRow N (putAt (putAt curN (i * 10) ys) ((i + 1) * 10) (xs.drop (i * 10))).toArray := ⟨_, rfl⟩
    have hcp2 : ∀ ty dc sc, (Builtin.copy_ #[241, 241] ty #[.slice (some ⟨N, (i + 1) * 10, none⟩) (c - i) dc, .slice (some ⟨g, i * 10, none⟩) (c - i) sc]).run Tryz.prog W2.drew = .ok (goInt (Nat.min (c - i) (c - i))) W3 := fun ty dc sc => by
      rw [hW3]
      have := run_copy_k (P := Tryz.prog) W2.drew _ 241 ty _ i0 10 Tryz.underlying241 hi0 hz1 base N ((i + 1) * 10) (c - i) dc G _ R2.out.drew ⟨g, i * 10, none⟩ (c - i) sc (xs.drop (i * 10)) (by rw [hdl]; congr 1; simp only [Nat.min_def]; split <;> omega) (hsrcx _ G2.out.drew) (by rw [hlen2, hdl, hcl1]; omega) hxd
      exact this
    have F : Hid (W3.ownsRow base 240 10 (.slice (some ⟨N, 0, none⟩) (c + 1) G) (c + 1) (xs.take (i * 10) ++ ys ++ xs.drop (i * 10)) ∧ Only (one g) w W3 ∧ w.heap.size ≤ N) := by
      refine ⟨?_, ?_, by omega⟩
      · rw [hW3]
        refine (R2.out.drew.set (putAt_len (by rw [hlen2, hdl, hcl1]; omega))).own (c + 1) _ hG ?_
        exact ins_fresh cur curN xs ys 10 c i (by rw [hcl1]; omega) htk1 hx hy hxl (by omega)
      · have o3 : Only (one N) W1 W3 := by rw [hW3]; exact (O2.out.drew).setRow (.inl rfl) _
        exact (o1.of_none).trans' o3 (fun k hk e => by have e' : k = N := e; omega)
    generalize Nat.min 1 (c + 1 - i) = m1 at hcp1
    generalize Nat.min (c - i) (c - i) = m2 at hcp2
    have HC2 := Lib.hid hcp2
    have HR1 := Lib.hid hrun1
    clear hcp2 hrun1 h hx hv hxl hxd hdl hcl hcl1 hsrcx hsrcy hlen2 hW2 hW3 hn hb h1x h1y hy hrw1 hG htk1 o1 hs1 hN hiG
    go_enter Tryz.func203, Tryz.ntmps203
    go_wp2_with (first
      | (at_builtin; refine wpList_append_run2 rfl (.tmp 34) (.tmp 39) _ _ rfl _ _ rfl rfl HR1.out ?_))
    go_region_law (first
      | (refine step_copy_run rfl (.tmp 50) (.tmp 53) _ _ rfl (.slice (some ⟨N, (i + 1) * 10, none⟩) (c - i) (G - (i + 1))) (.slice (some ⟨g, i * 10, none⟩) (c - i) (c - i)) (by simp [Act.eval, Act.put]) (by simp [Act.eval, Act.put]) (HC2.out _ _ _) ?_))
    all_goals go_wp2_with fail
    all_goals go_ret
    all_goals exact ⟨_, rfl, F.out.1, F.out.2.1, fun k hk => .inr (by have e : some N = some k := hk; injection e with e; have := F.out.2.2; omega)⟩
set_option maxHeartbeats 3200000 in
theorem cloI (A : Option Addr) (n c : Nat) (S : Nat → Prop) (xs : List Value) (w : World) (h : Cel w S (.slice A n c) n 10 xs) (hn : n ≤ 4096) (h1x : ∀ u ∈ xs, u.oneCell' = true) :
    Calls Tryz.prog 133 #[.slice A n c] w fun e w' => ∃ v', e = .returned v' ∧ w'.ownsRow w.heap.size 240 10 v' n xs ∧ Only none_ w w' := by
  obtain ⟨i0, hi0, hz0, hz1, hz2⟩ := info_parts pairI_info
  have H := Lib.hid h
  have hnil := fun w a n c => Lib.run_eql_slice_nil (P := Tryz.prog) w 241 240 a n c 0 0 Tryz.underlying241
  have HN : Hid (0 + n ≤ maxLen ∧ (0 + n) * 104 ≤ 140737488355328) := by simp only [Hid, maxLen]; omega
  cases A with
  | none =>
    have hz : n = 0 ∧ xs = [] ∧ c = 0 := by
      obtain ⟨A', c', e, h0, h1, h2, h3, h4⟩ := h
      injection e with e1 e2 e3
      have hc0 := h3 e1.symm
      have hn0 : n = 0 := by omega
      exact ⟨hn0, List.eq_nil_of_length_eq_zero (by omega), by omega⟩
    obtain ⟨rfl, rfl, rfl⟩ := hz
    clear h H
    go_enter Tryz.func133, Tryz.ntmps133
    go_wp2_with fail
    go_ret
    exact ⟨_, rfl, World.ownsRow_nil _ _ _ _, Only.refl _ _⟩
  | some a =>
    have C1 : Hid (Cel (w.alloc (.cells #[] 240)) S (.slice (some a) n c) n 10 xs) := h.alloc _
    have M1 : Hid ((w.alloc (.cells #[] 240)).ownsRow w.heap.size 240 10 (.slice (some ⟨w.heap.size, 0, none⟩) 0 0) 0 []) := own_made w w.heap.size _ 10 0 #[] (by simp) (by simp [maxLen]) (Nat.le_refl _)
    have hb1 : w.heap.size ≤ (w.alloc (.cells #[] 240)).heap.size := by rw [World.size_alloc]; omega
    clear h
    go_enter Tryz.func133, Tryz.ntmps133
    go_wp2_with (first
      | (at_builtin; refine wpList_append_cel _ rfl (.tmp 5) (.tmp 6) 241 rfl w.heap.size 240 i0 _ 10 104 Tryz.underlying241 hi0 hz0 hz1 hz2 rfl (by omega) _ 0 [] rfl M1.out _ _ n xs rfl C1.out h1x HN.out.1 HN.out.2 hb1 ?_
         intro A5 n5 c5 w5 hown5 hgrow5 hmv5
         have R5 : Hid (w5.ownsRow w.heap.size 240 10 (.slice A5 n5 c5) n xs ∧ Only none_ w w5) := ⟨by simpa using hown5, (((Only.refl none_ w).alloc _).of_none.grown hgrow5 (fun k hk => .inr (by have e : some w.heap.size = some k := hk; injection e with e; omega)))⟩
         clear hown5 hgrow5 hmv5))
    go_ret
    exact ⟨_, rfl, R5.out.1, R5.out.2⟩
end Go.Proofs.YtoohpcomnhfgpaaGreat.Se
end
section
namespace Go.Proofs.YtoohpcomnhfgpaaGreat
open Go.ChangeShapes Go.WideShapes Go.ChangeAt Go.RowKit
set_option linter.unusedVariables false
theorem own : ownKnob Tryz.prog.godebug = none := by kernel_rfl
theorem laidOut : laidOutB Tryz.prog = true := by kernel_rfl
theorem add_plain (b off n : Nat) : (⟨b, off, none⟩ : Addr).add n = ⟨b, off + n, none⟩ := by unfold Addr.add; split <;> simp_all
theorem list_of {α : Type} (n : Nat) (p : Nat → α → Prop) (h : ∀ i, i < n → ∃ a, p i a) : ∃ l : List α, l.length = n ∧ ∀ i (hi : i < l.length), p i l[i] := by
  induction n with
  | zero => exact ⟨[], rfl, fun i hi => absurd hi (by simp)⟩
  | succ n ih =>
    obtain ⟨l, hl, hp⟩ := ih fun i hi => h i (by omega)
    obtain ⟨a, ha⟩ := h n (by omega)
    refine ⟨l ++ [a], by simp [hl], fun i hi => ?_⟩
    by_cases hin : i < l.length
    · rw [List.getElem_append_left hin]; exact hp i hin
    · have : i = n := by simp at hi; omega
      subst this
      rw [List.getElem_append_right (by omega)]
      simpa [hl] using ha
theorem flat_at {α : Type} {k : Nat} (f : α → List Value) (hk : ∀ x, (f x).length = k) : ∀ (l : List α) (i : Nat) (x : α), l[i]? = some x → ∀ j, j < k → (l.flatMap f)[i * k + j]? = (f x)[j]?
  | [], i, x, h => by simp at h
  | y :: l, 0, x, h => fun j hj => by
    have : y = x := by simpa using h
    subst this
    rw [List.flatMap_cons, Nat.zero_mul, Nat.zero_add, List.getElem?_append_left (by rw [hk]; exact hj)]
  | y :: l, i + 1, x, h => fun j hj => by
    have := flat_at f hk l i x (by simpa using h) j hj
    rw [List.flatMap_cons, List.getElem?_append_right (by rw [hk, Nat.succ_mul]; omega), hk, ← this]
    congr 1
    rw [Nat.succ_mul]
    omega
theorem flat_len {α : Type} {k : Nat} (f : α → List Value) (hk : ∀ x, (f x).length = k) : ∀ l : List α, (l.flatMap f).length = l.length * k
  | [] => by simp
  | y :: l => by rw [List.flatMap_cons, List.length_append, hk, flat_len f hk l, List.length_cons, Nat.succ_mul]; omega
theorem cel_in {H : Type} {enc : TypeId × Value → H} {P : Program} {W : World} {t e : TypeId} {k : Nat} {α : Type} (f : α → List Value) (Q : α → Prop) (ht : P.underlying t = some (.slice e)) (hC : P.cellsOf e = k) (hk : ∀ x, (f x).length = k) (h0 : 0 < k)
    (read : ∀ (n : Nat) (r : List Value) (y : DataW H × List MemPlace), r.length = k → DataW.trod enc P W 0 (fun _ => true) true n e r = some y → ∃ x, r = f x ∧ Q x)
    {a : Option Addr} {len cap : Nat} {d : DataW H} {p : List MemPlace} (h : DataW.Trod enc P W 0 (fun _ => true) true t (.slice a len cap) d p) :
    ∃ l : List α, len = l.length ∧ Cel W (fun b => b < W.heap.size) (.slice a len cap) len k (l.flatMap f) ∧ ∀ x ∈ l, Q x := by
  obtain ⟨fuel, hf⟩ := h
  rcases Go.Deep.open_slice ht hf with ⟨hcs, _⟩ | ⟨x, len', cap', m, n, D, Pl, hcs, _, hl, hm, hmm, _, hi⟩
  · simp [Value.cells] at hcs
    obtain ⟨rfl, rfl, rfl⟩ := hcs
    exact ⟨[], rfl, Cel.nil _ _ _, by simp⟩
  · simp [Value.cells] at hcs
    obtain ⟨rfl, rfl, rfl⟩ := hcs
    rw [hC] at hi
    have hlm : len ≤ m := by rw [hmm]; split <;> omega
    obtain ⟨ls, hls, hp⟩ := list_of len (fun i (u : α) => (∀ j, j < k → W.cell? (x.add (i * k + j)) = (f u)[j]?) ∧ Q u) (fun i hil => by
      obtain ⟨r, hr, htr⟩ := hi i (by omega)
      obtain ⟨_, hrl, hat⟩ := World.cells?_some hr
      obtain ⟨u, rfl, hq⟩ := read _ _ _ hrl htr
      refine ⟨u, fun j hj => ?_, hq⟩
      have h2 := hat j hj
      rw [Go.Deep.add_add] at h2
      exact h2)
    subst hls
    refine ⟨ls, rfl, ⟨some x, cap, rfl, flat_len f hk ls, hl, hm, by simp, fun hpos => ?_⟩, fun u hu => ?_⟩
    · have c0 := (hp 0 hpos).1 0 h0
      obtain ⟨b, off, spot⟩ := x
      have hfl : (f ls[0])[0]? = some ((f ls[0])[0]'(by rw [hk]; exact h0)) := List.getElem?_eq_getElem (by rw [hk]; exact h0)
      rw [hfl] at c0
      have hspot : spot = none := by simpa [Addr.add] using World.cell?_spot c0
      subst hspot
      have hlt : b < W.heap.size := World.block_lt_of_cell? W _ (by simpa [Addr.add] using c0)
      refine ⟨b, off, rfl, hlt, hlt, fun j u hu => ?_⟩
      have hjl : j < ls.length * k := by
        have := (List.getElem?_eq_some_iff.1 hu).1
        rw [flat_len f hk] at this
        exact this
      have hdiv : j / k < ls.length := (Nat.div_lt_iff_lt_mul h0).2 hjl
      have hmod : j % k < k := Nat.mod_lt _ h0
      have h3 := (hp (j / k) hdiv).1 (j % k) hmod
      have h4 := flat_at f hk ls (j / k) _ (List.getElem?_eq_getElem hdiv) (j % k) hmod
      have e : j / k * k + j % k = j := Nat.div_add_mod' j k
      rw [e] at h3 h4
      rw [add_plain, ← h4, hu] at h3
      exact h3
    · obtain ⟨j, hj, rfl⟩ := List.mem_iff_getElem.1 hu
      exact (hp j hj).2
end Go.Proofs.YtoohpcomnhfgpaaGreat
end
section
namespace Go.Proofs.YtoohpcomnhfgpaaGreat
open Go.RowKit
set_option maxRecDepth 100000
set_option linter.all false
theorem run_load_piece {P : Program} (w : World) (g off : Nat) (ty : TypeId) (cs : Array Value) (d : TypeDesc) (hc : ∀ j u, cs.toList[j]? = some u → w.cell? ⟨g, off + j, none⟩ = some u)
    (hu : P.underlying ty = some d) (hd : (match d with | .struct _ | .array _ _ => true | _ => false) = true) (hi : (P.info? ty).map (·.size) = some cs.size) :
    (loadVar ty ⟨g, off, none⟩).run P w = .ok (.agg cs) w := by
  have hl : (loadCells ⟨g, off, none⟩ cs.toList.length).run P w = .ok cs.toList.toArray w :=
    run_loadCells_list (P := P) w ⟨g, off, none⟩ cs.toList (fun j v hv => by
      have hadd : (⟨g, off, none⟩ : Addr).add j = ⟨g, off + j, none⟩ := by unfold Addr.add; split <;> simp_all
      rw [hadd]
      exact hc j v hv)
  cases hq : P.info? ty with
  | none => simp [hq] at hi
  | some i =>
    have hs : i.size = cs.size := by simpa [hq] using hi
    have hagg : (isAgg ty).run P w = .ok true w := by
      unfold isAgg
      rw [Sem.run_bind, run_underlying hu w]
      cases d <;> simp_all
    simp only [Array.length_toList, Array.toArray_toList] at hl
    simp [loadVar, Sem.run_bind, hagg, sizeOf, typeInfo, hq, hs, hl]
theorem wpl_piece {P : Program} {ops : Array Oper} {rest : List Oper} {o : Oper} {a : Act} {w : World} {Q : Exit → Act → World → Prop} (hgd : o.guard = none) (ty : TypeId) (x : Operand) (ho : o.op = .load ty x)
    (g off : Nat) (hx : a.eval x = .pointer (some ⟨g, off, none⟩)) (cs : Array Value) (d : TypeDesc) (hc : ∀ j u, cs.toList[j]? = some u → w.cell? ⟨g, off + j, none⟩ = some u)
    (hu : P.underlying ty = some d) (hd : (match d with | .struct _ | .array _ _ => true | _ => false) = true) (hi : (P.info? ty).map (·.size) = some cs.size)
    (h : wpList P ops Q rest (a.put o.dst (.agg cs)) w) : wpList P ops Q (o :: rest) a w := by
  refine wpList_plain hgd fun K hK => ?_
  unfold Oper.wp execOp
  simp only [ho, hx, Instr.loadAt, Instr.sureAddr, Sem.run_bind, Sem.run_pure, Result.andThen_ok, run_load_piece w g off ty cs d hc hu hd hi]
  exact hK _ _ h
theorem setRow_alloc (w : World) (old cs : Array Value) (t : TypeId) : (w.alloc (.cells old t)).setRow w.heap.size cs = w.alloc (.cells cs t) := by
  unfold World.setRow World.alloc
  congr 1
  apply Array.ext_getElem?
  intro i
  rw [Array.getElem?_modify]
  by_cases hi : w.heap.size = i
  · subst hi; simp
  · simp [hi, Array.getElem?_push, Ne.symm hi]
theorem wpl_new {P : Program} {ops : Array Oper} {rest : List Oper} {o o2 : Oper} {a : Act} {w : World} {Q : Exit → Act → World → Prop} (hgd : o.guard = none) (hgd2 : o2.guard = none) (ty : TypeId) (ho : o.op = .alloc ty) (x y : Operand) (ho2 : o2.op = .store ty x y) (cs : Array Value)
    (hx : (a.put o.dst (.pointer (some ⟨w.heap.size, 0, none⟩))).eval x = .pointer (some ⟨w.heap.size, 0, none⟩)) (hy : (a.put o.dst (.pointer (some ⟨w.heap.size, 0, none⟩))).eval y = .agg cs)
    (hi : (P.info? ty).map (fun i => (i.size, i.zero.map (fun z => z.cells.size))) = some (cs.size, some cs.size)) (h1 : cs.all (·.oneCell') = true)
    (h : wpList P ops Q rest ((a.put o.dst (.pointer (some ⟨w.heap.size, 0, none⟩))).put o2.dst undef) (w.alloc (.cells cs ty))) : wpList P ops Q (o :: o2 :: rest) a w := by
  cases hq : P.info? ty with
  | none => simp [hq] at hi
  | some i =>
    cases hz : i.zero with
    | none => simp [hq, hz] at hi
    | some z =>
      have hs : i.size = cs.size ∧ z.cells.size = cs.size := by simpa [hq, hz] using hi
      refine wpList_plain hgd fun K hK => ?_
      unfold Oper.wp execOp
      simp only [ho, Instr.alloc, zeroValue, typeInfo, newVar, newRow, Sem.run_bind]
      simp [hq, hz]
      refine hK _ _ ?_
      refine wpList_store_row hgd2 ty x y ho2 w.heap.size cs hx hy ty z.cells (heap_alloc_new w _) (by simp [hq, hs.1]) hs.2 h1 ?_
      rw [setRow_alloc]
      exact h
end Go.Proofs.YtoohpcomnhfgpaaGreat
end
section
namespace Go.Proofs.YtoohpcomnhfgpaaGreat.Se
open Go.RowKit
set_option maxRecDepth 100000
set_option linter.all false
theorem cmp_bytes (a b : ByteArray) (w : World) :
    Calls Tryz.prog 228 #[.string a, .string b] w fun e w' => e = .returned (.int .i64 (Lib.compareBytes a.data.toList b.data.toList)) ∧ w = w' := by
  have hc : ∀ w, (callFunc 263 #[.string a, .string b]).run Tryz.prog w = .ok (.value (.int .i64 (Lib.compareBytes a.data.toList b.data.toList))) w := fun w => by
    rw [run_callFunc_extern Tryz.func263 (by kernel_rfl) (by kernel_rfl) (by kernel_rfl) (e := Extern.BytealgCompare.compare) (by kernel_rfl), Lib.run_compareString]
    rfl
  generalize Lib.compareBytes a.data.toList b.data.toList = z at hc ⊢
  go_enter Tryz.func228, Tryz.ntmps228
  go_wp2_with fail
  go_ret
  exact ⟨rfl, rfl⟩
theorem cmp_strs (a b : ByteArray) (w : World) :
    Calls Tryz.prog 186 #[.string a, .string b] w fun e w' => e = .returned (.int .i64 (Lib.compareBytes a.data.toList b.data.toList)) ∧ w = w' := by
  have hc := cmp_bytes a b
  generalize Lib.compareBytes a.data.toList b.data.toList = z at hc ⊢
  have HC := Lib.hid hc
  clear hc
  go_enter Tryz.func186, Tryz.ntmps186
  go_wp2_with (first
    | (go_at_call 228; refine (HC.out _).mono ?_; rintro e w' ⟨rfl, rfl⟩))
  go_ret
  exact ⟨rfl, rfl⟩
abbrev prA (p : Pr En) : Array Value := #[.string p.k, .string p.v.k, .string p.v.v, .bool p.v.d, .int .i64 p.v.s.c, .int .i64 p.v.s.s, .int .i64 p.v.a.c, .int .i64 p.v.a.s, .int .i64 p.v.p, .int .i64 p.v.g]
def prI (p : Pr En) : List Value := [.string p.k, .string p.v.k, .string p.v.v, .bool p.v.d, .int .i64 p.v.s.c, .int .i64 p.v.s.s, .int .i64 p.v.a.c, .int .i64 p.v.a.s, .int .i64 p.v.p, .int .i64 p.v.g]
theorem prI_len (p : Pr En) : (prI p).length = 10 := rfl
theorem prI_one (l : List (Pr En)) : ∀ u ∈ l.flatMap prI, u.oneCell' = true := by
  intro u hu
  obtain ⟨p, _, hp⟩ := List.mem_flatMap.1 hu
  simp only [prI, List.mem_cons, List.not_mem_nil, or_false] at hp
  rcases hp with rfl | rfl | rfl | rfl | rfl | rfl | rfl | rfl | rfl | rfl <;> rfl
theorem prI_at {w : World} {S : Nat → Prop} {A : Option Addr} {n c : Nat} {l : List (Pr En)} (h : Cel w S (.slice A n c) n 10 (l.flatMap prI)) (i : Nat) (hi : i < l.length) (hn : n = l.length) :
    ∃ b off, A = some ⟨b, off, none⟩ ∧ S b ∧ b < w.heap.size ∧ ∀ j u, (prI l[i])[j]? = some u → w.cell? ⟨b, off + i * 10 + j, none⟩ = some u := by
  obtain ⟨A', c', e, h0, h1, h2, h3, h4⟩ := h
  injection e with e1 e2 e3
  subst e1 e3
  obtain ⟨b, off, rfl, hs, hlt, hc⟩ := h4 (by omega)
  refine ⟨b, off, rfl, hs, hlt, fun j u hu => ?_⟩
  have hj : j < 10 := by have := (List.getElem?_eq_some_iff.1 hu).1; rwa [prI_len] at this
  rw [Nat.add_assoc]
  exact hc _ _ (by rw [flat_at prI prI_len l i l[i] (List.getElem?_eq_getElem hi) j hj]; exact hu)
set_option maxHeartbeats 1600000 in
theorem place_clo (p : Pr En) (b : ByteArray) (w : World) :
    Calls Tryz.prog 185 #[.agg (prA p), .string b] w fun e w' => e = .returned (.int .i64 (Lib.compareBytes p.k.data.toList b.data.toList)) ∧ Only none_ w w' := by
  have hc := cmp_strs p.k b
  have B2 := Lib.hid (Blk.new w 240 (prA p))
  have c0 : (w.alloc (.cells (prA p) 240)).cell? ⟨w.heap.size, 0, none⟩ = some (.string p.k) := B2.out.cell_ (i := 0) rfl
  have O := Lib.hid ((Only.refl none_ w).alloc (.cells (prA p) 240))
  obtain ⟨a, e⟩ := p
  dsimp only [prA] at hc c0 O ⊢
  generalize Lib.compareBytes a.data.toList b.data.toList = z at hc ⊢
  have HC := Lib.hid hc
  clear hc B2
  go_enter Tryz.func185, Tryz.ntmps185
  go_wp2_with (first
    | (go_at_call 186; refine (HC.out _).mono ?_; rintro e w' ⟨rfl, rfl⟩))
  go_ret
  exact ⟨rfl, O.out⟩
set_option maxHeartbeats 6400000 in
theorem bsI (A : Option Addr) (c : Nat) (S : Nat → Prop) (l : List (Pr En)) (x : ByteArray) (w : World) (h : Cel w S (.slice A l.length c) l.length 10 (l.flatMap prI)) (hr : Ris l) (hl : l.length ≤ 4096) :
    Calls Tryz.prog 184 #[.slice A l.length c, .string x, .func (.func 185) #[] #[]] w fun e w' => e = .returned (.tuple #[.int .i64 (rnk l x : Nat), .bool (has l x)]) ∧ Only none_ w w' := by
  have HC := Lib.hid (fun (w' : World) (o : Only none_ w w') => h.only o (fun _ _ h => h))
  have HR := Lib.hid hr
  have hrl := rnk_le l x
  obtain ⟨r, hrr⟩ : ∃ r, rnk l x = r := ⟨_, rfl⟩
  obtain ⟨hs, hhs⟩ : ∃ b, has l x = b := ⟨_, rfl⟩
  have AT : Hid (∀ i (hi : i < l.length), decide (Lib.compareBytes l[i].k.data.toList x.data.toList < 0) = decide (i < r)) := fun i hi => by rw [cmp_neg, rnk_at hr, hrr]
  have HS := has_at hr x
  rw [hrr, hhs] at HS
  rw [hrr] at hrl
  have HSS := Lib.hid HS
  rw [hrr, hhs]
  obtain ⟨n, hn⟩ : ∃ n, l.length = n := ⟨_, rfl⟩
  have HN := Lib.hid hn
  rw [hn] at HC hl hrl ⊢
  clear h hr hrr hhs HS hn
  go_enter Tryz.func184, Tryz.ntmps184
  go_wp2_with fail
  go_loopw [9, 10] (fun s9 s10 wr => ∃ lo hi : Nat, s9 = .int .i64 lo ∧ s10 = .int .i64 hi ∧ lo ≤ r ∧ r ≤ hi ∧ hi ≤ n ∧ Only none_ w wr) (fun s9 s10 _ => (intOf s10).toNat - (intOf s9).toNat)
  case atStart => exact ⟨0, n, rfl, rfl, Nat.zero_le _, hrl, Nat.le_refl _, Only.refl _ _⟩
  case round =>
    obtain ⟨lo, hi, rfl, rfl, h1, h2, h3, o⟩ := hrel
    have O := Lib.hid o
    by_cases hlt : lo < hi
    · obtain ⟨q, hq⟩ : ∃ q, (lo + hi) / 2 = q := ⟨_, rfl⟩
      have hq1 : lo ≤ q ∧ q < hi := by omega
      have hqi : ((lo : Int) + (hi : Int)) / 2 = (q : Int) := by omega
      have hqn : q < l.length := by have := HN.out; omega
      obtain ⟨b, off, hA, _, _, hc⟩ := prI_at (HC.out _ o) q hqn HN.out.symm
      subst hA
      have hcl := place_clo l[q] x wr
      have hcp := AT.out q hqn
      have hz := cmp_i64 l[q].k x
      generalize Lib.compareBytes l[q].k.data.toList x.data.toList = z at hcl hcp hz
      have HCE := Lib.hid hc
      have HCL := Lib.hid hcl
      have HCP := Lib.hid hcp
      have hqn2 : q < n := by omega
      clear hcl hcp o hq hc
      by_cases hz0 : z < 0
      · have hqr : q < r := by have := HCP.out; simp [hz0] at this; exact this
        go_wp2_with (first
          | (refine wpl_piece rfl 240 _ rfl b _ rfl (prA l[q]) _ HCE.out Tryz.underlying240 rfl rfl ?_)
          | (go_at_call 185; refine HCL.out.mono ?_; rintro e w1 ⟨rfl, o1⟩; have O1 := Lib.hid (O.out.trans o1); clear o1))
        go_roundw
        case rel => exact ⟨q + 1, hi, by go_num, rfl, by omega, h2, h3, O1.out⟩
        case measure => simp [intOf]; omega
      · have hqr : r ≤ q := by have := HCP.out; simp [hz0] at this; exact this
        go_wp2_with (first
          | (refine wpl_piece rfl 240 _ rfl b _ rfl (prA l[q]) _ HCE.out Tryz.underlying240 rfl rfl ?_)
          | (go_at_call 185; refine HCL.out.mono ?_; rintro e w1 ⟨rfl, o1⟩; have O1 := Lib.hid (O.out.trans o1); clear o1))
        go_roundw
        case rel => exact ⟨lo, q, rfl, by go_num, h1, hqr, by omega, O1.out⟩
        case measure => simp [intOf]; omega
    · have e1 : lo = r := by omega
      subst e1
      by_cases hn : lo < n
      · have hqn : lo < l.length := by have := HN.out; omega
        obtain ⟨b, off, hA, _, _, hc⟩ := prI_at (HC.out _ o) lo hqn HN.out.symm
        subst hA
        have hcl := place_clo l[lo] x wr
        have hcz := cmp_zero l[lo].k x
        have hss : hs = decide (l[lo].k = x) := by
          rw [HSS.out]; simp [hqn]
        rw [← hss] at hcz
        generalize Lib.compareBytes l[lo].k.data.toList x.data.toList = z at hcl hcz
        have h0 := hc 0 _ rfl
        have h1 := hc 1 _ rfl
        have h2 := hc 2 _ rfl
        have h3 := hc 3 _ rfl
        have h4 := hc 4 _ rfl
        have h5 := hc 5 _ rfl
        have h6 := hc 6 _ rfl
        have h7 := hc 7 _ rfl
        have h8 := hc 8 _ rfl
        have h9 := hc 9 _ rfl
        rw [Nat.add_zero] at h0
        generalize l[lo] = pp at hcl h0 h1 h2 h3 h4 h5 h6 h7 h8 h9
        obtain ⟨k, v⟩ := pp
        dsimp only [prA] at hcl h0 h1 h2 h3 h4 h5 h6 h7 h8 h9
        have HCL := Lib.hid hcl
        clear hcl o hss hc
        go_wp2_with (first
          | (go_at_call 185; refine HCL.out.mono ?_; rintro e w1 ⟨rfl, o1⟩; have O1 := Lib.hid (O.out.trans o1); clear o1))
        go_ret2
        exact ⟨rfl, O1.out⟩
      · have hss : hs = false := by rw [HSS.out]; have := HN.out; simp; omega
        subst hss
        clear o
        go_wp2_with fail
        go_ret2
        exact ⟨rfl, O.out⟩
end Go.Proofs.YtoohpcomnhfgpaaGreat.Se
end
section
namespace Go.Proofs.YtoohpcomnhfgpaaGreat
open Go.RowKit
set_option maxRecDepth 100000
set_option linter.all false
theorem run_storeVar_part {P : Program} (w : World) (g o : Nat) (t ty : TypeId) (cs : List Value) (cells : Array Value) (hg : Blk w g t cs.toArray) (hi : (P.info? ty).map (·.size) = some cells.size) (hl : o + cells.size ≤ cs.length) (h1 : cells.all (·.oneCell') = true) :
    (storeVar ty ⟨g, o, none⟩ (.agg cells)).run P w = .ok () (w.setRow g (putAt cs o cells.toList).toArray) := by
  have := run_storeCells_at P g o t cells.toList 0 cs.toArray w hg (by simpa using hl) (fun v hv => (Array.all_eq_true_iff_forall_mem.1 h1) v (by simpa using hv))
  cases hq : P.info? ty with
  | none => simp [hq] at hi
  | some i =>
    have hs : cells.size = i.size := by simp [hq] at hi; omega
    simpa [storeVar, sizeOf, typeInfo, hq, Value.cells, hs, putAt] using this
theorem wpl_store_part {P : Program} {ops : Array Oper} {rest : List Oper} {o : Oper} {a : Act} {w : World} {Q : Exit → Act → World → Prop} (hgd : o.guard = none) (ty : TypeId) (x y : Operand) (ho : o.op = .store ty x y)
    (g off : Nat) (cells : Array Value) (hx : a.eval x = .pointer (some ⟨g, off, none⟩)) (hy : a.eval y = .agg cells)
    (t : TypeId) (cs : List Value) (hg : Blk w g t cs.toArray) (hi : (P.info? ty).map (·.size) = some cells.size) (hl : off + cells.size ≤ cs.length) (h1 : cells.all (·.oneCell') = true)
    (h : wpList P ops Q rest (a.put o.dst undef) (w.setRow g (putAt cs off cells.toList).toArray)) : wpList P ops Q (o :: rest) a w := by
  refine wpList_plain hgd fun K hK => ?_
  unfold Oper.wp execOp
  simp only [ho, hx, hy, Instr.storeAt, Instr.sureAddr, Sem.run_bind, Sem.run_pure, Result.andThen_ok, run_storeVar_part w g off t ty cs cells hg hi hl h1]
  exact hK _ _ h
end Go.Proofs.YtoohpcomnhfgpaaGreat
end
section
namespace Go.Proofs.YtoohpcomnhfgpaaGreat
open Go.RowKit
def Rows_ (w : World) (S : Nat → Prop) (pv : Value) (pss : List (List UInt8)) : Prop :=
  ∃ A c, pv = .slice A pss.length c ∧ pss.length ≤ maxLen ∧ (0 < pss.length → ∃ b off, A = some ⟨b, off, none⟩ ∧ S b ∧ b < w.heap.size ∧ ∀ j (hj : j < pss.length), ∃ x, w.cell? ⟨b, off + j, none⟩ = some x ∧ Byt w S x pss[j])
theorem Rows_.nil (w : World) (S : Nat → Prop) : Rows_ w S (.slice none 0 0) [] := ⟨none, 0, rfl, by simp [maxLen], by simp⟩
theorem Rows_.only {w w' : World} {S T : Nat → Prop} {pv : Value} {pss : List (List UInt8)} (h : Rows_ w S pv pss) (ho : Only T w w') (hn : ∀ b, S b → ¬ T b) : Rows_ w' S pv pss := by
  obtain ⟨A, c, rfl, h1, h2⟩ := h
  refine ⟨A, c, rfl, h1, fun hp => ?_⟩
  obtain ⟨b, off, rfl, hS, hb, hc⟩ := h2 hp
  refine ⟨b, off, rfl, hS, Nat.lt_of_lt_of_le hb ho.size, fun j hj => ?_⟩
  obtain ⟨x, hx, hy⟩ := hc j hj
  exact ⟨x, (ho.cell (p := ⟨b, off + j, none⟩) hb (hn _ hS)).trans hx, hy.only ho hn⟩
theorem rows_two {w : World} {S : Nat → Prop} {x y : Value} {bs cs : List UInt8} {t : TypeId} (h : Byt w S x bs) (h' : Byt w S y cs) (hS : S w.heap.size) (g : Nat) (hg : g = w.heap.size) :
    Rows_ (w.alloc (.cells #[x, y] t)) S (.slice (some ⟨g, 0, none⟩) 2 2) [bs, cs] := by
  subst hg
  refine ⟨_, 2, rfl, by simp [maxLen], fun _ => ⟨_, _, rfl, hS, by simp, fun j hj => ?_⟩⟩
  have hj0 : j = 0 ∨ j = 1 := by simp at hj; omega
  rcases hj0 with rfl | rfl
  · exact ⟨x, by simp, h.alloc _⟩
  · exact ⟨y, by simp, h'.alloc _⟩
theorem rows_one {w : World} {S : Nat → Prop} {x : Value} {bs : List UInt8} {t : TypeId} (h : Byt w S x bs) (hS : S w.heap.size) (g : Nat) (hg : g = w.heap.size) :
    Rows_ (w.alloc (.cells #[x] t)) S (.slice (some ⟨g, 0, none⟩) 1 1) [bs] := by
  subst hg
  refine ⟨_, 1, rfl, by simp [maxLen], fun _ => ⟨_, _, rfl, hS, by simp, fun j hj => ?_⟩⟩
  have hj0 : j = 0 := by simp at hj; omega
  subst hj0
  exact ⟨x, by simp, h.alloc _⟩
theorem Rows_.mono {w : World} {S T : Nat → Prop} {pv : Value} {pss : List (List UInt8)} (h : Rows_ w S pv pss) (hk : ∀ b, S b → b < w.heap.size → T b) : Rows_ w T pv pss := by
  obtain ⟨A, c, rfl, h1, h2⟩ := h
  refine ⟨A, c, rfl, h1, fun hp => ?_⟩
  obtain ⟨b, off, rfl, hS, hb, hc⟩ := h2 hp
  refine ⟨b, off, rfl, hk _ hS hb, hb, fun j hj => ?_⟩
  obtain ⟨x, hx, hy⟩ := hc j hj
  exact ⟨x, hx, hy.mono (fun b hb hS => hk b hS hb)⟩
theorem own_shape {w : World} {base size n : Nat} {e : TypeId} {v : Value} {xs : List Value} (h : w.ownsRow base e size v n xs) : ∃ A n c, v = .slice A n c := by
  rcases h.2 with ⟨rfl, _⟩ | ⟨g, cap, cur, rfl, _⟩
  · exact ⟨_, _, _, rfl⟩
  · exact ⟨_, _, _, rfl⟩
end Go.Proofs.YtoohpcomnhfgpaaGreat
end
section
namespace Go.Proofs.YtoohpcomnhfgpaaGreat.Se
open Go.RowKit
set_option maxRecDepth 100000
set_option linter.all false
structure Tb (B : World) (g : Nat) (room : Int) (l : List (Pr En)) (v : Value) (w : World) : Prop where
  bk : Blk w g 243 #[.int .i64 room, v]
  ow : w.ownsRow B.heap.size 240 10 v l.length (l.flatMap prI)
  ho : Only none_ B w
  ge : B.heap.size ≤ g
  rs : Ris l
  lr : (l.length : Int) ≤ room
  rm : room ≤ 4096
section
variable {B w w' : World} {g h : Nat} {room : Int} {l l' : List (Pr En)} {v v' : Value} {t : TypeId} {cs : Array Value}
theorem Tb.ml (s : Tb B g room l v w) : l.length ≤ 4096 := by have h1 := s.lr; have h2 := s.rm; omega
theorem Tb.foot_ge (s : Tb B g room l v w) {k : Nat} (hf : foot g v k) : B.heap.size ≤ k ∧ k < w.heap.size := by
  rcases hf with rfl | hf
  · exact ⟨s.ge, s.bk.lt⟩
  · exact s.ow.lt k hf
theorem Tb.keep (s : Tb B g room l v w) (o : Only none_ w w') : Tb B g room l v w' :=
  ⟨s.bk.only o (fun h => h), owns_only s.ow o (fun _ _ h => h), s.ho.trans o, s.ge, s.rs, s.lr, s.rm⟩
theorem Tb.apart {S : Nat → Prop} (s : Tb B g room l v w) (o : Only S w w') (hn : ∀ k, foot g v k → ¬ S k) (hS : ∀ k, S k → B.heap.size ≤ k) : Tb B g room l v w' :=
  ⟨s.bk.only o (hn g (.inl rfl)), owns_only s.ow o (fun k hk => hn k (.inr hk)), s.ho.trans' o (fun k hk hs => by have := hS k hs; omega), s.ge, s.rs, s.lr, s.rm⟩
theorem Tb.shape (s : Tb B g room l v w) : ∃ A c, v = .slice A l.length c := by
  rcases s.ow.2 with ⟨rfl, h0⟩ | ⟨_, _, _, rfl, _⟩
  · exact ⟨none, 0, by rw [h0]⟩
  · exact ⟨_, _, rfl⟩
theorem Tb.cel (s : Tb B g room l v w) : Cel w (ownb v) v l.length 10 (l.flatMap prI) := Cel.of_own s.ow
theorem Tb.drewN (s : Tb B g room l v w) (n : Nat) : Tb B g room l v (w.drewN n) := s.keep ((Only.refl none_ w).drewN n)
theorem Tb.drew (s : Tb B g room l v w) : Tb B g room l v w.drew := s.keep ((Only.refl none_ w).drew)
theorem Tb.base {B' : World} (s : Tb B g room l v w) (h : Only none_ B' w) (hs : B'.heap.size ≤ B.heap.size) : Tb B' g room l v w :=
  ⟨s.bk, owns_base s.ow hs, h, Nat.le_trans hs s.ge, s.rs, s.lr, s.rm⟩
end
set_option maxHeartbeats 800000 in
theorem tb_len (B : World) (g : Nat) (room : Int) (l : List (Pr En)) (v : Value) (w : World) (h : Tb B g room l v w) :
    Calls Tryz.prog 147 #[.pointer (some ⟨g, 0, none⟩)] w fun e w' => e = .returned (.int .i64 l.length) ∧ w = w' := by
  obtain ⟨A, c, rfl⟩ := h.shape
  have c1 := h.bk.cell_ (i := 1) rfl
  generalize l.length = n at c1 ⊢
  clear h
  go_enter Tryz.func147, Tryz.ntmps147
  go_wp2
  go_ret
  exact ⟨rfl, rfl⟩
set_option maxHeartbeats 1600000 in
theorem tb_place (B : World) (g : Nat) (room : Int) (l : List (Pr En)) (v : Value) (x : ByteArray) (w : World) (h : Tb B g room l v w) :
    Calls Tryz.prog 132 #[.pointer (some ⟨g, 0, none⟩), .string x] w fun e w' => e = .returned (.tuple #[.int .i64 (rnk l x : Nat), .bool (has l x)]) ∧ Only none_ w w' := by
  obtain ⟨A, c, rfl⟩ := h.shape
  have c1 := h.bk.cell_ (i := 1) rfl
  have hb := bsI A c _ l x w h.cel h.rs h.ml
  generalize rnk l x = r at hb ⊢
  generalize has l x = hs at hb ⊢
  generalize l.length = n at c1 hb
  have HB := Lib.hid hb
  clear h hb
  go_enter Tryz.func132, Tryz.ntmps132
  go_wp2_with (first
    | (go_at_call 184; refine HB.out.mono ?_; rintro e w1 ⟨rfl, o1⟩))
  go_ret2
  exact ⟨rfl, o1⟩
def getL (l : List (Pr En)) (x : ByteArray) : En := if has l x then (l[rnk l x]?.map (·.v)).getD enZero else enZero
set_option maxHeartbeats 6400000 in
theorem tb_get (B : World) (g : Nat) (room : Int) (l : List (Pr En)) (v : Value) (x : ByteArray) (w : World) (h : Tb B g room l v w) :
    Calls Tryz.prog 76 #[.pointer (some ⟨g, 0, none⟩), .string x] w fun e w' => e = .returned (.tuple #[.agg #[.string (getL l x).k, .string (getL l x).v, .bool (getL l x).d, .int .i64 (getL l x).s.c, .int .i64 (getL l x).s.s, .int .i64 (getL l x).a.c, .int .i64 (getL l x).a.s, .int .i64 (getL l x).p, .int .i64 (getL l x).g], .bool (has l x)]) ∧ Only none_ w w' := by
  have HB := Lib.hid (fun (w' : World) (o : Only none_ w w') => tb_place B g room l v x w' (h.keep o))
  have H := Lib.hid h
  have O0 := Lib.hid ((Only.refl none_ w).alloc (.cells #[.string ⟨#[]⟩, .string ⟨#[]⟩, .bool false, .int .i64 0, .int .i64 0, .int .i64 0, .int .i64 0, .int .i64 0, .int .i64 0] 82))
  have B0 := Lib.hid (Blk.new w 82 #[.string ⟨#[]⟩, .string ⟨#[]⟩, .bool false, .int .i64 0, .int .i64 0, .int .i64 0, .int .i64 0, .int .i64 0, .int .i64 0])
  by_cases hs : has l x = true
  · have hlt : rnk l x < l.length := by
      have := has_at h.rs x
      rw [hs] at this
      have := this.symm
      simp only [Bool.and_eq_true, decide_eq_true_eq] at this
      exact this.1
    have hgv : getL l x = l[rnk l x].v := by rw [getL, if_pos hs, List.getElem?_eq_getElem hlt]; rfl
    rw [hgv, hs]
    rw [hs] at HB
    obtain ⟨A, c, rfl⟩ := h.shape
    have HCL := Lib.hid (fun (w' : World) (o : Only none_ w w') => prI_at (h.keep o).cel (rnk l x) hlt rfl)
    obtain ⟨pp, hpp⟩ : ∃ pp, l[rnk l x] = pp := ⟨_, rfl⟩
    rw [hpp]
    simp only [hpp] at HCL
    clear hgv hpp
    generalize rnk l x = r at HCL hlt HB
    have HK := Lib.hid (fun (w' : World) (o : Only none_ w w') => (h.keep o).bk.cell_ (i := 1) rfl)
    generalize l.length = n at hlt HCL HK
    obtain ⟨kk, vv⟩ := pp
    dsimp only
    clear h hs H
    go_enter Tryz.func76, Tryz.ntmps76
    go_wp2_with (first
      | (go_at_call 132; refine (HB.out _ O0.out).mono ?_; rintro e w1 ⟨rfl, o1⟩
         have O1 := Lib.hid (O0.out.trans o1)
         have B1 : Hid (Blk w1 w.heap.size 82 #[.string ⟨#[]⟩, .string ⟨#[]⟩, .bool false, .int .i64 0, .int .i64 0, .int .i64 0, .int .i64 0, .int .i64 0, .int .i64 0]) := B0.out.only o1 (fun h => h)
         have k1 := HK.out _ O1.out
         obtain ⟨b, off, hA, _, _, hc⟩ := HCL.out _ O1.out
         subst hA
         have HC : Hid (∀ j u, (#[.string vv.k, .string vv.v, .bool vv.d, .int .i64 vv.s.c, .int .i64 vv.s.s, .int .i64 vv.a.c, .int .i64 vv.a.s, .int .i64 vv.p, .int .i64 vv.g] : Array Value).toList[j]? = some u → w1.cell? ⟨b, off + r * 10 + 1 + j, none⟩ = some u) := fun j u hu => by
           rw [Nat.add_assoc (off + r * 10)]
           exact hc (1 + j) u (by rw [Nat.add_comm]; exact hu)
         clear o1 hc)
      | (refine wpl_piece rfl 82 _ rfl b _ rfl #[.string vv.k, .string vv.v, .bool vv.d, .int .i64 vv.s.c, .int .i64 vv.s.s, .int .i64 vv.a.c, .int .i64 vv.a.s, .int .i64 vv.p, .int .i64 vv.g] _ HC.out Tryz.underlying82 rfl (by kernel_rfl) ?_)
      | (refine wpList_store_row rfl 82 _ _ rfl w.heap.size #[.string vv.k, .string vv.v, .bool vv.d, .int .i64 vv.s.c, .int .i64 vv.s.s, .int .i64 vv.a.c, .int .i64 vv.a.s, .int .i64 vv.p, .int .i64 vv.g] rfl rfl _ _ B1.out (by kernel_rfl) rfl (en_cells_one vv) ?_))
    refine bodyPost_ret (results_cell_tmp rfl _ _ w.heap.size 82 #[.string vv.k, .string vv.v, .bool vv.d, .int .i64 vv.s.c, .int .i64 vv.s.s, .int .i64 vv.a.c, .int .i64 vv.a.s, .int .i64 vv.p, .int .i64 vv.g] _ rfl (B1.out.setRow _) Tryz.underlying82 rfl (by kernel_rfl) (.bool true) rfl) rfl ?_
    exact ⟨rfl, O1.out.setRow (.inr (Nat.le_refl _)) _⟩
  · have hs' : has l x = false := by simpa using hs
    have hgv : getL l x = enZero := by rw [getL, if_neg hs]
    rw [hgv, hs']
    rw [hs'] at HB
    generalize rnk l x = r at HB
    clear h hs hgv hs'
    go_enter Tryz.func76, Tryz.ntmps76
    go_wp2_with (first
      | (go_at_call 132; refine (HB.out _ O0.out).mono ?_; rintro e w1 ⟨rfl, o1⟩
         have O1 := Lib.hid ((O0.out.trans o1).alloc (.cells #[.string ⟨#[]⟩, .string ⟨#[]⟩, .bool false, .int .i64 0, .int .i64 0, .int .i64 0, .int .i64 0, .int .i64 0, .int .i64 0] 82))
         have B1 : Hid (Blk (w1.alloc (.cells #[.string ⟨#[]⟩, .string ⟨#[]⟩, .bool false, .int .i64 0, .int .i64 0, .int .i64 0, .int .i64 0, .int .i64 0, .int .i64 0] 82)) w.heap.size 82 #[.string ⟨#[]⟩, .string ⟨#[]⟩, .bool false, .int .i64 0, .int .i64 0, .int .i64 0, .int .i64 0, .int .i64 0, .int .i64 0]) := (B0.out.only o1 (fun h => h)).alloc _
         have B2 := Lib.hid (Blk.new w1 82 #[.string ⟨#[]⟩, .string ⟨#[]⟩, .bool false, .int .i64 0, .int .i64 0, .int .i64 0, .int .i64 0, .int .i64 0, .int .i64 0])
         clear o1)
      | (refine wpl_load rfl 82 _ rfl w1.heap.size rfl _ #[.string ⟨#[]⟩, .string ⟨#[]⟩, .bool false, .int .i64 0, .int .i64 0, .int .i64 0, .int .i64 0, .int .i64 0, .int .i64 0] _ B2.out Tryz.underlying82 rfl (by kernel_rfl) ?_)
      | (refine wpList_store_row rfl 82 _ _ rfl w.heap.size #[.string ⟨#[]⟩, .string ⟨#[]⟩, .bool false, .int .i64 0, .int .i64 0, .int .i64 0, .int .i64 0, .int .i64 0, .int .i64 0] rfl rfl _ _ B1.out (by kernel_rfl) rfl (en_cells_one enZero) ?_))
    refine bodyPost_ret (results_cell_tmp rfl _ _ w.heap.size 82 #[.string ⟨#[]⟩, .string ⟨#[]⟩, .bool false, .int .i64 0, .int .i64 0, .int .i64 0, .int .i64 0, .int .i64 0, .int .i64 0] _ rfl (B1.out.setRow _) Tryz.underlying82 rfl (by kernel_rfl) (.bool false) rfl) rfl ?_
    exact ⟨rfl, O1.out.setRow (.inr (Nat.le_refl _)) _⟩
set_option maxHeartbeats 3200000 in
theorem tb_all (B : World) (g : Nat) (room : Int) (l : List (Pr En)) (v : Value) (w : World) (h : Tb B g room l v w) :
    Calls Tryz.prog 78 #[.pointer (some ⟨g, 0, none⟩)] w fun e w' => ∃ hP A n c, e = .returned (.func (.func 134) #[] #[.pointer (some ⟨hP, 0, none⟩)]) ∧ w.heap.size ≤ hP ∧ n = l.length ∧ Blk w' hP 241 #[.slice A n c] ∧ Cel w' (fun b => w.heap.size ≤ b) (.slice A n c) n 10 (l.flatMap prI) ∧ Only none_ w w' := by
  have hmf : ∀ (fn : Fn) (first cap : Array Value) (w : World), (Instr.makeFunc fn first cap).run Tryz.prog w = .ok (.func fn first cap) w := fun _ _ _ _ => rfl
  obtain ⟨A, c, rfl⟩ := h.shape
  have c1 := h.bk.cell_ (i := 1) rfl
  have hml := h.ml
  have H := Lib.hid h.cel
  obtain ⟨L, hL⟩ : ∃ L, l.length = L := ⟨_, rfl⟩
  rw [hL] at c1 hml H ⊢
  have CLO := Lib.hid (cloI A L c _ _ w H.out hml (prI_one l))
  have HL := Lib.hid hL
  clear h hL
  go_enter Tryz.func78, Tryz.ntmps78
  go_wp2_with (first
    | (go_at_call 133; refine CLO.out.mono ?_; rintro e w1 ⟨v1, rfl, own1, o1⟩
       obtain ⟨A1, n1, c1', rfl⟩ := own_shape own1
       have HN1 : Hid (n1 = L) := by obtain ⟨_, _, e, _⟩ := Cel.of_own own1; injection e
       have C1 : Hid (Cel (w1.alloc (.cells #[.slice A1 n1 c1'] 241)) (fun b => w.heap.size ≤ b) (.slice A1 n1 c1') n1 10 (l.flatMap prI)) := by
         have h2 := (Cel.of_own own1).mono (T := fun b => w.heap.size ≤ b) (fun b _ hb => (own1.lt b hb).1)
         rw [← HN1.out] at h2
         exact h2.alloc _
       have O1 := Lib.hid (o1.alloc (.cells #[.slice A1 n1 c1'] 241))
       have B1 := Lib.hid (Blk.new w1 241 #[.slice A1 n1 c1'])
       have SZ := Lib.hid o1.size
       clear own1 o1))
  go_ret
  exact ⟨w1.heap.size, A1, n1, c1', rfl, SZ.out, HN1.out, B1.out, C1.out, O1.out⟩
end Go.Proofs.YtoohpcomnhfgpaaGreat.Se
end
