/- What slices.Insert and slices.Delete do at slices of numbers. No statement of the seat is proved here. -/
import Derived.Test.YtiigebdmkibnbaaDcC
import Derived.Deep.RegionLaw
namespace Go.Proofs.Ytiigebdmkibnbaa
open Go.RowKit
set_option maxRecDepth 100000
set_option linter.all false

section
variable {P : Program} {t e : TypeId} {i : TypeInfo}
theorem sl_lo1 (ht : P.underlying t = some (.slice e)) (hi : P.info? e = some i) (hk : i.size = 1) (g n c p : Nat) (hp : p ≤ n) (hnc : p < c) (y : Int) (hy : y = p) (w : World) :
    (Instr.sliceAt t (.slice (some ⟨g, 0, none⟩) n c) (some (.int .i64 y)) none none).run P w = .ok (.slice (some ⟨g, p, none⟩) (n - p) (c - p)) w := by
  have := sl_lo0 ht hi hk g n c p hp hnc y hy w
  rwa [Nat.mul_one] at this
theorem sl_mid1 (ht : P.underlying t = some (.slice e)) (hi : P.info? e = some i) (hk : i.size = 1) (g n c p q : Nat) (hpq : p ≤ q) (hq : q ≤ c) (hpc : p < c) (y z : Int) (hy : y = p) (hz : z = q) (w : World) :
    (Instr.sliceAt t (.slice (some ⟨g, 0, none⟩) n c) (some (.int .i64 y)) (some (.int .i64 z)) none).run P w = .ok (.slice (some ⟨g, p, none⟩) (q - p) (c - p)) w := by
  have := sl_mid0 ht hi hk g n c p q hpq hq hpc y z hy hz w
  rwa [Nat.mul_one] at this
theorem run_copy_1 (w : World) (t sT ty e : TypeId) (i : TypeInfo) (ht : P.underlying t = some (.slice e)) (hi : P.info? e = some i) (hk : i.size = 1)
    (base g o dLen dCap cap : Nat) (cur : List Value) (h : Rw_ w base g e 1 cap cur) (a : Addr) (sLen sCap : Nat) (cs : List Value) (hc : cs.length = Nat.min sLen dLen)
    (hsrc : ∀ j v, cs[j]? = some v → w.cell? (a.add j) = some v) (hfit : o + cs.length ≤ cur.length) (h1 : ∀ v ∈ cs, v.oneCell' = true) :
    (Builtin.copy_ #[t, sT] ty #[.slice (some ⟨g, o, none⟩) dLen dCap, .slice (some a) sLen sCap]).run P w = .ok (goInt (Nat.min sLen dLen)) (w.setRow g (putAt cur o cs).toArray) :=
  run_copy_k w t sT ty e i 1 ht hi hk base g o dLen dCap cap cur h a sLen sCap cs (by rw [hc, Nat.mul_one]) hsrc hfit h1
theorem run_append_room1 (w : World) (t ty e : TypeId) (i : TypeInfo) (ht : P.underlying t = some (.slice e)) (hi : P.info? e = some i) (hk : i.size = 1)
    (base g sLen sCap cap : Nat) (cur : List Value) (h : Rw_ w base g e 1 cap cur) (a : Addr) (m c : Nat) (cs : List Value) (hc : cs.length = m) (hroom : sLen + m ≤ sCap)
    (hsrc : ∀ j v, cs[j]? = some v → w.cell? (a.add j) = some v) (hfit : sLen + cs.length ≤ cur.length) (h1 : ∀ v ∈ cs, v.oneCell' = true) :
    (Builtin.append_ #[t, t] ty #[.slice (some ⟨g, 0, none⟩) sLen sCap, .slice (some a) m c]).run P w = .ok (.slice (some ⟨g, 0, none⟩) (sLen + m) sCap) (w.setRow g (putAt cur sLen cs).toArray) := by
  have := run_append_room w t ty e i 1 ht hi hk base g sLen sCap cap cur h a m c cs (by rw [hc, Nat.mul_one]) hroom hsrc (by rw [Nat.mul_one]; exact hfit) h1
  rwa [Nat.mul_one] at this
theorem run_clear_row1 (w : World) (t ty e : TypeId) (i : TypeInfo) (z : Value) (ht : P.underlying t = some (.slice e)) (hi : P.info? e = some i) (hz : i.zero = some z) (hzs : z.cells.size = 1) (hz1 : ∀ v ∈ z.cells.toList, v.oneCell' = true)
    (base g o m c cap : Nat) (cur : List Value) (h : Rw_ w base g e 1 cap cur) (hm : 0 < m) (hfit : o + m ≤ cur.length) :
    ∃ cs : List Value, cs.length = m ∧ (Builtin.clear_ #[t] ty #[.slice (some ⟨g, o, none⟩) m c]).run P w = .ok (.tuple #[]) (w.setRow g (putAt cur o cs).toArray) := by
  have := run_clear_row w t ty e i z 1 ht hi hz hzs hz1 base g o m c cap cur h hm (by rw [Nat.mul_one]; exact hfit)
  rwa [Nat.mul_one] at this
theorem app_zero1 (w : World) (tn ty : TypeId) (z : Value) (kq kn : IntKind) (ht : P.underlying t = some (.slice e)) (htn : P.underlying tn = some (.int kn)) (hi : P.info? e = some i) (hz : i.zero = some z) (hk : i.size = 1) (hzs : z.cells.size = 1)
    (base g sLen sCap cap : Nat) (cur : List Value) (h : Rw_ w base g e 1 cap cur) (hs : sLen ≤ cap) (m : Nat) (h0 : 0 < m) (hk0 : 0 < 1) (hg : sCap < sLen + m) (h63 : sLen + m ≤ 1000000) (hb : i.bytes ≤ 100000) (hbase : base ≤ w.heap.size) :
    ∃ G cur' w', (Builtin.append_ #[t, tn] ty #[.slice (some ⟨g, 0, none⟩) sLen sCap, .int kq m]).run P w = .ok (.slice (some ⟨w.heap.size, 0, none⟩) (sLen + m) G) w' ∧ Rw_ w' base w.heap.size e 1 G cur' ∧ sLen + m ≤ G ∧
      cur'.take sLen = cur.take sLen ∧ Only none_ w w' ∧ w'.heap.size = w.heap.size + 1 := by
  have := app_zero w tn ty z kq kn ht htn hi hz hk hzs base g sLen sCap cap cur h hs m h0 hk0 hg h63 hb hbase
  rwa [Nat.mul_one] at this
end
theorem ins_shift1 (cur xs ys : List Value) (n i : Nat) (hc : n + 1 ≤ cur.length) (hx : cur.take n = xs) (hy : ys.length = 1) (hi : i ≤ n) :
    (putAt (putAt cur (i + 1) (xs.drop i)) i ys).take (n + 1) = xs.take i ++ ys ++ xs.drop i := by
  have := ins_shift cur xs ys 1 n i (by omega) (by rw [Nat.mul_one]; exact hx) hy hi
  rwa [Nat.mul_one, Nat.mul_one, Nat.mul_one] at this
theorem ins_fresh1 (cur0 cur xs ys : List Value) (n i : Nat) (hc : n + 1 ≤ cur.length) (h0 : cur.take i = cur0.take i) (hx : cur0.take n = xs) (hy : ys.length = 1) (hxl : xs.length = n) (hi : i ≤ n) :
    (putAt (putAt cur i ys) (i + 1) (xs.drop i)).take (n + 1) = xs.take i ++ ys ++ xs.drop i := by
  have := ins_fresh cur0 cur xs ys 1 n i (by omega) (by rw [Nat.mul_one]; exact h0) (by rw [Nat.mul_one]; exact hx) hy (by omega) hi
  rwa [Nat.mul_one, Nat.mul_one, Nat.mul_one] at this
theorem del_shift1 (cur xs cs : List Value) (n i o : Nat) (hc : n ≤ cur.length) (hx : cur.take n = xs) (hi : i < n) (ho : n - 1 ≤ o) (hol : o + cs.length ≤ cur.length) :
    (putAt (putAt cur i (xs.drop (i + 1))) o cs).take (n - 1) = xs.take i ++ xs.drop (i + 1) := by
  have := del_shift cur xs cs 1 n i o (by omega) (by rw [Nat.mul_one]; exact hx) hi (by omega) hol
  rwa [Nat.mul_one, Nat.mul_one, Nat.mul_one] at this

set_option maxHeartbeats 3200000 in
theorem insZ_end (base : Nat) (A : Option Addr) (n c vb : Nat) (xs ys : List Value) (w : World) (h : w.ownsRow base 3 1 (.slice A n c) n xs) (hn : n ≤ 4096) (hb : base ≤ w.heap.size)
    (hv : Blk w vb 3 ys.toArray) (hy : ys.length = 1) (h1y : ∀ u ∈ ys, u.oneCell' = true) :
    Calls Try.prog 47 #[.slice A n c, .int .i64 n, .slice (some ⟨vb, 0, none⟩) 1 1] w fun e w' => ∃ v', e = .returned v' ∧ w'.ownsRow base 3 1 v' (n + 1) (xs ++ ys) ∧ Only (ownb (.slice A n c)) w w' ∧ Moved w (.slice A n c) v' := by
  obtain ⟨i0, hi0, hz0, hz1, hz2⟩ := info_parts int_info
  have H := Lib.hid h
  have CY : Hid (Cel w (fun b => b = vb) (.slice (some ⟨vb, 0, none⟩) 1 1) 1 1 ys) := ⟨_, _, rfl, by simpa using hy, Nat.le_refl _, by simp [maxLen], fun e => by (cases e), fun _ => ⟨vb, 0, rfl, rfl, hv.lt, fun j u hu => by rw [Nat.zero_add]; exact hv.cell_ (by simpa using hu)⟩⟩
  obtain ⟨A', hsl⟩ := sl_lo_any Try.underlying22 hi0 A n c n (Nat.le_refl _) (n : Int) rfl
  have HN : Hid (n + 1 ≤ maxLen ∧ (n + 1) * 8 ≤ 140737488355328) := by simp only [Hid, maxLen]; omega
  clear h hv hy
  go_enter Try.func47, Try.ntmps47
  go_wp2_with (first
    | (at_builtin; refine wpList_append_cel _ rfl (.tmp 23) (.tmp 24) 22 rfl base 3 i0 _ 1 8 Try.underlying22 hi0 hz0 hz1 hz2 rfl (by omega) _ n xs rfl H.out _ _ 1 ys rfl CY.out h1y HN.out.1 HN.out.2 hb ?_
       intro A5 n5 c5 w5 hown5 hgrow5 hmv5
       have R5 : Hid (w5.ownsRow base 3 1 (.slice A5 n5 c5) (n + 1) (xs ++ ys) ∧ Only (ownb (.slice A n c)) w w5 ∧ Moved w (.slice A n c) (.slice A5 n5 c5)) := ⟨hown5, (Only.refl (ownb _) w).grown hgrow5 (fun k hk => .inl hk), hmv5⟩
       clear hown5 hgrow5 hmv5))
  go_ret
  exact ⟨_, rfl, R5.out⟩

set_option maxHeartbeats 6400000 in
theorem insZ_mid (base g n c i vb : Nat) (cur xs ys : List Value) (w : World) (h : Rw_ w base g 3 1 c cur) (hx : cur.take n = xs) (hin : i < n) (hnc : n ≤ c) (hn : n ≤ 4096) (hb : base ≤ w.heap.size)
    (hv : Blk w vb 3 ys.toArray) (hne : vb ≠ g) (hy : ys.length = 1) (h1x : ∀ u ∈ xs, u.oneCell' = true) (h1y : ∀ u ∈ ys, u.oneCell' = true) :
    Calls Try.prog 47 #[.slice (some ⟨g, 0, none⟩) n c, .int .i64 i, .slice (some ⟨vb, 0, none⟩) 1 1] w fun e w' => ∃ v', e = .returned v' ∧ w'.ownsRow base 3 1 v' (n + 1) (xs.take (i) ++ ys ++ xs.drop (i)) ∧ Only (one g) w w' ∧
      (∀ k, v'.ownBlock = some k → k = g ∨ w.heap.size ≤ k) := by
  obtain ⟨i0, hi0, hz0, hz1, hz2⟩ := info_parts int_info
  have hxl : xs.length = n := by rw [← hx, List.length_take, h.cs]; omega
  have hxd : ∀ u ∈ xs.drop (i), u.oneCell' = true := fun u hu => h1x u (List.mem_of_mem_drop hu)
  have hdl : (xs.drop i).length = n - i := by rw [List.length_drop, hxl]
  have hcl := h.cs
  have hglt := h.lt
  have hin0 : (i : Int) ≠ (n : Int) := by omega
  have hin1 : ((i : Int) == (n : Int)) = false := by simp; omega
  have hin2 : ¬ (i = n) := by omega
  have hsl0 := sl_lo1 Try.underlying22 hi0 hz1 g n c i (by omega) (by omega) (i : Int) rfl
  have hw1 : IntKind.i64.wrap ((n : Int) + 1) = (n : Int) + 1 := IntWalk.i64_in _ (by omega)
  have hw2 : IntKind.i64.wrap ((i : Int) + 1) = (i : Int) + 1 := IntWalk.i64_in _ (by omega)
  have hsrcx : ∀ (w' : World), Rw_ w' base g 3 1 c cur → ∀ j v, (xs.drop (i))[j]? = some v → w'.cell? ((⟨g, i, none⟩ : Addr).add j) = some v := by
    intro w' h' j v hj
    have e1 : (⟨g, i, none⟩ : Addr).add j = ⟨g, i + j, none⟩ := by unfold Addr.add; split <;> simp_all
    rw [e1, h'.cell]
    rw [List.getElem?_drop, ← hx, List.getElem?_take] at hj
    split at hj
    · exact hj
    · cases hj
  have hsrcy : ∀ (w' : World), Blk w' vb 3 ys.toArray → ∀ j v, ys[j]? = some v → w'.cell? ((⟨vb, 0, none⟩ : Addr).add j) = some v := by
    intro w' h' j v hj
    have e1 : (⟨vb, 0, none⟩ : Addr).add j = ⟨vb, j, none⟩ := by unfold Addr.add; split <;> simp_all
    rw [e1]
    exact h'.cell_ (by simpa using hj)
  by_cases hroom : n + 1 ≤ c
  · have hgt : ¬ ((c : Int) < (n : Int) + 1) := by omega
    have hgt2 : ¬ (c < n + 1) := by omega
    have hsl1 := sl_hi Try.underlying22 hi0 g 0 n c (n + 1) hroom ((n : Int) + 1) (by omega)
    have hsl2 := sl_lo1 Try.underlying22 hi0 hz1 g (n + 1) c (i + 1) (by omega) (by omega) ((i : Int) + 1) (by omega)
    have hsl3 := sl_lo1 Try.underlying22 hi0 hz1 g (n + 1) c i (by omega) (by omega) (i : Int) rfl
    have hov : ∀ lb cb, (callFunc 55 #[.slice (some ⟨vb, 0, none⟩) 1 1, .slice (some ⟨g, (i + 1), none⟩) lb cb]).run Try.prog w = .ok (.value (.bool false)) w := fun lb cb => by
      rw [run_callFunc_extern Try.func55 (by kernel_rfl) (by kernel_rfl) (by kernel_rfl) (e := Extern.SlicesOverlaps.overlaps #[22, 22] #[4]) (by kernel_rfl),
        Lib.run_overlaps_apart w 22 4 3 Try.underlying22 1 (fun w => by simp [sizeOf, typeInfo, hi0, hz1]) ⟨vb, 0, none⟩ ⟨g, (i + 1), none⟩ 1 1 lb cb hne 3 3 ys.toArray.size cur.toArray.size
          (by have hv' := hv; unfold Blk at hv'; simp [World.shape?, hv']) (by have hb' := h.bk; simp [World.shape?, hb']) (by simp [hcl]; omega) (hv.frozen 0) (hv.frozen _)]
      rfl
    obtain ⟨W1, hW1⟩ : ∃ W1, W1 = w.drew.setRow g (putAt cur ((i + 1)) (xs.drop (i))).toArray := ⟨_, rfl⟩
    have hlen1 : (putAt cur ((i + 1)) (xs.drop (i))).length = cur.length := putAt_len (by rw [hdl, hcl]; omega)
    have R1 : Hid (Rw_ W1 base g 3 1 c (putAt cur ((i + 1)) (xs.drop (i)))) := by rw [hW1]; exact h.drew.set hlen1
    have O1 : Hid (Only (one g) w W1) := by rw [hW1]; exact ((Only.refl (one g) w).drew).setRow (.inl rfl) _
    have hcp1 : ∀ ty dc sc, (Builtin.copy_ #[22, 22] ty #[.slice (some ⟨g, (i + 1), none⟩) (n - i) dc, .slice (some ⟨g, i, none⟩) (n + 1 - i) sc]).run Try.prog w.drew = .ok (goInt (Nat.min (n + 1 - i) (n - i))) W1 := fun ty dc sc => by
      rw [hW1]
      have := run_copy_1 (P := Try.prog) w.drew _ 22 ty _ i0 Try.underlying22 hi0 hz1 base g ((i + 1)) (n - i) dc c cur h.drew ⟨g, i, none⟩ (n + 1 - i) sc (xs.drop (i)) (by rw [hdl]; simp only [Nat.min_def]; split <;> omega) (hsrcx _ h.drew) (by rw [hdl, hcl]; omega) hxd
      exact this
    have V1 : Hid (Blk W1 vb 3 ys.toArray) := hv.only O1.out (fun e => hne e)
    obtain ⟨W2, hW2⟩ : ∃ W2, W2 = W1.setRow g (putAt (putAt cur ((i + 1)) (xs.drop (i))) (i) ys).toArray := ⟨_, rfl⟩
    have hcp2 : ∀ ty dc, (Builtin.copy_ #[22, 22] ty #[.slice (some ⟨g, i, none⟩) (n + 1 - i) dc, .slice (some ⟨vb, 0, none⟩) 1 1]).run Try.prog W1 = .ok (goInt (Nat.min 1 (n + 1 - i))) W2 := fun ty dc => by
      rw [hW2]
      have := run_copy_1 (P := Try.prog) W1 _ 22 ty _ i0 Try.underlying22 hi0 hz1 base g (i) (n + 1 - i) dc c _ R1.out ⟨vb, 0, none⟩ 1 1 ys (by rw [hy, show Nat.min 1 (n + 1 - i) = 1 from Nat.min_eq_left (by omega)]) (hsrcy _ V1.out) (by rw [hlen1, hy, hcl]; omega) h1y
      exact this
    have F : Hid (W2.ownsRow base 3 1 (.slice (some ⟨g, 0, none⟩) (n + 1) c) (n + 1) (xs.take (i) ++ ys ++ xs.drop (i)) ∧ Only (one g) w W2) := by
      constructor
      · rw [hW2]
        refine (R1.out.set (putAt_len (by rw [hlen1, hy, hcl]; omega))).own (n + 1) _ hroom ?_
        rw [Nat.mul_one]
        exact ins_shift1 cur xs ys n i (by rw [hcl]; omega) hx hy (by omega)
      · rw [hW2]; exact O1.out.setRow (.inl rfl) _
    generalize Nat.min (n + 1 - i) (n - i) = m1 at hcp1
    generalize Nat.min 1 (n + 1 - i) = m2 at hcp2
    have HC1 := Lib.hid hcp1
    clear hcp1 h hx hv hxl hxd hdl hcl hsrcx hsrcy hlen1 hW1 hW2 hn hb h1x h1y hy
    go_enter Try.func47, Try.ntmps47
    go_wp2_with fail
    go_region_law (first
      | (refine step_copy_run rfl (.tmp 73) (.tmp 76) _ _ rfl (.slice (some ⟨g, (i + 1), none⟩) (n - i) (c - (i + 1))) (.slice (some ⟨g, i, none⟩) (n + 1 - i) (c - i)) (by simp [Act.eval, Act.put]) (by simp [Act.eval, Act.put]) (HC1.out _ _ _) ?_))
    all_goals go_wp2_with fail
    all_goals go_ret
    all_goals exact ⟨_, rfl, F.out.1, F.out.2, fun k hk => .inl (by have e : some g = some k := hk; injection e with e; exact e.symm)⟩
  · obtain rfl : c = n := by omega
    have hgt : ((c : Int) < (c : Int) + 1) := by omega
    have hsl1 := sl_hi Try.underlying22 hi0 g 0 c c i (by omega) (i : Int) rfl
    have hw3 : IntKind.i64.wrap ((c : Int) + 1 - (i : Int)) = (c : Int) + 1 - (i : Int) := IntWalk.i64_in _ (by omega)
    have hw4 : ((c + 1 - i : Nat) : Int) = (c : Int) + 1 - (i : Int) := by omega
    obtain ⟨G, curN, W1, hrun1, hrw1, hG, htk1, o1, hs1⟩ := app_zero1 (P := Try.prog) w 3 22 _ .i64 .i64 Try.underlying22 Try.underlying3 hi0 hz0 hz1 rfl base g i c c cur h (by omega) (c + 1 - i) (by omega) (by omega) (by omega) (by omega) (by rw [hz2]; decide) hb
    have hiG : i + (c + 1 - i) = c + 1 := by omega
    rw [hiG, hw4] at hrun1
    rw [hiG] at hG
    clear hw4
    have R1 := Lib.hid hrw1
    obtain ⟨N, hN⟩ : ∃ N, w.heap.size = N := ⟨_, rfl⟩
    have HNN := Lib.hid hN
    rw [hN] at hrun1 R1 hglt
    have hcl1 := R1.out.cs
    have G1 : Hid (Rw_ W1 base g 3 1 c cur) := h.only o1 (fun h => h)
    have V1 : Hid (Blk W1 vb 3 ys.toArray) := hv.only o1 (fun h => h)
    have hvN : vb ≠ N := by have := hv.lt; omega
    have hgN : g ≠ N := by omega
    obtain ⟨W2, hW2⟩ : ∃ W2, W2 = W1.setRow N (putAt curN (i) ys).toArray := ⟨_, rfl⟩
    have hlen2 : (putAt curN (i) ys).length = curN.length := putAt_len (by rw [hy, hcl1]; omega)
    have R2 : Hid (Rw_ W2 base N 3 1 G (putAt curN (i) ys)) := by rw [hW2]; exact R1.out.set hlen2
    have O2 : Hid (Only (one N) W1 W2) := by rw [hW2]; exact only_row N _
    have G2 : Hid (Rw_ W2 base g 3 1 c cur) := G1.out.only O2.out (fun e => hgN e)
    have hsl2 := sl_lo1 Try.underlying22 hi0 hz1 N (c + 1) G i (by omega) (by omega) (i : Int) rfl
    have hsl3 := sl_lo1 Try.underlying22 hi0 hz1 N (c + 1) G (i + 1) (by omega) (by omega) ((i : Int) + 1) (by omega)
    have hcp1 : ∀ ty dc, (Builtin.copy_ #[22, 22] ty #[.slice (some ⟨N, i, none⟩) (c + 1 - i) dc, .slice (some ⟨vb, 0, none⟩) 1 1]).run Try.prog W1 = .ok (goInt (Nat.min 1 (c + 1 - i))) W2 := fun ty dc => by
      rw [hW2]
      have := run_copy_1 (P := Try.prog) W1 _ 22 ty _ i0 Try.underlying22 hi0 hz1 base N (i) (c + 1 - i) dc G _ R1.out ⟨vb, 0, none⟩ 1 1 ys (by rw [hy, show Nat.min 1 (c + 1 - i) = 1 from Nat.min_eq_left (by omega)]) (hsrcy _ V1.out) (by rw [hy, hcl1]; omega) h1y
      exact this
    obtain ⟨W3, hW3⟩ : ∃ W3, W3 = W2.drew.setRow N (putAt (putAt curN (i) ys) ((i + 1)) (xs.drop (i))).toArray := ⟨_, rfl⟩
    have hcp2 : ∀ ty dc sc, (Builtin.copy_ #[22, 22] ty #[.slice (some ⟨N, (i + 1), none⟩) (c - i) dc, .slice (some ⟨g, i, none⟩) (c - i) sc]).run Try.prog W2.drew = .ok (goInt (Nat.min (c - i) (c - i))) W3 := fun ty dc sc => by
      rw [hW3]
      have := run_copy_1 (P := Try.prog) W2.drew _ 22 ty _ i0 Try.underlying22 hi0 hz1 base N ((i + 1)) (c - i) dc G _ R2.out.drew ⟨g, i, none⟩ (c - i) sc (xs.drop (i)) (by rw [hdl]; simp only [Nat.min_def]; split <;> omega) (hsrcx _ G2.out.drew) (by rw [hlen2, hdl, hcl1]; omega) hxd
      exact this
    have F : Hid (W3.ownsRow base 3 1 (.slice (some ⟨N, 0, none⟩) (c + 1) G) (c + 1) (xs.take (i) ++ ys ++ xs.drop (i)) ∧ Only (one g) w W3 ∧ w.heap.size ≤ N) := by
      refine ⟨?_, ?_, by omega⟩
      · rw [hW3]
        refine (R2.out.drew.set (putAt_len (by rw [hlen2, hdl, hcl1]; omega))).own (c + 1) _ hG ?_
        rw [Nat.mul_one]
        exact ins_fresh1 cur curN xs ys c i (by rw [hcl1]; omega) htk1 hx hy hxl (by omega)
      · have o3 : Only (one N) W1 W3 := by rw [hW3]; exact (O2.out.drew).setRow (.inl rfl) _
        exact (o1.of_none).trans' o3 (fun k hk e => by have e' : k = N := e; omega)
    generalize Nat.min 1 (c + 1 - i) = m1 at hcp1
    generalize Nat.min (c - i) (c - i) = m2 at hcp2
    have HC2 := Lib.hid hcp2
    have HR1 := Lib.hid hrun1
    clear hcp2 hrun1 h hx hv hxl hxd hdl hcl hcl1 hsrcx hsrcy hlen2 hW2 hW3 hn hb h1x h1y hy hrw1 hG htk1 o1 hs1 hN hiG
    go_enter Try.func47, Try.ntmps47
    go_wp2_with (first
      | (at_builtin; refine wpList_append_run2 rfl (.tmp 34) (.tmp 39) _ _ rfl _ _ rfl rfl HR1.out ?_))
    go_region_law (first
      | (refine step_copy_run rfl (.tmp 50) (.tmp 53) _ _ rfl (.slice (some ⟨N, (i + 1), none⟩) (c - i) (G - (i + 1))) (.slice (some ⟨g, i, none⟩) (c - i) (c - i)) (by simp [Act.eval, Act.put]) (by simp [Act.eval, Act.put]) (HC2.out _ _ _) ?_))
    all_goals go_wp2_with fail
    all_goals go_ret
    all_goals exact ⟨_, rfl, F.out.1, F.out.2.1, fun k hk => .inr (by have e : some N = some k := hk; injection e with e; have := F.out.2.2; omega)⟩

set_option maxHeartbeats 6400000 in
theorem delZ (base g m c i : Nat) (cur xs : List Value) (w : World) (h : Rw_ w base g 3 1 c cur) (hx : cur.take (m + 1) = xs) (him : i ≤ m) (hmc : m + 1 ≤ c) (hm : m ≤ 4096) (h1x : ∀ u ∈ xs, u.oneCell' = true) :
    Calls Try.prog 45 #[.slice (some ⟨g, 0, none⟩) (m + 1) c, .int .i64 i, .int .i64 ((i : Int) + 1)] w fun e w' => e = .returned (.slice (some ⟨g, 0, none⟩) m c) ∧ w'.ownsRow base 3 1 (.slice (some ⟨g, 0, none⟩) m c) m (xs.take (i) ++ xs.drop ((i + 1))) ∧ Only (one g) w w' := by
  obtain ⟨i0, hi0, hz0, hz1, hz2⟩ := info_parts int_info
  have hxl : xs.length = (m + 1) := by rw [← hx, List.length_take, h.cs]; omega
  have hxd : ∀ u ∈ xs.drop ((i + 1)), u.oneCell' = true := fun u hu => h1x u (List.mem_of_mem_drop hu)
  have hdl : (xs.drop ((i + 1))).length = (m - i) := by rw [List.length_drop, hxl]; omega
  have hcl := h.cs
  have hne : ((i : Int) == (i : Int) + 1) = false := by simp; omega
  have hne2 : ¬ ((i : Int) = (i : Int) + 1) := by omega
  obtain ⟨A', hsl0⟩ := sl_three Try.underlying22 hi0 (some ⟨g, 0, none⟩) (m + 1) c i (i + 1) (m + 1) (by omega) (by omega) hmc (i : Int) ((i : Int) + 1) ((m : Int) + 1) rfl (by omega) (by omega)
  have hsl1 := sl_hi Try.underlying22 hi0 g 0 (m + 1) c i (by omega) (i : Int) rfl
  obtain ⟨W1, hW1⟩ : ∃ W1, W1 = w.drew.setRow g (putAt cur (i) (xs.drop ((i + 1)))).toArray := ⟨_, rfl⟩
  have hlen1 : (putAt cur (i) (xs.drop ((i + 1)))).length = cur.length := putAt_len (by rw [hdl, hcl]; omega)
  have R1 : Hid (Rw_ W1 base g 3 1 c (putAt cur (i) (xs.drop ((i + 1))))) := by rw [hW1]; exact h.drew.set hlen1
  have O1 : Hid (Only (one g) w W1) := by rw [hW1]; exact ((Only.refl (one g) w).drew).setRow (.inl rfl) _
  have hrest : ∃ q, (∀ w', (Instr.sliceAt 22 (.slice (some ⟨g, 0, none⟩) (m + 1) c) (some (.int .i64 ((i : Int) + 1))) none none).run Try.prog w' = .ok (.slice (some ⟨g, q, none⟩) (m - i) (c - (i + 1))) w') ∧
      ∀ ty, (Builtin.append_ #[22, 22] ty #[.slice (some ⟨g, 0, none⟩) i c, .slice (some ⟨g, q, none⟩) (m - i) (c - (i + 1))]).run Try.prog w.drew = .ok (.slice (some ⟨g, 0, none⟩) m c) W1 := by
    have hmm : m + 1 - (i + 1) = m - i := by omega
    have him2 : i + (m - i) = m := by omega
    by_cases hic : i + 1 < c
    · have h5 := sl_lo1 Try.underlying22 hi0 hz1 g (m + 1) c (i + 1) (by omega) hic ((i : Int) + 1) (by omega)
      rw [hmm] at h5
      refine ⟨_, h5, fun ty => ?_⟩
      have := run_append_room1 (P := Try.prog) w.drew _ ty _ i0 Try.underlying22 hi0 hz1 base g i c c cur h.drew ⟨g, (i + 1), none⟩ (m - i) (c - (i + 1)) (xs.drop ((i + 1))) hdl (by omega) (fun j v hj => by
        have e1 : (⟨g, (i + 1), none⟩ : Addr).add j = ⟨g, (i + 1) + j, none⟩ := by unfold Addr.add; split <;> simp_all
        rw [e1, h.drew.cell]
        rw [List.getElem?_drop, ← hx, List.getElem?_take] at hj
        split at hj
        · exact hj
        · cases hj) (by rw [hdl, hcl]; omega) hxd
      rw [him2, ← hW1] at this
      exact this
    · have h5 := sl_lo_end Try.underlying22 hi0 g 0 (m + 1) c (i + 1) (by omega) (by omega) ((i : Int) + 1) (by omega)
      rw [hmm] at h5
      refine ⟨_, h5, fun ty => ?_⟩
      have he : xs.drop ((i + 1)) = [] := List.eq_nil_of_length_eq_zero (by rw [hdl]; omega)
      have := run_append_room1 (P := Try.prog) w.drew _ ty _ i0 Try.underlying22 hi0 hz1 base g i c c cur h.drew ⟨g, 0, none⟩ (m - i) (c - (i + 1)) (xs.drop ((i + 1))) hdl (by omega) (by rw [he]; intro j v hj; simp at hj) (by rw [hdl, hcl]; omega) hxd
      rw [him2, ← hW1] at this
      exact this
  obtain ⟨q, hsl2, hap⟩ := hrest
  have hsl3 := sl_mid1 Try.underlying22 hi0 hz1 g m c m (m + 1) (by omega) hmc (by omega) (m : Int) ((m : Int) + 1) rfl (by omega)
  rw [Nat.add_sub_cancel_left] at hsl3
  obtain ⟨cs, hcs, hclr⟩ := run_clear_row1 (P := Try.prog) W1 22 22 _ i0 _ Try.underlying22 hi0 hz0 rfl (by simp [Value.cells, Value.oneCell']) base g (m) 1 (c - m) c _ R1.out (by omega) (by rw [hlen1, hcl]; omega)
  have hclr2 : ∀ ty, (Builtin.clear_ #[22] ty #[.slice (some ⟨g, m, none⟩) 1 (c - m)]).run Try.prog W1 = .ok (.tuple #[]) (W1.setRow g (putAt (putAt cur (i) (xs.drop ((i + 1)))) (m) cs).toArray) := fun ty => hclr
  obtain ⟨W2, hW2⟩ : ∃ W2, W2 = W1.setRow g (putAt (putAt cur (i) (xs.drop ((i + 1)))) (m) cs).toArray := ⟨_, rfl⟩
  rw [← hW2] at hclr2
  have F : Hid (W2.ownsRow base 3 1 (.slice (some ⟨g, 0, none⟩) m c) m (xs.take (i) ++ xs.drop ((i + 1))) ∧ Only (one g) w W2) := by
    constructor
    · rw [hW2]
      refine (R1.out.set (putAt_len (by rw [hlen1, hcs, hcl]; omega))).own m _ (by omega) ?_
      rw [Nat.mul_one]
      exact del_shift1 cur xs cs (m + 1) i (m) (by rw [hcl]; omega) hx (by omega) (by simp) (by rw [hcs, hcl]; omega)
    · rw [hW2]; exact O1.out.setRow (.inl rfl) _
  have HAP := Lib.hid hap
  clear hap hclr h hx hxl hxd hdl hcl hlen1 hW1 hW2 hm h1x hcs
  go_enter Try.func45, Try.ntmps45
  go_wp2_with fail
  go_region_law (first
    | (refine step_append_run2 rfl (.tmp 22) (.tmp 25) _ _ rfl (.slice (some ⟨g, 0, none⟩) i c) (.slice (some ⟨g, q, none⟩) (m - i) (c - (i + 1))) (by simp [Act.eval, Act.put]) (by simp [Act.eval, Act.put]) (HAP.out _) ?_))
  all_goals go_wp2_with fail
  all_goals go_ret
  all_goals exact ⟨rfl, F.out.1, F.out.2⟩

end Go.Proofs.Ytiigebdmkibnbaa
