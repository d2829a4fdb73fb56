/- Texts of mine, one behind the other: Byt, TbBe. No statement of the seat is proved here. -/
import Derived.Test.YtniacolkjdmflaaChecked
import Derived.Test.YtniacolkjdmflaaPg1
import Derived.Test.YtniacolkjdmflaaPg3
import Derived.Deep.RegionLaw
section
namespace Go.Proofs.Ytniacolkjdmflaa
open Go.RowKit

theorem u8_info : (Try.prog.info? 5).map (fun i => (i.zero, i.size, i.bytes)) = some (some (.int .u8 0), 1, 1) := by kernel_rfl

section
variable {P : Program} {t e : TypeId} {i : TypeInfo} {w : World} {S : Nat → Prop} {A : Option Addr} {c L : Nat} {bs : List UInt8}
/-- Bytes cut off at n; bytes from n on. -/
theorem byt_hi (ht : P.underlying t = some (.slice e)) (hi : P.info? e = some i) (h : Byt w S (.slice A L c) bs) (n : Nat) (hn : n ≤ L) (z : Int) (hzn : z = n) :
    ∃ A1, (∀ w', (Instr.sliceAt t (.slice A L c) none (some (.int .i64 z)) none).run P w' = .ok (.slice A1 n c) w') ∧ Byt w S (.slice A1 n c) (bs.take n) := by
  subst hzn
  obtain ⟨A', c', he, h1, h2, h3, h4⟩ := h
  injection he with e1 e2 e3
  subst e1 e2 e3
  refine ⟨if c = 0 then A else A.map (·.add (0 * 1)), fun w' => ?_, ?_⟩
  · have hc : (n : Int) ≤ (c : Int) := by omega
    simp [Instr.sliceAt, Instr.slice, run_underlying ht, Instr.sliceBounds, run_sliceBound, sizeOf, typeInfo, hi, hc]
  · have hl : (bs.take n).length = n := by simp; omega
    refine ⟨_, c, by rw [hl], by omega, h2, fun hA => h3 ?_, fun hp => ?_⟩
    · split at hA
      · exact hA
      · cases A with
        | none => rfl
        | some a => simp at hA
    · obtain ⟨b, off, rfl, hs, hlt, hc⟩ := h4 (by omega)
      rw [if_neg (by omega)]
      refine ⟨b, off, by simp [Addr.add], hs, hlt, fun j hj => ?_⟩
      rw [hc j (by omega)]
      simp
theorem byt_lo (ht : P.underlying t = some (.slice e)) (hi : P.info? e = some i) (hz : i.size = 1) (h : Byt w S (.slice A L c) bs) (n : Nat) (hn : n ≤ L) (z : Int) (hzn : z = n) :
    ∃ A1 L1 c1, (∀ w', (Instr.sliceAt t (.slice A L c) (some (.int .i64 z)) none none).run P w' = .ok (.slice A1 L1 c1) w') ∧ Byt w S (.slice A1 L1 c1) (bs.drop n) := by
  subst hzn
  obtain ⟨A', c', he, h1, h2, h3, h4⟩ := h
  injection he with e1 e2 e3
  subst e1 e2 e3
  refine ⟨if c = n then A else A.map (·.add (n * 1)), bs.length - n, c - n, fun w' => ?_, ?_⟩
  · have hc : (n : Int) ≤ (bs.length : Int) := by omega
    simp [Instr.sliceAt, Instr.slice, run_underlying ht, Instr.sliceBounds, run_sliceBound, sizeOf, typeInfo, hi, hz, hc]
  · have hl : (bs.drop n).length = bs.length - n := by simp
    refine ⟨_, c - n, by rw [hl], by omega, by omega, fun hA => ?_, fun hp => ?_⟩
    · have : A = none := by
        split at hA
        · exact hA
        · cases A with
          | none => rfl
          | some a => simp at hA
      have := h3 this
      omega
    · obtain ⟨b, off, rfl, hs, hlt, hc⟩ := h4 (by omega)
      rw [if_neg (by omega)]
      refine ⟨b, off + n, by simp [Addr.add], hs, hlt, fun j hj => ?_⟩
      rw [Nat.add_assoc, hc (n + j) (by omega)]
      simp
end

section
variable {P : Program} {t e : TypeId} {i : TypeInfo} {w : World} {S : Nat → Prop} {A : Option Addr} {c L : Nat} {bs : List UInt8}
/-- Bytes from a place to a later one. -/
theorem byt_mid (ht : P.underlying t = some (.slice e)) (hi : P.info? e = some i) (hz : i.size = 1) (h : Byt w S (.slice A L c) bs) (m n : Nat) (hmn : m ≤ n) (hn : n ≤ L) (y z : Int) (hy : y = m) (hzn : z = n) :
    ∃ A1 L1 c1, (∀ w', (Instr.sliceAt t (.slice A L c) (some (.int .i64 y)) (some (.int .i64 z)) none).run P w' = .ok (.slice A1 L1 c1) w') ∧ Byt w S (.slice A1 L1 c1) ((bs.drop m).take (n - m)) := by
  subst hy hzn
  obtain ⟨A', c', he, h1, h2, h3, h4⟩ := h
  injection he with e1 e2 e3
  subst e1 e2 e3
  refine ⟨if c = m then A else A.map (·.add (m * 1)), n - m, c - m, fun w' => ?_, ?_⟩
  · have hc1 : (n : Int) ≤ (c : Int) := by omega
    have hc2 : (m : Int) ≤ (n : Int) := by omega
    simp [Instr.sliceAt, Instr.slice, run_underlying ht, Instr.sliceBounds, run_sliceBound, sizeOf, typeInfo, hi, hz, hc1, hc2]
  · have hl : ((bs.drop m).take (n - m)).length = n - m := by simp; omega
    refine ⟨_, c - m, by rw [hl], by omega, by omega, fun hA => ?_, fun hp => ?_⟩
    · have : A = none := by
        split at hA
        · exact hA
        · cases A with
          | none => rfl
          | some a => simp at hA
      have := h3 this
      omega
    · rw [hl] at hp
      obtain ⟨b, off, rfl, hs, hlt, hc⟩ := h4 (by omega)
      rw [if_neg (by omega)]
      refine ⟨b, off + m, by simp [Addr.add], hs, hlt, fun j hj => ?_⟩
      rw [hl] at hj
      rw [Nat.add_assoc, hc (m + j) (by omega)]
      simp
end

/-- Bytes as a string. -/
theorem run_bytes_string (w : World) (S : Nat → Prop) (x : Value) (bs : List UInt8) (h : Byt w S x bs) : (convert 135 9 x).run Try.prog w = .ok (.string ⟨bs.toArray⟩) w := by
  obtain ⟨A, c, rfl, h1, h2, h3, h4⟩ := h
  rcases A with _ | ad
  · have hn : bs = [] := List.eq_nil_of_length_eq_zero (by have := h3 rfl; omega)
    subst hn
    exact run_convert_bytes_nil w 135 5 Try.underlying135 Try.underlying5 _ _ _ Try.underlying9
  · refine run_convert_bytes_back w 135 9 5 ad c bs Try.underlying135 Try.underlying5 Try.underlying9 fun j hj => ?_
    obtain ⟨g, off, e1, _, _, hc⟩ := h4 (by omega)
    injection e1 with e1
    subst e1
    have e2 : (⟨g, off, none⟩ : Addr).add j = ⟨g, off + j, none⟩ := by unfold Addr.add; split <;> simp_all
    rw [e2, hc j hj]; rfl
end Go.Proofs.Ytniacolkjdmflaa
end
section
namespace Go.Proofs.Ytniacolkjdmflaa.Se
open Go.RowKit
set_option maxRecDepth 100000
set_option linter.all false

theorem pairI_info : (Try.prog.info? 145).map (fun i => (i.zero, i.size, i.bytes)) = some (some (.agg #[.string ⟨#[]⟩, .string ⟨#[]⟩, .string ⟨#[]⟩, .bool false, .int .i64 0, .int .i64 0, .int .i64 0, .int .i64 0, .int .i64 0, .int .i64 0]), 10, 104) := by kernel_rfl

set_option maxHeartbeats 3200000 in
theorem insI_end (base : Nat) (A : Option Addr) (n c vb : Nat) (xs ys : List Value) (w : World) (h : w.ownsRow base 145 10 (.slice A n c) n xs) (hn : n ≤ 4096) (hb : base ≤ w.heap.size)
    (hv : Blk w vb 145 ys.toArray) (hy : ys.length = 10) (h1y : ∀ u ∈ ys, u.oneCell' = true) :
    Calls Try.prog 106 #[.slice A n c, .int .i64 n, .slice (some ⟨vb, 0, none⟩) 1 1] w fun e w' => ∃ v', e = .returned v' ∧ w'.ownsRow base 145 10 v' (n + 1) (xs ++ ys) ∧ Only (ownb (.slice A n c)) w w' ∧ Moved w (.slice A n c) v' := by
  obtain ⟨i0, hi0, hz0, hz1, hz2⟩ := info_parts pairI_info
  have H := Lib.hid h
  have CY : Hid (Cel w (fun b => b = vb) (.slice (some ⟨vb, 0, none⟩) 1 1) 1 10 ys) := ⟨_, _, rfl, by simpa using hy, Nat.le_refl _, by simp [maxLen], fun e => by (cases e), fun _ => ⟨vb, 0, rfl, rfl, hv.lt, fun j u hu => by rw [Nat.zero_add]; exact hv.cell_ (by simpa using hu)⟩⟩
  obtain ⟨A', hsl⟩ := sl_lo_any Try.underlying146 hi0 A n c n (Nat.le_refl _) (n : Int) rfl
  have HN : Hid (n + 1 ≤ maxLen ∧ (n + 1) * 104 ≤ 140737488355328) := by simp only [Hid, maxLen]; omega
  clear h hv hy
  go_enter Try.func106, Try.ntmps106
  go_wp2_with (first
    | (at_builtin; refine wpList_append_cel _ rfl (.tmp 23) (.tmp 24) 146 rfl base 145 i0 _ 10 104 Try.underlying146 hi0 hz0 hz1 hz2 rfl (by omega) _ n xs rfl H.out _ _ 1 ys rfl CY.out h1y HN.out.1 HN.out.2 hb ?_
       intro A5 n5 c5 w5 hown5 hgrow5 hmv5
       have R5 : Hid (w5.ownsRow base 145 10 (.slice A5 n5 c5) (n + 1) (xs ++ ys) ∧ Only (ownb (.slice A n c)) w w5 ∧ Moved w (.slice A n c) (.slice A5 n5 c5)) := ⟨hown5, (Only.refl (ownb _) w).grown hgrow5 (fun k hk => .inl hk), hmv5⟩
       clear hown5 hgrow5 hmv5))
  go_ret
  exact ⟨_, rfl, R5.out⟩

set_option maxHeartbeats 6400000 in
theorem insI_mid (base g n c i vb : Nat) (cur xs ys : List Value) (w : World) (h : Rw_ w base g 145 10 c cur) (hx : cur.take (n * 10) = xs) (hin : i < n) (hnc : n ≤ c) (hn : n ≤ 4096) (hb : base ≤ w.heap.size)
    (hv : Blk w vb 145 ys.toArray) (hne : vb ≠ g) (hy : ys.length = 10) (h1x : ∀ u ∈ xs, u.oneCell' = true) (h1y : ∀ u ∈ ys, u.oneCell' = true) :
    Calls Try.prog 106 #[.slice (some ⟨g, 0, none⟩) n c, .int .i64 i, .slice (some ⟨vb, 0, none⟩) 1 1] w fun e w' => ∃ v', e = .returned v' ∧ w'.ownsRow base 145 10 v' (n + 1) (xs.take (i * 10) ++ ys ++ xs.drop (i * 10)) ∧ Only (one g) w w' ∧
      (∀ k, v'.ownBlock = some k → k = g ∨ w.heap.size ≤ k) := by
  obtain ⟨i0, hi0, hz0, hz1, hz2⟩ := info_parts pairI_info
  have hxl : xs.length = n * 10 := by rw [← hx, List.length_take, h.cs]; omega
  have hxd : ∀ u ∈ xs.drop (i * 10), u.oneCell' = true := fun u hu => h1x u (List.mem_of_mem_drop hu)
  have hdl : (xs.drop (i * 10)).length = (n - i) * 10 := by rw [List.length_drop, hxl]; omega
  have hcl := h.cs
  have hglt := h.lt
  have hin0 : (i : Int) ≠ (n : Int) := by omega
  have hin1 : ((i : Int) == (n : Int)) = false := by simp; omega
  have hin2 : ¬ (i = n) := by omega
  have hsl0 := sl_lo0 Try.underlying146 hi0 hz1 g n c i (by omega) (by omega) (i : Int) rfl
  have hw1 : IntKind.i64.wrap ((n : Int) + 1) = (n : Int) + 1 := IntWalk.i64_in _ (by omega)
  have hw2 : IntKind.i64.wrap ((i : Int) + 1) = (i : Int) + 1 := IntWalk.i64_in _ (by omega)
  have hsrcx : ∀ (w' : World), Rw_ w' base g 145 10 c cur → ∀ j v, (xs.drop (i * 10))[j]? = some v → w'.cell? ((⟨g, i * 10, none⟩ : Addr).add j) = some v := by
    intro w' h' j v hj
    have e1 : (⟨g, i * 10, none⟩ : Addr).add j = ⟨g, i * 10 + j, none⟩ := by unfold Addr.add; split <;> simp_all
    rw [e1, h'.cell]
    rw [List.getElem?_drop, ← hx, List.getElem?_take] at hj
    split at hj
    · exact hj
    · cases hj
  have hsrcy : ∀ (w' : World), Blk w' vb 145 ys.toArray → ∀ j v, ys[j]? = some v → w'.cell? ((⟨vb, 0, none⟩ : Addr).add j) = some v := by
    intro w' h' j v hj
    have e1 : (⟨vb, 0, none⟩ : Addr).add j = ⟨vb, j, none⟩ := by unfold Addr.add; split <;> simp_all
    rw [e1]
    exact h'.cell_ (by simpa using hj)
  by_cases hroom : n + 1 ≤ c
  · have hgt : ¬ ((c : Int) < (n : Int) + 1) := by omega
    have hgt2 : ¬ (c < n + 1) := by omega
    have hsl1 := sl_hi Try.underlying146 hi0 g 0 n c (n + 1) hroom ((n : Int) + 1) (by omega)
    have hsl2 := sl_lo0 Try.underlying146 hi0 hz1 g (n + 1) c (i + 1) (by omega) (by omega) ((i : Int) + 1) (by omega)
    have hsl3 := sl_lo0 Try.underlying146 hi0 hz1 g (n + 1) c i (by omega) (by omega) (i : Int) rfl
    have hov : ∀ lb cb, (callFunc 129 #[.slice (some ⟨vb, 0, none⟩) 1 1, .slice (some ⟨g, (i + 1) * 10, none⟩) lb cb]).run Try.prog w = .ok (.value (.bool false)) w := fun lb cb => by
      rw [run_callFunc_extern Try.func129 (by kernel_rfl) (by kernel_rfl) (by kernel_rfl) (e := Extern.SlicesOverlaps.overlaps #[146, 146] #[4]) (by kernel_rfl),
        Lib.run_overlaps_apart w 146 4 145 Try.underlying146 10 (fun w => by simp [sizeOf, typeInfo, hi0, hz1]) ⟨vb, 0, none⟩ ⟨g, (i + 1) * 10, none⟩ 1 1 lb cb hne 145 145 ys.toArray.size cur.toArray.size
          (by have hv' := hv; unfold Blk at hv'; simp [World.shape?, hv']) (by have hb' := h.bk; simp [World.shape?, hb']) (by simp [hcl]; omega) (hv.frozen 0) (hv.frozen _)]
      rfl
    obtain ⟨W1, hW1⟩ : ∃ W1, W1 = w.drew.setRow g (putAt cur ((i + 1) * 10) (xs.drop (i * 10))).toArray := ⟨_, rfl⟩
    have hlen1 : (putAt cur ((i + 1) * 10) (xs.drop (i * 10))).length = cur.length := putAt_len (by rw [hdl, hcl]; omega)
    have R1 : Hid (Rw_ W1 base g 145 10 c (putAt cur ((i + 1) * 10) (xs.drop (i * 10)))) := by rw [hW1]; exact h.drew.set hlen1
    have O1 : Hid (Only (one g) w W1) := by rw [hW1]; exact ((Only.refl (one g) w).drew).setRow (.inl rfl) _
    have hcp1 : ∀ ty dc sc, (Builtin.copy_ #[146, 146] ty #[.slice (some ⟨g, (i + 1) * 10, none⟩) (n - i) dc, .slice (some ⟨g, i * 10, none⟩) (n + 1 - i) sc]).run Try.prog w.drew = .ok (goInt (Nat.min (n + 1 - i) (n - i))) W1 := fun ty dc sc => by
      rw [hW1]
      have := run_copy_k (P := Try.prog) w.drew _ 146 ty _ i0 10 Try.underlying146 hi0 hz1 base g ((i + 1) * 10) (n - i) dc c cur h.drew ⟨g, i * 10, none⟩ (n + 1 - i) sc (xs.drop (i * 10)) (by rw [hdl]; congr 1; simp only [Nat.min_def]; split <;> omega) (hsrcx _ h.drew) (by rw [hdl, hcl]; omega) hxd
      exact this
    have V1 : Hid (Blk W1 vb 145 ys.toArray) := hv.only O1.out (fun e => hne e)
    obtain ⟨W2, hW2⟩ : ∃ W2, W2 = W1.setRow g (putAt (putAt cur ((i + 1) * 10) (xs.drop (i * 10))) (i * 10) ys).toArray := ⟨_, rfl⟩
    have hcp2 : ∀ ty dc, (Builtin.copy_ #[146, 146] ty #[.slice (some ⟨g, i * 10, none⟩) (n + 1 - i) dc, .slice (some ⟨vb, 0, none⟩) 1 1]).run Try.prog W1 = .ok (goInt (Nat.min 1 (n + 1 - i))) W2 := fun ty dc => by
      rw [hW2]
      have := run_copy_k (P := Try.prog) W1 _ 146 ty _ i0 10 Try.underlying146 hi0 hz1 base g (i * 10) (n + 1 - i) dc c _ R1.out ⟨vb, 0, none⟩ 1 1 ys (by rw [hy, show Nat.min 1 (n + 1 - i) = 1 from Nat.min_eq_left (by omega)]) (hsrcy _ V1.out) (by rw [hlen1, hy, hcl]; omega) h1y
      exact this
    have F : Hid (W2.ownsRow base 145 10 (.slice (some ⟨g, 0, none⟩) (n + 1) c) (n + 1) (xs.take (i * 10) ++ ys ++ xs.drop (i * 10)) ∧ Only (one g) w W2) := by
      constructor
      · rw [hW2]
        refine (R1.out.set (putAt_len (by rw [hlen1, hy, hcl]; omega))).own (n + 1) _ hroom ?_
        exact ins_shift cur xs ys 10 n i (by rw [hcl]; omega) hx hy (by omega)
      · rw [hW2]; exact O1.out.setRow (.inl rfl) _
    generalize Nat.min (n + 1 - i) (n - i) = m1 at hcp1
    generalize Nat.min 1 (n + 1 - i) = m2 at hcp2
    have HC1 := Lib.hid hcp1
    clear hcp1 h hx hv hxl hxd hdl hcl hsrcx hsrcy hlen1 hW1 hW2 hn hb h1x h1y hy
    go_enter Try.func106, Try.ntmps106
    go_wp2_with fail
    go_region_law (first
      | (refine step_copy_run rfl (.tmp 73) (.tmp 76) _ _ rfl (.slice (some ⟨g, (i + 1) * 10, none⟩) (n - i) (c - (i + 1))) (.slice (some ⟨g, i * 10, none⟩) (n + 1 - i) (c - i)) (by simp [Act.eval, Act.put]) (by simp [Act.eval, Act.put]) (HC1.out _ _ _) ?_))
    all_goals go_wp2_with fail
    all_goals go_ret
    all_goals exact ⟨_, rfl, F.out.1, F.out.2, fun k hk => .inl (by have e : some g = some k := hk; injection e with e; exact e.symm)⟩
  · obtain rfl : c = n := by omega
    have hgt : ((c : Int) < (c : Int) + 1) := by omega
    have hsl1 := sl_hi Try.underlying146 hi0 g 0 c c i (by omega) (i : Int) rfl
    have hw3 : IntKind.i64.wrap ((c : Int) + 1 - (i : Int)) = (c : Int) + 1 - (i : Int) := IntWalk.i64_in _ (by omega)
    have hw4 : ((c + 1 - i : Nat) : Int) = (c : Int) + 1 - (i : Int) := by omega
    obtain ⟨G, curN, W1, hrun1, hrw1, hG, htk1, o1, hs1⟩ := app_zero (P := Try.prog) w 3 146 _ .i64 .i64 Try.underlying146 Try.underlying3 hi0 hz0 hz1 rfl base g i c c cur h (by omega) (c + 1 - i) (by omega) (by omega) (by omega) (by omega) (by rw [hz2]; decide) hb
    have hiG : i + (c + 1 - i) = c + 1 := by omega
    rw [hiG, hw4] at hrun1
    rw [hiG] at hG
    clear hw4
    have R1 := Lib.hid hrw1
    obtain ⟨N, hN⟩ : ∃ N, w.heap.size = N := ⟨_, rfl⟩
    have HNN := Lib.hid hN
    rw [hN] at hrun1 R1 hglt
    have hcl1 := R1.out.cs
    have G1 : Hid (Rw_ W1 base g 145 10 c cur) := h.only o1 (fun h => h)
    have V1 : Hid (Blk W1 vb 145 ys.toArray) := hv.only o1 (fun h => h)
    have hvN : vb ≠ N := by have := hv.lt; omega
    have hgN : g ≠ N := by omega
    obtain ⟨W2, hW2⟩ : ∃ W2, W2 = W1.setRow N (putAt curN (i * 10) ys).toArray := ⟨_, rfl⟩
    have hlen2 : (putAt curN (i * 10) ys).length = curN.length := putAt_len (by rw [hy, hcl1]; omega)
    have R2 : Hid (Rw_ W2 base N 145 10 G (putAt curN (i * 10) ys)) := by rw [hW2]; exact R1.out.set hlen2
    have O2 : Hid (Only (one N) W1 W2) := by rw [hW2]; exact only_row N _
    have G2 : Hid (Rw_ W2 base g 145 10 c cur) := G1.out.only O2.out (fun e => hgN e)
    have hsl2 := sl_lo0 Try.underlying146 hi0 hz1 N (c + 1) G i (by omega) (by omega) (i : Int) rfl
    have hsl3 := sl_lo0 Try.underlying146 hi0 hz1 N (c + 1) G (i + 1) (by omega) (by omega) ((i : Int) + 1) (by omega)
    have hcp1 : ∀ ty dc, (Builtin.copy_ #[146, 146] ty #[.slice (some ⟨N, i * 10, none⟩) (c + 1 - i) dc, .slice (some ⟨vb, 0, none⟩) 1 1]).run Try.prog W1 = .ok (goInt (Nat.min 1 (c + 1 - i))) W2 := fun ty dc => by
      rw [hW2]
      have := run_copy_k (P := Try.prog) W1 _ 146 ty _ i0 10 Try.underlying146 hi0 hz1 base N (i * 10) (c + 1 - i) dc G _ R1.out ⟨vb, 0, none⟩ 1 1 ys (by rw [hy, show Nat.min 1 (c + 1 - i) = 1 from Nat.min_eq_left (by omega)]) (hsrcy _ V1.out) (by rw [hy, hcl1]; omega) h1y
      exact this
    obtain ⟨W3, hW3⟩ : ∃ W3, W3 = W2.drew.setRow N (putAt (putAt curN (i * 10) ys) ((i + 1) * 10) (xs.drop (i * 10))).toArray := ⟨_, rfl⟩
    have hcp2 : ∀ ty dc sc, (Builtin.copy_ #[146, 146] ty #[.slice (some ⟨N, (i + 1) * 10, none⟩) (c - i) dc, .slice (some ⟨g, i * 10, none⟩) (c - i) sc]).run Try.prog W2.drew = .ok (goInt (Nat.min (c - i) (c - i))) W3 := fun ty dc sc => by
      rw [hW3]
      have := run_copy_k (P := Try.prog) W2.drew _ 146 ty _ i0 10 Try.underlying146 hi0 hz1 base N ((i + 1) * 10) (c - i) dc G _ R2.out.drew ⟨g, i * 10, none⟩ (c - i) sc (xs.drop (i * 10)) (by rw [hdl]; congr 1; simp only [Nat.min_def]; split <;> omega) (hsrcx _ G2.out.drew) (by rw [hlen2, hdl, hcl1]; omega) hxd
      exact this
    have F : Hid (W3.ownsRow base 145 10 (.slice (some ⟨N, 0, none⟩) (c + 1) G) (c + 1) (xs.take (i * 10) ++ ys ++ xs.drop (i * 10)) ∧ Only (one g) w W3 ∧ w.heap.size ≤ N) := by
      refine ⟨?_, ?_, by omega⟩
      · rw [hW3]
        refine (R2.out.drew.set (putAt_len (by rw [hlen2, hdl, hcl1]; omega))).own (c + 1) _ hG ?_
        exact ins_fresh cur curN xs ys 10 c i (by rw [hcl1]; omega) htk1 hx hy hxl (by omega)
      · have o3 : Only (one N) W1 W3 := by rw [hW3]; exact (O2.out.drew).setRow (.inl rfl) _
        exact (o1.of_none).trans' o3 (fun k hk e => by have e' : k = N := e; omega)
    generalize Nat.min 1 (c + 1 - i) = m1 at hcp1
    generalize Nat.min (c - i) (c - i) = m2 at hcp2
    have HC2 := Lib.hid hcp2
    have HR1 := Lib.hid hrun1
    clear hcp2 hrun1 h hx hv hxl hxd hdl hcl hcl1 hsrcx hsrcy hlen2 hW2 hW3 hn hb h1x h1y hy hrw1 hG htk1 o1 hs1 hN hiG
    go_enter Try.func106, Try.ntmps106
    go_wp2_with (first
      | (at_builtin; refine wpList_append_run2 rfl (.tmp 34) (.tmp 39) _ _ rfl _ _ rfl rfl HR1.out ?_))
    go_region_law (first
      | (refine step_copy_run rfl (.tmp 50) (.tmp 53) _ _ rfl (.slice (some ⟨N, (i + 1) * 10, none⟩) (c - i) (G - (i + 1))) (.slice (some ⟨g, i * 10, none⟩) (c - i) (c - i)) (by simp [Act.eval, Act.put]) (by simp [Act.eval, Act.put]) (HC2.out _ _ _) ?_))
    all_goals go_wp2_with fail
    all_goals go_ret
    all_goals exact ⟨_, rfl, F.out.1, F.out.2.1, fun k hk => .inr (by have e : some N = some k := hk; injection e with e; have := F.out.2.2; omega)⟩

set_option maxHeartbeats 3200000 in
theorem cloI (A : Option Addr) (n c : Nat) (S : Nat → Prop) (xs : List Value) (w : World) (h : Cel w S (.slice A n c) n 10 xs) (hn : n ≤ 4096) (h1x : ∀ u ∈ xs, u.oneCell' = true) :
    Calls Try.prog 104 #[.slice A n c] w fun e w' => ∃ v', e = .returned v' ∧ w'.ownsRow w.heap.size 145 10 v' n xs ∧ Only none_ w w' := by
  obtain ⟨i0, hi0, hz0, hz1, hz2⟩ := info_parts pairI_info
  have H := Lib.hid h
  have hnil := fun w a n c => Lib.run_eql_slice_nil (P := Try.prog) w 146 145 a n c 0 0 Try.underlying146
  have HN : Hid (0 + n ≤ maxLen ∧ (0 + n) * 104 ≤ 140737488355328) := by simp only [Hid, maxLen]; omega
  cases A with
  | none =>
    have hz : n = 0 ∧ xs = [] ∧ c = 0 := by
      obtain ⟨A', c', e, h0, h1, h2, h3, h4⟩ := h
      injection e with e1 e2 e3
      have hc0 := h3 e1.symm
      have hn0 : n = 0 := by omega
      exact ⟨hn0, List.eq_nil_of_length_eq_zero (by omega), by omega⟩
    obtain ⟨rfl, rfl, rfl⟩ := hz
    clear h H
    go_enter Try.func104, Try.ntmps104
    go_wp2_with fail
    go_ret
    exact ⟨_, rfl, World.ownsRow_nil _ _ _ _, Only.refl _ _⟩
  | some a =>
    have C1 : Hid (Cel (w.alloc (.cells #[] 145)) S (.slice (some a) n c) n 10 xs) := h.alloc _
    have M1 : Hid ((w.alloc (.cells #[] 145)).ownsRow w.heap.size 145 10 (.slice (some ⟨w.heap.size, 0, none⟩) 0 0) 0 []) := own_made w w.heap.size _ 10 0 #[] (by simp) (by simp [maxLen]) (Nat.le_refl _)
    have hb1 : w.heap.size ≤ (w.alloc (.cells #[] 145)).heap.size := by rw [World.size_alloc]; omega
    clear h
    go_enter Try.func104, Try.ntmps104
    go_wp2_with (first
      | (at_builtin; refine wpList_append_cel _ rfl (.tmp 5) (.tmp 6) 146 rfl w.heap.size 145 i0 _ 10 104 Try.underlying146 hi0 hz0 hz1 hz2 rfl (by omega) _ 0 [] rfl M1.out _ _ n xs rfl C1.out h1x HN.out.1 HN.out.2 hb1 ?_
         intro A5 n5 c5 w5 hown5 hgrow5 hmv5
         have R5 : Hid (w5.ownsRow w.heap.size 145 10 (.slice A5 n5 c5) n xs ∧ Only none_ w w5) := ⟨by simpa using hown5, (((Only.refl none_ w).alloc _).of_none.grown hgrow5 (fun k hk => .inr (by have e : some w.heap.size = some k := hk; injection e with e; omega)))⟩
         clear hown5 hgrow5 hmv5))
    go_ret
    exact ⟨_, rfl, R5.out.1, R5.out.2⟩
end Go.Proofs.Ytniacolkjdmflaa.Se
end
