/- Texts of mine, one behind the other: WiI. No statement of the seat is proved here. -/
import Derived.Test.YtkfcklmkikaioaaGreatDoorWk8
import Derived.Test.YtkfcklmkikaioaaGreatDoorWk4
section
namespace Go.Proofs.YtkfcklmkikaioaaGreatDoor
open Go.RowKit
set_option linter.all false
set_option maxRecDepth 100000
theorem take_more {α : Type} {a b : List α} {i : Nat} {x : α} (h : a.take i = b.take i) (ha : a[i]? = some x) (hb : b[i]? = some x) : a.take (i + 1) = b.take (i + 1) := by
  rw [List.take_add_one, List.take_add_one, h, ha, hb]
theorem neq_int (x y : Int) (h : x ≠ y) : (x != y) = true := by simpa using h
set_option maxHeartbeats 3200000 in
theorem rl_int (S T : Nat → Prop) (l1 l2 : List Int) (v1 v2 : Value) (w : World) (h1 : Cel w S v1 l1.length 1 (l1.flatMap intI)) (h2 : Cel w T v2 l2.length 1 (l2.flatMap intI)) (hl : l1.length ≤ 4096 ∧ l2.length ≤ 4096) :
    Calls Tryz.prog 38 #[v1, v2] w fun e w' => ∃ b : Bool, e = .returned (.bool b) ∧ (b = true ↔ l1 = l2) ∧ Only none_ w w' := by
  obtain ⟨A, c, e1, _⟩ := id h1
  obtain ⟨A', c', e2, _⟩ := id h2
  subst e1 e2
  have HA := Lib.hid (fun (w' : World) (o : Only none_ w w') => h1.only o (fun _ _ h => h))
  have HB := Lib.hid (fun (w' : World) (o : Only none_ w w') => h2.only o (fun _ _ h => h))
  by_cases hne : l1.length = l2.length
  · obtain ⟨n, hn⟩ : ∃ n, l1.length = n := ⟨_, rfl⟩
    have hn2 : l2.length = n := hne.symm.trans hn
    rw [hn] at HA hl
    rw [hn2] at HB
    rw [hn, hn2]
    have hn9 : n ≤ 4096 := hl.1
    have HN := Lib.hid hn
    have HN2 := Lib.hid hn2
    have heq : ((n : Int) != (n : Int)) = false := by simp
    clear h1 h2 hne hn hn2 hl
    go_enter Tryz.func38, Tryz.ntmps38
    go_wp2_with fail
    go_loopw [5] (fun s wr => ∃ i : Nat, i ≤ n ∧ s = .int .i64 i ∧ Only none_ w wr ∧ l1.take i = l2.take i) (fun s _ => n - (intOf s).toNat)
    case atStart => exact ⟨0, by omega, rfl, Only.refl _ _, rfl⟩
    case round =>
      obtain ⟨i, hi, rfl, o, htk⟩ := hrel
      have O := Lib.hid o
      have HT := Lib.hid htk
      clear htk
      by_cases hlt : i < n
      · have hin : i < l1.length := by have := HN.out; omega
        have hin2 : i < l2.length := by have := HN2.out; omega
        obtain ⟨x, hx⟩ : ∃ x, l1[i]? = some x := ⟨_, List.getElem?_eq_getElem hin⟩
        obtain ⟨y, hy⟩ : ∃ y, l2[i]? = some y := ⟨_, List.getElem?_eq_getElem hin2⟩
        obtain ⟨a0, off0, hA, _, _, c0⟩ := in_elem intI_len (by decide) (HA.out _ o) HN.out hx
        obtain ⟨b0, off1, hB, _, _, c1⟩ := in_elem intI_len (by decide) (HB.out _ o) HN2.out hy
        subst hA hB
        have HX := Lib.hid hx
        have HY := Lib.hid hy
        have HK : Hid (∀ w', Only none_ wr w' → (∀ j u, (intI x)[j]? = some u → w'.cell? ⟨a0, off0 + i * 1 + j, none⟩ = some u) ∧ (∀ j u, (intI y)[j]? = some u → w'.cell? ⟨b0, off1 + i * 1 + j, none⟩ = some u)) := fun w' o' => ⟨c0 w' o', c1 w' o'⟩
        clear c0 c1 hx hy o
        by_cases hxy : x = y
        · subst hxy
          have hne : (x != x) = false := by simp
          go_wp2_with fail
          (refine wp_region_steady (fun w' => Only none_ wr w') 9 (by kernel_rfl) (by kernel_rfl) ((Only.refl none_ wr).drew) ?_; simp only [List.take_succ_cons, List.take_zero, List.drop_succ_cons, List.drop_zero])
          repeat (first
            | (refine sd_value (v := ?_) (by rfl) (fun w0 hS => ?_) ?_; rotate_left; (· (have p0 := (HK.out _ hS).1 0 _ rfl; have q0 := (HK.out _ hS).2 0 _ rfl; simp only [Nat.add_zero, Nat.mul_one] at p0 q0; go_simp; try (with_reducible rfl))); try simp only [Act.put, List.setIfInBounds_toArray, List.set_cons_zero, List.set_cons_succ]))
          refine sd_nil ?_
          intro w3 t3
          have T3 := Lib.hid t3
          clear t3
          go_wp2_with fail
          go_roundw
          case rel => exact ⟨i + 1, by omega, by go_num, O.out.trans T3.out, take_more HT.out HX.out HY.out⟩
          case measure => simp [intOf]; omega
        · have HNE : Hid (¬ l1 = l2) := fun e => hxy (by have a := HX.out; rw [e, HY.out] at a; exact (Option.some.inj a).symm)
          have hne : (x != y) = true := neq_int x y hxy
          clear hxy
          go_wp2_with fail
          (refine wp_region_steady (fun w' => Only none_ wr w') 9 (by kernel_rfl) (by kernel_rfl) ((Only.refl none_ wr).drew) ?_; simp only [List.take_succ_cons, List.take_zero, List.drop_succ_cons, List.drop_zero])
          repeat (first
            | (refine sd_value (v := ?_) (by rfl) (fun w0 hS => ?_) ?_; rotate_left; (· (have p0 := (HK.out _ hS).1 0 _ rfl; have q0 := (HK.out _ hS).2 0 _ rfl; simp only [Nat.add_zero, Nat.mul_one] at p0 q0; go_simp; try (with_reducible rfl))); try simp only [Act.put, List.setIfInBounds_toArray, List.set_cons_zero, List.set_cons_succ]))
          refine sd_nil ?_
          intro w3 t3
          have T3 := Lib.hid t3
          clear t3
          go_wp2_with fail
          go_ret
          exact ⟨false, rfl, ⟨(fun h => by cases h), fun h => absurd h HNE.out⟩, O.out.trans T3.out⟩
      · have hin : l1 = l2 := by
          have a := HT.out
          rwa [List.take_of_length_le (by have := HN.out; omega), List.take_of_length_le (by have := HN2.out; omega)] at a
        have HE := Lib.hid hin
        clear o hin
        go_wp2_with fail
        go_ret
        exact ⟨true, rfl, ⟨fun _ => HE.out, fun _ => rfl⟩, O.out⟩
  · have hb : ((l1.length : Int) != (l2.length : Int)) = true := neq_int _ _ (fun e => hne (by omega))
    have HNE : Hid (¬ l1 = l2) := fun e => hne (by rw [e])
    clear hne h1 h2 HA HB hl
    go_enter Tryz.func38, Tryz.ntmps38
    go_wp2_with fail
    go_ret
    exact ⟨false, rfl, ⟨(fun h => by cases h), fun h => absurd h HNE.out⟩, Only.refl _ _⟩
set_option maxHeartbeats 3200000 in
theorem rl_mk (S T : Nat → Prop) (l1 l2 : List Mk) (v1 v2 : Value) (w : World) (h1 : Cel w S v1 l1.length 3 (l1.flatMap mkI)) (h2 : Cel w T v2 l2.length 3 (l2.flatMap mkI)) (hl : l1.length ≤ 4096 ∧ l2.length ≤ 4096) :
    Calls Tryz.prog 39 #[v1, v2] w fun e w' => ∃ b : Bool, e = .returned (.bool b) ∧ (b = true ↔ l1 = l2) ∧ Only none_ w w' := by
  obtain ⟨A, c, e1, _⟩ := id h1
  obtain ⟨A', c', e2, _⟩ := id h2
  subst e1 e2
  have HA := Lib.hid (fun (w' : World) (o : Only none_ w w') => h1.only o (fun _ _ h => h))
  have HB := Lib.hid (fun (w' : World) (o : Only none_ w w') => h2.only o (fun _ _ h => h))
  by_cases hne : l1.length = l2.length
  · obtain ⟨n, hn⟩ : ∃ n, l1.length = n := ⟨_, rfl⟩
    have hn2 : l2.length = n := hne.symm.trans hn
    rw [hn] at HA hl
    rw [hn2] at HB
    rw [hn, hn2]
    have hn9 : n ≤ 4096 := hl.1
    have HN := Lib.hid hn
    have HN2 := Lib.hid hn2
    have heq : ((n : Int) != (n : Int)) = false := by simp
    clear h1 h2 hne hn hn2 hl
    go_enter Tryz.func39, Tryz.ntmps39
    go_wp2_with fail
    go_loopw [5] (fun s wr => ∃ i : Nat, i ≤ n ∧ s = .int .i64 i ∧ Only none_ w wr ∧ l1.take i = l2.take i) (fun s _ => n - (intOf s).toNat)
    case atStart => exact ⟨0, by omega, rfl, Only.refl _ _, rfl⟩
    case round =>
      obtain ⟨i, hi, rfl, o, htk⟩ := hrel
      have O := Lib.hid o
      have HT := Lib.hid htk
      clear htk
      by_cases hlt : i < n
      · have hin : i < l1.length := by have := HN.out; omega
        have hin2 : i < l2.length := by have := HN2.out; omega
        obtain ⟨x, hx⟩ : ∃ x, l1[i]? = some x := ⟨_, List.getElem?_eq_getElem hin⟩
        obtain ⟨y, hy⟩ : ∃ y, l2[i]? = some y := ⟨_, List.getElem?_eq_getElem hin2⟩
        obtain ⟨a0, off0, hA, _, _, c0⟩ := in_elem mkI_len (by decide) (HA.out _ o) HN.out hx
        obtain ⟨b0, off1, hB, _, _, c1⟩ := in_elem mkI_len (by decide) (HB.out _ o) HN2.out hy
        subst hA hB
        have HX := Lib.hid hx
        have HY := Lib.hid hy
        have HK : Hid (∀ w', Only none_ wr w' → (∀ j u, (mkI x)[j]? = some u → w'.cell? ⟨a0, off0 + i * 3 + j, none⟩ = some u) ∧ (∀ j u, (mkI y)[j]? = some u → w'.cell? ⟨b0, off1 + i * 3 + j, none⟩ = some u)) := fun w' o' => ⟨c0 w' o', c1 w' o'⟩
        clear c0 c1 hx hy o
        by_cases hxy : x = y
        · subst hxy
          have hne := fun w => neqR w x x
          rw [(mkSame_iff _ _).2 rfl] at hne
          obtain ⟨⟨xc, xs⟩, xk⟩ := x
          simp only [] at hne HK
          go_wp2_with fail
          (refine wp_region_steady (fun w' => Only none_ wr w') 9 (by kernel_rfl) (by kernel_rfl) ((Only.refl none_ wr).drew) ?_; simp only [List.take_succ_cons, List.take_zero, List.drop_succ_cons, List.drop_zero])
          repeat (first
            | (refine sd_value (v := ?_) (by rfl) (fun w0 hS => ?_) ?_; rotate_left; (· (have p0 := (HK.out _ hS).1 0 _ rfl; have p1 := (HK.out _ hS).1 1 _ rfl; have p2 := (HK.out _ hS).1 2 _ rfl; have q0 := (HK.out _ hS).2 0 _ rfl; have q1 := (HK.out _ hS).2 1 _ rfl; have q2 := (HK.out _ hS).2 2 _ rfl; simp only [Nat.add_zero, Nat.mul_one] at p0 q0; go_simp; try (with_reducible rfl))); try simp only [Act.put, List.setIfInBounds_toArray, List.set_cons_zero, List.set_cons_succ]))
          refine sd_nil ?_
          intro w3 t3
          have T3 := Lib.hid t3
          clear t3
          go_wp2_with fail
          go_roundw
          case rel => exact ⟨i + 1, by omega, by go_num, O.out.trans T3.out, take_more HT.out HX.out HY.out⟩
          case measure => simp [intOf]; omega
        · have HNE : Hid (¬ l1 = l2) := fun e => hxy (by have a := HX.out; rw [e, HY.out] at a; exact (Option.some.inj a).symm)
          have hne := fun w => neqR w x y
          rw [show mkSame x y = false from by rw [Bool.eq_false_iff]; exact fun h => hxy ((mkSame_iff _ _).1 h)] at hne
          obtain ⟨⟨xc, xs⟩, xk⟩ := x
          obtain ⟨⟨yc, ys⟩, yk⟩ := y
          simp only [] at hne HK
          clear hxy
          go_wp2_with fail
          (refine wp_region_steady (fun w' => Only none_ wr w') 9 (by kernel_rfl) (by kernel_rfl) ((Only.refl none_ wr).drew) ?_; simp only [List.take_succ_cons, List.take_zero, List.drop_succ_cons, List.drop_zero])
          repeat (first
            | (refine sd_value (v := ?_) (by rfl) (fun w0 hS => ?_) ?_; rotate_left; (· (have p0 := (HK.out _ hS).1 0 _ rfl; have p1 := (HK.out _ hS).1 1 _ rfl; have p2 := (HK.out _ hS).1 2 _ rfl; have q0 := (HK.out _ hS).2 0 _ rfl; have q1 := (HK.out _ hS).2 1 _ rfl; have q2 := (HK.out _ hS).2 2 _ rfl; simp only [Nat.add_zero, Nat.mul_one] at p0 q0; go_simp; try (with_reducible rfl))); try simp only [Act.put, List.setIfInBounds_toArray, List.set_cons_zero, List.set_cons_succ]))
          refine sd_nil ?_
          intro w3 t3
          have T3 := Lib.hid t3
          clear t3
          go_wp2_with fail
          go_ret
          exact ⟨false, rfl, ⟨(fun h => by cases h), fun h => absurd h HNE.out⟩, O.out.trans T3.out⟩
      · have hin : l1 = l2 := by
          have a := HT.out
          rwa [List.take_of_length_le (by have := HN.out; omega), List.take_of_length_le (by have := HN2.out; omega)] at a
        have HE := Lib.hid hin
        clear o hin
        go_wp2_with fail
        go_ret
        exact ⟨true, rfl, ⟨fun _ => HE.out, fun _ => rfl⟩, O.out⟩
  · have hb : ((l1.length : Int) != (l2.length : Int)) = true := neq_int _ _ (fun e => hne (by omega))
    have HNE : Hid (¬ l1 = l2) := fun e => hne (by rw [e])
    clear hne h1 h2 HA HB hl
    go_enter Tryz.func39, Tryz.ntmps39
    go_wp2_with fail
    go_ret
    exact ⟨false, rfl, ⟨(fun h => by cases h), fun h => absurd h HNE.out⟩, Only.refl _ _⟩
set_option maxHeartbeats 3200000 in
theorem rl_en (S T : Nat → Prop) (l1 l2 : List En) (v1 v2 : Value) (w : World) (h1 : Cel w S v1 l1.length 9 (l1.flatMap enRow)) (h2 : Cel w T v2 l2.length 9 (l2.flatMap enRow)) (hl : l1.length ≤ 4096 ∧ l2.length ≤ 4096) :
    Calls Tryz.prog 40 #[v1, v2] w fun e w' => ∃ b : Bool, e = .returned (.bool b) ∧ (b = true ↔ l1 = l2) ∧ Only none_ w w' := by
  obtain ⟨A, c, e1, _⟩ := id h1
  obtain ⟨A', c', e2, _⟩ := id h2
  subst e1 e2
  have HA := Lib.hid (fun (w' : World) (o : Only none_ w w') => h1.only o (fun _ _ h => h))
  have HB := Lib.hid (fun (w' : World) (o : Only none_ w w') => h2.only o (fun _ _ h => h))
  by_cases hne : l1.length = l2.length
  · obtain ⟨n, hn⟩ : ∃ n, l1.length = n := ⟨_, rfl⟩
    have hn2 : l2.length = n := hne.symm.trans hn
    rw [hn] at HA hl
    rw [hn2] at HB
    rw [hn, hn2]
    have hn9 : n ≤ 4096 := hl.1
    have HN := Lib.hid hn
    have HN2 := Lib.hid hn2
    have heq : ((n : Int) != (n : Int)) = false := by simp
    clear h1 h2 hne hn hn2 hl
    go_enter Tryz.func40, Tryz.ntmps40
    go_wp2_with fail
    go_loopw [5] (fun s wr => ∃ i : Nat, i ≤ n ∧ s = .int .i64 i ∧ Only none_ w wr ∧ l1.take i = l2.take i) (fun s _ => n - (intOf s).toNat)
    case atStart => exact ⟨0, by omega, rfl, Only.refl _ _, rfl⟩
    case round =>
      obtain ⟨i, hi, rfl, o, htk⟩ := hrel
      have O := Lib.hid o
      have HT := Lib.hid htk
      clear htk
      by_cases hlt : i < n
      · have hin : i < l1.length := by have := HN.out; omega
        have hin2 : i < l2.length := by have := HN2.out; omega
        obtain ⟨x, hx⟩ : ∃ x, l1[i]? = some x := ⟨_, List.getElem?_eq_getElem hin⟩
        obtain ⟨y, hy⟩ : ∃ y, l2[i]? = some y := ⟨_, List.getElem?_eq_getElem hin2⟩
        obtain ⟨a0, off0, hA, _, _, c0⟩ := in_elem enRow_length (by decide) (HA.out _ o) HN.out hx
        obtain ⟨b0, off1, hB, _, _, c1⟩ := in_elem enRow_length (by decide) (HB.out _ o) HN2.out hy
        subst hA hB
        have HX := Lib.hid hx
        have HY := Lib.hid hy
        have HK : Hid (∀ w', Only none_ wr w' → (∀ j u, (enRow x)[j]? = some u → w'.cell? ⟨a0, off0 + i * 9 + j, none⟩ = some u) ∧ (∀ j u, (enRow y)[j]? = some u → w'.cell? ⟨b0, off1 + i * 9 + j, none⟩ = some u)) := fun w' o' => ⟨c0 w' o', c1 w' o'⟩
        clear c0 c1 hx hy o
        by_cases hxy : x = y
        · subst hxy
          have hne := fun w => neq_of (eq_ref_entry w x x 9997)
          rw [enEq_refl] at hne
          obtain ⟨xk, xv, xd, ⟨xsc, xss⟩, ⟨xac, xas⟩, xp, xg⟩ := x
          simp only [] at hne HK
          go_wp2_with fail
          (refine wp_region_steady (fun w' => Only none_ wr w') 9 (by kernel_rfl) (by kernel_rfl) ((Only.refl none_ wr).drew) ?_; simp only [List.take_succ_cons, List.take_zero, List.drop_succ_cons, List.drop_zero])
          repeat (first
            | (refine sd_value (v := ?_) (by rfl) (fun w0 hS => ?_) ?_; rotate_left; (· (have p0 := (HK.out _ hS).1 0 _ rfl; have p1 := (HK.out _ hS).1 1 _ rfl; have p2 := (HK.out _ hS).1 2 _ rfl; have p3 := (HK.out _ hS).1 3 _ rfl; have p4 := (HK.out _ hS).1 4 _ rfl; have p5 := (HK.out _ hS).1 5 _ rfl; have p6 := (HK.out _ hS).1 6 _ rfl; have p7 := (HK.out _ hS).1 7 _ rfl; have p8 := (HK.out _ hS).1 8 _ rfl; have q0 := (HK.out _ hS).2 0 _ rfl; have q1 := (HK.out _ hS).2 1 _ rfl; have q2 := (HK.out _ hS).2 2 _ rfl; have q3 := (HK.out _ hS).2 3 _ rfl; have q4 := (HK.out _ hS).2 4 _ rfl; have q5 := (HK.out _ hS).2 5 _ rfl; have q6 := (HK.out _ hS).2 6 _ rfl; have q7 := (HK.out _ hS).2 7 _ rfl; have q8 := (HK.out _ hS).2 8 _ rfl; simp only [Nat.add_zero, Nat.mul_one] at p0 q0; go_simp; try (with_reducible rfl))); try simp only [Act.put, List.setIfInBounds_toArray, List.set_cons_zero, List.set_cons_succ]))
          refine sd_nil ?_
          intro w3 t3
          have T3 := Lib.hid t3
          clear t3
          go_wp2_with fail
          go_roundw
          case rel => exact ⟨i + 1, by omega, by go_num, O.out.trans T3.out, take_more HT.out HX.out HY.out⟩
          case measure => simp [intOf]; omega
        · have HNE : Hid (¬ l1 = l2) := fun e => hxy (by have a := HX.out; rw [e, HY.out] at a; exact (Option.some.inj a).symm)
          have hne := fun w => neq_of (eq_ref_entry w x y 9997)
          rw [show enEq x y = false from by rw [Bool.eq_false_iff]; exact fun h => hxy ((enEq_iff _ _).1 h)] at hne
          obtain ⟨xk, xv, xd, ⟨xsc, xss⟩, ⟨xac, xas⟩, xp, xg⟩ := x
          obtain ⟨yk, yv, yd, ⟨ysc, yss⟩, ⟨yac, yas⟩, yp, yg⟩ := y
          simp only [] at hne HK
          clear hxy
          go_wp2_with fail
          (refine wp_region_steady (fun w' => Only none_ wr w') 9 (by kernel_rfl) (by kernel_rfl) ((Only.refl none_ wr).drew) ?_; simp only [List.take_succ_cons, List.take_zero, List.drop_succ_cons, List.drop_zero])
          repeat (first
            | (refine sd_value (v := ?_) (by rfl) (fun w0 hS => ?_) ?_; rotate_left; (· (have p0 := (HK.out _ hS).1 0 _ rfl; have p1 := (HK.out _ hS).1 1 _ rfl; have p2 := (HK.out _ hS).1 2 _ rfl; have p3 := (HK.out _ hS).1 3 _ rfl; have p4 := (HK.out _ hS).1 4 _ rfl; have p5 := (HK.out _ hS).1 5 _ rfl; have p6 := (HK.out _ hS).1 6 _ rfl; have p7 := (HK.out _ hS).1 7 _ rfl; have p8 := (HK.out _ hS).1 8 _ rfl; have q0 := (HK.out _ hS).2 0 _ rfl; have q1 := (HK.out _ hS).2 1 _ rfl; have q2 := (HK.out _ hS).2 2 _ rfl; have q3 := (HK.out _ hS).2 3 _ rfl; have q4 := (HK.out _ hS).2 4 _ rfl; have q5 := (HK.out _ hS).2 5 _ rfl; have q6 := (HK.out _ hS).2 6 _ rfl; have q7 := (HK.out _ hS).2 7 _ rfl; have q8 := (HK.out _ hS).2 8 _ rfl; simp only [Nat.add_zero, Nat.mul_one] at p0 q0; go_simp; try (with_reducible rfl))); try simp only [Act.put, List.setIfInBounds_toArray, List.set_cons_zero, List.set_cons_succ]))
          refine sd_nil ?_
          intro w3 t3
          have T3 := Lib.hid t3
          clear t3
          go_wp2_with fail
          go_ret
          exact ⟨false, rfl, ⟨(fun h => by cases h), fun h => absurd h HNE.out⟩, O.out.trans T3.out⟩
      · have hin : l1 = l2 := by
          have a := HT.out
          rwa [List.take_of_length_le (by have := HN.out; omega), List.take_of_length_le (by have := HN2.out; omega)] at a
        have HE := Lib.hid hin
        clear o hin
        go_wp2_with fail
        go_ret
        exact ⟨true, rfl, ⟨fun _ => HE.out, fun _ => rfl⟩, O.out⟩
  · have hb : ((l1.length : Int) != (l2.length : Int)) = true := neq_int _ _ (fun e => hne (by omega))
    have HNE : Hid (¬ l1 = l2) := fun e => hne (by rw [e])
    clear hne h1 h2 HA HB hl
    go_enter Tryz.func40, Tryz.ntmps40
    go_wp2_with fail
    go_ret
    exact ⟨false, rfl, ⟨(fun h => by cases h), fun h => absurd h HNE.out⟩, Only.refl _ _⟩
set_option maxHeartbeats 3200000 in
theorem pl_int (S T : Nat → Prop) (l1 l2 : List Int) (v1 v2 : Value) (w : World) (h1 : Cel w S v1 l1.length 1 (l1.flatMap intI)) (h2 : Cel w T v2 l2.length 1 (l2.flatMap intI)) (hl : l1.length ≤ 4096 ∧ l2.length ≤ 4096) :
    Calls Tryz.prog 35 #[v1, v2] w fun e w' => ∃ b : Bool, e = .returned (.bool b) ∧ (b = true ↔ l1 = l2) ∧ Only none_ w w' := by
  obtain ⟨A, c, e1, _⟩ := id h1
  obtain ⟨A', c', e2, _⟩ := id h2
  subst e1 e2
  have HA := Lib.hid (fun (w' : World) (o : Only none_ w w') => h1.only o (fun _ _ h => h))
  have HB := Lib.hid (fun (w' : World) (o : Only none_ w w') => h2.only o (fun _ _ h => h))
  by_cases hne : l1.length = l2.length
  · obtain ⟨n, hn⟩ : ∃ n, l1.length = n := ⟨_, rfl⟩
    have hn2 : l2.length = n := hne.symm.trans hn
    rw [hn] at HA hl
    rw [hn2] at HB
    rw [hn, hn2]
    have hn9 : n ≤ 4096 := hl.1
    have HN := Lib.hid hn
    have HN2 := Lib.hid hn2
    have heq : ((n : Int) != (n : Int)) = false := by simp
    clear h1 h2 hne hn hn2 hl
    go_enter Tryz.func35, Tryz.ntmps35
    go_wp2_with fail
    go_loopw [13] (fun s wr => ∃ i : Nat, i ≤ n ∧ s = .int .i64 i ∧ Only none_ w wr ∧ l1.take i = l2.take i) (fun s _ => n - (intOf s).toNat)
    case atStart => exact ⟨0, by omega, rfl, Only.refl _ _, rfl⟩
    case round =>
      obtain ⟨i, hi, rfl, o, htk⟩ := hrel
      have O := Lib.hid o
      have HT := Lib.hid htk
      clear htk
      by_cases hlt : i < n
      · have hin : i < l1.length := by have := HN.out; omega
        have hin2 : i < l2.length := by have := HN2.out; omega
        obtain ⟨x, hx⟩ : ∃ x, l1[i]? = some x := ⟨_, List.getElem?_eq_getElem hin⟩
        obtain ⟨y, hy⟩ : ∃ y, l2[i]? = some y := ⟨_, List.getElem?_eq_getElem hin2⟩
        obtain ⟨a0, off0, hA, _, _, c0⟩ := in_elem intI_len (by decide) (HA.out _ o) HN.out hx
        obtain ⟨b0, off1, hB, _, _, c1⟩ := in_elem intI_len (by decide) (HB.out _ o) HN2.out hy
        subst hA hB
        have HX := Lib.hid hx
        have HY := Lib.hid hy
        have HK : Hid (∀ w', Only none_ wr w' → (∀ j u, (intI x)[j]? = some u → w'.cell? ⟨a0, off0 + i * 1 + j, none⟩ = some u) ∧ (∀ j u, (intI y)[j]? = some u → w'.cell? ⟨b0, off1 + i * 1 + j, none⟩ = some u)) := fun w' o' => ⟨c0 w' o', c1 w' o'⟩
        clear c0 c1 hx hy o
        by_cases hxy : x = y
        · subst hxy
          have hne : (x != x) = false := by simp
          go_wp2_with fail
          (refine wp_region_steady (fun w' => Only none_ wr w') 9 (by kernel_rfl) (by kernel_rfl) ((Only.refl none_ wr).drew) ?_; simp only [List.take_succ_cons, List.take_zero, List.drop_succ_cons, List.drop_zero])
          repeat (first
            | (refine sd_value (v := ?_) (by rfl) (fun w0 hS => ?_) ?_; rotate_left; (· (have p0 := (HK.out _ hS).1 0 _ rfl; have q0 := (HK.out _ hS).2 0 _ rfl; simp only [Nat.add_zero, Nat.mul_one] at p0 q0; go_simp; try (with_reducible rfl))); try simp only [Act.put, List.setIfInBounds_toArray, List.set_cons_zero, List.set_cons_succ]))
          refine sd_nil ?_
          intro w3 t3
          have T3 := Lib.hid t3
          clear t3
          go_wp2_with fail
          go_roundw
          case rel => exact ⟨i + 1, by omega, by go_num, O.out.trans T3.out, take_more HT.out HX.out HY.out⟩
          case measure => simp [intOf]; omega
        · have HNE : Hid (¬ l1 = l2) := fun e => hxy (by have a := HX.out; rw [e, HY.out] at a; exact (Option.some.inj a).symm)
          have hne : (x != y) = true := neq_int x y hxy
          clear hxy
          go_wp2_with fail
          (refine wp_region_steady (fun w' => Only none_ wr w') 9 (by kernel_rfl) (by kernel_rfl) ((Only.refl none_ wr).drew) ?_; simp only [List.take_succ_cons, List.take_zero, List.drop_succ_cons, List.drop_zero])
          repeat (first
            | (refine sd_value (v := ?_) (by rfl) (fun w0 hS => ?_) ?_; rotate_left; (· (have p0 := (HK.out _ hS).1 0 _ rfl; have q0 := (HK.out _ hS).2 0 _ rfl; simp only [Nat.add_zero, Nat.mul_one] at p0 q0; go_simp; try (with_reducible rfl))); try simp only [Act.put, List.setIfInBounds_toArray, List.set_cons_zero, List.set_cons_succ]))
          refine sd_nil ?_
          intro w3 t3
          have T3 := Lib.hid t3
          clear t3
          go_wp2_with fail
          go_ret
          exact ⟨false, rfl, ⟨(fun h => by cases h), fun h => absurd h HNE.out⟩, O.out.trans T3.out⟩
      · have hin : l1 = l2 := by
          have a := HT.out
          rwa [List.take_of_length_le (by have := HN.out; omega), List.take_of_length_le (by have := HN2.out; omega)] at a
        have HE := Lib.hid hin
        clear o hin
        go_wp2_with fail
        go_ret
        exact ⟨true, rfl, ⟨fun _ => HE.out, fun _ => rfl⟩, O.out⟩
  · have hb : ((l1.length : Int) != (l2.length : Int)) = true := neq_int _ _ (fun e => hne (by omega))
    have HNE : Hid (¬ l1 = l2) := fun e => hne (by rw [e])
    clear hne h1 h2 HA HB hl
    go_enter Tryz.func35, Tryz.ntmps35
    go_wp2_with fail
    go_ret
    exact ⟨false, rfl, ⟨(fun h => by cases h), fun h => absurd h HNE.out⟩, Only.refl _ _⟩
set_option maxHeartbeats 3200000 in
theorem pl_mk (S T : Nat → Prop) (l1 l2 : List Mk) (v1 v2 : Value) (w : World) (h1 : Cel w S v1 l1.length 3 (l1.flatMap mkI)) (h2 : Cel w T v2 l2.length 3 (l2.flatMap mkI)) (hl : l1.length ≤ 4096 ∧ l2.length ≤ 4096) :
    Calls Tryz.prog 36 #[v1, v2] w fun e w' => ∃ b : Bool, e = .returned (.bool b) ∧ (b = true ↔ l1 = l2) ∧ Only none_ w w' := by
  obtain ⟨A, c, e1, _⟩ := id h1
  obtain ⟨A', c', e2, _⟩ := id h2
  subst e1 e2
  have HA := Lib.hid (fun (w' : World) (o : Only none_ w w') => h1.only o (fun _ _ h => h))
  have HB := Lib.hid (fun (w' : World) (o : Only none_ w w') => h2.only o (fun _ _ h => h))
  by_cases hne : l1.length = l2.length
  · obtain ⟨n, hn⟩ : ∃ n, l1.length = n := ⟨_, rfl⟩
    have hn2 : l2.length = n := hne.symm.trans hn
    rw [hn] at HA hl
    rw [hn2] at HB
    rw [hn, hn2]
    have hn9 : n ≤ 4096 := hl.1
    have HN := Lib.hid hn
    have HN2 := Lib.hid hn2
    have heq : ((n : Int) != (n : Int)) = false := by simp
    clear h1 h2 hne hn hn2 hl
    go_enter Tryz.func36, Tryz.ntmps36
    go_wp2_with fail
    go_loopw [13] (fun s wr => ∃ i : Nat, i ≤ n ∧ s = .int .i64 i ∧ Only none_ w wr ∧ l1.take i = l2.take i) (fun s _ => n - (intOf s).toNat)
    case atStart => exact ⟨0, by omega, rfl, Only.refl _ _, rfl⟩
    case round =>
      obtain ⟨i, hi, rfl, o, htk⟩ := hrel
      have O := Lib.hid o
      have HT := Lib.hid htk
      clear htk
      by_cases hlt : i < n
      · have hin : i < l1.length := by have := HN.out; omega
        have hin2 : i < l2.length := by have := HN2.out; omega
        obtain ⟨x, hx⟩ : ∃ x, l1[i]? = some x := ⟨_, List.getElem?_eq_getElem hin⟩
        obtain ⟨y, hy⟩ : ∃ y, l2[i]? = some y := ⟨_, List.getElem?_eq_getElem hin2⟩
        obtain ⟨a0, off0, hA, _, _, c0⟩ := in_elem mkI_len (by decide) (HA.out _ o) HN.out hx
        obtain ⟨b0, off1, hB, _, _, c1⟩ := in_elem mkI_len (by decide) (HB.out _ o) HN2.out hy
        subst hA hB
        have HX := Lib.hid hx
        have HY := Lib.hid hy
        have HK : Hid (∀ w', Only none_ wr w' → (∀ j u, (mkI x)[j]? = some u → w'.cell? ⟨a0, off0 + i * 3 + j, none⟩ = some u) ∧ (∀ j u, (mkI y)[j]? = some u → w'.cell? ⟨b0, off1 + i * 3 + j, none⟩ = some u)) := fun w' o' => ⟨c0 w' o', c1 w' o'⟩
        clear c0 c1 hx hy o
        by_cases hxy : x = y
        · subst hxy
          have hne := fun w => neqA w x x
          rw [(mkSame_iff _ _).2 rfl] at hne
          obtain ⟨⟨xc, xs⟩, xk⟩ := x
          simp only [] at hne HK
          go_wp2_with fail
          (refine wp_region_steady (fun w' => Only none_ wr w') 9 (by kernel_rfl) (by kernel_rfl) ((Only.refl none_ wr).drew) ?_; simp only [List.take_succ_cons, List.take_zero, List.drop_succ_cons, List.drop_zero])
          repeat (first
            | (refine sd_value (v := ?_) (by rfl) (fun w0 hS => ?_) ?_; rotate_left; (· (have p0 := (HK.out _ hS).1 0 _ rfl; have p1 := (HK.out _ hS).1 1 _ rfl; have p2 := (HK.out _ hS).1 2 _ rfl; have q0 := (HK.out _ hS).2 0 _ rfl; have q1 := (HK.out _ hS).2 1 _ rfl; have q2 := (HK.out _ hS).2 2 _ rfl; simp only [Nat.add_zero, Nat.mul_one] at p0 q0; go_simp; try (with_reducible rfl))); try simp only [Act.put, List.setIfInBounds_toArray, List.set_cons_zero, List.set_cons_succ]))
          refine sd_nil ?_
          intro w3 t3
          have T3 := Lib.hid t3
          clear t3
          go_wp2_with fail
          go_roundw
          case rel => exact ⟨i + 1, by omega, by go_num, O.out.trans T3.out, take_more HT.out HX.out HY.out⟩
          case measure => simp [intOf]; omega
        · have HNE : Hid (¬ l1 = l2) := fun e => hxy (by have a := HX.out; rw [e, HY.out] at a; exact (Option.some.inj a).symm)
          have hne := fun w => neqA w x y
          rw [show mkSame x y = false from by rw [Bool.eq_false_iff]; exact fun h => hxy ((mkSame_iff _ _).1 h)] at hne
          obtain ⟨⟨xc, xs⟩, xk⟩ := x
          obtain ⟨⟨yc, ys⟩, yk⟩ := y
          simp only [] at hne HK
          clear hxy
          go_wp2_with fail
          (refine wp_region_steady (fun w' => Only none_ wr w') 9 (by kernel_rfl) (by kernel_rfl) ((Only.refl none_ wr).drew) ?_; simp only [List.take_succ_cons, List.take_zero, List.drop_succ_cons, List.drop_zero])
          repeat (first
            | (refine sd_value (v := ?_) (by rfl) (fun w0 hS => ?_) ?_; rotate_left; (· (have p0 := (HK.out _ hS).1 0 _ rfl; have p1 := (HK.out _ hS).1 1 _ rfl; have p2 := (HK.out _ hS).1 2 _ rfl; have q0 := (HK.out _ hS).2 0 _ rfl; have q1 := (HK.out _ hS).2 1 _ rfl; have q2 := (HK.out _ hS).2 2 _ rfl; simp only [Nat.add_zero, Nat.mul_one] at p0 q0; go_simp; try (with_reducible rfl))); try simp only [Act.put, List.setIfInBounds_toArray, List.set_cons_zero, List.set_cons_succ]))
          refine sd_nil ?_
          intro w3 t3
          have T3 := Lib.hid t3
          clear t3
          go_wp2_with fail
          go_ret
          exact ⟨false, rfl, ⟨(fun h => by cases h), fun h => absurd h HNE.out⟩, O.out.trans T3.out⟩
      · have hin : l1 = l2 := by
          have a := HT.out
          rwa [List.take_of_length_le (by have := HN.out; omega), List.take_of_length_le (by have := HN2.out; omega)] at a
        have HE := Lib.hid hin
        clear o hin
        go_wp2_with fail
        go_ret
        exact ⟨true, rfl, ⟨fun _ => HE.out, fun _ => rfl⟩, O.out⟩
  · have hb : ((l1.length : Int) != (l2.length : Int)) = true := neq_int _ _ (fun e => hne (by omega))
    have HNE : Hid (¬ l1 = l2) := fun e => hne (by rw [e])
    clear hne h1 h2 HA HB hl
    go_enter Tryz.func36, Tryz.ntmps36
    go_wp2_with fail
    go_ret
    exact ⟨false, rfl, ⟨(fun h => by cases h), fun h => absurd h HNE.out⟩, Only.refl _ _⟩
set_option maxHeartbeats 3200000 in
theorem pl_en (S T : Nat → Prop) (l1 l2 : List En) (v1 v2 : Value) (w : World) (h1 : Cel w S v1 l1.length 9 (l1.flatMap enRow)) (h2 : Cel w T v2 l2.length 9 (l2.flatMap enRow)) (hl : l1.length ≤ 4096 ∧ l2.length ≤ 4096) :
    Calls Tryz.prog 37 #[v1, v2] w fun e w' => ∃ b : Bool, e = .returned (.bool b) ∧ (b = true ↔ l1 = l2) ∧ Only none_ w w' := by
  obtain ⟨A, c, e1, _⟩ := id h1
  obtain ⟨A', c', e2, _⟩ := id h2
  subst e1 e2
  have HA := Lib.hid (fun (w' : World) (o : Only none_ w w') => h1.only o (fun _ _ h => h))
  have HB := Lib.hid (fun (w' : World) (o : Only none_ w w') => h2.only o (fun _ _ h => h))
  by_cases hne : l1.length = l2.length
  · obtain ⟨n, hn⟩ : ∃ n, l1.length = n := ⟨_, rfl⟩
    have hn2 : l2.length = n := hne.symm.trans hn
    rw [hn] at HA hl
    rw [hn2] at HB
    rw [hn, hn2]
    have hn9 : n ≤ 4096 := hl.1
    have HN := Lib.hid hn
    have HN2 := Lib.hid hn2
    have heq : ((n : Int) != (n : Int)) = false := by simp
    clear h1 h2 hne hn hn2 hl
    go_enter Tryz.func37, Tryz.ntmps37
    go_wp2_with fail
    go_loopw [13] (fun s wr => ∃ i : Nat, i ≤ n ∧ s = .int .i64 i ∧ Only none_ w wr ∧ l1.take i = l2.take i) (fun s _ => n - (intOf s).toNat)
    case atStart => exact ⟨0, by omega, rfl, Only.refl _ _, rfl⟩
    case round =>
      obtain ⟨i, hi, rfl, o, htk⟩ := hrel
      have O := Lib.hid o
      have HT := Lib.hid htk
      clear htk
      by_cases hlt : i < n
      · have hin : i < l1.length := by have := HN.out; omega
        have hin2 : i < l2.length := by have := HN2.out; omega
        obtain ⟨x, hx⟩ : ∃ x, l1[i]? = some x := ⟨_, List.getElem?_eq_getElem hin⟩
        obtain ⟨y, hy⟩ : ∃ y, l2[i]? = some y := ⟨_, List.getElem?_eq_getElem hin2⟩
        obtain ⟨a0, off0, hA, _, _, c0⟩ := in_elem enRow_length (by decide) (HA.out _ o) HN.out hx
        obtain ⟨b0, off1, hB, _, _, c1⟩ := in_elem enRow_length (by decide) (HB.out _ o) HN2.out hy
        subst hA hB
        have HX := Lib.hid hx
        have HY := Lib.hid hy
        have HK : Hid (∀ w', Only none_ wr w' → (∀ j u, (enRow x)[j]? = some u → w'.cell? ⟨a0, off0 + i * 9 + j, none⟩ = some u) ∧ (∀ j u, (enRow y)[j]? = some u → w'.cell? ⟨b0, off1 + i * 9 + j, none⟩ = some u)) := fun w' o' => ⟨c0 w' o', c1 w' o'⟩
        clear c0 c1 hx hy o
        by_cases hxy : x = y
        · subst hxy
          have hne := fun w => neq_of (eq_api_entry w x x 9997)
          rw [enEq_refl] at hne
          obtain ⟨xk, xv, xd, ⟨xsc, xss⟩, ⟨xac, xas⟩, xp, xg⟩ := x
          simp only [] at hne HK
          go_wp2_with fail
          (refine wp_region_steady (fun w' => Only none_ wr w') 9 (by kernel_rfl) (by kernel_rfl) ((Only.refl none_ wr).drew) ?_; simp only [List.take_succ_cons, List.take_zero, List.drop_succ_cons, List.drop_zero])
          repeat (first
            | (refine sd_value (v := ?_) (by rfl) (fun w0 hS => ?_) ?_; rotate_left; (· (have p0 := (HK.out _ hS).1 0 _ rfl; have p1 := (HK.out _ hS).1 1 _ rfl; have p2 := (HK.out _ hS).1 2 _ rfl; have p3 := (HK.out _ hS).1 3 _ rfl; have p4 := (HK.out _ hS).1 4 _ rfl; have p5 := (HK.out _ hS).1 5 _ rfl; have p6 := (HK.out _ hS).1 6 _ rfl; have p7 := (HK.out _ hS).1 7 _ rfl; have p8 := (HK.out _ hS).1 8 _ rfl; have q0 := (HK.out _ hS).2 0 _ rfl; have q1 := (HK.out _ hS).2 1 _ rfl; have q2 := (HK.out _ hS).2 2 _ rfl; have q3 := (HK.out _ hS).2 3 _ rfl; have q4 := (HK.out _ hS).2 4 _ rfl; have q5 := (HK.out _ hS).2 5 _ rfl; have q6 := (HK.out _ hS).2 6 _ rfl; have q7 := (HK.out _ hS).2 7 _ rfl; have q8 := (HK.out _ hS).2 8 _ rfl; simp only [Nat.add_zero, Nat.mul_one] at p0 q0; go_simp; try (with_reducible rfl))); try simp only [Act.put, List.setIfInBounds_toArray, List.set_cons_zero, List.set_cons_succ]))
          refine sd_nil ?_
          intro w3 t3
          have T3 := Lib.hid t3
          clear t3
          go_wp2_with fail
          go_roundw
          case rel => exact ⟨i + 1, by omega, by go_num, O.out.trans T3.out, take_more HT.out HX.out HY.out⟩
          case measure => simp [intOf]; omega
        · have HNE : Hid (¬ l1 = l2) := fun e => hxy (by have a := HX.out; rw [e, HY.out] at a; exact (Option.some.inj a).symm)
          have hne := fun w => neq_of (eq_api_entry w x y 9997)
          rw [show enEq x y = false from by rw [Bool.eq_false_iff]; exact fun h => hxy ((enEq_iff _ _).1 h)] at hne
          obtain ⟨xk, xv, xd, ⟨xsc, xss⟩, ⟨xac, xas⟩, xp, xg⟩ := x
          obtain ⟨yk, yv, yd, ⟨ysc, yss⟩, ⟨yac, yas⟩, yp, yg⟩ := y
          simp only [] at hne HK
          clear hxy
          go_wp2_with fail
          (refine wp_region_steady (fun w' => Only none_ wr w') 9 (by kernel_rfl) (by kernel_rfl) ((Only.refl none_ wr).drew) ?_; simp only [List.take_succ_cons, List.take_zero, List.drop_succ_cons, List.drop_zero])
          repeat (first
            | (refine sd_value (v := ?_) (by rfl) (fun w0 hS => ?_) ?_; rotate_left; (· (have p0 := (HK.out _ hS).1 0 _ rfl; have p1 := (HK.out _ hS).1 1 _ rfl; have p2 := (HK.out _ hS).1 2 _ rfl; have p3 := (HK.out _ hS).1 3 _ rfl; have p4 := (HK.out _ hS).1 4 _ rfl; have p5 := (HK.out _ hS).1 5 _ rfl; have p6 := (HK.out _ hS).1 6 _ rfl; have p7 := (HK.out _ hS).1 7 _ rfl; have p8 := (HK.out _ hS).1 8 _ rfl; have q0 := (HK.out _ hS).2 0 _ rfl; have q1 := (HK.out _ hS).2 1 _ rfl; have q2 := (HK.out _ hS).2 2 _ rfl; have q3 := (HK.out _ hS).2 3 _ rfl; have q4 := (HK.out _ hS).2 4 _ rfl; have q5 := (HK.out _ hS).2 5 _ rfl; have q6 := (HK.out _ hS).2 6 _ rfl; have q7 := (HK.out _ hS).2 7 _ rfl; have q8 := (HK.out _ hS).2 8 _ rfl; simp only [Nat.add_zero, Nat.mul_one] at p0 q0; go_simp; try (with_reducible rfl))); try simp only [Act.put, List.setIfInBounds_toArray, List.set_cons_zero, List.set_cons_succ]))
          refine sd_nil ?_
          intro w3 t3
          have T3 := Lib.hid t3
          clear t3
          go_wp2_with fail
          go_ret
          exact ⟨false, rfl, ⟨(fun h => by cases h), fun h => absurd h HNE.out⟩, O.out.trans T3.out⟩
      · have hin : l1 = l2 := by
          have a := HT.out
          rwa [List.take_of_length_le (by have := HN.out; omega), List.take_of_length_le (by have := HN2.out; omega)] at a
        have HE := Lib.hid hin
        clear o hin
        go_wp2_with fail
        go_ret
        exact ⟨true, rfl, ⟨fun _ => HE.out, fun _ => rfl⟩, O.out⟩
  · have hb : ((l1.length : Int) != (l2.length : Int)) = true := neq_int _ _ (fun e => hne (by omega))
    have HNE : Hid (¬ l1 = l2) := fun e => hne (by rw [e])
    clear hne h1 h2 HA HB hl
    go_enter Tryz.func37, Tryz.ntmps37
    go_wp2_with fail
    go_ret
    exact ⟨false, rfl, ⟨(fun h => by cases h), fun h => absurd h HNE.out⟩, Only.refl _ _⟩
end Go.Proofs.YtkfcklmkikaioaaGreatDoor
end
