/- What the document's calls of layer 7 give: Check, Record, Same; its Value of two bytes. No statement of the seat is proved here. -/
import Derived.Test.YtbhdnhnkiibaaaaJnM
import Derived.Test.YtbhdnhnkiibaaaaJnL
import Derived.Test.YtbhdnhnkiibaaaaJnA
import Derived.Test.YtbhdnhnkiibaaaaCrcR
import Derived.Test.YtbhdnhnkiibaaaaRefN
import Derived.Test.YtbhdnhnkiibaaaaStd
namespace Go.Proofs.Ytbhdnhnkiibaaaa
open Go.RowKit
set_option maxRecDepth 100000
set_option linter.all false
attribute [local go_sem ↓] Go.wp_at_zero Go.wp_at_succ

theorem rf_check7 (A : Option Addr) (L c : Nat) (w : World) :
    Calls Try.prog 35 #[.slice A L c] w fun e w' => e = .returned (.int .i64 (recCode L)) ∧ w = w' := by
  by_cases h0 : L = 0
  · subst h0
    have e : Hid (recCode 0 = 1) := rfl
    go_enter Try.func35, Try.ntmps35
    go_wp2_with fail
    go_ret
    rw [e.out]
    exact ⟨rfl, rfl⟩
  · have d0 : ((L : Int) == 0) = false := by simp; omega
    by_cases h5 : 512 < L
    · have e : Hid (recCode L = 7) := by rw [Hid, recCode, if_neg h0, if_pos h5]
      have d5 : decide ((512 : Int) < (L : Int)) = true := by simp; omega
      clear h0 h5
      go_enter Try.func35, Try.ntmps35
      go_wp2_with fail
      go_ret
      rw [e.out]
      exact ⟨rfl, rfl⟩
    · have e : Hid (recCode L = 0) := by rw [Hid, recCode, if_neg h0, if_neg h5]
      have d5 : decide ((512 : Int) < (L : Int)) = false := by simp; omega
      clear h0 h5
      go_enter Try.func35, Try.ntmps35
      go_wp2_with fail
      go_ret
      rw [e.out]
      exact ⟨rfl, rfl⟩

theorem byt_shape {w : World} {S : Nat → Prop} {x : Value} {bs : List UInt8} (h : Byt w S x bs) : ∃ A c, x = .slice A bs.length c := by obtain ⟨A, c, h, _⟩ := h; exact ⟨A, c, h⟩
/-- Two lists of rows that are read. -/
structure Sm (W : World) (S T : Nat → Prop) (x y : Value) (xs ys : List UInt8) (b1 o1 b2 o2 : Nat) (w : World) : Prop where
  cx : w.cell? ⟨b1, o1, none⟩ = some x
  cy : w.cell? ⟨b2, o2, none⟩ = some y
  hx : Byt w S x xs
  hy : Byt w T y ys
  ho : Only none_ W w
theorem Sm.keep {W w w' : World} {S T : Nat → Prop} {x y : Value} {xs ys : List UInt8} {b1 o1 b2 o2 : Nat} (h : Sm W S T x y xs ys b1 o1 b2 o2 w) (o : Only none_ w w') : Sm W S T x y xs ys b1 o1 b2 o2 w' :=
  ⟨(o.cell (World.block_lt_of_cell? _ _ h.cx) (fun h => h)).trans h.cx, (o.cell (World.block_lt_of_cell? _ _ h.cy) (fun h => h)).trans h.cy, h.hx.only o (fun _ _ h => h), h.hy.only o (fun _ _ h => h), h.ho.trans o⟩
theorem rows_same_snoc {a b : List (List UInt8)} (hl : a.length = b.length) (j : Nat) (h1 : j < a.length) (h2 : j < b.length) (h : a.take j = b.take j) : (a[j] = b[j] → a.take (j + 1) = b.take (j + 1)) ∧ (a[j] ≠ b[j] → a ≠ b) := by
  refine ⟨fun e => ?_, fun e h3 => by subst h3; exact e rfl⟩
  rw [List.take_succ_eq_append_getElem h1, List.take_succ_eq_append_getElem h2, h, e]

set_option maxHeartbeats 1600000 in
theorem rf_same (x y : Value) (a b : List (List UInt8)) (S T : Nat → Prop) (w : World) (hx : Rows_ w S x a) (hy : Rows_ w T y b) :
    Calls Try.prog 39 #[x, y] w fun e w' => e = .returned (.bool (decide (a = b))) ∧ Only none_ w w' := by
  have hvx : ∃ A c, x = .slice A a.length c ∧ a.length ≤ maxLen := by obtain ⟨A, c, h, h1, _⟩ := hx; exact ⟨A, c, h, h1⟩
  have hvy : ∃ A c, y = .slice A b.length c := by obtain ⟨A, c, h, _⟩ := hy; exact ⟨A, c, h⟩
  obtain ⟨A1, c1, rfl, hm⟩ := hvx
  obtain ⟨A2, c2, rfl⟩ := hvy
  simp only [maxLen] at hm
  obtain ⟨L, hL⟩ : ∃ L, a.length = L := ⟨_, rfl⟩
  obtain ⟨M, hM⟩ : ∃ M, b.length = M := ⟨_, rfl⟩
  rw [hL] at hx hm ⊢
  rw [hM] at hy ⊢
  have HL := Lib.hid hL
  have HM := Lib.hid hM
  have HX := Lib.hid hx
  have HY := Lib.hid hy
  by_cases hne : L = M
  · have hnb : ((L : Int) != (M : Int)) = false := by simp; omega
    have hLm : (L : Int) ≤ 9223372036854775807 := by omega
    have HE := Lib.hid hne
    clear hx hy hm hne hL hM
    go_enter Try.func39, Try.ntmps39
    go_wp2_with fail
    go_loopw [5] (fun i wr => ∃ j : Nat, j ≤ L ∧ i = .int .i64 j ∧ a.take j = b.take j ∧ Only none_ w wr) (fun i _ => L - (intOf i).toNat)
    case atStart => exact ⟨0, by omega, rfl, rfl, Only.refl _ _⟩
    case round =>
      obtain ⟨j, hj, rfl, ht, ho⟩ := hrel
      by_cases hlt : j < L
      · have hlM : j < M := by have := HE.out; omega
        have hltI : (j : Int) < (L : Int) := by omega
        have hlMI : (j : Int) < (M : Int) := by omega
        obtain ⟨b1, o1, A3, L3, c3, rfl, _, hb1, hc1, hp1, hL3, hB1⟩ := rows_cell HX.out j hlt
        obtain ⟨b2, o2, A4, L4, c4, rfl, _, hb2, hc2, hp2, hL4, hB2⟩ := rows_cell HY.out j hlM
        have S0 : Sm w S T (.slice A3 L3 c3) (.slice A4 L4 c4) a[j] b[j] b1 (o1 + j) b2 (o2 + j) wr :=
          ⟨(ho.cell (p := ⟨b1, o1 + j, none⟩) hb1 (fun h => h)).trans hc1, (ho.cell (p := ⟨b2, o2 + j, none⟩) hb2 (fun h => h)).trans hc2, hB1.only ho (fun _ _ h => h), hB2.only ho (fun _ _ h => h), ho⟩
        have KK := Lib.hid (rows_same_snoc (by have := HL.out; have := HM.out; have := HE.out; omega) j hp1 hp2 ht)
        obtain ⟨xs, hxs⟩ : ∃ z, a[j] = z := ⟨_, rfl⟩
        obtain ⟨ys, hys⟩ : ∃ z, b[j] = z := ⟨_, rfl⟩
        rw [hxs, hys] at S0 KK
        have SS := Lib.hid S0
        clear hc1 hc2 hB1 hB2 ho ht S0 hxs hys hL3 hL4 hp1 hp2 hb1 hb2
        have DR := Lib.hid (SS.out.keep (Only.refl none_ wr).drew)
        by_cases hxy : xs = ys
        · subst hxy
          have HK := Lib.hid (KK.out.1 rfl)
          clear KK SS
          go_wp2_with fail
          (refine wp_region_steady (fun w' => Sm w S T (.slice A3 L3 c3) (.slice A4 L4 c4) xs xs b1 (o1 + j) b2 (o2 + j) w') 11 (by kernel_rfl) (by kernel_rfl) (DR.out) ?_; simp only [List.take_succ_cons, List.take_zero, List.drop_succ_cons, List.drop_zero])
          repeat (first
            | (refine sd_value (v := ?_) (by rfl) (fun w0 hS => ?_) ?_; rotate_left; (· (skip; go_simp; try (with_reducible rfl))); try simp only [Act.put, List.setIfInBounds_toArray, List.set_cons_zero, List.set_cons_succ])
            | (refine sd_value (v := ?_) (by rfl) (fun w0 hS => ?_) ?_; rotate_left; (· (have hc := hS.cx; have hd := hS.cy; go_simp; try (with_reducible rfl))); try simp only [Act.put, List.setIfInBounds_toArray, List.set_cons_zero, List.set_cons_succ])
            | (refine sd_value (v := ?_) (by rfl) (fun w0 hS => ?_) ?_; rotate_left; (· (have hc := run_bytes_string _ _ _ _ hS.hx; have hd := run_bytes_string _ _ _ _ hS.hy; go_simp; try (with_reducible rfl))); try simp only [Act.put, List.setIfInBounds_toArray, List.set_cons_zero, List.set_cons_succ]))
          refine sd_nil ?_
          intro w6 t6
          have T6 := Lib.hid t6
          clear t6
          go_wp2_with fail
          go_roundw
          case rel => exact ⟨j + 1, by omega, by go_num, HK.out, T6.out.ho⟩
          case measure => simp [intOf]; omega
        · have hXY : (xs == ys) = false := by simpa using hxy
          have hd : Hid (decide (a = b) = false) := by have := KK.out.2 hxy; simp [Hid, this]
          clear KK SS hxy
          go_wp2_with fail
          (refine wp_region_steady (fun w' => Sm w S T (.slice A3 L3 c3) (.slice A4 L4 c4) xs ys b1 (o1 + j) b2 (o2 + j) w') 11 (by kernel_rfl) (by kernel_rfl) (DR.out) ?_; simp only [List.take_succ_cons, List.take_zero, List.drop_succ_cons, List.drop_zero])
          repeat (first
            | (refine sd_value (v := ?_) (by rfl) (fun w0 hS => ?_) ?_; rotate_left; (· (skip; go_simp; try (with_reducible rfl))); try simp only [Act.put, List.setIfInBounds_toArray, List.set_cons_zero, List.set_cons_succ])
            | (refine sd_value (v := ?_) (by rfl) (fun w0 hS => ?_) ?_; rotate_left; (· (have hc := hS.cx; have hd := hS.cy; go_simp; try (with_reducible rfl))); try simp only [Act.put, List.setIfInBounds_toArray, List.set_cons_zero, List.set_cons_succ])
            | (refine sd_value (v := ?_) (by rfl) (fun w0 hS => ?_) ?_; rotate_left; (· (have hc := run_bytes_string _ _ _ _ hS.hx; have hd := run_bytes_string _ _ _ _ hS.hy; go_simp; try (with_reducible rfl))); try simp only [Act.put, List.setIfInBounds_toArray, List.set_cons_zero, List.set_cons_succ]))
          refine sd_nil ?_
          intro w6 t6
          have T6 := Lib.hid t6
          clear t6
          go_wp2_with fail
          go_ret
          rw [hd.out]
          exact ⟨rfl, T6.out.ho⟩
      · have hjL : a = b := by
          have h1 : a.take j = a := List.take_of_length_le (by have := HL.out; omega)
          have h2 : b.take j = b := List.take_of_length_le (by have := HM.out; have := HE.out; omega)
          rw [h1, h2] at ht
          exact ht
        have hd : Hid (decide (a = b) = true) := by simp [Hid, hjL]
        have HO := Lib.hid ho
        clear hjL ht ho
        go_wp2_with fail
        go_ret
        rw [hd.out]
        exact ⟨rfl, HO.out⟩
  · have hnb : ((L : Int) != (M : Int)) = true := by simp; omega
    have hd : Hid (decide (a = b) = false) := by
      have : a ≠ b := fun h => hne (by rw [← hL, ← hM, h])
      simp [Hid, this]
    clear hx hy hm hne hL hM
    go_enter Try.func39, Try.ntmps39
    go_wp2_with fail
    go_ret
    rw [hd.out]
    exact ⟨rfl, Only.refl _ _⟩

set_option maxHeartbeats 1600000 in
theorem rf_record7 (x : Value) (bs : List UInt8) (S : Nat → Prop) (w : World) (hx : Byt w S x bs) (h5 : bs.length ≤ 512) :
    Calls Try.prog 55 #[x] w fun e w' => ∃ A n c, e = .returned (.slice A n c) ∧ w'.ownsRow w.heap.size 5 1 (.slice A n c) (recB bs).length (byts (recB bs)) ∧ Only none_ w w' := by
  obtain ⟨i0, hi0, hz0, hz1, hz2⟩ := info_parts u8_info
  obtain ⟨A, c, rfl⟩ := byt_shape hx
  obtain ⟨L, hL⟩ : ∃ L, bs.length = L := ⟨_, rfl⟩
  have hN := refNumber_any L 2 (by omega) (by omega) w
  rw [show ((2 : Nat) : Int) = 2 from rfl] at hN
  have HN := Lib.hid hN
  rw [hL] at hx
  have HX := Lib.hid (hx.mono (T := fun b => b < w.heap.size) (fun b hb _ => hb))
  have hcv : IntKind.u64.wrap (L : Int) = (L : Int) := by rw [IntKind.wrap_u64]; omega
  have HR : Hid (recB bs = crcMark (leBytes L 2) ++ crcMark bs) := by rw [Hid, recB, hdB, hL]
  have hlen : (crcMark (leBytes L 2)).length + (crcMark bs).length ≤ 140737488355328 := by rw [mark_len7, mark_len7, leBytes_length, hL]; omega
  have hl2 : (leBytes L 2).length ≤ 1000000 := by rw [leBytes_length]; omega
  have hl3 : bs.length ≤ 1000000 := by omega
  rw [hL]
  clear hx hL h5 hN
  have tokA : True := trivial
  go_enter Try.func55, Try.ntmps55
  go_wp2_with (first
    | (go_at_call 74; refine HN.out.mono ?_; rintro e w1 ⟨A1, n1, c1, T, rfl, _, own1, o1⟩
       have B1 : Hid (Byt w1 (fun b => w.heap.size ≤ b) (.slice A1 n1 c1) (leBytes L 2)) := (Byt.of_own own1).mono (fun b _ hb => (own1.lt b hb).1)
       have O1 := Lib.hid o1
       clear own1 o1)
    | (go_at_call 75; have _t := tokA; clear tokA; refine (refMark_any _ _ _ _ B1.out hl2).mono ?_; rintro e w2 ⟨A2, n2, c2, rfl, own2, o2⟩
       have X2 := Lib.hid (owns_base own2 O1.out.size)
       have O2 := Lib.hid (O1.out.trans o2)
       clear own2 o2
       have tokB : True := trivial)
    | (go_at_call 75; have _t := tokB; clear tokB; refine (refMark_any _ _ _ _ (HX.out.only O2.out (fun _ _ h => h)) hl3).mono ?_; rintro e w3 ⟨A3, n3, c3, rfl, own3, o3⟩
       have X3 := Lib.hid (owns_only X2.out o3 (fun _ _ h => h))
       have B3 := Lib.hid (Byt.of_own own3)
       have O3 := Lib.hid (O2.out.trans o3)
       clear own3 o3)
    | (at_builtin; refine wpList_append_byt _ rfl (.tmp 13) (.tmp 15) _ rfl w.heap.size 5 i0 (.int .u8 0) Try.underlying71 hi0 hz0 hz1 hz2 rfl _ _ rfl X3.out _ _ _ rfl B3.out hlen O3.out.size ?_
       intro A4 n4 c4 W4 hown4 hgrow4 hmv4
       have O4 : Hid (Only none_ w W4) := O3.out.grown hgrow4 (fun k hk => .inr (X3.out.lt k hk).1)
       clear hmv4 hgrow4))
  go_ret
  exact ⟨_, _, _, rfl, by rw [HR.out]; exact hown4, O4.out⟩
end Go.Proofs.Ytbhdnhnkiibaaaa
