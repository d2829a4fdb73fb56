/- The sum of a list, the program's and the document's; few; the example that the statements of layer 9 begin with. No statement of the seat is proved here. -/
import Derived.Test.YtkailngpmodfhaaSmB
import Derived.Test.YtkailngpmodfhaaSmC
import Derived.Test.YtkailngpmodfhaaEnF
import Derived.Test.YtkailngpmodfhaaOpenN
import Derived.Deep.RegionHeld3
namespace Go.Proofs.Ytkailngpmodfhaa
open Go.RowKit
set_option maxRecDepth 100000
set_option linter.all false

/-- The nine cells of an entry in a list. -/
theorem en_at {W w : World} {b off : Nat} {l : List En} (hc : ∀ j u, (l.flatMap enRow)[j]? = some u → W.cell? ⟨b, off + j, none⟩ = some u) (o : Only none_ W w) (hb : b < W.heap.size) {k : Nat} {a : En} (ha : l[k]? = some a) :
    w.cell? ⟨b, off + k * 9, none⟩ = some (.string a.k) ∧ w.cell? ⟨b, off + k * 9 + 1, none⟩ = some (.string a.v) ∧ w.cell? ⟨b, off + k * 9 + 2, none⟩ = some (.bool a.d) ∧ w.cell? ⟨b, off + k * 9 + 3, none⟩ = some (.int .i64 a.s.c) ∧ w.cell? ⟨b, off + k * 9 + 4, none⟩ = some (.int .i64 a.s.s) ∧ w.cell? ⟨b, off + k * 9 + 5, none⟩ = some (.int .i64 a.a.c) ∧ w.cell? ⟨b, off + k * 9 + 6, none⟩ = some (.int .i64 a.a.s) ∧ w.cell? ⟨b, off + k * 9 + 7, none⟩ = some (.int .i64 a.p) ∧ w.cell? ⟨b, off + k * 9 + 8, none⟩ = some (.int .i64 a.g) := by
  have h := flat_at enRow enRow_length l k a ha
  have c : ∀ j u, j < 9 → (enRow a)[j]? = some u → w.cell? ⟨b, off + (k * 9 + j), none⟩ = some u := fun j u hj hu => (o.cell (p := ⟨b, off + (k * 9 + j), none⟩) hb (fun h => h)).trans (hc _ _ ((h j hj).trans hu))
  exact ⟨c 0 _ (by omega) rfl, c 1 _ (by omega) rfl, c 2 _ (by omega) rfl, c 3 _ (by omega) rfl, c 4 _ (by omega) rfl, c 5 _ (by omega) rfl, c 6 _ (by omega) rfl, c 7 _ (by omega) rfl, c 8 _ (by omega) rfl⟩

theorem all_succ {l : List En} {k : Nat} {e : En} (h : l[k]? = some e) : (l.take (k + 1)).all enShort = ((l.take k).all enShort && enShort e) := by
  obtain ⟨hk, hb⟩ := List.getElem?_eq_some_iff.1 h
  rw [List.take_succ_eq_append_getElem hk, List.all_append, hb]
  simp

set_option maxHeartbeats 3200000 in
theorem sm_few (v : Value) (l : List En) (w : World) (S : Nat → Prop) (hx : Cel w S v l.length 9 (l.flatMap enRow)) :
    Calls Try.prog 30 #[v] w fun E w' => E = .returned (.bool (l.all enShort && decide (l.length ≤ 40))) ∧ Only none_ w w' := by
  obtain ⟨A, c, rfl, _, h2, h3, _, h4⟩ := hx
  obtain ⟨L, hL⟩ : ∃ L, L = l.length := ⟨_, rfl⟩
  rw [← hL] at h2 h4 ⊢
  have HX := Lib.hid h4
  have HL := Lib.hid hL
  have hLm : L ≤ 9223372036854775807 := by simp only [maxLen] at h3; omega
  have O0 := Lib.hid (Only.refl none_ w)
  clear h4 hL
  go_enter Try.func30, Try.ntmps30
  go_wp2_with fail
  go_loopw [7] (fun i wr => ∃ k : Nat, k ≤ L ∧ i = .int .i64 (k : Int) ∧ (l.take k).all enShort = true ∧ Only none_ w wr) (fun i _ => L - (intOf i).toNat)
  case atStart => exact ⟨0, Nat.zero_le _, rfl, by simp, O0.out⟩
  case round =>
    obtain ⟨k, hk, rfl, hall, ho⟩ := hrel
    have HW := Lib.hid ho
    have HA := Lib.hid hall
    clear ho hall
    by_cases hlt : k < L
    · obtain ⟨b, off, rfl, _, hb, hc⟩ := HX.out (by omega)
      obtain ⟨a, ha⟩ : ∃ a, l[k]? = some a := ⟨l[k]'(by have := HL.out; omega), List.getElem?_eq_getElem _⟩
      have q := en_at hc HW.out hb ha
      have HS := Lib.hid (all_succ ha)
      have hmem : a ∈ l := List.mem_of_getElem? ha
      cases hs : enShort a
      · have HF : Hid (l.all enShort = false) := by rw [Hid, List.all_eq_false]; exact ⟨a, hmem, by simp [hs]⟩
        have HSS := Lib.hid hs
        clear ha hc hmem hs
        go_wp2_with (first
          | (go_at_call 37; refine (rf_short a _).mono ?_; rw [HSS.out]; rintro E w5 ⟨rfl, o5⟩; have O5 := Lib.hid ((HW.out.alloc _).trans o5); clear o5))
        go_ret
        exact ⟨by rw [HF.out]; rfl, O5.out⟩
      · have HSS := Lib.hid hs
        clear ha hc hmem hs
        go_wp2_with (first
          | (go_at_call 37; refine (rf_short a _).mono ?_; rw [HSS.out]; rintro E w5 ⟨rfl, o5⟩; have O5 := Lib.hid ((HW.out.alloc _).trans o5); clear o5))
        go_roundw
        case rel => exact ⟨k + 1, by omega, by go_num, by rw [HS.out, HA.out, HSS.out]; rfl, O5.out⟩
        case measure => simp [intOf]; omega
    · obtain rfl : k = L := by omega
      have HT : Hid (l.all enShort = true) := by have := HA.out; rwa [HL.out, List.take_length] at this
      by_cases h40 : k ≤ 40
      · have hz : Hid (decide (k ≤ 40) = true) := by simp [Hid, h40]
        have hd : decide ((k : Int) ≤ 40) = true := by simp; omega
        go_wp2_with fail
        go_ret
        exact ⟨by rw [HT.out, hz.out]; rfl, HW.out⟩
      · have hz : Hid (decide (k ≤ 40) = false) := by simp [Hid]; omega
        have hd : decide ((k : Int) ≤ 40) = false := by simp; omega
        go_wp2_with fail
        go_ret
        exact ⟨by rw [HT.out, hz.out]; rfl, HW.out⟩

set_option maxHeartbeats 3200000 in
theorem sm_of (v : Value) (l : List En) (w : World) (S : Nat → Prop) (hx : Cel w S v l.length 9 (l.flatMap enRow)) :
    Calls Try.prog 35 #[v] w fun E w' => E = .returned (.int .u64 (w64 (sumH l))) ∧ Only none_ w w' := by
  obtain ⟨A, c, rfl, _, h2, h3, _, h4⟩ := hx
  obtain ⟨L, hL⟩ : ∃ L, L = l.length := ⟨_, rfl⟩
  rw [← hL] at h2 h4 ⊢
  have HX := Lib.hid h4
  have HL := Lib.hid hL
  have hLm : L ≤ 9223372036854775807 := by simp only [maxLen] at h3; omega
  have O0 := Lib.hid (Only.refl none_ w)
  clear h4 hL
  go_enter Try.func35, Try.ntmps35
  go_wp2_with fail
  go_loopw [3, 8] (fun x i wr => ∃ k : Nat, k ≤ L ∧ i = .int .i64 (k : Int) ∧ x = .int .u64 (w64 (sumH (l.take k))) ∧ Only none_ w wr) (fun _ i _ => L - (intOf i).toNat)
  case atStart => exact ⟨0, Nat.zero_le _, rfl, rfl, O0.out⟩
  case round =>
    obtain ⟨k, hk, rfl, rfl, ho⟩ := hrel
    have HW := Lib.hid ho
    clear ho
    by_cases hlt : k < L
    · obtain ⟨b, off, rfl, _, hb, hc⟩ := HX.out (by omega)
      obtain ⟨a, ha⟩ : ∃ a, l[k]? = some a := ⟨l[k]'(by have := HL.out; omega), List.getElem?_eq_getElem _⟩
      have q := en_at hc HW.out hb ha
      have hs := sumH_succ ha
      have hadd : IntKind.u64.wrap (w64 (sumH (l.take k)) + (hsh a : Int)) = w64 (sumH (l.take (k + 1))) := by rw [w64_wrap, w64_add, hs]
      have hx1 := w64_in (sumH (l.take k))
      have hx2 := hsh_lt a
      obtain ⟨x, hxe⟩ : ∃ x, w64 (sumH (l.take k)) = x := ⟨_, rfl⟩
      obtain ⟨y, hye⟩ : ∃ y, w64 (sumH (l.take (k + 1))) = y := ⟨_, rfl⟩
      obtain ⟨h, hhe⟩ : ∃ h, hsh a = h := ⟨_, rfl⟩
      rw [hxe, hye, hhe] at hadd
      rw [hxe] at hx1 ⊢
      rw [hhe] at hx2
      have HY := Lib.hid hye
      have HH := Lib.hid hhe
      have hy := hadd.symm
      have B5 := Lib.hid (Blk.new wr 78 #[.string a.k, .string a.v, .bool a.d, .int .i64 a.s.c, .int .i64 a.s.s, .int .i64 a.a.c, .int .i64 a.a.s, .int .i64 a.p, .int .i64 a.g])
      clear ha hc hs hxe hye hhe hy
      go_wp2_with (first
        | (refine wpl_load rfl 78 _ rfl wr.heap.size rfl 78 #[.string a.k, .string a.v, .bool a.d, .int .i64 a.s.c, .int .i64 a.s.s, .int .i64 a.a.c, .int .i64 a.a.s, .int .i64 a.p, .int .i64 a.g] _ B5.out Try.underlying78 rfl (by kernel_rfl) ?_)
        | (go_at_call 31; refine (sm_hash a _).mono ?_; rw [HH.out]; rintro E w5 ⟨rfl, o5⟩; have O5 := Lib.hid ((HW.out.alloc _).trans o5); clear o5))
      go_roundw
      case rel => exact ⟨k + 1, by omega, by go_num, by rw [HY.out], O5.out⟩
      case measure => simp [intOf]; omega
    · obtain rfl : k = L := by omega
      have HT : Hid (l.take k = l) := by rw [Hid, HL.out, List.take_length]
      rw [HT.out]
      go_wp2_with fail
      go_ret
      exact ⟨rfl, HW.out⟩

set_option maxHeartbeats 3200000 in
theorem rf_sum (v : Value) (l : List En) (w : World) (S : Nat → Prop) (hx : Cel w S v l.length 9 (l.flatMap enRow)) :
    Calls Try.prog 36 #[v] w fun E w' => E = .returned (.int .u64 (w64 (sumH l))) ∧ Only none_ w w' := by
  obtain ⟨A, c, rfl, _, h2, h3, _, h4⟩ := hx
  obtain ⟨L, hL⟩ : ∃ L, L = l.length := ⟨_, rfl⟩
  rw [← hL] at h2 h4 ⊢
  have HX := Lib.hid h4
  have HL := Lib.hid hL
  have hLm : L ≤ 9223372036854775807 := by simp only [maxLen] at h3; omega
  have O0 := Lib.hid (Only.refl none_ w)
  clear h4 hL
  go_enter Try.func36, Try.ntmps36
  go_wp2_with fail
  go_loopw [3, 4] (fun x i wr => ∃ k : Nat, k ≤ L ∧ i = .int .i64 (k : Int) ∧ x = .int .u64 (w64 (sumH (l.take k))) ∧ Only none_ w wr) (fun _ i _ => L - (intOf i).toNat)
  case atStart => exact ⟨0, Nat.zero_le _, rfl, rfl, O0.out⟩
  case round =>
    obtain ⟨k, hk, rfl, rfl, ho⟩ := hrel
    have HW := Lib.hid ho
    clear ho
    by_cases hlt : k < L
    · obtain ⟨b, off, rfl, _, hb, hc⟩ := HX.out (by omega)
      obtain ⟨a, ha⟩ : ∃ a, l[k]? = some a := ⟨l[k]'(by have := HL.out; omega), List.getElem?_eq_getElem _⟩
      have q := en_at hc HW.out hb ha
      have hs := sumH_succ ha
      have hadd : IntKind.u64.wrap (w64 (sumH (l.take k)) + (hsh a : Int)) = w64 (sumH (l.take (k + 1))) := by rw [w64_wrap, w64_add, hs]
      have hx1 := w64_in (sumH (l.take k))
      have hx2 := hsh_lt a
      obtain ⟨x, hxe⟩ : ∃ x, w64 (sumH (l.take k)) = x := ⟨_, rfl⟩
      obtain ⟨y, hye⟩ : ∃ y, w64 (sumH (l.take (k + 1))) = y := ⟨_, rfl⟩
      obtain ⟨h, hhe⟩ : ∃ h, hsh a = h := ⟨_, rfl⟩
      rw [hxe, hye, hhe] at hadd
      rw [hxe] at hx1 ⊢
      rw [hhe] at hx2
      have HY := Lib.hid hye
      have HH := Lib.hid hhe
      clear ha hc hs hxe hye hhe
      go_wp2_with (first
        | (go_at_call 33; refine (rf_hash a _).mono ?_; rw [HH.out]; rintro E w5 ⟨rfl, o5⟩; have O5 := Lib.hid (HW.out.trans o5); clear o5))
      go_roundw
      case rel => exact ⟨k + 1, by omega, by go_num, by rw [HY.out], O5.out⟩
      case measure => simp [intOf]; omega
    · obtain rfl : k = L := by omega
      have HT : Hid (l.take k = l) := by rw [Hid, HL.out, List.take_length]
      rw [HT.out]
      go_wp2_with fail
      go_ret
      exact ⟨rfl, HW.out⟩
end Go.Proofs.Ytkailngpmodfhaa
