/- The document's tables: Rank and Find. No statement of the seat is proved here. -/
import Derived.Test.YtdmopjnmfjmhkaaTbE
import Derived.Laws.Cover1
namespace Go.Proofs.Ytdmopjnmfjmhkaa
open Go.RowKit
set_option maxRecDepth 100000
set_option linter.all false

/-- A document's table: its pairs lie in blocks of which S holds. -/
def Rt (w : World) (S : Nat → Prop) (room : Int) (l : List (Pr Int)) (m : Value) : Prop := ∃ A c, m = .agg #[.int .i64 room, .slice A l.length c] ∧ Cel w S (.slice A l.length c) l.length 2 (l.flatMap prI)
theorem Rt.only {w w' : World} {S T : Nat → Prop} {room : Int} {l : List (Pr Int)} {m : Value} (h : Rt w S room l m) (o : Only T w w') (hn : ∀ b, S b → ¬ T b) : Rt w' S room l m := by
  obtain ⟨A, c, rfl, h⟩ := h
  exact ⟨A, c, rfl, h.only o hn⟩
theorem rnk_snoc (l : List (Pr Int)) (x : ByteArray) (i : Nat) (hi : i < l.length) : rnk (l.take (i + 1)) x = rnk (l.take i) x + if lt_ l[i].k x = true then 1 else 0 := by
  rw [rnk, rnk, List.take_succ_eq_append_getElem hi, List.countP_append]
  congr 1
  simp [List.countP_cons]

set_option maxHeartbeats 6400000 in
theorem rf_rank (S : Nat → Prop) (room : Int) (l : List (Pr Int)) (m : Value) (x : ByteArray) (w : World) (h : Rt w S room l m) (hl : l.length ≤ 4096) :
    Calls Try.prog 54 #[m, .string x] w fun e w' => e = .returned (.int .i64 (rnk l x : Nat)) ∧ Only none_ w w' := by
  obtain ⟨A, c, rfl, h⟩ := h
  have HC := Lib.hid (fun (w' : World) (o : Only none_ w w') => h.only o (fun _ _ h => h))
  obtain ⟨n, hn⟩ : ∃ n, l.length = n := ⟨_, rfl⟩
  have HN := Lib.hid hn
  rw [hn] at HC hl ⊢
  obtain ⟨rr, hrr⟩ : ∃ rr, rnk l x = rr := ⟨_, rfl⟩
  have HRR := Lib.hid hrr
  rw [hrr]
  have B := Lib.hid (Blk.new w 31 #[.int .i64 room, .slice A n c])
  have O := Lib.hid ((Only.refl none_ w).alloc (.cells #[.int .i64 room, .slice A n c] 31))
  clear h hn hrr
  go_enter Try.func54, Try.ntmps54
  go_wp2_with fail
  generalize w.alloc (.cells #[.int .i64 room, .slice A n c] 31) = W1 at *
  have c1 : W1.cell? ⟨w.heap.size, 1, none⟩ = some (.slice A n c) := B.out.cell_ (i := 1) rfl
  go_loop [5, 6] (fun s5 s6 => ∃ i : Nat, i ≤ n ∧ s5 = .int .i64 ((rnk (l.take i) x : Nat) : Int) ∧ s6 = .int .i64 i) (fun _ s6 => n - (intOf s6).toNat)
  case atStart => exact ⟨0, by omega, by simp [rnk], rfl⟩
  case round =>
    obtain ⟨i, hi, rfl, rfl⟩ := hrel
    have hrb := rnk_le (l.take i) x
    rw [List.length_take] at hrb
    by_cases hlt : i < n
    · have hin : i < l.length := by have := HN.out; omega
      obtain ⟨b, off, hA, _, _, hc0, hc1⟩ := prI_cell (HC.out _ O.out) i hin HN.out.symm
      subst hA
      have hsn := rnk_snoc l x i hin
      have hbl : Op.bytesLess l[i].k.toList x.toList = lt_ l[i].k x := by rw [Lib.toList_data, Lib.toList_data]; rfl
      obtain ⟨r, hr⟩ : ∃ r, rnk (l.take i) x = r := ⟨_, rfl⟩
      rw [hr] at hsn hrb ⊢
      have hr40 : r ≤ 4096 := by omega
      generalize lt_ l[i].k x = bl at hsn hbl
      generalize l[i].k = kk at hc0 hbl
      have HSN := Lib.hid hsn
      clear hsn hr hrb
      cases bl
      · go_wp2_with fail
        go_round
        case rel => exact ⟨i + 1, by omega, by rw [HSN.out]; rfl, by go_num⟩
        case measure => simp [intOf]; omega
      · go_wp2_with fail
        go_round
        case rel => exact ⟨i + 1, by omega, by rw [HSN.out]; go_num, by go_num⟩
        case measure => simp [intOf]; omega
    · have hin : l.take i = l := List.take_of_length_le (by have := HN.out; omega)
      rw [hin, HRR.out]
      clear hrb hin
      go_wp2_with fail
      go_ret
      exact ⟨rfl, O.out⟩

/-- Where a key stands; -1: nowhere. -/
def fndL (l : List (Pr Int)) (x : ByteArray) : Int := if has l x then (rnk l x : Nat) else -1
set_option maxHeartbeats 6400000 in
theorem rf_find (S : Nat → Prop) (room : Int) (l : List (Pr Int)) (m : Value) (x : ByteArray) (w : World) (h : Rt w S room l m) (hr : Ris l) (hl : l.length ≤ 4096) :
    Calls Try.prog 53 #[m, .string x] w fun e w' => e = .returned (.int .i64 (fndL l x)) ∧ Only none_ w w' := by
  obtain ⟨A, c, rfl, h⟩ := h
  have HC := Lib.hid (fun (w' : World) (o : Only none_ w w') => h.only o (fun _ _ h => h))
  have HR := Lib.hid hr
  obtain ⟨n, hn⟩ : ∃ n, l.length = n := ⟨_, rfl⟩
  have HN := Lib.hid hn
  rw [hn] at HC hl ⊢
  obtain ⟨f, hf⟩ : ∃ f, fndL l x = f := ⟨_, rfl⟩
  have HF := Lib.hid hf
  rw [hf]
  have B := Lib.hid (Blk.new w 31 #[.int .i64 room, .slice A n c])
  have O := Lib.hid ((Only.refl none_ w).alloc (.cells #[.int .i64 room, .slice A n c] 31))
  clear h hn hr hf
  go_enter Try.func53, Try.ntmps53
  go_wp2_with fail
  generalize w.alloc (.cells #[.int .i64 room, .slice A n c] 31) = W1 at *
  have c1 : W1.cell? ⟨w.heap.size, 1, none⟩ = some (.slice A n c) := B.out.cell_ (i := 1) rfl
  go_loop [5] (fun s5 => ∃ i : Nat, i ≤ n ∧ s5 = .int .i64 i ∧ ∀ j (hj : j < l.length), j < i → l[j].k ≠ x) (fun s5 => n - (intOf s5).toNat)
  case atStart => exact ⟨0, by omega, rfl, fun j _ h => absurd h (by omega)⟩
  case round =>
    obtain ⟨i, hi, rfl, hno⟩ := hrel
    have HNO := Lib.hid hno
    by_cases hlt : i < n
    · have hin : i < l.length := by have := HN.out; omega
      obtain ⟨b, off, hA, _, _, hc0, hc1⟩ := prI_cell (HC.out _ O.out) i hin HN.out.symm
      subst hA
      have hbl : (l[i].k.toList == x.toList) = decide (l[i].k = x) := by
        rw [Lib.toList_data, Lib.toList_data]
        by_cases he : l[i].k = x
        · simp [he]
        · simp only [he, decide_false, beq_eq_false_iff_ne, ne_eq]
          exact fun e => he (key_ext e)
      by_cases he : l[i].k = x
      · have hfi : f = (i : Int) := by
          rw [← HF.out]
          have h1 : has l x = true := List.any_eq_true.2 ⟨_, List.getElem_mem hin, by simp [he]⟩
          have h2 : i = rnk l x := rnk_of HR.out x i (by omega) (fun j hj hji => by rw [← he]; exact HR.out j i hj hin hji) (fun _ => by rw [he]; exact lt_irr _)
          rw [fndL, if_pos h1, ← h2]
        have hbl2 : decide (l[i].k = x) = true := by simp [he]
        rw [hbl2] at hbl
        subst hfi
        generalize l[i].k = kk at hc0 hbl
        clear hno he hbl2
        go_wp2_with fail
        go_ret
        exact ⟨rfl, O.out⟩
      · have hbl2 : decide (l[i].k = x) = false := by simp [he]
        rw [hbl2] at hbl
        have HE := Lib.hid he
        generalize l[i].k = kk at hc0 hbl
        clear hno he hbl2
        go_wp2_with fail
        go_round
        case rel => exact ⟨i + 1, by omega, by go_num, fun j hj hji => by
          by_cases hji2 : j < i
          · exact HNO.out j hj hji2
          · obtain rfl : j = i := by omega
            exact HE.out⟩
        case measure => simp [intOf]; omega
    · have hfi : f = -1 := by
        rw [← HF.out]
        have h1 : has l x = false := by
          cases h : has l x with
          | false => rfl
          | true =>
            obtain ⟨p, hp, he⟩ := List.any_eq_true.1 h
            obtain ⟨j, hj, rfl⟩ := List.mem_iff_getElem.1 hp
            exact absurd (by simpa using he) (hno j hj (by have := HN.out; omega))
        rw [fndL, if_neg (by rw [h1]; decide)]
      subst hfi
      clear hno
      go_wp2_with fail
      go_ret
      exact ⟨rfl, O.out⟩
end Go.Proofs.Ytdmopjnmfjmhkaa
