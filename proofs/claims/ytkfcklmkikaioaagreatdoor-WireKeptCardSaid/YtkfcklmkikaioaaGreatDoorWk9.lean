/- Texts of mine, one behind the other: WiB. No statement of the seat is proved here. -/
import Derived.Test.YtkfcklmkikaioaaGreatDoorWk8
import Derived.Test.YtkfcklmkikaioaaGreatDoorWk5
section
namespace Go.Proofs.YtkfcklmkikaioaaGreatDoor
open Go.RowKit
set_option linter.all false
set_option maxRecDepth 100000
theorem is_emp (s : ByteArray) : s.toList.isEmpty = decide (s.size = 0) := by
  rw [ByteArray.toList_eq]; obtain ⟨⟨l⟩⟩ := s; cases l <;> simp [ByteArray.size]
set_option maxHeartbeats 1600000 in
theorem wi_mark (x : Mk) (w : World) : Calls Tryz.prog 108 #[.agg #[.int .i64 x.a.c, .int .i64 x.a.s, .string x.k]] w fun E w' => E = .returned (.bool (mkGood x)) ∧ Only none_ w w' := by
  obtain ⟨⟨xc, xs⟩, xk⟩ := x
  show Calls Tryz.prog 108 #[.agg #[.int .i64 xc, .int .i64 xs, .string xk]] w _
  have B := Blk.new w 41 #[.int .i64 xc, .int .i64 xs, .string xk]
  have HB := Lib.hid B
  have O := Lib.hid ((Only.refl none_ w).alloc (.cells #[.int .i64 xc, .int .i64 xs, .string xk] 41))
  have c0 := B.cell_ (i := 0) rfl
  have c1 := B.cell_ (i := 1) rfl
  have c2 := B.cell_ (i := 2) rfl
  obtain ⟨gb, hg⟩ : ∃ b, stGood ⟨xc, xs⟩ = b := ⟨_, rfl⟩
  have HG := Lib.hid hg
  have HM : Hid (mkGood ⟨⟨xc, xs⟩, xk⟩ = (gb && decide (1 ≤ xk.size) && decide (xk.size ≤ 16))) := by rw [Hid, mkGood]; dsimp only; rw [hg]
  have he := is_emp xk
  clear B hg
  cases gb
  · go_enter Tryz.func108, Tryz.ntmps108
    go_wp2_with (first
      | (go_at_call 140; refine (st_good _ _ _).mono ?_; rintro E w9 ⟨rfl, o9⟩; rw [HG.out]; have O9 := Lib.hid (O.out.trans o9); clear o9))
    go_ret
    exact ⟨by rw [HM.out]; rfl, O9.out⟩
  · by_cases h1 : xk.size = 0
    · have he' : xk.toList.isEmpty = true := by rw [he]; simp [h1]
      have HM2 : Hid (mkGood ⟨⟨xc, xs⟩, xk⟩ = false) := by rw [Hid, HM.out]; simp [h1]
      clear he HM
      go_enter Tryz.func108, Tryz.ntmps108
      go_wp2_with (first
        | (go_at_call 140; refine (st_good _ _ _).mono ?_; rintro E w9 ⟨rfl, o9⟩; rw [HG.out]; have O9 := Lib.hid (O.out.trans o9)
           have b9 := HB.out.only o9 (fun h => h)
           have k2 := b9.cell_ (i := 2) rfl
           clear o9 b9))
      go_ret
      exact ⟨by rw [HM2.out]; rfl, O9.out⟩
    · have he' : xk.toList.isEmpty = false := by rw [he]; simp [h1]
      have HM2 : Hid (mkGood ⟨⟨xc, xs⟩, xk⟩ = decide ((xk.size : Int) ≤ 16)) := by
        rw [Hid, HM.out, Bool.eq_iff_iff]
        simp only [Bool.true_and, Bool.and_eq_true, decide_eq_true_eq]
        omega
      clear he HM
      go_enter Tryz.func108, Tryz.ntmps108
      go_wp2_with (first
        | (go_at_call 140; refine (st_good _ _ _).mono ?_; rintro E w9 ⟨rfl, o9⟩; rw [HG.out]; have O9 := Lib.hid (O.out.trans o9)
           have b9 := HB.out.only o9 (fun h => h)
           have k2 := b9.cell_ (i := 2) rfl
           clear o9 b9))
      go_ret
      exact ⟨by rw [HM2.out]; rfl, O9.out⟩
def shRow (nm : ByteArray) (fl lo up : Int) : Array Value := #[.string nm, .int .i64 fl, .int .i64 lo, .int .i64 up]
set_option maxHeartbeats 800000 in
theorem wi_many (nm : ByteArray) (fl lo up : Int) (n : Nat) (w : World) : Calls Tryz.prog 111 #[.agg #[.string nm, .int .i64 fl, .int .i64 lo, .int .i64 up], .int .i64 n] w fun E w' => E = .returned (.bool (manyB lo up n)) ∧ Only none_ w w' := by
  have B := Blk.new w 77 #[.string nm, .int .i64 fl, .int .i64 lo, .int .i64 up]
  have O := Lib.hid ((Only.refl none_ w).alloc (.cells #[.string nm, .int .i64 fl, .int .i64 lo, .int .i64 up] 77))
  have c2 := B.cell_ (i := 2) rfl
  have c3 := B.cell_ (i := 3) rfl
  have HM : Hid (manyB lo up n = (decide (lo ≤ (n : Int)) && decide ((n : Int) ≤ up))) := rfl
  clear B
  by_cases h : lo ≤ (n : Int)
  · have HM2 : Hid (manyB lo up n = decide ((n : Int) ≤ up)) := by rw [Hid, HM.out]; simp [h]
    clear HM
    go_enter Tryz.func111, Tryz.ntmps111
    go_wp2_with fail
    go_ret
    exact ⟨by rw [HM2.out]; rfl, O.out⟩
  · have HM2 : Hid (manyB lo up n = false) := by rw [Hid, HM.out]; simp [h]
    clear HM
    go_enter Tryz.func111, Tryz.ntmps111
    go_wp2_with fail
    go_ret
    exact ⟨by rw [HM2.out]; rfl, O.out⟩
set_option maxHeartbeats 1600000 in
theorem wi_each_int (S : Nat → Prop) (l : List Int) (v : Value) (w : World) (h : Cel w S v l.length 1 (l.flatMap intI)) (hl : l.length ≤ 4096) :
    Calls Tryz.prog 100 #[v, .func (.func 93) #[] #[]] w fun e w' => e = .returned (.bool (l.all nodeB)) ∧ Only none_ w w' := by
  obtain ⟨n, hn⟩ : ∃ n, l.length = n := ⟨_, rfl⟩
  have h0 := h
  rw [hn] at h hl
  obtain ⟨A, c, rfl, _⟩ := id h
  have HA := Lib.hid (fun (w' : World) (o : Only none_ w w') => h.only o (fun _ _ h => h))
  have HN := Lib.hid hn
  clear h h0 hn
  go_enter Tryz.func100, Tryz.ntmps100
  go_wp2_with fail
  go_loopw [9] (fun s9 wr => ∃ i : Nat, i ≤ n ∧ s9 = .int .i64 i ∧ Only none_ w wr ∧ (l.take i).all nodeB = true) (fun s9 _ => n - (intOf s9).toNat)
  case atStart => exact ⟨0, by omega, rfl, Only.refl _ _, by simp⟩
  case round =>
    obtain ⟨i, hi, rfl, o, hall⟩ := hrel
    have HAL := Lib.hid hall
    have O := Lib.hid o
    clear hall
    by_cases hlt : i < n
    · have hin : i < l.length := by have := HN.out; omega
      obtain ⟨x, hx⟩ : ∃ x, l[i]? = some x := ⟨_, List.getElem?_eq_getElem hin⟩
      obtain ⟨b, off, hA, _, _, hc⟩ := in_elem intI_len (by decide) (HA.out _ o) HN.out hx
      subst hA
      have k0 := hc _ (Only.refl none_ _) 0 (.int .i64 x) rfl
      rw [Nat.mul_one, Nat.add_zero] at k0
      obtain ⟨pb, hp⟩ : ∃ pb, nodeB x = pb := ⟨_, rfl⟩
      have HP := Lib.hid hp
      have HX := Lib.hid hx
      clear o hc hp hx
      cases pb
      · go_wp2_with (first
          | (go_at_call 93; refine (wi_node _ _).mono ?_; rintro E w9 ⟨rfl, rfl⟩; rw [HP.out]))
        go_ret
        have hf : l.all nodeB = false := by
          rw [Bool.eq_false_iff]
          intro ha
          have := List.all_eq_true.1 ha x (List.mem_of_getElem? HX.out)
          rw [HP.out] at this; cases this
        exact ⟨by rw [hf]; rfl, O.out⟩
      · go_wp2_with (first
          | (go_at_call 93; refine (wi_node _ _).mono ?_; rintro E w9 ⟨rfl, rfl⟩; rw [HP.out]))
        go_roundw
        case rel => exact ⟨i + 1, by omega, by go_num, O.out, by
          rw [List.take_add_one, HX.out]
          simp only [Option.toList_some, List.all_append, HAL.out, List.all_cons, List.all_nil, HP.out]; rfl⟩
        case measure => simp [intOf]; omega
    · have hin : l.take i = l := List.take_of_length_le (by have := HN.out; omega)
      rw [hin] at HAL
      clear o hin
      go_wp2_with fail
      go_ret
      exact ⟨by rw [HAL.out]; rfl, O.out⟩
theorem mkI_one5 (m : Mk) : (#[.int .i64 m.a.c, .int .i64 m.a.s, .string m.k] : Array Value).all (·.oneCell') = true := by simp [Value.oneCell']
set_option maxHeartbeats 1600000 in
theorem wi_each_mk (S : Nat → Prop) (l : List Mk) (v : Value) (w : World) (h : Cel w S v l.length 3 (l.flatMap mkI)) (hl : l.length ≤ 4096) :
    Calls Tryz.prog 112 #[v, .func (.func 108) #[] #[]] w fun e w' => e = .returned (.bool (l.all mkGood)) ∧ Only none_ w w' := by
  obtain ⟨n, hn⟩ : ∃ n, l.length = n := ⟨_, rfl⟩
  have h0 := h
  rw [hn] at h hl
  obtain ⟨A, c, rfl, _⟩ := id h
  have HA := Lib.hid (fun (w' : World) (o : Only none_ w w') => h.only o (fun _ _ h => h))
  have HN := Lib.hid hn
  clear h h0 hn
  go_enter Tryz.func112, Tryz.ntmps112
  go_wp2_with fail
  go_loopw [9] (fun s9 wr => ∃ i : Nat, i ≤ n ∧ s9 = .int .i64 i ∧ Only none_ w wr ∧ (l.take i).all mkGood = true) (fun s9 _ => n - (intOf s9).toNat)
  case atStart => exact ⟨0, by omega, rfl, Only.refl _ _, by simp⟩
  case round =>
    obtain ⟨i, hi, rfl, o, hall⟩ := hrel
    have HAL := Lib.hid hall
    have O := Lib.hid o
    clear hall
    by_cases hlt : i < n
    · have hin : i < l.length := by have := HN.out; omega
      obtain ⟨x, hx⟩ : ∃ x, l[i]? = some x := ⟨_, List.getElem?_eq_getElem hin⟩
      obtain ⟨b, off, hA, _, _, hc⟩ := in_elem mkI_len (by decide) (HA.out _ o) HN.out hx
      subst hA
      have HC : Hid (∀ j u, (#[.int .i64 x.a.c, .int .i64 x.a.s, .string x.k] : Array Value).toList[j]? = some u → wr.cell? ⟨b, off + i * 3 + j, none⟩ = some u) := fun j u hu => hc _ (Only.refl none_ _) j u hu
      have BX := Lib.hid (Blk.new wr 41 #[.int .i64 x.a.c, .int .i64 x.a.s, .string x.k])
      have OA := Lib.hid (o.alloc (.cells #[.int .i64 x.a.c, .int .i64 x.a.s, .string x.k] 41))
      obtain ⟨pb, hp⟩ : ∃ pb, mkGood x = pb := ⟨_, rfl⟩
      have HP := Lib.hid hp
      have HX := Lib.hid hx
      clear o hc hp hx
      cases pb
      · go_wp2_with (first
          | (refine wpl_piece rfl 41 _ rfl b (off + i * 3) rfl #[.int .i64 x.a.c, .int .i64 x.a.s, .string x.k] _ HC.out Tryz.underlying41 rfl (by kernel_rfl) ?_)
          | (refine wpl_new rfl rfl 41 rfl _ _ rfl #[.int .i64 x.a.c, .int .i64 x.a.s, .string x.k] rfl rfl (by kernel_rfl) (mkI_one5 x) ?_)
          | (refine wpl_load rfl 41 _ rfl wr.heap.size rfl 41 #[.int .i64 x.a.c, .int .i64 x.a.s, .string x.k] _ BX.out Tryz.underlying41 rfl (by kernel_rfl) ?_)
          | (go_at_call 108; refine (wi_mark _ _).mono ?_; rintro E w9 ⟨rfl, o9⟩; rw [HP.out]; have O9 := Lib.hid (OA.out.trans o9); clear o9))
        go_ret
        have hf : l.all mkGood = false := by
          rw [Bool.eq_false_iff]
          intro ha
          have := List.all_eq_true.1 ha x (List.mem_of_getElem? HX.out)
          rw [HP.out] at this; cases this
        exact ⟨by rw [hf]; rfl, O9.out⟩
      · go_wp2_with (first
          | (refine wpl_piece rfl 41 _ rfl b (off + i * 3) rfl #[.int .i64 x.a.c, .int .i64 x.a.s, .string x.k] _ HC.out Tryz.underlying41 rfl (by kernel_rfl) ?_)
          | (refine wpl_new rfl rfl 41 rfl _ _ rfl #[.int .i64 x.a.c, .int .i64 x.a.s, .string x.k] rfl rfl (by kernel_rfl) (mkI_one5 x) ?_)
          | (refine wpl_load rfl 41 _ rfl wr.heap.size rfl 41 #[.int .i64 x.a.c, .int .i64 x.a.s, .string x.k] _ BX.out Tryz.underlying41 rfl (by kernel_rfl) ?_)
          | (go_at_call 108; refine (wi_mark _ _).mono ?_; rintro E w9 ⟨rfl, o9⟩; rw [HP.out]; have O9 := Lib.hid (OA.out.trans o9); clear o9))
        go_roundw
        case rel => exact ⟨i + 1, by omega, by go_num, O9.out, by
          rw [List.take_add_one, HX.out]
          simp only [Option.toList_some, List.all_append, HAL.out, List.all_cons, List.all_nil, HP.out]; rfl⟩
        case measure => simp [intOf]; omega
    · have hin : l.take i = l := List.take_of_length_le (by have := HN.out; omega)
      rw [hin] at HAL
      clear o hin
      go_wp2_with fail
      go_ret
      exact ⟨by rw [HAL.out]; rfl, O.out⟩
set_option maxHeartbeats 1600000 in
theorem wi_each_en (S : Nat → Prop) (l : List En) (v : Value) (w : World) (h : Cel w S v l.length 9 (l.flatMap enRow)) (hl : l.length ≤ 4096) :
    Calls Tryz.prog 115 #[v, .func (.func 116) #[] #[]] w fun e w' => e = .returned (.bool (l.all enOk)) ∧ Only none_ w w' := by
  obtain ⟨n, hn⟩ : ∃ n, l.length = n := ⟨_, rfl⟩
  have h0 := h
  rw [hn] at h hl
  obtain ⟨A, c, rfl, _⟩ := id h
  have HA := Lib.hid (fun (w' : World) (o : Only none_ w w') => h.only o (fun _ _ h => h))
  have HN := Lib.hid hn
  clear h h0 hn
  go_enter Tryz.func115, Tryz.ntmps115
  go_wp2_with fail
  go_loopw [9] (fun s9 wr => ∃ i : Nat, i ≤ n ∧ s9 = .int .i64 i ∧ Only none_ w wr ∧ (l.take i).all enOk = true) (fun s9 _ => n - (intOf s9).toNat)
  case atStart => exact ⟨0, by omega, rfl, Only.refl _ _, by simp⟩
  case round =>
    obtain ⟨i, hi, rfl, o, hall⟩ := hrel
    have HAL := Lib.hid hall
    have O := Lib.hid o
    clear hall
    by_cases hlt : i < n
    · have hin : i < l.length := by have := HN.out; omega
      obtain ⟨x, hx⟩ : ∃ x, l[i]? = some x := ⟨_, List.getElem?_eq_getElem hin⟩
      obtain ⟨b, off, hA, _, _, hc⟩ := in_elem enRow_length (by decide) (HA.out _ o) HN.out hx
      subst hA
      have HC : Hid (∀ j u, (#[.string x.k, .string x.v, .bool x.d, .int .i64 x.s.c, .int .i64 x.s.s, .int .i64 x.a.c, .int .i64 x.a.s, .int .i64 x.p, .int .i64 x.g] : Array Value).toList[j]? = some u → wr.cell? ⟨b, off + i * 9 + j, none⟩ = some u) := fun j u hu => hc _ (Only.refl none_ _) j u hu
      have BX := Lib.hid (Blk.new wr 85 #[.string x.k, .string x.v, .bool x.d, .int .i64 x.s.c, .int .i64 x.s.s, .int .i64 x.a.c, .int .i64 x.a.s, .int .i64 x.p, .int .i64 x.g])
      have OA := Lib.hid (o.alloc (.cells #[.string x.k, .string x.v, .bool x.d, .int .i64 x.s.c, .int .i64 x.s.s, .int .i64 x.a.c, .int .i64 x.a.s, .int .i64 x.p, .int .i64 x.g] 85))
      obtain ⟨pb, hp⟩ : ∃ pb, enOk x = pb := ⟨_, rfl⟩
      have HP := Lib.hid hp
      have HX := Lib.hid hx
      clear o hc hp hx
      cases pb
      · go_wp2_with (first
          | (refine wpl_piece rfl 85 _ rfl b (off + i * 9) rfl #[.string x.k, .string x.v, .bool x.d, .int .i64 x.s.c, .int .i64 x.s.s, .int .i64 x.a.c, .int .i64 x.a.s, .int .i64 x.p, .int .i64 x.g] _ HC.out Tryz.underlying85 rfl (by kernel_rfl) ?_)
          | (refine wpl_new rfl rfl 85 rfl _ _ rfl #[.string x.k, .string x.v, .bool x.d, .int .i64 x.s.c, .int .i64 x.s.s, .int .i64 x.a.c, .int .i64 x.a.s, .int .i64 x.p, .int .i64 x.g] rfl rfl (by kernel_rfl) (en_cells_one x) ?_)
          | (refine wpl_load rfl 85 _ rfl wr.heap.size rfl 85 #[.string x.k, .string x.v, .bool x.d, .int .i64 x.s.c, .int .i64 x.s.s, .int .i64 x.a.c, .int .i64 x.a.s, .int .i64 x.p, .int .i64 x.g] _ BX.out Tryz.underlying85 rfl (by kernel_rfl) ?_)
          | (go_at_call 116; refine (wi_entry _ _).mono ?_; rintro E w9 ⟨rfl, o9⟩; rw [HP.out]; have O9 := Lib.hid (OA.out.trans o9); clear o9))
        go_ret
        have hf : l.all enOk = false := by
          rw [Bool.eq_false_iff]
          intro ha
          have := List.all_eq_true.1 ha x (List.mem_of_getElem? HX.out)
          rw [HP.out] at this; cases this
        exact ⟨by rw [hf]; rfl, O9.out⟩
      · go_wp2_with (first
          | (refine wpl_piece rfl 85 _ rfl b (off + i * 9) rfl #[.string x.k, .string x.v, .bool x.d, .int .i64 x.s.c, .int .i64 x.s.s, .int .i64 x.a.c, .int .i64 x.a.s, .int .i64 x.p, .int .i64 x.g] _ HC.out Tryz.underlying85 rfl (by kernel_rfl) ?_)
          | (refine wpl_new rfl rfl 85 rfl _ _ rfl #[.string x.k, .string x.v, .bool x.d, .int .i64 x.s.c, .int .i64 x.s.s, .int .i64 x.a.c, .int .i64 x.a.s, .int .i64 x.p, .int .i64 x.g] rfl rfl (by kernel_rfl) (en_cells_one x) ?_)
          | (refine wpl_load rfl 85 _ rfl wr.heap.size rfl 85 #[.string x.k, .string x.v, .bool x.d, .int .i64 x.s.c, .int .i64 x.s.s, .int .i64 x.a.c, .int .i64 x.a.s, .int .i64 x.p, .int .i64 x.g] _ BX.out Tryz.underlying85 rfl (by kernel_rfl) ?_)
          | (go_at_call 116; refine (wi_entry _ _).mono ?_; rintro E w9 ⟨rfl, o9⟩; rw [HP.out]; have O9 := Lib.hid (OA.out.trans o9); clear o9))
        go_roundw
        case rel => exact ⟨i + 1, by omega, by go_num, O9.out, by
          rw [List.take_add_one, HX.out]
          simp only [Option.toList_some, List.all_append, HAL.out, List.all_cons, List.all_nil, HP.out]; rfl⟩
        case measure => simp [intOf]; omega
    · have hin : l.take i = l := List.take_of_length_le (by have := HN.out; omega)
      rw [hin] at HAL
      clear o hin
      go_wp2_with fail
      go_ret
      exact ⟨by rw [HAL.out]; rfl, O.out⟩
set_option maxHeartbeats 1600000 in
theorem wi_none0 (g : Nat) (S : Nat → Prop) (m : Ms) (vp vm ve : Value) (w : World) (h : Mb 45 g S m vp vm ve w) :
    Calls Tryz.prog 91 #[.pointer (some ⟨g, 0, none⟩)] w fun e w' => e = .returned (.bool (wNone m 0)) ∧ Only none_ w w' := by
  obtain ⟨⟨A1, c1, rfl, _⟩, ⟨A2, c2, rfl, _⟩, ⟨A3, c3, rfl, _⟩⟩ := h.ml
  have HB := Lib.hid h.bx
  have k := h.bx.cell_ (i := 1) rfl
  clear h
  go_enter Tryz.func91, Tryz.ntmps91
  go_wp2_with fail
  go_ret
  exact ⟨rfl, Only.refl _ _⟩
set_option maxHeartbeats 1600000 in
theorem wi_none1 (g : Nat) (S : Nat → Prop) (m : Ms) (vp vm ve : Value) (w : World) (h : Mb 45 g S m vp vm ve w) :
    Calls Tryz.prog 94 #[.pointer (some ⟨g, 0, none⟩)] w fun e w' => e = .returned (.bool (wNone m 1)) ∧ Only none_ w w' := by
  obtain ⟨⟨A1, c1, rfl, _⟩, ⟨A2, c2, rfl, _⟩, ⟨A3, c3, rfl, _⟩⟩ := h.ml
  have HB := Lib.hid h.bx
  have k := h.bx.cell_ (i := 2) rfl
  clear h
  go_enter Tryz.func94, Tryz.ntmps94
  go_wp2_with fail
  go_ret
  exact ⟨rfl, Only.refl _ _⟩
set_option maxHeartbeats 1600000 in
theorem wi_none2 (g : Nat) (S : Nat → Prop) (m : Ms) (vp vm ve : Value) (w : World) (h : Mb 45 g S m vp vm ve w) :
    Calls Tryz.prog 96 #[.pointer (some ⟨g, 0, none⟩)] w fun e w' => e = .returned (.bool (wNone m 2)) ∧ Only none_ w w' := by
  obtain ⟨⟨A1, c1, rfl, _⟩, ⟨A2, c2, rfl, _⟩, ⟨A3, c3, rfl, _⟩⟩ := h.ml
  have HB := Lib.hid h.bx
  have k := h.bx.cell_ (i := 3) rfl
  clear h
  obtain ⟨hb, hh⟩ : ∃ b, m.hi = b := ⟨_, rfl⟩
  have HH : Hid (wNone m 2 = !hb) := by rw [Hid, wNone, hh]
  rw [hh] at k
  clear hh
  go_enter Tryz.func96, Tryz.ntmps96
  go_wp2_with fail
  go_ret
  exact ⟨by rw [HH.out]; rfl, Only.refl _ _⟩
set_option maxHeartbeats 1600000 in
theorem wi_none3 (g : Nat) (S : Nat → Prop) (m : Ms) (vp vm ve : Value) (w : World) (h : Mb 45 g S m vp vm ve w) :
    Calls Tryz.prog 98 #[.pointer (some ⟨g, 0, none⟩)] w fun e w' => e = .returned (.bool (wNone m 3)) ∧ Only none_ w w' := by
  obtain ⟨⟨A1, c1, rfl, _⟩, ⟨A2, c2, rfl, _⟩, ⟨A3, c3, rfl, _⟩⟩ := h.ml
  have HB := Lib.hid h.bx
  have k := h.bx.cell_ (i := 4) rfl
  clear h
  go_enter Tryz.func98, Tryz.ntmps98
  go_wp2_with fail
  go_ret
  exact ⟨rfl, Only.refl _ _⟩
set_option maxHeartbeats 1600000 in
theorem wi_none4 (g : Nat) (S : Nat → Prop) (m : Ms) (vp vm ve : Value) (w : World) (h : Mb 45 g S m vp vm ve w) :
    Calls Tryz.prog 101 #[.pointer (some ⟨g, 0, none⟩)] w fun e w' => e = .returned (.bool (wNone m 4)) ∧ Only none_ w w' := by
  obtain ⟨⟨A1, c1, rfl, _⟩, ⟨A2, c2, rfl, _⟩, ⟨A3, c3, rfl, _⟩⟩ := h.ml
  have HB := Lib.hid h.bx
  have k := h.bx.cell_ (i := 5) rfl
  clear h
  go_enter Tryz.func101, Tryz.ntmps101
  go_wp2_with fail
  go_ret
  exact ⟨rfl, Only.refl _ _⟩
set_option maxHeartbeats 1600000 in
theorem wi_none5 (g : Nat) (S : Nat → Prop) (m : Ms) (vp vm ve : Value) (w : World) (h : Mb 45 g S m vp vm ve w) :
    Calls Tryz.prog 103 #[.pointer (some ⟨g, 0, none⟩)] w fun e w' => e = .returned (.bool (wNone m 5)) ∧ Only none_ w w' := by
  obtain ⟨⟨A1, c1, rfl, _⟩, ⟨A2, c2, rfl, _⟩, ⟨A3, c3, rfl, _⟩⟩ := h.ml
  have HB := Lib.hid h.bx
  have k := h.bx.cell_ (i := 6) rfl
  clear h
  go_enter Tryz.func103, Tryz.ntmps103
  go_wp2_with fail
  go_ret
  exact ⟨rfl, Only.refl _ _⟩
set_option maxHeartbeats 1600000 in
theorem wi_none6 (g : Nat) (S : Nat → Prop) (m : Ms) (vp vm ve : Value) (w : World) (h : Mb 45 g S m vp vm ve w) :
    Calls Tryz.prog 105 #[.pointer (some ⟨g, 0, none⟩)] w fun e w' => e = .returned (.bool (wNone m 6)) ∧ Only none_ w w' := by
  obtain ⟨⟨A1, c1, rfl, _⟩, ⟨A2, c2, rfl, _⟩, ⟨A3, c3, rfl, _⟩⟩ := h.ml
  have HB := Lib.hid h.bx
  have k7 := h.bx.cell_ (i := 7) rfl
  have k8 := h.bx.cell_ (i := 8) rfl
  have k9 := h.bx.cell_ (i := 9) rfl
  clear h
  go_enter Tryz.func105, Tryz.ntmps105
  go_wp2_with (first | (go_at_call 106; refine (wi_top m.mr _).mono ?_; rintro E w9 ⟨rfl, o9⟩; have O9 := Lib.hid o9; clear o9))
  go_ret
  exact ⟨rfl, O9.out⟩
set_option maxHeartbeats 1600000 in
theorem wi_none7 (g : Nat) (S : Nat → Prop) (m : Ms) (vp vm ve : Value) (w : World) (h : Mb 45 g S m vp vm ve w) :
    Calls Tryz.prog 109 #[.pointer (some ⟨g, 0, none⟩)] w fun e w' => e = .returned (.bool (wNone m 7)) ∧ Only none_ w w' := by
  obtain ⟨⟨A1, c1, rfl, _⟩, ⟨A2, c2, rfl, _⟩, ⟨A3, c3, rfl, _⟩⟩ := h.ml
  have HB := Lib.hid h.bx
  have k := h.bx.cell_ (i := 10) rfl
  clear h
  go_enter Tryz.func109, Tryz.ntmps109
  go_wp2_with fail
  go_ret
  exact ⟨rfl, Only.refl _ _⟩
set_option maxHeartbeats 1600000 in
theorem wi_none8 (g : Nat) (S : Nat → Prop) (m : Ms) (vp vm ve : Value) (w : World) (h : Mb 45 g S m vp vm ve w) :
    Calls Tryz.prog 113 #[.pointer (some ⟨g, 0, none⟩)] w fun e w' => e = .returned (.bool (wNone m 8)) ∧ Only none_ w w' := by
  obtain ⟨⟨A1, c1, rfl, _⟩, ⟨A2, c2, rfl, _⟩, ⟨A3, c3, rfl, _⟩⟩ := h.ml
  have HB := Lib.hid h.bx
  have k := h.bx.cell_ (i := 11) rfl
  clear h
  go_enter Tryz.func113, Tryz.ntmps113
  go_wp2_with fail
  go_ret
  exact ⟨rfl, Only.refl _ _⟩
set_option maxHeartbeats 1600000 in
theorem wi_may0 (g : Nat) (S : Nat → Prop) (m : Ms) (vp vm ve : Value) (nm : ByteArray) (fl lo up : Int) (w : World) (h : Mb 45 g S m vp vm ve w) (hl : m.ps.length ≤ 4096 ∧ m.ms.length ≤ 4096 ∧ m.es.length ≤ 4096) :
    Calls Tryz.prog 92 #[.pointer (some ⟨g, 0, none⟩), .agg #[.string nm, .int .i64 fl, .int .i64 lo, .int .i64 up]] w fun e w' => e = .returned (.bool (wMay m lo up 0)) ∧ Only none_ w w' := by
  have O := Lib.hid ((Only.refl none_ w).alloc (.cells #[.string nm, .int .i64 fl, .int .i64 lo, .int .i64 up] 77))
  have HB := Lib.hid (h.bx.alloc (.cells #[.string nm, .int .i64 fl, .int .i64 lo, .int .i64 up] 77))
  have NB := Lib.hid (Blk.new w 77 #[.string nm, .int .i64 fl, .int .i64 lo, .int .i64 up])
  have k := HB.out.cell_ (i := 1) rfl
  clear h
  go_enter Tryz.func92, Tryz.ntmps92
  go_wp2_with (first | (go_at_call 93; refine (wi_node _ _).mono ?_; rintro E w9 ⟨rfl, rfl⟩))
  go_ret
  exact ⟨rfl, O.out⟩
set_option maxHeartbeats 1600000 in
theorem wi_may1 (g : Nat) (S : Nat → Prop) (m : Ms) (vp vm ve : Value) (nm : ByteArray) (fl lo up : Int) (w : World) (h : Mb 45 g S m vp vm ve w) (hl : m.ps.length ≤ 4096 ∧ m.ms.length ≤ 4096 ∧ m.es.length ≤ 4096) :
    Calls Tryz.prog 95 #[.pointer (some ⟨g, 0, none⟩), .agg #[.string nm, .int .i64 fl, .int .i64 lo, .int .i64 up]] w fun e w' => e = .returned (.bool (wMay m lo up 1)) ∧ Only none_ w w' := by
  have O := Lib.hid ((Only.refl none_ w).alloc (.cells #[.string nm, .int .i64 fl, .int .i64 lo, .int .i64 up] 77))
  have HB := Lib.hid (h.bx.alloc (.cells #[.string nm, .int .i64 fl, .int .i64 lo, .int .i64 up] 77))
  have NB := Lib.hid (Blk.new w 77 #[.string nm, .int .i64 fl, .int .i64 lo, .int .i64 up])
  have k := HB.out.cell_ (i := 2) rfl
  have HM : Hid (wMay m lo up 1 = (decide (0 ≤ m.hp) && decide (m.hp ≤ 8))) := rfl
  clear h
  by_cases h0 : 0 ≤ m.hp
  · have HM2 : Hid (wMay m lo up 1 = decide (m.hp ≤ 8)) := by rw [Hid, HM.out]; simp [h0]
    clear HM
    go_enter Tryz.func95, Tryz.ntmps95
    go_wp2_with fail
    go_ret
    exact ⟨by rw [HM2.out]; rfl, O.out⟩
  · have HM2 : Hid (wMay m lo up 1 = false) := by rw [Hid, HM.out]; simp [h0]
    clear HM
    go_enter Tryz.func95, Tryz.ntmps95
    go_wp2_with fail
    go_ret
    exact ⟨by rw [HM2.out]; rfl, O.out⟩
set_option maxHeartbeats 1600000 in
theorem wi_may2 (g : Nat) (S : Nat → Prop) (m : Ms) (vp vm ve : Value) (nm : ByteArray) (fl lo up : Int) (w : World) (h : Mb 45 g S m vp vm ve w) (hl : m.ps.length ≤ 4096 ∧ m.ms.length ≤ 4096 ∧ m.es.length ≤ 4096) :
    Calls Tryz.prog 97 #[.pointer (some ⟨g, 0, none⟩), .agg #[.string nm, .int .i64 fl, .int .i64 lo, .int .i64 up]] w fun e w' => e = .returned (.bool (wMay m lo up 2)) ∧ Only none_ w w' := by
  have O := Lib.hid ((Only.refl none_ w).alloc (.cells #[.string nm, .int .i64 fl, .int .i64 lo, .int .i64 up] 77))
  have HB := Lib.hid (h.bx.alloc (.cells #[.string nm, .int .i64 fl, .int .i64 lo, .int .i64 up] 77))
  have NB := Lib.hid (Blk.new w 77 #[.string nm, .int .i64 fl, .int .i64 lo, .int .i64 up])
  clear h
  go_enter Tryz.func97, Tryz.ntmps97
  go_wp2_with fail
  go_ret
  exact ⟨rfl, O.out⟩
set_option maxHeartbeats 1600000 in
theorem wi_may3 (g : Nat) (S : Nat → Prop) (m : Ms) (vp vm ve : Value) (nm : ByteArray) (fl lo up : Int) (w : World) (h : Mb 45 g S m vp vm ve w) (hl : m.ps.length ≤ 4096 ∧ m.ms.length ≤ 4096 ∧ m.es.length ≤ 4096) :
    Calls Tryz.prog 99 #[.pointer (some ⟨g, 0, none⟩), .agg #[.string nm, .int .i64 fl, .int .i64 lo, .int .i64 up]] w fun e w' => e = .returned (.bool (wMay m lo up 3)) ∧ Only none_ w w' := by
  have O := Lib.hid ((Only.refl none_ w).alloc (.cells #[.string nm, .int .i64 fl, .int .i64 lo, .int .i64 up] 77))
  have HB := Lib.hid (h.bx.alloc (.cells #[.string nm, .int .i64 fl, .int .i64 lo, .int .i64 up] 77))
  have NB := Lib.hid (Blk.new w 77 #[.string nm, .int .i64 fl, .int .i64 lo, .int .i64 up])
  have HL := Lib.hid h.ml
  obtain ⟨⟨A1, c1, e1, _⟩, ⟨A2, c2, e2, _⟩, ⟨A3, c3, e3, _⟩⟩ := h.ml
  subst e1 e2 e3
  have k := HB.out.cell_ (i := 4) rfl
  have HM : Hid (wMay m lo up 3 = (decide ((m.ps.length : Int) ≤ 8) && m.ps.all nodeB)) := rfl
  have HE := Lib.hid (wi_each_int S m.ps (.slice A1 m.ps.length c1) _ (HL.out.p.only O.out (fun _ _ h => h)) hl.1)
  obtain ⟨n, hn⟩ : ∃ n, m.ps.length = n := ⟨_, rfl⟩
  obtain ⟨pb, hp⟩ : ∃ b, m.ps.all nodeB = b := ⟨_, rfl⟩
  rw [hn] at k HE HM
  rw [hp] at HM HE
  clear h hn hp hl
  by_cases h0 : (n : Int) ≤ 8
  · have HM2 : Hid (wMay m lo up 3 = pb) := by rw [Hid, HM.out]; simp [h0]
    clear HM
    go_enter Tryz.func99, Tryz.ntmps99
    go_wp2_with (first | (go_at_call 100; refine HE.out.mono ?_; rintro E w9 ⟨rfl, o9⟩; have O9 := Lib.hid (O.out.trans o9); clear o9))
    go_ret
    exact ⟨by rw [HM2.out]; rfl, O9.out⟩
  · have HM2 : Hid (wMay m lo up 3 = false) := by rw [Hid, HM.out]; simp [h0]
    clear HM
    go_enter Tryz.func99, Tryz.ntmps99
    go_wp2_with fail
    go_ret
    exact ⟨by rw [HM2.out]; rfl, O.out⟩
set_option maxHeartbeats 1600000 in
theorem wi_may4 (g : Nat) (S : Nat → Prop) (m : Ms) (vp vm ve : Value) (nm : ByteArray) (fl lo up : Int) (w : World) (h : Mb 45 g S m vp vm ve w) (hl : m.ps.length ≤ 4096 ∧ m.ms.length ≤ 4096 ∧ m.es.length ≤ 4096) :
    Calls Tryz.prog 102 #[.pointer (some ⟨g, 0, none⟩), .agg #[.string nm, .int .i64 fl, .int .i64 lo, .int .i64 up]] w fun e w' => e = .returned (.bool (wMay m lo up 4)) ∧ Only none_ w w' := by
  have O := Lib.hid ((Only.refl none_ w).alloc (.cells #[.string nm, .int .i64 fl, .int .i64 lo, .int .i64 up] 77))
  have HB := Lib.hid (h.bx.alloc (.cells #[.string nm, .int .i64 fl, .int .i64 lo, .int .i64 up] 77))
  have NB := Lib.hid (Blk.new w 77 #[.string nm, .int .i64 fl, .int .i64 lo, .int .i64 up])
  have k := HB.out.cell_ (i := 5) rfl
  have HM : Hid (wMay m lo up 4 = (decide (0 ≤ m.nu) && decide (m.nu ≤ 4294967295))) := rfl
  clear h
  by_cases h0 : 0 ≤ m.nu
  · have HM2 : Hid (wMay m lo up 4 = decide (m.nu ≤ 4294967295)) := by rw [Hid, HM.out]; simp [h0]
    clear HM
    go_enter Tryz.func102, Tryz.ntmps102
    go_wp2_with fail
    go_ret
    exact ⟨by rw [HM2.out]; rfl, O.out⟩
  · have HM2 : Hid (wMay m lo up 4 = false) := by rw [Hid, HM.out]; simp [h0]
    clear HM
    go_enter Tryz.func102, Tryz.ntmps102
    go_wp2_with fail
    go_ret
    exact ⟨by rw [HM2.out]; rfl, O.out⟩
set_option maxHeartbeats 1600000 in
theorem wi_may5 (g : Nat) (S : Nat → Prop) (m : Ms) (vp vm ve : Value) (nm : ByteArray) (fl lo up : Int) (w : World) (h : Mb 45 g S m vp vm ve w) (hl : m.ps.length ≤ 4096 ∧ m.ms.length ≤ 4096 ∧ m.es.length ≤ 4096) :
    Calls Tryz.prog 104 #[.pointer (some ⟨g, 0, none⟩), .agg #[.string nm, .int .i64 fl, .int .i64 lo, .int .i64 up]] w fun e w' => e = .returned (.bool (wMay m lo up 5)) ∧ Only none_ w w' := by
  have O := Lib.hid ((Only.refl none_ w).alloc (.cells #[.string nm, .int .i64 fl, .int .i64 lo, .int .i64 up] 77))
  have HB := Lib.hid (h.bx.alloc (.cells #[.string nm, .int .i64 fl, .int .i64 lo, .int .i64 up] 77))
  have NB := Lib.hid (Blk.new w 77 #[.string nm, .int .i64 fl, .int .i64 lo, .int .i64 up])
  clear h
  go_enter Tryz.func104, Tryz.ntmps104
  go_wp2_with fail
  go_ret
  exact ⟨rfl, O.out⟩
set_option maxHeartbeats 1600000 in
theorem wi_may6 (g : Nat) (S : Nat → Prop) (m : Ms) (vp vm ve : Value) (nm : ByteArray) (fl lo up : Int) (w : World) (h : Mb 45 g S m vp vm ve w) (hl : m.ps.length ≤ 4096 ∧ m.ms.length ≤ 4096 ∧ m.es.length ≤ 4096) :
    Calls Tryz.prog 107 #[.pointer (some ⟨g, 0, none⟩), .agg #[.string nm, .int .i64 fl, .int .i64 lo, .int .i64 up]] w fun e w' => e = .returned (.bool (wMay m lo up 6)) ∧ Only none_ w w' := by
  have O := Lib.hid ((Only.refl none_ w).alloc (.cells #[.string nm, .int .i64 fl, .int .i64 lo, .int .i64 up] 77))
  have HB := Lib.hid (h.bx.alloc (.cells #[.string nm, .int .i64 fl, .int .i64 lo, .int .i64 up] 77))
  have NB := Lib.hid (Blk.new w 77 #[.string nm, .int .i64 fl, .int .i64 lo, .int .i64 up])
  have k7 := HB.out.cell_ (i := 7) rfl
  have k8 := HB.out.cell_ (i := 8) rfl
  have k9 := HB.out.cell_ (i := 9) rfl
  have HM : Hid (wMay m lo up 6 = (isTop m.mr || mkGood m.mr)) := rfl
  obtain ⟨tb, ht⟩ : ∃ b, isTop m.mr = b := ⟨_, rfl⟩
  have HT := Lib.hid ht
  rw [ht] at HM
  clear h ht hl
  cases tb
  · have HM2 : Hid (wMay m lo up 6 = mkGood m.mr) := by rw [Hid, HM.out]; simp
    clear HM
    go_enter Tryz.func107, Tryz.ntmps107
    go_wp2_with (first
      | (go_at_call 106; refine (wi_top m.mr _).mono ?_; rintro E w9 ⟨rfl, o9⟩; rw [HT.out]; have O9 := Lib.hid (O.out.trans o9)
         have b9 := HB.out.only o9 (fun h => h)
         have j7 := b9.cell_ (i := 7) rfl
         have j8 := b9.cell_ (i := 8) rfl
         have j9 := b9.cell_ (i := 9) rfl
         clear o9 b9)
      | (go_at_call 108; refine (wi_mark m.mr _).mono ?_; rintro E w8 ⟨rfl, o8⟩; have O8 := Lib.hid (O9.out.trans o8); clear o8))
    go_ret
    exact ⟨by rw [HM2.out]; rfl, O8.out⟩
  · have HM2 : Hid (wMay m lo up 6 = true) := by rw [Hid, HM.out]; simp
    clear HM
    go_enter Tryz.func107, Tryz.ntmps107
    go_wp2_with (first
      | (go_at_call 106; refine (wi_top m.mr _).mono ?_; rintro E w9 ⟨rfl, o9⟩; rw [HT.out]; have O9 := Lib.hid (O.out.trans o9); clear o9))
    go_ret
    exact ⟨by rw [HM2.out]; rfl, O9.out⟩
set_option maxHeartbeats 1600000 in
theorem wi_may7 (g : Nat) (S : Nat → Prop) (m : Ms) (vp vm ve : Value) (nm : ByteArray) (fl lo up : Int) (w : World) (h : Mb 45 g S m vp vm ve w) (hl : m.ps.length ≤ 4096 ∧ m.ms.length ≤ 4096 ∧ m.es.length ≤ 4096) :
    Calls Tryz.prog 110 #[.pointer (some ⟨g, 0, none⟩), .agg #[.string nm, .int .i64 fl, .int .i64 lo, .int .i64 up]] w fun e w' => e = .returned (.bool (wMay m lo up 7)) ∧ Only none_ w w' := by
  have O := Lib.hid ((Only.refl none_ w).alloc (.cells #[.string nm, .int .i64 fl, .int .i64 lo, .int .i64 up] 77))
  have HB := Lib.hid (h.bx.alloc (.cells #[.string nm, .int .i64 fl, .int .i64 lo, .int .i64 up] 77))
  have NB := Lib.hid (Blk.new w 77 #[.string nm, .int .i64 fl, .int .i64 lo, .int .i64 up])
  have HL := Lib.hid h.ml
  obtain ⟨⟨A1, c1, e1, _⟩, ⟨A2, c2, e2, _⟩, ⟨A3, c3, e3, _⟩⟩ := h.ml
  subst e1 e2 e3
  have HM : Hid (wMay m lo up 7 = (manyB lo up m.ms.length && m.ms.all mkGood)) := rfl
  have HE : Hid (∀ w', Only none_ w w' → _) := fun w' o => wi_each_mk S m.ms (.slice A2 m.ms.length c2) w' (HL.out.q.only o (fun _ _ h => h)) hl.2.1
  obtain ⟨n, hn⟩ : ∃ n, m.ms.length = n := ⟨_, rfl⟩
  obtain ⟨pb, hp⟩ : ∃ b, m.ms.all mkGood = b := ⟨_, rfl⟩
  obtain ⟨mb, hm⟩ : ∃ b, manyB lo up n = b := ⟨_, rfl⟩
  have HY := Lib.hid hm
  rw [hn] at HB HE HM
  rw [hp] at HM HE
  rw [hm] at HM
  obtain ⟨w1, hw1⟩ : ∃ w1, w.alloc (.cells #[.string nm, .int .i64 fl, .int .i64 lo, .int .i64 up] 77) = w1 := ⟨_, rfl⟩
  obtain ⟨b0, hb0⟩ : ∃ b0, w.heap.size = b0 := ⟨_, rfl⟩
  have HW1 := Lib.hid hw1
  have HB0 := Lib.hid hb0
  rw [hw1] at O HB NB
  rw [hb0] at NB
  clear h hn hp hl hm HL hw1 hb0
  cases mb
  · have HM2 : Hid (wMay m lo up 7 = false) := by rw [Hid, HM.out]; simp
    clear HM
    go_enter Tryz.func110, Tryz.ntmps110
    go_wp2_with fail
    rw [HW1.out, HB0.out]
    (refine wp_region_free (fun w' => Only none_ w1 w') (Only none_) (F := ?_) (by kernel_rfl) 19 (by rfl) (by kernel_rfl) (fun x => ?_) ((Only.refl none_ w1).drew) ?_; rotate_left; (· (simp only [putsL, Act.put, List.setIfInBounds_toArray, List.set_cons_zero, List.set_cons_succ, Nat.reduceAdd]; exact rfl)))
    repeat (first
      | ((first | refine fr_skip (by rfl) (by rfl) (by rfl) (fun w => Only.refl none_ w) ?_ | refine fr_skip_too (by rfl) (by rfl) (by rfl) (fun w => Only.refl none_ w) ?_); try simp only [List.nil_append, List.cons_append])
      | ((first | refine fr_some (fun v _ => v = .bool false) (fun _ _ _ _ _ _ h => h) (by rfl) (fun x w0 hS hk => ?_) ?_ | refine fr_some_if (fun v _ => v = .bool false) (fun _ _ _ _ _ _ h => h) (by rfl) (by rfl) (by rfl) (fun x w0 hS hk => ?_) ?_); (· (have hk2 := hk; (try simp [knAll, Region.binds] at hk2); skip; refine got_call (f := 111) (args := ?_) (by go_simp; try (with_reducible rfl)) ?_; refine (wi_many nm fl lo up n _).mono ?_; rintro E w8 ⟨rfl, o8⟩; exact ⟨_, rfl, by rw [HY.out], hS.trans o8, o8⟩)); try simp only [List.nil_append, List.cons_append])
      | ((first | refine fr_some (fun v _ => v = .bool pb) (fun _ _ _ _ _ _ h => h) (by rfl) (fun x w0 hS hk => ?_) ?_ | refine fr_some_if (fun v _ => v = .bool pb) (fun _ _ _ _ _ _ h => h) (by rfl) (by rfl) (by rfl) (fun x w0 hS hk => ?_) ?_); (· (have hk2 := hk; (try simp [knAll, Region.binds] at hk2); skip; refine got_call (f := 112) (args := ?_) (by go_simp; try (with_reducible rfl)) ?_; refine (HE.out _ (O.out.trans hS)).mono ?_; rintro E w8 ⟨rfl, o8⟩; exact ⟨_, rfl, rfl, hS.trans o8, o8⟩)); try simp only [List.nil_append, List.cons_append])
      | ((first | refine fr_value (c := ?_) (by rfl) (fun w => Only.refl none_ w) (fun x w0 hS hk => ?_) ?_ | refine fr_value_if (c := ?_) (by rfl) (by rfl) (by rfl) (fun w => Only.refl none_ w) (fun x w0 hS hk => ?_) ?_); rotate_left; (· (have hk2 := hk; (try simp [knAll, Region.binds] at hk2); have y := NB.out.only hS (fun h => h); have y0 := y.cell_ (i := 0) rfl; have y1 := y.cell_ (i := 1) rfl; have y2 := y.cell_ (i := 2) rfl; have y3 := y.cell_ (i := 3) rfl; have x9 := HB.out.only hS (fun h => h); have x1 := x9.cell_ (i := 10) rfl; go_simp; try (with_reducible rfl))); try simp only [List.nil_append, List.cons_append]))
    (refine fr_end ?_; intro x w9 hS hk)
    have z := kn_end_at 14 hk (by rfl)
    rw [Nat.zero_add] at z
    clear hk
    rw [z]
    go_wp2_with fail
    go_ret
    exact ⟨by rw [HM2.out]; rfl, O.out.trans hS⟩
  · have HM2 : Hid (wMay m lo up 7 = pb) := by rw [Hid, HM.out]; simp
    clear HM
    go_enter Tryz.func110, Tryz.ntmps110
    go_wp2_with fail
    rw [HW1.out, HB0.out]
    (refine wp_region_free (fun w' => Only none_ w1 w') (Only none_) (F := ?_) (by kernel_rfl) 19 (by rfl) (by kernel_rfl) (fun x => ?_) ((Only.refl none_ w1).drew) ?_; rotate_left; (· (simp only [putsL, Act.put, List.setIfInBounds_toArray, List.set_cons_zero, List.set_cons_succ, Nat.reduceAdd]; exact rfl)))
    repeat (first
      | ((first | refine fr_skip (by rfl) (by rfl) (by rfl) (fun w => Only.refl none_ w) ?_ | refine fr_skip_too (by rfl) (by rfl) (by rfl) (fun w => Only.refl none_ w) ?_); try simp only [List.nil_append, List.cons_append])
      | ((first | refine fr_some (fun v _ => v = .bool true) (fun _ _ _ _ _ _ h => h) (by rfl) (fun x w0 hS hk => ?_) ?_ | refine fr_some_if (fun v _ => v = .bool true) (fun _ _ _ _ _ _ h => h) (by rfl) (by rfl) (by rfl) (fun x w0 hS hk => ?_) ?_); (· (have hk2 := hk; (try simp [knAll, Region.binds] at hk2); skip; refine got_call (f := 111) (args := ?_) (by go_simp; try (with_reducible rfl)) ?_; refine (wi_many nm fl lo up n _).mono ?_; rintro E w8 ⟨rfl, o8⟩; exact ⟨_, rfl, by rw [HY.out], hS.trans o8, o8⟩)); try simp only [List.nil_append, List.cons_append])
      | ((first | refine fr_some (fun v _ => v = .bool pb) (fun _ _ _ _ _ _ h => h) (by rfl) (fun x w0 hS hk => ?_) ?_ | refine fr_some_if (fun v _ => v = .bool pb) (fun _ _ _ _ _ _ h => h) (by rfl) (by rfl) (by rfl) (fun x w0 hS hk => ?_) ?_); (· (have hk2 := hk; (try simp [knAll, Region.binds] at hk2); skip; refine got_call (f := 112) (args := ?_) (by go_simp; try (with_reducible rfl)) ?_; refine (HE.out _ (O.out.trans hS)).mono ?_; rintro E w8 ⟨rfl, o8⟩; exact ⟨_, rfl, rfl, hS.trans o8, o8⟩)); try simp only [List.nil_append, List.cons_append])
      | ((first | refine fr_value (c := ?_) (by rfl) (fun w => Only.refl none_ w) (fun x w0 hS hk => ?_) ?_ | refine fr_value_if (c := ?_) (by rfl) (by rfl) (by rfl) (fun w => Only.refl none_ w) (fun x w0 hS hk => ?_) ?_); rotate_left; (· (have hk2 := hk; (try simp [knAll, Region.binds] at hk2); have y := NB.out.only hS (fun h => h); have y0 := y.cell_ (i := 0) rfl; have y1 := y.cell_ (i := 1) rfl; have y2 := y.cell_ (i := 2) rfl; have y3 := y.cell_ (i := 3) rfl; have x9 := HB.out.only hS (fun h => h); have x1 := x9.cell_ (i := 10) rfl; go_simp; try (with_reducible rfl))); try simp only [List.nil_append, List.cons_append]))
    (refine fr_end ?_; intro x w9 hS hk)
    have z := kn_end_at 14 hk (by rfl)
    rw [Nat.zero_add] at z
    clear hk
    rw [z]
    go_wp2_with fail
    go_ret
    exact ⟨by rw [HM2.out]; rfl, O.out.trans hS⟩
set_option maxHeartbeats 1600000 in
theorem wi_may8 (g : Nat) (S : Nat → Prop) (m : Ms) (vp vm ve : Value) (nm : ByteArray) (fl lo up : Int) (w : World) (h : Mb 45 g S m vp vm ve w) (hl : m.ps.length ≤ 4096 ∧ m.ms.length ≤ 4096 ∧ m.es.length ≤ 4096) :
    Calls Tryz.prog 114 #[.pointer (some ⟨g, 0, none⟩), .agg #[.string nm, .int .i64 fl, .int .i64 lo, .int .i64 up]] w fun e w' => e = .returned (.bool (wMay m lo up 8)) ∧ Only none_ w w' := by
  have O := Lib.hid ((Only.refl none_ w).alloc (.cells #[.string nm, .int .i64 fl, .int .i64 lo, .int .i64 up] 77))
  have HB := Lib.hid (h.bx.alloc (.cells #[.string nm, .int .i64 fl, .int .i64 lo, .int .i64 up] 77))
  have NB := Lib.hid (Blk.new w 77 #[.string nm, .int .i64 fl, .int .i64 lo, .int .i64 up])
  have HL := Lib.hid h.ml
  obtain ⟨⟨A1, c1, e1, _⟩, ⟨A2, c2, e2, _⟩, ⟨A3, c3, e3, _⟩⟩ := h.ml
  subst e1 e2 e3
  have HM : Hid (wMay m lo up 8 = (manyB lo up m.es.length && m.es.all enOk)) := rfl
  have HE : Hid (∀ w', Only none_ w w' → _) := fun w' o => wi_each_en S m.es (.slice A3 m.es.length c3) w' (HL.out.r.only o (fun _ _ h => h)) hl.2.2
  obtain ⟨n, hn⟩ : ∃ n, m.es.length = n := ⟨_, rfl⟩
  obtain ⟨pb, hp⟩ : ∃ b, m.es.all enOk = b := ⟨_, rfl⟩
  obtain ⟨mb, hm⟩ : ∃ b, manyB lo up n = b := ⟨_, rfl⟩
  have HY := Lib.hid hm
  rw [hn] at HB HE HM
  rw [hp] at HM HE
  rw [hm] at HM
  obtain ⟨w1, hw1⟩ : ∃ w1, w.alloc (.cells #[.string nm, .int .i64 fl, .int .i64 lo, .int .i64 up] 77) = w1 := ⟨_, rfl⟩
  obtain ⟨b0, hb0⟩ : ∃ b0, w.heap.size = b0 := ⟨_, rfl⟩
  have HW1 := Lib.hid hw1
  have HB0 := Lib.hid hb0
  rw [hw1] at O HB NB
  rw [hb0] at NB
  clear h hn hp hl hm HL hw1 hb0
  cases mb
  · have HM2 : Hid (wMay m lo up 8 = false) := by rw [Hid, HM.out]; simp
    clear HM
    go_enter Tryz.func114, Tryz.ntmps114
    go_wp2_with fail
    rw [HW1.out, HB0.out]
    (refine wp_region_free (fun w' => Only none_ w1 w') (Only none_) (F := ?_) (by kernel_rfl) 19 (by rfl) (by kernel_rfl) (fun x => ?_) ((Only.refl none_ w1).drew) ?_; rotate_left; (· (simp only [putsL, Act.put, List.setIfInBounds_toArray, List.set_cons_zero, List.set_cons_succ, Nat.reduceAdd]; exact rfl)))
    repeat (first
      | ((first | refine fr_skip (by rfl) (by rfl) (by rfl) (fun w => Only.refl none_ w) ?_ | refine fr_skip_too (by rfl) (by rfl) (by rfl) (fun w => Only.refl none_ w) ?_); try simp only [List.nil_append, List.cons_append])
      | ((first | refine fr_some (fun v _ => v = .bool false) (fun _ _ _ _ _ _ h => h) (by rfl) (fun x w0 hS hk => ?_) ?_ | refine fr_some_if (fun v _ => v = .bool false) (fun _ _ _ _ _ _ h => h) (by rfl) (by rfl) (by rfl) (fun x w0 hS hk => ?_) ?_); (· (have hk2 := hk; (try simp [knAll, Region.binds] at hk2); skip; refine got_call (f := 111) (args := ?_) (by go_simp; try (with_reducible rfl)) ?_; refine (wi_many nm fl lo up n _).mono ?_; rintro E w8 ⟨rfl, o8⟩; exact ⟨_, rfl, by rw [HY.out], hS.trans o8, o8⟩)); try simp only [List.nil_append, List.cons_append])
      | ((first | refine fr_some (fun v _ => v = .bool pb) (fun _ _ _ _ _ _ h => h) (by rfl) (fun x w0 hS hk => ?_) ?_ | refine fr_some_if (fun v _ => v = .bool pb) (fun _ _ _ _ _ _ h => h) (by rfl) (by rfl) (by rfl) (fun x w0 hS hk => ?_) ?_); (· (have hk2 := hk; (try simp [knAll, Region.binds] at hk2); skip; refine got_call (f := 115) (args := ?_) (by go_simp; try (with_reducible rfl)) ?_; refine (HE.out _ (O.out.trans hS)).mono ?_; rintro E w8 ⟨rfl, o8⟩; exact ⟨_, rfl, rfl, hS.trans o8, o8⟩)); try simp only [List.nil_append, List.cons_append])
      | ((first | refine fr_value (c := ?_) (by rfl) (fun w => Only.refl none_ w) (fun x w0 hS hk => ?_) ?_ | refine fr_value_if (c := ?_) (by rfl) (by rfl) (by rfl) (fun w => Only.refl none_ w) (fun x w0 hS hk => ?_) ?_); rotate_left; (· (have hk2 := hk; (try simp [knAll, Region.binds] at hk2); have y := NB.out.only hS (fun h => h); have y0 := y.cell_ (i := 0) rfl; have y1 := y.cell_ (i := 1) rfl; have y2 := y.cell_ (i := 2) rfl; have y3 := y.cell_ (i := 3) rfl; have x9 := HB.out.only hS (fun h => h); have x1 := x9.cell_ (i := 11) rfl; go_simp; try (with_reducible rfl))); try simp only [List.nil_append, List.cons_append]))
    (refine fr_end ?_; intro x w9 hS hk)
    have z := kn_end_at 14 hk (by rfl)
    rw [Nat.zero_add] at z
    clear hk
    rw [z]
    go_wp2_with fail
    go_ret
    exact ⟨by rw [HM2.out]; rfl, O.out.trans hS⟩
  · have HM2 : Hid (wMay m lo up 8 = pb) := by rw [Hid, HM.out]; simp
    clear HM
    go_enter Tryz.func114, Tryz.ntmps114
    go_wp2_with fail
    rw [HW1.out, HB0.out]
    (refine wp_region_free (fun w' => Only none_ w1 w') (Only none_) (F := ?_) (by kernel_rfl) 19 (by rfl) (by kernel_rfl) (fun x => ?_) ((Only.refl none_ w1).drew) ?_; rotate_left; (· (simp only [putsL, Act.put, List.setIfInBounds_toArray, List.set_cons_zero, List.set_cons_succ, Nat.reduceAdd]; exact rfl)))
    repeat (first
      | ((first | refine fr_skip (by rfl) (by rfl) (by rfl) (fun w => Only.refl none_ w) ?_ | refine fr_skip_too (by rfl) (by rfl) (by rfl) (fun w => Only.refl none_ w) ?_); try simp only [List.nil_append, List.cons_append])
      | ((first | refine fr_some (fun v _ => v = .bool true) (fun _ _ _ _ _ _ h => h) (by rfl) (fun x w0 hS hk => ?_) ?_ | refine fr_some_if (fun v _ => v = .bool true) (fun _ _ _ _ _ _ h => h) (by rfl) (by rfl) (by rfl) (fun x w0 hS hk => ?_) ?_); (· (have hk2 := hk; (try simp [knAll, Region.binds] at hk2); skip; refine got_call (f := 111) (args := ?_) (by go_simp; try (with_reducible rfl)) ?_; refine (wi_many nm fl lo up n _).mono ?_; rintro E w8 ⟨rfl, o8⟩; exact ⟨_, rfl, by rw [HY.out], hS.trans o8, o8⟩)); try simp only [List.nil_append, List.cons_append])
      | ((first | refine fr_some (fun v _ => v = .bool pb) (fun _ _ _ _ _ _ h => h) (by rfl) (fun x w0 hS hk => ?_) ?_ | refine fr_some_if (fun v _ => v = .bool pb) (fun _ _ _ _ _ _ h => h) (by rfl) (by rfl) (by rfl) (fun x w0 hS hk => ?_) ?_); (· (have hk2 := hk; (try simp [knAll, Region.binds] at hk2); skip; refine got_call (f := 115) (args := ?_) (by go_simp; try (with_reducible rfl)) ?_; refine (HE.out _ (O.out.trans hS)).mono ?_; rintro E w8 ⟨rfl, o8⟩; exact ⟨_, rfl, rfl, hS.trans o8, o8⟩)); try simp only [List.nil_append, List.cons_append])
      | ((first | refine fr_value (c := ?_) (by rfl) (fun w => Only.refl none_ w) (fun x w0 hS hk => ?_) ?_ | refine fr_value_if (c := ?_) (by rfl) (by rfl) (by rfl) (fun w => Only.refl none_ w) (fun x w0 hS hk => ?_) ?_); rotate_left; (· (have hk2 := hk; (try simp [knAll, Region.binds] at hk2); have y := NB.out.only hS (fun h => h); have y0 := y.cell_ (i := 0) rfl; have y1 := y.cell_ (i := 1) rfl; have y2 := y.cell_ (i := 2) rfl; have y3 := y.cell_ (i := 3) rfl; have x9 := HB.out.only hS (fun h => h); have x1 := x9.cell_ (i := 11) rfl; go_simp; try (with_reducible rfl))); try simp only [List.nil_append, List.cons_append]))
    (refine fr_end ?_; intro x w9 hS hk)
    have z := kn_end_at 14 hk (by rfl)
    rw [Nat.zero_add] at z
    clear hk
    rw [z]
    go_wp2_with fail
    go_ret
    exact ⟨by rw [HM2.out]; rfl, O.out.trans hS⟩
end Go.Proofs.YtkfcklmkikaioaaGreatDoor
end
