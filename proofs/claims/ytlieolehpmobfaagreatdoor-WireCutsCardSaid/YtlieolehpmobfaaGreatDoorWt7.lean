/- Texts of mine, one behind the other: WiB, WiC. No statement of the seat is proved here. -/
import Derived.Test.YtlieolehpmobfaaGreatDoorWt6
import Derived.Test.YtlieolehpmobfaaGreatDoorWt4
import Derived.BigQuiet
import Derived.Deep.DeepCutAuto
import Derived.Deep.Cut
section
namespace Go.Proofs.YtlieolehpmobfaaGreatDoor
open Go.RowKit
set_option linter.all false
set_option maxRecDepth 100000
theorem is_emp (s : ByteArray) : s.toList.isEmpty = decide (s.size = 0) := by
  rw [ByteArray.toList_eq]; obtain ⟨⟨l⟩⟩ := s; cases l <;> simp [ByteArray.size]
set_option maxHeartbeats 1600000 in
theorem wi_mark (x : Mk) (w : World) : Calls Tryz.prog 167 #[.agg #[.int .i64 x.a.c, .int .i64 x.a.s, .string x.k]] w fun E w' => E = .returned (.bool (mkGood x)) ∧ Only none_ w w' := by
  obtain ⟨⟨xc, xs⟩, xk⟩ := x
  show Calls Tryz.prog 167 #[.agg #[.int .i64 xc, .int .i64 xs, .string xk]] w _
  have B := Blk.new w 41 #[.int .i64 xc, .int .i64 xs, .string xk]
  have HB := Lib.hid B
  have O := Lib.hid ((Only.refl none_ w).alloc (.cells #[.int .i64 xc, .int .i64 xs, .string xk] 41))
  have c0 := B.cell_ (i := 0) rfl
  have c1 := B.cell_ (i := 1) rfl
  have c2 := B.cell_ (i := 2) rfl
  obtain ⟨gb, hg⟩ : ∃ b, stGood ⟨xc, xs⟩ = b := ⟨_, rfl⟩
  have HG := Lib.hid hg
  have HM : Hid (mkGood ⟨⟨xc, xs⟩, xk⟩ = (gb && decide (1 ≤ xk.size) && decide (xk.size ≤ 16))) := by rw [Hid, mkGood]; dsimp only; rw [hg]
  have he := is_emp xk
  clear B hg
  cases gb
  · go_enter Tryz.func167, Tryz.ntmps167
    go_wp2_with (first
      | (go_at_call 239; refine (st_good _ _ _).mono ?_; rintro E w9 ⟨rfl, o9⟩; rw [HG.out]; have O9 := Lib.hid (O.out.trans o9); clear o9))
    go_ret
    exact ⟨by rw [HM.out]; rfl, O9.out⟩
  · by_cases h1 : xk.size = 0
    · have he' : xk.toList.isEmpty = true := by rw [he]; simp [h1]
      have HM2 : Hid (mkGood ⟨⟨xc, xs⟩, xk⟩ = false) := by rw [Hid, HM.out]; simp [h1]
      clear he HM
      go_enter Tryz.func167, Tryz.ntmps167
      go_wp2_with (first
        | (go_at_call 239; refine (st_good _ _ _).mono ?_; rintro E w9 ⟨rfl, o9⟩; rw [HG.out]; have O9 := Lib.hid (O.out.trans o9)
           have b9 := HB.out.only o9 (fun h => h)
           have k2 := b9.cell_ (i := 2) rfl
           clear o9 b9))
      go_ret
      exact ⟨by rw [HM2.out]; rfl, O9.out⟩
    · have he' : xk.toList.isEmpty = false := by rw [he]; simp [h1]
      have HM2 : Hid (mkGood ⟨⟨xc, xs⟩, xk⟩ = decide ((xk.size : Int) ≤ 16)) := by
        rw [Hid, HM.out, Bool.eq_iff_iff]
        simp only [Bool.true_and, Bool.and_eq_true, decide_eq_true_eq]
        omega
      clear he HM
      go_enter Tryz.func167, Tryz.ntmps167
      go_wp2_with (first
        | (go_at_call 239; refine (st_good _ _ _).mono ?_; rintro E w9 ⟨rfl, o9⟩; rw [HG.out]; have O9 := Lib.hid (O.out.trans o9)
           have b9 := HB.out.only o9 (fun h => h)
           have k2 := b9.cell_ (i := 2) rfl
           clear o9 b9))
      go_ret
      exact ⟨by rw [HM2.out]; rfl, O9.out⟩
def shRow (nm : ByteArray) (fl lo up : Int) : Array Value := #[.string nm, .int .i64 fl, .int .i64 lo, .int .i64 up]
set_option maxHeartbeats 800000 in
theorem wi_many (nm : ByteArray) (fl lo up : Int) (n : Nat) (w : World) : Calls Tryz.prog 170 #[.agg #[.string nm, .int .i64 fl, .int .i64 lo, .int .i64 up], .int .i64 n] w fun E w' => E = .returned (.bool (manyB lo up n)) ∧ Only none_ w w' := by
  have B := Blk.new w 139 #[.string nm, .int .i64 fl, .int .i64 lo, .int .i64 up]
  have O := Lib.hid ((Only.refl none_ w).alloc (.cells #[.string nm, .int .i64 fl, .int .i64 lo, .int .i64 up] 139))
  have c2 := B.cell_ (i := 2) rfl
  have c3 := B.cell_ (i := 3) rfl
  have HM : Hid (manyB lo up n = (decide (lo ≤ (n : Int)) && decide ((n : Int) ≤ up))) := rfl
  clear B
  by_cases h : lo ≤ (n : Int)
  · have HM2 : Hid (manyB lo up n = decide ((n : Int) ≤ up)) := by rw [Hid, HM.out]; simp [h]
    clear HM
    go_enter Tryz.func170, Tryz.ntmps170
    go_wp2_with fail
    go_ret
    exact ⟨by rw [HM2.out]; rfl, O.out⟩
  · have HM2 : Hid (manyB lo up n = false) := by rw [Hid, HM.out]; simp [h]
    clear HM
    go_enter Tryz.func170, Tryz.ntmps170
    go_wp2_with fail
    go_ret
    exact ⟨by rw [HM2.out]; rfl, O.out⟩
set_option maxHeartbeats 1600000 in
theorem wi_each_int (S : Nat → Prop) (l : List Int) (v : Value) (w : World) (h : Cel w S v l.length 1 (l.flatMap intI)) (hl : l.length ≤ 4096) :
    Calls Tryz.prog 159 #[v, .func (.func 152) #[] #[]] w fun e w' => e = .returned (.bool (l.all nodeB)) ∧ Only none_ w w' := by
  obtain ⟨n, hn⟩ : ∃ n, l.length = n := ⟨_, rfl⟩
  have h0 := h
  rw [hn] at h hl
  obtain ⟨A, c, rfl, _⟩ := id h
  have HA := Lib.hid (fun (w' : World) (o : Only none_ w w') => h.only o (fun _ _ h => h))
  have HN := Lib.hid hn
  clear h h0 hn
  go_enter Tryz.func159, Tryz.ntmps159
  go_wp2_with fail
  go_loopw [9] (fun s9 wr => ∃ i : Nat, i ≤ n ∧ s9 = .int .i64 i ∧ Only none_ w wr ∧ (l.take i).all nodeB = true) (fun s9 _ => n - (intOf s9).toNat)
  case atStart => exact ⟨0, by omega, rfl, Only.refl _ _, by simp⟩
  case round =>
    obtain ⟨i, hi, rfl, o, hall⟩ := hrel
    have HAL := Lib.hid hall
    have O := Lib.hid o
    clear hall
    by_cases hlt : i < n
    · have hin : i < l.length := by have := HN.out; omega
      obtain ⟨x, hx⟩ : ∃ x, l[i]? = some x := ⟨_, List.getElem?_eq_getElem hin⟩
      obtain ⟨b, off, hA, _, _, hc⟩ := in_elem intI_len (by decide) (HA.out _ o) HN.out hx
      subst hA
      have k0 := hc _ (Only.refl none_ _) 0 (.int .i64 x) rfl
      rw [Nat.mul_one, Nat.add_zero] at k0
      obtain ⟨pb, hp⟩ : ∃ pb, nodeB x = pb := ⟨_, rfl⟩
      have HP := Lib.hid hp
      have HX := Lib.hid hx
      clear o hc hp hx
      cases pb
      · go_wp2_with (first
          | (go_at_call 152; refine (wi_node _ _).mono ?_; rintro E w9 ⟨rfl, rfl⟩; rw [HP.out]))
        go_ret
        have hf : l.all nodeB = false := by
          rw [Bool.eq_false_iff]
          intro ha
          have := List.all_eq_true.1 ha x (List.mem_of_getElem? HX.out)
          rw [HP.out] at this; cases this
        exact ⟨by rw [hf]; rfl, O.out⟩
      · go_wp2_with (first
          | (go_at_call 152; refine (wi_node _ _).mono ?_; rintro E w9 ⟨rfl, rfl⟩; rw [HP.out]))
        go_roundw
        case rel => exact ⟨i + 1, by omega, by go_num, O.out, by
          rw [List.take_add_one, HX.out]
          simp only [Option.toList_some, List.all_append, HAL.out, List.all_cons, List.all_nil, HP.out]; rfl⟩
        case measure => simp [intOf]; omega
    · have hin : l.take i = l := List.take_of_length_le (by have := HN.out; omega)
      rw [hin] at HAL
      clear o hin
      go_wp2_with fail
      go_ret
      exact ⟨by rw [HAL.out]; rfl, O.out⟩
theorem mkI_one5 (m : Mk) : (#[.int .i64 m.a.c, .int .i64 m.a.s, .string m.k] : Array Value).all (·.oneCell') = true := by simp [Value.oneCell']
set_option maxHeartbeats 1600000 in
theorem wi_each_mk (S : Nat → Prop) (l : List Mk) (v : Value) (w : World) (h : Cel w S v l.length 3 (l.flatMap mkI)) (hl : l.length ≤ 4096) :
    Calls Tryz.prog 171 #[v, .func (.func 167) #[] #[]] w fun e w' => e = .returned (.bool (l.all mkGood)) ∧ Only none_ w w' := by
  obtain ⟨n, hn⟩ : ∃ n, l.length = n := ⟨_, rfl⟩
  have h0 := h
  rw [hn] at h hl
  obtain ⟨A, c, rfl, _⟩ := id h
  have HA := Lib.hid (fun (w' : World) (o : Only none_ w w') => h.only o (fun _ _ h => h))
  have HN := Lib.hid hn
  clear h h0 hn
  go_enter Tryz.func171, Tryz.ntmps171
  go_wp2_with fail
  go_loopw [9] (fun s9 wr => ∃ i : Nat, i ≤ n ∧ s9 = .int .i64 i ∧ Only none_ w wr ∧ (l.take i).all mkGood = true) (fun s9 _ => n - (intOf s9).toNat)
  case atStart => exact ⟨0, by omega, rfl, Only.refl _ _, by simp⟩
  case round =>
    obtain ⟨i, hi, rfl, o, hall⟩ := hrel
    have HAL := Lib.hid hall
    have O := Lib.hid o
    clear hall
    by_cases hlt : i < n
    · have hin : i < l.length := by have := HN.out; omega
      obtain ⟨x, hx⟩ : ∃ x, l[i]? = some x := ⟨_, List.getElem?_eq_getElem hin⟩
      obtain ⟨b, off, hA, _, _, hc⟩ := in_elem mkI_len (by decide) (HA.out _ o) HN.out hx
      subst hA
      have HC : Hid (∀ j u, (#[.int .i64 x.a.c, .int .i64 x.a.s, .string x.k] : Array Value).toList[j]? = some u → wr.cell? ⟨b, off + i * 3 + j, none⟩ = some u) := fun j u hu => hc _ (Only.refl none_ _) j u hu
      have BX := Lib.hid (Blk.new wr 41 #[.int .i64 x.a.c, .int .i64 x.a.s, .string x.k])
      have OA := Lib.hid (o.alloc (.cells #[.int .i64 x.a.c, .int .i64 x.a.s, .string x.k] 41))
      obtain ⟨pb, hp⟩ : ∃ pb, mkGood x = pb := ⟨_, rfl⟩
      have HP := Lib.hid hp
      have HX := Lib.hid hx
      clear o hc hp hx
      cases pb
      · go_wp2_with (first
          | (refine wpl_piece rfl 41 _ rfl b (off + i * 3) rfl #[.int .i64 x.a.c, .int .i64 x.a.s, .string x.k] _ HC.out Tryz.underlying41 rfl (by kernel_rfl) ?_)
          | (refine wpl_new rfl rfl 41 rfl _ _ rfl #[.int .i64 x.a.c, .int .i64 x.a.s, .string x.k] rfl rfl (by kernel_rfl) (mkI_one5 x) ?_)
          | (refine wpl_load rfl 41 _ rfl wr.heap.size rfl 41 #[.int .i64 x.a.c, .int .i64 x.a.s, .string x.k] _ BX.out Tryz.underlying41 rfl (by kernel_rfl) ?_)
          | (go_at_call 167; refine (wi_mark _ _).mono ?_; rintro E w9 ⟨rfl, o9⟩; rw [HP.out]; have O9 := Lib.hid (OA.out.trans o9); clear o9))
        go_ret
        have hf : l.all mkGood = false := by
          rw [Bool.eq_false_iff]
          intro ha
          have := List.all_eq_true.1 ha x (List.mem_of_getElem? HX.out)
          rw [HP.out] at this; cases this
        exact ⟨by rw [hf]; rfl, O9.out⟩
      · go_wp2_with (first
          | (refine wpl_piece rfl 41 _ rfl b (off + i * 3) rfl #[.int .i64 x.a.c, .int .i64 x.a.s, .string x.k] _ HC.out Tryz.underlying41 rfl (by kernel_rfl) ?_)
          | (refine wpl_new rfl rfl 41 rfl _ _ rfl #[.int .i64 x.a.c, .int .i64 x.a.s, .string x.k] rfl rfl (by kernel_rfl) (mkI_one5 x) ?_)
          | (refine wpl_load rfl 41 _ rfl wr.heap.size rfl 41 #[.int .i64 x.a.c, .int .i64 x.a.s, .string x.k] _ BX.out Tryz.underlying41 rfl (by kernel_rfl) ?_)
          | (go_at_call 167; refine (wi_mark _ _).mono ?_; rintro E w9 ⟨rfl, o9⟩; rw [HP.out]; have O9 := Lib.hid (OA.out.trans o9); clear o9))
        go_roundw
        case rel => exact ⟨i + 1, by omega, by go_num, O9.out, by
          rw [List.take_add_one, HX.out]
          simp only [Option.toList_some, List.all_append, HAL.out, List.all_cons, List.all_nil, HP.out]; rfl⟩
        case measure => simp [intOf]; omega
    · have hin : l.take i = l := List.take_of_length_le (by have := HN.out; omega)
      rw [hin] at HAL
      clear o hin
      go_wp2_with fail
      go_ret
      exact ⟨by rw [HAL.out]; rfl, O.out⟩
set_option maxHeartbeats 1600000 in
theorem wi_each_en (S : Nat → Prop) (l : List En) (v : Value) (w : World) (h : Cel w S v l.length 9 (l.flatMap enRow)) (hl : l.length ≤ 4096) :
    Calls Tryz.prog 174 #[v, .func (.func 175) #[] #[]] w fun e w' => e = .returned (.bool (l.all enOk)) ∧ Only none_ w w' := by
  obtain ⟨n, hn⟩ : ∃ n, l.length = n := ⟨_, rfl⟩
  have h0 := h
  rw [hn] at h hl
  obtain ⟨A, c, rfl, _⟩ := id h
  have HA := Lib.hid (fun (w' : World) (o : Only none_ w w') => h.only o (fun _ _ h => h))
  have HN := Lib.hid hn
  clear h h0 hn
  go_enter Tryz.func174, Tryz.ntmps174
  go_wp2_with fail
  go_loopw [9] (fun s9 wr => ∃ i : Nat, i ≤ n ∧ s9 = .int .i64 i ∧ Only none_ w wr ∧ (l.take i).all enOk = true) (fun s9 _ => n - (intOf s9).toNat)
  case atStart => exact ⟨0, by omega, rfl, Only.refl _ _, by simp⟩
  case round =>
    obtain ⟨i, hi, rfl, o, hall⟩ := hrel
    have HAL := Lib.hid hall
    have O := Lib.hid o
    clear hall
    by_cases hlt : i < n
    · have hin : i < l.length := by have := HN.out; omega
      obtain ⟨x, hx⟩ : ∃ x, l[i]? = some x := ⟨_, List.getElem?_eq_getElem hin⟩
      obtain ⟨b, off, hA, _, _, hc⟩ := in_elem enRow_length (by decide) (HA.out _ o) HN.out hx
      subst hA
      have HC : Hid (∀ j u, (#[.string x.k, .string x.v, .bool x.d, .int .i64 x.s.c, .int .i64 x.s.s, .int .i64 x.a.c, .int .i64 x.a.s, .int .i64 x.p, .int .i64 x.g] : Array Value).toList[j]? = some u → wr.cell? ⟨b, off + i * 9 + j, none⟩ = some u) := fun j u hu => hc _ (Only.refl none_ _) j u hu
      have BX := Lib.hid (Blk.new wr 147 #[.string x.k, .string x.v, .bool x.d, .int .i64 x.s.c, .int .i64 x.s.s, .int .i64 x.a.c, .int .i64 x.a.s, .int .i64 x.p, .int .i64 x.g])
      have OA := Lib.hid (o.alloc (.cells #[.string x.k, .string x.v, .bool x.d, .int .i64 x.s.c, .int .i64 x.s.s, .int .i64 x.a.c, .int .i64 x.a.s, .int .i64 x.p, .int .i64 x.g] 147))
      obtain ⟨pb, hp⟩ : ∃ pb, enOk x = pb := ⟨_, rfl⟩
      have HP := Lib.hid hp
      have HX := Lib.hid hx
      clear o hc hp hx
      cases pb
      · go_wp2_with (first
          | (refine wpl_piece rfl 147 _ rfl b (off + i * 9) rfl #[.string x.k, .string x.v, .bool x.d, .int .i64 x.s.c, .int .i64 x.s.s, .int .i64 x.a.c, .int .i64 x.a.s, .int .i64 x.p, .int .i64 x.g] _ HC.out Tryz.underlying147 rfl (by kernel_rfl) ?_)
          | (refine wpl_new rfl rfl 147 rfl _ _ rfl #[.string x.k, .string x.v, .bool x.d, .int .i64 x.s.c, .int .i64 x.s.s, .int .i64 x.a.c, .int .i64 x.a.s, .int .i64 x.p, .int .i64 x.g] rfl rfl (by kernel_rfl) (en_cells_one x) ?_)
          | (refine wpl_load rfl 147 _ rfl wr.heap.size rfl 147 #[.string x.k, .string x.v, .bool x.d, .int .i64 x.s.c, .int .i64 x.s.s, .int .i64 x.a.c, .int .i64 x.a.s, .int .i64 x.p, .int .i64 x.g] _ BX.out Tryz.underlying147 rfl (by kernel_rfl) ?_)
          | (go_at_call 175; refine (wi_entry _ _).mono ?_; rintro E w9 ⟨rfl, o9⟩; rw [HP.out]; have O9 := Lib.hid (OA.out.trans o9); clear o9))
        go_ret
        have hf : l.all enOk = false := by
          rw [Bool.eq_false_iff]
          intro ha
          have := List.all_eq_true.1 ha x (List.mem_of_getElem? HX.out)
          rw [HP.out] at this; cases this
        exact ⟨by rw [hf]; rfl, O9.out⟩
      · go_wp2_with (first
          | (refine wpl_piece rfl 147 _ rfl b (off + i * 9) rfl #[.string x.k, .string x.v, .bool x.d, .int .i64 x.s.c, .int .i64 x.s.s, .int .i64 x.a.c, .int .i64 x.a.s, .int .i64 x.p, .int .i64 x.g] _ HC.out Tryz.underlying147 rfl (by kernel_rfl) ?_)
          | (refine wpl_new rfl rfl 147 rfl _ _ rfl #[.string x.k, .string x.v, .bool x.d, .int .i64 x.s.c, .int .i64 x.s.s, .int .i64 x.a.c, .int .i64 x.a.s, .int .i64 x.p, .int .i64 x.g] rfl rfl (by kernel_rfl) (en_cells_one x) ?_)
          | (refine wpl_load rfl 147 _ rfl wr.heap.size rfl 147 #[.string x.k, .string x.v, .bool x.d, .int .i64 x.s.c, .int .i64 x.s.s, .int .i64 x.a.c, .int .i64 x.a.s, .int .i64 x.p, .int .i64 x.g] _ BX.out Tryz.underlying147 rfl (by kernel_rfl) ?_)
          | (go_at_call 175; refine (wi_entry _ _).mono ?_; rintro E w9 ⟨rfl, o9⟩; rw [HP.out]; have O9 := Lib.hid (OA.out.trans o9); clear o9))
        go_roundw
        case rel => exact ⟨i + 1, by omega, by go_num, O9.out, by
          rw [List.take_add_one, HX.out]
          simp only [Option.toList_some, List.all_append, HAL.out, List.all_cons, List.all_nil, HP.out]; rfl⟩
        case measure => simp [intOf]; omega
    · have hin : l.take i = l := List.take_of_length_le (by have := HN.out; omega)
      rw [hin] at HAL
      clear o hin
      go_wp2_with fail
      go_ret
      exact ⟨by rw [HAL.out]; rfl, O.out⟩
set_option maxHeartbeats 1600000 in
theorem wi_none0 (g : Nat) (S : Nat → Prop) (m : Ms) (vp vm ve : Value) (w : World) (h : Mb 45 g S m vp vm ve w) :
    Calls Tryz.prog 150 #[.pointer (some ⟨g, 0, none⟩)] w fun e w' => e = .returned (.bool (wNone m 0)) ∧ Only none_ w w' := by
  obtain ⟨⟨A1, c1, rfl, _⟩, ⟨A2, c2, rfl, _⟩, ⟨A3, c3, rfl, _⟩⟩ := h.ml
  have HB := Lib.hid h.bx
  have k := h.bx.cell_ (i := 1) rfl
  clear h
  go_enter Tryz.func150, Tryz.ntmps150
  go_wp2_with fail
  go_ret
  exact ⟨rfl, Only.refl _ _⟩
set_option maxHeartbeats 1600000 in
theorem wi_none1 (g : Nat) (S : Nat → Prop) (m : Ms) (vp vm ve : Value) (w : World) (h : Mb 45 g S m vp vm ve w) :
    Calls Tryz.prog 153 #[.pointer (some ⟨g, 0, none⟩)] w fun e w' => e = .returned (.bool (wNone m 1)) ∧ Only none_ w w' := by
  obtain ⟨⟨A1, c1, rfl, _⟩, ⟨A2, c2, rfl, _⟩, ⟨A3, c3, rfl, _⟩⟩ := h.ml
  have HB := Lib.hid h.bx
  have k := h.bx.cell_ (i := 2) rfl
  clear h
  go_enter Tryz.func153, Tryz.ntmps153
  go_wp2_with fail
  go_ret
  exact ⟨rfl, Only.refl _ _⟩
set_option maxHeartbeats 1600000 in
theorem wi_none2 (g : Nat) (S : Nat → Prop) (m : Ms) (vp vm ve : Value) (w : World) (h : Mb 45 g S m vp vm ve w) :
    Calls Tryz.prog 155 #[.pointer (some ⟨g, 0, none⟩)] w fun e w' => e = .returned (.bool (wNone m 2)) ∧ Only none_ w w' := by
  obtain ⟨⟨A1, c1, rfl, _⟩, ⟨A2, c2, rfl, _⟩, ⟨A3, c3, rfl, _⟩⟩ := h.ml
  have HB := Lib.hid h.bx
  have k := h.bx.cell_ (i := 3) rfl
  clear h
  obtain ⟨hb, hh⟩ : ∃ b, m.hi = b := ⟨_, rfl⟩
  have HH : Hid (wNone m 2 = !hb) := by rw [Hid, wNone, hh]
  rw [hh] at k
  clear hh
  go_enter Tryz.func155, Tryz.ntmps155
  go_wp2_with fail
  go_ret
  exact ⟨by rw [HH.out]; rfl, Only.refl _ _⟩
set_option maxHeartbeats 1600000 in
theorem wi_none3 (g : Nat) (S : Nat → Prop) (m : Ms) (vp vm ve : Value) (w : World) (h : Mb 45 g S m vp vm ve w) :
    Calls Tryz.prog 157 #[.pointer (some ⟨g, 0, none⟩)] w fun e w' => e = .returned (.bool (wNone m 3)) ∧ Only none_ w w' := by
  obtain ⟨⟨A1, c1, rfl, _⟩, ⟨A2, c2, rfl, _⟩, ⟨A3, c3, rfl, _⟩⟩ := h.ml
  have HB := Lib.hid h.bx
  have k := h.bx.cell_ (i := 4) rfl
  clear h
  go_enter Tryz.func157, Tryz.ntmps157
  go_wp2_with fail
  go_ret
  exact ⟨rfl, Only.refl _ _⟩
set_option maxHeartbeats 1600000 in
theorem wi_none4 (g : Nat) (S : Nat → Prop) (m : Ms) (vp vm ve : Value) (w : World) (h : Mb 45 g S m vp vm ve w) :
    Calls Tryz.prog 160 #[.pointer (some ⟨g, 0, none⟩)] w fun e w' => e = .returned (.bool (wNone m 4)) ∧ Only none_ w w' := by
  obtain ⟨⟨A1, c1, rfl, _⟩, ⟨A2, c2, rfl, _⟩, ⟨A3, c3, rfl, _⟩⟩ := h.ml
  have HB := Lib.hid h.bx
  have k := h.bx.cell_ (i := 5) rfl
  clear h
  go_enter Tryz.func160, Tryz.ntmps160
  go_wp2_with fail
  go_ret
  exact ⟨rfl, Only.refl _ _⟩
set_option maxHeartbeats 1600000 in
theorem wi_none5 (g : Nat) (S : Nat → Prop) (m : Ms) (vp vm ve : Value) (w : World) (h : Mb 45 g S m vp vm ve w) :
    Calls Tryz.prog 162 #[.pointer (some ⟨g, 0, none⟩)] w fun e w' => e = .returned (.bool (wNone m 5)) ∧ Only none_ w w' := by
  obtain ⟨⟨A1, c1, rfl, _⟩, ⟨A2, c2, rfl, _⟩, ⟨A3, c3, rfl, _⟩⟩ := h.ml
  have HB := Lib.hid h.bx
  have k := h.bx.cell_ (i := 6) rfl
  clear h
  go_enter Tryz.func162, Tryz.ntmps162
  go_wp2_with fail
  go_ret
  exact ⟨rfl, Only.refl _ _⟩
set_option maxHeartbeats 1600000 in
theorem wi_none6 (g : Nat) (S : Nat → Prop) (m : Ms) (vp vm ve : Value) (w : World) (h : Mb 45 g S m vp vm ve w) :
    Calls Tryz.prog 164 #[.pointer (some ⟨g, 0, none⟩)] w fun e w' => e = .returned (.bool (wNone m 6)) ∧ Only none_ w w' := by
  obtain ⟨⟨A1, c1, rfl, _⟩, ⟨A2, c2, rfl, _⟩, ⟨A3, c3, rfl, _⟩⟩ := h.ml
  have HB := Lib.hid h.bx
  have k7 := h.bx.cell_ (i := 7) rfl
  have k8 := h.bx.cell_ (i := 8) rfl
  have k9 := h.bx.cell_ (i := 9) rfl
  clear h
  go_enter Tryz.func164, Tryz.ntmps164
  go_wp2_with (first | (go_at_call 165; refine (wi_top m.mr _).mono ?_; rintro E w9 ⟨rfl, o9⟩; have O9 := Lib.hid o9; clear o9))
  go_ret
  exact ⟨rfl, O9.out⟩
set_option maxHeartbeats 1600000 in
theorem wi_none7 (g : Nat) (S : Nat → Prop) (m : Ms) (vp vm ve : Value) (w : World) (h : Mb 45 g S m vp vm ve w) :
    Calls Tryz.prog 168 #[.pointer (some ⟨g, 0, none⟩)] w fun e w' => e = .returned (.bool (wNone m 7)) ∧ Only none_ w w' := by
  obtain ⟨⟨A1, c1, rfl, _⟩, ⟨A2, c2, rfl, _⟩, ⟨A3, c3, rfl, _⟩⟩ := h.ml
  have HB := Lib.hid h.bx
  have k := h.bx.cell_ (i := 10) rfl
  clear h
  go_enter Tryz.func168, Tryz.ntmps168
  go_wp2_with fail
  go_ret
  exact ⟨rfl, Only.refl _ _⟩
set_option maxHeartbeats 1600000 in
theorem wi_none8 (g : Nat) (S : Nat → Prop) (m : Ms) (vp vm ve : Value) (w : World) (h : Mb 45 g S m vp vm ve w) :
    Calls Tryz.prog 172 #[.pointer (some ⟨g, 0, none⟩)] w fun e w' => e = .returned (.bool (wNone m 8)) ∧ Only none_ w w' := by
  obtain ⟨⟨A1, c1, rfl, _⟩, ⟨A2, c2, rfl, _⟩, ⟨A3, c3, rfl, _⟩⟩ := h.ml
  have HB := Lib.hid h.bx
  have k := h.bx.cell_ (i := 11) rfl
  clear h
  go_enter Tryz.func172, Tryz.ntmps172
  go_wp2_with fail
  go_ret
  exact ⟨rfl, Only.refl _ _⟩
set_option maxHeartbeats 1600000 in
theorem wi_may0 (g : Nat) (S : Nat → Prop) (m : Ms) (vp vm ve : Value) (nm : ByteArray) (fl lo up : Int) (w : World) (h : Mb 45 g S m vp vm ve w) (hl : m.ps.length ≤ 4096 ∧ m.ms.length ≤ 4096 ∧ m.es.length ≤ 4096) :
    Calls Tryz.prog 151 #[.pointer (some ⟨g, 0, none⟩), .agg #[.string nm, .int .i64 fl, .int .i64 lo, .int .i64 up]] w fun e w' => e = .returned (.bool (wMay m lo up 0)) ∧ Only none_ w w' := by
  have O := Lib.hid ((Only.refl none_ w).alloc (.cells #[.string nm, .int .i64 fl, .int .i64 lo, .int .i64 up] 139))
  have HB := Lib.hid (h.bx.alloc (.cells #[.string nm, .int .i64 fl, .int .i64 lo, .int .i64 up] 139))
  have NB := Lib.hid (Blk.new w 139 #[.string nm, .int .i64 fl, .int .i64 lo, .int .i64 up])
  have k := HB.out.cell_ (i := 1) rfl
  clear h
  go_enter Tryz.func151, Tryz.ntmps151
  go_wp2_with (first | (go_at_call 152; refine (wi_node _ _).mono ?_; rintro E w9 ⟨rfl, rfl⟩))
  go_ret
  exact ⟨rfl, O.out⟩
set_option maxHeartbeats 1600000 in
theorem wi_may1 (g : Nat) (S : Nat → Prop) (m : Ms) (vp vm ve : Value) (nm : ByteArray) (fl lo up : Int) (w : World) (h : Mb 45 g S m vp vm ve w) (hl : m.ps.length ≤ 4096 ∧ m.ms.length ≤ 4096 ∧ m.es.length ≤ 4096) :
    Calls Tryz.prog 154 #[.pointer (some ⟨g, 0, none⟩), .agg #[.string nm, .int .i64 fl, .int .i64 lo, .int .i64 up]] w fun e w' => e = .returned (.bool (wMay m lo up 1)) ∧ Only none_ w w' := by
  have O := Lib.hid ((Only.refl none_ w).alloc (.cells #[.string nm, .int .i64 fl, .int .i64 lo, .int .i64 up] 139))
  have HB := Lib.hid (h.bx.alloc (.cells #[.string nm, .int .i64 fl, .int .i64 lo, .int .i64 up] 139))
  have NB := Lib.hid (Blk.new w 139 #[.string nm, .int .i64 fl, .int .i64 lo, .int .i64 up])
  have k := HB.out.cell_ (i := 2) rfl
  have HM : Hid (wMay m lo up 1 = (decide (0 ≤ m.hp) && decide (m.hp ≤ 8))) := rfl
  clear h
  by_cases h0 : 0 ≤ m.hp
  · have HM2 : Hid (wMay m lo up 1 = decide (m.hp ≤ 8)) := by rw [Hid, HM.out]; simp [h0]
    clear HM
    go_enter Tryz.func154, Tryz.ntmps154
    go_wp2_with fail
    go_ret
    exact ⟨by rw [HM2.out]; rfl, O.out⟩
  · have HM2 : Hid (wMay m lo up 1 = false) := by rw [Hid, HM.out]; simp [h0]
    clear HM
    go_enter Tryz.func154, Tryz.ntmps154
    go_wp2_with fail
    go_ret
    exact ⟨by rw [HM2.out]; rfl, O.out⟩
set_option maxHeartbeats 1600000 in
theorem wi_may2 (g : Nat) (S : Nat → Prop) (m : Ms) (vp vm ve : Value) (nm : ByteArray) (fl lo up : Int) (w : World) (h : Mb 45 g S m vp vm ve w) (hl : m.ps.length ≤ 4096 ∧ m.ms.length ≤ 4096 ∧ m.es.length ≤ 4096) :
    Calls Tryz.prog 156 #[.pointer (some ⟨g, 0, none⟩), .agg #[.string nm, .int .i64 fl, .int .i64 lo, .int .i64 up]] w fun e w' => e = .returned (.bool (wMay m lo up 2)) ∧ Only none_ w w' := by
  have O := Lib.hid ((Only.refl none_ w).alloc (.cells #[.string nm, .int .i64 fl, .int .i64 lo, .int .i64 up] 139))
  have HB := Lib.hid (h.bx.alloc (.cells #[.string nm, .int .i64 fl, .int .i64 lo, .int .i64 up] 139))
  have NB := Lib.hid (Blk.new w 139 #[.string nm, .int .i64 fl, .int .i64 lo, .int .i64 up])
  clear h
  go_enter Tryz.func156, Tryz.ntmps156
  go_wp2_with fail
  go_ret
  exact ⟨rfl, O.out⟩
set_option maxHeartbeats 1600000 in
theorem wi_may3 (g : Nat) (S : Nat → Prop) (m : Ms) (vp vm ve : Value) (nm : ByteArray) (fl lo up : Int) (w : World) (h : Mb 45 g S m vp vm ve w) (hl : m.ps.length ≤ 4096 ∧ m.ms.length ≤ 4096 ∧ m.es.length ≤ 4096) :
    Calls Tryz.prog 158 #[.pointer (some ⟨g, 0, none⟩), .agg #[.string nm, .int .i64 fl, .int .i64 lo, .int .i64 up]] w fun e w' => e = .returned (.bool (wMay m lo up 3)) ∧ Only none_ w w' := by
  have O := Lib.hid ((Only.refl none_ w).alloc (.cells #[.string nm, .int .i64 fl, .int .i64 lo, .int .i64 up] 139))
  have HB := Lib.hid (h.bx.alloc (.cells #[.string nm, .int .i64 fl, .int .i64 lo, .int .i64 up] 139))
  have NB := Lib.hid (Blk.new w 139 #[.string nm, .int .i64 fl, .int .i64 lo, .int .i64 up])
  have HL := Lib.hid h.ml
  obtain ⟨⟨A1, c1, e1, _⟩, ⟨A2, c2, e2, _⟩, ⟨A3, c3, e3, _⟩⟩ := h.ml
  subst e1 e2 e3
  have k := HB.out.cell_ (i := 4) rfl
  have HM : Hid (wMay m lo up 3 = (decide ((m.ps.length : Int) ≤ 8) && m.ps.all nodeB)) := rfl
  have HE := Lib.hid (wi_each_int S m.ps (.slice A1 m.ps.length c1) _ (HL.out.p.only O.out (fun _ _ h => h)) hl.1)
  obtain ⟨n, hn⟩ : ∃ n, m.ps.length = n := ⟨_, rfl⟩
  obtain ⟨pb, hp⟩ : ∃ b, m.ps.all nodeB = b := ⟨_, rfl⟩
  rw [hn] at k HE HM
  rw [hp] at HM HE
  clear h hn hp hl
  by_cases h0 : (n : Int) ≤ 8
  · have HM2 : Hid (wMay m lo up 3 = pb) := by rw [Hid, HM.out]; simp [h0]
    clear HM
    go_enter Tryz.func158, Tryz.ntmps158
    go_wp2_with (first | (go_at_call 159; refine HE.out.mono ?_; rintro E w9 ⟨rfl, o9⟩; have O9 := Lib.hid (O.out.trans o9); clear o9))
    go_ret
    exact ⟨by rw [HM2.out]; rfl, O9.out⟩
  · have HM2 : Hid (wMay m lo up 3 = false) := by rw [Hid, HM.out]; simp [h0]
    clear HM
    go_enter Tryz.func158, Tryz.ntmps158
    go_wp2_with fail
    go_ret
    exact ⟨by rw [HM2.out]; rfl, O.out⟩
set_option maxHeartbeats 1600000 in
theorem wi_may4 (g : Nat) (S : Nat → Prop) (m : Ms) (vp vm ve : Value) (nm : ByteArray) (fl lo up : Int) (w : World) (h : Mb 45 g S m vp vm ve w) (hl : m.ps.length ≤ 4096 ∧ m.ms.length ≤ 4096 ∧ m.es.length ≤ 4096) :
    Calls Tryz.prog 161 #[.pointer (some ⟨g, 0, none⟩), .agg #[.string nm, .int .i64 fl, .int .i64 lo, .int .i64 up]] w fun e w' => e = .returned (.bool (wMay m lo up 4)) ∧ Only none_ w w' := by
  have O := Lib.hid ((Only.refl none_ w).alloc (.cells #[.string nm, .int .i64 fl, .int .i64 lo, .int .i64 up] 139))
  have HB := Lib.hid (h.bx.alloc (.cells #[.string nm, .int .i64 fl, .int .i64 lo, .int .i64 up] 139))
  have NB := Lib.hid (Blk.new w 139 #[.string nm, .int .i64 fl, .int .i64 lo, .int .i64 up])
  have k := HB.out.cell_ (i := 5) rfl
  have HM : Hid (wMay m lo up 4 = (decide (0 ≤ m.nu) && decide (m.nu ≤ 4294967295))) := rfl
  clear h
  by_cases h0 : 0 ≤ m.nu
  · have HM2 : Hid (wMay m lo up 4 = decide (m.nu ≤ 4294967295)) := by rw [Hid, HM.out]; simp [h0]
    clear HM
    go_enter Tryz.func161, Tryz.ntmps161
    go_wp2_with fail
    go_ret
    exact ⟨by rw [HM2.out]; rfl, O.out⟩
  · have HM2 : Hid (wMay m lo up 4 = false) := by rw [Hid, HM.out]; simp [h0]
    clear HM
    go_enter Tryz.func161, Tryz.ntmps161
    go_wp2_with fail
    go_ret
    exact ⟨by rw [HM2.out]; rfl, O.out⟩
set_option maxHeartbeats 1600000 in
theorem wi_may5 (g : Nat) (S : Nat → Prop) (m : Ms) (vp vm ve : Value) (nm : ByteArray) (fl lo up : Int) (w : World) (h : Mb 45 g S m vp vm ve w) (hl : m.ps.length ≤ 4096 ∧ m.ms.length ≤ 4096 ∧ m.es.length ≤ 4096) :
    Calls Tryz.prog 163 #[.pointer (some ⟨g, 0, none⟩), .agg #[.string nm, .int .i64 fl, .int .i64 lo, .int .i64 up]] w fun e w' => e = .returned (.bool (wMay m lo up 5)) ∧ Only none_ w w' := by
  have O := Lib.hid ((Only.refl none_ w).alloc (.cells #[.string nm, .int .i64 fl, .int .i64 lo, .int .i64 up] 139))
  have HB := Lib.hid (h.bx.alloc (.cells #[.string nm, .int .i64 fl, .int .i64 lo, .int .i64 up] 139))
  have NB := Lib.hid (Blk.new w 139 #[.string nm, .int .i64 fl, .int .i64 lo, .int .i64 up])
  clear h
  go_enter Tryz.func163, Tryz.ntmps163
  go_wp2_with fail
  go_ret
  exact ⟨rfl, O.out⟩
set_option maxHeartbeats 1600000 in
theorem wi_may6 (g : Nat) (S : Nat → Prop) (m : Ms) (vp vm ve : Value) (nm : ByteArray) (fl lo up : Int) (w : World) (h : Mb 45 g S m vp vm ve w) (hl : m.ps.length ≤ 4096 ∧ m.ms.length ≤ 4096 ∧ m.es.length ≤ 4096) :
    Calls Tryz.prog 166 #[.pointer (some ⟨g, 0, none⟩), .agg #[.string nm, .int .i64 fl, .int .i64 lo, .int .i64 up]] w fun e w' => e = .returned (.bool (wMay m lo up 6)) ∧ Only none_ w w' := by
  have O := Lib.hid ((Only.refl none_ w).alloc (.cells #[.string nm, .int .i64 fl, .int .i64 lo, .int .i64 up] 139))
  have HB := Lib.hid (h.bx.alloc (.cells #[.string nm, .int .i64 fl, .int .i64 lo, .int .i64 up] 139))
  have NB := Lib.hid (Blk.new w 139 #[.string nm, .int .i64 fl, .int .i64 lo, .int .i64 up])
  have k7 := HB.out.cell_ (i := 7) rfl
  have k8 := HB.out.cell_ (i := 8) rfl
  have k9 := HB.out.cell_ (i := 9) rfl
  have HM : Hid (wMay m lo up 6 = (isTop m.mr || mkGood m.mr)) := rfl
  obtain ⟨tb, ht⟩ : ∃ b, isTop m.mr = b := ⟨_, rfl⟩
  have HT := Lib.hid ht
  rw [ht] at HM
  clear h ht hl
  cases tb
  · have HM2 : Hid (wMay m lo up 6 = mkGood m.mr) := by rw [Hid, HM.out]; simp
    clear HM
    go_enter Tryz.func166, Tryz.ntmps166
    go_wp2_with (first
      | (go_at_call 165; refine (wi_top m.mr _).mono ?_; rintro E w9 ⟨rfl, o9⟩; rw [HT.out]; have O9 := Lib.hid (O.out.trans o9)
         have b9 := HB.out.only o9 (fun h => h)
         have j7 := b9.cell_ (i := 7) rfl
         have j8 := b9.cell_ (i := 8) rfl
         have j9 := b9.cell_ (i := 9) rfl
         clear o9 b9)
      | (go_at_call 167; refine (wi_mark m.mr _).mono ?_; rintro E w8 ⟨rfl, o8⟩; have O8 := Lib.hid (O9.out.trans o8); clear o8))
    go_ret
    exact ⟨by rw [HM2.out]; rfl, O8.out⟩
  · have HM2 : Hid (wMay m lo up 6 = true) := by rw [Hid, HM.out]; simp
    clear HM
    go_enter Tryz.func166, Tryz.ntmps166
    go_wp2_with (first
      | (go_at_call 165; refine (wi_top m.mr _).mono ?_; rintro E w9 ⟨rfl, o9⟩; rw [HT.out]; have O9 := Lib.hid (O.out.trans o9); clear o9))
    go_ret
    exact ⟨by rw [HM2.out]; rfl, O9.out⟩
set_option maxHeartbeats 1600000 in
theorem wi_may7 (g : Nat) (S : Nat → Prop) (m : Ms) (vp vm ve : Value) (nm : ByteArray) (fl lo up : Int) (w : World) (h : Mb 45 g S m vp vm ve w) (hl : m.ps.length ≤ 4096 ∧ m.ms.length ≤ 4096 ∧ m.es.length ≤ 4096) :
    Calls Tryz.prog 169 #[.pointer (some ⟨g, 0, none⟩), .agg #[.string nm, .int .i64 fl, .int .i64 lo, .int .i64 up]] w fun e w' => e = .returned (.bool (wMay m lo up 7)) ∧ Only none_ w w' := by
  have O := Lib.hid ((Only.refl none_ w).alloc (.cells #[.string nm, .int .i64 fl, .int .i64 lo, .int .i64 up] 139))
  have HB := Lib.hid (h.bx.alloc (.cells #[.string nm, .int .i64 fl, .int .i64 lo, .int .i64 up] 139))
  have NB := Lib.hid (Blk.new w 139 #[.string nm, .int .i64 fl, .int .i64 lo, .int .i64 up])
  have HL := Lib.hid h.ml
  obtain ⟨⟨A1, c1, e1, _⟩, ⟨A2, c2, e2, _⟩, ⟨A3, c3, e3, _⟩⟩ := h.ml
  subst e1 e2 e3
  have HM : Hid (wMay m lo up 7 = (manyB lo up m.ms.length && m.ms.all mkGood)) := rfl
  have HE : Hid (∀ w', Only none_ w w' → _) := fun w' o => wi_each_mk S m.ms (.slice A2 m.ms.length c2) w' (HL.out.q.only o (fun _ _ h => h)) hl.2.1
  obtain ⟨n, hn⟩ : ∃ n, m.ms.length = n := ⟨_, rfl⟩
  obtain ⟨pb, hp⟩ : ∃ b, m.ms.all mkGood = b := ⟨_, rfl⟩
  obtain ⟨mb, hm⟩ : ∃ b, manyB lo up n = b := ⟨_, rfl⟩
  have HY := Lib.hid hm
  rw [hn] at HB HE HM
  rw [hp] at HM HE
  rw [hm] at HM
  obtain ⟨w1, hw1⟩ : ∃ w1, w.alloc (.cells #[.string nm, .int .i64 fl, .int .i64 lo, .int .i64 up] 139) = w1 := ⟨_, rfl⟩
  obtain ⟨b0, hb0⟩ : ∃ b0, w.heap.size = b0 := ⟨_, rfl⟩
  have HW1 := Lib.hid hw1
  have HB0 := Lib.hid hb0
  rw [hw1] at O HB NB
  rw [hb0] at NB
  clear h hn hp hl hm HL hw1 hb0
  cases mb
  · have HM2 : Hid (wMay m lo up 7 = false) := by rw [Hid, HM.out]; simp
    clear HM
    go_enter Tryz.func169, Tryz.ntmps169
    go_wp2_with fail
    rw [HW1.out, HB0.out]
    (refine wp_region_free (fun w' => Only none_ w1 w') (Only none_) (F := ?_) (by kernel_rfl) 19 (by rfl) (by kernel_rfl) (fun x => ?_) ((Only.refl none_ w1).drew) ?_; rotate_left; (· (simp only [putsL, Act.put, List.setIfInBounds_toArray, List.set_cons_zero, List.set_cons_succ, Nat.reduceAdd]; exact rfl)))
    repeat (first
      | ((first | refine fr_skip (by rfl) (by rfl) (by rfl) (fun w => Only.refl none_ w) ?_ | refine fr_skip_too (by rfl) (by rfl) (by rfl) (fun w => Only.refl none_ w) ?_); try simp only [List.nil_append, List.cons_append])
      | ((first | refine fr_some (fun v _ => v = .bool false) (fun _ _ _ _ _ _ h => h) (by rfl) (fun x w0 hS hk => ?_) ?_ | refine fr_some_if (fun v _ => v = .bool false) (fun _ _ _ _ _ _ h => h) (by rfl) (by rfl) (by rfl) (fun x w0 hS hk => ?_) ?_); (· (have hk2 := hk; (try simp [knAll, Region.binds] at hk2); skip; refine got_call (f := 170) (args := ?_) (by go_simp; try (with_reducible rfl)) ?_; refine (wi_many nm fl lo up n _).mono ?_; rintro E w8 ⟨rfl, o8⟩; exact ⟨_, rfl, by rw [HY.out], hS.trans o8, o8⟩)); try simp only [List.nil_append, List.cons_append])
      | ((first | refine fr_some (fun v _ => v = .bool pb) (fun _ _ _ _ _ _ h => h) (by rfl) (fun x w0 hS hk => ?_) ?_ | refine fr_some_if (fun v _ => v = .bool pb) (fun _ _ _ _ _ _ h => h) (by rfl) (by rfl) (by rfl) (fun x w0 hS hk => ?_) ?_); (· (have hk2 := hk; (try simp [knAll, Region.binds] at hk2); skip; refine got_call (f := 171) (args := ?_) (by go_simp; try (with_reducible rfl)) ?_; refine (HE.out _ (O.out.trans hS)).mono ?_; rintro E w8 ⟨rfl, o8⟩; exact ⟨_, rfl, rfl, hS.trans o8, o8⟩)); try simp only [List.nil_append, List.cons_append])
      | ((first | refine fr_value (c := ?_) (by rfl) (fun w => Only.refl none_ w) (fun x w0 hS hk => ?_) ?_ | refine fr_value_if (c := ?_) (by rfl) (by rfl) (by rfl) (fun w => Only.refl none_ w) (fun x w0 hS hk => ?_) ?_); rotate_left; (· (have hk2 := hk; (try simp [knAll, Region.binds] at hk2); have y := NB.out.only hS (fun h => h); have y0 := y.cell_ (i := 0) rfl; have y1 := y.cell_ (i := 1) rfl; have y2 := y.cell_ (i := 2) rfl; have y3 := y.cell_ (i := 3) rfl; have x9 := HB.out.only hS (fun h => h); have x1 := x9.cell_ (i := 10) rfl; go_simp; try (with_reducible rfl))); try simp only [List.nil_append, List.cons_append]))
    (refine fr_end ?_; intro x w9 hS hk)
    have z := kn_end_at 14 hk (by rfl)
    rw [Nat.zero_add] at z
    clear hk
    rw [z]
    go_wp2_with fail
    go_ret
    exact ⟨by rw [HM2.out]; rfl, O.out.trans hS⟩
  · have HM2 : Hid (wMay m lo up 7 = pb) := by rw [Hid, HM.out]; simp
    clear HM
    go_enter Tryz.func169, Tryz.ntmps169
    go_wp2_with fail
    rw [HW1.out, HB0.out]
    (refine wp_region_free (fun w' => Only none_ w1 w') (Only none_) (F := ?_) (by kernel_rfl) 19 (by rfl) (by kernel_rfl) (fun x => ?_) ((Only.refl none_ w1).drew) ?_; rotate_left; (· (simp only [putsL, Act.put, List.setIfInBounds_toArray, List.set_cons_zero, List.set_cons_succ, Nat.reduceAdd]; exact rfl)))
    repeat (first
      | ((first | refine fr_skip (by rfl) (by rfl) (by rfl) (fun w => Only.refl none_ w) ?_ | refine fr_skip_too (by rfl) (by rfl) (by rfl) (fun w => Only.refl none_ w) ?_); try simp only [List.nil_append, List.cons_append])
      | ((first | refine fr_some (fun v _ => v = .bool true) (fun _ _ _ _ _ _ h => h) (by rfl) (fun x w0 hS hk => ?_) ?_ | refine fr_some_if (fun v _ => v = .bool true) (fun _ _ _ _ _ _ h => h) (by rfl) (by rfl) (by rfl) (fun x w0 hS hk => ?_) ?_); (· (have hk2 := hk; (try simp [knAll, Region.binds] at hk2); skip; refine got_call (f := 170) (args := ?_) (by go_simp; try (with_reducible rfl)) ?_; refine (wi_many nm fl lo up n _).mono ?_; rintro E w8 ⟨rfl, o8⟩; exact ⟨_, rfl, by rw [HY.out], hS.trans o8, o8⟩)); try simp only [List.nil_append, List.cons_append])
      | ((first | refine fr_some (fun v _ => v = .bool pb) (fun _ _ _ _ _ _ h => h) (by rfl) (fun x w0 hS hk => ?_) ?_ | refine fr_some_if (fun v _ => v = .bool pb) (fun _ _ _ _ _ _ h => h) (by rfl) (by rfl) (by rfl) (fun x w0 hS hk => ?_) ?_); (· (have hk2 := hk; (try simp [knAll, Region.binds] at hk2); skip; refine got_call (f := 171) (args := ?_) (by go_simp; try (with_reducible rfl)) ?_; refine (HE.out _ (O.out.trans hS)).mono ?_; rintro E w8 ⟨rfl, o8⟩; exact ⟨_, rfl, rfl, hS.trans o8, o8⟩)); try simp only [List.nil_append, List.cons_append])
      | ((first | refine fr_value (c := ?_) (by rfl) (fun w => Only.refl none_ w) (fun x w0 hS hk => ?_) ?_ | refine fr_value_if (c := ?_) (by rfl) (by rfl) (by rfl) (fun w => Only.refl none_ w) (fun x w0 hS hk => ?_) ?_); rotate_left; (· (have hk2 := hk; (try simp [knAll, Region.binds] at hk2); have y := NB.out.only hS (fun h => h); have y0 := y.cell_ (i := 0) rfl; have y1 := y.cell_ (i := 1) rfl; have y2 := y.cell_ (i := 2) rfl; have y3 := y.cell_ (i := 3) rfl; have x9 := HB.out.only hS (fun h => h); have x1 := x9.cell_ (i := 10) rfl; go_simp; try (with_reducible rfl))); try simp only [List.nil_append, List.cons_append]))
    (refine fr_end ?_; intro x w9 hS hk)
    have z := kn_end_at 14 hk (by rfl)
    rw [Nat.zero_add] at z
    clear hk
    rw [z]
    go_wp2_with fail
    go_ret
    exact ⟨by rw [HM2.out]; rfl, O.out.trans hS⟩
set_option maxHeartbeats 1600000 in
theorem wi_may8 (g : Nat) (S : Nat → Prop) (m : Ms) (vp vm ve : Value) (nm : ByteArray) (fl lo up : Int) (w : World) (h : Mb 45 g S m vp vm ve w) (hl : m.ps.length ≤ 4096 ∧ m.ms.length ≤ 4096 ∧ m.es.length ≤ 4096) :
    Calls Tryz.prog 173 #[.pointer (some ⟨g, 0, none⟩), .agg #[.string nm, .int .i64 fl, .int .i64 lo, .int .i64 up]] w fun e w' => e = .returned (.bool (wMay m lo up 8)) ∧ Only none_ w w' := by
  have O := Lib.hid ((Only.refl none_ w).alloc (.cells #[.string nm, .int .i64 fl, .int .i64 lo, .int .i64 up] 139))
  have HB := Lib.hid (h.bx.alloc (.cells #[.string nm, .int .i64 fl, .int .i64 lo, .int .i64 up] 139))
  have NB := Lib.hid (Blk.new w 139 #[.string nm, .int .i64 fl, .int .i64 lo, .int .i64 up])
  have HL := Lib.hid h.ml
  obtain ⟨⟨A1, c1, e1, _⟩, ⟨A2, c2, e2, _⟩, ⟨A3, c3, e3, _⟩⟩ := h.ml
  subst e1 e2 e3
  have HM : Hid (wMay m lo up 8 = (manyB lo up m.es.length && m.es.all enOk)) := rfl
  have HE : Hid (∀ w', Only none_ w w' → _) := fun w' o => wi_each_en S m.es (.slice A3 m.es.length c3) w' (HL.out.r.only o (fun _ _ h => h)) hl.2.2
  obtain ⟨n, hn⟩ : ∃ n, m.es.length = n := ⟨_, rfl⟩
  obtain ⟨pb, hp⟩ : ∃ b, m.es.all enOk = b := ⟨_, rfl⟩
  obtain ⟨mb, hm⟩ : ∃ b, manyB lo up n = b := ⟨_, rfl⟩
  have HY := Lib.hid hm
  rw [hn] at HB HE HM
  rw [hp] at HM HE
  rw [hm] at HM
  obtain ⟨w1, hw1⟩ : ∃ w1, w.alloc (.cells #[.string nm, .int .i64 fl, .int .i64 lo, .int .i64 up] 139) = w1 := ⟨_, rfl⟩
  obtain ⟨b0, hb0⟩ : ∃ b0, w.heap.size = b0 := ⟨_, rfl⟩
  have HW1 := Lib.hid hw1
  have HB0 := Lib.hid hb0
  rw [hw1] at O HB NB
  rw [hb0] at NB
  clear h hn hp hl hm HL hw1 hb0
  cases mb
  · have HM2 : Hid (wMay m lo up 8 = false) := by rw [Hid, HM.out]; simp
    clear HM
    go_enter Tryz.func173, Tryz.ntmps173
    go_wp2_with fail
    rw [HW1.out, HB0.out]
    (refine wp_region_free (fun w' => Only none_ w1 w') (Only none_) (F := ?_) (by kernel_rfl) 19 (by rfl) (by kernel_rfl) (fun x => ?_) ((Only.refl none_ w1).drew) ?_; rotate_left; (· (simp only [putsL, Act.put, List.setIfInBounds_toArray, List.set_cons_zero, List.set_cons_succ, Nat.reduceAdd]; exact rfl)))
    repeat (first
      | ((first | refine fr_skip (by rfl) (by rfl) (by rfl) (fun w => Only.refl none_ w) ?_ | refine fr_skip_too (by rfl) (by rfl) (by rfl) (fun w => Only.refl none_ w) ?_); try simp only [List.nil_append, List.cons_append])
      | ((first | refine fr_some (fun v _ => v = .bool false) (fun _ _ _ _ _ _ h => h) (by rfl) (fun x w0 hS hk => ?_) ?_ | refine fr_some_if (fun v _ => v = .bool false) (fun _ _ _ _ _ _ h => h) (by rfl) (by rfl) (by rfl) (fun x w0 hS hk => ?_) ?_); (· (have hk2 := hk; (try simp [knAll, Region.binds] at hk2); skip; refine got_call (f := 170) (args := ?_) (by go_simp; try (with_reducible rfl)) ?_; refine (wi_many nm fl lo up n _).mono ?_; rintro E w8 ⟨rfl, o8⟩; exact ⟨_, rfl, by rw [HY.out], hS.trans o8, o8⟩)); try simp only [List.nil_append, List.cons_append])
      | ((first | refine fr_some (fun v _ => v = .bool pb) (fun _ _ _ _ _ _ h => h) (by rfl) (fun x w0 hS hk => ?_) ?_ | refine fr_some_if (fun v _ => v = .bool pb) (fun _ _ _ _ _ _ h => h) (by rfl) (by rfl) (by rfl) (fun x w0 hS hk => ?_) ?_); (· (have hk2 := hk; (try simp [knAll, Region.binds] at hk2); skip; refine got_call (f := 174) (args := ?_) (by go_simp; try (with_reducible rfl)) ?_; refine (HE.out _ (O.out.trans hS)).mono ?_; rintro E w8 ⟨rfl, o8⟩; exact ⟨_, rfl, rfl, hS.trans o8, o8⟩)); try simp only [List.nil_append, List.cons_append])
      | ((first | refine fr_value (c := ?_) (by rfl) (fun w => Only.refl none_ w) (fun x w0 hS hk => ?_) ?_ | refine fr_value_if (c := ?_) (by rfl) (by rfl) (by rfl) (fun w => Only.refl none_ w) (fun x w0 hS hk => ?_) ?_); rotate_left; (· (have hk2 := hk; (try simp [knAll, Region.binds] at hk2); have y := NB.out.only hS (fun h => h); have y0 := y.cell_ (i := 0) rfl; have y1 := y.cell_ (i := 1) rfl; have y2 := y.cell_ (i := 2) rfl; have y3 := y.cell_ (i := 3) rfl; have x9 := HB.out.only hS (fun h => h); have x1 := x9.cell_ (i := 11) rfl; go_simp; try (with_reducible rfl))); try simp only [List.nil_append, List.cons_append]))
    (refine fr_end ?_; intro x w9 hS hk)
    have z := kn_end_at 14 hk (by rfl)
    rw [Nat.zero_add] at z
    clear hk
    rw [z]
    go_wp2_with fail
    go_ret
    exact ⟨by rw [HM2.out]; rfl, O.out.trans hS⟩
  · have HM2 : Hid (wMay m lo up 8 = pb) := by rw [Hid, HM.out]; simp
    clear HM
    go_enter Tryz.func173, Tryz.ntmps173
    go_wp2_with fail
    rw [HW1.out, HB0.out]
    (refine wp_region_free (fun w' => Only none_ w1 w') (Only none_) (F := ?_) (by kernel_rfl) 19 (by rfl) (by kernel_rfl) (fun x => ?_) ((Only.refl none_ w1).drew) ?_; rotate_left; (· (simp only [putsL, Act.put, List.setIfInBounds_toArray, List.set_cons_zero, List.set_cons_succ, Nat.reduceAdd]; exact rfl)))
    repeat (first
      | ((first | refine fr_skip (by rfl) (by rfl) (by rfl) (fun w => Only.refl none_ w) ?_ | refine fr_skip_too (by rfl) (by rfl) (by rfl) (fun w => Only.refl none_ w) ?_); try simp only [List.nil_append, List.cons_append])
      | ((first | refine fr_some (fun v _ => v = .bool true) (fun _ _ _ _ _ _ h => h) (by rfl) (fun x w0 hS hk => ?_) ?_ | refine fr_some_if (fun v _ => v = .bool true) (fun _ _ _ _ _ _ h => h) (by rfl) (by rfl) (by rfl) (fun x w0 hS hk => ?_) ?_); (· (have hk2 := hk; (try simp [knAll, Region.binds] at hk2); skip; refine got_call (f := 170) (args := ?_) (by go_simp; try (with_reducible rfl)) ?_; refine (wi_many nm fl lo up n _).mono ?_; rintro E w8 ⟨rfl, o8⟩; exact ⟨_, rfl, by rw [HY.out], hS.trans o8, o8⟩)); try simp only [List.nil_append, List.cons_append])
      | ((first | refine fr_some (fun v _ => v = .bool pb) (fun _ _ _ _ _ _ h => h) (by rfl) (fun x w0 hS hk => ?_) ?_ | refine fr_some_if (fun v _ => v = .bool pb) (fun _ _ _ _ _ _ h => h) (by rfl) (by rfl) (by rfl) (fun x w0 hS hk => ?_) ?_); (· (have hk2 := hk; (try simp [knAll, Region.binds] at hk2); skip; refine got_call (f := 174) (args := ?_) (by go_simp; try (with_reducible rfl)) ?_; refine (HE.out _ (O.out.trans hS)).mono ?_; rintro E w8 ⟨rfl, o8⟩; exact ⟨_, rfl, rfl, hS.trans o8, o8⟩)); try simp only [List.nil_append, List.cons_append])
      | ((first | refine fr_value (c := ?_) (by rfl) (fun w => Only.refl none_ w) (fun x w0 hS hk => ?_) ?_ | refine fr_value_if (c := ?_) (by rfl) (by rfl) (by rfl) (fun w => Only.refl none_ w) (fun x w0 hS hk => ?_) ?_); rotate_left; (· (have hk2 := hk; (try simp [knAll, Region.binds] at hk2); have y := NB.out.only hS (fun h => h); have y0 := y.cell_ (i := 0) rfl; have y1 := y.cell_ (i := 1) rfl; have y2 := y.cell_ (i := 2) rfl; have y3 := y.cell_ (i := 3) rfl; have x9 := HB.out.only hS (fun h => h); have x1 := x9.cell_ (i := 11) rfl; go_simp; try (with_reducible rfl))); try simp only [List.nil_append, List.cons_append]))
    (refine fr_end ?_; intro x w9 hS hk)
    have z := kn_end_at 14 hk (by rfl)
    rw [Nat.zero_add] at z
    clear hk
    rw [z]
    go_wp2_with fail
    go_ret
    exact ⟨by rw [HM2.out]; rfl, O.out.trans hS⟩
end Go.Proofs.YtlieolehpmobfaaGreatDoor
end
section
namespace Go.Proofs.YtlieolehpmobfaaGreatDoor
open Go.RowKit
set_option linter.all false
set_option maxRecDepth 100000
def wNm (k : Nat) : ByteArray :=
  match k with
  | 1 => ⟨#[106, 111, 105, 110]⟩
  | 2 => ⟨#[102, 111, 114, 119, 97, 114, 100]⟩
  | 3 => ⟨#[110, 101, 105, 103, 104, 98, 111, 114]⟩
  | 4 => ⟨#[97, 99, 99, 101, 112, 116]⟩
  | 5 => ⟨#[114, 101, 102, 117, 115, 101]⟩
  | 6 => ⟨#[112, 97, 114, 116]⟩
  | 7 => ⟨#[115, 104, 117, 102, 102, 108, 101]⟩
  | 8 => ⟨#[115, 119, 97, 112]⟩
  | 9 => ⟨#[98, 101, 97, 116]⟩
  | 10 => ⟨#[103, 111, 115, 115, 105, 112]⟩
  | 11 => ⟨#[104, 97, 118, 101]⟩
  | 12 => ⟨#[103, 114, 97, 102, 116]⟩
  | 13 => ⟨#[112, 114, 117, 110, 101]⟩
  | 14 => ⟨#[114, 117, 109, 111, 114, 115]⟩
  | 15 => ⟨#[101, 99, 104, 111]⟩
  | 16 => ⟨#[99, 104, 101, 99, 107]⟩
  | 17 => ⟨#[109, 97, 116, 99, 104]⟩
  | 18 => ⟨#[112, 101, 101, 108]⟩
  | 19 => ⟨#[112, 105, 108, 101]⟩
  | _ => ⟨#[]⟩
structure Kd (w : World) : Prop where
  lt : 0 < w.heap.size
  at_ : ∀ k : Nat, k < 20 → ∀ j u, (shRow (wNm k) (wFld k) (wLo k) (wUp k)).toList[j]? = some u → w.cell? ⟨0, k * 4 + j, none⟩ = some u
theorem Kd.only {w w' : World} {T : Nat → Prop} (h : Kd w) (o : Only T w w') (hn : ¬ T 0) : Kd w' :=
  ⟨Nat.lt_of_lt_of_le h.lt o.size, fun k hk j u hu => (o.cell (p := ⟨0, k * 4 + j, none⟩) h.lt hn).trans (h.at_ k hk j u hu)⟩
theorem Kd.keep {w w' : World} (h : Kd w) (o : Only none_ w w') : Kd w' := h.only o (fun h => h)
theorem has_tab : ∀ k, k < 20 → ∀ i, i < 9 → (bits BinOp.and IntKind.i64 (wFld (k : Nat)) (2 ^ i) != 0) = wHas (k : Nat) i := by decide +kernel
set_option maxHeartbeats 1600000 in
theorem wi_has (nm : ByteArray) (fl lo up : Int) (i : Nat) (z y : Int) (hi : i < 9) (hz : z = i) (hy : y = 2 ^ i) (w : World) : Calls Tryz.prog 61 #[.agg #[.string nm, .int .i64 fl, .int .i64 lo, .int .i64 up], .int .i64 z] w fun E w' => E = .returned (.bool (bits BinOp.and IntKind.i64 fl y != 0)) ∧ Only none_ w w' := by
  have B := Blk.new w 139 #[.string nm, .int .i64 fl, .int .i64 lo, .int .i64 up]
  have O := Lib.hid ((Only.refl none_ w).alloc (.cells #[.string nm, .int .i64 fl, .int .i64 lo, .int .i64 up] 139))
  have c1 := B.cell_ (i := 1) rfl
  clear B
  rcases (by omega : i = 0 ∨ i = 1 ∨ i = 2 ∨ i = 3 ∨ i = 4 ∨ i = 5 ∨ i = 6 ∨ i = 7 ∨ i = 8) with rfl | rfl | rfl | rfl | rfl | rfl | rfl | rfl | rfl
  all_goals
    clear hi
    subst hz hy
    simp only [Int.reducePow]
    go_enter Tryz.func61, Tryz.ntmps61
    go_wp2_with fail
    go_quiet (fail)
    go_wp2_with fail
    go_ret
    exact ⟨rfl, O.out.drewN nq⟩
def nils18 : Array Value := #[Value.nilFunc, Value.nilFunc, Value.nilFunc, Value.nilFunc, Value.nilFunc, Value.nilFunc, Value.nilFunc, Value.nilFunc, Value.nilFunc, Value.nilFunc, Value.nilFunc, Value.nilFunc, Value.nilFunc, Value.nilFunc, Value.nilFunc, Value.nilFunc, Value.nilFunc, Value.nilFunc]
def rulesA : Array Value := #[.func (.func 150) #[] #[], .func (.func 151) #[] #[], .func (.func 153) #[] #[], .func (.func 154) #[] #[], .func (.func 155) #[] #[], .func (.func 156) #[] #[], .func (.func 157) #[] #[], .func (.func 158) #[] #[], .func (.func 160) #[] #[], .func (.func 161) #[] #[], .func (.func 162) #[] #[], .func (.func 163) #[] #[], .func (.func 164) #[] #[], .func (.func 166) #[] #[], .func (.func 168) #[] #[], .func (.func 169) #[] #[], .func (.func 172) #[] #[], .func (.func 173) #[] #[]]
set_option maxHeartbeats 1600000 in
theorem wi_rules (w : World) : Calls Tryz.prog 67 #[] w fun E w' => E = .returned (.agg rulesA) ∧ Only none_ w w' := by
  have B := Lib.hid (Blk.new w 153 nils18)
  have F := Lib.hid (B.out.setRow rulesA)
  have O := Lib.hid (((Only.refl none_ w).alloc (.cells nils18 153)).setRow (g := w.heap.size) (.inr (Nat.le_refl _)) rulesA)
  go_enter Tryz.func67, Tryz.ntmps67
  go_upto_region 1 with fail
  refine wp_region_lit ?_
  go_wp2_with (first
    | (refine wpList_store_row rfl 153 _ _ rfl w.heap.size rulesA rfl rfl 153 _ B.out (by kernel_rfl) rfl (by simp [rulesA, Value.oneCell']) ?_))
  exact bodyPost_ret (results_cell_row rfl _ _ w.heap.size 153 _ (0, 0) _ rfl F.out Tryz.underlying153 rfl (by kernel_rfl)) rfl ⟨rfl, O.out⟩
def nfR (i : Nat) : Nat :=
  match i with
  | 0 => 150
  | 1 => 153
  | 2 => 155
  | 3 => 157
  | 4 => 160
  | 5 => 162
  | 6 => 164
  | 7 => 168
  | _ => 172
def mfR (i : Nat) : Nat :=
  match i with
  | 0 => 151
  | 1 => 154
  | 2 => 156
  | 3 => 158
  | 4 => 161
  | 5 => 163
  | 6 => 166
  | 7 => 169
  | _ => 173
theorem nine_ways {i : Nat} (h : i < 9) : i = 0 ∨ i = 1 ∨ i = 2 ∨ i = 3 ∨ i = 4 ∨ i = 5 ∨ i = 6 ∨ i = 7 ∨ i = 8 := by omega
theorem run_index_rule (i : Nat) (hi : i < 9) (w : World) :
    (Instr.index 153 (.agg rulesA) (.int .i64 i)).run Tryz.prog w = .ok (.agg #[.func (.func (nfR i)) #[] #[], .func (.func (mfR i)) #[] #[]]) w := by
  obtain ⟨i0, hi0, hz0⟩ : ∃ i0, Tryz.prog.info? 152 = some i0 ∧ i0.size = 2 := by
    have : (Tryz.prog.info? 152).map (·.size) = some 2 := by kernel_rfl
    cases h : Tryz.prog.info? 152 with
    | none => rw [h] at this; cases this
    | some i0 => rw [h] at this; simp at this; exact ⟨i0, rfl, this⟩
  rcases nine_ways hi with rfl | rfl | rfl | rfl | rfl | rfl | rfl | rfl | rfl
  all_goals simp [rulesA, nfR, mfR, Instr.index, asIntOf, run_underlying Tryz.underlying153, sizeOf, typeInfo, hi0, hz0, part, isAgg, run_underlying Tryz.underlying152]
theorem wi_none (i : Nat) (hi : i < 9) (g : Nat) (S : Nat → Prop) (m : Ms) (vp vm ve : Value) (w : World) (h : Mb 45 g S m vp vm ve w) :
    Calls Tryz.prog (nfR i) #[.pointer (some ⟨g, 0, none⟩)] w fun e w' => e = .returned (.bool (wNone m i)) ∧ Only none_ w w' := by
  rcases nine_ways hi with rfl | rfl | rfl | rfl | rfl | rfl | rfl | rfl | rfl
  · exact wi_none0 g S m vp vm ve w h
  · exact wi_none1 g S m vp vm ve w h
  · exact wi_none2 g S m vp vm ve w h
  · exact wi_none3 g S m vp vm ve w h
  · exact wi_none4 g S m vp vm ve w h
  · exact wi_none5 g S m vp vm ve w h
  · exact wi_none6 g S m vp vm ve w h
  · exact wi_none7 g S m vp vm ve w h
  · exact wi_none8 g S m vp vm ve w h
theorem wi_may (i : Nat) (hi : i < 9) (g : Nat) (S : Nat → Prop) (m : Ms) (vp vm ve : Value) (nm : ByteArray) (fl lo up : Int) (w : World) (h : Mb 45 g S m vp vm ve w) (hl : m.ps.length ≤ 4096 ∧ m.ms.length ≤ 4096 ∧ m.es.length ≤ 4096) :
    Calls Tryz.prog (mfR i) #[.pointer (some ⟨g, 0, none⟩), .agg #[.string nm, .int .i64 fl, .int .i64 lo, .int .i64 up]] w fun e w' => e = .returned (.bool (wMay m lo up i)) ∧ Only none_ w w' := by
  rcases nine_ways hi with rfl | rfl | rfl | rfl | rfl | rfl | rfl | rfl | rfl
  · exact wi_may0 g S m vp vm ve nm fl lo up w h hl
  · exact wi_may1 g S m vp vm ve nm fl lo up w h hl
  · exact wi_may2 g S m vp vm ve nm fl lo up w h hl
  · exact wi_may3 g S m vp vm ve nm fl lo up w h hl
  · exact wi_may4 g S m vp vm ve nm fl lo up w h hl
  · exact wi_may5 g S m vp vm ve nm fl lo up w h hl
  · exact wi_may6 g S m vp vm ve nm fl lo up w h hl
  · exact wi_may7 g S m vp vm ve nm fl lo up w h hl
  · exact wi_may8 g S m vp vm ve nm fl lo up w h hl
theorem enter_of (f : Nat) (h : ((Tryz.prog.funcs[f]?).map fun fn => (fn.name == "runtime.NumGoroutine", fn.body.isNone)) = some (false, false)) (args : Array Value) (w : World) :
    (callFunc f args).run Tryz.prog w = .ok (.enter f args) w := by
  cases hf : Tryz.prog.funcs[f]? with
  | none => rw [hf] at h; cases h
  | some fn =>
    rw [hf] at h
    simp only [Option.map_some, Option.some.injEq, Prod.mk.injEq] at h
    have h1 : ¬ fn.name = "runtime.NumGoroutine" := by simpa using h.1
    have h2 : ¬ fn.body = none := by intro e; have := h.2; rw [e] at this; cases this
    unfold callFunc
    simp [hf, h1, h2]
theorem none_enter (i : Nat) (hi : i < 9) (args : Array Value) (w : World) : (callFunc (nfR i) args).run Tryz.prog w = .ok (.enter (nfR i) args) w := by
  rcases nine_ways hi with rfl | rfl | rfl | rfl | rfl | rfl | rfl | rfl | rfl <;> exact enter_of _ (by kernel_rfl) args w
theorem may_enter (i : Nat) (hi : i < 9) (args : Array Value) (w : World) : (callFunc (mfR i) args).run Tryz.prog w = .ok (.enter (mfR i) args) w := by
  rcases nine_ways hi with rfl | rfl | rfl | rfl | rfl | rfl | rfl | rfl | rfl <;> exact enter_of _ (by kernel_rfl) args w
end Go.Proofs.YtlieolehpmobfaaGreatDoor
end
