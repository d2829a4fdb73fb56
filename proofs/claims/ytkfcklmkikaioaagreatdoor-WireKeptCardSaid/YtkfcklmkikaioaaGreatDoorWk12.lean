/- Texts of mine, one behind the other: WiD. No statement of the seat is proved here. -/
import Derived.Test.YtkfcklmkikaioaaGreatDoorWk10
import Derived.Deep.DeepCutAuto
import Derived.Deep.Cut
section
namespace Go.Proofs.YtkfcklmkikaioaaGreatDoor
open Go.RowKit
set_option linter.all false
set_option maxRecDepth 100000
theorem ms_one (m : Ms) (A1 A2 A3 : Option Addr) (n1 n2 n3 c1 c2 c3 : Nat) : (#[.int .i64 m.kd, .int .i64 m.pe, .int .i64 m.hp, .bool m.hi, .slice A1 n1 c1, .int .i64 m.nu, .int .u64 (m.su : Int), .int .i64 m.mr.a.c, .int .i64 m.mr.a.s, .string m.mr.k, .slice A2 n2 c2, .slice A3 n3 c3] : Array Value).all (·.oneCell') = true := by simp [Value.oneCell']
theorem sh_one (nm : ByteArray) (fl lo up : Int) : (#[.string nm, .int .i64 fl, .int .i64 lo, .int .i64 up] : Array Value).all (·.oneCell') = true := by simp [Value.oneCell']
structure Gr (g h : Nat) (S : Nat → Prop) (m : Ms) (vp vm ve : Value) (q : Nat) (w : World) : Prop where
  mb : Mb 45 g S m vp vm ve w
  sh : Blk w h 77 #[.string (wNm q), .int .i64 (wFld q), .int .i64 (wLo q), .int .i64 (wUp q)]
theorem Gr.keep {g h : Nat} {S : Nat → Prop} {m : Ms} {vp vm ve : Value} {q : Nat} {w w' : World} (t : Gr g h S m vp vm ve q w) (o : Only none_ w w') : Gr g h S m vp vm ve q w' := ⟨t.mb.keep o, t.sh.only o (fun h => h)⟩
set_option maxHeartbeats 3200000 in
theorem wi_good (S : Nat → Prop) (m : Ms) (vp vm ve : Value) (w : World) (hk : Kd w) (hl : Ml S m vp vm ve w) (hn : m.ps.length ≤ 4096 ∧ m.ms.length ≤ 4096 ∧ m.es.length ≤ 4096) :
    Calls Tryz.prog 12 #[.agg #[.int .i64 m.kd, .int .i64 m.pe, .int .i64 m.hp, .bool m.hi, vp, .int .i64 m.nu, .int .u64 (m.su : Int), .int .i64 m.mr.a.c, .int .i64 m.mr.a.s, .string m.mr.k, vm, ve]] w fun E w' => E = .returned (.int .i64 (wGood m)) ∧ Only none_ w w' := by
  have HL := Lib.hid hl
  obtain ⟨⟨A1, c1, e1, _⟩, ⟨A2, c2, e2, _⟩, ⟨A3, c3, e3, _⟩⟩ := hl
  subst e1 e2 e3
  have B := Lib.hid (Blk.new w 45 #[.int .i64 m.kd, .int .i64 m.pe, .int .i64 m.hp, .bool m.hi, .slice A1 m.ps.length c1, .int .i64 m.nu, .int .u64 (m.su : Int), .int .i64 m.mr.a.c, .int .i64 m.mr.a.s, .string m.mr.k, .slice A2 m.ms.length c2, .slice A3 m.es.length c3])
  have O := Lib.hid ((Only.refl none_ w).alloc (.cells #[.int .i64 m.kd, .int .i64 m.pe, .int .i64 m.hp, .bool m.hi, .slice A1 m.ps.length c1, .int .i64 m.nu, .int .u64 (m.su : Int), .int .i64 m.mr.a.c, .int .i64 m.mr.a.s, .string m.mr.k, .slice A2 m.ms.length c2, .slice A3 m.es.length c3] 45))
  have KD := Lib.hid (hk.keep O.out)
  have k0 := B.out.cell_ (i := 0) rfl
  have HN := Lib.hid hn
  clear hk hn
  by_cases hkd : wKind m.kd = true
  · obtain ⟨q, hq⟩ : ∃ q : Nat, m.kd = q := ⟨m.kd.toNat, by simp only [wKind, Bool.and_eq_true, decide_eq_true_eq] at hkd; omega⟩
    have hq2 : 1 ≤ q ∧ q ≤ 19 := by simp only [wKind, Bool.and_eq_true, decide_eq_true_eq] at hkd; omega
    have HK := Lib.hid hkd
    have HG : Hid (wGood m = if wOk m = true then 0 else 4) := by rw [Hid, wGood, if_pos hkd]
    have HQ := Lib.hid hq
    have MB : Hid (Mb 45 w.heap.size S m (.slice A1 m.ps.length c1) (.slice A2 m.ms.length c2) (.slice A3 m.es.length c3) _) := ⟨B.out, HL.out.keep O.out⟩
    rw [hq] at k0 hkd B O KD
    generalize hwa : w.alloc (.cells #[.int .i64 m.kd, .int .i64 m.pe, .int .i64 m.hp, .bool m.hi, .slice A1 m.ps.length c1, .int .i64 m.nu, .int .u64 (m.su : Int), .int .i64 m.mr.a.c, .int .i64 m.mr.a.s, .string m.mr.k, .slice A2 m.ms.length c2, .slice A3 m.es.length c3] 45) = wa at MB
    rw [hq] at hwa ⊢
    clear hq
    have hq3 : (q : Int) < 20 := by omega
    have hq4 : (0 : Int) ≤ q := by omega
    have HC : Hid (∀ j u, (#[.string (wNm q), .int .i64 (wFld q), .int .i64 (wLo q), .int .i64 (wUp q)] : Array Value).toList[j]? = some u → wa.cell? ⟨0, q * 4 + j, none⟩ = some u) := fun j u hu => by
      rw [← hwa]; exact KD.out.at_ q (by omega) j u hu
    rw [hwa] at B O KD k0
    have HWA := Lib.hid hwa
    clear hwa
    go_enter Tryz.func12, Tryz.ntmps12
    go_upto_region 1 with fail
    rw [HWA.out]
    go_wp2_with (first
      | (go_at_call 33; refine (wi_kind _ _).mono ?_; rintro E w9 ⟨rfl, rfl⟩; rw [hkd])
      | (refine wpl_piece rfl 77 _ rfl 0 (q * 4) rfl #[.string (wNm q), .int .i64 (wFld q), .int .i64 (wLo q), .int .i64 (wUp q)] _ HC.out Tryz.underlying77 rfl (by kernel_rfl) ?_)
      | (refine wpl_new rfl rfl 77 rfl _ _ rfl #[.string (wNm q), .int .i64 (wFld q), .int .i64 (wLo q), .int .i64 (wUp q)] rfl rfl (by kernel_rfl) (sh_one _ _ _ _) ?_)
      | (go_at_call 34; refine (wi_rules _).mono ?_; rintro E w2 ⟨rfl, o2⟩; have O2 := Lib.hid o2; clear o2))
    have GR : Hid (Gr w.heap.size wa.heap.size S m (.slice A1 m.ps.length c1) (.slice A2 m.ms.length c2) (.slice A3 m.es.length c3) q w2) :=
      ⟨MB.out.keep (((Only.refl none_ wa).alloc _).trans O2.out), (Blk.new wa _ _).only O2.out (fun h => h)⟩
    have OW : Hid (Only none_ w w2) := O.out.trans (((Only.refl none_ wa).alloc _).trans O2.out)
    clear MB B O KD k0 HC O2 HWA
    generalize w.heap.size = g at *
    generalize wa.heap.size = h at *
    go_loopw [15] (fun s15 wr => ∃ i : Nat, i ≤ 9 ∧ s15 = .int .i64 i ∧ Only none_ w2 wr ∧ (List.range i).all (wField m) = true) (fun s15 _ => 9 - (intOf s15).toNat)
    case atStart => exact ⟨0, by omega, rfl, Only.refl _ _, by simp⟩
    case round =>
      obtain ⟨i, hi, rfl, o, hall⟩ := hrel
      have HAL := Lib.hid hall
      have OR := Lib.hid o
      have T := Lib.hid (GR.out.keep o)
      clear hall o
      by_cases hlt : i < 9
      · have hlt' : (i : Int) < 9 := by omega
        have ix := fun w => run_index_rule i hlt w
        have en := fun a w => none_enter i hlt a w
        have em := fun a w => may_enter i hlt a w
        have HL9 := Lib.hid hlt
        obtain ⟨z, hz⟩ : ∃ z : Int, z = 2 ^ i := ⟨_, rfl⟩
        have HH : Hid ((bits BinOp.and IntKind.i64 (wFld q) z != 0) = wHas q i) := by rw [Hid, hz]; exact has_tab q (by omega) i hlt
        have HZ := Lib.hid hz
        obtain ⟨hb, hhb⟩ : ∃ b, wHas q i = b := ⟨_, rfl⟩
        rw [hhb] at HH
        have HF : Hid (wField m i = if hb = true then wMay m (wLo q) (wUp q) i else wNone m i) := by rw [Hid, wField, HQ.out, hhb]
        clear hz hhb
        have T6 := Lib.hid (T.out.keep ((Only.refl none_ wr).alloc (.cells #[.func (.func (nfR i)) #[] #[], .func (.func (mfR i)) #[] #[]] 90)))
        have y0 := T6.out.sh.cell_ (i := 0) rfl
        have y1 := T6.out.sh.cell_ (i := 1) rfl
        have y2 := T6.out.sh.cell_ (i := 2) rfl
        have y3 := T6.out.sh.cell_ (i := 3) rfl
        have O6 := Lib.hid (OR.out.alloc (.cells #[.func (.func (nfR i)) #[] #[], .func (.func (mfR i)) #[] #[]] 90))
        have R6 := Lib.hid (Blk.new wr 90 #[.func (.func (nfR i)) #[] #[], .func (.func (mfR i)) #[] #[]])
        have N6 := Lib.hid (Blk.new wr 90 #[.nilFunc, .nilFunc])
        have tok1 : True := trivial
        cases hb
        · rw [if_neg (by decide)] at HF
          obtain ⟨pb, hp⟩ : ∃ pb, wNone m i = pb := ⟨_, rfl⟩
          have HP := Lib.hid hp
          rw [hp] at HF
          clear hp
          cases pb
          · have HX : Hid (wOk m = false) := by
              rw [Hid, Bool.eq_false_iff]
              intro ha
              have := List.all_eq_true.1 ha i (List.mem_range.2 HL9.out)
              rw [HF.out] at this; cases this
            go_upto_region 7 with (refine wpList_store_row rfl 90 _ _ rfl wr.heap.size #[.func (.func (nfR i)) #[] #[], .func (.func (mfR i)) #[] #[]] rfl rfl 90 _ N6.out (by kernel_rfl) rfl (by simp [Value.oneCell']) ?_; rw [setRow_alloc])
            go_wp2_with (first
              | (go_at_call 28; have _t := tok1; clear tok1; refine (wi_has _ _ _ _ i _ z HL9.out rfl HZ.out _).mono ?_; rintro E w9 ⟨rfl, o9⟩; rw [HH.out]
                 have T9 := Lib.hid (T6.out.keep o9)
                 have O9 := Lib.hid (O6.out.trans o9)
                 have R9 := Lib.hid (R6.out.only o9 (fun h => h))
                 have x0 := R9.out.cell_ (i := 0) rfl
                 have x1 := R9.out.cell_ (i := 1) rfl
                 have z0 := T9.out.sh.cell_ (i := 0) rfl
                 have z1 := T9.out.sh.cell_ (i := 1) rfl
                 have z2 := T9.out.sh.cell_ (i := 2) rfl
                 have z3 := T9.out.sh.cell_ (i := 3) rfl
                 clear o9
                 have tok2 : True := trivial)
              | (go_at_call 28; have _t := tok2; clear tok2; refine (wi_has _ _ _ _ i _ z HL9.out rfl HZ.out _).mono ?_; rintro E w8 ⟨rfl, o8⟩; rw [HH.out]
                 have T8 := Lib.hid (T9.out.keep o8)
                 have O8 := Lib.hid (O9.out.trans o8)
                 have R8 := Lib.hid (R9.out.only o8 (fun h => h))
                 have v0 := R8.out.cell_ (i := 0) rfl
                 have v1 := R8.out.cell_ (i := 1) rfl
                 clear o8)
              | (with_reducible refine (wi_none i HL9.out _ S m _ _ _ _ T8.out.mb).mono ?_; rintro E w7 ⟨rfl, o7⟩; rw [HP.out]; have O7 := Lib.hid (O8.out.trans o7); clear o7))
            go_ret
            exact ⟨by rw [HG.out, HX.out]; rfl, OW.out.trans O7.out⟩
          · go_upto_region 7 with (refine wpList_store_row rfl 90 _ _ rfl wr.heap.size #[.func (.func (nfR i)) #[] #[], .func (.func (mfR i)) #[] #[]] rfl rfl 90 _ N6.out (by kernel_rfl) rfl (by simp [Value.oneCell']) ?_; rw [setRow_alloc])
            go_wp2_with (first
              | (go_at_call 28; have _t := tok1; clear tok1; refine (wi_has _ _ _ _ i _ z HL9.out rfl HZ.out _).mono ?_; rintro E w9 ⟨rfl, o9⟩; rw [HH.out]
                 have T9 := Lib.hid (T6.out.keep o9)
                 have O9 := Lib.hid (O6.out.trans o9)
                 have R9 := Lib.hid (R6.out.only o9 (fun h => h))
                 have x0 := R9.out.cell_ (i := 0) rfl
                 have x1 := R9.out.cell_ (i := 1) rfl
                 have z0 := T9.out.sh.cell_ (i := 0) rfl
                 have z1 := T9.out.sh.cell_ (i := 1) rfl
                 have z2 := T9.out.sh.cell_ (i := 2) rfl
                 have z3 := T9.out.sh.cell_ (i := 3) rfl
                 clear o9
                 have tok2 : True := trivial)
              | (go_at_call 28; have _t := tok2; clear tok2; refine (wi_has _ _ _ _ i _ z HL9.out rfl HZ.out _).mono ?_; rintro E w8 ⟨rfl, o8⟩; rw [HH.out]
                 have T8 := Lib.hid (T9.out.keep o8)
                 have O8 := Lib.hid (O9.out.trans o8)
                 have R8 := Lib.hid (R9.out.only o8 (fun h => h))
                 have v0 := R8.out.cell_ (i := 0) rfl
                 have v1 := R8.out.cell_ (i := 1) rfl
                 clear o8)
              | (with_reducible refine (wi_none i HL9.out _ S m _ _ _ _ T8.out.mb).mono ?_; rintro E w7 ⟨rfl, o7⟩; rw [HP.out]; have O7 := Lib.hid (O8.out.trans o7); clear o7))
            go_roundw
            case rel => exact ⟨i + 1, by omega, by go_num, O7.out, by rw [List.range_succ, List.all_append, HAL.out, List.all_cons, List.all_nil, HF.out]; rfl⟩
            case measure => simp [intOf]; omega
        · rw [if_pos rfl] at HF
          obtain ⟨pb, hp⟩ : ∃ pb, wMay m (wLo q) (wUp q) i = pb := ⟨_, rfl⟩
          have HP := Lib.hid hp
          rw [hp] at HF
          clear hp
          cases pb
          · have HX : Hid (wOk m = false) := by
              rw [Hid, Bool.eq_false_iff]
              intro ha
              have := List.all_eq_true.1 ha i (List.mem_range.2 HL9.out)
              rw [HF.out] at this; cases this
            go_upto_region 7 with (refine wpList_store_row rfl 90 _ _ rfl wr.heap.size #[.func (.func (nfR i)) #[] #[], .func (.func (mfR i)) #[] #[]] rfl rfl 90 _ N6.out (by kernel_rfl) rfl (by simp [Value.oneCell']) ?_; rw [setRow_alloc])
            go_wp2_with (first
              | (go_at_call 28; have _t := tok1; clear tok1; refine (wi_has _ _ _ _ i _ z HL9.out rfl HZ.out _).mono ?_; rintro E w9 ⟨rfl, o9⟩; rw [HH.out]
                 have T9 := Lib.hid (T6.out.keep o9)
                 have O9 := Lib.hid (O6.out.trans o9)
                 have R9 := Lib.hid (R6.out.only o9 (fun h => h))
                 have x0 := R9.out.cell_ (i := 0) rfl
                 have x1 := R9.out.cell_ (i := 1) rfl
                 have z0 := T9.out.sh.cell_ (i := 0) rfl
                 have z1 := T9.out.sh.cell_ (i := 1) rfl
                 have z2 := T9.out.sh.cell_ (i := 2) rfl
                 have z3 := T9.out.sh.cell_ (i := 3) rfl
                 clear o9
                 have tok2 : True := trivial)
              | (with_reducible refine (wi_may i HL9.out _ S m _ _ _ _ _ _ _ _ T9.out.mb HN.out).mono ?_; rintro E w7 ⟨rfl, o7⟩; rw [HP.out]; have O7 := Lib.hid (O9.out.trans o7)
                 have T7 := Lib.hid (T9.out.keep o7)
                 have r0 := T7.out.sh.cell_ (i := 0) rfl
                 have r1 := T7.out.sh.cell_ (i := 1) rfl
                 have r2 := T7.out.sh.cell_ (i := 2) rfl
                 have r3 := T7.out.sh.cell_ (i := 3) rfl
                 clear o7))
            go_ret
            exact ⟨by rw [HG.out, HX.out]; rfl, OW.out.trans O7.out⟩
          · go_upto_region 7 with (refine wpList_store_row rfl 90 _ _ rfl wr.heap.size #[.func (.func (nfR i)) #[] #[], .func (.func (mfR i)) #[] #[]] rfl rfl 90 _ N6.out (by kernel_rfl) rfl (by simp [Value.oneCell']) ?_; rw [setRow_alloc])
            go_wp2_with (first
              | (go_at_call 28; have _t := tok1; clear tok1; refine (wi_has _ _ _ _ i _ z HL9.out rfl HZ.out _).mono ?_; rintro E w9 ⟨rfl, o9⟩; rw [HH.out]
                 have T9 := Lib.hid (T6.out.keep o9)
                 have O9 := Lib.hid (O6.out.trans o9)
                 have R9 := Lib.hid (R6.out.only o9 (fun h => h))
                 have x0 := R9.out.cell_ (i := 0) rfl
                 have x1 := R9.out.cell_ (i := 1) rfl
                 have z0 := T9.out.sh.cell_ (i := 0) rfl
                 have z1 := T9.out.sh.cell_ (i := 1) rfl
                 have z2 := T9.out.sh.cell_ (i := 2) rfl
                 have z3 := T9.out.sh.cell_ (i := 3) rfl
                 clear o9
                 have tok2 : True := trivial)
              | (with_reducible refine (wi_may i HL9.out _ S m _ _ _ _ _ _ _ _ T9.out.mb HN.out).mono ?_; rintro E w7 ⟨rfl, o7⟩; rw [HP.out]; have O7 := Lib.hid (O9.out.trans o7)
                 have T7 := Lib.hid (T9.out.keep o7)
                 have r0 := T7.out.sh.cell_ (i := 0) rfl
                 have r1 := T7.out.sh.cell_ (i := 1) rfl
                 have r2 := T7.out.sh.cell_ (i := 2) rfl
                 have r3 := T7.out.sh.cell_ (i := 3) rfl
                 clear o7)
              | (go_at_call 28; have _t := tok2; clear tok2; refine (wi_has _ _ _ _ i _ z HL9.out rfl HZ.out _).mono ?_; rintro E w8 ⟨rfl, o8⟩; rw [HH.out]
                 have O8 := Lib.hid (O7.out.trans o8)
                 clear o8))
            go_roundw
            case rel => exact ⟨i + 1, by omega, by go_num, O8.out, by rw [List.range_succ, List.all_append, HAL.out, List.all_cons, List.all_nil, HF.out]; rfl⟩
            case measure => simp [intOf]; omega
      · have he : List.range i = List.range 9 := by rw [show i = 9 by omega]
        have HX : Hid (wOk m = true) := by rw [Hid, wOk, ← he]; exact HAL.out
        have hge : ¬ ((i : Int) < 9) := by omega
        clear HAL he
        go_wp2_with fail
        go_ret
        exact ⟨by rw [HG.out, HX.out]; rfl, OW.out.trans OR.out⟩
  · have HG : Hid (wGood m = 1) := by rw [Hid, wGood, if_neg hkd]
    have hf : wKind m.kd = false := by simpa using hkd
    clear hkd
    go_enter Tryz.func12, Tryz.ntmps12
    go_wp2_with (first
      | (go_at_call 33; refine (wi_kind _ _).mono ?_; rintro E w9 ⟨rfl, rfl⟩; rw [hf]))
    go_ret
    exact ⟨by rw [HG.out]; rfl, O.out⟩
end Go.Proofs.YtkfcklmkikaioaaGreatDoor
end
