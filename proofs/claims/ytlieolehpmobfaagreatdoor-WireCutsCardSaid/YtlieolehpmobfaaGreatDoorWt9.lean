/- Texts of mine, one behind the other: WiD, RsC, WiH, WiQ. No statement of the seat is proved here. -/
import Derived.Test.YtlieolehpmobfaaGreatDoorWt7
import Derived.Deep.DeepCutAuto
import Derived.Deep.Cut
import Derived.Laws.Rows
import Derived.Laws.Tables
import Derived.Test.YtlieolehpmobfaaGreatDoorWt8
section
namespace Go.Proofs.YtlieolehpmobfaaGreatDoor
open Go.RowKit
set_option linter.all false
set_option maxRecDepth 100000
theorem ms_one (m : Ms) (A1 A2 A3 : Option Addr) (n1 n2 n3 c1 c2 c3 : Nat) : (#[.int .i64 m.kd, .int .i64 m.pe, .int .i64 m.hp, .bool m.hi, .slice A1 n1 c1, .int .i64 m.nu, .int .u64 (m.su : Int), .int .i64 m.mr.a.c, .int .i64 m.mr.a.s, .string m.mr.k, .slice A2 n2 c2, .slice A3 n3 c3] : Array Value).all (·.oneCell') = true := by simp [Value.oneCell']
theorem sh_one (nm : ByteArray) (fl lo up : Int) : (#[.string nm, .int .i64 fl, .int .i64 lo, .int .i64 up] : Array Value).all (·.oneCell') = true := by simp [Value.oneCell']
structure Gr (g h : Nat) (S : Nat → Prop) (m : Ms) (vp vm ve : Value) (q : Nat) (w : World) : Prop where
  mb : Mb 45 g S m vp vm ve w
  sh : Blk w h 139 #[.string (wNm q), .int .i64 (wFld q), .int .i64 (wLo q), .int .i64 (wUp q)]
theorem Gr.keep {g h : Nat} {S : Nat → Prop} {m : Ms} {vp vm ve : Value} {q : Nat} {w w' : World} (t : Gr g h S m vp vm ve q w) (o : Only none_ w w') : Gr g h S m vp vm ve q w' := ⟨t.mb.keep o, t.sh.only o (fun h => h)⟩
set_option maxHeartbeats 3200000 in
theorem wi_good (S : Nat → Prop) (m : Ms) (vp vm ve : Value) (w : World) (hk : Kd w) (hl : Ml S m vp vm ve w) (hn : m.ps.length ≤ 4096 ∧ m.ms.length ≤ 4096 ∧ m.es.length ≤ 4096) :
    Calls Tryz.prog 18 #[.agg #[.int .i64 m.kd, .int .i64 m.pe, .int .i64 m.hp, .bool m.hi, vp, .int .i64 m.nu, .int .u64 (m.su : Int), .int .i64 m.mr.a.c, .int .i64 m.mr.a.s, .string m.mr.k, vm, ve]] w fun E w' => E = .returned (.int .i64 (wGood m)) ∧ Only none_ w w' := by
  have HL := Lib.hid hl
  obtain ⟨⟨A1, c1, e1, _⟩, ⟨A2, c2, e2, _⟩, ⟨A3, c3, e3, _⟩⟩ := hl
  subst e1 e2 e3
  have B := Lib.hid (Blk.new w 45 #[.int .i64 m.kd, .int .i64 m.pe, .int .i64 m.hp, .bool m.hi, .slice A1 m.ps.length c1, .int .i64 m.nu, .int .u64 (m.su : Int), .int .i64 m.mr.a.c, .int .i64 m.mr.a.s, .string m.mr.k, .slice A2 m.ms.length c2, .slice A3 m.es.length c3])
  have O := Lib.hid ((Only.refl none_ w).alloc (.cells #[.int .i64 m.kd, .int .i64 m.pe, .int .i64 m.hp, .bool m.hi, .slice A1 m.ps.length c1, .int .i64 m.nu, .int .u64 (m.su : Int), .int .i64 m.mr.a.c, .int .i64 m.mr.a.s, .string m.mr.k, .slice A2 m.ms.length c2, .slice A3 m.es.length c3] 45))
  have KD := Lib.hid (hk.keep O.out)
  have k0 := B.out.cell_ (i := 0) rfl
  have HN := Lib.hid hn
  clear hk hn
  by_cases hkd : wKind m.kd = true
  · obtain ⟨q, hq⟩ : ∃ q : Nat, m.kd = q := ⟨m.kd.toNat, by simp only [wKind, Bool.and_eq_true, decide_eq_true_eq] at hkd; omega⟩
    have hq2 : 1 ≤ q ∧ q ≤ 19 := by simp only [wKind, Bool.and_eq_true, decide_eq_true_eq] at hkd; omega
    have HK := Lib.hid hkd
    have HG : Hid (wGood m = if wOk m = true then 0 else 4) := by rw [Hid, wGood, if_pos hkd]
    have HQ := Lib.hid hq
    have MB : Hid (Mb 45 w.heap.size S m (.slice A1 m.ps.length c1) (.slice A2 m.ms.length c2) (.slice A3 m.es.length c3) _) := ⟨B.out, HL.out.keep O.out⟩
    rw [hq] at k0 hkd B O KD
    generalize hwa : w.alloc (.cells #[.int .i64 m.kd, .int .i64 m.pe, .int .i64 m.hp, .bool m.hi, .slice A1 m.ps.length c1, .int .i64 m.nu, .int .u64 (m.su : Int), .int .i64 m.mr.a.c, .int .i64 m.mr.a.s, .string m.mr.k, .slice A2 m.ms.length c2, .slice A3 m.es.length c3] 45) = wa at MB
    rw [hq] at hwa ⊢
    clear hq
    have hq3 : (q : Int) < 20 := by omega
    have hq4 : (0 : Int) ≤ q := by omega
    have HC : Hid (∀ j u, (#[.string (wNm q), .int .i64 (wFld q), .int .i64 (wLo q), .int .i64 (wUp q)] : Array Value).toList[j]? = some u → wa.cell? ⟨0, q * 4 + j, none⟩ = some u) := fun j u hu => by
      rw [← hwa]; exact KD.out.at_ q (by omega) j u hu
    rw [hwa] at B O KD k0
    have HWA := Lib.hid hwa
    clear hwa
    go_enter Tryz.func18, Tryz.ntmps18
    go_upto_region 1 with fail
    rw [HWA.out]
    go_wp2_with (first
      | (go_at_call 66; refine (wi_kind _ _).mono ?_; rintro E w9 ⟨rfl, rfl⟩; rw [hkd])
      | (refine wpl_piece rfl 139 _ rfl 0 (q * 4) rfl #[.string (wNm q), .int .i64 (wFld q), .int .i64 (wLo q), .int .i64 (wUp q)] _ HC.out Tryz.underlying139 rfl (by kernel_rfl) ?_)
      | (refine wpl_new rfl rfl 139 rfl _ _ rfl #[.string (wNm q), .int .i64 (wFld q), .int .i64 (wLo q), .int .i64 (wUp q)] rfl rfl (by kernel_rfl) (sh_one _ _ _ _) ?_)
      | (go_at_call 67; refine (wi_rules _).mono ?_; rintro E w2 ⟨rfl, o2⟩; have O2 := Lib.hid o2; clear o2))
    have GR : Hid (Gr w.heap.size wa.heap.size S m (.slice A1 m.ps.length c1) (.slice A2 m.ms.length c2) (.slice A3 m.es.length c3) q w2) :=
      ⟨MB.out.keep (((Only.refl none_ wa).alloc _).trans O2.out), (Blk.new wa _ _).only O2.out (fun h => h)⟩
    have OW : Hid (Only none_ w w2) := O.out.trans (((Only.refl none_ wa).alloc _).trans O2.out)
    clear MB B O KD k0 HC O2 HWA
    generalize w.heap.size = g at *
    generalize wa.heap.size = h at *
    go_loopw [15] (fun s15 wr => ∃ i : Nat, i ≤ 9 ∧ s15 = .int .i64 i ∧ Only none_ w2 wr ∧ (List.range i).all (wField m) = true) (fun s15 _ => 9 - (intOf s15).toNat)
    case atStart => exact ⟨0, by omega, rfl, Only.refl _ _, by simp⟩
    case round =>
      obtain ⟨i, hi, rfl, o, hall⟩ := hrel
      have HAL := Lib.hid hall
      have OR := Lib.hid o
      have T := Lib.hid (GR.out.keep o)
      clear hall o
      by_cases hlt : i < 9
      · have hlt' : (i : Int) < 9 := by omega
        have ix := fun w => run_index_rule i hlt w
        have en := fun a w => none_enter i hlt a w
        have em := fun a w => may_enter i hlt a w
        have HL9 := Lib.hid hlt
        obtain ⟨z, hz⟩ : ∃ z : Int, z = 2 ^ i := ⟨_, rfl⟩
        have HH : Hid ((bits BinOp.and IntKind.i64 (wFld q) z != 0) = wHas q i) := by rw [Hid, hz]; exact has_tab q (by omega) i hlt
        have HZ := Lib.hid hz
        obtain ⟨hb, hhb⟩ : ∃ b, wHas q i = b := ⟨_, rfl⟩
        rw [hhb] at HH
        have HF : Hid (wField m i = if hb = true then wMay m (wLo q) (wUp q) i else wNone m i) := by rw [Hid, wField, HQ.out, hhb]
        clear hz hhb
        have T6 := Lib.hid (T.out.keep ((Only.refl none_ wr).alloc (.cells #[.func (.func (nfR i)) #[] #[], .func (.func (mfR i)) #[] #[]] 152)))
        have y0 := T6.out.sh.cell_ (i := 0) rfl
        have y1 := T6.out.sh.cell_ (i := 1) rfl
        have y2 := T6.out.sh.cell_ (i := 2) rfl
        have y3 := T6.out.sh.cell_ (i := 3) rfl
        have O6 := Lib.hid (OR.out.alloc (.cells #[.func (.func (nfR i)) #[] #[], .func (.func (mfR i)) #[] #[]] 152))
        have R6 := Lib.hid (Blk.new wr 152 #[.func (.func (nfR i)) #[] #[], .func (.func (mfR i)) #[] #[]])
        have N6 := Lib.hid (Blk.new wr 152 #[.nilFunc, .nilFunc])
        have tok1 : True := trivial
        cases hb
        · rw [if_neg (by decide)] at HF
          obtain ⟨pb, hp⟩ : ∃ pb, wNone m i = pb := ⟨_, rfl⟩
          have HP := Lib.hid hp
          rw [hp] at HF
          clear hp
          cases pb
          · have HX : Hid (wOk m = false) := by
              rw [Hid, Bool.eq_false_iff]
              intro ha
              have := List.all_eq_true.1 ha i (List.mem_range.2 HL9.out)
              rw [HF.out] at this; cases this
            go_upto_region 7 with (refine wpList_store_row rfl 152 _ _ rfl wr.heap.size #[.func (.func (nfR i)) #[] #[], .func (.func (mfR i)) #[] #[]] rfl rfl 152 _ N6.out (by kernel_rfl) rfl (by simp [Value.oneCell']) ?_; rw [setRow_alloc])
            go_wp2_with (first
              | (go_at_call 61; have _t := tok1; clear tok1; refine (wi_has _ _ _ _ i _ z HL9.out rfl HZ.out _).mono ?_; rintro E w9 ⟨rfl, o9⟩; rw [HH.out]
                 have T9 := Lib.hid (T6.out.keep o9)
                 have O9 := Lib.hid (O6.out.trans o9)
                 have R9 := Lib.hid (R6.out.only o9 (fun h => h))
                 have x0 := R9.out.cell_ (i := 0) rfl
                 have x1 := R9.out.cell_ (i := 1) rfl
                 have z0 := T9.out.sh.cell_ (i := 0) rfl
                 have z1 := T9.out.sh.cell_ (i := 1) rfl
                 have z2 := T9.out.sh.cell_ (i := 2) rfl
                 have z3 := T9.out.sh.cell_ (i := 3) rfl
                 clear o9
                 have tok2 : True := trivial)
              | (go_at_call 61; have _t := tok2; clear tok2; refine (wi_has _ _ _ _ i _ z HL9.out rfl HZ.out _).mono ?_; rintro E w8 ⟨rfl, o8⟩; rw [HH.out]
                 have T8 := Lib.hid (T9.out.keep o8)
                 have O8 := Lib.hid (O9.out.trans o8)
                 have R8 := Lib.hid (R9.out.only o8 (fun h => h))
                 have v0 := R8.out.cell_ (i := 0) rfl
                 have v1 := R8.out.cell_ (i := 1) rfl
                 clear o8)
              | (with_reducible refine (wi_none i HL9.out _ S m _ _ _ _ T8.out.mb).mono ?_; rintro E w7 ⟨rfl, o7⟩; rw [HP.out]; have O7 := Lib.hid (O8.out.trans o7); clear o7))
            go_ret
            exact ⟨by rw [HG.out, HX.out]; rfl, OW.out.trans O7.out⟩
          · go_upto_region 7 with (refine wpList_store_row rfl 152 _ _ rfl wr.heap.size #[.func (.func (nfR i)) #[] #[], .func (.func (mfR i)) #[] #[]] rfl rfl 152 _ N6.out (by kernel_rfl) rfl (by simp [Value.oneCell']) ?_; rw [setRow_alloc])
            go_wp2_with (first
              | (go_at_call 61; have _t := tok1; clear tok1; refine (wi_has _ _ _ _ i _ z HL9.out rfl HZ.out _).mono ?_; rintro E w9 ⟨rfl, o9⟩; rw [HH.out]
                 have T9 := Lib.hid (T6.out.keep o9)
                 have O9 := Lib.hid (O6.out.trans o9)
                 have R9 := Lib.hid (R6.out.only o9 (fun h => h))
                 have x0 := R9.out.cell_ (i := 0) rfl
                 have x1 := R9.out.cell_ (i := 1) rfl
                 have z0 := T9.out.sh.cell_ (i := 0) rfl
                 have z1 := T9.out.sh.cell_ (i := 1) rfl
                 have z2 := T9.out.sh.cell_ (i := 2) rfl
                 have z3 := T9.out.sh.cell_ (i := 3) rfl
                 clear o9
                 have tok2 : True := trivial)
              | (go_at_call 61; have _t := tok2; clear tok2; refine (wi_has _ _ _ _ i _ z HL9.out rfl HZ.out _).mono ?_; rintro E w8 ⟨rfl, o8⟩; rw [HH.out]
                 have T8 := Lib.hid (T9.out.keep o8)
                 have O8 := Lib.hid (O9.out.trans o8)
                 have R8 := Lib.hid (R9.out.only o8 (fun h => h))
                 have v0 := R8.out.cell_ (i := 0) rfl
                 have v1 := R8.out.cell_ (i := 1) rfl
                 clear o8)
              | (with_reducible refine (wi_none i HL9.out _ S m _ _ _ _ T8.out.mb).mono ?_; rintro E w7 ⟨rfl, o7⟩; rw [HP.out]; have O7 := Lib.hid (O8.out.trans o7); clear o7))
            go_roundw
            case rel => exact ⟨i + 1, by omega, by go_num, O7.out, by rw [List.range_succ, List.all_append, HAL.out, List.all_cons, List.all_nil, HF.out]; rfl⟩
            case measure => simp [intOf]; omega
        · rw [if_pos rfl] at HF
          obtain ⟨pb, hp⟩ : ∃ pb, wMay m (wLo q) (wUp q) i = pb := ⟨_, rfl⟩
          have HP := Lib.hid hp
          rw [hp] at HF
          clear hp
          cases pb
          · have HX : Hid (wOk m = false) := by
              rw [Hid, Bool.eq_false_iff]
              intro ha
              have := List.all_eq_true.1 ha i (List.mem_range.2 HL9.out)
              rw [HF.out] at this; cases this
            go_upto_region 7 with (refine wpList_store_row rfl 152 _ _ rfl wr.heap.size #[.func (.func (nfR i)) #[] #[], .func (.func (mfR i)) #[] #[]] rfl rfl 152 _ N6.out (by kernel_rfl) rfl (by simp [Value.oneCell']) ?_; rw [setRow_alloc])
            go_wp2_with (first
              | (go_at_call 61; have _t := tok1; clear tok1; refine (wi_has _ _ _ _ i _ z HL9.out rfl HZ.out _).mono ?_; rintro E w9 ⟨rfl, o9⟩; rw [HH.out]
                 have T9 := Lib.hid (T6.out.keep o9)
                 have O9 := Lib.hid (O6.out.trans o9)
                 have R9 := Lib.hid (R6.out.only o9 (fun h => h))
                 have x0 := R9.out.cell_ (i := 0) rfl
                 have x1 := R9.out.cell_ (i := 1) rfl
                 have z0 := T9.out.sh.cell_ (i := 0) rfl
                 have z1 := T9.out.sh.cell_ (i := 1) rfl
                 have z2 := T9.out.sh.cell_ (i := 2) rfl
                 have z3 := T9.out.sh.cell_ (i := 3) rfl
                 clear o9
                 have tok2 : True := trivial)
              | (with_reducible refine (wi_may i HL9.out _ S m _ _ _ _ _ _ _ _ T9.out.mb HN.out).mono ?_; rintro E w7 ⟨rfl, o7⟩; rw [HP.out]; have O7 := Lib.hid (O9.out.trans o7)
                 have T7 := Lib.hid (T9.out.keep o7)
                 have r0 := T7.out.sh.cell_ (i := 0) rfl
                 have r1 := T7.out.sh.cell_ (i := 1) rfl
                 have r2 := T7.out.sh.cell_ (i := 2) rfl
                 have r3 := T7.out.sh.cell_ (i := 3) rfl
                 clear o7))
            go_ret
            exact ⟨by rw [HG.out, HX.out]; rfl, OW.out.trans O7.out⟩
          · go_upto_region 7 with (refine wpList_store_row rfl 152 _ _ rfl wr.heap.size #[.func (.func (nfR i)) #[] #[], .func (.func (mfR i)) #[] #[]] rfl rfl 152 _ N6.out (by kernel_rfl) rfl (by simp [Value.oneCell']) ?_; rw [setRow_alloc])
            go_wp2_with (first
              | (go_at_call 61; have _t := tok1; clear tok1; refine (wi_has _ _ _ _ i _ z HL9.out rfl HZ.out _).mono ?_; rintro E w9 ⟨rfl, o9⟩; rw [HH.out]
                 have T9 := Lib.hid (T6.out.keep o9)
                 have O9 := Lib.hid (O6.out.trans o9)
                 have R9 := Lib.hid (R6.out.only o9 (fun h => h))
                 have x0 := R9.out.cell_ (i := 0) rfl
                 have x1 := R9.out.cell_ (i := 1) rfl
                 have z0 := T9.out.sh.cell_ (i := 0) rfl
                 have z1 := T9.out.sh.cell_ (i := 1) rfl
                 have z2 := T9.out.sh.cell_ (i := 2) rfl
                 have z3 := T9.out.sh.cell_ (i := 3) rfl
                 clear o9
                 have tok2 : True := trivial)
              | (with_reducible refine (wi_may i HL9.out _ S m _ _ _ _ _ _ _ _ T9.out.mb HN.out).mono ?_; rintro E w7 ⟨rfl, o7⟩; rw [HP.out]; have O7 := Lib.hid (O9.out.trans o7)
                 have T7 := Lib.hid (T9.out.keep o7)
                 have r0 := T7.out.sh.cell_ (i := 0) rfl
                 have r1 := T7.out.sh.cell_ (i := 1) rfl
                 have r2 := T7.out.sh.cell_ (i := 2) rfl
                 have r3 := T7.out.sh.cell_ (i := 3) rfl
                 clear o7)
              | (go_at_call 61; have _t := tok2; clear tok2; refine (wi_has _ _ _ _ i _ z HL9.out rfl HZ.out _).mono ?_; rintro E w8 ⟨rfl, o8⟩; rw [HH.out]
                 have O8 := Lib.hid (O7.out.trans o8)
                 clear o8))
            go_roundw
            case rel => exact ⟨i + 1, by omega, by go_num, O8.out, by rw [List.range_succ, List.all_append, HAL.out, List.all_cons, List.all_nil, HF.out]; rfl⟩
            case measure => simp [intOf]; omega
      · have he : List.range i = List.range 9 := by rw [show i = 9 by omega]
        have HX : Hid (wOk m = true) := by rw [Hid, wOk, ← he]; exact HAL.out
        have hge : ¬ ((i : Int) < 9) := by omega
        clear HAL he
        go_wp2_with fail
        go_ret
        exact ⟨by rw [HG.out, HX.out]; rfl, OW.out.trans OR.out⟩
  · have HG : Hid (wGood m = 1) := by rw [Hid, wGood, if_neg hkd]
    have hf : wKind m.kd = false := by simpa using hkd
    clear hkd
    go_enter Tryz.func18, Tryz.ntmps18
    go_wp2_with (first
      | (go_at_call 66; refine (wi_kind _ _).mono ?_; rintro E w9 ⟨rfl, rfl⟩; rw [hf]))
    go_ret
    exact ⟨by rw [HG.out]; rfl, O.out⟩
end Go.Proofs.YtlieolehpmobfaaGreatDoor
end
section
namespace Go.Proofs.YtlieolehpmobfaaGreatDoor
open Go.RowKit
set_option linter.all false
set_option maxRecDepth 100000
theorem manyR_len {α : Type} {f : Tkn α} (hf : ∀ c bs, (f c bs).2.1.length ≤ bs.length) (c : Int) (bs : List UInt8) : (manyR f c bs).2.1.length ≤ bs.length :=
  Nat.le_trans (listR_len hf _ _ _) (lenR_len c bs)
theorem manyR_few {α : Type} (f : Tkn α) (c : Int) (bs : List UInt8) : (manyR f c bs).2.2.length ≤ 8 := by
  unfold manyR; rw [listR_count]; exact lenR_lt c bs
theorem fieldR_len (i : Nat) (c : Int) (bs : List UInt8) (m : Ms) : (fieldR i c bs m).2.1.length ≤ bs.length := by
  unfold fieldR
  split
  · exact nodeR_len c bs
  · exact nodeR_len c bs
  · exact flagR_len c bs
  · exact manyR_len nodeR_len c bs
  · exact numR_len c bs 4
  · exact numR_len c bs 8
  · exact markR_len c bs
  · exact manyR_len markR_len c bs
  · exact manyR_len entR_len c bs
theorem runR_len (k : Int) (bs : List UInt8) : ∀ n, (runR k bs n).2.1.length ≤ bs.length
  | 0 => Nat.le_refl _
  | n + 1 => by
    show (if wHas k n = true then fieldR n (runR k bs n).1 (runR k bs n).2.1 (runR k bs n).2.2 else runR k bs n).2.1.length ≤ _
    split
    · exact Nat.le_trans (fieldR_len _ _ _ _) (runR_len k bs n)
    · exact runR_len k bs n
def Sml (m : Ms) : Prop := m.ps.length ≤ 8 ∧ m.ms.length ≤ 8 ∧ m.es.length ≤ 8
theorem fieldR_small (i : Nat) (c : Int) (bs : List UInt8) (m : Ms) (h : Sml m) : Sml (fieldR i c bs m).2.2 := by
  unfold fieldR
  split
  · exact h
  · exact h
  · exact h
  · exact ⟨manyR_few _ _ _, h.2⟩
  · exact h
  · exact h
  · exact h
  · exact ⟨h.1, manyR_few _ _ _, h.2.2⟩
  · exact ⟨h.1, h.2.1, manyR_few _ _ _⟩
theorem runR_small (k : Int) (bs : List UInt8) : ∀ n, Sml (runR k bs n).2.2
  | 0 => ⟨by simp [runR, msZero], by simp [runR, msZero], by simp [runR, msZero]⟩
  | n + 1 => by
    show Sml (if wHas k n = true then fieldR n (runR k bs n).1 (runR k bs n).2.1 (runR k bs n).2.2 else runR k bs n).2.2
    split
    · exact fieldR_small _ _ _ _ (runR_small k bs n)
    · exact runR_small k bs n
theorem Ml.shape {S : Nat → Prop} {m : Ms} {vp vm ve : Value} {w : World} (h : Ml S m vp vm ve w) : ∃ A1 c1 A2 c2 A3 c3, vp = .slice A1 m.ps.length c1 ∧ vm = .slice A2 m.ms.length c2 ∧ ve = .slice A3 m.es.length c3 := by
  obtain ⟨⟨A1, c1, e1, _⟩, ⟨A2, c2, e2, _⟩, ⟨A3, c3, e3, _⟩⟩ := h
  exact ⟨A1, c1, A2, c2, A3, c3, e1, e2, e3⟩
set_option maxHeartbeats 6400000 in
theorem wi_decode (kd : Int) (A : Option Addr) (L c : Nat) (bs : List UInt8) (S0 : Nat → Prop) (w : World) (hx : Byt w S0 (.slice A L c) bs) (hm : bs.length ≤ 140737488355328) (hk : Kd w) :
    Calls Tryz.prog 23 #[.int .i64 kd, .slice A L c] w fun e w' => ∃ vp vm ve, e = .returned (.tuple #[.agg #[.int .i64 (wdM kd bs).kd, .int .i64 (wdM kd bs).pe, .int .i64 (wdM kd bs).hp, .bool (wdM kd bs).hi, vp, .int .i64 (wdM kd bs).nu, .int .u64 ((wdM kd bs).su : Int), .int .i64 (wdM kd bs).mr.a.c, .int .i64 (wdM kd bs).mr.a.s, .string (wdM kd bs).mr.k, vm, ve], .int .i64 (wdC kd bs)]) ∧
      Ml (fun b => w.heap.size ≤ b) (wdM kd bs) vp vm ve w' ∧ Only none_ w w' := by
  have R0 := Lib.hid (Blk.new w 45 #[.int .i64 0, .int .i64 0, .int .i64 0, .bool false, .slice none 0 0, .int .i64 0, .int .u64 0, .int .i64 0, .int .i64 0, .string ⟨#[]⟩, .slice none 0 0, .slice none 0 0])
  have O0 := Lib.hid ((Only.refl none_ w).alloc (.cells #[.int .i64 0, .int .i64 0, .int .i64 0, .bool false, .slice none 0 0, .int .i64 0, .int .u64 0, .int .i64 0, .int .i64 0, .string ⟨#[]⟩, .slice none 0 0, .slice none 0 0] 45))
  have X0 := Lib.hid (hx.only O0.out (fun _ _ h => h))
  have K0 := Lib.hid (hk.keep O0.out)
  have HM := Lib.hid hm
  have Z0 : Hid ((w.alloc (.cells #[.int .i64 0, .int .i64 0, .int .i64 0, .bool false, .slice none 0 0, .int .i64 0, .int .u64 0, .int .i64 0, .int .i64 0, .string ⟨#[]⟩, .slice none 0 0, .slice none 0 0] 45)).heap.size = w.heap.size + 1) := by simp [Hid]
  by_cases hkd : wKind kd = true
  · obtain ⟨q, rfl⟩ : ∃ q : Nat, kd = q := ⟨kd.toNat, by simp only [wKind, Bool.and_eq_true, decide_eq_true_eq] at hkd; omega⟩
    have hq2 : 1 ≤ q ∧ q ≤ 19 := by simp only [wKind, Bool.and_eq_true, decide_eq_true_eq] at hkd; omega
    have HC : Hid (wdC q bs = if doneCode (runR q bs 9).1 (runR q bs 9).2.1 = 0 then wGood (runR q bs 9).2.2 else doneCode (runR q bs 9).1 (runR q bs 9).2.1) := by rw [Hid, wdC, if_pos hkd]
    have HD : Hid (wdM q bs = if wdC q bs = 0 then (runR q bs 9).2.2 else msZero 0) := rfl
    have hq3 : (q : Int) < 20 := by omega
    have hq4 : (0 : Int) ≤ q := by omega
    have HLN : Hid (∀ i, (runR q bs i).2.1.length ≤ 140737488355328) := fun i => Nat.le_trans (runR_len q bs i) hm
    have HSM : Hid (∀ i, Sml (runR q bs i).2.2) := fun i => runR_small q bs i
    have HKD : Hid (∀ i, (runR q bs i).2.2.kd = q) := fun i => runR_kd q bs i
    clear hx hm hk
    obtain ⟨w0, hw0⟩ : ∃ w0, w.alloc (.cells #[.int .i64 0, .int .i64 0, .int .i64 0, .bool false, .slice none 0 0, .int .i64 0, .int .u64 0, .int .i64 0, .int .i64 0, .string ⟨#[]⟩, .slice none 0 0, .slice none 0 0] 45) = w0 := ⟨_, rfl⟩
    have HW0 := Lib.hid hw0
    rw [hw0] at R0 O0 X0 K0 Z0
    clear hw0
    go_enter Tryz.func23, Tryz.ntmps23
    go_upto_region 1 with fail
    rw [HW0.out]
    go_wp2_with (first
      | (go_at_call 66; refine (wi_kind _ _).mono ?_; rintro E w9 ⟨rfl, rfl⟩; rw [hkd])
      | (go_at_call 74; refine (read_any _ bs S0 _ X0.out HM.out).mono ?_; rintro e w1 ⟨g, S, rfl, hg, r1, hS1, o1⟩
         have T1 : Hid (Td w0 g w1.heap.size S (msZero q) (.slice none 0 0) (.slice none 0 0) (.slice none 0 0) 0 bs (w1.alloc (.cells #[.int .i64 (msZero q).kd, .int .i64 (msZero q).pe, .int .i64 (msZero q).hp, .bool (msZero q).hi, .slice none 0 0, .int .i64 (msZero q).nu, .int .u64 ((msZero q).su : Int), .int .i64 (msZero q).mr.a.c, .int .i64 (msZero q).mr.a.s, .string (msZero q).mr.k, .slice none 0 0, .slice none 0 0] 45))) :=
           ⟨r1.only ((Only.refl none_ w1).alloc _) (fun h => h) (fun _ _ h => h), ⟨Blk.new w1 _ _, Ml.nil _ _ _⟩, o1.alloc _,
             ⟨hg, o1.size, by have := r1.lt; omega, fun h => by have := (hS1 _ h).2; omega⟩, fun b hb => ⟨by have := (hS1 b hb).2; rw [World.size_alloc]; omega, (hS1 b hb).1⟩⟩
         clear hg r1 hS1 o1)
      | (go_at_call 60; refine (wi_forms _).mono ?_; rintro E w2 ⟨rfl, o2⟩; have T2 := Lib.hid (T1.out.keep o2); clear o2))
    have NW : Hid (w.heap.size < w0.heap.size) := by have := Z0.out; simp only [Hid]; omega
    clear T1 HW0 Z0 X0
    generalize w1.heap.size = gm at *
    generalize hr0 : w.heap.size = r0 at *
    have HR0 : Hid (w.heap.size ≤ r0) := by rw [Hid, hr0]; exact Nat.le_refl _
    clear hr0
    go_loopw [21] (fun s21 wr => ∃ i : Nat, i ≤ 9 ∧ s21 = .int .i64 i ∧ ∃ vp vm ve, Td w0 g gm S (runR q bs i).2.2 vp vm ve (runR q bs i).1 (runR q bs i).2.1 wr) (fun s21 _ => 9 - (intOf s21).toNat)
    case atStart => exact ⟨0, by omega, rfl, _, _, _, T2.out⟩
    case round =>
      obtain ⟨i, hi, rfl, vp, vm, ve, t⟩ := hrel
      have T := Lib.hid t
      clear t
      by_cases hlt : i < 9
      · have hlt' : (i : Int) < 9 := by omega
        have ix := fun w => run_index_form i hlt w
        have et := fun a w => take_enter i hlt a w
        have HL9 := Lib.hid hlt
        obtain ⟨z, hz⟩ : ∃ z : Int, z = 2 ^ i := ⟨_, rfl⟩
        have HH : Hid ((bits BinOp.and IntKind.i64 (wFld q) z != 0) = wHas q i) := by rw [Hid, hz]; exact has_tab q (by omega) i hlt
        have HZ := Lib.hid hz
        obtain ⟨hb, hhb⟩ : ∃ b, wHas q i = b := ⟨_, rfl⟩
        rw [hhb] at HH
        have HS : Hid (runR q bs (i + 1) = if hb = true then fieldR i (runR q bs i).1 (runR q bs i).2.1 (runR q bs i).2.2 else runR q bs i) := by
          rw [← hhb]; rfl
        have T6 := Lib.hid (T.out.keep ((Only.refl none_ wr).alloc (.cells #[.func (.func (ptF i)) #[] #[], .func (.func (tkF i)) #[] #[]] 135)))
        have K6 := Lib.hid (K0.out.keep T6.out.ho)
        have HC6 : Hid (∀ j u, (#[.string (wNm q), .int .i64 (wFld q), .int .i64 (wLo q), .int .i64 (wUp q)] : Array Value).toList[j]? = some u → (wr.alloc (.cells #[.func (.func (ptF i)) #[] #[], .func (.func (tkF i)) #[] #[]] 135)).cell? ⟨0, q * 4 + j, none⟩ = some u) := fun j u hu => K6.out.at_ q (by omega) j u hu
        have R6 := Lib.hid (Blk.new wr 135 #[.func (.func (ptF i)) #[] #[], .func (.func (tkF i)) #[] #[]])
        have N6 := Lib.hid (Blk.new wr 135 #[.nilFunc, .nilFunc])
        have HL6 := Lib.hid (HLN.out i)
        clear hz hhb
        go_upto_region 7 with (refine wpList_store_row rfl 135 _ _ rfl wr.heap.size #[.func (.func (ptF i)) #[] #[], .func (.func (tkF i)) #[] #[]] rfl rfl 135 _ N6.out (by kernel_rfl) rfl (by simp [Value.oneCell']) ?_; rw [setRow_alloc])
        cases hb
        · rw [if_neg (by decide)] at HS
          go_wp2_with (first
            | (refine wpl_piece rfl 139 _ rfl 0 (q * 4) rfl #[.string (wNm q), .int .i64 (wFld q), .int .i64 (wLo q), .int .i64 (wUp q)] _ HC6.out Tryz.underlying139 rfl (by kernel_rfl) ?_)
            | (go_at_call 61; refine (wi_has _ _ _ _ i _ z HL9.out rfl HZ.out _).mono ?_; rintro E w9 ⟨rfl, o9⟩; rw [HH.out]; have T9 := Lib.hid (T6.out.keep o9); clear o9))
          go_roundw
          case rel => exact ⟨i + 1, by omega, by go_num, vp, vm, ve, by rw [HS.out]; exact T9.out⟩
          case measure => simp [intOf]; omega
        · rw [if_pos rfl] at HS
          go_wp2_with (first
            | (refine wpl_piece rfl 139 _ rfl 0 (q * 4) rfl #[.string (wNm q), .int .i64 (wFld q), .int .i64 (wLo q), .int .i64 (wUp q)] _ HC6.out Tryz.underlying139 rfl (by kernel_rfl) ?_)
            | (go_at_call 61; refine (wi_has _ _ _ _ i _ z HL9.out rfl HZ.out _).mono ?_; rintro E w9 ⟨rfl, o9⟩; rw [HH.out]
               have T9 := Lib.hid (T6.out.keep o9)
               have R9 := Lib.hid (R6.out.only o9 (fun h => h))
               have x0 := R9.out.cell_ (i := 0) rfl
               have x1 := R9.out.cell_ (i := 1) rfl
               clear o9)
            | (with_reducible refine (wt_field i HL9.out _ g gm S _ _ _ _ _ _ _ T9.out HL6.out).mono ?_; rintro E w8 ⟨rfl, vp', vm', ve', t8⟩; have T8 := Lib.hid t8; clear t8))
          go_roundw
          case rel => exact ⟨i + 1, by omega, by go_num, vp', vm', ve', by rw [HS.out]; exact T8.out⟩
          case measure => simp [intOf]; omega
      · obtain rfl : i = 9 := by omega
        have hsm := HSM.out 9
        have hk9 := HKD.out 9
        have HOL : Hid (∀ b, Lp w0.heap.size g gm S b → r0 ≤ b) := fun b hb => by have := hb.1; have := NW.out; omega
        obtain ⟨⟨c9, b9, m9⟩, h9⟩ : ∃ a, runR q bs 9 = a := ⟨_, rfl⟩
        rw [h9] at T HC HD hsm hk9
        dsimp only at T HC HD hsm hk9
        obtain ⟨d, hd⟩ : ∃ d, doneCode c9 b9 = d := ⟨_, rfl⟩
        rw [hd] at HC
        have HDD := Lib.hid hd
        have hge : ¬ (((9 : Nat) : Int) < 9) := by omega
        obtain ⟨A1, c1, A2, c2, A3, c3, e1, e2, e3⟩ := T.out.mb.ml.shape
        subst e1 e2 e3
        have SM : Hid (m9.ps.length ≤ 4096 ∧ m9.ms.length ≤ 4096 ∧ m9.es.length ≤ 4096) := ⟨by have := hsm.1; omega, by have := hsm.2.1; omega, by have := hsm.2.2; omega⟩
        have KK := Lib.hid hk9
        clear HSM HKD HLN h9 hd hsm hk9
        by_cases hd0 : d = 0
        · obtain ⟨gd, hgd⟩ : ∃ gd, wGood m9 = gd := ⟨_, rfl⟩
          have HGD := Lib.hid hgd
          rw [hgd, if_pos hd0] at HC
          subst hd0
          by_cases hg0 : gd = 0
          · subst hg0
            have HX : Hid (wdM q bs = m9) := by rw [Hid, HD.out, HC.out, if_pos rfl]
            go_wp2_with (first
              | (go_at_call 75; refine (reader_done g S c9 b9 _ T.out.rd).mono ?_; rw [HDD.out]; rintro e w3 ⟨rfl, h3, o3⟩
                 have T3 := Lib.hid (T.out.step h3 o3)
                 have R3 := Lib.hid (R0.out.only T3.out.ho (fun h => h))
                 have K3 := Lib.hid (K0.out.keep T3.out.ho)
                 clear h3 o3)
              | (refine wpl_load rfl 45 _ rfl gm rfl 45 #[.int .i64 m9.kd, .int .i64 m9.pe, .int .i64 m9.hp, .bool m9.hi, .slice A1 m9.ps.length c1, .int .i64 m9.nu, .int .u64 (m9.su : Int), .int .i64 m9.mr.a.c, .int .i64 m9.mr.a.s, .string m9.mr.k, .slice A2 m9.ms.length c2, .slice A3 m9.es.length c3] _ T3.out.mb.bx Tryz.underlying45 rfl (by kernel_rfl) ?_)
              | (go_at_call 18; refine (wi_good _ m9 _ _ _ _ K3.out T3.out.mb.ml SM.out).mono ?_; rw [HGD.out]; rintro e w4 ⟨rfl, o4⟩
                 have T4 := Lib.hid (T3.out.keep o4)
                 have R4 := Lib.hid (R3.out.only o4 (fun h => h))
                 clear o4)
              | (refine wpl_load rfl 45 _ rfl gm rfl 45 #[.int .i64 m9.kd, .int .i64 m9.pe, .int .i64 m9.hp, .bool m9.hi, .slice A1 m9.ps.length c1, .int .i64 m9.nu, .int .u64 (m9.su : Int), .int .i64 m9.mr.a.c, .int .i64 m9.mr.a.s, .string m9.mr.k, .slice A2 m9.ms.length c2, .slice A3 m9.es.length c3] _ T4.out.mb.bx Tryz.underlying45 rfl (by kernel_rfl) ?_)
              | (refine wpList_store_row rfl 45 _ _ rfl r0 #[.int .i64 m9.kd, .int .i64 m9.pe, .int .i64 m9.hp, .bool m9.hi, .slice A1 m9.ps.length c1, .int .i64 m9.nu, .int .u64 (m9.su : Int), .int .i64 m9.mr.a.c, .int .i64 m9.mr.a.s, .string m9.mr.k, .slice A2 m9.ms.length c2, .slice A3 m9.es.length c3] rfl rfl 45 _ R4.out (by kernel_rfl) rfl (ms_one _ _ _ _ _ _ _ _ _ _) ?_
                 have R5 := Lib.hid (R4.out.setRow #[.int .i64 m9.kd, .int .i64 m9.pe, .int .i64 m9.hp, .bool m9.hi, .slice A1 m9.ps.length c1, .int .i64 m9.nu, .int .u64 (m9.su : Int), .int .i64 m9.mr.a.c, .int .i64 m9.mr.a.s, .string m9.mr.k, .slice A2 m9.ms.length c2, .slice A3 m9.es.length c3])
                 have O5 := Lib.hid ((O0.out.trans T4.out.ho).setRow (g := r0) (.inr HR0.out) #[.int .i64 m9.kd, .int .i64 m9.pe, .int .i64 m9.hp, .bool m9.hi, .slice A1 m9.ps.length c1, .int .i64 m9.nu, .int .u64 (m9.su : Int), .int .i64 m9.mr.a.c, .int .i64 m9.mr.a.s, .string m9.mr.k, .slice A2 m9.ms.length c2, .slice A3 m9.es.length c3])
                 have M5 := Lib.hid ((Only.refl (one r0) w4).setRow (g := r0) (.inl rfl) #[.int .i64 m9.kd, .int .i64 m9.pe, .int .i64 m9.hp, .bool m9.hi, .slice A1 m9.ps.length c1, .int .i64 m9.nu, .int .u64 (m9.su : Int), .int .i64 m9.mr.a.c, .int .i64 m9.mr.a.s, .string m9.mr.k, .slice A2 m9.ms.length c2, .slice A3 m9.es.length c3])))
            refine bodyPost_ret (results_cell_tmp rfl _ _ r0 45 _ _ rfl R5.out Tryz.underlying45 rfl (by kernel_rfl) (.int .i64 0) rfl) rfl ?_
            rw [HX.out, HC.out]
            exact ⟨_, _, _, rfl, (T4.out.mb.ml.only M5.out (fun b hb h => by have h' : b = r0 := h; have := hb.1; have := NW.out; omega)).mono (fun b _ hb => Nat.le_trans HR0.out (HOL.out b hb)), O5.out⟩
          · have HX : Hid (wdM q bs = msZero 0) := by rw [Hid, HD.out, HC.out, if_neg hg0]
            have hgb : (gd != 0) = true := by simpa using hg0
            clear hg0
            go_wp2_with (first
              | (go_at_call 75; refine (reader_done g S c9 b9 _ T.out.rd).mono ?_; rw [HDD.out]; rintro e w3 ⟨rfl, h3, o3⟩
                 have T3 := Lib.hid (T.out.step h3 o3)
                 have R3 := Lib.hid (R0.out.only T3.out.ho (fun h => h))
                 have K3 := Lib.hid (K0.out.keep T3.out.ho)
                 clear h3 o3)
              | (refine wpl_load rfl 45 _ rfl gm rfl 45 #[.int .i64 m9.kd, .int .i64 m9.pe, .int .i64 m9.hp, .bool m9.hi, .slice A1 m9.ps.length c1, .int .i64 m9.nu, .int .u64 (m9.su : Int), .int .i64 m9.mr.a.c, .int .i64 m9.mr.a.s, .string m9.mr.k, .slice A2 m9.ms.length c2, .slice A3 m9.es.length c3] _ T3.out.mb.bx Tryz.underlying45 rfl (by kernel_rfl) ?_)
              | (go_at_call 18; refine (wi_good _ m9 _ _ _ _ K3.out T3.out.mb.ml SM.out).mono ?_; rw [HGD.out]; rintro e w4 ⟨rfl, o4⟩
                 have T4 := Lib.hid (T3.out.keep o4)
                 have R4 := Lib.hid (R3.out.only o4 (fun h => h))
                 clear o4)
              | (refine wpList_store_row rfl 45 _ _ rfl r0 #[.int .i64 0, .int .i64 0, .int .i64 0, .bool false, .slice none 0 0, .int .i64 0, .int .u64 0, .int .i64 0, .int .i64 0, .string ⟨#[]⟩, .slice none 0 0, .slice none 0 0] rfl rfl 45 _ R4.out (by kernel_rfl) rfl (by simp [Value.oneCell']) ?_
                 have R5 := Lib.hid (R4.out.setRow #[.int .i64 0, .int .i64 0, .int .i64 0, .bool false, .slice none 0 0, .int .i64 0, .int .u64 0, .int .i64 0, .int .i64 0, .string ⟨#[]⟩, .slice none 0 0, .slice none 0 0])
                 have O5 := Lib.hid ((O0.out.trans T4.out.ho).setRow (g := r0) (.inr HR0.out) #[.int .i64 0, .int .i64 0, .int .i64 0, .bool false, .slice none 0 0, .int .i64 0, .int .u64 0, .int .i64 0, .int .i64 0, .string ⟨#[]⟩, .slice none 0 0, .slice none 0 0])
                 have M5 := Lib.hid ((Only.refl (one r0) w4).setRow (g := r0) (.inl rfl) #[.int .i64 0, .int .i64 0, .int .i64 0, .bool false, .slice none 0 0, .int .i64 0, .int .u64 0, .int .i64 0, .int .i64 0, .string ⟨#[]⟩, .slice none 0 0, .slice none 0 0])))
            refine bodyPost_ret (results_cell_tmp rfl _ _ r0 45 _ _ rfl R5.out Tryz.underlying45 rfl (by kernel_rfl) (.int .i64 gd) rfl) rfl ?_
            rw [HX.out, HC.out]
            exact ⟨_, _, _, rfl, Ml.nil _ _ _, O5.out⟩
        · rw [if_neg hd0] at HC
          have hdb : (d != 0) = true := by simpa using hd0
          have HX : Hid (wdM q bs = msZero 0) := by rw [Hid, HD.out, HC.out, if_neg hd0]
          clear hd0
          go_wp2_with (first
            | (go_at_call 75; refine (reader_done g S c9 b9 _ T.out.rd).mono ?_; rw [HDD.out]; rintro e w3 ⟨rfl, h3, o3⟩
               have T3 := Lib.hid (T.out.step h3 o3)
               have R3 := Lib.hid (R0.out.only T3.out.ho (fun h => h))
               have K3 := Lib.hid (K0.out.keep T3.out.ho)
               clear h3 o3)
            | (refine wpList_store_row rfl 45 _ _ rfl r0 #[.int .i64 0, .int .i64 0, .int .i64 0, .bool false, .slice none 0 0, .int .i64 0, .int .u64 0, .int .i64 0, .int .i64 0, .string ⟨#[]⟩, .slice none 0 0, .slice none 0 0] rfl rfl 45 _ R3.out (by kernel_rfl) rfl (by simp [Value.oneCell']) ?_
               have R5 := Lib.hid (R3.out.setRow #[.int .i64 0, .int .i64 0, .int .i64 0, .bool false, .slice none 0 0, .int .i64 0, .int .u64 0, .int .i64 0, .int .i64 0, .string ⟨#[]⟩, .slice none 0 0, .slice none 0 0])
               have O5 := Lib.hid ((O0.out.trans T3.out.ho).setRow (g := r0) (.inr HR0.out) #[.int .i64 0, .int .i64 0, .int .i64 0, .bool false, .slice none 0 0, .int .i64 0, .int .u64 0, .int .i64 0, .int .i64 0, .string ⟨#[]⟩, .slice none 0 0, .slice none 0 0])
               have M5 := Lib.hid ((Only.refl (one r0) w3).setRow (g := r0) (.inl rfl) #[.int .i64 0, .int .i64 0, .int .i64 0, .bool false, .slice none 0 0, .int .i64 0, .int .u64 0, .int .i64 0, .int .i64 0, .string ⟨#[]⟩, .slice none 0 0, .slice none 0 0])))
          refine bodyPost_ret (results_cell_tmp rfl _ _ r0 45 _ _ rfl R5.out Tryz.underlying45 rfl (by kernel_rfl) (.int .i64 d) rfl) rfl ?_
          rw [HX.out, HC.out]
          exact ⟨_, _, _, rfl, Ml.nil _ _ _, O5.out⟩
  · have HC : Hid (wdC kd bs = 1) := by rw [Hid, wdC, if_neg hkd]
    have HX : Hid (wdM kd bs = msZero 0) := by rw [Hid, wdM, HC.out]; rfl
    have hf : wKind kd = false := by simpa using hkd
    clear hkd hx hm hk
    go_enter Tryz.func23, Tryz.ntmps23
    go_wp2_with (first
      | (go_at_call 66; refine (wi_kind _ _).mono ?_; rintro E w9 ⟨rfl, rfl⟩; rw [hf])
      | (refine wpList_store_row rfl 45 _ _ rfl w.heap.size #[.int .i64 0, .int .i64 0, .int .i64 0, .bool false, .slice none 0 0, .int .i64 0, .int .u64 0, .int .i64 0, .int .i64 0, .string ⟨#[]⟩, .slice none 0 0, .slice none 0 0] rfl rfl 45 _ R0.out (by kernel_rfl) rfl (by simp [Value.oneCell']) ?_
         have R5 := Lib.hid (R0.out.setRow #[.int .i64 0, .int .i64 0, .int .i64 0, .bool false, .slice none 0 0, .int .i64 0, .int .u64 0, .int .i64 0, .int .i64 0, .string ⟨#[]⟩, .slice none 0 0, .slice none 0 0])
         have O5 := Lib.hid (O0.out.setRow (g := w.heap.size) (.inr (Nat.le_refl _)) #[.int .i64 0, .int .i64 0, .int .i64 0, .bool false, .slice none 0 0, .int .i64 0, .int .u64 0, .int .i64 0, .int .i64 0, .string ⟨#[]⟩, .slice none 0 0, .slice none 0 0])))
    refine bodyPost_ret (results_cell_tmp rfl _ _ w.heap.size 45 _ _ rfl R5.out Tryz.underlying45 rfl (by kernel_rfl) (.int .i64 1) rfl) rfl ?_
    rw [HX.out, HC.out]
    exact ⟨_, _, _, rfl, Ml.nil _ _ _, O5.out⟩
end Go.Proofs.YtlieolehpmobfaaGreatDoor
end
section
namespace Go.Proofs.YtlieolehpmobfaaGreatDoor
open Go.RowKit
set_option linter.all false
set_option maxRecDepth 100000
theorem wUp_le (k : Int) : wUp k ≤ 8 := by unfold wUp; split <;> (try split) <;> omega
theorem fits_may {m : Ms} {lo up : Int} (hu : up ≤ 8) (hs : m.su < 18446744073709551616) {i : Nat} (hi : i < 9) (h : wMay m lo up i = true) : fits m i := by
  rcases nine_ways hi with rfl | rfl | rfl | rfl | rfl | rfl | rfl | rfl | rfl
  · exact h
  · have h' : (decide (0 ≤ m.hp) && decide (m.hp ≤ 8)) = true := h
    show 0 ≤ m.hp ∧ m.hp ≤ 8
    simpa using h'
  · trivial
  · have h' : (decide ((m.ps.length : Int) ≤ 8) && m.ps.all nodeB) = true := h
    simp only [Bool.and_eq_true, decide_eq_true_eq, List.all_eq_true] at h'
    exact ⟨by omega, h'.2⟩
  · have h' : (decide (0 ≤ m.nu) && decide (m.nu ≤ 4294967295)) = true := h
    show 0 ≤ m.nu ∧ m.nu ≤ 4294967295
    simpa using h'
  · exact hs
  · exact mkFit_of h
  · have h' : (manyB lo up m.ms.length && m.ms.all mkGood) = true := h
    simp only [manyB, Bool.and_eq_true, decide_eq_true_eq, List.all_eq_true] at h'
    exact ⟨by omega, fun x hx => mkFit_good (h'.2 x hx)⟩
  · have h' : (manyB lo up m.es.length && m.es.all enOk) = true := h
    simp only [manyB, Bool.and_eq_true, decide_eq_true_eq, List.all_eq_true] at h'
    exact ⟨by omega, h'.2⟩
theorem good_field {m : Ms} (h : wGood m = 0) {i : Nat} (hi : i < 9) : wField m i = true := by
  unfold wGood at h
  split at h
  · split at h
    · rename_i h2; exact List.all_eq_true.1 h2 i (List.mem_range.2 hi)
    · cases h
  · cases h
theorem good_kind {m : Ms} (h : wGood m = 0) : wKind m.kd = true := by
  unfold wGood at h
  split at h
  · assumption
  · cases h
theorem good_fits {m : Ms} (h : wGood m = 0) (hs : m.su < 18446744073709551616) {i : Nat} (hi : i < 9) (hh : wHas m.kd i = true) : fits m i := by
  have hf := good_field h hi
  unfold wField at hf
  rw [if_pos hh] at hf
  exact fits_may (wUp_le _) hs hi hf
theorem runB_len {m : Ms} (h : ∀ i, i < 9 → wHas m.kd i = true → fits m i) : ∀ n, n ≤ 9 → (runB m n).length ≤ n * 537
  | 0, _ => Nat.zero_le _
  | n + 1, hn => by
    have ih := runB_len h n (by omega)
    show (if wHas m.kd n = true then runB m n ++ fieldB m n else runB m n).length ≤ _
    split
    · rename_i hh
      have := fieldB_len (h n (by omega) hh)
      rw [List.length_append]; omega
    · omega
set_option maxHeartbeats 6400000 in
theorem wi_encode_no (S : Nat → Prop) (m : Ms) (vp vm ve : Value) (w : World) (hk : Kd w) (hl : Ml S m vp vm ve w) (hn : m.ps.length ≤ 4096 ∧ m.ms.length ≤ 4096 ∧ m.es.length ≤ 4096) (hg : wGood m ≠ 0) :
    Calls Tryz.prog 16 #[.agg #[.int .i64 m.kd, .int .i64 m.pe, .int .i64 m.hp, .bool m.hi, vp, .int .i64 m.nu, .int .u64 (m.su : Int), .int .i64 m.mr.a.c, .int .i64 m.mr.a.s, .string m.mr.k, vm, ve]] w fun E w' => E = .returned (.tuple #[.slice none 0 0, .int .i64 (wGood m)]) ∧ Only none_ w w' := by
  obtain ⟨A1, c1, A2, c2, A3, c3, e1, e2, e3⟩ := hl.shape
  subst e1 e2 e3
  have B := Lib.hid (Blk.new w 45 #[.int .i64 m.kd, .int .i64 m.pe, .int .i64 m.hp, .bool m.hi, .slice A1 m.ps.length c1, .int .i64 m.nu, .int .u64 (m.su : Int), .int .i64 m.mr.a.c, .int .i64 m.mr.a.s, .string m.mr.k, .slice A2 m.ms.length c2, .slice A3 m.es.length c3])
  have O := Lib.hid ((Only.refl none_ w).alloc (.cells #[.int .i64 m.kd, .int .i64 m.pe, .int .i64 m.hp, .bool m.hi, .slice A1 m.ps.length c1, .int .i64 m.nu, .int .u64 (m.su : Int), .int .i64 m.mr.a.c, .int .i64 m.mr.a.s, .string m.mr.k, .slice A2 m.ms.length c2, .slice A3 m.es.length c3] 45))
  have HG := Lib.hid (wi_good S m _ _ _ _ (hk.keep O.out) (hl.keep O.out) hn)
  obtain ⟨gd, hgd⟩ : ∃ gd, wGood m = gd := ⟨_, rfl⟩
  rw [hgd] at HG hg
  have HGD := Lib.hid hgd
  have hgb : (gd != 0) = true := by simpa using hg
  clear hk hl hn hg hgd
  go_enter Tryz.func16, Tryz.ntmps16
  go_wp2_with (first
    | (refine wpl_load rfl 45 _ rfl w.heap.size rfl 45 #[.int .i64 m.kd, .int .i64 m.pe, .int .i64 m.hp, .bool m.hi, .slice A1 m.ps.length c1, .int .i64 m.nu, .int .u64 (m.su : Int), .int .i64 m.mr.a.c, .int .i64 m.mr.a.s, .string m.mr.k, .slice A2 m.ms.length c2, .slice A3 m.es.length c3] _ B.out Tryz.underlying45 rfl (by kernel_rfl) ?_)
    | (go_at_call 18; refine HG.out.mono ?_; rintro E w2 ⟨rfl, o2⟩; have O2 := Lib.hid (O.out.trans o2); clear o2))
  go_ret2
  rw [HGD.out]
  exact ⟨rfl, O2.out⟩
set_option maxHeartbeats 6400000 in
theorem wi_encode_ok (S : Nat → Prop) (m : Ms) (vp vm ve : Value) (w : World) (hk : Kd w) (hl : Ml S m vp vm ve w) (hn : m.ps.length ≤ 4096 ∧ m.ms.length ≤ 4096 ∧ m.es.length ≤ 4096) (hg : wGood m = 0) (hs : m.su < 18446744073709551616) :
    Calls Tryz.prog 16 #[.agg #[.int .i64 m.kd, .int .i64 m.pe, .int .i64 m.hp, .bool m.hi, vp, .int .i64 m.nu, .int .u64 (m.su : Int), .int .i64 m.mr.a.c, .int .i64 m.mr.a.s, .string m.mr.k, vm, ve]] w fun E w' => ∃ A n c, E = .returned (.tuple #[.slice A n c, .int .i64 0]) ∧ w'.ownsRow w.heap.size 5 1 (.slice A n c) (wEnc m).length (byts (wEnc m)) ∧ Only none_ w w' := by
  have HFI : Hid (∀ i, i < 9 → wHas m.kd i = true → fits m i) := fun i hi hh => good_fits hg hs hi hh
  have hkd := good_kind hg
  obtain ⟨q, hq⟩ : ∃ q : Nat, m.kd = q := ⟨m.kd.toNat, by simp only [wKind, Bool.and_eq_true, decide_eq_true_eq] at hkd; omega⟩
  have hq2 : 1 ≤ q ∧ q ≤ 19 := by simp only [wKind, Bool.and_eq_true, decide_eq_true_eq] at hkd; omega
  have HQ := Lib.hid hq
  obtain ⟨A1, c1, A2, c2, A3, c3, e1, e2, e3⟩ := hl.shape
  subst e1 e2 e3
  have B := Lib.hid (Blk.new w 45 #[.int .i64 m.kd, .int .i64 m.pe, .int .i64 m.hp, .bool m.hi, .slice A1 m.ps.length c1, .int .i64 m.nu, .int .u64 (m.su : Int), .int .i64 m.mr.a.c, .int .i64 m.mr.a.s, .string m.mr.k, .slice A2 m.ms.length c2, .slice A3 m.es.length c3])
  have O := Lib.hid ((Only.refl none_ w).alloc (.cells #[.int .i64 m.kd, .int .i64 m.pe, .int .i64 m.hp, .bool m.hi, .slice A1 m.ps.length c1, .int .i64 m.nu, .int .u64 (m.su : Int), .int .i64 m.mr.a.c, .int .i64 m.mr.a.s, .string m.mr.k, .slice A2 m.ms.length c2, .slice A3 m.es.length c3] 45))
  have HG := Lib.hid (wi_good S m _ _ _ _ (hk.keep O.out) (hl.keep O.out) hn)
  rw [hg] at HG
  have KD := Lib.hid hk
  have HL := Lib.hid hl
  have hq3 : (q : Int) < 20 := by omega
  have hq4 : (0 : Int) ≤ q := by omega
  clear hk hl hn hg hq hkd
  go_enter Tryz.func16, Tryz.ntmps16
  go_wp2_with (first
    | (refine wpl_load rfl 45 _ rfl w.heap.size rfl 45 #[.int .i64 m.kd, .int .i64 m.pe, .int .i64 m.hp, .bool m.hi, .slice A1 m.ps.length c1, .int .i64 m.nu, .int .u64 (m.su : Int), .int .i64 m.mr.a.c, .int .i64 m.mr.a.s, .string m.mr.k, .slice A2 m.ms.length c2, .slice A3 m.es.length c3] _ B.out Tryz.underlying45 rfl (by kernel_rfl) ?_)
    | (go_at_call 18; refine HG.out.mono ?_; rintro E w2 ⟨rfl, o2⟩
       have O2 := Lib.hid (O.out.trans o2)
       have B2 := Lib.hid (B.out.only o2 (fun h => h))
       have L2 := Lib.hid (Lw.new w2)
       clear o2)
    | (go_at_call 60; refine (wi_forms _).mono ?_; rintro E w3 ⟨rfl, o3⟩; have L3 := Lib.hid (L2.out.keep o3); clear o3))
  have HL2 := Lib.hid (HL.out.keep O2.out)
  generalize hgw : w2.heap.size = g at *
  have HWG := Lib.hid hgw
  clear hgw L2 B O HG HL
  have HSZ : Hid (w.heap.size ≤ w2.heap.size) := O2.out.size
  generalize hr0 : w.heap.size = gm at *
  have HR0 : Hid (w.heap.size = gm) := hr0
  clear hr0
  go_loopw [14] (fun s14 wr => ∃ i : Nat, i ≤ 9 ∧ s14 = .int .i64 i ∧ ∃ v, Lw w2 g (runB m i) v wr) (fun s14 _ => 9 - (intOf s14).toNat)
  case atStart => exact ⟨0, by omega, rfl, _, L3.out⟩
  case round =>
    obtain ⟨i, hi, rfl, v, ls⟩ := hrel
    have LS := Lib.hid ls
    clear ls
    by_cases hlt : i < 9
    · have hlt' : (i : Int) < 9 := by omega
      have ix := fun w => run_index_form i hlt w
      have ep := fun a w => put_enter i hlt a w
      have HL9 := Lib.hid hlt
      obtain ⟨z, hz⟩ : ∃ z : Int, z = 2 ^ i := ⟨_, rfl⟩
      have HH : Hid ((bits BinOp.and IntKind.i64 (wFld q) z != 0) = wHas q i) := by rw [Hid, hz]; exact has_tab q (by omega) i hlt
      have HZ := Lib.hid hz
      obtain ⟨hb, hhb⟩ : ∃ b, wHas q i = b := ⟨_, rfl⟩
      rw [hhb] at HH
      have HB : Hid (wHas m.kd i = hb) := by rw [Hid, HQ.out, hhb]
      have HS : Hid (runB m (i + 1) = if hb = true then runB m i ++ fieldB m i else runB m i) := by
        rw [← HB.out]; rfl
      have O6 := Lib.hid ((Only.refl none_ wr).alloc (.cells #[.func (.func (ptF i)) #[] #[], .func (.func (tkF i)) #[] #[]] 135))
      have L6 := Lib.hid (LS.out.keep O6.out)
      have K6 := Lib.hid ((KD.out.keep O2.out).keep L6.out.ho)
      have X6 := B2.out.only L6.out.ho (fun h => h)
      have k0 := X6.cell_ (i := 0) rfl
      have k0' : (wr.alloc (.cells #[.func (.func (ptF i)) #[] #[], .func (.func (tkF i)) #[] #[]] 135)).cell? ⟨gm, 0, none⟩ = some (.int .i64 (q : Int)) := by rw [← HQ.out]; exact k0
      have HC6 : Hid (∀ j u, (#[.string (wNm q), .int .i64 (wFld q), .int .i64 (wLo q), .int .i64 (wUp q)] : Array Value).toList[j]? = some u → (wr.alloc (.cells #[.func (.func (ptF i)) #[] #[], .func (.func (tkF i)) #[] #[]] 135)).cell? ⟨0, q * 4 + j, none⟩ = some u) := fun j u hu => K6.out.at_ q (by omega) j u hu
      have R6 := Lib.hid (Blk.new wr 135 #[.func (.func (ptF i)) #[] #[], .func (.func (tkF i)) #[] #[]])
      have N6 := Lib.hid (Blk.new wr 135 #[.nilFunc, .nilFunc])
      have HLN : Hid ((runB m i).length ≤ 100000) := by have := runB_len HFI.out i (by omega); simp only [Hid]; omega
      clear hz hhb k0 X6
      go_upto_region 8 with (refine wpList_store_row rfl 135 _ _ rfl wr.heap.size #[.func (.func (ptF i)) #[] #[], .func (.func (tkF i)) #[] #[]] rfl rfl 135 _ N6.out (by kernel_rfl) rfl (by simp [Value.oneCell']) ?_; rw [setRow_alloc])
      cases hb
      · rw [if_neg (by decide)] at HS
        go_wp2_with (first
          | (refine wpl_piece rfl 139 _ rfl 0 (q * 4) rfl #[.string (wNm q), .int .i64 (wFld q), .int .i64 (wLo q), .int .i64 (wUp q)] _ HC6.out Tryz.underlying139 rfl (by kernel_rfl) ?_)
          | (go_at_call 61; refine (wi_has _ _ _ _ i _ z HL9.out rfl HZ.out _).mono ?_; rintro E w9 ⟨rfl, o9⟩; rw [HH.out]; have L9 := Lib.hid (L6.out.keep o9); clear o9))
        go_roundw
        case rel => exact ⟨i + 1, by omega, by go_num, v, by rw [HS.out]; exact L9.out⟩
        case measure => simp [intOf]; omega
      · rw [if_pos rfl] at HS
        have HFT := Lib.hid (HFI.out i hlt HB.out)
        go_wp2_with (first
          | (refine wpl_piece rfl 139 _ rfl 0 (q * 4) rfl #[.string (wNm q), .int .i64 (wFld q), .int .i64 (wLo q), .int .i64 (wUp q)] _ HC6.out Tryz.underlying139 rfl (by kernel_rfl) ?_)
          | (go_at_call 61; refine (wi_has _ _ _ _ i _ z HL9.out rfl HZ.out _).mono ?_; rintro E w9 ⟨rfl, o9⟩; rw [HH.out]
             have L9 := Lib.hid (L6.out.keep o9)
             have R9 := Lib.hid (R6.out.only o9 (fun h => h))
             have x0 := R9.out.cell_ (i := 0) rfl
             have x1 := R9.out.cell_ (i := 1) rfl
             clear o9)
          | (with_reducible refine (wp_field i HL9.out w2 g gm S m _ _ _ _ _ _ B2.out HL2.out HFT.out L9.out HLN.out).mono ?_; rintro E w8 ⟨rfl, v8, l8⟩; have L8 := Lib.hid l8; clear l8))
        go_roundw
        case rel => exact ⟨i + 1, by omega, by go_num, v8, by rw [HS.out]; exact L8.out⟩
        case measure => simp [intOf]; omega
    · obtain rfl : i = 9 := by omega
      have HLN : Hid ((runB m 9).length ≤ 1000000) := by have := runB_len HFI.out 9 (by omega); simp only [Hid]; omega
      have HE : Hid (wEnc m = runB m 9) := rfl
      have hge : ¬ (((9 : Nat) : Int) < 9) := by omega
      obtain ⟨bs, hbs⟩ : ∃ bs, runB m 9 = bs := ⟨_, rfl⟩
      rw [hbs] at LS HLN HE
      clear hbs
      go_wp2_with (first
        | (go_at_call 62; refine (lw_bytes LS.out HLN.out).mono ?_; rintro E w5 ⟨A, n, c, rfl, ow5, o5⟩
           have L5 := Lib.hid (LS.out.keep o5)
           have W5 := Lib.hid ow5
           have HZ5 : Hid (w2.heap.size ≤ wr.heap.size) := LS.out.ho.size
           clear ow5 o5)
        | (go_at_call 63; refine (lw_err L5.out).mono ?_; rintro E w6 ⟨rfl, rfl⟩))
      go_ret2
      rw [HE.out]
      exact ⟨A, n, c, rfl, owns_base W5.out (by have := HZ5.out; have := HSZ.out; have := HR0.out; omega), O2.out.trans L5.out.ho⟩
end Go.Proofs.YtlieolehpmobfaaGreatDoor
end
