/- Texts of mine, one behind the other: RsC, WiH. No statement of the seat is proved here. -/
import Derived.Laws.Rows
import Derived.Laws.Tables
import Derived.Test.YtkfcklmkikaioaaGreatDoorWk11
import Derived.Test.YtkfcklmkikaioaaGreatDoorWk12
section
namespace Go.Proofs.YtkfcklmkikaioaaGreatDoor
open Go.RowKit
set_option linter.all false
set_option maxRecDepth 100000
theorem manyR_len {α : Type} {f : Tkn α} (hf : ∀ c bs, (f c bs).2.1.length ≤ bs.length) (c : Int) (bs : List UInt8) : (manyR f c bs).2.1.length ≤ bs.length :=
  Nat.le_trans (listR_len hf _ _ _) (lenR_len c bs)
theorem manyR_few {α : Type} (f : Tkn α) (c : Int) (bs : List UInt8) : (manyR f c bs).2.2.length ≤ 8 := by
  unfold manyR; rw [listR_count]; exact lenR_lt c bs
theorem fieldR_len (i : Nat) (c : Int) (bs : List UInt8) (m : Ms) : (fieldR i c bs m).2.1.length ≤ bs.length := by
  unfold fieldR
  split
  · exact nodeR_len c bs
  · exact nodeR_len c bs
  · exact flagR_len c bs
  · exact manyR_len nodeR_len c bs
  · exact numR_len c bs 4
  · exact numR_len c bs 8
  · exact markR_len c bs
  · exact manyR_len markR_len c bs
  · exact manyR_len entR_len c bs
theorem runR_len (k : Int) (bs : List UInt8) : ∀ n, (runR k bs n).2.1.length ≤ bs.length
  | 0 => Nat.le_refl _
  | n + 1 => by
    show (if wHas k n = true then fieldR n (runR k bs n).1 (runR k bs n).2.1 (runR k bs n).2.2 else runR k bs n).2.1.length ≤ _
    split
    · exact Nat.le_trans (fieldR_len _ _ _ _) (runR_len k bs n)
    · exact runR_len k bs n
def Sml (m : Ms) : Prop := m.ps.length ≤ 8 ∧ m.ms.length ≤ 8 ∧ m.es.length ≤ 8
theorem fieldR_small (i : Nat) (c : Int) (bs : List UInt8) (m : Ms) (h : Sml m) : Sml (fieldR i c bs m).2.2 := by
  unfold fieldR
  split
  · exact h
  · exact h
  · exact h
  · exact ⟨manyR_few _ _ _, h.2⟩
  · exact h
  · exact h
  · exact h
  · exact ⟨h.1, manyR_few _ _ _, h.2.2⟩
  · exact ⟨h.1, h.2.1, manyR_few _ _ _⟩
theorem runR_small (k : Int) (bs : List UInt8) : ∀ n, Sml (runR k bs n).2.2
  | 0 => ⟨by simp [runR, msZero], by simp [runR, msZero], by simp [runR, msZero]⟩
  | n + 1 => by
    show Sml (if wHas k n = true then fieldR n (runR k bs n).1 (runR k bs n).2.1 (runR k bs n).2.2 else runR k bs n).2.2
    split
    · exact fieldR_small _ _ _ _ (runR_small k bs n)
    · exact runR_small k bs n
theorem Ml.shape {S : Nat → Prop} {m : Ms} {vp vm ve : Value} {w : World} (h : Ml S m vp vm ve w) : ∃ A1 c1 A2 c2 A3 c3, vp = .slice A1 m.ps.length c1 ∧ vm = .slice A2 m.ms.length c2 ∧ ve = .slice A3 m.es.length c3 := by
  obtain ⟨⟨A1, c1, e1, _⟩, ⟨A2, c2, e2, _⟩, ⟨A3, c3, e3, _⟩⟩ := h
  exact ⟨A1, c1, A2, c2, A3, c3, e1, e2, e3⟩
set_option maxHeartbeats 6400000 in
theorem wi_decode (kd : Int) (A : Option Addr) (L c : Nat) (bs : List UInt8) (S0 : Nat → Prop) (w : World) (hx : Byt w S0 (.slice A L c) bs) (hm : bs.length ≤ 140737488355328) (hk : Kd w) :
    Calls Tryz.prog 17 #[.int .i64 kd, .slice A L c] w fun e w' => ∃ vp vm ve, e = .returned (.tuple #[.agg #[.int .i64 (wdM kd bs).kd, .int .i64 (wdM kd bs).pe, .int .i64 (wdM kd bs).hp, .bool (wdM kd bs).hi, vp, .int .i64 (wdM kd bs).nu, .int .u64 ((wdM kd bs).su : Int), .int .i64 (wdM kd bs).mr.a.c, .int .i64 (wdM kd bs).mr.a.s, .string (wdM kd bs).mr.k, vm, ve], .int .i64 (wdC kd bs)]) ∧
      Ml (fun b => w.heap.size ≤ b) (wdM kd bs) vp vm ve w' ∧ Only none_ w w' := by
  have R0 := Lib.hid (Blk.new w 45 #[.int .i64 0, .int .i64 0, .int .i64 0, .bool false, .slice none 0 0, .int .i64 0, .int .u64 0, .int .i64 0, .int .i64 0, .string ⟨#[]⟩, .slice none 0 0, .slice none 0 0])
  have O0 := Lib.hid ((Only.refl none_ w).alloc (.cells #[.int .i64 0, .int .i64 0, .int .i64 0, .bool false, .slice none 0 0, .int .i64 0, .int .u64 0, .int .i64 0, .int .i64 0, .string ⟨#[]⟩, .slice none 0 0, .slice none 0 0] 45))
  have X0 := Lib.hid (hx.only O0.out (fun _ _ h => h))
  have K0 := Lib.hid (hk.keep O0.out)
  have HM := Lib.hid hm
  have Z0 : Hid ((w.alloc (.cells #[.int .i64 0, .int .i64 0, .int .i64 0, .bool false, .slice none 0 0, .int .i64 0, .int .u64 0, .int .i64 0, .int .i64 0, .string ⟨#[]⟩, .slice none 0 0, .slice none 0 0] 45)).heap.size = w.heap.size + 1) := by simp [Hid]
  by_cases hkd : wKind kd = true
  · obtain ⟨q, rfl⟩ : ∃ q : Nat, kd = q := ⟨kd.toNat, by simp only [wKind, Bool.and_eq_true, decide_eq_true_eq] at hkd; omega⟩
    have hq2 : 1 ≤ q ∧ q ≤ 19 := by simp only [wKind, Bool.and_eq_true, decide_eq_true_eq] at hkd; omega
    have HC : Hid (wdC q bs = if doneCode (runR q bs 9).1 (runR q bs 9).2.1 = 0 then wGood (runR q bs 9).2.2 else doneCode (runR q bs 9).1 (runR q bs 9).2.1) := by rw [Hid, wdC, if_pos hkd]
    have HD : Hid (wdM q bs = if wdC q bs = 0 then (runR q bs 9).2.2 else msZero 0) := rfl
    have hq3 : (q : Int) < 20 := by omega
    have hq4 : (0 : Int) ≤ q := by omega
    have HLN : Hid (∀ i, (runR q bs i).2.1.length ≤ 140737488355328) := fun i => Nat.le_trans (runR_len q bs i) hm
    have HSM : Hid (∀ i, Sml (runR q bs i).2.2) := fun i => runR_small q bs i
    have HKD : Hid (∀ i, (runR q bs i).2.2.kd = q) := fun i => runR_kd q bs i
    clear hx hm hk
    obtain ⟨w0, hw0⟩ : ∃ w0, w.alloc (.cells #[.int .i64 0, .int .i64 0, .int .i64 0, .bool false, .slice none 0 0, .int .i64 0, .int .u64 0, .int .i64 0, .int .i64 0, .string ⟨#[]⟩, .slice none 0 0, .slice none 0 0] 45) = w0 := ⟨_, rfl⟩
    have HW0 := Lib.hid hw0
    rw [hw0] at R0 O0 X0 K0 Z0
    clear hw0
    go_enter Tryz.func17, Tryz.ntmps17
    go_upto_region 1 with fail
    rw [HW0.out]
    go_wp2_with (first
      | (go_at_call 33; refine (wi_kind _ _).mono ?_; rintro E w9 ⟨rfl, rfl⟩; rw [hkd])
      | (go_at_call 41; refine (read_any _ bs S0 _ X0.out HM.out).mono ?_; rintro e w1 ⟨g, S, rfl, hg, r1, hS1, o1⟩
         have T1 : Hid (Td w0 g w1.heap.size S (msZero q) (.slice none 0 0) (.slice none 0 0) (.slice none 0 0) 0 bs (w1.alloc (.cells #[.int .i64 (msZero q).kd, .int .i64 (msZero q).pe, .int .i64 (msZero q).hp, .bool (msZero q).hi, .slice none 0 0, .int .i64 (msZero q).nu, .int .u64 ((msZero q).su : Int), .int .i64 (msZero q).mr.a.c, .int .i64 (msZero q).mr.a.s, .string (msZero q).mr.k, .slice none 0 0, .slice none 0 0] 45))) :=
           ⟨r1.only ((Only.refl none_ w1).alloc _) (fun h => h) (fun _ _ h => h), ⟨Blk.new w1 _ _, Ml.nil _ _ _⟩, o1.alloc _,
             ⟨hg, o1.size, by have := r1.lt; omega, fun h => by have := (hS1 _ h).2; omega⟩, fun b hb => ⟨by have := (hS1 b hb).2; rw [World.size_alloc]; omega, (hS1 b hb).1⟩⟩
         clear hg r1 hS1 o1)
      | (go_at_call 27; refine (wi_forms _).mono ?_; rintro E w2 ⟨rfl, o2⟩; have T2 := Lib.hid (T1.out.keep o2); clear o2))
    have NW : Hid (w.heap.size < w0.heap.size) := by have := Z0.out; simp only [Hid]; omega
    clear T1 HW0 Z0 X0
    generalize w1.heap.size = gm at *
    generalize hr0 : w.heap.size = r0 at *
    have HR0 : Hid (w.heap.size ≤ r0) := by rw [Hid, hr0]; exact Nat.le_refl _
    clear hr0
    go_loopw [21] (fun s21 wr => ∃ i : Nat, i ≤ 9 ∧ s21 = .int .i64 i ∧ ∃ vp vm ve, Td w0 g gm S (runR q bs i).2.2 vp vm ve (runR q bs i).1 (runR q bs i).2.1 wr) (fun s21 _ => 9 - (intOf s21).toNat)
    case atStart => exact ⟨0, by omega, rfl, _, _, _, T2.out⟩
    case round =>
      obtain ⟨i, hi, rfl, vp, vm, ve, t⟩ := hrel
      have T := Lib.hid t
      clear t
      by_cases hlt : i < 9
      · have hlt' : (i : Int) < 9 := by omega
        have ix := fun w => run_index_form i hlt w
        have et := fun a w => take_enter i hlt a w
        have HL9 := Lib.hid hlt
        obtain ⟨z, hz⟩ : ∃ z : Int, z = 2 ^ i := ⟨_, rfl⟩
        have HH : Hid ((bits BinOp.and IntKind.i64 (wFld q) z != 0) = wHas q i) := by rw [Hid, hz]; exact has_tab q (by omega) i hlt
        have HZ := Lib.hid hz
        obtain ⟨hb, hhb⟩ : ∃ b, wHas q i = b := ⟨_, rfl⟩
        rw [hhb] at HH
        have HS : Hid (runR q bs (i + 1) = if hb = true then fieldR i (runR q bs i).1 (runR q bs i).2.1 (runR q bs i).2.2 else runR q bs i) := by
          rw [← hhb]; rfl
        have T6 := Lib.hid (T.out.keep ((Only.refl none_ wr).alloc (.cells #[.func (.func (ptF i)) #[] #[], .func (.func (tkF i)) #[] #[]] 73)))
        have K6 := Lib.hid (K0.out.keep T6.out.ho)
        have HC6 : Hid (∀ j u, (#[.string (wNm q), .int .i64 (wFld q), .int .i64 (wLo q), .int .i64 (wUp q)] : Array Value).toList[j]? = some u → (wr.alloc (.cells #[.func (.func (ptF i)) #[] #[], .func (.func (tkF i)) #[] #[]] 73)).cell? ⟨0, q * 4 + j, none⟩ = some u) := fun j u hu => K6.out.at_ q (by omega) j u hu
        have R6 := Lib.hid (Blk.new wr 73 #[.func (.func (ptF i)) #[] #[], .func (.func (tkF i)) #[] #[]])
        have N6 := Lib.hid (Blk.new wr 73 #[.nilFunc, .nilFunc])
        have HL6 := Lib.hid (HLN.out i)
        clear hz hhb
        go_upto_region 7 with (refine wpList_store_row rfl 73 _ _ rfl wr.heap.size #[.func (.func (ptF i)) #[] #[], .func (.func (tkF i)) #[] #[]] rfl rfl 73 _ N6.out (by kernel_rfl) rfl (by simp [Value.oneCell']) ?_; rw [setRow_alloc])
        cases hb
        · rw [if_neg (by decide)] at HS
          go_wp2_with (first
            | (refine wpl_piece rfl 77 _ rfl 0 (q * 4) rfl #[.string (wNm q), .int .i64 (wFld q), .int .i64 (wLo q), .int .i64 (wUp q)] _ HC6.out Tryz.underlying77 rfl (by kernel_rfl) ?_)
            | (go_at_call 28; refine (wi_has _ _ _ _ i _ z HL9.out rfl HZ.out _).mono ?_; rintro E w9 ⟨rfl, o9⟩; rw [HH.out]; have T9 := Lib.hid (T6.out.keep o9); clear o9))
          go_roundw
          case rel => exact ⟨i + 1, by omega, by go_num, vp, vm, ve, by rw [HS.out]; exact T9.out⟩
          case measure => simp [intOf]; omega
        · rw [if_pos rfl] at HS
          go_wp2_with (first
            | (refine wpl_piece rfl 77 _ rfl 0 (q * 4) rfl #[.string (wNm q), .int .i64 (wFld q), .int .i64 (wLo q), .int .i64 (wUp q)] _ HC6.out Tryz.underlying77 rfl (by kernel_rfl) ?_)
            | (go_at_call 28; refine (wi_has _ _ _ _ i _ z HL9.out rfl HZ.out _).mono ?_; rintro E w9 ⟨rfl, o9⟩; rw [HH.out]
               have T9 := Lib.hid (T6.out.keep o9)
               have R9 := Lib.hid (R6.out.only o9 (fun h => h))
               have x0 := R9.out.cell_ (i := 0) rfl
               have x1 := R9.out.cell_ (i := 1) rfl
               clear o9)
            | (with_reducible refine (wt_field i HL9.out _ g gm S _ _ _ _ _ _ _ T9.out HL6.out).mono ?_; rintro E w8 ⟨rfl, vp', vm', ve', t8⟩; have T8 := Lib.hid t8; clear t8))
          go_roundw
          case rel => exact ⟨i + 1, by omega, by go_num, vp', vm', ve', by rw [HS.out]; exact T8.out⟩
          case measure => simp [intOf]; omega
      · obtain rfl : i = 9 := by omega
        have hsm := HSM.out 9
        have hk9 := HKD.out 9
        have HOL : Hid (∀ b, Lp w0.heap.size g gm S b → r0 ≤ b) := fun b hb => by have := hb.1; have := NW.out; omega
        obtain ⟨⟨c9, b9, m9⟩, h9⟩ : ∃ a, runR q bs 9 = a := ⟨_, rfl⟩
        rw [h9] at T HC HD hsm hk9
        dsimp only at T HC HD hsm hk9
        obtain ⟨d, hd⟩ : ∃ d, doneCode c9 b9 = d := ⟨_, rfl⟩
        rw [hd] at HC
        have HDD := Lib.hid hd
        have hge : ¬ (((9 : Nat) : Int) < 9) := by omega
        obtain ⟨A1, c1, A2, c2, A3, c3, e1, e2, e3⟩ := T.out.mb.ml.shape
        subst e1 e2 e3
        have SM : Hid (m9.ps.length ≤ 4096 ∧ m9.ms.length ≤ 4096 ∧ m9.es.length ≤ 4096) := ⟨by have := hsm.1; omega, by have := hsm.2.1; omega, by have := hsm.2.2; omega⟩
        have KK := Lib.hid hk9
        clear HSM HKD HLN h9 hd hsm hk9
        by_cases hd0 : d = 0
        · obtain ⟨gd, hgd⟩ : ∃ gd, wGood m9 = gd := ⟨_, rfl⟩
          have HGD := Lib.hid hgd
          rw [hgd, if_pos hd0] at HC
          subst hd0
          by_cases hg0 : gd = 0
          · subst hg0
            have HX : Hid (wdM q bs = m9) := by rw [Hid, HD.out, HC.out, if_pos rfl]
            go_wp2_with (first
              | (go_at_call 42; refine (reader_done g S c9 b9 _ T.out.rd).mono ?_; rw [HDD.out]; rintro e w3 ⟨rfl, h3, o3⟩
                 have T3 := Lib.hid (T.out.step h3 o3)
                 have R3 := Lib.hid (R0.out.only T3.out.ho (fun h => h))
                 have K3 := Lib.hid (K0.out.keep T3.out.ho)
                 clear h3 o3)
              | (refine wpl_load rfl 45 _ rfl gm rfl 45 #[.int .i64 m9.kd, .int .i64 m9.pe, .int .i64 m9.hp, .bool m9.hi, .slice A1 m9.ps.length c1, .int .i64 m9.nu, .int .u64 (m9.su : Int), .int .i64 m9.mr.a.c, .int .i64 m9.mr.a.s, .string m9.mr.k, .slice A2 m9.ms.length c2, .slice A3 m9.es.length c3] _ T3.out.mb.bx Tryz.underlying45 rfl (by kernel_rfl) ?_)
              | (go_at_call 12; refine (wi_good _ m9 _ _ _ _ K3.out T3.out.mb.ml SM.out).mono ?_; rw [HGD.out]; rintro e w4 ⟨rfl, o4⟩
                 have T4 := Lib.hid (T3.out.keep o4)
                 have R4 := Lib.hid (R3.out.only o4 (fun h => h))
                 clear o4)
              | (refine wpl_load rfl 45 _ rfl gm rfl 45 #[.int .i64 m9.kd, .int .i64 m9.pe, .int .i64 m9.hp, .bool m9.hi, .slice A1 m9.ps.length c1, .int .i64 m9.nu, .int .u64 (m9.su : Int), .int .i64 m9.mr.a.c, .int .i64 m9.mr.a.s, .string m9.mr.k, .slice A2 m9.ms.length c2, .slice A3 m9.es.length c3] _ T4.out.mb.bx Tryz.underlying45 rfl (by kernel_rfl) ?_)
              | (refine wpList_store_row rfl 45 _ _ rfl r0 #[.int .i64 m9.kd, .int .i64 m9.pe, .int .i64 m9.hp, .bool m9.hi, .slice A1 m9.ps.length c1, .int .i64 m9.nu, .int .u64 (m9.su : Int), .int .i64 m9.mr.a.c, .int .i64 m9.mr.a.s, .string m9.mr.k, .slice A2 m9.ms.length c2, .slice A3 m9.es.length c3] rfl rfl 45 _ R4.out (by kernel_rfl) rfl (ms_one _ _ _ _ _ _ _ _ _ _) ?_
                 have R5 := Lib.hid (R4.out.setRow #[.int .i64 m9.kd, .int .i64 m9.pe, .int .i64 m9.hp, .bool m9.hi, .slice A1 m9.ps.length c1, .int .i64 m9.nu, .int .u64 (m9.su : Int), .int .i64 m9.mr.a.c, .int .i64 m9.mr.a.s, .string m9.mr.k, .slice A2 m9.ms.length c2, .slice A3 m9.es.length c3])
                 have O5 := Lib.hid ((O0.out.trans T4.out.ho).setRow (g := r0) (.inr HR0.out) #[.int .i64 m9.kd, .int .i64 m9.pe, .int .i64 m9.hp, .bool m9.hi, .slice A1 m9.ps.length c1, .int .i64 m9.nu, .int .u64 (m9.su : Int), .int .i64 m9.mr.a.c, .int .i64 m9.mr.a.s, .string m9.mr.k, .slice A2 m9.ms.length c2, .slice A3 m9.es.length c3])
                 have M5 := Lib.hid ((Only.refl (one r0) w4).setRow (g := r0) (.inl rfl) #[.int .i64 m9.kd, .int .i64 m9.pe, .int .i64 m9.hp, .bool m9.hi, .slice A1 m9.ps.length c1, .int .i64 m9.nu, .int .u64 (m9.su : Int), .int .i64 m9.mr.a.c, .int .i64 m9.mr.a.s, .string m9.mr.k, .slice A2 m9.ms.length c2, .slice A3 m9.es.length c3])))
            refine bodyPost_ret (results_cell_tmp rfl _ _ r0 45 _ _ rfl R5.out Tryz.underlying45 rfl (by kernel_rfl) (.int .i64 0) rfl) rfl ?_
            rw [HX.out, HC.out]
            exact ⟨_, _, _, rfl, (T4.out.mb.ml.only M5.out (fun b hb h => by have h' : b = r0 := h; have := hb.1; have := NW.out; omega)).mono (fun b _ hb => Nat.le_trans HR0.out (HOL.out b hb)), O5.out⟩
          · have HX : Hid (wdM q bs = msZero 0) := by rw [Hid, HD.out, HC.out, if_neg hg0]
            have hgb : (gd != 0) = true := by simpa using hg0
            clear hg0
            go_wp2_with (first
              | (go_at_call 42; refine (reader_done g S c9 b9 _ T.out.rd).mono ?_; rw [HDD.out]; rintro e w3 ⟨rfl, h3, o3⟩
                 have T3 := Lib.hid (T.out.step h3 o3)
                 have R3 := Lib.hid (R0.out.only T3.out.ho (fun h => h))
                 have K3 := Lib.hid (K0.out.keep T3.out.ho)
                 clear h3 o3)
              | (refine wpl_load rfl 45 _ rfl gm rfl 45 #[.int .i64 m9.kd, .int .i64 m9.pe, .int .i64 m9.hp, .bool m9.hi, .slice A1 m9.ps.length c1, .int .i64 m9.nu, .int .u64 (m9.su : Int), .int .i64 m9.mr.a.c, .int .i64 m9.mr.a.s, .string m9.mr.k, .slice A2 m9.ms.length c2, .slice A3 m9.es.length c3] _ T3.out.mb.bx Tryz.underlying45 rfl (by kernel_rfl) ?_)
              | (go_at_call 12; refine (wi_good _ m9 _ _ _ _ K3.out T3.out.mb.ml SM.out).mono ?_; rw [HGD.out]; rintro e w4 ⟨rfl, o4⟩
                 have T4 := Lib.hid (T3.out.keep o4)
                 have R4 := Lib.hid (R3.out.only o4 (fun h => h))
                 clear o4)
              | (refine wpList_store_row rfl 45 _ _ rfl r0 #[.int .i64 0, .int .i64 0, .int .i64 0, .bool false, .slice none 0 0, .int .i64 0, .int .u64 0, .int .i64 0, .int .i64 0, .string ⟨#[]⟩, .slice none 0 0, .slice none 0 0] rfl rfl 45 _ R4.out (by kernel_rfl) rfl (by simp [Value.oneCell']) ?_
                 have R5 := Lib.hid (R4.out.setRow #[.int .i64 0, .int .i64 0, .int .i64 0, .bool false, .slice none 0 0, .int .i64 0, .int .u64 0, .int .i64 0, .int .i64 0, .string ⟨#[]⟩, .slice none 0 0, .slice none 0 0])
                 have O5 := Lib.hid ((O0.out.trans T4.out.ho).setRow (g := r0) (.inr HR0.out) #[.int .i64 0, .int .i64 0, .int .i64 0, .bool false, .slice none 0 0, .int .i64 0, .int .u64 0, .int .i64 0, .int .i64 0, .string ⟨#[]⟩, .slice none 0 0, .slice none 0 0])
                 have M5 := Lib.hid ((Only.refl (one r0) w4).setRow (g := r0) (.inl rfl) #[.int .i64 0, .int .i64 0, .int .i64 0, .bool false, .slice none 0 0, .int .i64 0, .int .u64 0, .int .i64 0, .int .i64 0, .string ⟨#[]⟩, .slice none 0 0, .slice none 0 0])))
            refine bodyPost_ret (results_cell_tmp rfl _ _ r0 45 _ _ rfl R5.out Tryz.underlying45 rfl (by kernel_rfl) (.int .i64 gd) rfl) rfl ?_
            rw [HX.out, HC.out]
            exact ⟨_, _, _, rfl, Ml.nil _ _ _, O5.out⟩
        · rw [if_neg hd0] at HC
          have hdb : (d != 0) = true := by simpa using hd0
          have HX : Hid (wdM q bs = msZero 0) := by rw [Hid, HD.out, HC.out, if_neg hd0]
          clear hd0
          go_wp2_with (first
            | (go_at_call 42; refine (reader_done g S c9 b9 _ T.out.rd).mono ?_; rw [HDD.out]; rintro e w3 ⟨rfl, h3, o3⟩
               have T3 := Lib.hid (T.out.step h3 o3)
               have R3 := Lib.hid (R0.out.only T3.out.ho (fun h => h))
               have K3 := Lib.hid (K0.out.keep T3.out.ho)
               clear h3 o3)
            | (refine wpList_store_row rfl 45 _ _ rfl r0 #[.int .i64 0, .int .i64 0, .int .i64 0, .bool false, .slice none 0 0, .int .i64 0, .int .u64 0, .int .i64 0, .int .i64 0, .string ⟨#[]⟩, .slice none 0 0, .slice none 0 0] rfl rfl 45 _ R3.out (by kernel_rfl) rfl (by simp [Value.oneCell']) ?_
               have R5 := Lib.hid (R3.out.setRow #[.int .i64 0, .int .i64 0, .int .i64 0, .bool false, .slice none 0 0, .int .i64 0, .int .u64 0, .int .i64 0, .int .i64 0, .string ⟨#[]⟩, .slice none 0 0, .slice none 0 0])
               have O5 := Lib.hid ((O0.out.trans T3.out.ho).setRow (g := r0) (.inr HR0.out) #[.int .i64 0, .int .i64 0, .int .i64 0, .bool false, .slice none 0 0, .int .i64 0, .int .u64 0, .int .i64 0, .int .i64 0, .string ⟨#[]⟩, .slice none 0 0, .slice none 0 0])
               have M5 := Lib.hid ((Only.refl (one r0) w3).setRow (g := r0) (.inl rfl) #[.int .i64 0, .int .i64 0, .int .i64 0, .bool false, .slice none 0 0, .int .i64 0, .int .u64 0, .int .i64 0, .int .i64 0, .string ⟨#[]⟩, .slice none 0 0, .slice none 0 0])))
          refine bodyPost_ret (results_cell_tmp rfl _ _ r0 45 _ _ rfl R5.out Tryz.underlying45 rfl (by kernel_rfl) (.int .i64 d) rfl) rfl ?_
          rw [HX.out, HC.out]
          exact ⟨_, _, _, rfl, Ml.nil _ _ _, O5.out⟩
  · have HC : Hid (wdC kd bs = 1) := by rw [Hid, wdC, if_neg hkd]
    have HX : Hid (wdM kd bs = msZero 0) := by rw [Hid, wdM, HC.out]; rfl
    have hf : wKind kd = false := by simpa using hkd
    clear hkd hx hm hk
    go_enter Tryz.func17, Tryz.ntmps17
    go_wp2_with (first
      | (go_at_call 33; refine (wi_kind _ _).mono ?_; rintro E w9 ⟨rfl, rfl⟩; rw [hf])
      | (refine wpList_store_row rfl 45 _ _ rfl w.heap.size #[.int .i64 0, .int .i64 0, .int .i64 0, .bool false, .slice none 0 0, .int .i64 0, .int .u64 0, .int .i64 0, .int .i64 0, .string ⟨#[]⟩, .slice none 0 0, .slice none 0 0] rfl rfl 45 _ R0.out (by kernel_rfl) rfl (by simp [Value.oneCell']) ?_
         have R5 := Lib.hid (R0.out.setRow #[.int .i64 0, .int .i64 0, .int .i64 0, .bool false, .slice none 0 0, .int .i64 0, .int .u64 0, .int .i64 0, .int .i64 0, .string ⟨#[]⟩, .slice none 0 0, .slice none 0 0])
         have O5 := Lib.hid (O0.out.setRow (g := w.heap.size) (.inr (Nat.le_refl _)) #[.int .i64 0, .int .i64 0, .int .i64 0, .bool false, .slice none 0 0, .int .i64 0, .int .u64 0, .int .i64 0, .int .i64 0, .string ⟨#[]⟩, .slice none 0 0, .slice none 0 0])))
    refine bodyPost_ret (results_cell_tmp rfl _ _ w.heap.size 45 _ _ rfl R5.out Tryz.underlying45 rfl (by kernel_rfl) (.int .i64 1) rfl) rfl ?_
    rw [HX.out, HC.out]
    exact ⟨_, _, _, rfl, Ml.nil _ _ _, O5.out⟩
end Go.Proofs.YtkfcklmkikaioaaGreatDoor
end
