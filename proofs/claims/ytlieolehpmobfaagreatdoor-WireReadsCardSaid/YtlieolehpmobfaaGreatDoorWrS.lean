/- The call of WireReads answers yes, and changes nothing that was there. The statement itself is proved in another text. -/
import Derived.Test.YtlieolehpmobfaaGreatDoorWr8
import Derived.Test.YtlieolehpmobfaaGreatDoorWr15
import Derived.Test.YtlieolehpmobfaaGreatDoorWr16
section
namespace Go.Proofs.YtlieolehpmobfaaGreatDoor
open Go.RowKit
set_option linter.all false
set_option maxRecDepth 100000
theorem wdM_small2 (k : Int) (bs : List UInt8) : Sml (wdM k bs) := by
  unfold wdM
  split
  · exact runR_small k bs 9
  · exact ⟨by simp [msZero], by simp [msZero], by simp [msZero]⟩
theorem fieldR_su {i : Nat} {c : Int} {bs : List UInt8} {m : Ms} (h : m.su < 18446744073709551616) : (fieldR i c bs m).2.2.su < 18446744073709551616 := by
  match i with
  | 0 => exact h
  | 1 => exact h
  | 2 => exact h
  | 3 => exact h
  | 4 => exact h
  | 5 =>
    have := numR_lt c bs 8
    rw [show ((8 : Nat) : Int) = 8 from rfl] at this
    show (numR c bs 8).2.2 < 18446744073709551616
    have e : (256 : Nat) ^ 8 = 18446744073709551616 := by decide
    omega
  | 6 => exact h
  | 7 => exact h
  | n + 8 => exact h
theorem runR_su (k : Int) (bs : List UInt8) : ∀ n, (runR k bs n).2.2.su < 18446744073709551616
  | 0 => by show (0 : Nat) < _; decide
  | n + 1 => by
    show (if wHas k n = true then fieldR n (runR k bs n).1 (runR k bs n).2.1 (runR k bs n).2.2 else runR k bs n).2.2.su < _
    split
    · exact fieldR_su (runR_su k bs n)
    · exact runR_su k bs n
theorem wdM_su (k : Int) (bs : List UInt8) : (wdM k bs).su < 18446744073709551616 := by
  unfold wdM
  split
  · exact runR_su k bs 9
  · show (0 : Nat) < _; decide
set_option maxHeartbeats 1600000 in
theorem wreads_long (kd : Int) (A : Option Addr) (L c : Nat) (W : World) (hk : Kd W) (h : 700 < L) :
    Calls Tryz.prog 4 #[.int .i64 kd, .slice A L c] W fun e w' => e = .returned (.bool true) ∧ Below W.heap.size W w' := by
  have KK := Lib.hid (fun (w : World) (o : Only none_ W w) => wi_speaks w (hk.keep o))
  have hd : decide ((700 : Int) < (L : Int)) = true := by simp; omega
  clear h hk
  have tok1 : True := trivial
  go_enter Tryz.func4, Tryz.ntmps4
  go_wp2_with (first
    | (go_at_call 13; have _t := tok1; clear tok1; refine (KK.out _ (Only.refl none_ W)).mono ?_; rintro E w9 ⟨rfl, o9⟩; have O9 := Lib.hid o9; clear o9)
    | (go_at_call 13; refine (KK.out _ O9.out).mono ?_; rintro E w8 ⟨rfl, o8⟩; have O8 := Lib.hid (O9.out.trans o8); clear o8))
  go_ret
  exact ⟨rfl, O8.out.below (Nat.le_refl _) (fun k hk => hk.elim)⟩
set_option maxHeartbeats 12800000 in
theorem wreads_short (kd : Int) (A : Option Addr) (c : Nat) (bs : List UInt8) (W : World) (hk : Kd W) (h : Byt W (fun b => b < W.heap.size) (.slice A bs.length c) bs) (h7 : bs.length ≤ 700) :
    Calls Tryz.prog 4 #[.int .i64 kd, .slice A bs.length c] W fun e w' => e = .returned (.bool true) ∧ Below W.heap.size W w' := by
  have KK := Lib.hid (fun (w : World) (o : Only none_ W w) => hk.keep o)
  have HB := Lib.hid (fun (w : World) (o : Only none_ W w) => h.only o (fun _ _ h => h))
  obtain ⟨L, hL⟩ : ∃ L, bs.length = L := ⟨_, rfl⟩
  have hd : decide ((700 : Int) < (L : Int)) = false := by simp; omega
  obtain ⟨m, hm⟩ : ∃ m, wdM kd bs = m := ⟨_, rfl⟩
  obtain ⟨z, hz⟩ : ∃ z, wdC kd bs = z := ⟨_, rfl⟩
  have SM : Hid (Sml m) := by rw [Hid, ← hm]; exact wdM_small2 kd bs
  have SU : Hid (m.su < 18446744073709551616) := by rw [Hid, ← hm]; exact wdM_su kd bs
  have HBK : Hid (z = 0 → wGood m = 0 ∧ wEnc m = bs) := fun e => by
    have := wd_back (hz.trans e)
    rw [hm] at this
    exact ⟨this.1, this.2.1⟩
  have HDE : Hid (∀ (w : World), Only none_ W w → Calls Tryz.prog 23 #[.int .i64 kd, .slice A L c] w fun e w' => ∃ vp vm ve, e = .returned (.tuple #[.agg #[.int .i64 m.kd, .int .i64 m.pe, .int .i64 m.hp, .bool m.hi, vp, .int .i64 m.nu, .int .u64 (m.su : Int), .int .i64 m.mr.a.c, .int .i64 m.mr.a.s, .string m.mr.k, vm, ve], .int .i64 z]) ∧
      Ml (fun b => w.heap.size ≤ b) m vp vm ve w' ∧ Only none_ w w') := fun w o => by
    have := wi_decode kd A L c bs _ w (by have := HB.out w o; rwa [hL] at this) (by omega) (KK.out w o)
    rw [hm, hz] at this
    exact this
  have HDR : Hid (∀ (w : World), Only none_ W w → Calls Tryz.prog 26 #[.int .i64 kd, .slice A L c] w fun e w' => ∃ vp vm ve, e = .returned (.tuple #[.agg #[.int .i64 m.kd, .int .i64 m.pe, .int .i64 m.hp, .bool m.hi, vp, .int .i64 m.nu, .int .u64 (m.su : Int), .int .i64 m.mr.a.c, .int .i64 m.mr.a.s, .string m.mr.k, vm, ve], .int .i64 z]) ∧
      Ml (fun b => w.heap.size ≤ b) m vp vm ve w' ∧ Only none_ w w') := fun w o => by
    have := rd_wdecode kd A c bs _ w (HB.out w o) (fun b hb => Nat.lt_of_lt_of_le hb o.size) (by omega)
    rw [hm, hz, hL] at this
    exact this
  have HSM : Hid (m.ms.length ≤ 1000 ∧ m.es.length ≤ 1000) := ⟨by have := SM.out.2.1; omega, by have := SM.out.2.2; omega⟩
  have HFW : Hid (Few9 m) := ⟨by have := SM.out.1; omega, by have := SM.out.2.1; omega, by have := SM.out.2.2; omega⟩
  have H40 : Hid (m.ps.length ≤ 4096 ∧ m.ms.length ≤ 4096 ∧ m.es.length ≤ 4096) := ⟨by have := SM.out.1; omega, by have := SM.out.2.1; omega, by have := SM.out.2.2; omega⟩
  have HLL := Lib.hid hL
  rw [hL] at HB ⊢
  clear h hL hm hz h7
  have hzz : (z != z) = false := by simp
  go_enter Tryz.func4, Tryz.ntmps4
  go_wp2_with (first
    | (go_at_call 13; refine (wi_speaks _ (KK.out _ (Only.refl none_ W))).mono ?_; rintro E w1 ⟨rfl, o1⟩
       have O1 := Lib.hid o1
       clear o1)
    | (go_at_call 23; refine (HDE.out _ O1.out).mono ?_; rintro E w3 ⟨vp, vm, ve, rfl, l3, o3⟩
       have O3 := Lib.hid (O1.out.trans o3)
       obtain ⟨P1, p1, P2, p2, P3, p3, ea, eb, ec⟩ := l3.shape
       subst ea eb ec
       have L4 := Lib.hid ((l3.keep ((Only.refl none_ w3).alloc (.cells #[.int .i64 m.kd, .int .i64 m.pe, .int .i64 m.hp, .bool m.hi, .slice P1 m.ps.length p1, .int .i64 m.nu, .int .u64 (m.su : Int), .int .i64 m.mr.a.c, .int .i64 m.mr.a.s, .string m.mr.k, .slice P2 m.ms.length p2, .slice P3 m.es.length p3] 45))).mono (T := fun _ => True) (fun _ _ _ => trivial))
       have N4 := Lib.hid (Blk.new w3 45 #[.int .i64 m.kd, .int .i64 m.pe, .int .i64 m.hp, .bool m.hi, .slice P1 m.ps.length p1, .int .i64 m.nu, .int .u64 (m.su : Int), .int .i64 m.mr.a.c, .int .i64 m.mr.a.s, .string m.mr.k, .slice P2 m.ms.length p2, .slice P3 m.es.length p3])
       have O4 := Lib.hid (O3.out.alloc (.cells #[.int .i64 m.kd, .int .i64 m.pe, .int .i64 m.hp, .bool m.hi, .slice P1 m.ps.length p1, .int .i64 m.nu, .int .u64 (m.su : Int), .int .i64 m.mr.a.c, .int .i64 m.mr.a.s, .string m.mr.k, .slice P2 m.ms.length p2, .slice P3 m.es.length p3] 45))
       clear l3 o3)
    | (refine wpl_new rfl rfl 45 rfl _ _ rfl #[.int .i64 m.kd, .int .i64 m.pe, .int .i64 m.hp, .bool m.hi, .slice P1 m.ps.length p1, .int .i64 m.nu, .int .u64 (m.su : Int), .int .i64 m.mr.a.c, .int .i64 m.mr.a.s, .string m.mr.k, .slice P2 m.ms.length p2, .slice P3 m.es.length p3] rfl rfl (by kernel_rfl) (ms_one _ _ _ _ _ _ _ _ _ _) ?_
       generalize w3.heap.size = b4 at *
       generalize w3.alloc (.cells #[.int .i64 m.kd, .int .i64 m.pe, .int .i64 m.hp, .bool m.hi, .slice P1 m.ps.length p1, .int .i64 m.nu, .int .u64 (m.su : Int), .int .i64 m.mr.a.c, .int .i64 m.mr.a.s, .string m.mr.k, .slice P2 m.ms.length p2, .slice P3 m.es.length p3] 45) = w4 at *)
    | (go_at_call 26; refine (HDR.out _ O4.out).mono ?_; rintro E w5 ⟨up, um, ue, rfl, l5, o5⟩
       obtain ⟨Q1, q1, Q2, q2, Q3, q3, ea, eb, ec⟩ := l5.shape
       subst ea eb ec
       have oa := (Only.refl none_ w5).alloc (.cells #[.int .i64 m.kd, .int .i64 m.pe, .int .i64 m.hp, .bool m.hi, .slice Q1 m.ps.length q1, .int .i64 m.nu, .int .u64 (m.su : Int), .int .i64 m.mr.a.c, .int .i64 m.mr.a.s, .string m.mr.k, .slice Q2 m.ms.length q2, .slice Q3 m.es.length q3] 31)
       have L8 := Lib.hid ((l5.keep oa).mono (T := fun _ => True) (fun _ _ _ => trivial))
       have M8 := Lib.hid ((L4.out.keep o5).keep oa)
       have B8 := Lib.hid ((N4.out.only o5 (fun h => h)).only oa (fun h => h))
       have N8 := Lib.hid (Blk.new w5 31 #[.int .i64 m.kd, .int .i64 m.pe, .int .i64 m.hp, .bool m.hi, .slice Q1 m.ps.length q1, .int .i64 m.nu, .int .u64 (m.su : Int), .int .i64 m.mr.a.c, .int .i64 m.mr.a.s, .string m.mr.k, .slice Q2 m.ms.length q2, .slice Q3 m.es.length q3])
       have O8 := Lib.hid ((O4.out.trans o5).trans oa)
       clear l5 o5 oa)
    | (refine wpl_new rfl rfl 31 rfl _ _ rfl #[.int .i64 m.kd, .int .i64 m.pe, .int .i64 m.hp, .bool m.hi, .slice Q1 m.ps.length q1, .int .i64 m.nu, .int .u64 (m.su : Int), .int .i64 m.mr.a.c, .int .i64 m.mr.a.s, .string m.mr.k, .slice Q2 m.ms.length q2, .slice Q3 m.es.length q3] rfl rfl (by kernel_rfl) (ms_one _ _ _ _ _ _ _ _ _ _) ?_))
  generalize w5.heap.size = b9 at *
  generalize w5.alloc (.cells #[.int .i64 m.kd, .int .i64 m.pe, .int .i64 m.hp, .bool m.hi, .slice Q1 m.ps.length q1, .int .i64 m.nu, .int .u64 (m.su : Int), .int .i64 m.mr.a.c, .int .i64 m.mr.a.s, .string m.mr.k, .slice Q2 m.ms.length q2, .slice Q3 m.es.length q3] 31) = w8 at *
  (refine wp_region_free (fun X => Only none_ w8 X) (Only none_) (F := ?_) (by kernel_rfl) 57 (by rfl) (by kernel_rfl) (fun x => ?_) ((Only.refl none_ w8).drew) ?_; rotate_left; (· (simp only [putsL, Act.put, List.setIfInBounds_toArray, List.set_cons_zero, List.set_cons_succ, Nat.reduceAdd]; exact rfl)))
  ((first | refine fr_value (c := ?_) (by rfl) (fun w => Only.refl none_ w) (fun x w0 hS hk => ?_) ?_ | refine fr_value_if (c := ?_) (by rfl) (by rfl) (by rfl) (fun w => Only.refl none_ w) (fun x w0 hS hk => ?_) ?_); rotate_left; (· (have hk2 := hk; (try simp [knAll, Region.binds] at hk2); skip; go_simp; try (with_reducible rfl))); try simp only [List.nil_append, List.cons_append])
  ((first | refine fr_value (c := ?_) (by rfl) (fun w => Only.refl none_ w) (fun x w0 hS hk => ?_) ?_ | refine fr_value_if (c := ?_) (by rfl) (by rfl) (by rfl) (fun w => Only.refl none_ w) (fun x w0 hS hk => ?_) ?_); rotate_left; (· (have hk2 := hk; (try simp [knAll, Region.binds] at hk2); skip; go_simp; try (with_reducible rfl))); try simp only [List.nil_append, List.cons_append])
  ((first | refine fr_value (c := ?_) (by rfl) (fun w => Only.refl none_ w) (fun x w0 hS hk => ?_) ?_ | refine fr_value_if (c := ?_) (by rfl) (by rfl) (by rfl) (fun w => Only.refl none_ w) (fun x w0 hS hk => ?_) ?_); rotate_left; (· (have hk2 := hk; (try simp [knAll, Region.binds] at hk2); skip; go_simp; try (with_reducible rfl))); try simp only [List.nil_append, List.cons_append])
  ((first | refine fr_value (c := ?_) (by rfl) (fun w => Only.refl none_ w) (fun x w0 hS hk => ?_) ?_ | refine fr_value_if (c := ?_) (by rfl) (by rfl) (by rfl) (fun w => Only.refl none_ w) (fun x w0 hS hk => ?_) ?_); rotate_left; (· (have hk2 := hk; (try simp [knAll, Region.binds] at hk2); skip; go_simp; try (with_reducible rfl))); try simp only [List.nil_append, List.cons_append])
  ((first | refine fr_value (c := ?_) (by rfl) (fun w => Only.refl none_ w) (fun x w0 hS hk => ?_) ?_ | refine fr_value_if (c := ?_) (by rfl) (by rfl) (by rfl) (fun w => Only.refl none_ w) (fun x w0 hS hk => ?_) ?_); rotate_left; (· (have hk2 := hk; (try simp [knAll, Region.binds] at hk2); have y := B8.out.only hS (fun h => h); have y0 := y.cell_ (i := 0) rfl; have y1 := y.cell_ (i := 1) rfl; have y2 := y.cell_ (i := 2) rfl; have y3 := y.cell_ (i := 3) rfl; have y4 := y.cell_ (i := 4) rfl; have y5 := y.cell_ (i := 5) rfl; have y6 := y.cell_ (i := 6) rfl; have y7 := y.cell_ (i := 7) rfl; have y8 := y.cell_ (i := 8) rfl; have y9 := y.cell_ (i := 9) rfl; have y10 := y.cell_ (i := 10) rfl; have y11 := y.cell_ (i := 11) rfl; go_simp; try (with_reducible rfl))); try simp only [List.nil_append, List.cons_append])
  ((first | refine fr_some (fun v X => ∃ um ue, v = .agg #[.int .i64 m.kd, .int .i64 m.pe, .int .i64 m.hp, .bool m.hi, .slice P1 m.ps.length p1, .int .i64 m.nu, .int .u64 (m.su : Int), .int .i64 m.mr.a.c, .int .i64 m.mr.a.s, .string m.mr.k, um, ue] ∧ Ml (fun _ => True) m (.slice P1 m.ps.length p1) um ue X) (fun _ _ _ _ _ r ⟨um, ue, h1, h2⟩ => ⟨um, ue, h1, h2.keep r⟩) (by rfl) (fun x w0 hS hk => ?_) ?_ | refine fr_some_if (fun v X => ∃ um ue, v = .agg #[.int .i64 m.kd, .int .i64 m.pe, .int .i64 m.hp, .bool m.hi, .slice P1 m.ps.length p1, .int .i64 m.nu, .int .u64 (m.su : Int), .int .i64 m.mr.a.c, .int .i64 m.mr.a.s, .string m.mr.k, um, ue] ∧ Ml (fun _ => True) m (.slice P1 m.ps.length p1) um ue X) (fun _ _ _ _ _ r ⟨um, ue, h1, h2⟩ => ⟨um, ue, h1, h2.keep r⟩) (by rfl) (by rfl) (by rfl) (fun x w0 hS hk => ?_) ?_); (· (have hk2 := hk; (try simp [knAll, Region.binds] at hk2); skip; refine got_call (f := 25) (args := ?_) (by go_simp; try (with_reducible rfl)) ?_; refine (lw_to _ m _ _ _ _ (M8.out.keep hS) HSM.out).mono ?_; rintro E w9 ⟨um, ue, rfl, l9, o9⟩; exact ⟨_, rfl, ⟨um, ue, rfl, l9.mono (fun _ _ _ => trivial)⟩, hS.trans o9, o9⟩)); try simp only [List.nil_append, List.cons_append])
  ((first | refine fr_value (c := ?_) (by rfl) (fun w => Only.refl none_ w) (fun x w0 hS hk => ?_) ?_ | refine fr_value_if (c := ?_) (by rfl) (by rfl) (by rfl) (fun w => Only.refl none_ w) (fun x w0 hS hk => ?_) ?_); rotate_left; (· (have hk2 := hk; (try simp [knAll, Region.binds] at hk2); have y := N8.out.only hS (fun h => h); have y0 := y.cell_ (i := 0) rfl; have y1 := y.cell_ (i := 1) rfl; have y2 := y.cell_ (i := 2) rfl; have y3 := y.cell_ (i := 3) rfl; have y4 := y.cell_ (i := 4) rfl; have y5 := y.cell_ (i := 5) rfl; have y6 := y.cell_ (i := 6) rfl; have y7 := y.cell_ (i := 7) rfl; have y8 := y.cell_ (i := 8) rfl; have y9 := y.cell_ (i := 9) rfl; have y10 := y.cell_ (i := 10) rfl; have y11 := y.cell_ (i := 11) rfl; go_simp; try (with_reducible rfl))); try simp only [List.nil_append, List.cons_append])
  ((first | refine fr_some (fun v _ => v = .bool true) (fun _ _ _ _ _ _ h => h) (by rfl) (fun x w0 hS hk => ?_) ?_ | refine fr_some_if (fun v _ => v = .bool true) (fun _ _ _ _ _ _ h => h) (by rfl) (by rfl) (by rfl) (fun x w0 hS hk => ?_) ?_); (· (have hk2 := hk; (try simp [knAll, Region.binds] at hk2); obtain ⟨u1, u2, e1, l1⟩ := kn_at (j := 5) (by rfl) hk (by rfl); simp only [e1]; refine got_call (f := 20) (args := ?_) (by go_simp; try (with_reducible rfl)) ?_; refine (rf_wsame_eq _ _ m m _ _ _ _ _ _ _ l1 (L8.out.keep hS) HFW.out HFW.out rfl).mono ?_; rintro E w9 ⟨rfl, o9⟩; exact ⟨_, rfl, rfl, hS.trans o9, o9⟩)); try simp only [List.nil_append, List.cons_append])
  ((first | refine fr_value (c := ?_) (by rfl) (fun w => Only.refl none_ w) (fun x w0 hS hk => ?_) ?_ | refine fr_value_if (c := ?_) (by rfl) (by rfl) (by rfl) (fun w => Only.refl none_ w) (fun x w0 hS hk => ?_) ?_); rotate_left; (· (have hk2 := hk; (try simp [knAll, Region.binds] at hk2); skip; go_simp; try (with_reducible rfl))); try simp only [List.nil_append, List.cons_append])
  ((first | refine fr_value (c := ?_) (by rfl) (fun w => Only.refl none_ w) (fun x w0 hS hk => ?_) ?_ | refine fr_value_if (c := ?_) (by rfl) (by rfl) (by rfl) (fun w => Only.refl none_ w) (fun x w0 hS hk => ?_) ?_); rotate_left; (· (have hk2 := hk; (try simp [knAll, Region.binds] at hk2); skip; go_simp; try (with_reducible rfl))); try simp only [List.nil_append, List.cons_append])
  (refine fr_end ?_; intro x w9 hS hk)
  have e9 := kn_end_at 9 hk (by rfl)
  rw [Nat.zero_add] at e9
  clear hk
  rw [e9]
  have OZ := Lib.hid (O8.out.trans hS)
  have BZ := Lib.hid (B8.out.only hS (fun h => h))
  have MZ := Lib.hid (M8.out.keep hS)
  by_cases hz0 : z = 0
  · subst hz0
    obtain ⟨hg, he⟩ := HBK.out rfl
    have HEN := Lib.hid (fun (w : World) (o : Only none_ W w) (l : Ml (fun _ => True) m (.slice P1 m.ps.length p1) (.slice P2 m.ms.length p2) (.slice P3 m.es.length p3) w) => wi_encode_ok _ m _ _ _ w (KK.out w o) l H40.out hg SU.out)
    rw [he] at HEN
    clear hg he HBK e9
    go_wp2_with (first
      | (refine wpl_load rfl 45 _ rfl b4 rfl 45 #[.int .i64 m.kd, .int .i64 m.pe, .int .i64 m.hp, .bool m.hi, .slice P1 m.ps.length p1, .int .i64 m.nu, .int .u64 (m.su : Int), .int .i64 m.mr.a.c, .int .i64 m.mr.a.s, .string m.mr.k, .slice P2 m.ms.length p2, .slice P3 m.es.length p3] _ BZ.out Tryz.underlying45 rfl (by kernel_rfl) ?_)
      | (go_at_call 16; refine (HEN.out _ OZ.out MZ.out).mono ?_; rintro E w10 ⟨A10, n10, c10, rfl, own10, o10⟩
         have O10 := Lib.hid (OZ.out.trans o10)
         have k1 := run_bytes_string w10 _ _ _ (Byt.of_own own10)
         have k2 := run_bytes_string w10 _ _ _ (HB.out _ O10.out)
         clear own10 o10))
    go_ret
    exact ⟨rfl, O10.out.below (Nat.le_refl _) (fun k hk => hk.elim)⟩
  · have hzb : (z != 0) = true := by simpa using hz0
    clear HBK e9 hz0
    go_wp2_with fail
    go_ret
    exact ⟨rfl, OZ.out.below (Nat.le_refl _) (fun k hk => hk.elim)⟩
end Go.Proofs.YtlieolehpmobfaaGreatDoor
end
