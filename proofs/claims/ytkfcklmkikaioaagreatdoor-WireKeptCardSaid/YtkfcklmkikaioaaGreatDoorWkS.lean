/- The call of WireKept answers yes, and changes nothing that was there. The statement itself is proved in another text. -/
import Derived.Test.YtkfcklmkikaioaaGreatDoorWk14
import Derived.Test.YtkfcklmkikaioaaGreatDoorWk16
section
namespace Go.Proofs.YtkfcklmkikaioaaGreatDoor
open Go.RowKit
set_option linter.all false
set_option maxRecDepth 100000
theorem wdM_small (k : Int) (bs : List UInt8) : Sml (wdM k bs) := by
  unfold wdM
  split
  · exact runR_small k bs 9
  · exact ⟨by simp [msZero], by simp [msZero], by simp [msZero]⟩
theorem u8_info2 : (Tryz.prog.info? 5).map (fun i => (i.zero, i.size, i.bytes)) = some (some (.int .u8 0), 1, 1) := by kernel_rfl
theorem own_n {w : World} {base n k L c : Nat} {t : TypeId} {A : Option Addr} {xs : List Value} (h : w.ownsRow base t k (.slice A L c) n xs) : L = n := by
  rcases h.2 with ⟨h1, h2⟩ | ⟨g, cap, cur, h1, _⟩
  · injection h1 with e1 e2 e3; omega
  · injection h1 with e1 e2 e3
set_option maxHeartbeats 1600000 in
theorem kept_long (kd : Int) (A : Option Addr) (L c : Nat) (W : World) (hk : Kd W) (h : 700 < L) :
    Calls Tryz.prog 5 #[.int .i64 kd, .slice A L c] W fun e w' => e = .returned (.bool true) ∧ Below W.heap.size W w' := by
  have KK := Lib.hid (fun (w : World) (o : Only none_ W w) => wi_speaks w (hk.keep o))
  have hd : decide ((700 : Int) < (L : Int)) = true := by simp; omega
  clear h hk
  have tok1 : True := trivial
  go_enter Tryz.func5, Tryz.ntmps5
  go_wp2_with (first
    | (go_at_call 7; have _t := tok1; clear tok1; refine (KK.out _ (Only.refl none_ W)).mono ?_; rintro E w9 ⟨rfl, o9⟩; have O9 := Lib.hid o9; clear o9)
    | (go_at_call 7; refine (KK.out _ O9.out).mono ?_; rintro E w8 ⟨rfl, o8⟩; have O8 := Lib.hid (O9.out.trans o8); clear o8))
  go_ret
  exact ⟨rfl, O8.out.below (Nat.le_refl _) (fun k hk => hk.elim)⟩
set_option maxHeartbeats 6400000 in
theorem kept_short (kd : Int) (A : Option Addr) (c : Nat) (bs : List UInt8) (W : World) (hk : Kd W) (h : Byt W (fun b => b < W.heap.size) (.slice A bs.length c) bs) (h7 : bs.length ≤ 700) :
    Calls Tryz.prog 5 #[.int .i64 kd, .slice A bs.length c] W fun e w' => e = .returned (.bool true) ∧ Below W.heap.size W w' := by
  obtain ⟨i0, hi0, hz0, hz1, hz2⟩ := rinfo_parts u8_info2
  have KK := Lib.hid (fun (w : World) (o : Only none_ W w) => hk.keep o)
  have HB := Lib.hid (fun (w : World) (o : Only none_ W w) => h.only o (fun _ _ h => h))
  have W1 : Hid (0 < W.heap.size) := hk.lt
  obtain ⟨L, hL⟩ : ∃ L, bs.length = L := ⟨_, rfl⟩
  have HLL := Lib.hid hL
  have hd : decide ((700 : Int) < (L : Int)) = false := by simp; omega
  have HM : Hid (bs.length ≤ 140737488355328) := by simp only [Hid]; omega
  have HC1 : Hid (([] : List UInt8).length + bs.length ≤ 140737488355328) := by simp only [Hid, List.length_nil]; omega
  obtain ⟨m, hm⟩ : ∃ m, wdM kd bs = m := ⟨_, rfl⟩
  obtain ⟨z, hz⟩ : ∃ z, wdC kd bs = z := ⟨_, rfl⟩
  have SM : Hid (Sml m) := by rw [Hid, ← hm]; exact wdM_small kd bs
  have HDE : Hid (∀ (w : World) (x : Option Addr) (y v : Nat) (S : Nat → Prop), Kd w → Byt w S (.slice x y v) bs → Calls Tryz.prog 17 #[.int .i64 kd, .slice x y v] w fun e w' => ∃ vp vm ve, e = .returned (.tuple #[.agg #[.int .i64 m.kd, .int .i64 m.pe, .int .i64 m.hp, .bool m.hi, vp, .int .i64 m.nu, .int .u64 (m.su : Int), .int .i64 m.mr.a.c, .int .i64 m.mr.a.s, .string m.mr.k, vm, ve], .int .i64 z]) ∧
      Ml (fun b => w.heap.size ≤ b) m vp vm ve w' ∧ Only none_ w w') := fun w x y v S k b => by
    have := wi_decode kd x y v bs S w b (by omega) k
    rw [hm, hz] at this
    exact this
  have HSM : Hid (m.ms.length ≤ 1000 ∧ m.es.length ≤ 1000) := ⟨by have := SM.out.2.1; omega, by have := SM.out.2.2; omega⟩
  have HFW : Hid (Few9 m) := ⟨by have := SM.out.1; omega, by have := SM.out.2.1; omega, by have := SM.out.2.2; omega⟩
  rw [hL] at HB h7 ⊢
  clear hk h hL hm hz
  go_enter Tryz.func5, Tryz.ntmps5
  go_wp2_with (first
    | (go_at_call 7; refine (wi_speaks _ (KK.out _ (Only.refl none_ W))).mono ?_; rintro E w1 ⟨rfl, o1⟩
       have O1 := Lib.hid o1
       have X1 : Hid ((w1.alloc (.cells #[] 5)).ownsRow w1.heap.size 5 1 (.slice (some ⟨w1.heap.size, 0, none⟩) 0 0) ([] : List UInt8).length (byts [])) := World.ownsRow_made w1 #[] 0 (Nat.le_refl _) (by simp [maxLen]) rfl
       have B1 := Lib.hid (HB.out _ (o1.alloc (.cells #[] 5)))
       clear o1)
    | (at_builtin; refine wpList_append_byt _ rfl (.tmp 19) (.tmp 20) _ rfl w1.heap.size 5 i0 (.int .u8 0) Tryz.underlying35 hi0 hz0 hz1 hz2 rfl (.slice (some ⟨w1.heap.size, 0, none⟩) 0 0) [] rfl X1.out _ _ _ rfl B1.out HC1.out (by simp) ?_
       intro A4 n4 c4 w4 hown4 hgrow4 hmv4
       obtain rfl : L = n4 := by have := own_n hown4; rw [List.nil_append, HLL.out] at this; exact this.symm
       rw [List.nil_append] at hown4
       have H4 := Lib.hid hown4
       have O4 : Hid (Only none_ W w4) := O1.out.trans (((Only.refl none_ w1).alloc _).grown hgrow4 (fun k hk => .inr (by simp [Value.ownBlock] at hk; omega)))
       have Z4 : Hid (W.heap.size ≤ w1.heap.size) := O1.out.size
       clear hown4 hgrow4 hmv4)
    | (go_at_call 17; refine (HDE.out _ _ _ _ _ (KK.out _ O4.out) (Byt.of_own H4.out)).mono ?_; rintro E w3 ⟨vp, vm, ve, rfl, l3, o3⟩
       have L3 := Lib.hid l3
       have O3 := Lib.hid o3
       obtain ⟨P1, p1, P2, p2, P3, p3, ea, eb, ec⟩ := l3.shape
       subst ea eb ec
       clear l3 o3)
    | (refine wpl_new rfl rfl 45 rfl _ _ rfl #[.int .i64 m.kd, .int .i64 m.pe, .int .i64 m.hp, .bool m.hi, .slice P1 m.ps.length p1, .int .i64 m.nu, .int .u64 (m.su : Int), .int .i64 m.mr.a.c, .int .i64 m.mr.a.s, .string m.mr.k, .slice P2 m.ms.length p2, .slice P3 m.es.length p3] rfl rfl (by kernel_rfl) (ms_one _ _ _ _ _ _ _ _ _ _) ?_))
  have N5 := Lib.hid (Blk.new w3 45 #[.int .i64 m.kd, .int .i64 m.pe, .int .i64 m.hp, .bool m.hi, .slice P1 m.ps.length p1, .int .i64 m.nu, .int .u64 (m.su : Int), .int .i64 m.mr.a.c, .int .i64 m.mr.a.s, .string m.mr.k, .slice P2 m.ms.length p2, .slice P3 m.es.length p3])
  have O5 : Hid (Only none_ W (w3.alloc (.cells #[.int .i64 m.kd, .int .i64 m.pe, .int .i64 m.hp, .bool m.hi, .slice P1 m.ps.length p1, .int .i64 m.nu, .int .u64 (m.su : Int), .int .i64 m.mr.a.c, .int .i64 m.mr.a.s, .string m.mr.k, .slice P2 m.ms.length p2, .slice P3 m.es.length p3] 45))) := (O4.out.trans O3.out).alloc _
  have L5 := Lib.hid (L3.out.keep ((Only.refl none_ w3).alloc (.cells #[.int .i64 m.kd, .int .i64 m.pe, .int .i64 m.hp, .bool m.hi, .slice P1 m.ps.length p1, .int .i64 m.nu, .int .u64 (m.su : Int), .int .i64 m.mr.a.c, .int .i64 m.mr.a.s, .string m.mr.k, .slice P2 m.ms.length p2, .slice P3 m.es.length p3] 45)))
  have H5 := Lib.hid (owns_only H4.out (O3.out.alloc (.cells #[.int .i64 m.kd, .int .i64 m.pe, .int .i64 m.hp, .bool m.hi, .slice P1 m.ps.length p1, .int .i64 m.nu, .int .u64 (m.su : Int), .int .i64 m.mr.a.c, .int .i64 m.mr.a.s, .string m.mr.k, .slice P2 m.ms.length p2, .slice P3 m.es.length p3] 45)) (fun _ _ h => h))
  have Z5 : Hid (w4.heap.size ≤ w3.heap.size) := O3.out.size
  have G5 : Hid (∀ b, A4 = some ⟨b, 0, none⟩ → W.heap.size ≤ b ∧ b < w4.heap.size) := fun b hb => by
    have := H4.out.lt b (by rw [hb]; rfl); have := Z4.out; omega
  generalize hg6 : w3.heap.size = b6 at *
  have HG6 : Hid (w3.heap.size = b6) := hg6
  generalize w3.alloc (.cells #[.int .i64 m.kd, .int .i64 m.pe, .int .i64 m.hp, .bool m.hi, .slice P1 m.ps.length p1, .int .i64 m.nu, .int .u64 (m.su : Int), .int .i64 m.mr.a.c, .int .i64 m.mr.a.s, .string m.mr.k, .slice P2 m.ms.length p2, .slice P3 m.es.length p3] 45) = w5 at *
  clear hg6 X1 B1 H4 O4 L3 O3 O1
  go_loopw [30] (fun s30 wr => ∃ i : Nat, i ≤ L ∧ s30 = .int .i64 i ∧ Only (fun b => A4 = some ⟨b, 0, none⟩) w5 wr ∧ ∀ g, A4 = some ⟨g, 0, none⟩ → ∃ cur, Blk wr g 5 cur ∧ ∀ j, j < L → ∃ z : Int, cur[j]? = some (.int .u8 z)) (fun s30 _ => L - (intOf s30).toNat)
  case atStart =>
    refine ⟨0, by omega, rfl, Only.refl _ _, fun g hg => ?_⟩
    subst hg
    by_cases h0 : 0 < bs.length
    · obtain ⟨g', cur, e1, _, _, hb, ht⟩ := own_bl H5.out h0
      injection e1 with e1; injection e1 with e1; subst e1
      refine ⟨cur, hb, fun j hj => ?_⟩
      have hjb : j < bs.length := by have := HLL.out; omega
      have h3 := congrArg (fun l => l[j]?) ht
      simp only [List.getElem?_take] at h3
      rw [if_pos hjb] at h3
      exact ⟨(bs[j].toNat : Int), by rw [← Array.getElem?_toList, h3]; simp [byts, byt, hjb]⟩
    · rcases H5.out.2 with ⟨e, _⟩ | ⟨g', cap, cur, e, _, hh, _⟩
      · cases e
      · injection e with e1; injection e1 with e1; injection e1 with e1; subst e1
        exact ⟨cur, hh, fun j hj => by have := HLL.out; omega⟩
  case round =>
    obtain ⟨i, hi, rfl, o, hc⟩ := hrel
    by_cases hlt : i < L
    · obtain ⟨g, cur, hA, _, _, _, _⟩ := own_bl H5.out (by have := HLL.out; omega)
      subst hA
      obtain ⟨cu, hb, hz⟩ := hc g rfl
      obtain ⟨zz, hzz⟩ := hz i hlt
      have k0 : wr.cell? ⟨g, i, none⟩ = some (.int .u8 zz) := by rw [hb.cell]; exact hzz
      have f0 := hb.frozen i
      have HBB := Lib.hid hb
      have HZZ := Lib.hid hz
      have OO := Lib.hid o
      clear hc hb hz hzz o
      go_wp2_with fail
      go_roundw
      case rel =>
        refine ⟨i + 1, by omega, by go_num, OO.out.setCell (p := ⟨g, i, none⟩) (.inl rfl) _, fun g' hg' => ?_⟩
        injection hg' with hg'; injection hg' with hg'; subst hg'
        refine ⟨_, HBB.out.set_ i _, fun j hj => ?_⟩
        obtain ⟨z', hz'⟩ := HZZ.out j hj
        by_cases hij : j = i
        · subst hij
          exact ⟨_, by rw [Array.getElem?_setIfInBounds_self_of_lt (Array.getElem?_eq_some_iff.1 hz').1]⟩
        · exact ⟨z', by rw [Array.getElem?_setIfInBounds_ne (by omega)]; exact hz'⟩
      case measure => simp [intOf]; omega
    · have hge : ¬ ((i : Int) < (L : Int)) := by omega
      have OO := Lib.hid o
      have HB6 := Lib.hid (N5.out.only o (fun e => by have := G5.out _ e; have := Z5.out; have := HG6.out; omega))
      have HL6 := Lib.hid (L5.out.only o (fun b hb e => by have := G5.out _ e; have hb' : w4.heap.size ≤ b := hb; omega))
      have O6 : Hid (Only none_ W wr) := O5.out.trans' o (fun k hk e => by have := G5.out _ e; omega)
      clear o hc
      go_wp2_with (first
        | (go_at_call 17; refine (HDE.out _ _ _ _ _ (KK.out _ O6.out) (HB.out _ O6.out)).mono ?_; rintro E w7 ⟨up, um, ue, rfl, l7, o7⟩
           have L7 := Lib.hid (l7.mono (T := fun _ => True) (fun _ _ _ => trivial))
           have M7 := Lib.hid (HL6.out.keep o7)
           have B7 := Lib.hid (HB6.out.only o7 (fun h => h))
           have O7 := Lib.hid (O6.out.trans o7)
           obtain ⟨Q1, q1, Q2, q2, Q3, q3, ea, eb, ec⟩ := l7.shape
           subst ea eb ec
           clear l7 o7)
        | (refine wpl_new rfl rfl 45 rfl _ _ rfl #[.int .i64 m.kd, .int .i64 m.pe, .int .i64 m.hp, .bool m.hi, .slice Q1 m.ps.length q1, .int .i64 m.nu, .int .u64 (m.su : Int), .int .i64 m.mr.a.c, .int .i64 m.mr.a.s, .string m.mr.k, .slice Q2 m.ms.length q2, .slice Q3 m.es.length q3] rfl rfl (by kernel_rfl) (ms_one _ _ _ _ _ _ _ _ _ _) ?_))
      have N8 := Lib.hid (Blk.new w7 45 #[.int .i64 m.kd, .int .i64 m.pe, .int .i64 m.hp, .bool m.hi, .slice Q1 m.ps.length q1, .int .i64 m.nu, .int .u64 (m.su : Int), .int .i64 m.mr.a.c, .int .i64 m.mr.a.s, .string m.mr.k, .slice Q2 m.ms.length q2, .slice Q3 m.es.length q3])
      have oa := (Only.refl none_ w7).alloc (.cells #[.int .i64 m.kd, .int .i64 m.pe, .int .i64 m.hp, .bool m.hi, .slice Q1 m.ps.length q1, .int .i64 m.nu, .int .u64 (m.su : Int), .int .i64 m.mr.a.c, .int .i64 m.mr.a.s, .string m.mr.k, .slice Q2 m.ms.length q2, .slice Q3 m.es.length q3] 45)
      have L8 := Lib.hid (L7.out.keep oa)
      have M8 := Lib.hid ((M7.out.keep oa).mono (T := fun _ => True) (fun _ _ _ => trivial))
      have B8 := Lib.hid (B7.out.only oa (fun h => h))
      have O8 := Lib.hid (O7.out.trans oa)
      clear oa L7 M7 B7 O7 HB6 HL6 O6 OO N5 L5 H5 O5
      generalize w7.heap.size = b9 at *
      generalize w7.alloc (.cells #[.int .i64 m.kd, .int .i64 m.pe, .int .i64 m.hp, .bool m.hi, .slice Q1 m.ps.length q1, .int .i64 m.nu, .int .u64 (m.su : Int), .int .i64 m.mr.a.c, .int .i64 m.mr.a.s, .string m.mr.k, .slice Q2 m.ms.length q2, .slice Q3 m.es.length q3] 45) = w8 at *
      have hzz : (z == z) = true := by simp
      (refine wp_region_free (fun X => Only none_ w8 X) (Only none_) (F := ?_) (by kernel_rfl) 61 (by rfl) (by kernel_rfl) (fun x => ?_) ((Only.refl none_ w8).drew) ?_; rotate_left; (· (simp only [putsL, Act.put, List.setIfInBounds_toArray, List.set_cons_zero, List.set_cons_succ, Nat.reduceAdd]; exact rfl)))
      ((first | refine fr_value (c := ?_) (by rfl) (fun w => Only.refl none_ w) (fun x w0 hS hk => ?_) ?_ | refine fr_value_if (c := ?_) (by rfl) (by rfl) (by rfl) (fun w => Only.refl none_ w) (fun x w0 hS hk => ?_) ?_); rotate_left; (· (have hk2 := hk; (try simp [knAll, Region.binds] at hk2); skip; go_simp; try (with_reducible rfl))); try simp only [List.nil_append, List.cons_append])
      ((first | refine fr_value (c := ?_) (by rfl) (fun w => Only.refl none_ w) (fun x w0 hS hk => ?_) ?_ | refine fr_value_if (c := ?_) (by rfl) (by rfl) (by rfl) (fun w => Only.refl none_ w) (fun x w0 hS hk => ?_) ?_); rotate_left; (· (have hk2 := hk; (try simp [knAll, Region.binds] at hk2); skip; go_simp; try (with_reducible rfl))); try simp only [List.nil_append, List.cons_append])
      ((first | refine fr_value (c := ?_) (by rfl) (fun w => Only.refl none_ w) (fun x w0 hS hk => ?_) ?_ | refine fr_value_if (c := ?_) (by rfl) (by rfl) (by rfl) (fun w => Only.refl none_ w) (fun x w0 hS hk => ?_) ?_); rotate_left; (· (have hk2 := hk; (try simp [knAll, Region.binds] at hk2); skip; go_simp; try (with_reducible rfl))); try simp only [List.nil_append, List.cons_append])
      ((first | refine fr_value (c := ?_) (by rfl) (fun w => Only.refl none_ w) (fun x w0 hS hk => ?_) ?_ | refine fr_value_if (c := ?_) (by rfl) (by rfl) (by rfl) (fun w => Only.refl none_ w) (fun x w0 hS hk => ?_) ?_); rotate_left; (· (have hk2 := hk; (try simp [knAll, Region.binds] at hk2); skip; go_simp; try (with_reducible rfl))); try simp only [List.nil_append, List.cons_append])
      ((first | refine fr_value (c := ?_) (by rfl) (fun w => Only.refl none_ w) (fun x w0 hS hk => ?_) ?_ | refine fr_value_if (c := ?_) (by rfl) (by rfl) (by rfl) (fun w => Only.refl none_ w) (fun x w0 hS hk => ?_) ?_); rotate_left; (· (have hk2 := hk; (try simp [knAll, Region.binds] at hk2); have y := B8.out.only hS (fun h => h); have y' := N8.out.only hS (fun h => h); have y0 := y.cell_ (i := 0) rfl; have y1 := y.cell_ (i := 1) rfl; have y2 := y.cell_ (i := 2) rfl; have y3 := y.cell_ (i := 3) rfl; have y4 := y.cell_ (i := 4) rfl; have y5 := y.cell_ (i := 5) rfl; have y6 := y.cell_ (i := 6) rfl; have y7 := y.cell_ (i := 7) rfl; have y8 := y.cell_ (i := 8) rfl; have y9 := y.cell_ (i := 9) rfl; have y10 := y.cell_ (i := 10) rfl; have y11 := y.cell_ (i := 11) rfl; have v0 := y'.cell_ (i := 0) rfl; have v1 := y'.cell_ (i := 1) rfl; have v2 := y'.cell_ (i := 2) rfl; have v3 := y'.cell_ (i := 3) rfl; have v4 := y'.cell_ (i := 4) rfl; have v5 := y'.cell_ (i := 5) rfl; have v6 := y'.cell_ (i := 6) rfl; have v7 := y'.cell_ (i := 7) rfl; have v8 := y'.cell_ (i := 8) rfl; have v9 := y'.cell_ (i := 9) rfl; have v10 := y'.cell_ (i := 10) rfl; have v11 := y'.cell_ (i := 11) rfl; go_simp; try (with_reducible rfl))); try simp only [List.nil_append, List.cons_append])
      ((first | refine fr_some (fun v X => ∃ um ue, v = .agg #[.int .i64 m.kd, .int .i64 m.pe, .int .i64 m.hp, .bool m.hi, .slice P1 m.ps.length p1, .int .i64 m.nu, .int .u64 (m.su : Int), .int .i64 m.mr.a.c, .int .i64 m.mr.a.s, .string m.mr.k, um, ue] ∧ Ml (fun _ => True) m (.slice P1 m.ps.length p1) um ue X) (fun _ _ _ _ _ r ⟨um, ue, h1, h2⟩ => ⟨um, ue, h1, h2.keep r⟩) (by rfl) (fun x w0 hS hk => ?_) ?_ | refine fr_some_if (fun v X => ∃ um ue, v = .agg #[.int .i64 m.kd, .int .i64 m.pe, .int .i64 m.hp, .bool m.hi, .slice P1 m.ps.length p1, .int .i64 m.nu, .int .u64 (m.su : Int), .int .i64 m.mr.a.c, .int .i64 m.mr.a.s, .string m.mr.k, um, ue] ∧ Ml (fun _ => True) m (.slice P1 m.ps.length p1) um ue X) (fun _ _ _ _ _ r ⟨um, ue, h1, h2⟩ => ⟨um, ue, h1, h2.keep r⟩) (by rfl) (by rfl) (by rfl) (fun x w0 hS hk => ?_) ?_); (· (have hk2 := hk; (try simp [knAll, Region.binds] at hk2); skip; refine got_call (f := 19) (args := ?_) (by go_simp; try (with_reducible rfl)) ?_; refine (lw_to _ m _ _ _ _ (M8.out.keep hS) HSM.out).mono ?_; rintro E w9 ⟨um, ue, rfl, l9, o9⟩; exact ⟨_, rfl, ⟨um, ue, rfl, l9.mono (fun _ _ _ => trivial)⟩, hS.trans o9, o9⟩)); try simp only [List.nil_append, List.cons_append])
      ((first | refine fr_value (c := ?_) (by rfl) (fun w => Only.refl none_ w) (fun x w0 hS hk => ?_) ?_ | refine fr_value_if (c := ?_) (by rfl) (by rfl) (by rfl) (fun w => Only.refl none_ w) (fun x w0 hS hk => ?_) ?_); rotate_left; (· (have hk2 := hk; (try simp [knAll, Region.binds] at hk2); have y := B8.out.only hS (fun h => h); have y' := N8.out.only hS (fun h => h); have y0 := y.cell_ (i := 0) rfl; have y1 := y.cell_ (i := 1) rfl; have y2 := y.cell_ (i := 2) rfl; have y3 := y.cell_ (i := 3) rfl; have y4 := y.cell_ (i := 4) rfl; have y5 := y.cell_ (i := 5) rfl; have y6 := y.cell_ (i := 6) rfl; have y7 := y.cell_ (i := 7) rfl; have y8 := y.cell_ (i := 8) rfl; have y9 := y.cell_ (i := 9) rfl; have y10 := y.cell_ (i := 10) rfl; have y11 := y.cell_ (i := 11) rfl; have v0 := y'.cell_ (i := 0) rfl; have v1 := y'.cell_ (i := 1) rfl; have v2 := y'.cell_ (i := 2) rfl; have v3 := y'.cell_ (i := 3) rfl; have v4 := y'.cell_ (i := 4) rfl; have v5 := y'.cell_ (i := 5) rfl; have v6 := y'.cell_ (i := 6) rfl; have v7 := y'.cell_ (i := 7) rfl; have v8 := y'.cell_ (i := 8) rfl; have v9 := y'.cell_ (i := 9) rfl; have v10 := y'.cell_ (i := 10) rfl; have v11 := y'.cell_ (i := 11) rfl; go_simp; try (with_reducible rfl))); try simp only [List.nil_append, List.cons_append])
      ((first | refine fr_some (fun v X => ∃ um ue, v = .agg #[.int .i64 m.kd, .int .i64 m.pe, .int .i64 m.hp, .bool m.hi, .slice Q1 m.ps.length q1, .int .i64 m.nu, .int .u64 (m.su : Int), .int .i64 m.mr.a.c, .int .i64 m.mr.a.s, .string m.mr.k, um, ue] ∧ Ml (fun _ => True) m (.slice Q1 m.ps.length q1) um ue X) (fun _ _ _ _ _ r ⟨um, ue, h1, h2⟩ => ⟨um, ue, h1, h2.keep r⟩) (by rfl) (fun x w0 hS hk => ?_) ?_ | refine fr_some_if (fun v X => ∃ um ue, v = .agg #[.int .i64 m.kd, .int .i64 m.pe, .int .i64 m.hp, .bool m.hi, .slice Q1 m.ps.length q1, .int .i64 m.nu, .int .u64 (m.su : Int), .int .i64 m.mr.a.c, .int .i64 m.mr.a.s, .string m.mr.k, um, ue] ∧ Ml (fun _ => True) m (.slice Q1 m.ps.length q1) um ue X) (fun _ _ _ _ _ r ⟨um, ue, h1, h2⟩ => ⟨um, ue, h1, h2.keep r⟩) (by rfl) (by rfl) (by rfl) (fun x w0 hS hk => ?_) ?_); (· (have hk2 := hk; (try simp [knAll, Region.binds] at hk2); skip; refine got_call (f := 19) (args := ?_) (by go_simp; try (with_reducible rfl)) ?_; refine (lw_to _ m _ _ _ _ (L8.out.keep hS) HSM.out).mono ?_; rintro E w9 ⟨um, ue, rfl, l9, o9⟩; exact ⟨_, rfl, ⟨um, ue, rfl, l9.mono (fun _ _ _ => trivial)⟩, hS.trans o9, o9⟩)); try simp only [List.nil_append, List.cons_append])
      ((first | refine fr_some (fun v _ => v = .bool true) (fun _ _ _ _ _ _ h => h) (by rfl) (fun x w0 hS hk => ?_) ?_ | refine fr_some_if (fun v _ => v = .bool true) (fun _ _ _ _ _ _ h => h) (by rfl) (by rfl) (by rfl) (fun x w0 hS hk => ?_) ?_); (· (have hk2 := hk; (try simp [knAll, Region.binds] at hk2); obtain ⟨u1, u2, e1, l1⟩ := kn_at (j := 5) (by rfl) hk (by rfl); obtain ⟨u3, u4, e2, l2⟩ := kn_at (j := 7) (by rfl) hk (by rfl); simp only [e1, e2]; refine got_call (f := 14) (args := ?_) (by go_simp; try (with_reducible rfl)) ?_; refine (rf_wsame_eq _ _ m m _ _ _ _ _ _ _ l1 l2 HFW.out HFW.out rfl).mono ?_; rintro E w9 ⟨rfl, o9⟩; exact ⟨_, rfl, rfl, hS.trans o9, o9⟩)); try simp only [List.nil_append, List.cons_append])
      ((first | refine fr_value (c := ?_) (by rfl) (fun w => Only.refl none_ w) (fun x w0 hS hk => ?_) ?_ | refine fr_value_if (c := ?_) (by rfl) (by rfl) (by rfl) (fun w => Only.refl none_ w) (fun x w0 hS hk => ?_) ?_); rotate_left; (· (have hk2 := hk; (try simp [knAll, Region.binds] at hk2); skip; go_simp; try (with_reducible rfl))); try simp only [List.nil_append, List.cons_append])
      ((first | refine fr_value (c := ?_) (by rfl) (fun w => Only.refl none_ w) (fun x w0 hS hk => ?_) ?_ | refine fr_value_if (c := ?_) (by rfl) (by rfl) (by rfl) (fun w => Only.refl none_ w) (fun x w0 hS hk => ?_) ?_); rotate_left; (· (have hk2 := hk; (try simp [knAll, Region.binds] at hk2); skip; go_simp; try (with_reducible rfl))); try simp only [List.nil_append, List.cons_append])
      ((first | refine fr_value (c := ?_) (by rfl) (fun w => Only.refl none_ w) (fun x w0 hS hk => ?_) ?_ | refine fr_value_if (c := ?_) (by rfl) (by rfl) (by rfl) (fun w => Only.refl none_ w) (fun x w0 hS hk => ?_) ?_); rotate_left; (· (have hk2 := hk; (try simp [knAll, Region.binds] at hk2); have y := B8.out.only hS (fun h => h); have y' := N8.out.only hS (fun h => h); have y0 := y.cell_ (i := 0) rfl; have y1 := y.cell_ (i := 1) rfl; have y2 := y.cell_ (i := 2) rfl; have y3 := y.cell_ (i := 3) rfl; have y4 := y.cell_ (i := 4) rfl; have y5 := y.cell_ (i := 5) rfl; have y6 := y.cell_ (i := 6) rfl; have y7 := y.cell_ (i := 7) rfl; have y8 := y.cell_ (i := 8) rfl; have y9 := y.cell_ (i := 9) rfl; have y10 := y.cell_ (i := 10) rfl; have y11 := y.cell_ (i := 11) rfl; have v0 := y'.cell_ (i := 0) rfl; have v1 := y'.cell_ (i := 1) rfl; have v2 := y'.cell_ (i := 2) rfl; have v3 := y'.cell_ (i := 3) rfl; have v4 := y'.cell_ (i := 4) rfl; have v5 := y'.cell_ (i := 5) rfl; have v6 := y'.cell_ (i := 6) rfl; have v7 := y'.cell_ (i := 7) rfl; have v8 := y'.cell_ (i := 8) rfl; have v9 := y'.cell_ (i := 9) rfl; have v10 := y'.cell_ (i := 10) rfl; have v11 := y'.cell_ (i := 11) rfl; go_simp; try (with_reducible rfl))); try simp only [List.nil_append, List.cons_append])
      ((first | refine fr_value (c := ?_) (by rfl) (fun w => Only.refl none_ w) (fun x w0 hS hk => ?_) ?_ | refine fr_value_if (c := ?_) (by rfl) (by rfl) (by rfl) (fun w => Only.refl none_ w) (fun x w0 hS hk => ?_) ?_); rotate_left; (· (have hk2 := hk; (try simp [knAll, Region.binds] at hk2); have y := B8.out.only hS (fun h => h); have y' := N8.out.only hS (fun h => h); have y0 := y.cell_ (i := 0) rfl; have y1 := y.cell_ (i := 1) rfl; have y2 := y.cell_ (i := 2) rfl; have y3 := y.cell_ (i := 3) rfl; have y4 := y.cell_ (i := 4) rfl; have y5 := y.cell_ (i := 5) rfl; have y6 := y.cell_ (i := 6) rfl; have y7 := y.cell_ (i := 7) rfl; have y8 := y.cell_ (i := 8) rfl; have y9 := y.cell_ (i := 9) rfl; have y10 := y.cell_ (i := 10) rfl; have y11 := y.cell_ (i := 11) rfl; have v0 := y'.cell_ (i := 0) rfl; have v1 := y'.cell_ (i := 1) rfl; have v2 := y'.cell_ (i := 2) rfl; have v3 := y'.cell_ (i := 3) rfl; have v4 := y'.cell_ (i := 4) rfl; have v5 := y'.cell_ (i := 5) rfl; have v6 := y'.cell_ (i := 6) rfl; have v7 := y'.cell_ (i := 7) rfl; have v8 := y'.cell_ (i := 8) rfl; have v9 := y'.cell_ (i := 9) rfl; have v10 := y'.cell_ (i := 10) rfl; have v11 := y'.cell_ (i := 11) rfl; go_simp; try (with_reducible rfl))); try simp only [List.nil_append, List.cons_append])
      ((first | refine fr_some (fun v _ => v = .bool true) (fun _ _ _ _ _ _ h => h) (by rfl) (fun x w0 hS hk => ?_) ?_ | refine fr_some_if (fun v _ => v = .bool true) (fun _ _ _ _ _ _ h => h) (by rfl) (by rfl) (by rfl) (fun x w0 hS hk => ?_) ?_); (· (have hk2 := hk; (try simp [knAll, Region.binds] at hk2); skip; refine got_call (f := 13) (args := ?_) (by go_simp; try (with_reducible rfl)) ?_; refine (wi_same_eq _ _ m m _ _ _ _ _ _ _ (M8.out.keep hS) (L8.out.keep hS) HFW.out HFW.out rfl).mono ?_; rintro E w9 ⟨rfl, o9⟩; exact ⟨_, rfl, rfl, hS.trans o9, o9⟩)); try simp only [List.nil_append, List.cons_append])
      ((first | refine fr_value (c := ?_) (by rfl) (fun w => Only.refl none_ w) (fun x w0 hS hk => ?_) ?_ | refine fr_value_if (c := ?_) (by rfl) (by rfl) (by rfl) (fun w => Only.refl none_ w) (fun x w0 hS hk => ?_) ?_); rotate_left; (· (have hk2 := hk; (try simp [knAll, Region.binds] at hk2); skip; go_simp; try (with_reducible rfl))); try simp only [List.nil_append, List.cons_append])
      ((first | refine fr_value (c := ?_) (by rfl) (fun w => Only.refl none_ w) (fun x w0 hS hk => ?_) ?_ | refine fr_value_if (c := ?_) (by rfl) (by rfl) (by rfl) (fun w => Only.refl none_ w) (fun x w0 hS hk => ?_) ?_); rotate_left; (· (have hk2 := hk; (try simp [knAll, Region.binds] at hk2); skip; go_simp; try (with_reducible rfl))); try simp only [List.nil_append, List.cons_append])
      (refine fr_end ?_; intro x w9 hS hk)
      have e15 := kn_end_at 15 hk (by rfl)
      rw [Nat.zero_add] at e15
      clear hk
      go_wp2_with fail
      go_ret
      exact ⟨by show Ending.returned (x 15) = _; rw [e15], (O8.out.trans hS).below (Nat.le_refl _) (fun k hk => hk.elim)⟩
end Go.Proofs.YtkfcklmkikaioaaGreatDoor
end
