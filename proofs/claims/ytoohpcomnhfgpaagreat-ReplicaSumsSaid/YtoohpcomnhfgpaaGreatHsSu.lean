/- What ReplicaSums comes to. No statement of the seat is proved here. -/
import Derived.Test.YtoohpcomnhfgpaaGreatHs20
import Derived.Test.YtoohpcomnhfgpaaGreatHs18
import Derived.Test.YtoohpcomnhfgpaaGreatHs19
import Derived.Test.YtoohpcomnhfgpaaGreatHs2
import Derived.Test.YtoohpcomnhfgpaaGreatHs12
import Derived.Test.YtoohpcomnhfgpaaGreatHs8
import Derived.Test.YtoohpcomnhfgpaaGreatHs5
section
namespace Go.Proofs.YtoohpcomnhfgpaaGreat
open Go.RowKit
set_option maxRecDepth 100000
set_option linter.all false
def mkA (q : List Mk) (j : Nat) : Mk := if j = 0 then mkTop else (q[j - 1]?).getD mkTop
theorem mkA_next {q : List Mk} {t : Nat} {x : Mk} (h : q[t]? = some x) : mkA q (t + 1) = x := by
  unfold mkA
  rw [if_neg (by omega), Nat.add_sub_cancel, h]
  rfl
theorem mkA_prev {q : List Mk} {t : Nat} (h0 : t ≠ 0) (ht : t ≤ q.length) : ∃ hi : t - 1 < q.length, mkA q t = q[t - 1] := by
  refine ⟨by omega, ?_⟩
  unfold mkA
  rw [if_neg h0, List.getElem?_eq_getElem (by omega)]
  rfl
theorem not_top {s : Rs} {log : List En} (wf : Wf log s) {x : Mk} (hx : x ∈ s.mks) : isTop x = false := by
  obtain ⟨e, he, rfl⟩ := List.mem_map.1 (wf.mks.mem_iff.1 hx)
  have h := (check_of (wf.chk e he).1).2.2.2.2.1
  unfold isTop
  rw [Bool.and_eq_false_iff]
  left
  have h1 : 1 ≤ e.a.c := by
    unfold stGood at h
    simp at h
    exact h.1.1
  unfold stSame
  rw [Bool.and_eq_false_iff]
  left
  show decide (e.a.c = 0) = false
  rw [decide_eq_false_iff_not]
  omega
theorem su_row {s : Rs} {log : List En} (wf : Wf log s) (hd : Desc s.mks) {j : Nat} (hj : j ≤ s.mks.length) (n : Int) : belM s.mks (mkA s.mks j) n = (s.mks.drop j).take n.toNat := by
  by_cases h0 : j = 0
  · subst h0
    rw [bel_top (m := mkA s.mks 0) rfl]
    rfl
  · obtain ⟨hi, he⟩ := mkA_prev h0 hj
    rw [he, bel_not hd (not_top wf (List.getElem_mem hi)), bh_mem hd _ hi, Nat.sub_add_cancel (by omega)]
theorem su_at {s : Rs} {log : List En} (wf : Wf log s) {x : Mk} (hx : x ∈ s.mks) : ∃ e, entO s x = e ∧ lookE s.tab e.k = some e ∧ e.a = x.a ∧ e.k = x.k ∧ hasE s.tab e.k = true := by
  obtain ⟨e, he, rfl⟩ := List.mem_map.1 (wf.mks.mem_iff.1 hx)
  have h := look_mem wf.ris he
  refine ⟨e, ?_, h, rfl, rfl, look_has h⟩
  show (lookE s.tab e.k).getD enZero = e
  rw [h]
  rfl
theorem su_later {q : List Mk} (hd : Desc q) {t : Nat} {x : Mk} (hx : q[t]? = some x) (h0 : t ≠ 0) : mkLater (mkA q t) x = true := by
  obtain ⟨ht, he⟩ := List.getElem?_eq_some_iff.1 hx
  obtain ⟨hi, h⟩ := mkA_prev h0 (by omega : t ≤ q.length)
  rw [h, ← he]
  exact List.pairwise_iff_getElem.1 hd _ _ hi ht (by omega)
theorem su_same {s : Rs} {log : List En} (wf : Wf log s) {t : Nat} (ht : t ≤ s.mks.length) (h0 : t ≠ 0) : mkSame (mkA s.mks t) mkTop = false := by
  obtain ⟨hi, h⟩ := mkA_prev h0 ht
  rw [h, ← isTop_same]
  exact not_top wf (List.getElem_mem hi)
theorem Gk.ofS {wa w1 : World} (e : En) (hs : Bool) (o : Only none_ wa w1) : Gk wa e hs (.pointer (some ⟨w1.heap.size, 0, none⟩)) (.bool hs) (w1.alloc (.cells #[.string e.k, .string e.v, .bool e.d, .int .i64 e.s.c, .int .i64 e.s.s, .int .i64 e.a.c, .int .i64 e.a.s, .int .i64 e.p, .int .i64 e.g] 82)) :=
  ⟨_, rfl, rfl, o.size, Blk.new _ _ _, o.alloc _⟩
set_option maxHeartbeats 51200000 in
theorem rp_sums (o : Ro) (v : Value) (l : List Pa) (nn : Int) (hn0 : 0 ≤ nn) (hn1 : nn ≤ 255) (S : Nat → Prop) (w : World) (hx : Cel w S v l.length 12 (l.flatMap paRow)) :
    Calls Tryz.prog 9 #[.agg #[.int .i64 o.n, .int .i64 o.q, .int .i64 o.r, .int .i64 o.t1, .int .i64 o.t2], v, .int .u8 nn] w fun E w' => E = .returned (.bool true) ∧ Only none_ w w' := by
  have HSP := Lib.hid (fun (X : World) => rp_speaks X)
  have HFW : Hid (∀ X, Only none_ w X → Calls Tryz.prog 13 #[v, .int .i64 50] X fun E w' => E = .returned (.bool (l.all paShort && decide (l.length ≤ 50))) ∧ Only none_ X w') :=
    fun X ho => rp_few v l 50 X S (hx.only ho (fun _ _ h => h))
  have HCK := Lib.hid (fun (X : World) => rd_check o X)
  have BX := Lib.hid (Blk.new w 23 #[.int .i64 o.n, .int .i64 o.q, .int .i64 o.r, .int .i64 o.t1, .int .i64 o.t2])
  have O0 := Lib.hid ((Only.refl none_ w).alloc (.cells #[.int .i64 o.n, .int .i64 o.q, .int .i64 o.r, .int .i64 o.t1, .int .i64 o.t2] 23))
  obtain ⟨A, c, rfl, _, h2, h3, _, _⟩ := id hx
  have HX := Lib.hid hx
  obtain ⟨L, hL⟩ : ∃ L, l.length = L := ⟨_, rfl⟩
  have HL := Lib.hid hL
  rw [hL] at HX HFW h2 ⊢
  obtain ⟨fw, hfw⟩ : ∃ fw, (l.all paShort && decide (L ≤ 50)) = fw := ⟨_, rfl⟩
  have hL50 : fw = true → L ≤ 50 := by intro e; rw [e] at hfw; simp at hfw; exact hfw.2
  rw [hfw] at HFW
  clear hx hL h2 h3 hfw
  cases fw with
  | false =>
    as_aux_lemma =>
      clear HX HL HCK BX hL50
      go_enter Tryz.func9, Tryz.ntmps9
      have tok1 : True := trivial
      go_wp2_with (first
        | (go_at_call 12; have _t := tok1; clear tok1; refine (HSP.out _).mono ?_; rintro E w1 ⟨rfl, o1⟩; have P1 := Lib.hid o1; have O1 := Lib.hid (O0.out.trans o1); clear o1; have tok2 : True := trivial)
        | (go_at_call 13; refine (HFW.out _ O1.out).mono ?_; rintro E w2 ⟨rfl, o2⟩; have O2 := Lib.hid (O1.out.trans o2); clear o2)
        | (go_at_call 12; have _t := tok2; clear tok2; refine (HSP.out _).mono ?_; rintro E w9 ⟨rfl, o9⟩; have O9 := Lib.hid (O2.out.trans o9); clear o9))
      go_ret
      exact ⟨rfl, O9.out⟩
  | true =>
    have hL50' := hL50 rfl
    clear hL50
    obtain ⟨ck, hck⟩ : ∃ ck, roCheck o = ck := ⟨_, rfl⟩
    rw [hck] at HCK
    by_cases hc0 : ck = 0
    · subst hc0
      have hob : roBad o = false := by
        unfold roCheck at hck
        split at hck
        · cases hck
        · next h => simpa using h
      have HPY : Hid (∀ X, Only none_ w X → Calls Tryz.prog 52 #[.agg #[.int .i64 o.n, .int .i64 o.q, .int .i64 o.r, .int .i64 o.t1, .int .i64 o.t2], .slice A L c] X fun E w' => ∃ (B : World) (dg r : Nat) (a : Ra) (s : Rs) (log : List En), E = .returned (.pointer (some ⟨r, 0, none⟩)) ∧ Rq B o dg a s log r L w' ∧ Ow log s ∧ Only none_ X B) :=
        fun X oX => rp_play o hob A L c l S X (HX.out.only oX (fun _ _ h => h)) HL.out hL50'
      clear hck HX HL hob
      go_enter Tryz.func9, Tryz.ntmps9
      have tok1 : True := trivial
      go_upto_region 6 with (first
        | (go_at_call 12; refine (HSP.out _).mono ?_; rintro E w1 ⟨rfl, o1⟩; have P1 := Lib.hid (O0.out.trans o1); have B1 := Lib.hid (BX.out.only o1 (fun h => h)); clear o1)
        | (go_at_call 13; refine (HFW.out _ P1.out).mono ?_; rintro E w2 ⟨rfl, o2⟩; have P2 := Lib.hid (P1.out.trans o2); have B2 := Lib.hid (B1.out.only o2 (fun h => h)); clear o2)
        | (refine wpl_load_if (by rfl) 23 _ rfl w.heap.size rfl 23 #[.int .i64 o.n, .int .i64 o.q, .int .i64 o.r, .int .i64 o.t1, .int .i64 o.t2] _ B2.out Tryz.underlying23 rfl (by kernel_rfl) ?_)
        | (go_at_call 19; refine (HCK.out _).mono ?_; rintro E w3 ⟨rfl, o3⟩; have P3 := Lib.hid (P2.out.trans o3); have B3 := Lib.hid (B2.out.only o3 (fun h => h)); clear o3)
        | (refine wpl_load rfl 23 _ rfl w.heap.size rfl 23 #[.int .i64 o.n, .int .i64 o.q, .int .i64 o.r, .int .i64 o.t1, .int .i64 o.t2] _ B3.out Tryz.underlying23 rfl (by kernel_rfl) ?_)
        | (go_at_call 52; refine (HPY.out _ P3.out).mono ?_; rintro E w6 ⟨B, dg, r, a, s, log, rfl, hR, hW, oB⟩
           have R6 := Lib.hid hR
           have P6 := Lib.hid (P3.out.trans oB)
           clear hR hW oB))
      clear P1 B1 P2 B2 P3 B3 HPY HFW HCK BX O0
      obtain ⟨T, hT⟩ : ∃ T, s.tab = T := ⟨_, rfl⟩
      obtain ⟨M, hM⟩ : ∃ M, T.length = M := ⟨_, rfl⟩
      have HM := Lib.hid hM
      have hM60 : M ≤ 60 := by
        have h1 := R6.out.wf.tl
        have h2 := R6.out.n
        rw [hT, hM] at h1
        omega
      obtain ⟨q, hq⟩ : ∃ q, s.mks = q := ⟨_, rfl⟩
      have HQL : Hid (q.length = M) := by
        have := R6.out.wf.mks.length_eq
        rw [List.length_map, hT, hM, hq] at this
        exact this
      have HQD : Hid (Desc q) := by
        have := R6.out.p.mx.ix.ds
        rwa [hq] at this
      obtain ⟨zz, hzz⟩ : ∃ zz, w64 s.z = zz := ⟨_, rfl⟩
      have hzs : w64 (sumH T) = zz := by rw [← hzz, R6.out.wf.z, hT]
      -- what is asked of the replica
      have HEN : Hid (∀ X, Only none_ w6 X → Calls Tryz.prog 40 #[.pointer (some ⟨r, 6, none⟩)] X fun E w' => ∃ v', E = .returned v' ∧ w'.ownsRow X.heap.size 82 9 v' T.length (T.flatMap enRow) ∧ Only none_ X w') := fun X oX => by
        have := ct_entries B a s X (R6.out.p.keep oX)
        rwa [R6.out.hr, hT] at this
      have HSU : Hid (∀ X, Only none_ w6 X → Calls Tryz.prog 53 #[.pointer (some ⟨r, 6, none⟩)] X fun E w' => E = .returned (.int .u64 zz) ∧ X = w') := fun X oX => by
        have := ct_sum B a s X (R6.out.p.keep oX)
        rwa [R6.out.hr, hzz] at this
      have HOF : Hid (∀ (vv : Value) (S' : Nat → Prop) X, Cel X S' vv M 9 (T.flatMap enRow) → Calls Tryz.prog 54 #[vv] X fun E w' => E = .returned (.int .u64 zz) ∧ Only none_ X w') := fun vv S' X hc => by
        have := smo_of vv T X S' (by rw [hM]; exact hc)
        rwa [hzs] at this
      have HBL : Hid (∀ X, Only none_ w6 X → ∀ (m : Mk) (n : Int), Calls Tryz.prog 31 #[.pointer (some ⟨r, 6, none⟩), .agg #[.int .i64 m.a.c, .int .i64 m.a.s, .string m.k], .int .i64 n] X fun E w' => ∃ v', E = .returned v' ∧ w'.ownsRow X.heap.size 82 9 v' ((belM q m n).map (entO s)).length (((belM q m n).map (entO s)).flatMap enRow) ∧ Only none_ X w') := fun X oX m n => by
        have := ct_below B a s m n X (R6.out.p.keep oX)
        rwa [R6.out.hr, hq] at this
      have HCE : Hid (∀ X, Only none_ w6 X → ∀ k : ByteArray, Calls Tryz.prog 24 #[.pointer (some ⟨r, 6, none⟩), .string k] X fun E w' => E = .returned (.tuple #[.agg #[.string ((lookE s.tab k).getD enZero).k, .string ((lookE s.tab k).getD enZero).v, .bool ((lookE s.tab k).getD enZero).d, .int .i64 ((lookE s.tab k).getD enZero).s.c, .int .i64 ((lookE s.tab k).getD enZero).s.s, .int .i64 ((lookE s.tab k).getD enZero).a.c, .int .i64 ((lookE s.tab k).getD enZero).a.s, .int .i64 ((lookE s.tab k).getD enZero).p, .int .i64 ((lookE s.tab k).getD enZero).g], .bool (hasE s.tab k)]) ∧ Only none_ X w') := fun X oX k => by
        have := ct_entry B a s k X (R6.out.p.keep oX)
        rwa [R6.out.hr] at this
      have HROW : Hid (∀ j, j ≤ M → ∀ n, belM q (mkA q j) n = (q.drop j).take n.toNat) := fun j hj n => by
        have := su_row R6.out.wf R6.out.p.mx.ix.ds (j := j) (by rw [hq, HQL.out]; exact hj) n
        rwa [hq] at this
      have HAT : Hid (∀ x ∈ q, ∃ e, entO s x = e ∧ lookE s.tab e.k = some e ∧ e.a = x.a ∧ e.k = x.k ∧ hasE s.tab e.k = true) := fun x hx => su_at R6.out.wf (by rw [hq]; exact hx)
      have HSM : Hid (∀ t, t ≤ M → t ≠ 0 → mkSame (mkA q t) mkTop = false) := fun t ht h0 => by
        have := su_same R6.out.wf (t := t) (by rw [hq, HQL.out]; exact ht) h0
        rwa [hq] at this
      clear hT hM hzz hzs hq
      have tokE : True := trivial
      go_upto_region 10 with (first
        | (go_at_call 40; refine (HEN.out _ (Only.refl _ _)).mono ?_; rintro E w7 ⟨v7, rfl, own7, o7⟩
           obtain ⟨A7, n7, c7, rfl⟩ := own_shape own7
           obtain rfl : M = n7 := by have := own_count own7; have := HM.out; omega
           have O7 := Lib.hid o7
           have X7 : Hid (Cel w7 (ownb (.slice A7 M c7)) (.slice A7 M c7) M 9 (T.flatMap enRow)) := by
             have h1 := Cel.of_own own7
             rwa [HM.out] at h1
           clear own7 o7)
        | (go_at_call 53; refine (HSU.out _ O7.out).mono ?_; rintro E w9 ⟨rfl, rfl⟩)
        | (go_at_call 54; refine (HOF.out _ _ _ X7.out).mono ?_; rintro E w8 ⟨rfl, o8⟩
           have O8 := Lib.hid (O7.out.trans o8)
           have BM8 := Lib.hid (Blk.new w8 99 #[.int .i64 mkTop.a.c, .int .i64 mkTop.a.s, .string mkTop.k])
           clear o8))
      have OA : Hid (Only none_ w8 (w8.alloc (.cells #[.int .i64 mkTop.a.c, .int .i64 mkTop.a.s, .string mkTop.k] 99))) := (Only.refl none_ w8).alloc _
      have hMi : (M : Int) ≤ 60 := by omega
      have hM1 : 0 ≤ (M : Int) := by omega
      go_wp2_with fail
      go_loopw [49, 10] (fun vc vq X => ∃ t j : Nat, t ≤ j ∧ j ≤ M ∧ vc = .int .i64 (t : Int) ∧ vq = .int .i64 (j : Int) ∧ Only none_ w8 X ∧ Blk X w8.heap.size 99 #[.int .i64 (mkA q j).a.c, .int .i64 (mkA q j).a.s, .string (mkA q j).k]) (fun vc _ _ => M + 1 - (intOf vc).toNat)
      case atStart => exact ⟨0, 0, Nat.le_refl _, Nat.zero_le _, rfl, rfl, OA.out, BM8.out⟩
      case round =>
        obtain ⟨t, j, htj, hjM, rfl, rfl, hO, hB⟩ := hrel
        have OX := Lib.hid hO
        have BM := Lib.hid hB
        clear hO hB OA BM8 X7 HEN HSU HOF
        have hti : (t : Int) < (M : Int) + 1 := by omega
        obtain ⟨m, hm⟩ : ∃ m, mkA q j = m := ⟨_, rfl⟩
        rw [hm] at BM
        obtain ⟨q7, hq7⟩ : ∃ q7, Int.tmod nn 7 = q7 := ⟨_, rfl⟩
        have hq0 : 0 ≤ q7 ∧ q7 ≤ 6 := by
          rw [← hq7, Int.tmod_eq_emod_of_nonneg hn0]
          omega
        obtain ⟨kq, hkq⟩ : ∃ kq, 1 + q7 = kq := ⟨_, rfl⟩
        have hkw : IntKind.i64.wrap kq = kq := IntWalk.i64_in _ (by omega)
        have hnw : IntKind.i64.wrap nn = nn := IntWalk.i64_in _ (by omega)
        have h7w : IntKind.i64.wrap q7 = q7 := IntWalk.i64_in _ (by omega)
        obtain ⟨EL, hEL⟩ : ∃ EL, (belM q m kq).map (entO s) = EL := ⟨_, rfl⟩
        obtain ⟨kk, hkk⟩ : ∃ kk, EL.length = kk := ⟨_, rfl⟩
        have HBE : Hid (∀ X, Only none_ w6 X → Calls Tryz.prog 31 #[.pointer (some ⟨r, 6, none⟩), .agg #[.int .i64 m.a.c, .int .i64 m.a.s, .string m.k], .int .i64 kq] X fun E w' => ∃ v', E = .returned v' ∧ w'.ownsRow X.heap.size 82 9 v' EL.length (EL.flatMap enRow) ∧ Only none_ X w') := fun X oX => by
          have := HBL.out X oX m kq
          rwa [hEL] at this
        have HKK := Lib.hid hkk
        have HRW : Hid (EL = ((q.drop j).take kq.toNat).map (entO s)) := by
          rw [Hid, ← hEL, ← hm, HROW.out j hjM kq]
        have hkl : kk = min kq.toNat (M - j) := by
          rw [← hkk, HRW.out, List.length_map, List.length_take, List.length_drop, HQL.out]
        have hk1 : 1 ≤ kq := by omega
        have hkM : j + kk ≤ M := by omega
        have hkt : kk ≤ kq.toNat := by omega
        have HKZ : Hid (kk = 0 → j = M) := fun h => by omega
        clear hEL hkk hkl
        go_upto_region 12 with fail
        (refine wp_region_free_tail (fun X => Only none_ wr X) (Only none_) (F := ?_) (by kernel_rfl) 9 112 (by rfl) (by kernel_rfl) (fun x => ?_) ((Only.refl none_ wr).drew) ?_; rotate_left; (· (simp only [List.take_succ_cons, List.take_zero, putsL, Act.put, List.setIfInBounds_toArray, List.set_cons_zero, List.set_cons_succ, Nat.reduceAdd]; exact rfl)); simp only [List.take_succ_cons, List.take_zero, List.drop_succ_cons, List.drop_zero])
        repeat (first | ((first | refine fr_value (c := ?_) (by rfl) (fun w => Only.refl none_ w) (fun x w0 hS hk => ?_) ?_ | refine fr_value_if (c := ?_) (by rfl) (by rfl) (by rfl) (fun w => Only.refl none_ w) (fun x w0 hS hk => ?_) ?_); rotate_left; (· (have hk2 := hk; (try simp [knAll, Region.binds] at hk2); have bb := BM.out.only hS (fun h => h); have b0 := bb.cell_ (i := 0) rfl; have b1 := bb.cell_ (i := 1) rfl; have b2 := bb.cell_ (i := 2) rfl; go_simp; try (with_reducible rfl))); try simp only [List.nil_append, List.cons_append]))
        ((first | refine fr_some (SlO enRow 9 wr.heap.size 82 kk EL) (fun _ _ _ _ _ r h => h.keep r) (by rfl) (fun x w0 hS hk => ?_) ?_ | refine fr_some_if (SlO enRow 9 wr.heap.size 82 kk EL) (fun _ _ _ _ _ r h => h.keep r) (by rfl) (by rfl) (by rfl) (fun x w0 hS hk => ?_) ?_); (· (have hk2 := hk; (try simp [knAll, Region.binds] at hk2); skip; refine got_call (f := 31) (args := ?_) (by go_simp; try (with_reducible rfl)) ?_; refine (HBE.out _ ((O8.out.trans OX.out).trans hS)).mono ?_; rintro e w8 ⟨v8, rfl, own8, o8⟩; exact ⟨v8, rfl, SlO.of own8 HKK.out hS.size, hS.trans o8, o8⟩)); try simp only [List.nil_append, List.cons_append])
        (refine fr_end ?_; intro x w9 hS hk)
        obtain ⟨A5, c5, e5, own5⟩ := kn_end_at 8 hk (by rfl)
        rw [Nat.zero_add] at e5
        rw [e5]
        have O9 := Lib.hid (OX.out.trans hS)
        have B9 := Lib.hid (BM.out.only hS (fun h => h))
        generalize wr.heap.size = n9 at own5
        have OW9 := Lib.hid own5
        clear hk e5 own5 hS HBE hkw hnw h7w hq7 hq0
        have hm0 := Lib.hid hm
        clear hm
        have hkI : (kk : Int) ≤ 60 := by omega
        go_wp2_with fail
        go_loopw [62, 10] (fun vc vq X => ∃ i : Nat, i ≤ kk ∧ vc = .int .i64 (i : Int) ∧ vq = .int .i64 ((j + i : Nat) : Int) ∧ Only none_ w8 X ∧ Blk X w8.heap.size 99 #[.int .i64 (mkA q (j + i)).a.c, .int .i64 (mkA q (j + i)).a.s, .string (mkA q (j + i)).k] ∧ X.ownsRow n9 82 9 (.slice A5 kk c5) kk (EL.flatMap enRow)) (fun vc _ _ => kk - (intOf vc).toNat)
        case atStart => exact ⟨0, Nat.zero_le _, rfl, by rw [Nat.add_zero], O9.out, by rw [Nat.add_zero, hm0.out]; exact B9.out, OW9.out⟩
        case round =>
          obtain ⟨i, hik, rfl, rfl, hO2, hB2, hW2⟩ := hrel
          have OI := Lib.hid hO2
          have BI := Lib.hid hB2
          have WI := Lib.hid hW2
          clear hO2 hB2 hW2 O9 B9 OW9
          by_cases hil : i < kk
          · skip
            obtain ⟨t2, ht2⟩ : ∃ t2, j + i = t2 := ⟨_, rfl⟩
            rw [ht2] at BI ⊢
            have ht2M : t2 < M := by omega
            obtain ⟨x, hx⟩ : ∃ x, q[t2]? = some x := ⟨_, List.getElem?_eq_getElem (by have := HQL.out; omega)⟩
            obtain ⟨e, hee, hlk, hea, hek, hhs⟩ := HAT.out x (List.mem_of_getElem? hx)
            have hEi : EL[i]? = some e := by
              rw [HRW.out, List.getElem?_map, List.getElem?_take, if_pos (by omega), List.getElem?_drop, ht2, hx]
              rw [← hee]
              rfl
            have HNX : Hid (mkA q (t2 + 1) = ⟨e.a, e.k⟩) := by
              rw [Hid, mkA_next hx, hea, hek]
            obtain ⟨m2, hm2⟩ : ∃ m2, mkA q t2 = m2 := ⟨_, rfl⟩
            have HLT : Hid (t2 ≠ 0 → mkLater m2 ⟨e.a, e.k⟩ = true) := fun h0 => by
              have := su_later HQD.out hx h0
              rw [hm2] at this
              rw [hea, hek]
              exact this
            have HTS : Hid (mkSame m2 mkTop = decide (t2 = 0)) := by
              rw [Hid, ← hm2]
              by_cases h0 : t2 = 0
              · subst h0; rfl
              · rw [HSM.out t2 (by omega) h0]; simp [h0]
            rw [hm2] at BI
            have XC := Cel.of_own WI.out
            obtain ⟨b2, off2, hA, _, _, hc⟩ := in_elem enRow_length (by decide) XC HKK.out hEi
            subst hA
            have HCW : Hid (∀ i' u, (#[.string e.k, .string e.v, .bool e.d, .int .i64 e.s.c, .int .i64 e.s.s, .int .i64 e.a.c, .int .i64 e.a.s, .int .i64 e.p, .int .i64 e.g] : Array Value).toList[i']? = some u → wr.cell? ⟨b2, off2 + i * 9 + i', none⟩ = some u) := fun i' u hu => hc wr (Only.refl _ _) i' u hu
            have X4 := Lib.hid (Blk.new wr 82 #[.string e.k, .string e.v, .bool e.d, .int .i64 e.s.c, .int .i64 e.s.s, .int .i64 e.a.c, .int .i64 e.a.s, .int .i64 e.p, .int .i64 e.g])
            have hiI : (i : Int) < (kk : Int) := by omega
            have O4 := Lib.hid (OI.out.alloc (.cells #[.string e.k, .string e.v, .bool e.d, .int .i64 e.s.c, .int .i64 e.s.s, .int .i64 e.a.c, .int .i64 e.a.s, .int .i64 e.p, .int .i64 e.g] 82))
            have B4 := Lib.hid (BI.out.alloc (.cells #[.string e.k, .string e.v, .bool e.d, .int .i64 e.s.c, .int .i64 e.s.s, .int .i64 e.a.c, .int .i64 e.a.s, .int .i64 e.p, .int .i64 e.g] 82))
            have W4' := Lib.hid (owns_only WI.out ((Only.refl none_ wr).alloc (.cells #[.string e.k, .string e.v, .bool e.d, .int .i64 e.s.c, .int .i64 e.s.s, .int .i64 e.a.c, .int .i64 e.a.s, .int .i64 e.p, .int .i64 e.g] 82)) (fun _ _ h => h))
            have HE1 : Hid (∀ X, Only none_ (wr.alloc (.cells #[.string e.k, .string e.v, .bool e.d, .int .i64 e.s.c, .int .i64 e.s.s, .int .i64 e.a.c, .int .i64 e.a.s, .int .i64 e.p, .int .i64 e.g] 82)) X → Calls Tryz.prog 24 #[.pointer (some ⟨r, 6, none⟩), .string e.k] X fun E w' => E = .returned (.tuple #[.agg #[.string e.k, .string e.v, .bool e.d, .int .i64 e.s.c, .int .i64 e.s.s, .int .i64 e.a.c, .int .i64 e.a.s, .int .i64 e.p, .int .i64 e.g], .bool true]) ∧ Only none_ X w') := by
              intro X oX
              have := HCE.out X ((O8.out.trans O4.out).trans oX) e.k
              rwa [hlk, hhs] at this
            have HNQ : Hid (∀ X, (binOp .neq 82 (.agg #[.string e.k, .string e.v, .bool e.d, .int .i64 e.s.c, .int .i64 e.s.s, .int .i64 e.a.c, .int .i64 e.a.s, .int .i64 e.p, .int .i64 e.g]) (.agg #[.string e.k, .string e.v, .bool e.d, .int .i64 e.s.c, .int .i64 e.s.s, .int .i64 e.a.c, .int .i64 e.a.s, .int .i64 e.p, .int .i64 e.g])).run Tryz.prog X = .ok (.bool false) X) := fun X => by
              have := neq_of (eq_api_entry X e e 9997)
              rwa [enEq_refl] at this
            clear hx hc hEi XC hee hlk hea hek hhs hm2
            obtain ⟨ek, ev, ed, ⟨esc, ess⟩, ⟨eac, eas⟩, ep, eg⟩ := e
            go_upto_region 16 with (first
              | (with_reducible refine wpl_piece rfl 82 _ rfl b2 (off2 + i * 9) rfl #[.string ek, .string ev, .bool ed, .int .i64 esc, .int .i64 ess, .int .i64 eac, .int .i64 eas, .int .i64 ep, .int .i64 eg] _ HCW.out Tryz.underlying82 rfl (by kernel_rfl) ?_)
              | (with_reducible refine wpl_new rfl rfl 82 rfl _ _ rfl #[.string ek, .string ev, .bool ed, .int .i64 esc, .int .i64 ess, .int .i64 eac, .int .i64 eas, .int .i64 ep, .int .i64 eg] rfl rfl (by kernel_rfl) (en_cells_one ⟨ek, ev, ed, ⟨esc, ess⟩, ⟨eac, eas⟩, ep, eg⟩) ?_))
            try simp only [Act.put, List.setIfInBounds_toArray, List.set_cons_succ, List.set_cons_zero, World.size_alloc]
            try dsimp only at X4 O4 B4 W4' HE1 HCW HNX HLT HNQ
            generalize wr.alloc (.cells #[.string ek, .string ev, .bool ed, .int .i64 esc, .int .i64 ess, .int .i64 eac, .int .i64 eas, .int .i64 ep, .int .i64 eg] 82) = W4 at *
            generalize wr.heap.size = n23 at *
            go_cut [14, 15] (fun s5 s6 w' => Gk W4 ⟨ek, ev, ed, ⟨esc, ess⟩, ⟨eac, eas⟩, ep, eg⟩ true s5 s6 w')
            case first =>
              have q0 := (Blk.drew X4.out).cell_ (i := 0) rfl
              have u0 := (Blk.drew (X4.out.alloc (.cells #[.string ⟨#[]⟩, .string ⟨#[]⟩, .bool false, .int .i64 0, .int .i64 0, .int .i64 0, .int .i64 0, .int .i64 0, .int .i64 0] 82))).cell_ (i := 0) rfl
              have BN := Lib.hid (Blk.drew (Blk.new W4 82 #[.string ⟨#[]⟩, .string ⟨#[]⟩, .bool false, .int .i64 0, .int .i64 0, .int .i64 0, .int .i64 0, .int .i64 0, .int .i64 0]))
              go_region_law (first
                | (refine Se.step_call (by simp [Region.wanted]) 24 #[.pointer (some ⟨r, 6, none⟩), .string ek] (by go_simp; try (with_reducible rfl)) ?_
                   refine (HE1.out _ (by first | exact (Only.refl none_ W4).drew | exact ((Only.refl none_ W4).alloc _).drew)).mono ?_
                   rintro E w1 ⟨rfl, o1⟩
                   refine ⟨_, rfl, ?_⟩
                   have O1 : Hid (Only none_ W4 w1) := by first | exact ((Only.refl none_ W4).drew).trans o1 | exact (((Only.refl none_ W4).alloc _).drew).trans o1
                   try (have B1 := Lib.hid (BN.out.only o1 (fun h => h)); have q1 := nine_of B1.out; have z1 := frozen9 B1.out)
                   have B2 := Lib.hid (Blk.new w1 82 #[.string ⟨#[]⟩, .string ⟨#[]⟩, .bool false, .int .i64 0, .int .i64 0, .int .i64 0, .int .i64 0, .int .i64 0, .int .i64 0])
                   have q2 := nine_of B2.out
                   have z2 := frozen9 B2.out
                   clear o1))
              all_goals go_wp2_with fail
              all_goals go_meet
              all_goals first
                | with_reducible exact Gk.ofS _ true O1.out
                | exact Gk.of (x := enZero) (e := ⟨ek, ev, ed, ⟨esc, ess⟩, ⟨eac, eas⟩, ep, eg⟩) O1.out B1.out (Nat.le_refl _)
                | exact Gk.of (x := enZero) (e := ⟨ek, ev, ed, ⟨esc, ess⟩, ⟨eac, eas⟩, ep, eg⟩) (O1.out.alloc _) B2.out O1.out.size
            case rest =>
              obtain ⟨b1, rfl, rfl, hb1, hC6, o6⟩ := hcut
              obtain ⟨wd, hwd⟩ : ∃ X, X = wc := ⟨_, rfl⟩
              subst hwd
              have C6 := Lib.hid hC6
              have B6 := Lib.hid (X4.out.only o6 (fun h => h))
              have O6 := Lib.hid (O4.out.trans o6)
              have M6 := Lib.hid (B4.out.only o6 (fun h => h))
              have W6 := Lib.hid (owns_only W4'.out o6 (fun _ _ h => h))
              clear hb1 hC6 o6 HE1 X4 O4 B4 W4' HCW
              have HNM : Hid (∀ X, (binOp .neq 99 (.agg #[.int .i64 m2.a.c, .int .i64 m2.a.s, .string m2.k]) (.agg #[.int .i64 0, .int .i64 0, .string ⟨#[]⟩])).run Tryz.prog X = .ok (.bool (!decide (t2 = 0))) X) := fun X => by
                have := neqA X m2 mkTop
                rwa [HTS.out] at this
              go_upto_region 17 with fail
              by_cases h0 : t2 = 0
              · have hd0 : (!decide (t2 = 0)) = false := by simp [h0]
                rw [hd0] at HNM
                have HBL2 : Hid True := trivial
                (refine wp_region_steady (fun X => Only none_ wd X) 21 (by kernel_rfl) (by kernel_rfl) ((Only.refl none_ wd).drew) ?_; simp only [List.take_succ_cons, List.take_zero, List.drop_succ_cons, List.drop_zero])
                repeat (first
                  | (refine sd_value (v := ?_) (by rfl) (fun w0 hS => ?_) ?_; rotate_left; (· (have oo := nine_of (B6.out.only hS (fun h => h)); have pp := nine_of (C6.out.only hS (fun h => h)); have bb := M6.out.only hS (fun h => h); have b0 := bb.cell_ (i := 0) rfl; have b1 := bb.cell_ (i := 1) rfl; have b2 := bb.cell_ (i := 2) rfl; have hnq := HNQ.out; have hnm := HNM.out; go_simp; try (with_reducible rfl))); try simp only [Act.put, List.setIfInBounds_toArray, List.set_cons_zero, List.set_cons_succ])
                  | (refine sd_call (v := ?_) (f := 56) (args := ?_) (by rfl) (fun w0 hS => ?_) (fun w0 hS => ?_) ?_; rotate_left 2; (· (skip; go_simp; try (with_reducible rfl))); (· (refine (bw_to m2 _).mono ?_; rintro E w8 ⟨rfl, o8⟩; refine ⟨?_, hS.trans o8⟩; rfl)); try simp only [Act.put, List.setIfInBounds_toArray, List.set_cons_zero, List.set_cons_succ])
                  | (refine sd_call (v := ?_) (f := 26) (args := ?_) (by rfl) (fun w0 hS => ?_) (fun w0 hS => ?_) ?_; rotate_left 2; (· (skip; go_simp; try (with_reducible rfl))); (· (with_reducible refine (en_to ⟨ek, ev, ed, ⟨esc, ess⟩, ⟨eac, eas⟩, ep, eg⟩ _).mono ?_; rintro E w8 ⟨rfl, o8⟩; refine ⟨?_, hS.trans o8⟩; rfl)); try simp only [Act.put, List.setIfInBounds_toArray, List.set_cons_zero, List.set_cons_succ])
                  | (refine sd_call (v := ?_) (f := 57) (args := ?_) (by rfl) (fun w0 hS => ?_) (fun w0 hS => ?_) ?_; rotate_left 2; (· (skip; go_simp; try (with_reducible rfl))); (· (with_reducible refine (bw_mark ⟨ek, ev, ed, ⟨esc, ess⟩, ⟨eac, eas⟩, ep, eg⟩ _).mono ?_; rintro E w8 ⟨rfl, o8⟩; refine ⟨?_, hS.trans o8⟩; rfl)); try simp only [Act.put, List.setIfInBounds_toArray, List.set_cons_zero, List.set_cons_succ])
                  | (refine sd_call (v := ?_) (f := 55) (args := ?_) (by rfl) (fun w0 hS => ?_) (fun w0 hS => ?_) ?_; rotate_left 2; (· (skip; go_simp; try (with_reducible rfl))); (· (refine (HBL2.out _).mono ?_; rintro E w8 ⟨rfl, o8⟩; refine ⟨?_, hS.trans o8⟩; rfl)); try simp only [Act.put, List.setIfInBounds_toArray, List.set_cons_zero, List.set_cons_succ])
                  | (refine sd_skip (by rfl) ?_; try simp only [Act.put, List.setIfInBounds_toArray, List.set_cons_zero, List.set_cons_succ]))
                refine sd_nil ?_
                intro w10 t10
                have O10 := Lib.hid (O6.out.trans t10)
                have M10 := Lib.hid (M6.out.only t10 (fun h => h))
                have W10 := Lib.hid (owns_only W6.out t10 (fun _ _ h => h))
                have ee := nine_of (B6.out.only t10 (fun h => h))
                clear t10
                have XM := M10.out
                have c0 := XM.cell_ (i := 0) rfl
                have f0 := XM.frozen 0
                have c1 := (XM.set_ 0 (.int .i64 eac)).cell_ (i := 1) rfl
                have f1 := (XM.set_ 0 (.int .i64 eac)).frozen 1
                have c2 := ((XM.set_ 0 (.int .i64 eac)).set_ 1 (.int .i64 eas)).cell_ (i := 2) rfl
                have f2 := ((XM.set_ 0 (.int .i64 eac)).set_ 1 (.int .i64 eas)).frozen 2
                have OC : Only (one w8.heap.size) w10 (((w10.setCell ⟨w8.heap.size, 0, none⟩ (.int .i64 eac)).setCell ⟨w8.heap.size, 1, none⟩ (.int .i64 eas)).setCell ⟨w8.heap.size, 2, none⟩ (.string ek)) := (((Only.refl (one w8.heap.size) w10).setCell (p := ⟨w8.heap.size, 0, none⟩) (.inl (show one w8.heap.size w8.heap.size from rfl)) _).setCell (p := ⟨w8.heap.size, 1, none⟩) (.inl (show one w8.heap.size w8.heap.size from rfl)) _).setCell (p := ⟨w8.heap.size, 2, none⟩) (.inl (show one w8.heap.size w8.heap.size from rfl)) _
                have OS : Hid (Only none_ w8 (((w10.setCell ⟨w8.heap.size, 0, none⟩ (.int .i64 eac)).setCell ⟨w8.heap.size, 1, none⟩ (.int .i64 eas)).setCell ⟨w8.heap.size, 2, none⟩ (.string ek))) := O10.out.trans' OC (fun k hk e => by have e' : k = w8.heap.size := e; omega)
                have MS : Hid (Blk (((w10.setCell ⟨w8.heap.size, 0, none⟩ (.int .i64 eac)).setCell ⟨w8.heap.size, 1, none⟩ (.int .i64 eas)).setCell ⟨w8.heap.size, 2, none⟩ (.string ek)) w8.heap.size 99 #[.int .i64 eac, .int .i64 eas, .string ek]) := ((XM.set_ 0 (.int .i64 eac)).set_ 1 (.int .i64 eas)).set_ 2 (.string ek)
                have WS : Hid ((((w10.setCell ⟨w8.heap.size, 0, none⟩ (.int .i64 eac)).setCell ⟨w8.heap.size, 1, none⟩ (.int .i64 eas)).setCell ⟨w8.heap.size, 2, none⟩ (.string ek)).ownsRow n9 82 9 (.slice (some ⟨b2, off2, none⟩) kk c5) kk (EL.flatMap enRow)) :=
                  owns_only W10.out OC (fun b hb e => own_blk_ne W10.out M10.out (by decide) (by rw [hb, show b = w8.heap.size from e]))
                clear XM OC
                go_wp2_with fail
                go_roundw
                case rel => exact ⟨i + 1, by omega, by go_num, by go_num, OS.out, by rw [← Nat.add_assoc, ht2, HNX.out]; exact MS.out, WS.out⟩
                case measure => simp [intOf]; omega
              · have hd0 : (!decide (t2 = 0)) = true := by simp [h0]
                rw [hd0] at HNM
                have HBL2 : Hid (∀ X, Calls Tryz.prog 55 #[.agg #[.int .i64 m2.a.c, .int .i64 m2.a.s, .string m2.k], .agg #[.int .i64 eac, .int .i64 eas, .string ek]] X fun E w' => E = .returned (.bool true) ∧ Only none_ X w') := fun X => by
                  have := bw_later m2 ⟨⟨eac, eas⟩, ek⟩ X
                  rwa [HLT.out h0] at this
                (refine wp_region_steady (fun X => Only none_ wd X) 21 (by kernel_rfl) (by kernel_rfl) ((Only.refl none_ wd).drew) ?_; simp only [List.take_succ_cons, List.take_zero, List.drop_succ_cons, List.drop_zero])
                repeat (first
                  | (refine sd_value (v := ?_) (by rfl) (fun w0 hS => ?_) ?_; rotate_left; (· (have oo := nine_of (B6.out.only hS (fun h => h)); have pp := nine_of (C6.out.only hS (fun h => h)); have bb := M6.out.only hS (fun h => h); have b0 := bb.cell_ (i := 0) rfl; have b1 := bb.cell_ (i := 1) rfl; have b2 := bb.cell_ (i := 2) rfl; have hnq := HNQ.out; have hnm := HNM.out; go_simp; try (with_reducible rfl))); try simp only [Act.put, List.setIfInBounds_toArray, List.set_cons_zero, List.set_cons_succ])
                  | (refine sd_call (v := ?_) (f := 56) (args := ?_) (by rfl) (fun w0 hS => ?_) (fun w0 hS => ?_) ?_; rotate_left 2; (· (skip; go_simp; try (with_reducible rfl))); (· (refine (bw_to m2 _).mono ?_; rintro E w8 ⟨rfl, o8⟩; refine ⟨?_, hS.trans o8⟩; rfl)); try simp only [Act.put, List.setIfInBounds_toArray, List.set_cons_zero, List.set_cons_succ])
                  | (refine sd_call (v := ?_) (f := 26) (args := ?_) (by rfl) (fun w0 hS => ?_) (fun w0 hS => ?_) ?_; rotate_left 2; (· (skip; go_simp; try (with_reducible rfl))); (· (with_reducible refine (en_to ⟨ek, ev, ed, ⟨esc, ess⟩, ⟨eac, eas⟩, ep, eg⟩ _).mono ?_; rintro E w8 ⟨rfl, o8⟩; refine ⟨?_, hS.trans o8⟩; rfl)); try simp only [Act.put, List.setIfInBounds_toArray, List.set_cons_zero, List.set_cons_succ])
                  | (refine sd_call (v := ?_) (f := 57) (args := ?_) (by rfl) (fun w0 hS => ?_) (fun w0 hS => ?_) ?_; rotate_left 2; (· (skip; go_simp; try (with_reducible rfl))); (· (with_reducible refine (bw_mark ⟨ek, ev, ed, ⟨esc, ess⟩, ⟨eac, eas⟩, ep, eg⟩ _).mono ?_; rintro E w8 ⟨rfl, o8⟩; refine ⟨?_, hS.trans o8⟩; rfl)); try simp only [Act.put, List.setIfInBounds_toArray, List.set_cons_zero, List.set_cons_succ])
                  | (refine sd_call (v := ?_) (f := 55) (args := ?_) (by rfl) (fun w0 hS => ?_) (fun w0 hS => ?_) ?_; rotate_left 2; (· (skip; go_simp; try (with_reducible rfl))); (· (refine (HBL2.out _).mono ?_; rintro E w8 ⟨rfl, o8⟩; refine ⟨?_, hS.trans o8⟩; rfl)); try simp only [Act.put, List.setIfInBounds_toArray, List.set_cons_zero, List.set_cons_succ])
                  | (refine sd_skip (by rfl) ?_; try simp only [Act.put, List.setIfInBounds_toArray, List.set_cons_zero, List.set_cons_succ]))
                refine sd_nil ?_
                intro w10 t10
                have O10 := Lib.hid (O6.out.trans t10)
                have M10 := Lib.hid (M6.out.only t10 (fun h => h))
                have W10 := Lib.hid (owns_only W6.out t10 (fun _ _ h => h))
                have ee := nine_of (B6.out.only t10 (fun h => h))
                clear t10
                have XM := M10.out
                have c0 := XM.cell_ (i := 0) rfl
                have f0 := XM.frozen 0
                have c1 := (XM.set_ 0 (.int .i64 eac)).cell_ (i := 1) rfl
                have f1 := (XM.set_ 0 (.int .i64 eac)).frozen 1
                have c2 := ((XM.set_ 0 (.int .i64 eac)).set_ 1 (.int .i64 eas)).cell_ (i := 2) rfl
                have f2 := ((XM.set_ 0 (.int .i64 eac)).set_ 1 (.int .i64 eas)).frozen 2
                have OC : Only (one w8.heap.size) w10 (((w10.setCell ⟨w8.heap.size, 0, none⟩ (.int .i64 eac)).setCell ⟨w8.heap.size, 1, none⟩ (.int .i64 eas)).setCell ⟨w8.heap.size, 2, none⟩ (.string ek)) := (((Only.refl (one w8.heap.size) w10).setCell (p := ⟨w8.heap.size, 0, none⟩) (.inl (show one w8.heap.size w8.heap.size from rfl)) _).setCell (p := ⟨w8.heap.size, 1, none⟩) (.inl (show one w8.heap.size w8.heap.size from rfl)) _).setCell (p := ⟨w8.heap.size, 2, none⟩) (.inl (show one w8.heap.size w8.heap.size from rfl)) _
                have OS : Hid (Only none_ w8 (((w10.setCell ⟨w8.heap.size, 0, none⟩ (.int .i64 eac)).setCell ⟨w8.heap.size, 1, none⟩ (.int .i64 eas)).setCell ⟨w8.heap.size, 2, none⟩ (.string ek))) := O10.out.trans' OC (fun k hk e => by have e' : k = w8.heap.size := e; omega)
                have MS : Hid (Blk (((w10.setCell ⟨w8.heap.size, 0, none⟩ (.int .i64 eac)).setCell ⟨w8.heap.size, 1, none⟩ (.int .i64 eas)).setCell ⟨w8.heap.size, 2, none⟩ (.string ek)) w8.heap.size 99 #[.int .i64 eac, .int .i64 eas, .string ek]) := ((XM.set_ 0 (.int .i64 eac)).set_ 1 (.int .i64 eas)).set_ 2 (.string ek)
                have WS : Hid ((((w10.setCell ⟨w8.heap.size, 0, none⟩ (.int .i64 eac)).setCell ⟨w8.heap.size, 1, none⟩ (.int .i64 eas)).setCell ⟨w8.heap.size, 2, none⟩ (.string ek)).ownsRow n9 82 9 (.slice (some ⟨b2, off2, none⟩) kk c5) kk (EL.flatMap enRow)) :=
                  owns_only W10.out OC (fun b hb e => own_blk_ne W10.out M10.out (by decide) (by rw [hb, show b = w8.heap.size from e]))
                clear XM OC
                go_wp2_with fail
                go_roundw
                case rel => exact ⟨i + 1, by omega, by go_num, by go_num, OS.out, by rw [← Nat.add_assoc, ht2, HNX.out]; exact MS.out, WS.out⟩
                case measure => simp [intOf]; omega
          · obtain rfl : kk = i := by omega
            by_cases hz : kk = 0
            · have hjM2 := HKZ.out hz
              subst hz
              subst hjM2
              have P9 := Lib.hid (P6.out.trans (R6.out.p.ho.trans (O8.out.trans OI.out)))
              go_wp2_with fail
              go_ret
              exact ⟨rfl, P9.out⟩
            · have hkz : ¬ ((kk : Int) = 0) := by omega
              go_wp2_with fail
              go_roundw
              case rel => exact ⟨t + 1, j + kk, by omega, by omega, by go_num, rfl, OI.out, BI.out⟩
              case measure => simp [intOf]; omega
    · have hcb : (ck != 0) = true := by simpa using hc0
      as_aux_lemma =>
        clear hck hc0 HX HL
        go_enter Tryz.func9, Tryz.ntmps9
        have tok1 : True := trivial
        go_wp2_with (first
          | (go_at_call 12; have _t := tok1; clear tok1; refine (HSP.out _).mono ?_; rintro E w1 ⟨rfl, o1⟩; have P1 := Lib.hid o1; have O1 := Lib.hid (O0.out.trans o1); clear o1; have tok2 : True := trivial)
          | (go_at_call 13; refine (HFW.out _ O1.out).mono ?_; rintro E w2 ⟨rfl, o2⟩; have P2 := Lib.hid o2; have O2 := Lib.hid (O1.out.trans o2); clear o2)
          | (refine wpl_load_if (by rfl) 23 _ rfl w.heap.size rfl 23 #[.int .i64 o.n, .int .i64 o.q, .int .i64 o.r, .int .i64 o.t1, .int .i64 o.t2] _ (by first | exact BX.out.only (Only.trans P1.out P2.out) (fun h => h)) Tryz.underlying23 rfl (by kernel_rfl) ?_)
          | (go_at_call 19; refine (HCK.out _).mono ?_; rintro E w3 ⟨rfl, o3⟩; have O3 := Lib.hid (O2.out.trans o3); clear o3)
          | (go_at_call 12; have _t := tok2; clear tok2; refine (HSP.out _).mono ?_; rintro E w9 ⟨rfl, o9⟩; have O9 := Lib.hid (O3.out.trans o9); clear o9))
        go_ret
        exact ⟨rfl, O9.out⟩
end Go.Proofs.YtoohpcomnhfgpaaGreat
end
