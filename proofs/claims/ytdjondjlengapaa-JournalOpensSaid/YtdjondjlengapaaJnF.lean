/- What the document's Read of layer 7 gives. No statement of the seat is proved here. -/
import Derived.Test.YtdjondjlengapaaJnE
import Derived.Test.YtdjondjlengapaaJnD
namespace Go.Proofs.Ytdjondjlengapaa
open Go.RowKit
set_option maxRecDepth 100000
set_option linter.all false
attribute [local go_sem ↓] Go.wp_at_zero Go.wp_at_succ

theorem take_two {bs : List UInt8} (h : 2 ≤ bs.length) : ∃ x y, bs.take 2 = [x, y] ∧ leVal (bs.take 2) = x.toNat + 256 * y.toNat := by
  rcases bs with _ | ⟨x, _ | ⟨y, r⟩⟩
  · simp at h
  · simp at h
  · exact ⟨x, y, by simp, by simp [leVal]⟩
theorem jnK_short {bs : List UInt8} (h : bs.length < 6) : jnK bs = 1 := by rw [jnK, if_pos h]
theorem jnK_head {bs : List UInt8} (h : ¬ bs.length < 6) (hh : crcHolds (bs.take 6) = false) : jnK bs = 2 := by rw [jnK, if_neg h, if_pos (.inl hh)]
theorem jnK_said {bs : List UInt8} (h : ¬ bs.length < 6) (hr : jnN bs < 1 ∨ 512 < jnN bs) : jnK bs = 2 := by rw [jnK, if_neg h, if_pos (.inr hr)]
theorem jnK_cut {bs : List UInt8} (h : ¬ bs.length < 6) (hh : crcHolds (bs.take 6) = true) (h1 : 1 ≤ jnN bs) (h5 : jnN bs ≤ 512) (hs : bs.length < 10 + jnN bs) : jnK bs = 1 := by
  rw [jnK, if_neg h, if_neg (by rw [hh]; simp; omega), if_pos hs]
theorem jnK_rot {bs : List UInt8} (h : ¬ bs.length < 6) (hh : crcHolds (bs.take 6) = true) (h1 : 1 ≤ jnN bs) (h5 : jnN bs ≤ 512) (hs : ¬ bs.length < 10 + jnN bs) (hm : crcHolds ((bs.drop 6).take (jnN bs + 4)) = false) : jnK bs = 2 := by
  rw [jnK, if_neg h, if_neg (by rw [hh]; simp; omega), if_neg hs, if_pos hm]
theorem jnK_rec {bs : List UInt8} (h : ¬ bs.length < 6) (hh : crcHolds (bs.take 6) = true) (h1 : 1 ≤ jnN bs) (h5 : jnN bs ≤ 512) (hs : ¬ bs.length < 10 + jnN bs) (hm : crcHolds ((bs.drop 6).take (jnN bs + 4)) = true) : jnK bs = 0 := by
  rw [jnK, if_neg h, if_neg (by rw [hh]; simp; omega), if_neg hs, if_neg (by rw [hm]; decide)]

set_option maxHeartbeats 12800000 in
theorem rf_read7 (A : Option Addr) (c : Nat) (bs : List UInt8) (S : Nat → Prop) (w : World) (hx : Byt w S (.slice A bs.length c) bs) (hl : bs.length ≤ 1000000) :
    Calls Try.prog 25 #[.slice A bs.length c] w fun e w' => ∃ v, e = .returned (.tuple #[v, .int .i64 ((jnRead bs).2.1 : Int), .int .i64 (jnRead bs).2.2]) ∧ Lst w' w.heap.size (fun b => b < w.heap.size) v (jnRead bs).1 ∧ Only none_ w w' := by
  obtain ⟨i0, hi0, hz0, hz1, hz2⟩ := info_parts u8_info
  obtain ⟨R, hR⟩ : ∃ R, jnRead bs = R := ⟨_, rfl⟩
  have hR0 : jnR (bs.length + 1) [] 0 bs = R := hR
  rw [hR]
  obtain ⟨L, hL⟩ : ∃ L, bs.length = L := ⟨_, rfl⟩
  have hx := hx.mono (T := fun b => b < w.heap.size) (fun b hb _ => hb)
  rw [hL] at hx hl hR0 ⊢
  have HX := Lib.hid hx
  have HR0 := Lib.hid hR0
  have HL := Lib.hid hL
  have O0 := Lib.hid ((Only.refl none_ w).alloc (.cells #[] 22))
  have L0 := Lib.hid (Lst.made w w.heap.size (fun b => b < w.heap.size) (Nat.le_refl _))
  clear hx hR hR0 hL
  go_enter Try.func25, Try.ntmps25
  go_wp2_with fail
  go_loopw [5, 6] (fun v k wr => ∃ (f : Nat) (acc : List (List UInt8)) (n : Nat), n ≤ L ∧ acc.length ≤ n ∧ L - n < f ∧ jnR f acc n (bs.drop n) = R ∧ k = .int .i64 n ∧ Lst wr w.heap.size (fun b => b < w.heap.size) v acc ∧ Only none_ w wr) (fun v _ _ => L + 1 - lenV v)
  case atStart => exact ⟨L + 1, [], 0, by omega, by simp, by omega, by simpa using HR0.out, rfl, L0.out, O0.out⟩
  case round =>
    obtain ⟨f, acc, n, hn, ha, hf, hj, rfl, hl1, ho⟩ := hrel
    obtain ⟨f', rfl⟩ : ∃ f', f = f' + 1 := ⟨f - 1, by omega⟩
    rw [jnR_step] at hj
    obtain ⟨A1, c1, rfl⟩ := hl1.shape
    obtain ⟨rs, hrs⟩ : ∃ r, bs.drop n = r := ⟨_, rfl⟩
    have hdl : rs.length = L - n := by rw [← hrs, List.length_drop, HL.out]
    obtain ⟨Ar, Lr, cr, hslr, hbr⟩ := byt_lo Try.underlying22 hi0 hz1 (HX.out.only ho (fun _ _ h => h)) n hn (n : Int) rfl
    rw [hrs] at hbr hj
    obtain rfl : Lr = rs.length := by obtain ⟨_, _, he, _⟩ := hbr; injection he
    obtain ⟨M, hM⟩ : ∃ M, rs.length = M := ⟨_, rfl⟩
    rw [hM] at hbr hslr
    have hML : M = L - n := by omega
    have hM6 : M ≤ 1000000 := by omega
    have HMM := Lib.hid hM
    have HBR := Lib.hid hbr
    have HLS := Lib.hid hl1
    have HO := Lib.hid ho
    have HF := Lib.hid (And.intro hn (And.intro ha hf))
    have hn6 : n ≤ 1000000 := by omega
    have HRS := Lib.hid hrs
    by_cases h6 : M < 6
    · have hk := jnK_short (show rs.length < 6 by omega)
      rw [if_neg (by omega), if_pos hk] at hj
      subst hj
      have d6 : decide ((M : Int) < 6) = true := by simp; omega
      clear hl1 ho hn ha hf hdl hbr hML hk h6 hM
      go_wp2_with fail
      refine bodyPost_ret (v := .tuple #[.slice A1 acc.length c1, .int .i64 (n : Int), .int .i64 0]) (by simp [results, Try.results25, go_sem]) rfl ?_
      exact ⟨_, rfl, HLS.out, HO.out⟩
    have d6 : decide ((M : Int) < 6) = false := by simp; omega
    have h6' : ¬ rs.length < 6 := by omega
    obtain ⟨A2, hsl2, hb2⟩ := byt_hi Try.underlying22 hi0 hbr 2 (by omega) 2 rfl
    obtain ⟨A6, hsl6, hb6⟩ := byt_hi Try.underlying22 hi0 hbr 6 (by omega) 6 rfl
    have B6 := Lib.hid hb6
    have hl6 : (rs.take 6).length = 6 := by rw [List.length_take]; omega
    have hl6' : (rs.take 6).length ≤ 1000000 := by omega
    obtain ⟨x, y, hxy, hv⟩ := take_two (show 2 ≤ rs.length by omega)
    obtain ⟨k, hkk⟩ : ∃ k, leVal (rs.take 2) = k := ⟨_, rfl⟩
    have hjn : jnN rs = k := hkk
    have hk5 : k < 65536 := hkk ▸ leVal_two rs
    rw [hkk] at hv
    rw [hxy] at hb2
    have HV := Lib.hid (fun w' (o : Only none_ wr w') => two_value A2 cr x y k hv _ w' (hb2.only o (fun _ _ h => h)))
    have hcv : IntKind.i64.wrap (k : Int) = (k : Int) := IntWalk.i64_in _ (by omega)
    have hw1 : IntKind.i64.wrap (10 + (k : Int)) = 10 + (k : Int) := IntWalk.i64_in _ (by omega)
    have hw2 : IntKind.i64.wrap (6 + (k : Int)) = 6 + (k : Int) := IntWalk.i64_in _ (by omega)
    have hw3 : IntKind.i64.wrap ((n : Int) + 10) = (n : Int) + 10 := IntWalk.i64_in _ (by omega)
    have hw4 : IntKind.i64.wrap ((n : Int) + 10 + (k : Int)) = (n : Int) + 10 + (k : Int) := IntWalk.i64_in _ (by omega)
    have HH := Lib.hid (refHolds_any _ (rs.take 6) _ wr hb6 hl6')
    clear hv hxy hkk hb2 hl6'
    by_cases hh : crcHolds (rs.take 6) = false
    · have hk := jnK_head h6' hh
      rw [if_pos hk] at hj
      subst hj
      rw [hh] at HH
      clear hl1 ho hn ha hf hdl hbr hML hk h6 hM h6' hb6 hl6 hh hjn
      go_wp2_with (first
        | (go_at_call 59; refine (HV.out _ (Only.refl none_ wr)).mono ?_; rintro e w9 ⟨rfl, rfl⟩)
        | (go_at_call 60; refine HH.out.mono ?_; rintro e w1 ⟨rfl, o1⟩
           have O1 := Lib.hid o1
           clear o1))
      refine bodyPost_ret (v := .tuple #[.slice none 0 0, .int .i64 0, .int .i64 12]) (by simp [results, Try.results25, go_sem]) rfl ?_
      exact ⟨_, rfl, Lst.nil _ _ _, HO.out.trans O1.out⟩
    have hh : crcHolds (rs.take 6) = true := by simpa using hh
    rw [hh] at HH
    by_cases h1 : k < 1
    · have hk := jnK_said h6' (.inl (by rw [hjn]; exact h1))
      rw [if_pos hk] at hj
      subst hj
      have dk : decide ((k : Int) < 1) = true := by simp; omega
      clear hl1 ho hn ha hf hdl hbr hML hk h6 hM h6' hb6 hl6 hh hjn h1
      go_wp2_with (first
        | (go_at_call 59; refine (HV.out _ (Only.refl none_ wr)).mono ?_; rintro e w9 ⟨rfl, rfl⟩)
        | (go_at_call 60; refine HH.out.mono ?_; rintro e w1 ⟨rfl, o1⟩
           have O1 := Lib.hid o1
           clear o1))
      refine bodyPost_ret (v := .tuple #[.slice none 0 0, .int .i64 0, .int .i64 12]) (by simp [results, Try.results25, go_sem]) rfl ?_
      exact ⟨_, rfl, Lst.nil _ _ _, HO.out.trans O1.out⟩
    have dk : decide ((k : Int) < 1) = false := by simp; omega
    by_cases h5 : 512 < k
    · have hk := jnK_said h6' (.inr (by rw [hjn]; exact h5))
      rw [if_pos hk] at hj
      subst hj
      have dk5 : decide (512 < (k : Int)) = true := by simp; omega
      clear hl1 ho hn ha hf hdl hbr hML hk h6 hM h6' hb6 hl6 hh hjn h1 h5
      go_wp2_with (first
        | (go_at_call 59; refine (HV.out _ (Only.refl none_ wr)).mono ?_; rintro e w9 ⟨rfl, rfl⟩)
        | (go_at_call 60; refine HH.out.mono ?_; rintro e w1 ⟨rfl, o1⟩
           have O1 := Lib.hid o1
           clear o1))
      refine bodyPost_ret (v := .tuple #[.slice none 0 0, .int .i64 0, .int .i64 12]) (by simp [results, Try.results25, go_sem]) rfl ?_
      exact ⟨_, rfl, Lst.nil _ _ _, HO.out.trans O1.out⟩
    have dk5 : decide (512 < (k : Int)) = false := by simp; omega
    by_cases hs : M < 10 + k
    · have hk := jnK_cut h6' hh (by rw [hjn]; omega) (by rw [hjn]; omega) (by rw [hjn]; omega)
      rw [if_neg (by omega), if_pos hk] at hj
      subst hj
      have ds : decide ((M : Int) < 10 + (k : Int)) = true := by simp; omega
      clear hl1 ho hn ha hf hdl hbr hML hk h6 hM h6' hb6 hl6 hh hjn h1 h5 hs
      go_wp2_with (first
        | (go_at_call 59; refine (HV.out _ (Only.refl none_ wr)).mono ?_; rintro e w9 ⟨rfl, rfl⟩)
        | (go_at_call 60; refine HH.out.mono ?_; rintro e w1 ⟨rfl, o1⟩
           have O1 := Lib.hid o1
           clear o1))
      refine bodyPost_ret (v := .tuple #[.slice A1 acc.length c1, .int .i64 (n : Int), .int .i64 0]) (by simp [results, Try.results25, go_sem]) rfl ?_
      exact ⟨_, rfl, HLS.out.keep O1.out, HO.out.trans O1.out⟩
    have ds : decide ((M : Int) < 10 + (k : Int)) = false := by simp; omega
    obtain ⟨Am, Lm, cm, hslm, hbm⟩ := byt_mid Try.underlying22 hi0 hz1 hbr 6 (10 + k) (by omega) (by omega) 6 (10 + (k : Int)) rfl (by omega)
    rw [show 10 + k - 6 = k + 4 by omega] at hbm
    have hlm : ((rs.drop 6).take (k + 4)).length ≤ 1000000 := by rw [List.length_take]; omega
    have BM := Lib.hid hbm
    by_cases hm : crcHolds ((rs.drop 6).take (k + 4)) = false
    · have hk := jnK_rot h6' hh (by rw [hjn]; omega) (by rw [hjn]; omega) (by rw [hjn]; omega) (by rw [hjn]; exact hm)
      rw [if_pos hk] at hj
      subst hj
      have HMF := Lib.hid hm
      clear hl1 ho hn ha hf hdl hbr hML hk h6 hM h6' hb6 hl6 hh hjn h1 h5 hs hbm hm
      have tokA : True := trivial
      go_wp2_with (first
        | (go_at_call 59; refine (HV.out _ (Only.refl none_ wr)).mono ?_; rintro e w9 ⟨rfl, rfl⟩)
        | (go_at_call 60; have _t := tokA; clear tokA; refine HH.out.mono ?_; rintro e w1 ⟨rfl, o1⟩
           have O1 := Lib.hid o1
           clear o1
           have tokB : True := trivial)
        | (go_at_call 60; have _t := tokB; clear tokB; refine (refHolds_any _ _ _ w1 (BM.out.only O1.out (fun _ _ h => h)) hlm).mono ?_; rw [HMF.out]; rintro e w2 ⟨rfl, o2⟩
           have O2 := Lib.hid (O1.out.trans o2)
           clear o2))
      refine bodyPost_ret (v := .tuple #[.slice none 0 0, .int .i64 0, .int .i64 12]) (by simp [results, Try.results25, go_sem]) rfl ?_
      exact ⟨_, rfl, Lst.nil _ _ _, HO.out.trans O2.out⟩
    have hm : crcHolds ((rs.drop 6).take (k + 4)) = true := by simpa using hm
    have hk := jnK_rec h6' hh (by rw [hjn]; omega) (by rw [hjn]; omega) (by rw [hjn]; omega) (by rw [hjn]; exact hm)
    rw [if_neg (by omega), if_neg (by omega), jnB, hjn] at hj
    obtain ⟨Ab, Lb, cb, hslb, hbb⟩ := byt_mid Try.underlying22 hi0 hz1 hbr 6 (6 + k) (by omega) (by omega) 6 (6 + (k : Int)) rfl (by omega)
    rw [show 6 + k - 6 = k by omega] at hbb
    have HMT := Lib.hid hm
    have BB := Lib.hid hbb
    have HJ := Lib.hid hj
    have HZ : Hid (1 ≤ k ∧ 10 + k ≤ L - n) := ⟨by omega, by omega⟩
    have OWN : Hid (∀ b, b < w.heap.size → (Value.slice A1 acc.length c1).ownBlock ≠ some b) := fun b hb e => by have := (HLS.out.own_lt b e).1; omega
    have hc2 : acc.length ≤ 2000000 := by omega
    clear hl1 ho hn ha hf hdl hbr hML hk h6 hM h6' hb6 hl6 hh hjn h1 h5 hs hbm hm hbb hj
    have tokA : True := trivial
    go_wp2_with (first
      | (go_at_call 59; refine (HV.out _ (Only.refl none_ wr)).mono ?_; rintro e w9 ⟨rfl, rfl⟩)
      | (go_at_call 60; have _t := tokA; clear tokA; refine HH.out.mono ?_; rintro e w1 ⟨rfl, o1⟩
         have O1 := Lib.hid o1
         clear o1
         have tokB : True := trivial)
      | (go_at_call 60; have _t := tokB; clear tokB; refine (refHolds_any _ _ _ w1 (BM.out.only O1.out (fun _ _ h => h)) hlm).mono ?_; rw [HMT.out]; rintro e w2 ⟨rfl, o2⟩
         have O2 := Lib.hid (O1.out.trans o2)
         have L2 := Lib.hid (HLS.out.keep O2.out)
         have Y2 := Lib.hid ((BB.out.only O2.out (fun _ _ h => h)).mono (T := fun b => b < w.heap.size ∧ (Value.slice A1 acc.length c1).ownBlock ≠ some b) (fun b _ hb => ⟨hb, OWN.out b hb⟩))
         have hb2 : w.heap.size ≤ w2.heap.size := Nat.le_trans HO.out.size O2.out.size
         clear o2)
      | (at_builtin; refine wpList_append_lst w2 rfl (.tmp 47) (.tmp 52) rfl w.heap.size _ _ acc rfl L2.out _ _ rfl Y2.out hb2 hc2 ?_
         intro A3 n3 c3 w3 hl3 ho3 hm3
         have L3 := Lib.hid hl3
         have O3 : Hid (Only none_ w w3) := (HO.out.trans O2.out).trans' ho3 (fun k hk e => by have := (HLS.out.own_lt _ e).1; omega)
         have N3 : Hid (n3 = (acc ++ [(rs.drop 6).take k]).length) := by obtain ⟨_, _, h⟩ := hl3.shape; injection h
         clear hl3 ho3 hm3))
    go_roundw
    case rel =>
      have h1 := HF.out.1; have h2 := HF.out.2.1; have h3 := HF.out.2.2
      have z1 := HZ.out.1; have z2 := HZ.out.2
      have hd : rs.drop (10 + k) = bs.drop (n + (10 + k)) := by rw [← HRS.out, List.drop_drop]
      have hj := HJ.out
      rw [hd] at hj
      exact ⟨f', acc ++ [(rs.drop 6).take k], n + (10 + k), by omega, by rw [List.length_append, List.length_cons, List.length_nil]; omega, by omega, hj, by push_cast; congr 1; omega, L3.out, O3.out⟩
    case measure =>
      have h1 := HF.out.1; have h2 := HF.out.2.1
      have h3 := N3.out
      rw [List.length_append, List.length_cons, List.length_nil] at h3
      simp only [lenV]
      omega
end Go.Proofs.Ytdjondjlengapaa
