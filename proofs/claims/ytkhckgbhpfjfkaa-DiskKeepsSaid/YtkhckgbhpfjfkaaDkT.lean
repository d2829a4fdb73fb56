/- The call of DiskKeeps. The statement itself is proved in another text. -/
import Derived.Test.YtkhckgbhpfjfkaaDkS
import Derived.Deep.RegionHeld3
namespace Go.Proofs.Ytkhckgbhpfjfkaa
open Go.RowKit
set_option maxRecDepth 100000

section
variable (A1 A2 : Option Addr) (L1 L2 c1 c2 : Nat) (l1 l2 : List Da) (kp : Int) (W : World)
  (h1 : Cel W (fun b => b < W.heap.size) (.slice A1 L1 c1) L1 3 (l1.flatMap daRow)) (hl1 : L1 = l1.length) (ok1 : ∀ x ∈ l1, daOk W x)
  (h2 : Cel W (fun b => b < W.heap.size) (.slice A2 L2 c2) L2 3 (l2.flatMap daRow)) (hl2 : L2 = l2.length) (ok2 : ∀ x ∈ l2, daOk W x)
include h1 hl1 ok1 h2 hl2 ok2

omit h2 hl2 ok2 in
set_option maxHeartbeats 1600000 in
theorem keeps_long1 (hf : fewB l1 = false) :
    Calls Try.prog 6 #[.slice A1 L1 c1, .slice A2 L2 c2, .int .i64 kp] W fun e w' => e = .returned (.bool true) ∧ Below W.heap.size W w' := by
  have F := fun w o => few_any W A1 L1 c1 l1 w h1 hl1 o ok1
  rw [hf] at F
  have KF := Lib.hid F
  clear h1 hl1 ok1 hf F
  have tok1 : True := trivial
  go_enter Try.func6, Try.ntmps6
  go_wp2_with (first
    | (go_at_call 32; have _t := tok1; clear tok1; refine (dk_speaks W).mono ?_; rintro e w1 ⟨rfl, o1⟩; have O1 := Lib.hid o1; clear o1; have tok2 : True := trivial)
    | (go_at_call 33; refine (KF.out w1 O1.out).mono ?_; rintro e w2 ⟨rfl, o2⟩; have O2 := Lib.hid (O1.out.trans o2); clear o2)
    | (go_at_call 32; have _t := tok2; clear tok2; refine (dk_speaks w2).mono ?_; rintro e w3 ⟨rfl, o3⟩; have O3 := Lib.hid (O2.out.trans o3); clear o3))
  go_ret
  exact ⟨rfl, O3.out.below (Nat.le_refl _) (fun _ h => h.elim)⟩
set_option maxHeartbeats 1600000 in
theorem keeps_long2 (hf1 : fewB l1 = true) (hf : fewB l2 = false) :
    Calls Try.prog 6 #[.slice A1 L1 c1, .slice A2 L2 c2, .int .i64 kp] W fun e w' => e = .returned (.bool true) ∧ Below W.heap.size W w' := by
  have F1 := fun w o => few_any W A1 L1 c1 l1 w h1 hl1 o ok1
  have F := fun w o => few_any W A2 L2 c2 l2 w h2 hl2 o ok2
  rw [hf1] at F1
  rw [hf] at F
  have KF1 := Lib.hid F1
  have KF := Lib.hid F
  clear h1 hl1 ok1 h2 hl2 ok2 hf F F1 hf1
  have tok1 : True := trivial
  have tokA : True := trivial
  go_enter Try.func6, Try.ntmps6
  go_wp2_with (first
    | (go_at_call 32; have _t := tok1; clear tok1; refine (dk_speaks W).mono ?_; rintro e w1 ⟨rfl, o1⟩; have O1 := Lib.hid o1; clear o1; have tok2 : True := trivial)
    | (go_at_call 33; have _t := tokA; clear tokA; refine (KF1.out w1 O1.out).mono ?_; rintro e w2 ⟨rfl, o2⟩; have O2 := Lib.hid (O1.out.trans o2); clear o2; have tokB : True := trivial)
    | (go_at_call 33; have _t := tokB; clear tokB; refine (KF.out w2 O2.out).mono ?_; rintro e w3 ⟨rfl, o3⟩; have O3 := Lib.hid (O2.out.trans o3); clear o3)
    | (go_at_call 32; have _t := tok2; clear tok2; refine (dk_speaks w3).mono ?_; rintro e w4 ⟨rfl, o4⟩; have O4 := Lib.hid (O3.out.trans o4); clear o4))
  go_ret
  exact ⟨rfl, O4.out.below (Nat.le_refl _) (fun _ h => h.elim)⟩

set_option maxHeartbeats 3200000 in
theorem keeps_short (hf1 : fewB l1 = true) (hf : fewB l2 = true) :
    Calls Try.prog 6 #[.slice A1 L1 c1, .slice A2 L2 c2, .int .i64 kp] W fun e w' => e = .returned (.bool true) ∧ Below W.heap.size W w' := by
  obtain ⟨i0, hi0, hz0, hz1, hz2⟩ := info_parts u8_info
  have F1 := fun w o => few_any W A1 L1 c1 l1 w h1 hl1 o ok1
  have F := fun w o => few_any W A2 L2 c2 l2 w h2 hl2 o ok2
  rw [hf1] at F1
  rw [hf] at F
  have KF1 := Lib.hid F1
  have KF := Lib.hid F
  have hA60 : L1 ≤ 60 := by
    simp only [fewB, Bool.and_eq_true, decide_eq_true_eq] at hf1
    omega
  have hB60 : L2 ≤ 60 := by
    simp only [fewB, Bool.and_eq_true, decide_eq_true_eq] at hf
    omega
  have H1 := Lib.hid h1
  have HL1 := Lib.hid hl1
  have OK1 := Lib.hid ok1
  have H2 := Lib.hid h2
  have HL2 := Lib.hid hl2
  have OK2 := Lib.hid ok2
  clear h1 hl1 ok1 h2 hl2 ok2 hf F F1 hf1
  have tokA : True := trivial
  go_enter Try.func6, Try.ntmps6
  go_wp2_with (first
    | (go_at_call 32; refine (dk_speaks W).mono ?_; rintro e w1 ⟨rfl, o1⟩; have O1 := Lib.hid o1; clear o1)
    | (go_at_call 33; have _t := tokA; clear tokA; refine (KF1.out w1 O1.out).mono ?_; rintro e w2 ⟨rfl, o2⟩; have O2 := Lib.hid (O1.out.trans o2); clear o2; have tokB : True := trivial)
    | (go_at_call 33; have _t := tokB; clear tokB; refine (KF.out w2 O2.out).mono ?_; rintro e w2b ⟨rfl, o2b⟩; have O2b := Lib.hid (O2.out.trans o2b); clear o2b)
    | (go_at_call 34; refine (disk_new W w2b O2b.out).mono ?_; rintro e w3 ⟨g, rfl, hg, h3, o3⟩
       have H3 := Lib.hid h3
       have O3 := Lib.hid (O2b.out.trans o3)
       clear h3 o3 hg)
    | (go_at_call 35; refine (ref_new w3).mono ?_; rintro e w4 ⟨rfl, o4⟩
       have P4 : Hid (Pl W g w4.heap.size ⟨true, -1, [], 0⟩ (.slice none 0 0) none 0 0 (w4.alloc (.cells #[.slice none 0 0, .int .i64 0, .bool false, .int .i64 (-1)] 74))) :=
         ⟨H3.out.keep (o4.alloc _), Blk.new w4 _ _, Byt.nil _ _, Nat.le_trans O3.out.size o4.size⟩
       clear o4))
  generalize w4.heap.size = gm at *
  go_loopw [34] (fun k wr => ∃ j : Nat, j ≤ L1 ∧ k = .int .i64 j ∧ ∃ d v A n c, Pl W g gm d v A n c wr) (fun k _ => L1 - (intOf k).toNat)
  case atStart => exact ⟨0, by omega, rfl, _, _, _, _, _, P4.out⟩
  case round =>
    obtain ⟨j, hj, rfl, d, v, A0, n0, c0, hp⟩ := hrel
    by_cases hlb : j < L1
    · have hjl : j < l1.length := by have := HL1.out; omega
      obtain ⟨b, off, X, n, e, eA, k0, k1, k2, hn, hb, hr1, hr2⟩ := da_at H1.out HL1.out hjl hp.ds.ho OK1.out
      subst eA
      obtain ⟨kj, hkj⟩ : ∃ x, l1[j].k = x := ⟨_, rfl⟩
      obtain ⟨nj, hnj⟩ : ∃ x, l1[j].n = x := ⟨_, rfl⟩
      obtain ⟨ys, hys⟩ : ∃ x, l1[j].bs = x := ⟨_, rfl⟩
      rw [hkj] at k0
      rw [hnj] at k1 hr1 hr2
      rw [hys] at hb
      have P0 := Lib.hid (hp.keep ((Only.refl none_ wr).alloc (.cells #[.int .i64 kj, .int .i64 nj, .slice X n e] 77)))
      have C := do_any W _ g v d A0 X n0 c0 n e kj nj ys P0.out.ds P0.out.bm (hb.alloc _) hr1 hr2
      obtain ⟨d', hd'⟩ : ∃ d', acD kj nj ys d = d' := ⟨_, rfl⟩
      rw [hd'] at C
      obtain ⟨s', hs'⟩ : ∃ s', (nf d').safe = s' := ⟨_, rfl⟩
      obtain ⟨o', ho'⟩ : ∃ o', (!(nf d').on) = o' := ⟨_, rfl⟩
      obtain ⟨f', hf'⟩ : ∃ f', (nf d').fuse = f' := ⟨_, rfl⟩
      have q0 := four_of P0.out.bk
      have KC := Lib.hid C
      have HS := Lib.hid hs'
      have HO := Lib.hid ho'
      have HF := Lib.hid hf'
      clear hp C hb hn hkj hnj hys hd' hs' ho' hf' hr1 hr2
      go_wp2_with (first
        | (go_at_call 36; refine KC.out.mono ?_; rintro e5 w5 r5
           obtain ⟨A6, n6, c6, v6, rfl, b5, o5, p5⟩ := P0.out.next r5 HS.out HO.out HF.out
           have B5 := Lib.hid b5
           have P6 := Lib.hid (p5 _ (Only.refl none_ w5))
           clear r5 b5 o5 p5)
        | (refine wpList_store_row rfl 74 _ _ rfl gm #[.slice A6 n6 c6, .int .i64 s', .bool o', .int .i64 f'] rfl rfl 74 _ B5.out (by kernel_rfl) rfl (by simp [Value.oneCell']) ?_))
      go_roundw
      case rel => exact ⟨j + 1, by omega, by go_num, _, _, _, _, _, P6.out⟩
      case measure => simp [intOf]; omega
    · have D0 := Lib.hid hp.ds
      clear hp
      go_wp2_with (first
        | (go_at_call 41; refine (crash_all W g _ d v wr D0.out).mono ?_; rintro e w5 ⟨z5, rfl, d5, v5, h5, hon5, hs5⟩
           have H5 := Lib.hid h5
           have HON := Lib.hid hon5
           have HSF := Lib.hid hs5
           clear h5 hon5 hs5)
        | (go_at_call 40; refine (read_all W g d5 v5 w5 H5.out HON.out HSF.out).mono ?_; rintro e w6 ⟨A6, n6, c6, rfl, hn6, k6⟩
           have K6 := Lib.hid k6
           have HN6 := Lib.hid hn6
           clear k6 hn6)
        | (go_at_call 39; refine (disk_safe W g d5 v5 w6 K6.out.ds).mono ?_; rintro e w7 ⟨rfl, rfl⟩
           rw [HSF.out, ← HN6.out]))
      obtain ⟨was, hwas⟩ : ∃ x, d5.bs = x := ⟨_, rfl⟩
      rw [hwas] at K6 HN6
      clear HON HSF H5 hwas D0
      go_loopw [66] (fun k wr => ∃ j : Nat, j ≤ L2 ∧ k = .int .i64 j ∧ ∃ d v, Ks W g was d v (.slice A6 n6 c6) wr) (fun k _ => L2 - (intOf k).toNat)
      case atStart => exact ⟨0, by omega, rfl, _, _, K6.out⟩
      case round =>
        obtain ⟨j2, hj2, rfl, d7, v7, hk⟩ := hrel
        by_cases hlb2 : j2 < L2
        · have hjl2 : j2 < l2.length := by have := HL2.out; omega
          obtain ⟨b, off, X, n, e, eA, k0, k1, k2, hn, hb, hr1, hr2⟩ := da_at H2.out HL2.out hjl2 hk.ds.ho OK2.out
          subst eA
          obtain ⟨kj, hkj⟩ : ∃ x, l2[j2].k = x := ⟨_, rfl⟩
          obtain ⟨nj, hnj⟩ : ∃ x, l2[j2].n = x := ⟨_, rfl⟩
          obtain ⟨ys, hys⟩ : ∃ x, l2[j2].bs = x := ⟨_, rfl⟩
          rw [hkj] at k0
          rw [hnj] at k1 hr1 hr2
          rw [hys] at hb
          have K0 := Lib.hid (hk.keep ((Only.refl none_ wr).alloc (.cells #[.int .i64 kj, .int .i64 nj, .slice X n e] 77)))
          have HB := Lib.hid (hb.alloc (.cells #[.int .i64 kj, .int .i64 nj, .slice X n e] 77))
          have HR := Lib.hid (And.intro hr1 hr2)
          have Y0 := Lib.hid (Blk.new wr 77 #[.int .i64 kj, .int .i64 nj, .slice X n e])
          have hgw : Hid (g < wr.heap.size) := hk.ds.bk.lt
          clear hk hb hn hkj hnj hys hr1 hr2
          by_cases e0 : kj = 0
          · subst e0
            go_wp2_with (first
              | (go_at_call 42; refine (K0.out.append _ ys HB.out).mono ?_; rintro e w8 ⟨z8, rfl, d8, v8, h8⟩; have K8 := Lib.hid h8; clear h8))
            go_roundw
            case rel => exact ⟨j2 + 1, by omega, by go_num, _, _, K8.out⟩
            case measure => simp [intOf]; omega
          · by_cases e1 : kj = 1
            · subst e1
              go_wp2_with (first
                | (go_at_call 43; refine K0.out.sync.mono ?_; rintro e w8 ⟨z8, rfl, d8, v8, h8⟩; have K8 := Lib.hid h8; clear h8))
              go_roundw
              case rel => exact ⟨j2 + 1, by omega, by go_num, _, _, K8.out⟩
              case measure => simp [intOf]; omega
            · by_cases e3 : kj = 3
              · subst e3
                have y0 := three_of Y0.out.drew
                go_wp2_with fail
                go_region_held3 (fun w' => w'.cell? ⟨wr.heap.size, 0, none⟩ = some (.int .i64 3) ∧ w'.cell? ⟨wr.heap.size, 1, none⟩ = some (.int .i64 nj) ∧ w'.cell? ⟨wr.heap.size, 2, none⟩ = some (.slice X n e))
                  (first | with_reducible exact y0 | with_reducible exact y1)
                  (first
                    | (go_at_call 44; refine ((K0.out.keep (Only.refl none_ _).drew).fuse nj HR.out.1 HR.out.2).mono ?_; rintro e w8 ⟨rfl, o8, d8, v8, h8⟩
                       have y1 := three_of (Y0.out.drew.only o8 (fun e => by have e' : wr.heap.size = g := e; have := hgw.out; omega))
                       have K8 := Lib.hid h8
                       clear h8 o8))
                all_goals go_wp2_with fail
                go_roundw
                case rel => exact ⟨j2 + 1, by omega, by go_num, _, _, K8.out⟩
                case measure => simp [intOf]; omega
              · by_cases e4 : kj = 4
                · subst e4
                  go_wp2_with (first
                    | (go_at_call 41; refine (K0.out.crash nj).mono ?_; rintro e w8 ⟨z8, rfl, d8, v8, h8, _⟩; have K8 := Lib.hid h8; clear h8))
                  go_roundw
                  case rel => exact ⟨j2 + 1, by omega, by go_num, _, _, K8.out⟩
                  case measure => simp [intOf]; omega
                · have q0 : (kj == 0) = false := by simp [e0]
                  have q1 : (kj == 1) = false := by simp [e1]
                  have q3 : (kj == 3) = false := by simp [e3]
                  have q4 : (kj == 4) = false := by simp [e4]
                  go_wp2_with fail
                  go_roundw
                  case rel => exact ⟨j2 + 1, by omega, by go_num, _, _, K0.out⟩
                  case measure => simp [intOf]; omega
        · have K7 := Lib.hid hk
          clear hk
          go_wp2_with (first
            | (go_at_call 41; refine (K7.out.crash kp).mono ?_; rintro e w8 ⟨z8, rfl, d8, v8, h8, hon⟩
               have K8 := Lib.hid h8
               have HON := Lib.hid hon
               clear h8 hon)
            | (go_at_call 40; refine (K8.out.read HON.out).mono ?_; rintro e w9 ⟨A9, n9, c9, rfl, own9, o9⟩
               have K9 := Lib.hid (K8.out.keep o9)
               have N9 := Lib.hid (own_len own9)
               have X9 := Lib.hid own9
               clear own9 o9))
          have hnw : n6 ≤ n9 := by
            have h1 := K9.out.kp.1
            have h2 := K9.out.ds.sl
            have := HN6.out
            have := N9.out
            omega
          have hnw' : (n6 : Int) ≤ n9 := by omega
          obtain ⟨AS, hsl, hSB⟩ := byt_hi Try.underlying29 hi0 (Byt.of_own X9.out) n6 hnw n6 rfl
          have eW : d8.bs.take n6 = was := by rw [HN6.out]; exact K9.out.kp.2
          rw [eW] at hSB
          have z1 := run_bytes_string w9.drew _ _ _ hSB.drew
          have z2 := run_bytes_string w9.drew _ _ _ K9.out.bw.drew
          clear hSB eW
          go_region_held3 (fun w' => (convert 29 9 (.slice AS n6 c9)).run Try.prog w' = .ok (.string ⟨was.toArray⟩) w' ∧ (convert 29 9 (.slice A6 n6 c6)).run Try.prog w' = .ok (.string ⟨was.toArray⟩) w')
            (first | with_reducible exact ⟨z1, z2⟩)
            (first
              | (go_at_call 37; refine (power_on W g d8 v8 _ K9.out.ds.drew).mono ?_; rintro e w10 ⟨rfl, rfl⟩
                 rw [HON.out]))
          all_goals go_wp2_with fail
          go_ret
          exact ⟨rfl, (K9.out.ds.ho.drew).below (Nat.le_refl _) (fun _ h => h.elim)⟩
end
end Go.Proofs.Ytkhckgbhpfjfkaa
