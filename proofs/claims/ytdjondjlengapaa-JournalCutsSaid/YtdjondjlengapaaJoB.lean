/- The call of JournalCuts answers yes, and changes nothing that was there. The statement itself is proved in another text. -/
import Derived.Test.YtdjondjlengapaaJoA
import Derived.Test.YtdjondjlengapaaJnX
import Derived.Test.YtdjondjlengapaaJnY
namespace Go.Proofs.Ytdjondjlengapaa
open Go.RowKit
set_option maxRecDepth 100000
set_option linter.all false

set_option maxHeartbeats 800000 in
theorem jc_long (x : Value) (l : List (List UInt8)) (at_ : Int) (W : World) (hl : Rows_ W (fun b => b < W.heap.size) x l) (h : fewR l = false) :
    Calls Try.prog 8 #[x, .int .i64 at_] W fun e w' => e = .returned (.bool true) ∧ Below W.heap.size W w' := by
  have HL := Lib.hid (fun (w : World) (o : Only none_ W w) => rows_few x l _ w (hl.only o (fun _ _ h => h)))
  obtain ⟨A, c, rfl⟩ : ∃ A c, x = .slice A l.length c := by obtain ⟨A, c, h, _⟩ := hl; exact ⟨A, c, h⟩
  obtain ⟨L, hL⟩ : ∃ L, l.length = L := ⟨_, rfl⟩
  rw [hL] at HL ⊢
  rw [h] at HL
  have tokA : True := trivial
  clear hl hL h
  go_enter Try.func8, Try.ntmps8
  go_wp2_with (first
    | (go_at_call 20; have _t := tokA; clear tokA; refine (j_speaks _).mono ?_; rintro E w1 ⟨rfl, o1⟩; have O1 := Lib.hid o1; clear o1; have tokB : True := trivial)
    | (go_at_call 35; refine (HL.out _ O1.out).mono ?_; rintro E w8 ⟨rfl, rfl⟩)
    | (go_at_call 20; have _t := tokB; clear tokB; refine (j_speaks _).mono ?_; rintro E w2 ⟨rfl, o2⟩; have O2 := Lib.hid (O1.out.trans o2); clear o2))
  go_ret
  exact ⟨rfl, O2.out.below (Nat.le_refl _) (fun k hk => hk.elim)⟩

set_option maxHeartbeats 12800000 in
theorem jc_yes (x : Value) (l : List (List UInt8)) (at_ : Int) (W : World) (hl : Rows_ W (fun b => b < W.heap.size) x l) (fl : fewR l = true) :
    Calls Try.prog 8 #[x, .int .i64 at_] W fun e w' => e = .returned (.bool true) ∧ Below W.heap.size W w' := by
  obtain ⟨i0, hi0, hiz, hz1, hz2⟩ := info_parts u8_info
  obtain ⟨i1, hi1, hy0, hy1, hy2⟩ : ∃ i, Try.prog.info? 3 = some i ∧ i.zero = some (.int .i64 0) ∧ i.size = 1 ∧ i.bytes = 8 := by
    have := ints_info
    cases h : Try.prog.info? 3 with
    | none => rw [h] at this; cases this
    | some i => rw [h] at this; simp at this; exact ⟨i, rfl, this.1, this.2.1, this.2.2⟩
  have HL := Lib.hid (fun (w : World) (o : Only none_ W w) => rows_few x l _ w (hl.only o (fun _ _ h => h)))
  rw [fl] at HL
  have hl2 := (fewR_yes fl).2
  have HRX := Lib.hid hl
  obtain ⟨A, c, rfl⟩ : ∃ A c, x = .slice A l.length c := by obtain ⟨A, c, h, _⟩ := hl; exact ⟨A, c, h⟩
  obtain ⟨L, hL⟩ : ∃ L, l.length = L := ⟨_, rfl⟩
  have HLL := Lib.hid hL
  rw [hL] at HL HRX hl2 ⊢
  clear hl hL fl
  go_enter Try.func8, Try.ntmps8
  go_wp2_with (first
    | (go_at_call 20; refine (j_speaks _).mono ?_; rintro E w0 ⟨rfl, o0⟩; have O0 := Lib.hid o0; clear o0)
    | (go_at_call 35; refine (HL.out _ O0.out).mono ?_; rintro E w8 ⟨rfl, rfl⟩))
  have J0 : Hid (Jc W (flatB []) [] [] (.slice none 0 0) (.slice none 0 0) (.slice none 0 0) w0) := ⟨World.ownsRow_nil _ _ _ _, Lst.nil _ _ _, World.ownsRow_nil _ _ _ _, O0.out⟩
  go_loopw [5, 6, 7, 27] (fun vb va ve k wr => ∃ j : Nat, j ≤ L ∧ k = .int .i64 j ∧ Jc W (flatB (okL (l.take j))) (okL (l.take j)) (okL (l.take j)) vb va ve wr) (fun _ _ _ k _ => L - (intOf k).toNat)
  case atStart => exact ⟨0, by omega, rfl, by simpa [okL] using J0.out⟩
  case round =>
    obtain ⟨j, hj, rfl, s⟩ := hrel
    obtain ⟨ok, hok⟩ : ∃ z, okL (l.take j) = z := ⟨_, rfl⟩
    have hrok : ∀ r ∈ ok, Rok r := hok ▸ okL_ok _
    have hcnt : ok.length ≤ 20 := by
      have h1 := okL_len (l.take j)
      rw [hok, List.length_take] at h1
      have := HLL.out; omega
    have hfl : (flatB ok).length ≤ 10440 := by have := flatB_le ok hrok; omega
    rw [hok] at s
    obtain ⟨Ab, nb, cb, rfl⟩ := own_shape s.b
    obtain ⟨Aa, ca, rfl⟩ := s.a.shape
    obtain ⟨Ae, ne, ce, rfl⟩ := own_shape s.e
    obtain rfl := own_len s.b
    obtain rfl := s.elen
    have S0 := Lib.hid s
    have HROK := Lib.hid hrok
    have HFL := Lib.hid hfl
    have HCN := Lib.hid hcnt
    by_cases hlt : j < L
    · obtain ⟨b0, off, A1, L1, c1, rfl, hSb, hb0, hc, hp, hL1, hB1⟩ := rows_cell HRX.out j hlt
      have hcell := (s.ho.cell (p := ⟨b0, off + j, none⟩) hb0 (fun h => h)).trans hc
      have hsn := okL_snoc l j hp
      rw [hok] at hsn
      obtain ⟨bb, hbb⟩ : ∃ z, l[j] = z := ⟨_, rfl⟩
      rw [hbb] at hsn hL1 hB1
      obtain ⟨z, hz⟩ : ∃ z, recCode bb.length = z := ⟨_, rfl⟩
      have HZ := Lib.hid hz
      have HRC := Lib.hid (record_any _ _ bb wr (hB1.only s.ho (fun _ _ h => h)))
      rw [hz] at hsn HRC
      have HSN := Lib.hid hsn
      have HB1 := Lib.hid hB1
      obtain ⟨F, hF⟩ : ∃ F, (flatB ok).length = F := ⟨_, rfl⟩
      clear s hrok hfl hcnt hsn hB1 hL1 hbb hp hok hc hSb hb0 hz
      by_cases hz0 : z = 0
      · have hzb : (z == 0) = true := by simpa using hz0
        have HZ0 := Lib.hid hz0
        have hsum : (flatB ok).length + (recB bb).length ≤ 140737488355328 := by
          have h1 := HFL.out
          have h2 := (rec_ok (HZ.out.trans HZ0.out)).2
          rw [recB_len]; omega
        have hcn2 : ok.length ≤ 2000000 := by have := HCN.out; omega
        clear hz0 hF
        go_wp2_with (first
          | (go_at_call 21; refine HRC.out.mono ?_; rintro E w3 ⟨vr, rfl, hr, o3⟩
             have rr : ∃ A n c, vr = .slice A n c ∧ w3.ownsRow wr.heap.size 5 1 (.slice A n c) (recB bb).length (byts (recB bb)) := by
               rcases hr with ⟨_, h⟩ | ⟨h, _⟩
               · exact h
               · exact absurd (HZ.out.trans HZ0.out) h
             obtain ⟨Ar, nr, cr, rfl, ownr⟩ := rr
             have BR := Lib.hid (Byt.of_own ownr)
             have S3 := Lib.hid (S0.out.keep o3)
             have hs3 : W.heap.size ≤ w3.heap.size := S3.out.ho.size
             clear o3 hr ownr)
          | (at_builtin; refine wpList_append_byt _ rfl (.tmp 38) (.tmp 39) _ rfl W.heap.size 5 i0 (.int .u8 0) Try.underlying22 hi0 hiz hz1 hz2 rfl _ (flatB ok) rfl S3.out.b _ _ (recB bb) rfl BR.out hsum hs3 ?_
             intro A5 n5 c5 w5 hown5 hgrow5 hmv5
             obtain rfl := own_len hown5
             have S5 := Lib.hid (S3.out.bytes hown5 ((Only.refl (ownb _) w3).grown hgrow5 (fun k hk => .inl hk)))
             have hb5 : W.heap.size ≤ w5.heap.size := S5.out.ho.size
             have X5 : Hid (Byt w5 (fun b => b < W.heap.size ∧ (Value.slice Aa ok.length ca).ownBlock ≠ some b) (.slice A1 L1 c1) bb) := (HB1.out.only S5.out.ho (fun _ _ h => h)).mono (fun b _ hb => ⟨hb, fun e => by have h1 := (S5.out.a.own_lt b e).1; omega⟩)
             clear hown5 hgrow5 hmv5)
          | (at_builtin; refine wpList_append_lst w5 rfl (.tmp 41) (.tmp 43) rfl W.heap.size _ _ ok rfl S5.out.a _ _ rfl X5.out hb5 hcn2 ?_
             intro A6 n6 c6 w6 hl6 ho6 hm6
             have S6 := Lib.hid (S5.out.rows hl6 ho6)
             have E6 := Lib.hid (S6.out.keep ((Only.refl none_ w6).alloc (.cells #[.int .i64 (((flatB ok).length : Int) + ((recB bb).length : Int))] 3)))
             have hs6 : W.heap.size ≤ (w6.alloc (.cells #[.int .i64 (((flatB ok).length : Int) + ((recB bb).length : Int))] 3)).heap.size := E6.out.ho.size
             have C6 := Lib.hid (cel_made w6 3 1 1 #[.int .i64 (((flatB ok).length : Int) + ((recB bb).length : Int))] rfl (by simp [maxLen]))
             clear hl6 ho6 hm6)
          | (at_builtin; refine wpList_append_cel _ rfl (.tmp 45) (.tmp 48) 81 rfl W.heap.size 3 i1 (.int .i64 0) 1 8 Try.underlying81 hi1 hy0 hy1 hy2 rfl (by omega) _ ok.length (endsV ok) rfl E6.out.e _ _ 1 [.int .i64 (((flatB ok).length : Int) + ((recB bb).length : Int))] rfl C6.out (by simp [Value.oneCell']) (by have := HCN.out; simp only [maxLen]; omega) (by have := HCN.out; omega) hs6 ?_
             intro A7 n7 c7 w7 hown7 hgrow7 hmv7
             have S7 : Hid (Jc W (flatB ok ++ recB bb) (ok ++ [bb]) (ok ++ [bb]) (.slice A5 (flatB ok ++ recB bb).length c5) (.slice A6 n6 c6) (.slice A7 n7 c7) w7) :=
               E6.out.ends (by rw [List.length_append, List.length_cons, List.length_nil, endsV_snoc, flatB_append, flatB_one, List.length_append, Int.natCast_add]; exact hown7) ((Only.refl (ownb _) _).grown hgrow7 (fun k hk => .inl hk))
             clear hown7 hgrow7 hmv7))
        go_roundw
        case rel =>
          have e := HSN.out
          rw [if_pos HZ0.out] at e
          refine ⟨j + 1, by omega, by go_num, ?_⟩
          rw [e, flatB_append, flatB_one]
          have h7 := S7.out
          rwa [List.length_append] at h7
        case measure => simp [intOf]; omega
      · have hzb : (z == 0) = false := by simpa using hz0
        have HZ0 := Lib.hid hz0
        clear hz0 hF
        go_wp2_with (first
          | (go_at_call 21; refine HRC.out.mono ?_; rintro E w3 ⟨vr, rfl, hr, o3⟩
             have S3 := Lib.hid (S0.out.keep o3)
             clear o3 hr))
        go_roundw
        case rel =>
          have e := HSN.out
          rw [if_neg HZ0.out] at e
          refine ⟨j + 1, by omega, by go_num, ?_⟩
          rw [e]
          exact S3.out
        case measure => simp [intOf]; omega
    · have hp0 : ∃ q : Nat, at_ % 1048576 = (q : Int) := ⟨(at_ % 1048576).toNat, by omega⟩
      obtain ⟨q, hq⟩ := hp0
      have hand := i64_and20 at_
      rw [hq] at hand
      obtain ⟨F, hF⟩ : ∃ F, (flatB ok).length = F := ⟨_, rfl⟩
      rw [hF] at hfl
      have hwF : IntKind.i64.wrap ((F : Int) + 1) = (F : Int) + 1 := IntWalk.i64_in _ (by omega)
      obtain ⟨k, hk⟩ : ∃ k, q % (F + 1) = k := ⟨_, rfl⟩
      have hkF : k < F + 1 := hk ▸ Nat.mod_lt _ (by omega)
      have hrem : Int.tmod (q : Int) ((F : Int) + 1) = (k : Int) := by rw [Int.tmod_eq_emod_of_nonneg (by omega), ← hk]; rfl
      have hrem2 : (q : Int) % ((F : Int) + 1) = (k : Int) := by rw [← hk]; rfl
      have hF1 : ((F : Int) + 1 == 0) = false := by simp; omega
      have hF2 : ¬ ((F : Int) + 1 = 0) := by omega
      obtain ⟨cn, rest, q1, q2, q3, q4, q5⟩ := cut_flat ok hrok k
      have hrd : jnRead ((flatB ok).take k) = (ok.take cn, (flatB (ok.take cn)).length, 0) := by
        rw [q2]
        exact read_flat _ (fun r hr => hrok r (List.mem_of_mem_take hr)) rest q3
      have hmono : ∀ m, m < cn → (flatB (ok.take (m + 1))).length ≤ k := fun m hm => by
        have := flat_take_le (ok.take cn) (m + 1)
        rw [List.take_take, Nat.min_eq_left (by omega)] at this
        omega
      have hbt := Byt.of_own s.b
      rw [hF] at hbt
      obtain ⟨At, hslt, hbt2⟩ := byt_hi Try.underlying22 hi0 hbt k (by omega) (k : Int) rfl
      have hkl : ((flatB ok).take k).length = k := by rw [List.length_take, hF]; omega
      have HRD : Hid (Calls Try.prog 24 #[.slice At k cb] wr fun e w' => ∃ v, e = .returned (.tuple #[v, .int .i64 ((flatB (ok.take cn)).length : Int), .int .i64 0]) ∧ Lst w' (wr.heap.size + 1) (fun b => wr.heap.size + 1 ≤ b) v (ok.take cn) ∧ Only none_ wr w') := by
        have := read7 At cb ((flatB ok).take k) _ wr (by rw [hkl]; exact hbt2) (by omega)
        rw [hrd, hkl] at this
        exact this
      have hhi := lst_hi s.a cn q1 (cn : Int) rfl
      have hsl2 := hhi.1
      have HWH := Lib.hid hhi.2
      have hNok : cn ≤ ok.length := q1
      have HSM : Hid (∀ (p q : Value) (S T : Nat → Prop) (w : World), Rows_ w S p (ok.take cn) → Rows_ w T q (ok.take cn) → Calls Try.prog 26 #[p, q] w fun e w' => e = .returned (.bool true) ∧ Only none_ w w') := by
        intro p q S T w h1 h2
        have := rf_same p q _ _ S T w h1 h2
        simpa using this
      have HM := Lib.hid hmono
      have HTL : Hid ((ok.take cn).length = cn) := by rw [Hid, List.length_take]; omega
      have HQ5 := Lib.hid q5
      rw [hF] at S0
      obtain ⟨N, hN⟩ : ∃ N, ok.length = N := ⟨_, rfl⟩
      have HN := Lib.hid hN
      obtain ⟨G, hG⟩ : ∃ G, (flatB (ok.take cn)).length = G := ⟨_, rfl⟩
      have HG := Lib.hid hG
      have hGG : ((G : Int) == (G : Int)) = true := by simp
      rw [hN] at hsl2 hNok hcnt S0
      rw [hG] at HRD
      rw [hF, hN]
      clear s hrok hok hq hk hbt hbt2 hkl hrd hmono q1 q2 q3 q4 q5 hhi hF hN hG HFL HCN
      go_wp2_with fail
      go_loop [13] (fun i => ∃ m : Nat, m ≤ cn ∧ i = .int .i64 m) (fun i => cn - (intOf i).toNat)
      case atStart => exact ⟨0, by omega, rfl⟩
      case round =>
        obtain ⟨m, hm, rfl⟩ := hrel
        by_cases hlt2 : m < cn
        · have hmN : m < N := by omega
          obtain ⟨ge, ee, hce⟩ := S0.out.cell m (by have := HN.out; omega)
          subst ee
          have hle : (flatB (ok.take (m + 1))).length ≤ k := HM.out m hlt2
          generalize (flatB (ok.take (m + 1))).length = Em at *
          have hleI : (Em : Int) ≤ (k : Int) := by omega
          go_wp2_with fail
          go_round
          case rel => exact ⟨m + 1, by omega, by go_num⟩
          case measure => simp [intOf]; omega
        · skip
          have hmc : m = cn := by omega
          rw [hmc]
          clear hmc hlt2 hm
          clear hrem hrem2 hand hF1 hF2 hwF
          by_cases hcz : cn = 0
          · have hc0 : ((cn : Int) == 0) = true := by simp [hcz]
            have hG0 : ((G : Int) == 0) = true := by
              have : G = 0 := by rw [← HG.out, hcz]; simp [flatB]
              simp [this]
            have HCZ := Lib.hid hcz
            clear hcz
            by_cases hcN : cn < N
            · obtain ⟨ge, ee, hce⟩ := S0.out.cell cn (by have := HN.out; omega)
              subst ee
              have hgt : k < (flatB (ok.take (cn + 1))).length := HQ5.out (by have := HN.out; omega)
              generalize (flatB (ok.take (cn + 1))).length = Em at *
              have hgtI : ¬ (Em : Int) ≤ (k : Int) := by omega
              go_wp2_with (first
                | (go_at_call 24; refine HRD.out.mono ?_; rintro E w1 ⟨vg, rfl, hlg, o1⟩
                   obtain ⟨Ag, cg, hvg⟩ := hlg.shape
                   rw [HTL.out] at hvg
                   subst hvg
                   have S1 := Lib.hid (S0.out.keep o1)
                   have RG := Lib.hid hlg.rows
                   have RW := Lib.hid (HWH.out.only o1 (fun _ _ h => h))
                   clear hlg o1)
                | (go_at_call 26; refine (HSM.out _ _ _ _ _ RG.out RW.out).mono ?_; rintro E w2 ⟨rfl, o2⟩
                   have S2 := Lib.hid (S1.out.keep o2)
                   clear o2))
              go_ret
              exact ⟨rfl, S2.out.ho.below (Nat.le_refl _) (fun k hk => hk.elim)⟩
            · go_wp2_with (first
                | (go_at_call 24; refine HRD.out.mono ?_; rintro E w1 ⟨vg, rfl, hlg, o1⟩
                   obtain ⟨Ag, cg, hvg⟩ := hlg.shape
                   rw [HTL.out] at hvg
                   subst hvg
                   have S1 := Lib.hid (S0.out.keep o1)
                   have RG := Lib.hid hlg.rows
                   have RW := Lib.hid (HWH.out.only o1 (fun _ _ h => h))
                   clear hlg o1)
                | (go_at_call 26; refine (HSM.out _ _ _ _ _ RG.out RW.out).mono ?_; rintro E w2 ⟨rfl, o2⟩
                   have S2 := Lib.hid (S1.out.keep o2)
                   clear o2))
              go_ret
              exact ⟨rfl, S2.out.ho.below (Nat.le_refl _) (fun k hk => hk.elim)⟩
          · obtain ⟨mp, hmp⟩ : ∃ mp, cn = mp + 1 := ⟨cn - 1, by omega⟩
            have hc0 : ((cn : Int) == 0) = false := by simp; omega
            have hw1 : IntKind.i64.wrap ((cn : Int) - 1) = (mp : Int) := by rw [IntWalk.i64_in _ (by omega)]; omega
            have hcp : 0 < cn := by omega
            have hmN : mp < N := by omega
            have HC := Lib.hid hmp
            obtain ⟨g0, e0, hce0⟩ := S0.out.cell mp (by have := HN.out; omega)
            subst e0
            clear hcz hmp
            by_cases hcN : cn < N
            · obtain ⟨ge, ee, hce⟩ := S0.out.cell cn (by have := HN.out; omega)
              injection ee with ee
              injection ee with ee
              subst ee
              have hgt : k < (flatB (ok.take (cn + 1))).length := HQ5.out (by have := HN.out; omega)
              generalize (flatB (ok.take (cn + 1))).length = Em at *
              have hgtI : ¬ (Em : Int) ≤ (k : Int) := by omega
              clear hce0
              go_wp2_with (first
                | (go_at_call 24; refine HRD.out.mono ?_; rintro E w1 ⟨vg, rfl, hlg, o1⟩
                   obtain ⟨Ag, cg, hvg⟩ := hlg.shape
                   rw [HTL.out] at hvg
                   subst hvg
                   have S1 := Lib.hid (S0.out.keep o1)
                   have RG := Lib.hid hlg.rows
                   have RW := Lib.hid (HWH.out.only o1 (fun _ _ h => h))
                   clear hlg o1)
                | (go_at_call 26; refine (HSM.out _ _ _ _ _ RG.out RW.out).mono ?_; rintro E w2 ⟨rfl, o2⟩
                   have S2 := Lib.hid (S1.out.keep o2)
                   obtain ⟨g2, e2, hce2⟩ := S2.out.cell mp (by have := HN.out; have := HC.out; omega)
                   injection e2 with e2
                   injection e2 with e2
                   subst e2
                   rw [show mp + 1 = cn from HC.out.symm, HG.out] at hce2
                   clear o2))
              go_ret
              exact ⟨rfl, S2.out.ho.below (Nat.le_refl _) (fun k hk => hk.elim)⟩
            · clear hce0
              go_wp2_with (first
                | (go_at_call 24; refine HRD.out.mono ?_; rintro E w1 ⟨vg, rfl, hlg, o1⟩
                   obtain ⟨Ag, cg, hvg⟩ := hlg.shape
                   rw [HTL.out] at hvg
                   subst hvg
                   have S1 := Lib.hid (S0.out.keep o1)
                   have RG := Lib.hid hlg.rows
                   have RW := Lib.hid (HWH.out.only o1 (fun _ _ h => h))
                   clear hlg o1)
                | (go_at_call 26; refine (HSM.out _ _ _ _ _ RG.out RW.out).mono ?_; rintro E w2 ⟨rfl, o2⟩
                   have S2 := Lib.hid (S1.out.keep o2)
                   obtain ⟨g2, e2, hce2⟩ := S2.out.cell mp (by have := HN.out; have := HC.out; omega)
                   injection e2 with e2
                   injection e2 with e2
                   subst e2
                   rw [show mp + 1 = cn from HC.out.symm, HG.out] at hce2
                   clear o2))
              go_ret
              exact ⟨rfl, S2.out.ho.below (Nat.le_refl _) (fun k hk => hk.elim)⟩
end Go.Proofs.Ytdjondjlengapaa
