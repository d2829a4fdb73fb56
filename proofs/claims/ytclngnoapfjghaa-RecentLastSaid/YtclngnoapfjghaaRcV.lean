/- The document's indexes: Below. No statement of the seat is proved here. -/
import Derived.Test.YtclngnoapfjghaaRcR
namespace Go.Proofs.Ytclngnoapfjghaa
open Go.RowKit
set_option maxRecDepth 100000
set_option linter.all false

theorem flat_one1 (d : List Mk) (p : Mk) : (d ++ [p]).flatMap mkI = d.flatMap mkI ++ [.int .i64 p.a.c, .int .i64 p.a.s, .string p.k] := by rw [List.flatMap_append]; simp [mkI]
theorem bel_le (l : List Mk) (m : Mk) (n : Int) : (belM l m n).length ≤ l.length := by
  unfold belM
  rw [List.length_take]
  have := List.length_filter_le (belF m) l
  omega

set_option maxHeartbeats 12800000 in
theorem rm_below (S : Nat → Prop) (l : List Mk) (A : Option Addr) (n c : Nat) (m : Mk) (N : Int) (w : World) (h : Cel w S (.slice A n c) n 3 (l.flatMap mkI)) (hn : n = l.length) (hl : n ≤ 1000) :
    Calls Try.prog 24 #[.slice A n c, .agg #[.int .i64 m.a.c, .int .i64 m.a.s, .string m.k], .int .i64 N] w fun e w' => ∃ v', e = .returned v' ∧ w'.ownsRow w.heap.size 31 3 v' (belM l m N).length ((belM l m N).flatMap mkI) ∧ Only none_ w w' := by
  obtain ⟨i0, hi0, hz0, hz1, hz2⟩ := rinfo_parts rmark_info
  have HC := Lib.hid (fun (w' : World) (o : Only none_ w w') => h.only o (fun _ _ h => h))
  have HN := Lib.hid hn
  have B0 := Blk.new w 31 #[.int .i64 m.a.c, .int .i64 m.a.s, .string m.k]
  have O0 := Lib.hid ((Only.refl none_ w).alloc (.cells #[.int .i64 m.a.c, .int .i64 m.a.s, .string m.k] 31))
  have R0 := Lib.hid (Rm.made (w.alloc (.cells #[.int .i64 m.a.c, .int .i64 m.a.s, .string m.k] 31)))
  have HBX := Lib.hid (fun (w' : World) (o : Only none_ (w.alloc (.cells #[.int .i64 m.a.c, .int .i64 m.a.s, .string m.k] 31)) w') => B0.only o (fun h => h))
  have heq := fun w => eqlR w m mkTop
  rw [← isTop_same] at heq
  simp only [show mkTop.a.c = 0 from rfl, show mkTop.a.s = 0 from rfl, show mkTop.k = ⟨#[]⟩ from rfl] at heq
  have HLT := Lib.hid (fun p => rm_later m p)
  have HSN := Lib.hid (fun l x => bel_snoc m N l x)
  have HBE : Hid (belM [] m N = []) := by rw [Hid]; simp [belM]
  have HBF : Hid (∀ x, belF m x = (isTop m || mkLater m x)) := fun x => rfl
  have HBL := Lib.hid (fun l => bel_le l m N)
  obtain ⟨b0, hb0⟩ : ∃ b0, w.heap.size = b0 := ⟨_, rfl⟩
  have HB0 := Lib.hid hb0
  rw [hb0] at HBX
  obtain ⟨w1, hw1⟩ : ∃ w1, w.alloc (.cells #[.int .i64 m.a.c, .int .i64 m.a.s, .string m.k] 31) = w1 := ⟨_, rfl⟩
  have HW1 := Lib.hid hw1
  have HWS : Hid (w1.heap.size = b0 + 1) := by rw [Hid, ← hw1, World.size_alloc, hb0]
  rw [hw1] at R0 HBX O0
  rw [HWS.out] at R0
  obtain ⟨top, ht⟩ : ∃ b, isTop m = b := ⟨_, rfl⟩
  rw [ht] at heq HBF
  obtain ⟨bel, hbel⟩ : ∃ f, (fun l => belM l m N) = f := ⟨_, rfl⟩
  have hbe : ∀ l, belM l m N = bel l := fun l => congrFun hbel l
  rw [hbe] at HBE ⊢
  have HSN2 : Hid (∀ l x, bel (l ++ [x]) = if belF m x = true ∧ ((bel l).length : Int) < N then bel l ++ [x] else bel l) := fun l x => by rw [← hbe, ← hbe]; exact HSN.out l x
  have HBL2 : Hid (∀ l, (bel l).length ≤ l.length) := fun l => by rw [← hbe]; exact HBL.out l
  have HBF2 : Hid (∀ l x, (top || mkLater m x) = false → bel (l ++ [x]) = bel l) := fun l x e => by rw [HSN2.out, if_neg]; rw [HBF.out, e]; simp
  have HBF3 : Hid (∀ l x, (top || mkLater m x) = true → ((bel l).length : Int) < N → bel (l ++ [x]) = bel l ++ [x]) := fun l x e e2 => by rw [HSN2.out, if_pos]; rw [HBF.out, e]; exact ⟨rfl, e2⟩
  have HBF4 : Hid (∀ l x, ¬ ((bel l).length : Int) < N → bel (l ++ [x]) = bel l) := fun l x e2 => by rw [HSN2.out, if_neg]; exact fun e => e2 e.2
  obtain ⟨⟨mc, ms⟩, k⟩ := m
  simp only [] at heq HLT HBX hw1 HW1
  clear h hn B0 hb0 HSN HBL hbe hbel HBF HSN2 ht hw1
  go_enter Try.func24, Try.ntmps24
  go_wp2_with fail
  rw [HW1.out, HB0.out]
  go_loopw [7, 8] (fun s7 s8 wr => ∃ i : Nat, i ≤ n ∧ s8 = .int .i64 i ∧ Rm w1 s7 (bel (l.take i)) wr) (fun _ s8 _ => n - (intOf s8).toNat)
  case atStart => exact ⟨0, by omega, rfl, by rw [List.take_zero, HBE.out]; exact R0.out⟩
  case round =>
    obtain ⟨i, hi, rfl, r⟩ := hrel
    have OW : Hid (Only none_ w wr) := O0.out.trans r.ho
    have HKB : Hid (∀ w', Only none_ wr w' → w'.cell? ⟨b0, 0, none⟩ = some (.int .i64 mc) ∧ w'.cell? ⟨b0, 1, none⟩ = some (.int .i64 ms) ∧ w'.cell? ⟨b0, 2, none⟩ = some (.string k)) := fun w' o => by
      have := HBX.out w' (r.ho.trans o)
      exact ⟨this.cell_ (i := 0) rfl, this.cell_ (i := 1) rfl, this.cell_ (i := 2) rfl⟩
    have hle := HBL2.out (l.take i)
    rw [List.length_take] at hle
    obtain ⟨A5, c5, hs5⟩ := r.shape
    subst hs5
    obtain ⟨d, hd⟩ : ∃ d, bel (l.take i) = d := ⟨_, rfl⟩
    have HD := Lib.hid hd
    rw [hd] at r hle
    obtain ⟨D, hD⟩ : ∃ D, d.length = D := ⟨_, rfl⟩
    have HDL := Lib.hid hD
    rw [hD] at r hle
    rw [hd, hD]
    have RR := Lib.hid r
    have hD1 : D ≤ 1000 := by omega
    have HLN1 : Hid (D + 1 ≤ maxLen ∧ (D + 1) * 32 ≤ 140737488355328) := by simp only [Hid, maxLen]; omega
    by_cases hlt : i < n
    · have hiq : i < l.length := by have := HN.out; omega
      obtain ⟨b, off, hA, _⟩ := mkr_cell (HC.out _ OW.out) i hiq HN.out
      subst hA
      have HK : Hid (∀ w', Only none_ wr w' → w'.cell? ⟨b, off + i * 3, none⟩ = some (.int .i64 l[i].a.c) ∧ w'.cell? ⟨b, off + i * 3 + 1, none⟩ = some (.int .i64 l[i].a.s) ∧ w'.cell? ⟨b, off + i * 3 + 2, none⟩ = some (.string l[i].k)) := fun w' o => by
        obtain ⟨a1, f1, e1, _, _, h0, h1, h2⟩ := mkr_cell (HC.out _ (OW.out.trans o)) i hiq HN.out
        injection e1 with e1; injection e1 with e3 e4; subst e3 e4
        exact ⟨h0, h1, h2⟩
      have hty : l.take (i + 1) = l.take i ++ [l[i]] := List.take_succ_eq_append_getElem hiq
      have hf2 := HBF2.out (l.take i) l[i]
      have hf3 := HBF3.out (l.take i) l[i]
      have hf4 := HBF4.out (l.take i) l[i]
      rw [← hty, HD.out] at hf2 hf3 hf4
      rw [HDL.out] at hf3 hf4
      have hltr := HLT.out l[i]
      have hfx := Lib.hid (flat_one1 d l[i])
      have HONE := Lib.hid (mkI_one' l[i])
      generalize mkLater ⟨⟨mc, ms⟩, k⟩ l[i] = la at hltr hf2 hf3
      generalize l[i] = p at hltr HK hf3 hfx HONE
      obtain ⟨⟨pc, ps⟩, pk⟩ := p
      simp only [mkI] at hltr HK hf3 hfx HONE
      have HLR := Lib.hid hltr
      have F2 := Lib.hid hf2
      have F3 := Lib.hid hf3
      have F4 := Lib.hid hf4
      clear r hd hD hltr hty hf2 hf3 hf4 hle
      -- the whole of a round, by what the guards are
      by_cases hDN : (D : Int) < N
      · have hdd : decide ((D : Int) < N) = true := by simpa using hDN
        cases top with
        | true =>
          have HF := Lib.hid (F3.out (by rfl) hDN)
          clear hDN
          go_wp2_with fail
          (refine wp_region_steady (fun w' => Only none_ wr w') 17 (by kernel_rfl) (by kernel_rfl) ((Only.refl none_ wr).drew) ?_; simp only [List.take_succ_cons, List.take_zero, List.drop_succ_cons, List.drop_zero])
          repeat (first
            | (refine sd_skip (by rfl) ?_; try simp only [Act.put, List.setIfInBounds_toArray, List.set_cons_zero, List.set_cons_succ])
            | (refine sd_value (v := ?_) (by rfl) (fun w0 hS => ?_) ?_; rotate_left; (· (have kb := HKB.out _ hS; have kb0 := kb.1; have kb1 := kb.2.1; have kb2 := kb.2.2; have kk := HK.out _ hS; have kk0 := kk.1; have kk1 := kk.2.1; have kk2 := kk.2.2; go_simp; try (with_reducible rfl))); try simp only [Act.put, List.setIfInBounds_toArray, List.set_cons_zero, List.set_cons_succ])
            | (refine sd_call (v := ?_) (f := 27) (args := ?_) (by rfl) (fun w0 hS => ?_) (fun w0 hS => ?_) ?_; rotate_left 2; (· (skip; go_simp; try (with_reducible rfl))); (· (refine (HLR.out _).mono ?_; rintro E w9 ⟨rfl, o9⟩; refine ⟨?_, hS.trans o9⟩; rfl)); try simp only [Act.put, List.setIfInBounds_toArray, List.set_cons_zero, List.set_cons_succ]))
          refine sd_nil ?_
          intro w3 t3
          have R3 := Lib.hid (RR.out.keep t3)
          have kk := HK.out _ t3
          have kk0 := kk.1
          have kk1 := kk.2.1
          have kk2 := kk.2.2
          have C4 : Hid (Cel (w3.alloc (.cells #[.int .i64 pc, .int .i64 ps, .string pk] 31)) (fun b => b = w3.heap.size) (.slice (some ⟨w3.heap.size, 0, none⟩) 1 1) 1 3 [.int .i64 pc, .int .i64 ps, .string pk]) := cel_made w3 31 3 1 #[.int .i64 pc, .int .i64 ps, .string pk] rfl (by simp [maxLen])
          have R4 := Lib.hid (R3.out.keep ((Only.refl none_ w3).alloc (.cells #[.int .i64 pc, .int .i64 ps, .string pk] 31)))
          clear t3 kk
          go_wp2_with (first
            | (at_builtin; refine wpList_append_cel _ rfl (.tmp 33) (.tmp 38) 27 rfl w1.heap.size 31 i0 _ 3 32 Try.underlying27 hi0 hz0 hz1 hz2 rfl (by omega) (.slice A5 D c5) D _ rfl (by have := R4.out.ow; rw [HDL.out] at this; exact this) _ _ 1 _ rfl C4.out HONE.out HLN1.out.1 HLN1.out.2 R4.out.ho.size ?_
               intro A6 n6 c6 w6 hown6 hgrow6 hmv6
               have R6 : Hid (Rm w1 (.slice A6 n6 c6) (d ++ [⟨⟨pc, ps⟩, pk⟩]) w6) := R4.out.app hown6 (by rw [List.length_append, HDL.out]; rfl) (by rw [hfx.out]) hgrow6
               clear hown6 hgrow6 hmv6))
          go_roundw
          case rel => exact ⟨i + 1, by omega, by go_num, by rw [HF.out]; exact R6.out⟩
          case measure => simp [intOf]; omega
        | false =>
          cases la with
          | true =>
            have HF := Lib.hid (F3.out (by rfl) hDN)
            clear hDN
            go_wp2_with fail
            (refine wp_region_steady (fun w' => Only none_ wr w') 17 (by kernel_rfl) (by kernel_rfl) ((Only.refl none_ wr).drew) ?_; simp only [List.take_succ_cons, List.take_zero, List.drop_succ_cons, List.drop_zero])
            repeat (first
              | (refine sd_skip (by rfl) ?_; try simp only [Act.put, List.setIfInBounds_toArray, List.set_cons_zero, List.set_cons_succ])
              | (refine sd_value (v := ?_) (by rfl) (fun w0 hS => ?_) ?_; rotate_left; (· (have kb := HKB.out _ hS; have kb0 := kb.1; have kb1 := kb.2.1; have kb2 := kb.2.2; have kk := HK.out _ hS; have kk0 := kk.1; have kk1 := kk.2.1; have kk2 := kk.2.2; go_simp; try (with_reducible rfl))); try simp only [Act.put, List.setIfInBounds_toArray, List.set_cons_zero, List.set_cons_succ])
              | (refine sd_call (v := ?_) (f := 27) (args := ?_) (by rfl) (fun w0 hS => ?_) (fun w0 hS => ?_) ?_; rotate_left 2; (· (skip; go_simp; try (with_reducible rfl))); (· (refine (HLR.out _).mono ?_; rintro E w9 ⟨rfl, o9⟩; refine ⟨?_, hS.trans o9⟩; rfl)); try simp only [Act.put, List.setIfInBounds_toArray, List.set_cons_zero, List.set_cons_succ]))
            refine sd_nil ?_
            intro w3 t3
            have R3 := Lib.hid (RR.out.keep t3)
            have kk := HK.out _ t3
            have kk0 := kk.1
            have kk1 := kk.2.1
            have kk2 := kk.2.2
            have C4 : Hid (Cel (w3.alloc (.cells #[.int .i64 pc, .int .i64 ps, .string pk] 31)) (fun b => b = w3.heap.size) (.slice (some ⟨w3.heap.size, 0, none⟩) 1 1) 1 3 [.int .i64 pc, .int .i64 ps, .string pk]) := cel_made w3 31 3 1 #[.int .i64 pc, .int .i64 ps, .string pk] rfl (by simp [maxLen])
            have R4 := Lib.hid (R3.out.keep ((Only.refl none_ w3).alloc (.cells #[.int .i64 pc, .int .i64 ps, .string pk] 31)))
            clear t3 kk
            go_wp2_with (first
              | (at_builtin; refine wpList_append_cel _ rfl (.tmp 33) (.tmp 38) 27 rfl w1.heap.size 31 i0 _ 3 32 Try.underlying27 hi0 hz0 hz1 hz2 rfl (by omega) (.slice A5 D c5) D _ rfl (by have := R4.out.ow; rw [HDL.out] at this; exact this) _ _ 1 _ rfl C4.out HONE.out HLN1.out.1 HLN1.out.2 R4.out.ho.size ?_
                 intro A6 n6 c6 w6 hown6 hgrow6 hmv6
                 have R6 : Hid (Rm w1 (.slice A6 n6 c6) (d ++ [⟨⟨pc, ps⟩, pk⟩]) w6) := R4.out.app hown6 (by rw [List.length_append, HDL.out]; rfl) (by rw [hfx.out]) hgrow6
                 clear hown6 hgrow6 hmv6))
            go_roundw
            case rel => exact ⟨i + 1, by omega, by go_num, by rw [HF.out]; exact R6.out⟩
            case measure => simp [intOf]; omega
          | false =>
            have HF := Lib.hid (F2.out (by rfl))
            clear hDN
            go_wp2_with fail
            (refine wp_region_steady (fun w' => Only none_ wr w') 17 (by kernel_rfl) (by kernel_rfl) ((Only.refl none_ wr).drew) ?_; simp only [List.take_succ_cons, List.take_zero, List.drop_succ_cons, List.drop_zero])
            repeat (first
              | (refine sd_skip (by rfl) ?_; try simp only [Act.put, List.setIfInBounds_toArray, List.set_cons_zero, List.set_cons_succ])
              | (refine sd_value (v := ?_) (by rfl) (fun w0 hS => ?_) ?_; rotate_left; (· (have kb := HKB.out _ hS; have kb0 := kb.1; have kb1 := kb.2.1; have kb2 := kb.2.2; have kk := HK.out _ hS; have kk0 := kk.1; have kk1 := kk.2.1; have kk2 := kk.2.2; go_simp; try (with_reducible rfl))); try simp only [Act.put, List.setIfInBounds_toArray, List.set_cons_zero, List.set_cons_succ])
              | (refine sd_call (v := ?_) (f := 27) (args := ?_) (by rfl) (fun w0 hS => ?_) (fun w0 hS => ?_) ?_; rotate_left 2; (· (skip; go_simp; try (with_reducible rfl))); (· (refine (HLR.out _).mono ?_; rintro E w9 ⟨rfl, o9⟩; refine ⟨?_, hS.trans o9⟩; rfl)); try simp only [Act.put, List.setIfInBounds_toArray, List.set_cons_zero, List.set_cons_succ]))
            refine sd_nil ?_
            intro w3 t3
            have R3 := Lib.hid (RR.out.keep t3)
            clear t3
            go_wp2_with fail
            go_roundw
            case rel => exact ⟨i + 1, by omega, by go_num, by rw [HF.out]; exact R3.out⟩
            case measure => simp [intOf]; omega
      · have hdd : decide ((D : Int) < N) = false := by simpa using hDN
        have HF := Lib.hid (F4.out (by omega))
        clear hDN
        cases top with
        | true =>
          go_wp2_with fail
          (refine wp_region_steady (fun w' => Only none_ wr w') 17 (by kernel_rfl) (by kernel_rfl) ((Only.refl none_ wr).drew) ?_; simp only [List.take_succ_cons, List.take_zero, List.drop_succ_cons, List.drop_zero])
          repeat (first
            | (refine sd_skip (by rfl) ?_; try simp only [Act.put, List.setIfInBounds_toArray, List.set_cons_zero, List.set_cons_succ])
            | (refine sd_value (v := ?_) (by rfl) (fun w0 hS => ?_) ?_; rotate_left; (· (have kb := HKB.out _ hS; have kb0 := kb.1; have kb1 := kb.2.1; have kb2 := kb.2.2; have kk := HK.out _ hS; have kk0 := kk.1; have kk1 := kk.2.1; have kk2 := kk.2.2; go_simp; try (with_reducible rfl))); try simp only [Act.put, List.setIfInBounds_toArray, List.set_cons_zero, List.set_cons_succ])
            | (refine sd_call (v := ?_) (f := 27) (args := ?_) (by rfl) (fun w0 hS => ?_) (fun w0 hS => ?_) ?_; rotate_left 2; (· (skip; go_simp; try (with_reducible rfl))); (· (refine (HLR.out _).mono ?_; rintro E w9 ⟨rfl, o9⟩; refine ⟨?_, hS.trans o9⟩; rfl)); try simp only [Act.put, List.setIfInBounds_toArray, List.set_cons_zero, List.set_cons_succ]))
          refine sd_nil ?_
          intro w3 t3
          have R3 := Lib.hid (RR.out.keep t3)
          clear t3
          go_wp2_with fail
          go_roundw
          case rel => exact ⟨i + 1, by omega, by go_num, by rw [HF.out]; exact R3.out⟩
          case measure => simp [intOf]; omega
        | false =>
          cases la with
          | true =>
            go_wp2_with fail
            (refine wp_region_steady (fun w' => Only none_ wr w') 17 (by kernel_rfl) (by kernel_rfl) ((Only.refl none_ wr).drew) ?_; simp only [List.take_succ_cons, List.take_zero, List.drop_succ_cons, List.drop_zero])
            repeat (first
              | (refine sd_skip (by rfl) ?_; try simp only [Act.put, List.setIfInBounds_toArray, List.set_cons_zero, List.set_cons_succ])
              | (refine sd_value (v := ?_) (by rfl) (fun w0 hS => ?_) ?_; rotate_left; (· (have kb := HKB.out _ hS; have kb0 := kb.1; have kb1 := kb.2.1; have kb2 := kb.2.2; have kk := HK.out _ hS; have kk0 := kk.1; have kk1 := kk.2.1; have kk2 := kk.2.2; go_simp; try (with_reducible rfl))); try simp only [Act.put, List.setIfInBounds_toArray, List.set_cons_zero, List.set_cons_succ])
              | (refine sd_call (v := ?_) (f := 27) (args := ?_) (by rfl) (fun w0 hS => ?_) (fun w0 hS => ?_) ?_; rotate_left 2; (· (skip; go_simp; try (with_reducible rfl))); (· (refine (HLR.out _).mono ?_; rintro E w9 ⟨rfl, o9⟩; refine ⟨?_, hS.trans o9⟩; rfl)); try simp only [Act.put, List.setIfInBounds_toArray, List.set_cons_zero, List.set_cons_succ]))
            refine sd_nil ?_
            intro w3 t3
            have R3 := Lib.hid (RR.out.keep t3)
            clear t3
            go_wp2_with fail
            go_roundw
            case rel => exact ⟨i + 1, by omega, by go_num, by rw [HF.out]; exact R3.out⟩
            case measure => simp [intOf]; omega
          | false =>
            go_wp2_with fail
            (refine wp_region_steady (fun w' => Only none_ wr w') 17 (by kernel_rfl) (by kernel_rfl) ((Only.refl none_ wr).drew) ?_; simp only [List.take_succ_cons, List.take_zero, List.drop_succ_cons, List.drop_zero])
            repeat (first
              | (refine sd_skip (by rfl) ?_; try simp only [Act.put, List.setIfInBounds_toArray, List.set_cons_zero, List.set_cons_succ])
              | (refine sd_value (v := ?_) (by rfl) (fun w0 hS => ?_) ?_; rotate_left; (· (have kb := HKB.out _ hS; have kb0 := kb.1; have kb1 := kb.2.1; have kb2 := kb.2.2; have kk := HK.out _ hS; have kk0 := kk.1; have kk1 := kk.2.1; have kk2 := kk.2.2; go_simp; try (with_reducible rfl))); try simp only [Act.put, List.setIfInBounds_toArray, List.set_cons_zero, List.set_cons_succ])
              | (refine sd_call (v := ?_) (f := 27) (args := ?_) (by rfl) (fun w0 hS => ?_) (fun w0 hS => ?_) ?_; rotate_left 2; (· (skip; go_simp; try (with_reducible rfl))); (· (refine (HLR.out _).mono ?_; rintro E w9 ⟨rfl, o9⟩; refine ⟨?_, hS.trans o9⟩; rfl)); try simp only [Act.put, List.setIfInBounds_toArray, List.set_cons_zero, List.set_cons_succ]))
            refine sd_nil ?_
            intro w3 t3
            have R3 := Lib.hid (RR.out.keep t3)
            clear t3
            go_wp2_with fail
            go_roundw
            case rel => exact ⟨i + 1, by omega, by go_num, by rw [HF.out]; exact R3.out⟩
            case measure => simp [intOf]; omega
    · have hin : l.take i = l := List.take_of_length_le (by have := HN.out; omega)
      rw [hin] at HD
      clear r hd hD hle hin
      go_wp2_with fail
      go_ret
      rw [HD.out]
      exact ⟨_, rfl, owns_base RR.out.ow O0.out.size, OW.out⟩
end Go.Proofs.Ytclngnoapfjghaa
