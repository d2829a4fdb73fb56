/- Marks turned from the document's to the program's and back: Of, To, Tos. No statement of the seat is proved here. -/
import Derived.Test.YtclngnoapfjghaaRcR
import Derived.Test.YtclngnoapfjghaaStEo
namespace Go.Proofs.Ytclngnoapfjghaa
open Go.RowKit
set_option maxRecDepth 100000
set_option linter.all false

set_option maxHeartbeats 1600000 in
theorem mk_of (m : Mk) (w : World) :
    Calls Try.prog 15 #[.agg #[.int .i64 m.a.c, .int .i64 m.a.s, .string m.k]] w fun e w' => e = .returned (.agg #[.int .i64 m.a.c, .int .i64 m.a.s, .string m.k]) ∧ Only none_ w w' := by
  have HST := Lib.hid (st_of m.a.c m.a.s)
  have B0 := Blk.new w 31 #[.int .i64 m.a.c, .int .i64 m.a.s, .string m.k]
  obtain ⟨b0, hb0⟩ : ∃ b0, w.heap.size = b0 := ⟨_, rfl⟩
  have HB0 := Lib.hid hb0
  have B1 := Blk.new (w.alloc (.cells #[.int .i64 m.a.c, .int .i64 m.a.s, .string m.k] 31)) 39 #[.int .i64 0, .int .i64 0, .string ⟨#[]⟩]
  rw [World.size_alloc, hb0] at B1
  rw [hb0] at B0
  have B0' := Lib.hid (B0.alloc (.cells #[.int .i64 0, .int .i64 0, .string ⟨#[]⟩] 39))
  have B1' := Lib.hid B1
  have O := Lib.hid (((Only.refl none_ w).alloc (.cells #[.int .i64 m.a.c, .int .i64 m.a.s, .string m.k] 31)).alloc (.cells #[.int .i64 0, .int .i64 0, .string ⟨#[]⟩] 39))
  obtain ⟨w2, hw2⟩ : ∃ w2, (w.alloc (.cells #[.int .i64 m.a.c, .int .i64 m.a.s, .string m.k] 31)).alloc (.cells #[.int .i64 0, .int .i64 0, .string ⟨#[]⟩] 39) = w2 := ⟨_, rfl⟩
  have HW := Lib.hid hw2
  rw [hw2] at B0' B1' O
  obtain ⟨⟨mc, ms⟩, k⟩ := m
  simp only [] at HST B0' B1' O HW
  clear hb0 B0 B1 hw2
  go_enter Try.func15, Try.ntmps15
  go_wp2_with fail
  rw [HW.out, HB0.out]
  (refine wp_region_steady (fun w' => Only none_ w2 w') 6 (by kernel_rfl) (by kernel_rfl) ((Only.refl none_ w2).drew) ?_; simp only [List.take_succ_cons, List.take_zero, List.drop_succ_cons, List.drop_zero])
  repeat (first
    | (refine sd_value (v := ?_) (by rfl) (fun w0 hS => ?_) ?_; rotate_left; (· (have hb := B0'.out.only hS (fun h => h); have k0 := hb.cell_ (i := 0) rfl; have k1 := hb.cell_ (i := 1) rfl; have k2 := hb.cell_ (i := 2) rfl; go_simp; try (with_reducible rfl))); try simp only [Act.put, List.setIfInBounds_toArray, List.set_cons_zero, List.set_cons_succ])
    | (refine sd_call (v := ?_) (f := 45) (args := ?_) (by rfl) (fun w0 hS => ?_) (fun w0 hS => ?_) ?_; rotate_left 2; (· (skip; go_simp; try (with_reducible rfl))); (· (refine (HST.out _).mono ?_; rintro E w9 ⟨rfl, o9⟩; refine ⟨?_, hS.trans o9⟩; rfl)); try simp only [Act.put, List.setIfInBounds_toArray, List.set_cons_zero, List.set_cons_succ]))
  refine sd_nil ?_
  intro w3 t3
  have X := B1'.out.only t3 (fun h => h)
  have c0 := X.cell_ (i := 0) rfl
  have f0 := X.frozen 0
  have c1 := (X.set_ 0 (.int .i64 mc)).cell_ (i := 1) rfl
  have f1 := (X.set_ 0 (.int .i64 mc)).frozen 1
  have c2 := ((X.set_ 0 (.int .i64 mc)).set_ 1 (.int .i64 ms)).cell_ (i := 2) rfl
  have f2 := ((X.set_ 0 (.int .i64 mc)).set_ 1 (.int .i64 ms)).frozen 2
  have F : Hid (Blk (((w3.setCell ⟨b0 + 1, 0, none⟩ (.int .i64 mc)).setCell ⟨b0 + 1, 1, none⟩ (.int .i64 ms)).setCell ⟨b0 + 1, 2, none⟩ (.string k)) (b0 + 1) 39 #[.int .i64 mc, .int .i64 ms, .string k]) := ((X.set_ 0 (.int .i64 mc)).set_ 1 (.int .i64 ms)).set_ 2 (.string k)
  have OF : Hid (Only none_ w (((w3.setCell ⟨b0 + 1, 0, none⟩ (.int .i64 mc)).setCell ⟨b0 + 1, 1, none⟩ (.int .i64 ms)).setCell ⟨b0 + 1, 2, none⟩ (.string k))) := (O.out.trans t3).trans' ((((Only.refl (one (b0 + 1)) w3).setCell (p := ⟨b0 + 1, 0, none⟩) (.inl (show one (b0 + 1) (b0 + 1) from rfl)) _).setCell (p := ⟨b0 + 1, 1, none⟩) (.inl (show one (b0 + 1) (b0 + 1) from rfl)) _).setCell (p := ⟨b0 + 1, 2, none⟩) (.inl (show one (b0 + 1) (b0 + 1) from rfl)) _) (fun k hk e => by have e' : k = b0 + 1 := e; have := HB0.out; omega)
  clear t3 X
  go_wp2_with fail
  exact bodyPost_ret (results_cell_row rfl _ _ (b0 + 1) 39 _ (0, 0) _ rfl F.out Try.underlying39 rfl (by kernel_rfl)) rfl ⟨rfl, OF.out⟩
set_option maxHeartbeats 1600000 in
theorem mk_to (m : Mk) (w : World) :
    Calls Try.prog 19 #[.agg #[.int .i64 m.a.c, .int .i64 m.a.s, .string m.k]] w fun e w' => e = .returned (.agg #[.int .i64 m.a.c, .int .i64 m.a.s, .string m.k]) ∧ Only none_ w w' := by
  have HST := Lib.hid (st_to m.a.c m.a.s)
  have B0 := Blk.new w 39 #[.int .i64 m.a.c, .int .i64 m.a.s, .string m.k]
  obtain ⟨b0, hb0⟩ : ∃ b0, w.heap.size = b0 := ⟨_, rfl⟩
  have HB0 := Lib.hid hb0
  have B1 := Blk.new (w.alloc (.cells #[.int .i64 m.a.c, .int .i64 m.a.s, .string m.k] 39)) 31 #[.int .i64 0, .int .i64 0, .string ⟨#[]⟩]
  rw [World.size_alloc, hb0] at B1
  rw [hb0] at B0
  have B0' := Lib.hid (B0.alloc (.cells #[.int .i64 0, .int .i64 0, .string ⟨#[]⟩] 31))
  have B1' := Lib.hid B1
  have O := Lib.hid (((Only.refl none_ w).alloc (.cells #[.int .i64 m.a.c, .int .i64 m.a.s, .string m.k] 39)).alloc (.cells #[.int .i64 0, .int .i64 0, .string ⟨#[]⟩] 31))
  obtain ⟨w2, hw2⟩ : ∃ w2, (w.alloc (.cells #[.int .i64 m.a.c, .int .i64 m.a.s, .string m.k] 39)).alloc (.cells #[.int .i64 0, .int .i64 0, .string ⟨#[]⟩] 31) = w2 := ⟨_, rfl⟩
  have HW := Lib.hid hw2
  rw [hw2] at B0' B1' O
  obtain ⟨⟨mc, ms⟩, k⟩ := m
  simp only [] at HST B0' B1' O HW
  clear hb0 B0 B1 hw2
  go_enter Try.func19, Try.ntmps19
  go_wp2_with fail
  rw [HW.out, HB0.out]
  (refine wp_region_steady (fun w' => Only none_ w2 w') 6 (by kernel_rfl) (by kernel_rfl) ((Only.refl none_ w2).drew) ?_; simp only [List.take_succ_cons, List.take_zero, List.drop_succ_cons, List.drop_zero])
  repeat (first
    | (refine sd_value (v := ?_) (by rfl) (fun w0 hS => ?_) ?_; rotate_left; (· (have hb := B0'.out.only hS (fun h => h); have k0 := hb.cell_ (i := 0) rfl; have k1 := hb.cell_ (i := 1) rfl; have k2 := hb.cell_ (i := 2) rfl; go_simp; try (with_reducible rfl))); try simp only [Act.put, List.setIfInBounds_toArray, List.set_cons_zero, List.set_cons_succ])
    | (refine sd_call (v := ?_) (f := 47) (args := ?_) (by rfl) (fun w0 hS => ?_) (fun w0 hS => ?_) ?_; rotate_left 2; (· (skip; go_simp; try (with_reducible rfl))); (· (refine (HST.out _).mono ?_; rintro E w9 ⟨rfl, o9⟩; refine ⟨?_, hS.trans o9⟩; rfl)); try simp only [Act.put, List.setIfInBounds_toArray, List.set_cons_zero, List.set_cons_succ]))
  refine sd_nil ?_
  intro w3 t3
  have X := B1'.out.only t3 (fun h => h)
  have c0 := X.cell_ (i := 0) rfl
  have f0 := X.frozen 0
  have c1 := (X.set_ 0 (.int .i64 mc)).cell_ (i := 1) rfl
  have f1 := (X.set_ 0 (.int .i64 mc)).frozen 1
  have c2 := ((X.set_ 0 (.int .i64 mc)).set_ 1 (.int .i64 ms)).cell_ (i := 2) rfl
  have f2 := ((X.set_ 0 (.int .i64 mc)).set_ 1 (.int .i64 ms)).frozen 2
  have F : Hid (Blk (((w3.setCell ⟨b0 + 1, 0, none⟩ (.int .i64 mc)).setCell ⟨b0 + 1, 1, none⟩ (.int .i64 ms)).setCell ⟨b0 + 1, 2, none⟩ (.string k)) (b0 + 1) 31 #[.int .i64 mc, .int .i64 ms, .string k]) := ((X.set_ 0 (.int .i64 mc)).set_ 1 (.int .i64 ms)).set_ 2 (.string k)
  have OF : Hid (Only none_ w (((w3.setCell ⟨b0 + 1, 0, none⟩ (.int .i64 mc)).setCell ⟨b0 + 1, 1, none⟩ (.int .i64 ms)).setCell ⟨b0 + 1, 2, none⟩ (.string k))) := (O.out.trans t3).trans' ((((Only.refl (one (b0 + 1)) w3).setCell (p := ⟨b0 + 1, 0, none⟩) (.inl (show one (b0 + 1) (b0 + 1) from rfl)) _).setCell (p := ⟨b0 + 1, 1, none⟩) (.inl (show one (b0 + 1) (b0 + 1) from rfl)) _).setCell (p := ⟨b0 + 1, 2, none⟩) (.inl (show one (b0 + 1) (b0 + 1) from rfl)) _) (fun k hk e => by have e' : k = b0 + 1 := e; have := HB0.out; omega)
  clear t3 X
  go_wp2_with fail
  exact bodyPost_ret (results_cell_row rfl _ _ (b0 + 1) 31 _ (0, 0) _ rfl F.out Try.underlying31 rfl (by kernel_rfl)) rfl ⟨rfl, OF.out⟩

theorem flat_two (d : List Mk) (p : Mk) : (d ++ [p]).flatMap mkI = d.flatMap mkI ++ [.int .i64 p.a.c, .int .i64 p.a.s, .string p.k] := by rw [List.flatMap_append]; simp [mkI]

set_option maxHeartbeats 3200000 in
theorem mk_tos (S : Nat → Prop) (l : List Mk) (A : Option Addr) (n c : Nat) (w : World) (h : Cel w S (.slice A n c) n 3 (l.flatMap mkI)) (hn : n = l.length) (hl : n ≤ 1000) :
    Calls Try.prog 22 #[.slice A n c] w fun e w' => ∃ v', e = .returned v' ∧ Rm w v' l w' := by
  obtain ⟨i0, hi0, hz0, hz1, hz2⟩ := rinfo_parts rmark_info
  have HC := Lib.hid (fun (w' : World) (o : Only none_ w w') => h.only o (fun _ _ h => h))
  have HN := Lib.hid hn
  have R0 := Lib.hid (Rm.made w)
  clear h hn
  go_enter Try.func22, Try.ntmps22
  go_wp2_with fail
  go_loopw [3, 9] (fun s3 s9 wr => ∃ i : Nat, i ≤ n ∧ s9 = .int .i64 i ∧ Rm w s3 (l.take i) wr) (fun _ s9 _ => n - (intOf s9).toNat)
  case atStart => exact ⟨0, by omega, rfl, by rw [List.take_zero]; exact R0.out⟩
  case round =>
    obtain ⟨i, hi, rfl, r⟩ := hrel
    have RR := Lib.hid r
    by_cases hlt : i < n
    · have hin : i < l.length := by have := HN.out; omega
      obtain ⟨b, off, hA, _, _, hc0, hc1, hc2⟩ := mkr_cell (HC.out _ r.ho) i hin HN.out
      subst hA
      have hsn : l.take (i + 1) = l.take i ++ [l[i]] := List.take_succ_eq_append_getElem hin
      have hflat := flat_two (l.take i) l[i]
      have hone := mkI_one' l[i]
      have hto := mk_to l[i]
      obtain ⟨A1, c1, hs5⟩ := r.shape
      subst hs5
      obtain ⟨d, hd⟩ : ∃ d, l.take i = d := ⟨_, rfl⟩
      have hlen : (l.take i).length ≤ 1000 := by rw [List.length_take]; omega
      rw [hd] at RR hflat hlen hsn
      obtain ⟨L, hL⟩ : ∃ L, d.length = L := ⟨_, rfl⟩
      rw [hL] at RR hlen
      rw [hd, hL]
      have HLL := Lib.hid hL
      have HSN := Lib.hid hsn
      have HFL := Lib.hid hflat
      have HLN : Hid (L + 1 ≤ maxLen ∧ (L + 1) * 32 ≤ 140737488355328) := by simp only [Hid, maxLen]; omega
      generalize l[i] = p at hc0 hc1 hc2 HSN HFL hone hto
      obtain ⟨⟨pc, ps⟩, pk⟩ := p
      simp only [mkI] at hc0 hc1 hc2 HFL hone hto
      have HONE := Lib.hid hone
      have HTO := Lib.hid hto
      clear r hsn hflat hlen hd hL hone hto
      have R1 := Lib.hid (RR.out.keep ((Only.refl none_ wr).alloc (.cells #[.int .i64 pc, .int .i64 ps, .string pk] 39)))
      go_wp2_with (first
        | (go_at_call 19; refine (HTO.out _).mono ?_; rintro E w3 ⟨rfl, o3⟩
           have R3 := Lib.hid ((R1.out.keep o3).keep ((Only.refl none_ w3).alloc (.cells #[.int .i64 pc, .int .i64 ps, .string pk] 31)))
           have C1 : Hid (Cel (w3.alloc (.cells #[.int .i64 pc, .int .i64 ps, .string pk] 31)) (fun b => b = w3.heap.size) (.slice (some ⟨w3.heap.size, 0, none⟩) 1 1) 1 3 [.int .i64 pc, .int .i64 ps, .string pk]) := cel_made w3 31 3 1 #[.int .i64 pc, .int .i64 ps, .string pk] rfl (by simp [maxLen])
           clear o3)
        | (at_builtin; refine wpList_append_cel _ rfl (.tmp 13) (.tmp 16) 27 rfl w.heap.size 31 i0 _ 3 32 Try.underlying27 hi0 hz0 hz1 hz2 rfl (by omega) (.slice A1 L c1) L _ rfl (by have := R3.out.ow; rw [HLL.out] at this; exact this) _ _ 1 _ rfl C1.out HONE.out HLN.out.1 HLN.out.2 R3.out.ho.size ?_
           intro A5 n5 c5 w5 hown5 hgrow5 hmv5
           have R5 : Hid (Rm w (.slice A5 n5 c5) (d ++ [⟨⟨pc, ps⟩, pk⟩]) w5) := R3.out.app hown5 (by rw [List.length_append, HLL.out]; rfl) (by rw [HFL.out]) hgrow5
           clear hown5 hgrow5 hmv5))
      go_roundw
      case rel => exact ⟨i + 1, by omega, by go_num, by rw [HSN.out]; exact R5.out⟩
      case measure => simp [intOf]; omega
    · have hin : l.take i = l := List.take_of_length_le (by have := HN.out; omega)
      rw [hin] at RR
      clear r hin
      go_wp2_with fail
      go_ret
      exact ⟨_, rfl, RR.out⟩
end Go.Proofs.Ytclngnoapfjghaa
