/- The document's tables: Drop. No statement of the seat is proved here. -/
import Derived.Test.YtdmopjnmfjmhkaaTbJ
import Derived.Deep.RegionLaw
namespace Go.Proofs.Ytdmopjnmfjmhkaa
open Go.RowKit
set_option maxRecDepth 100000
set_option linter.all false

set_option maxHeartbeats 6400000 in
theorem rf_drop (S : Nat → Prop) (room : Int) (l : List (Pr Int)) (m : Value) (x : ByteArray) (w : World) (h : Rt w S room l m) (hr : Ris l) (hl : l.length ≤ 4096) :
    Calls Try.prog 30 #[m, .string x] w fun e w' => ∃ m', e = .returned (.tuple #[m', .bool (has l x)]) ∧ Rt w' (fun b => S b ∨ w.heap.size ≤ b) room (dropL l x) m' ∧ Only none_ w w' := by
  obtain ⟨i0, hi0, hz0, hz1, hz2⟩ := info_parts rpair_info
  have HRT := Lib.hid (fun (w' : World) (o : Only none_ w w') => h.only o (fun _ _ h => h))
  have hFD := fun (w' : World) (o : Only none_ w w') => rf_find S room l m x w' (h.only o (fun _ _ h => h)) hr hl
  obtain ⟨A, c, rfl, h⟩ := h
  obtain ⟨L, hL⟩ : ∃ L, l.length = L := ⟨_, rfl⟩
  rw [hL] at hFD HRT ⊢
  have B := Lib.hid (Blk.new w 31 #[.int .i64 room, .slice A L c])
  have C := Lib.hid (Blk.new (w.alloc (.cells #[.int .i64 room, .slice A L c] 31)) 31 #[.int .i64 0, .slice none 0 0])
  have O := Lib.hid (((Only.refl none_ w).alloc (.cells #[.int .i64 room, .slice A L c] 31)).alloc (.cells #[.int .i64 0, .slice none 0 0] 31))
  by_cases hs : has l x = true
  · have hat := (has_at hr x).symm
    rw [hs] at hat
    simp only [Bool.and_eq_true, decide_eq_true_eq] at hat
    obtain ⟨hlt, hx1⟩ := hat
    clear hx1
    obtain ⟨r, hrr⟩ : ∃ r, rnk l x = r := ⟨_, rfl⟩
    have hf : fndL l x = (r : Int) := by rw [fndL, if_pos hs, hrr]
    have hd : dropL l x = l.take r ++ l.drop (r + 1) := by rw [dropL, if_pos hs, hrr]
    rw [hf] at hFD
    rw [hs, hd]
    rw [hrr, hL] at hlt
    have HFD := Lib.hid hFD
    have hw1 : IntKind.i64.wrap ((r : Int) + 1) = (r : Int) + 1 := IntWalk.i64_in _ (by omega)
    have hrn : ¬ ((r : Int) < 0) := by omega
    have hnc : L ≤ c := by obtain ⟨A', c', e, _, h1, _⟩ := h; injection e with _ e2 e3; omega
    obtain ⟨ba, off, hA⟩ : ∃ ba off, A = some ⟨ba, off, none⟩ := by
      obtain ⟨A', c', e, _, _, _, _, h4⟩ := h
      injection e with e1
      obtain ⟨b, off, e2, _⟩ := h4 (by omega)
      exact ⟨b, off, e1.trans e2⟩
    subst hA
    have hs1 := sl_hi Try.underlying29 hi0 ba off L c r (by omega) (r : Int) rfl
    have hC := h
    rw [hL] at hC
    have CH := Lib.hid (fun (w' : World) (o : Only none_ w w') => (hC.sub (p := 0) (n' := r) (c' := c) (A' := some ⟨ba, off, none⟩) (by omega) (fun _ b o e => by injection e with e; injection e with e1 e2; subst e1 e2; simp) (by omega) (Nat.le_refl _) (fun e => by cases e)).only o (fun _ _ h => h))
    have h2 : ∃ A2, (∀ w', (Instr.sliceAt 29 (.slice (some ⟨ba, off, none⟩) L c) (some (.int .i64 ((r : Int) + 1))) none none).run Try.prog w' = .ok (.slice A2 (L - (r + 1)) (c - (r + 1))) w') ∧ Cel w S (.slice A2 (L - (r + 1)) (c - (r + 1))) (L - (r + 1)) 2 (((l.flatMap prI).drop ((r + 1) * 2)).take ((L - (r + 1)) * 2)) := by
      by_cases hrc : r + 1 < c
      · exact ⟨_, sl_lo Try.underlying29 hi0 hz1 ba off L c (r + 1) (by omega) hrc ((r : Int) + 1) (by omega), hC.sub (p := r + 1) (by omega) (fun _ b o e => by injection e with e; injection e with e1 e2; subst e1 e2; rfl) (by omega) (by omega) (fun e => by cases e)⟩
      · exact ⟨_, sl_lo_end Try.underlying29 hi0 ba off L c (r + 1) (by omega) (by omega) ((r : Int) + 1) (by omega), hC.sub (p := r + 1) (by omega) (fun h0 => by omega) (by omega) (by omega) (fun e => by cases e)⟩
    obtain ⟨A2, hs2, hc2⟩ := h2
    have CT := Lib.hid (fun (w' : World) (o : Only none_ w w') => hc2.only o (fun _ _ h => h))
    have hone := prI_one l
    have HFL : Hid ((l.take r ++ l.drop (r + 1)).flatMap prI = [] ++ ((l.flatMap prI).drop (0 * 2)).take (r * 2) ++ ((l.flatMap prI).drop ((r + 1) * 2)).take ((L - (r + 1)) * 2) ∧ (l.take r ++ l.drop (r + 1)).length = 0 + r + (L - (r + 1))) := by
      constructor
      · rw [List.flatMap_append, Nat.zero_mul, List.drop_zero, List.nil_append, flat_take prI prI_len l r (by omega), flat_drop prI prI_len l (r + 1) (by omega)]
        congr 1
        rw [List.take_of_length_le]
        rw [flat_len prI prI_len, List.length_drop, hL]
        omega
      · simp; omega
    clear h hC hc2 hr hFD hs hf hd hrr
    go_enter Try.func30, Try.ntmps30
    go_wp2_with (first
      | (go_at_call 53; refine (HFD.out _ O.out).mono ?_; rintro E w3 ⟨rfl, o3⟩
         have B3 := Lib.hid ((B.out.alloc (.cells #[.int .i64 0, .slice none 0 0] 31)).only o3 (fun h => h))
         have C3 := Lib.hid (C.out.only o3 (fun h => h))
         have b0 := B3.out.cell_ (i := 0) rfl
         have b1 := B3.out.cell_ (i := 1) rfl
         have O3 := Lib.hid (O.out.trans o3)
         clear o3))
    obtain ⟨g0, hg0⟩ : ∃ g0, w.heap.size = g0 := ⟨_, rfl⟩
    have HG := Lib.hid hg0
    have hsz3 : g0 + 2 ≤ w3.heap.size := by have := C3.out.lt; rw [World.size_alloc] at this; omega
    have C3' : Hid (Blk w3 (g0 + 1) 31 #[.int .i64 0, .slice none 0 0]) := by have := C3.out; rw [World.size_alloc, hg0] at this; exact this
    have B3' : Hid (Blk w3 g0 31 #[.int .i64 room, .slice (some ⟨ba, off, none⟩) L c]) := by have := B3.out; rw [hg0] at this; exact this
    rw [hg0] at b0 b1 ⊢
    clear B3 C3 B C
    have M3 : Hid ((w3.alloc (.cells #[] 87)).drew.ownsRow g0 87 2 (.slice (some ⟨w3.heap.size, 0, none⟩) 0 0) 0 []) := own_made w3 g0 87 2 0 #[] (by simp) (by simp [maxLen]) (by omega)
    have O4 : Hid (Only none_ w (w3.alloc (.cells #[] 87)).drew) := (O3.out.alloc _).drew
    have B4 : Hid (Blk (w3.alloc (.cells #[] 87)).drew g0 31 #[.int .i64 room, .slice (some ⟨ba, off, none⟩) L c]) := (B3'.out.alloc _).drew
    have C4 : Hid (Blk (w3.alloc (.cells #[] 87)).drew (g0 + 1) 31 #[.int .i64 0, .slice none 0 0]) := (C3'.out.alloc _).drew
    have b40 := B4.out.cell_ (i := 0) rfl
    have b41 := B4.out.cell_ (i := 1) rfl
    have hs4 : g0 ≤ (w3.alloc (.cells #[] 87)).drew.heap.size := by have := (C4.out).lt; omega
    have H1 : Hid (∀ u ∈ ((l.flatMap prI).drop (0 * 2)).take (r * 2), u.oneCell' = true) := fun u hu => hone u (List.mem_of_mem_drop (List.mem_of_mem_take hu))
    have H2 : Hid (∀ u ∈ ((l.flatMap prI).drop ((r + 1) * 2)).take ((L - (r + 1)) * 2), u.oneCell' = true) := fun u hu => hone u (List.mem_of_mem_drop (List.mem_of_mem_take hu))
    have N1 : Hid (0 + r ≤ maxLen ∧ (0 + r) * 24 ≤ 140737488355328) := by simp only [Hid, maxLen]; omega
    have N2 : Hid (0 + r + (L - (r + 1)) ≤ maxLen ∧ (0 + r + (L - (r + 1))) * 24 ≤ 140737488355328) := by simp only [Hid, maxLen]; omega
    go_region_law (first
      | (refine step_append_cel _ (by simp [Region.wanted]) (.tmp 15) (.tmp 19) 29 rfl g0 87 i0 _ 2 24 Try.underlying29 hi0 hz0 hz1 hz2 rfl (by omega) (.slice (some ⟨w3.heap.size, 0, none⟩) 0 0) 0 [] (by simp [Act.eval, Act.put]) (by exact M3.out) S (.slice (some ⟨ba, off, none⟩) r c) r _ (by simp [Act.eval, Act.put]) (by exact CH.out _ O4.out) (by exact H1.out) (by exact N1.out.1) (by exact N1.out.2) (by exact hs4) ?_
         intro A5 n5 c5 w5 hown5 hgrow5 hmv5
         have o45 : Only (ownb (.slice (some ⟨w3.heap.size, 0, none⟩) 0 0)) (w3.alloc (.cells #[] 87)).drew w5 := (Only.refl _ _).grown hgrow5 (fun k hk => .inl hk)
         have hk5 : ∀ k, ownb (.slice (some ⟨w3.heap.size, 0, none⟩) 0 0) k → k = w3.heap.size := fun k e => by have e' : some w3.heap.size = some k := e; injection e' with e'; exact e'.symm
         have B5 := Lib.hid (B4.out.only o45 (fun e => by have := hk5 _ e; omega))
         have C5 := Lib.hid (C4.out.only o45 (fun e => by have := hk5 _ e; omega))
         have b50 := B5.out.cell_ (i := 0) rfl
         have b51 := B5.out.cell_ (i := 1) rfl
         have O5 : Hid (Only none_ w w5) := O4.out.trans' o45 (fun k hk e => by have := hk5 _ e; omega)
         have W5 := Lib.hid hown5
         have hs5 : g0 ≤ w5.heap.size := by have := C5.out.lt; omega
         clear hown5 hgrow5 hmv5 o45 hk5)
      | (refine step_append_cel _ (by simp [Region.wanted]) (.tmp 20) (.tmp 25) 29 rfl g0 87 i0 _ 2 24 Try.underlying29 hi0 hz0 hz1 hz2 rfl (by omega) (.slice A5 n5 c5) (0 + r) _ (by simp [Act.eval, Act.put]) (by exact W5.out) S (.slice A2 (L - (r + 1)) (c - (r + 1))) (L - (r + 1)) _ (by simp [Act.eval, Act.put]) (by exact CT.out _ O5.out) (by exact H2.out) (by exact N2.out.1) (by exact N2.out.2) (by exact hs5) ?_
         intro A6 n6 c6 w6 hown6 hgrow6 hmv6
         have o56 : Only (ownb (.slice A5 n5 c5)) w5 w6 := (Only.refl _ _).grown hgrow6 (fun k hk => .inl hk)
         have C6 := C5.out.only o56 (fun e => own_blk_ne W5.out C5.out (by decide) e)
         have O6 : Hid (Only none_ w w6) := O5.out.trans' o56 (fun k hk e => by have := (W5.out.lt k e).1; omega)
         have B6 := B5.out.only o56 (fun e => own_blk_ne W5.out B5.out (by decide) e)
         have b60 := B6.cell_ (i := 0) rfl
         have b61 := B6.cell_ (i := 1) rfl
         have c60 := C6.cell_ (i := 0) rfl
         have f60 := C6.frozen 0
         have c61 := (C6.set_ 0 (.int .i64 room)).cell_ (i := 1) rfl
         have f61 := (C6.set_ 0 (.int .i64 room)).frozen 1
         have D6 : Hid (Blk ((w6.setCell ⟨g0 + 1, 0, none⟩ (.int .i64 room)).setCell ⟨g0 + 1, 1, none⟩ (.slice A6 n6 c6)) (g0 + 1) 31 #[.int .i64 room, .slice A6 n6 c6]) := (C6.set_ 0 (.int .i64 room)).set_ 1 (.slice A6 n6 c6)
         have n6e : n6 = 0 + r + (L - (r + 1)) := by
           rcases hown6.2 with ⟨e, h0⟩ | ⟨_, _, _, e, _⟩
           · injection e with _ e _; exact e.trans h0.symm
           · injection e
         have F6 : Hid (Rt ((w6.setCell ⟨g0 + 1, 0, none⟩ (.int .i64 room)).setCell ⟨g0 + 1, 1, none⟩ (.slice A6 n6 c6)) (fun b => S b ∨ g0 ≤ b) room (l.take r ++ l.drop (r + 1)) (.agg #[.int .i64 room, .slice A6 n6 c6]) ∧
             Only none_ w ((w6.setCell ⟨g0 + 1, 0, none⟩ (.int .i64 room)).setCell ⟨g0 + 1, 1, none⟩ (.slice A6 n6 c6))) := by
           have o7 : Only (one (g0 + 1)) w6 ((w6.setCell ⟨g0 + 1, 0, none⟩ (.int .i64 room)).setCell ⟨g0 + 1, 1, none⟩ (.slice A6 n6 c6)) := ((Only.refl (one (g0 + 1)) w6).setCell (p := ⟨g0 + 1, 0, none⟩) (.inl (show one (g0 + 1) (g0 + 1) from rfl)) _).setCell (p := ⟨g0 + 1, 1, none⟩) (.inl (show one (g0 + 1) (g0 + 1) from rfl)) _
           refine ⟨⟨A6, c6, by rw [HFL.out.2, ← n6e], ?_⟩, O6.out.trans' o7 (fun k hk e => by have e' : k = g0 + 1 := e; have := HG.out; omega)⟩
           rw [HFL.out.1, HFL.out.2]
           have h8 := (Cel.of_own hown6).only o7 (fun b hb e => own_blk_ne hown6 C6 (by decide) (by rw [hb, show b = g0 + 1 from e]))
           rw [n6e] at h8 ⊢
           exact h8.mono (fun b _ hb => .inr (by have := (hown6.lt b (by rw [n6e]; exact hb)).1; have := HG.out; omega))
         clear hown6 hgrow6 hmv6 o56 C6 B6 n6e))
    all_goals go_wp2_with fail
    all_goals (try dsimp only [Act.put, List.getElem_toArray, List.getElem_cons_succ, List.getElem_cons_zero])
    all_goals (try go_simp)
    all_goals (refine bodyPost_ret (results_cell_tmp rfl _ _ (g0 + 1) 31 _ _ rfl D6.out Try.underlying31 rfl (by kernel_rfl) _ rfl) rfl ?_; exact ⟨_, rfl, F6.out.1, F6.out.2⟩)
  · have hs' : has l x = false := by simpa using hs
    have hf : fndL l x = -1 := by rw [fndL, if_neg hs]
    have hd : dropL l x = l := by rw [dropL, if_neg hs]
    rw [hf] at hFD
    rw [hs', hd]
    have HFD := Lib.hid hFD
    clear h hr hFD hs hs' hf hd
    go_enter Try.func30, Try.ntmps30
    go_wp2_with (first
      | (go_at_call 53; refine (HFD.out _ O.out).mono ?_; rintro E w3 ⟨rfl, o3⟩
         have B3 := Lib.hid ((B.out.alloc (.cells #[.int .i64 0, .slice none 0 0] 31)).only o3 (fun h => h))
         have C3 := C.out.only o3 (fun h => h)
         rw [World.size_alloc] at C3
         have b0 := B3.out.cell_ (i := 0) rfl
         have b1 := B3.out.cell_ (i := 1) rfl
         have c0 := C3.cell_ (i := 0) rfl
         have f0 := C3.frozen 0
         have c1 := (C3.set_ 0 (.int .i64 room)).cell_ (i := 1) rfl
         have f1 := (C3.set_ 0 (.int .i64 room)).frozen 1
         have O3 := Lib.hid (O.out.trans o3)
         have D3 := Lib.hid ((C3.set_ 0 (.int .i64 room)).set_ 1 (.slice A L c))
         clear o3 C3))
    have o5 : Only none_ w ((w3.setCell ⟨w.heap.size + 1, 0, none⟩ (.int .i64 room)).setCell ⟨w.heap.size + 1, 1, none⟩ (.slice A L c)) := (O3.out.setCell (p := ⟨w.heap.size + 1, 0, none⟩) (.inr (by show w.heap.size ≤ w.heap.size + 1; omega)) _).setCell (p := ⟨w.heap.size + 1, 1, none⟩) (.inr (by show w.heap.size ≤ w.heap.size + 1; omega)) _
    refine bodyPost_ret (results_cell_tmp rfl _ _ (w.heap.size + 1) 31 _ _ rfl D3.out Try.underlying31 rfl (by kernel_rfl) _ rfl) rfl ?_
    obtain ⟨A', c', e, hc⟩ := HRT.out _ o5
    exact ⟨_, rfl, ⟨A', c', e, hc.mono (fun b _ h => .inl h)⟩, o5⟩
end Go.Proofs.Ytdmopjnmfjmhkaa
