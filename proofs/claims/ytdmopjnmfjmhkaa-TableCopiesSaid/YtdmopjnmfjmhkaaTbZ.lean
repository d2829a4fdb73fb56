/- The call of TableCopies. The statement itself is proved in another text. -/
import Derived.Test.YtdmopjnmfjmhkaaTbOd
import Derived.Test.YtdmopjnmfjmhkaaTbP
import Derived.Test.YtdmopjnmfjmhkaaTbY
import Derived.Deep.RegionHeld3
namespace Go.Proofs.Ytdmopjnmfjmhkaa
open Go.RowKit
set_option maxRecDepth 100000
set_option linter.all false

/-- Two tables that share no block, each beside the document's one in a box; no list of the document's lies in either. -/
structure Ty (W : World) (g1 g2 h1 h2 : Nat) (s t : List (Pr Int)) (v1 v2 : Value) (A1 : Option Addr) (c1 : Nat) (A2 : Option Addr) (c2 : Nat) (w : World) : Prop where
  a : Tb W g1 20 s v1 w
  b : Tb W g2 20 t v2 w
  ne : ∀ k, foot g1 v1 k → ¬ foot g2 v2 k
  bm : Blk w h1 31 #[.int .i64 20, .slice A1 s.length c1]
  bn : Blk w h2 31 #[.int .i64 20, .slice A2 t.length c2]
  hne : h1 ≠ h2
  ge1 : W.heap.size ≤ h1
  ge2 : W.heap.size ≤ h2
  rm : Cel w (fun b => ¬ foot g1 v1 b ∧ ¬ (foot g2 v2 b ∨ b = h1 ∨ b = h2)) (.slice A1 s.length c1) s.length 2 (s.flatMap prI)
  rn : Cel w (fun b => ¬ foot g2 v2 b ∧ ¬ (foot g1 v1 b ∨ b = h2 ∨ b = h1)) (.slice A2 t.length c2) t.length 2 (t.flatMap prI)
section
variable {W w w' : World} {g1 g2 h1 h2 : Nat} {s t s' : List (Pr Int)} {v1 v2 : Value} {A1 A2 : Option Addr} {c1 c2 : Nat}
theorem Ty.swap (k : Ty W g1 g2 h1 h2 s t v1 v2 A1 c1 A2 c2 w) : Ty W g2 g1 h2 h1 t s v2 v1 A2 c2 A1 c1 w :=
  ⟨k.b, k.a, fun b h h' => k.ne b h' h, k.bn, k.bm, fun e => k.hne e.symm, k.ge2, k.ge1, k.rn, k.rm⟩
theorem Ty.keep (k : Ty W g1 g2 h1 h2 s t v1 v2 A1 c1 A2 c2 w) (o : Only none_ w w') : Ty W g1 g2 h1 h2 s t v1 v2 A1 c1 A2 c2 w' :=
  ⟨k.a.keep o, k.b.keep o, k.ne, k.bm.only o (fun h => h), k.bn.only o (fun h => h), k.hne, k.ge1, k.ge2, k.rm.only o (fun _ _ h => h), k.rn.only o (fun _ _ h => h)⟩
theorem Ty.dlt (k : Ty W g1 g2 h1 h2 s t v1 v2 A1 c1 A2 c2 w) : ∀ b, (foot g2 v2 b ∨ b = h1 ∨ b = h2) → b < w.heap.size := by
  rintro b (h | rfl | rfl)
  · exact (k.b.foot_ge h).2
  · exact k.bm.lt
  · exact k.bn.lt
theorem Ty.rt (k : Ty W g1 g2 h1 h2 s t v1 v2 A1 c1 A2 c2 w) : Rt w (fun b => ¬ foot g1 v1 b ∧ ¬ (foot g2 v2 b ∨ b = h1 ∨ b = h2)) 20 s (.agg #[.int .i64 20, .slice A1 s.length c1]) := ⟨A1, c1, rfl, k.rm⟩
theorem Ty.rt1 (k : Ty W g1 g2 h1 h2 s t v1 v2 A1 c1 A2 c2 w) : Rt w (fun b => ¬ foot g1 v1 b) 20 s (.agg #[.int .i64 20, .slice A1 s.length c1]) := ⟨A1, c1, rfl, k.rm.mono (fun b _ h => h.1)⟩
theorem Ty.act {e : Ending} (k : Ty W g1 g2 h1 h2 s t v1 v2 A1 c1 A2 c2 w) (h : Dg.DoR (fun b => foot g2 v2 b ∨ b = h1 ∨ b = h2) W w g1 20 v1 s' e w') :
    ∃ A' c' v', e = .returned (.tuple #[.agg #[.int .i64 20, .slice A' s'.length c'], .bool true]) ∧ Only (foot g1 v1) w w' ∧ Blk w' h1 31 #[.int .i64 20, .slice A1 s.length c1] ∧ Ty W g1 g2 h1 h2 s' t v' v2 A' c' A2 c2 (w'.setRow h1 #[.int .i64 20, .slice A' s'.length c']) := by
  obtain ⟨m', v', rfl, t', ⟨A', c', rfl, hc'⟩, o, mv⟩ := h
  have fm : ∀ b, foot g1 v' b → foot g1 v1 b ∨ w.heap.size ≤ b := by
    rintro b (hb | hb)
    · exact .inl (.inl hb)
    · rcases mv b hb with e | e
      · exact .inl (.inr e)
      · exact .inr e
  have o7 : Only (one h1) w' (w'.setRow h1 #[.int .i64 20, .slice A' s'.length c']) := only_row h1 _
  have bm' := k.bm.only o (k.a.off k.bm (by decide) (by decide))
  have bn' := k.bn.only o (k.a.off k.bn (by decide) (by decide))
  have b' : Tb W g2 20 t v2 w' := k.b.apart o (fun b hb h => k.ne b h hb) (fun b hb => (k.a.foot_ge hb).1)
  refine ⟨A', c', v', rfl, o, bm', ?_, ?_, ?_, Blk.setRow (t := 31) bm' _, bn'.only o7 (fun e => k.hne (show h2 = h1 from e).symm), k.hne, k.ge1, k.ge2, ?_, ?_⟩
  · exact t'.apart o7 (fun b hb e => t'.off bm' (by decide) (by decide) (by have e' : b = h1 := e; rwa [e'] at hb)) (fun b e => by have e' : b = h1 := e; rw [e']; exact k.ge1)
  · exact b'.apart o7 (fun b hb e => b'.off bm' (by decide) (by decide) (by have e' : b = h1 := e; rwa [e'] at hb)) (fun b e => by have e' : b = h1 := e; rw [e']; exact k.ge1)
  · intro b hb hf
    rcases fm b hb with h | h
    · exact k.ne b h hf
    · have := (k.b.foot_ge hf).2; omega
  · exact hc'.only o7 (fun b hb e => hb.2 (.inr (.inl e)))
  · refine (((k.rn.mono (T := fun b => (¬ foot g2 v2 b ∧ ¬ (foot g1 v1 b ∨ b = h2 ∨ b = h1)) ∧ b < w.heap.size) (fun b hlt h => ⟨h, hlt⟩)).only o (fun b h hf => h.1.2 (.inl hf))).only o7 (fun b h e => h.1.2 (.inr (.inr e)))).mono (fun b _ h => ⟨h.1.1, ?_⟩)
    rintro (hf | hf)
    · rcases fm b hf with e | e
      · exact h.1.2 (.inl e)
      · have := h.2; omega
    · exact h.1.2 (.inr hf)
abbrev Ty4 (w : World) (h1 h2 : Nat) (L1 L2 : Nat) (A1 : Option Addr) (c1 : Nat) (A2 : Option Addr) (c2 : Nat) : Prop :=
  (w.cell? ⟨h1, 0, none⟩ = some (.int .i64 20) ∧ w.cell? ⟨h1, 1, none⟩ = some (.slice A1 L1 c1)) ∧ w.cell? ⟨h2, 0, none⟩ = some (.int .i64 20) ∧ w.cell? ⟨h2, 1, none⟩ = some (.slice A2 L2 c2)
theorem Ty.cells (k : Ty W g1 g2 h1 h2 s t v1 v2 A1 c1 A2 c2 w) : Ty4 w h1 h2 s.length t.length A1 c1 A2 c2 :=
  ⟨⟨k.bm.cell_ (i := 0) rfl, k.bm.cell_ (i := 1) rfl⟩, k.bn.cell_ (i := 0) rfl, k.bn.cell_ (i := 1) rfl⟩
end

set_option maxHeartbeats 51200000 in
theorem tc_yes (A0 A1 : Option Addr) (c0 c1 : Nat) (l l2 : List Ta) (W : World) (hx : Cel W (fun b => b < W.heap.size) (.slice A0 l.length c0) l.length 5 (l.flatMap taRow)) (hx2 : Cel W (fun b => b < W.heap.size) (.slice A1 l2.length c1) l2.length 5 (l2.flatMap taRow)) (hl : (l.all taShort && decide (l.length ≤ 60)) = true) (hl2 : (l2.all taShort && decide (l2.length ≤ 60)) = true) :
    Calls Try.prog 3 #[.slice A0 l.length c0, .slice A1 l2.length c1] W fun e w' => e = .returned (.bool true) ∧ Below W.heap.size W w' := by
  have CX := Lib.hid (fun (w' : World) (o : Only none_ W w') => hx.only o (fun _ _ h => h))
  have CX2 := Lib.hid (fun (w' : World) (o : Only none_ W w') => hx2.only o (fun _ _ h => h))
  have FL := Lib.hid hl
  have FL2 := Lib.hid hl2
  have hl60 : l.length ≤ 60 := by simp only [Bool.and_eq_true, decide_eq_true_eq] at hl; exact hl.2
  have hm60 : l2.length ≤ 60 := by simp only [Bool.and_eq_true, decide_eq_true_eq] at hl2; exact hl2.2
  obtain ⟨N, hN⟩ : ∃ N, N = l.length := ⟨_, rfl⟩
  obtain ⟨M, hM⟩ : ∃ M, M = l2.length := ⟨_, rfl⟩
  rw [← hN] at hx hl60 CX ⊢
  rw [← hM] at hx2 hm60 CX2 ⊢
  have HX : Hid (0 < N → ∃ b off, A0 = some ⟨b, off, none⟩ ∧ b < W.heap.size ∧ b < W.heap.size ∧ ∀ j u, (l.flatMap taRow)[j]? = some u → W.cell? ⟨b, off + j, none⟩ = some u) := by obtain ⟨_, _, e, _, _, _, _, h4⟩ := hx; injection e with e1; subst e1; exact h4
  have HX2 : Hid (0 < M → ∃ b off, A1 = some ⟨b, off, none⟩ ∧ b < W.heap.size ∧ b < W.heap.size ∧ ∀ j u, (l2.flatMap taRow)[j]? = some u → W.cell? ⟨b, off + j, none⟩ = some u) := by obtain ⟨_, _, e, _, _, _, _, h4⟩ := hx2; injection e with e1; subst e1; exact h4
  have HN := Lib.hid hN
  have HM := Lib.hid hM
  have tokF : True := trivial
  clear hx hl hN hx2 hl2 hM
  go_enter Try.func3, Try.ntmps3
  go_wp2_with (first
    | (go_at_call 6; refine (t_speaks _).mono ?_; rintro e w1 ⟨rfl, o1⟩; have O1 := Lib.hid o1; clear o1)
    | (go_at_call 7; have _t := tokF; clear tokF; refine (t_few _ l _ _ (by rw [← HN.out]; exact CX.out _ O1.out)).mono ?_; rw [FL.out]; rintro e w2 ⟨rfl, o2⟩; have O2 := Lib.hid (O1.out.trans o2); clear o2)
    | (go_at_call 7; refine (t_few _ l2 _ _ (by rw [← HM.out]; exact CX2.out _ O2.out)).mono ?_; rw [FL2.out]; rintro e w2b ⟨rfl, o2b⟩; have O2b := Lib.hid (O2.out.trans o2b); clear o2b)
    | (go_at_call 8; refine (tb_new_yes W 20 _ O2b.out (by omega) (by omega)).mono ?_; rintro e w3 ⟨g, rfl, hg3, t3, o3⟩; have T3 := Lib.hid t3; clear t3 o3 hg3)
    | (go_at_call 9; refine (rf_new_yes 20 _ (by omega) (by omega)).mono ?_; rintro e w4 ⟨rfl, o4⟩
       have HG7 := Lib.hid ((T3.out.keep o4).ho.size)
       have T4 := Lib.hid (T3.out.keep (o4.alloc (.cells #[.int .i64 20, .slice none 0 0] 31)))
       have B4 := Lib.hid (Blk.new w4 31 #[.int .i64 20, .slice none 0 0])
       clear o4))
  generalize w4.alloc (.cells #[.int .i64 20, .slice none 0 0] 31) = w5 at *
  generalize w4.heap.size = h7 at *
  clear O1 O2 O2b T3
  go_loopw [45] (fun i wr => ∃ (k : Nat) (t : List (Pr Int)) (v : Value) (A : Option Addr) (L c : Nat), k ≤ N ∧ i = .int .i64 (k : Int) ∧ L = t.length ∧ Tb W g 20 t v wr ∧ Blk wr h7 31 #[.int .i64 20, .slice A L c] ∧ Cel wr (fun b => ¬ foot g v b ∧ b ≠ h7) (.slice A L c) L 2 (t.flatMap prI)) (fun i _ => N - (intOf i).toNat)
  case atStart => exact ⟨0, [], .slice none 0 0, none, 0, 0, Nat.zero_le _, rfl, rfl, T4.out, B4.out, Cel.nil _ _ _⟩
  case round =>
    clear T4 B4
    obtain ⟨k, t, v, A, L, c, hk, rfl, hL, ht, hb7, hr⟩ := hrel
    by_cases hlt : k < N
    · obtain ⟨b, off, rfl, hb, _, hc⟩ := HX.out (by omega)
      obtain ⟨a, ha⟩ : ∃ a, l[k]? = some a := ⟨l[k]'(by have := HN.out; omega), List.getElem?_eq_getElem _⟩
      have q := ta_at hc ht.ho hb ha
      have Y0 : Hid (Py W g 20 t v h7 wr.heap.size #[.int .i64 20, .slice A L c] a (wr.alloc (.cells #[.int .i64 a.kind, .int .i64 a.v, .string a.key, .string a.fr, .int .i64 a.n] 35))) := ⟨ht.keep ((Only.refl none_ wr).alloc _), hb7.alloc _, Blk.new wr _ _⟩
      have M0 : Hid (Rt (wr.alloc (.cells #[.int .i64 a.kind, .int .i64 a.v, .string a.key, .string a.fr, .int .i64 a.n] 35)) (fun b => ¬ foot g v b ∧ b ≠ h7) 20 t (.agg #[.int .i64 20, .slice A L c])) := ⟨A, c, by rw [hL], by rw [← hL]; exact hr.alloc _⟩
      have y0 := Y0.out.cells
      obtain ⟨t', ht'⟩ : ∃ t', taDo 20 t a = t' := ⟨_, rfl⟩
      have HDO := Lib.hid (t_do W (wr.alloc (.cells #[.int .i64 a.kind, .int .i64 a.v, .string a.key, .string a.fr, .int .i64 a.n] 35)) g 20 t v _ a h7 (by rw [World.size_alloc]; have := hb7.lt; omega) Y0.out.t M0.out)
      rw [ht'] at HDO
      clear ha hc ht hb7 hr hL ht' M0
      go_wp2_with (first
        | (go_at_call 10; refine HDO.out.mono ?_; rintro E w6 ⟨m6, v6, rfl, t6, ⟨A6, c6, rfl, hc6⟩, o6⟩
           have B7 := Lib.hid (Y0.out.b7.only o6 (Y0.out.t.off Y0.out.b7 (by decide) (by decide)))
           obtain ⟨L6, hL6⟩ : ∃ L6, t'.length = L6 := ⟨_, rfl⟩
           rw [hL6] at hc6 ⊢
           have HL6 := Lib.hid hL6
           have T6 := Lib.hid t6
           have C6 := Lib.hid hc6
           clear hL6 t6 hc6 o6 y0 q)
        | (refine wpList_store_row rfl 31 _ _ rfl h7 #[.int .i64 20, .slice A6 L6 c6] rfl rfl 31 _ B7.out (by kernel_rfl) rfl (by simp [Value.oneCell']) ?_
           have o7 : Only (one h7) w6 (w6.setRow h7 #[.int .i64 20, .slice A6 L6 c6]) := only_row h7 _
           have hnf := T6.out.off B7.out (by decide) (by decide)
           have T7 := Lib.hid (T6.out.apart o7 (fun k hk e => hnf (by have e' : k = h7 := e; rwa [e'] at hk)) (fun k e => by have e' : k = h7 := e; have := HG7.out; omega))
           have R7 := Lib.hid (Blk.setRow (t := 31) B7.out #[.int .i64 20, .slice A6 L6 c6])
           have C7 := Lib.hid (C6.out.only o7 (fun b hb e => hb.2 e))
           clear o7 hnf))
      go_roundw
      case rel => exact ⟨k + 1, t', v6, A6, L6, c6, by omega, by go_num, HL6.out.symm, T7.out, R7.out, C7.out⟩
      case measure => simp [intOf]; omega
    · obtain rfl : N = k := by omega
      have HT := Lib.hid ht
      have HB := Lib.hid hb7
      have HC := Lib.hid (Cel.mono hr (fun b _ h => h))
      have HL := Lib.hid hL
      have HCP := Lib.hid (fun (w' : World) (o : Only none_ wr w') => tb_copy W g 20 t v w' (ht.keep o))
      clear hr hb7 ht hL
      go_wp2_with fail
      have p0 := HB.out.cell_ (i := 0) rfl
      have p1 := HB.out.cell_ (i := 1) rfl
      have q0 := (HB.out.alloc (.cells #[.int .i64 0, .slice none 0 0] 31)).cell_ (i := 0) rfl
      have q1 := (HB.out.alloc (.cells #[.int .i64 0, .slice none 0 0] 31)).cell_ (i := 1) rfl
      have LF := Lib.hid (fun (w9 : World) (gc hn : Nat) (vc : Value) (zs : Array Value) (hz : zs.size = 2) (z9 : Blk w9 hn 31 zs) (hnr : wr.heap.size ≤ hn) (hgc : wr.heap.size ≤ gc) (o9 : Only none_ wr w9) (b9 : Blk w9 gc 80 #[.int .i64 20, vc]) (ow9 : w9.ownsRow wr.heap.size 78 2 vc t.length (t.flatMap prI)) =>
        (show wr.heap.size ≤ gc ∧ wr.heap.size ≤ hn ∧ Blk ((w9.setCell ⟨hn, 0, none⟩ (.int .i64 20)).setCell ⟨hn, 1, none⟩ (.slice A L c)) hn 31 #[.int .i64 20, .slice A L c] ∧ Blk ((w9.setCell ⟨hn, 0, none⟩ (.int .i64 20)).setCell ⟨hn, 1, none⟩ (.slice A L c)) gc 80 #[.int .i64 20, vc] ∧ ((w9.setCell ⟨hn, 0, none⟩ (.int .i64 20)).setCell ⟨hn, 1, none⟩ (.slice A L c)).ownsRow wr.heap.size 78 2 vc t.length (t.flatMap prI) ∧ Only none_ wr ((w9.setCell ⟨hn, 0, none⟩ (.int .i64 20)).setCell ⟨hn, 1, none⟩ (.slice A L c)) from by
          have o7 : Only (one hn) w9 ((w9.setCell ⟨hn, 0, none⟩ (.int .i64 20)).setCell ⟨hn, 1, none⟩ (.slice A L c)) := ((Only.refl (one hn) w9).setCell (p := ⟨hn, 0, none⟩) (.inl (show one hn hn from rfl)) _).setCell (p := ⟨hn, 1, none⟩) (.inl (show one hn hn from rfl)) _
          have e9 : (zs.setIfInBounds 0 (.int .i64 20)).setIfInBounds 1 (.slice A L c) = #[.int .i64 20, .slice A L c] := by
            obtain ⟨zl⟩ := zs
            match zl, hz with
            | [_, _], _ => rfl
          refine ⟨hgc, hnr, ?_, b9.only o7 (fun e => Blk.ne_ b9 z9 (by decide) e), owns_only ow9 o7 (fun k hk e => own_blk_ne ow9 z9 (by decide) (by rw [hk, show k = hn from e])), o9.trans' o7 (fun k hk e => by have e' : k = hn := e; omega)⟩
          have := (z9.set_ 0 (.int .i64 20)).set_ 1 (.slice A L c)
          rwa [e9] at this))
      refine wp_mono (Q := fun e a w => match e with | .normal => (∃ gc hn, a = ({ tmps := #[.slice A0 N c0, .slice A1 M c1, undef, undef, .bool false, .pointer (some ⟨g, 0, none⟩), .int .i64 0, .pointer (some ⟨h7, 0, none⟩), .int .i64 0, undef, u10, .pointer (some ⟨gc, 0, none⟩), .pointer (some ⟨hn, 0, none⟩), undef, undef, undef, .bool true, .bool false, .bool false, .slice A0 N c0, .bool true, .bool false, .bool false, .bool false, .slice A1 M c1, .bool true, .bool false, .bool false, undef, .tuple #[.pointer (some ⟨g, 0, none⟩), .int .i64 0], .tuple #[.pointer (some ⟨g, 0, none⟩), .int .i64 0], .pointer (some ⟨g, 0, none⟩), .int .i64 0, .tuple #[.agg #[.int .i64 20, .slice none 0 0], .int .i64 0], .tuple #[.agg #[.int .i64 20, .slice none 0 0], .int .i64 0], .agg #[.int .i64 20, .slice none 0 0], .int .i64 0, .int .i64 0, .bool false, .bool false, .pointer (some ⟨g, 0, none⟩), .bool false, .bool false, .slice A0 N c0, .int .i64 (N : Int), .int .i64 (N : Int), .bool false, u47, u48, u49, u50, u51, u52, u53, u54, u55, u56, .pointer (some ⟨g, 0, none⟩), .pointer (some ⟨gc, 0, none⟩), .agg #[.int .i64 20, .slice A L c], undef, undef, undef, undef, undef, undef, undef, undef, undef, undef, undef, undef, undef, undef, undef, undef, undef, undef, undef, undef, undef, undef, undef, undef, undef, undef, undef, undef, undef, undef, undef, undef, undef, undef, undef, undef, undef, undef, undef, undef, undef, undef, undef, undef, undef, undef, undef], defers := [] } : Act) ∧ wr.heap.size ≤ gc ∧ wr.heap.size ≤ hn ∧ Blk w hn 31 #[.int .i64 20, .slice A L c] ∧ ∃ vc, Blk w gc 80 #[.int .i64 20, vc] ∧ w.ownsRow wr.heap.size 78 2 vc t.length (t.flatMap prI) ∧ Only none_ wr w) | _ => False) ?_ ?_
      · go_region_law (first
          | (refine step_call (by simp [Region.wanted]) 11 #[.pointer (some ⟨g, 0, none⟩)] (by go_simp; try (with_reducible rfl)) ?_
             refine (HCP.out wr.drew (Only.refl none_ wr).drew).mono ?_
             rintro E w8 ⟨gc, vc, rfl, hgc, bc8, ow8, o8⟩
             refine ⟨_, rfl, ?_⟩
             have o8' : Only none_ wr w8 := ((Only.refl none_ wr).drew).trans o8
             have s0 := (HB.out.only o8' (fun h => h)).cell_ (i := 0) rfl
             have s1 := (HB.out.only o8' (fun h => h)).cell_ (i := 1) rfl
             have t0 := ((HB.out.only o8' (fun h => h)).alloc (.cells #[.int .i64 0, .slice none 0 0] 31)).cell_ (i := 0) rfl
             have t1 := ((HB.out.only o8' (fun h => h)).alloc (.cells #[.int .i64 0, .slice none 0 0] 31)).cell_ (i := 1) rfl
             have Z8 := Lib.hid (Blk.new w8 31 #[.int .i64 0, .slice none 0 0])
             have z0 := Z8.out.cell_ (i := 0) rfl
             have f0 := Z8.out.frozen 0
             have z1 := (Z8.out.set_ 0 (.int .i64 20)).cell_ (i := 1) rfl
             have f1 := (Z8.out.set_ 0 (.int .i64 20)).frozen 1
             have F8 : Hid (wr.heap.size ≤ gc ∧ wr.heap.size ≤ w8.heap.size ∧ Blk (w8.alloc (.cells #[.int .i64 20, .slice A L c] 31)) w8.heap.size 31 #[.int .i64 20, .slice A L c] ∧ Blk (w8.alloc (.cells #[.int .i64 20, .slice A L c] 31)) gc 80 #[.int .i64 20, vc] ∧ (w8.alloc (.cells #[.int .i64 20, .slice A L c] 31)).ownsRow wr.heap.size 78 2 vc t.length (t.flatMap prI) ∧ Only none_ wr (w8.alloc (.cells #[.int .i64 20, .slice A L c] 31))) := ⟨hgc, o8'.size, Blk.new _ _ _, bc8.alloc _, owns_only (owns_base ow8 (Nat.le_refl _)) ((Only.refl none_ w8).alloc (.cells #[.int .i64 20, .slice A L c] 31)) (fun _ _ h => h), o8'.alloc _⟩
             clear o8 o8' bc8 ow8 hgc)
          | (refine step_call (by simp [Region.wanted]) 11 #[.pointer (some ⟨g, 0, none⟩)] (by go_simp; try (with_reducible rfl)) ?_
             refine (HCP.out (wr.drew.alloc (.cells #[.int .i64 0, .slice none 0 0] 31)) (((Only.refl none_ wr).drew).alloc _)).mono ?_
             rintro E w8 ⟨gc, vc, rfl, hgc, bc8, ow8, o8⟩
             refine ⟨_, rfl, ?_⟩
             have o8' : Only none_ wr w8 := (((Only.refl none_ wr).drew).alloc (.cells #[.int .i64 0, .slice none 0 0] 31)).trans o8
             have s0 := (HB.out.only o8' (fun h => h)).cell_ (i := 0) rfl
             have s1 := (HB.out.only o8' (fun h => h)).cell_ (i := 1) rfl
             have Z8 : Hid (Blk w8 wr.heap.size 31 #[.int .i64 0, .slice none 0 0]) := ((Blk.new wr.drew 31 #[.int .i64 0, .slice none 0 0]).only o8 (fun h => h))
             have z0 := Z8.out.cell_ (i := 0) rfl
             have f0 := Z8.out.frozen 0
             have z1 := (Z8.out.set_ 0 (.int .i64 20)).cell_ (i := 1) rfl
             have f1 := (Z8.out.set_ 0 (.int .i64 20)).frozen 1
             have F8 := Lib.hid (LF.out _ gc wr.heap.size vc #[.int .i64 0, .slice none 0 0] rfl Z8.out (Nat.le_refl _) (by have := hgc; simp only [World.size_alloc] at this; have e : wr.drew.heap.size = wr.heap.size := rfl; omega) o8' bc8 (owns_base ow8 (by simp only [World.size_alloc]; have e : wr.drew.heap.size = wr.heap.size := rfl; omega)))
             clear o8 o8' bc8 ow8 hgc))
        all_goals exact ⟨_, _, rfl, F8.out.1, F8.out.2.1, F8.out.2.2.1, _, F8.out.2.2.2⟩
      rintro e a w10 h10
      cases e
      case normal =>
        obtain ⟨gc, hn, rfl, hgc, hhn, bn, vc, bc, ow, o10⟩ := h10
        have hs : L = t.length := HL.out
        subst hs
        have hwr := HT.out.ho.size
        have Y10 : Hid (Ty W g gc h7 hn t t v vc A c A c w10) := by
          have hlt : ∀ b, foot g v b → b < wr.heap.size := fun b hb => (HT.out.foot_ge hb).2
          have hcge : ∀ b, foot gc vc b → wr.heap.size ≤ b := by
            rintro b (hb | hb)
            · rw [hb]; exact hgc
            · exact (ow.lt b hb).1
          have hb7 := HB.out.lt
          refine ⟨HT.out.keep o10, ⟨bc, owns_base ow hwr, HT.out.ho.trans o10, by omega, HT.out.rs, HT.out.lr, HT.out.rm⟩, fun b h1 h2 => by have := hlt b h1; have := hcge b h2; omega, HB.out.only o10 (fun h => h), bn, by omega, HG7.out, by omega, ?_, ?_⟩
          · exact (((Cel.mono HC.out (T := fun b => (¬ foot g v b ∧ b ≠ h7) ∧ b < wr.heap.size) (fun b hb h => ⟨h, hb⟩)).only o10 (fun _ _ h => h))).mono (fun b _ h => ⟨h.1.1, by rintro (e | e | e); (have := hcge b e; have := h.2; omega); exact h.1.2 e; (have := h.2; omega)⟩)
          · exact (((Cel.mono HC.out (T := fun b => (¬ foot g v b ∧ b ≠ h7) ∧ b < wr.heap.size) (fun b hb h => ⟨h, hb⟩)).only o10 (fun _ _ h => h))).mono (fun b _ h => ⟨fun e => by have := hcge b e; have := h.2; omega, by rintro (e | e | e); exact h.1.1 e; (have := h.2; omega); exact h.1.2 e⟩)
        have p0 := Y10.out.bm.cell_ (i := 0) rfl
        have p1 := Y10.out.bm.cell_ (i := 1) rfl
        clear HT HB HC HCP hgc hhn bn bc ow o10 hwr HL
        go_wp2_with (first
          | (go_at_call 12; refine (t_is W gc 20 t vc _ _ Y10.out.b ⟨A, c, rfl, Y10.out.rm.mono (fun b _ h => fun e => h.2 (.inl e))⟩).mono ?_; rintro E w11 ⟨rfl, o11⟩; have Y11 := Lib.hid (Y10.out.keep o11); clear o11 p0 p1 Y10))
        go_loopw [70] (fun i wr => ∃ (k : Nat) (tm tn : List (Pr Int)) (vm vn : Value) (Am : Option Addr) (cm : Nat) (An : Option Addr) (cn : Nat), k ≤ M ∧ i = .int .i64 (k : Int) ∧ Ty W g gc h7 hn tm tn vm vn Am cm An cn wr) (fun i _ => M - (intOf i).toNat)
        case atStart => exact ⟨0, _, _, _, _, _, _, _, _, Nat.zero_le _, rfl, Y11.out⟩
        case round =>
          clear Y11
          obtain ⟨k, tm, tn, vm, vn, Am, cm, An, cn, hk, rfl, hy⟩ := hrel
          by_cases hlt : k < M
          · obtain ⟨b, off, rfl, hb, _, hc⟩ := HX2.out (by omega)
            obtain ⟨a, ha⟩ : ∃ a, l2[k]? = some a := ⟨l2[k]'(by have := HM.out; omega), List.getElem?_eq_getElem _⟩
            have q := ta_at hc hy.a.ho hb ha
            have Y0 := Lib.hid (hy.keep ((Only.refl none_ wr).alloc (.cells #[.int .i64 a.kind, .int .i64 a.v, .string a.key, .string a.fr, .int .i64 a.n] 35)))
            have y0 := Y0.out.cells
            have b0 := Blk.new wr 35 #[.int .i64 a.kind, .int .i64 a.v, .string a.key, .string a.fr, .int .i64 a.n]
            have d0 := b0.cell_ (i := 0) rfl
            have d1 := b0.cell_ (i := 1) rfl
            have d2 := b0.cell_ (i := 2) rfl
            have d3 := b0.cell_ (i := 3) rfl
            have d4 := b0.cell_ (i := 4) rfl
            clear ha hc hy b0
            go_wp2_with fail
            · obtain ⟨t', ht'⟩ : ∃ t', taDo 20 tn a = t' := ⟨_, rfl⟩
              have HDO := Dg.t_do W (wr.alloc (.cells #[.int .i64 a.kind, .int .i64 a.v, .string a.key, .string a.fr, .int .i64 a.n] 35)) gc 20 tn vn _ a _ Y0.out.swap.dlt Y0.out.swap.a Y0.out.swap.rt
              rw [ht'] at HDO
              refine HDO.mono ?_
              clear ht' HDO
              rintro E w6 h6
              obtain ⟨A6, c6, v6, rfl, _, b6, y6⟩ := Y0.out.swap.act h6
              have B6 := Lib.hid b6
              have Y6 := Lib.hid y6.swap
              clear b6 y6 h6 y0
              clear HX HX2 CX CX2 FL FL2 HG7 HN HM q d0 d1 d2 d3 d4 Y0
              obtain ⟨L6, hL6⟩ : ∃ L6, t'.length = L6 := ⟨_, rfl⟩
              obtain ⟨Lm, hLm⟩ : ∃ Lm, tm.length = Lm := ⟨_, rfl⟩
              have HL6 := Lib.hid hL6
              have HLm := Lib.hid hLm
              rw [hL6] at Y6 ⊢
              clear hL6 hLm
              go_wp2_with (first
                | (refine wpList_store_row rfl 31 _ _ rfl hn #[.int .i64 20, .slice A6 L6 c6] rfl rfl 31 _ B6.out (by kernel_rfl) rfl (by simp [Value.oneCell']) ?_
                   have Y7 := Y6
                   clear Y6 B6
                   generalize w6.setRow hn #[.int .i64 20, .slice A6 L6 c6] = w7 at *
                   have y7 := Y7.out.cells
                   rw [HL6.out, HLm.out] at y7)
                | (go_at_call 12; refine (t_is W gc 20 t' _ (.agg #[.int .i64 20, .slice A6 L6 c6]) _ Y7.out.b (by rw [← HL6.out]; exact Y7.out.swap.rt1)).mono ?_; rintro E w8 ⟨rfl, o8⟩; have Y8 := Lib.hid (Y7.out.keep o8); have y8 := Y8.out.cells; rw [HL6.out, HLm.out] at y8; clear o8 y7 Y7)
                | (go_at_call 12; refine (t_is W g 20 tm _ (.agg #[.int .i64 20, .slice Am Lm cm]) _ Y8.out.a (by rw [← HLm.out]; exact Y8.out.rt1)).mono ?_; rintro E w9 ⟨rfl, o9⟩; have Y9 := Lib.hid (Y8.out.keep o9); clear o9 y8 Y8))
              go_roundw
              case rel => exact ⟨k + 1, tm, t', vm, v6, Am, cm, A6, c6, by omega, by go_num, Y9.out⟩
              case measure => simp [intOf]; omega
            · obtain ⟨t', ht'⟩ : ∃ t', taDo 20 tm a = t' := ⟨_, rfl⟩
              have HDO := Dg.t_do W (wr.alloc (.cells #[.int .i64 a.kind, .int .i64 a.v, .string a.key, .string a.fr, .int .i64 a.n] 35)) g 20 tm vm _ a _ Y0.out.dlt Y0.out.a Y0.out.rt
              rw [ht'] at HDO
              refine HDO.mono ?_
              clear ht' HDO
              rintro E w6 h6
              obtain ⟨A6, c6, v6, rfl, _, b6, y6⟩ := Y0.out.act h6
              have B6 := Lib.hid b6
              have Y6 := Lib.hid y6
              clear b6 y6 h6 y0
              clear HX HX2 CX CX2 FL FL2 HG7 HN HM q d0 d1 d2 d3 d4 Y0
              obtain ⟨L6, hL6⟩ : ∃ L6, t'.length = L6 := ⟨_, rfl⟩
              obtain ⟨Lm, hLm⟩ : ∃ Lm, tn.length = Lm := ⟨_, rfl⟩
              have HL6 := Lib.hid hL6
              have HLm := Lib.hid hLm
              rw [hL6] at Y6 ⊢
              clear hL6 hLm
              go_wp2_with (first
                | (refine wpList_store_row rfl 31 _ _ rfl h7 #[.int .i64 20, .slice A6 L6 c6] rfl rfl 31 _ B6.out (by kernel_rfl) rfl (by simp [Value.oneCell']) ?_
                   have Y7 := Y6
                   clear Y6 B6
                   generalize w6.setRow h7 #[.int .i64 20, .slice A6 L6 c6] = w7 at *
                   have y7 := Y7.out.cells
                   rw [HL6.out, HLm.out] at y7)
                | (go_at_call 12; refine (t_is W gc 20 tn _ (.agg #[.int .i64 20, .slice An Lm cn]) _ Y7.out.b (by rw [← HLm.out]; exact Y7.out.swap.rt1)).mono ?_; rintro E w8 ⟨rfl, o8⟩; have Y8 := Lib.hid (Y7.out.keep o8); have y8 := Y8.out.cells; rw [HL6.out, HLm.out] at y8; clear o8 y7 Y7)
                | (go_at_call 12; refine (t_is W g 20 t' _ (.agg #[.int .i64 20, .slice A6 L6 c6]) _ Y8.out.a (by rw [← HL6.out]; exact Y8.out.rt1)).mono ?_; rintro E w9 ⟨rfl, o9⟩; have Y9 := Lib.hid (Y8.out.keep o9); clear o9 y8 Y8))
              go_roundw
              case rel => exact ⟨k + 1, t', tn, v6, vn, A6, c6, An, cn, by omega, by go_num, Y9.out⟩
              case measure => simp [intOf]; omega
          · obtain rfl : M = k := by omega
            have OE := Lib.hid hy.a.ho
            clear hy
            go_wp2_with fail
            go_ret
            exact ⟨rfl, OE.out.below (Nat.le_refl _) (fun k hk => hk.elim)⟩
      all_goals exact h10.elim
end Go.Proofs.Ytdmopjnmfjmhkaa
