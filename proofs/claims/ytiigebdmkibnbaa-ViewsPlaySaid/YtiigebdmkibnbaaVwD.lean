/- What put of a view does. No statement of the seat is proved here. -/
import Derived.Test.YtiigebdmkibnbaaVwC
namespace Go.Proofs.Ytiigebdmkibnbaa
open Go.RowKit
set_option maxRecDepth 100000
set_option linter.all false

/-- What put leaves. -/
def PtR (B d o : Nat) (cs : Array Value) (v : Value) (l : List Int) (n : Nat) (dd : Nat) (vd : Value) (zs : List Int) (p : Int) (w : World) (e : Ending) (w' : World) : Prop :=
  e = .returned (.int .i64 (vputG l n zs)) ∧ ∃ v' vd', Nw w' B d o (cs.setIfInBounds o v') v' (vputL l n p zs) n ∧ Dc w' B dd vd' (vputZ l n zs) ∧ Only (fun k => vwb d v k ∨ k = dd) w w' ∧ Moved w v v' ∧ ∀ k, vd'.ownBlock = some k → vd.ownBlock = some k

/-- The last part: one who isn't there is put at its place. -/
theorem vw_set {B d o : Nat} {cs : Array Value} {v v' v2 : Value} {l : List Int} {n : Nat} {p : Int} {w w1 w2 : World} {S : Nat → Prop} (h : Nw w B d o (cs.setIfInBounds o v') v' l n) (hc : cs[o]? = some v)
    (o1 : Only none_ w w1) (ow2 : w2.ownsRow B 3 1 v2 (vins l p).length (nums (vins l p))) (o2 : Only (ownb v') w1 w2) (m2 : Moved w1 v' v2) (hu : Rl (vins l p)) :
    Nw (w2.setCell ⟨d, o, none⟩ v2) B d o (cs.setIfInBounds o v2) v2 (vins l p) n ∧ Only (vwb d v') w (w2.setCell ⟨d, o, none⟩ v2) ∧ Moved w v' v2 := by
  have hd1 := (h.keep o1)
  have b2 : Blk w2 d 52 (cs.setIfInBounds o v') := hd1.bk.only o2 (fun e => h.ne e)
  have b3 := b2.set_ o v2
  have e3 : (cs.setIfInBounds o v').setIfInBounds o v2 = cs.setIfInBounds o v2 := by
    apply Array.ext_getElem?
    intro i
    simp only [Array.getElem?_setIfInBounds, Array.size_setIfInBounds]
    split <;> simp_all
  rw [e3] at b3
  have hne : v2.ownBlock ≠ some d := own_blk_ne ow2 b2 (by decide)
  have mv : Moved w v' v2 := fun k hk => by
    rcases m2 k hk with h1 | h1
    · exact .inl h1
    · exact .inr (Nat.le_trans o1.size h1)
  refine ⟨⟨b3, set_at hc, by rw [set_one]; have := h.c1; rwa [set_one] at this, owns_only ow2 ((Only.refl (one d) w2).setCell (.inl (show one d d from rfl)) v2) (fun g hg e => hne (by rw [hg]; exact congrArg some e)), hu⟩,
    ((o1.of_none.trans o2).mono (fun k _ hk => .inr hk)).setCell (.inl (.inl rfl)) v2, mv⟩

set_option maxHeartbeats 6400000 in
theorem vw_put_room (B d o : Nat) (cs : Array Value) (v : Value) (l : List Int) (n : Nat) (dd : Nat) (vd : Value) (zs : List Int) (p : Int) (w : World) (h : Nw w B d o cs v l n) (hB : B ≤ w.heap.size) (hd : Dc w B dd vd zs) (hdj : ∀ k, v.ownBlock = some k → ¬ dcb dd vd k)
    (hp : nodeB p = true) (hn : p ∉ l) (hl : l.length ≠ n) :
    Calls Try.prog 37 #[.pointer (some ⟨d, o, none⟩), .int .i64 p, .pointer (some ⟨dd, 0, none⟩)] w fun e w' => PtR B d o cs v l n dd vd zs p w e w' := by
  have H := Lib.hid h
  have HD := Lib.hid hd
  have HJ := Lib.hid hdj
  have HB := Lib.hid hB
  have hF := vw_full B d o cs v l n w h
  have e1 : decide (l.length = n) = false := by simpa using hl
  rw [e1] at hF
  have HF := Lib.hid hF
  obtain ⟨i, hi⟩ : ∃ i, vcnt l p = i := ⟨_, rfl⟩
  have HI := Lib.hid hi
  have hu : Rl (vins l p) := ⟨vins_up h.up.1 hn, fun z hz => by
    rcases (vins_mem h.up.1 p z).1 hz with h2 | h2
    · exact h.up.2 z h2
    · have hp' : 0 ≤ p ∧ p < 12 := by simpa [nodeB] using hp
      omega⟩
  have HU := Lib.hid hu
  have HPL : Hid (vputL l n p zs = vins l p ∧ vputZ l n zs = zs ∧ vputG l n zs = -1) := ⟨by rw [vputL, if_neg hl], by rw [vputZ, if_neg hl], by rw [vputG, if_neg hl]⟩
  obtain ⟨A0, n0, c0, e2⟩ := own_sl h.ow
  subst e2
  clear h hd hdj hF e1 hi hu hl hn hp hB
  go_enter Try.func37, Try.ntmps37
  go_wp2_with (first
    | (go_at_call 41; refine HF.out.mono ?_; rintro E w1 ⟨rfl, o1⟩
       have H1 : Hid (Nw w1 B d o cs (.slice A0 n0 c0) l n ∧ Only none_ w w1) := ⟨H.out.keep o1, o1⟩
       have d0 := H1.out.1.bk.cell_ H1.out.1.c0
       clear o1)
    | (go_at_call 44; refine (vb_search _ l p _ w1 H1.out.1.nm H1.out.1.up.1 (by have := H1.out.1.le; omega)).mono ?_; rintro E w2 ⟨rfl, o2⟩
       rw [HI.out]
       have H2 : Hid (Nw w2 B d o cs (.slice A0 n0 c0) l n ∧ Only none_ w w2) := ⟨H1.out.1.keep o2, H1.out.2.trans o2⟩
       have g0 := H2.out.1.bk.cell_ H2.out.1.c0
       have H3 : Hid (Nw (w2.alloc (.cells #[.int .i64 p] 3)) B d o cs (.slice A0 n0 c0) l n ∧ Only none_ w (w2.alloc (.cells #[.int .i64 p] 3)) ∧ Blk (w2.alloc (.cells #[.int .i64 p] 3)) w2.heap.size 3 #[.int .i64 p] ∧ (Value.slice A0 n0 c0).ownBlock ≠ some w2.heap.size) :=
         ⟨H2.out.1.keep ((Only.refl none_ _).alloc _), H2.out.2.alloc _, Blk.new _ _ _, fun e => by have := (H2.out.1.ow.lt _ e).2; omega⟩
       clear o2)
    | (go_at_call 47
       refine (show Calls Try.prog 47 #[.slice A0 n0 c0, .int .i64 (i : Int), .slice (some ⟨w2.heap.size, 0, none⟩) 1 1] (w2.alloc (.cells #[.int .i64 p] 3)) _ from by
         rw [← HI.out]; exact vb_insert B _ _ l p _ H3.out.1.ow (by have := H3.out.1.le; omega) (Nat.le_trans HB.out H3.out.2.1.size) H3.out.2.2.1 H3.out.2.2.2).mono ?_
       rintro E w4 ⟨v4, rfl, ow4, o4, m4⟩
       obtain ⟨A4, n4, c4, e4⟩ := own_sl ow4
       subst e4
       have hbk : Blk w4 d 52 cs := H3.out.1.bk.only o4 (fun e => H3.out.1.ne e)
       have f0 := hbk.frozen o
       have k0 := hbk.cell_ H.out.c0
       have H4 := Lib.hid (show w4.ownsRow B 3 1 (.slice A4 n4 c4) (vins l p).length (nums (vins l p)) ∧ Only (ownb (.slice A0 n0 c0)) (w2.alloc (.cells #[.int .i64 p] 3)) w4 ∧ Moved (w2.alloc (.cells #[.int .i64 p] 3)) (.slice A0 n0 c0) (.slice A4 n4 c4) from ⟨ow4, o4, m4⟩)
       clear ow4 o4 m4 hbk))
  go_ret
  have hw0 : Nw w B d o (cs.setIfInBounds o (.slice A0 n0 c0)) (.slice A0 n0 c0) l n := by rw [set_same H.out.c0]; exact H.out
  obtain ⟨r1, r2, r3⟩ := vw_set (v := .slice A0 n0 c0) hw0 H.out.c0 H3.out.2.1 H4.out.1 H4.out.2.1 H4.out.2.2 HU.out (S := none_)
  refine ⟨by rw [HPL.out.2.2]; rfl, _, vd, by rw [HPL.out.1]; exact r1, ?_, r2.mono (fun k _ hk => .inl hk), r3, fun k hk => hk⟩
  rw [HPL.out.2.1]
  refine HD.out.only r2 (fun k hk e => ?_)
  rcases e with e | e
  · rcases hk with hk | hk
    · exact absurd (e.symm.trans hk) (Blk.ne_ H.out.bk HD.out.bk (by decide))
    · exact HD.out.nn.blk_ne H.out.bk (by decide) (by rw [hk, e])
  · exact HJ.out k e hk

set_option maxHeartbeats 6400000 in
theorem vw_put_full (B d o : Nat) (cs : Array Value) (v : Value) (l : List Int) (n : Nat) (dd : Nat) (vd : Value) (zs : List Int) (p : Int) (w : World) (h : Nw w B d o cs v l n) (hB : B ≤ w.heap.size) (hd : Dc w B dd vd zs) (hdj : ∀ k, v.ownBlock = some k → ¬ dcb dd vd k)
    (hp : nodeB p = true) (hn : p ∉ l) (hl : l.length = n) (h1n : 1 ≤ n) :
    Calls Try.prog 37 #[.pointer (some ⟨d, o, none⟩), .int .i64 p, .pointer (some ⟨dd, 0, none⟩)] w fun e w' => PtR B d o cs v l n dd vd zs p w e w' := by
  have H := Lib.hid h
  have HD := Lib.hid hd
  have HJ := Lib.hid hdj
  have HB := Lib.hid hB
  have hF := vw_full B d o cs v l n w h
  have e1 : decide (l.length = n) = true := by simpa using hl
  rw [e1] at hF
  have HF := Lib.hid hF
  have hmem : pkN zs l ∈ l := pk_mem (by omega)
  have hpk : ∀ w', Dc w' B dd vd zs → Nw w' B d o cs v l n → Calls Try.prog 46 #[.pointer (some ⟨dd, 0, none⟩), v] w' _ := fun w' h1 h2 => dc_pick B dd vd v zs l _ w' h1 h2.nm (fun b hb e => hdj b hb (.inl e)) (by have := h2.le; omega)
  have e3 : (!l.isEmpty) = true := by cases l with
    | nil => simp at hl; omega
    | cons a l => rfl
  rw [e3] at hpk
  have HPL : Hid (vputL l n p zs = vins (vdel l (pkN zs l)) p ∧ vputZ l n zs = pkL zs l ∧ vputG l n zs = pkN zs l) := ⟨by rw [vputL, if_pos hl], by rw [vputZ, if_pos hl], by rw [vputG, if_pos hl]⟩
  have hrm : vrm l (pkN zs l) = vdel l (pkN zs l) := by rw [vrm, if_pos hmem]
  have hnd : p ∉ vdel l (pkN zs l) := fun hc => hn ((vdel_mem h.up.1 hmem p).1 hc).1
  have hru := vdel_rl h.up hmem
  obtain ⟨y, hy⟩ : ∃ y, pkN zs l = y := ⟨_, rfl⟩
  obtain ⟨zs', hz⟩ : ∃ y, pkL zs l = y := ⟨_, rfl⟩
  rw [hy] at HPL hpk hrm hnd hru
  rw [hz] at HPL hpk
  have HPK := Lib.hid hpk
  have hDr : ∀ w', Nw w' B d o cs v l n → Calls Try.prog 36 #[.pointer (some ⟨d, o, none⟩), .int .i64 y] w' fun e w'' => DpR B d o cs v l n y w' e w'' := fun w' h' => vw_drop B d o cs v l n y w' h'
  have HDR := Lib.hid hDr
  obtain ⟨m, hm⟩ : ∃ m, vdel l y = m := ⟨_, rfl⟩
  rw [hm] at HPL hrm hnd hru
  obtain ⟨i, hi⟩ : ∃ i, vcnt m p = i := ⟨_, rfl⟩
  have HI := Lib.hid hi
  have HRM := Lib.hid hrm
  have hu : Rl (vins m p) := ⟨vins_up hru.1 hnd, fun z hz => by
    rcases (vins_mem hru.1 p z).1 hz with h2 | h2
    · exact hru.2 z h2
    · have hp' : 0 ≤ p ∧ p < 12 := by simpa [nodeB] using hp
      omega⟩
  have HU := Lib.hid hu
  obtain ⟨A0, n0, c0, e2⟩ := own_sl h.ow
  subst e2
  clear h hd hdj hF e1 hi hu hl hn hp hB hpk hDr hmem e3 hrm hnd hru hy hz hm h1n
  go_enter Try.func37, Try.ntmps37
  go_wp2_with (first
    | (go_at_call 41; refine HF.out.mono ?_; rintro E w1 ⟨rfl, o1⟩
       have H1 : Hid (Nw w1 B d o cs (.slice A0 n0 c0) l n ∧ Only none_ w w1 ∧ Dc w1 B dd vd zs) := ⟨H.out.keep o1, o1, HD.out.keep o1⟩
       have d0 := H1.out.1.bk.cell_ H1.out.1.c0
       clear o1)
    | (go_at_call 46; refine (HPK.out w1 H1.out.2.2 H1.out.1).mono ?_; rintro E w2 ⟨rfl, vd2, d2, o2, m2⟩
       have H2 : Hid (Nw w2 B d o cs (.slice A0 n0 c0) l n ∧ Only (one dd) w w2 ∧ Dc w2 B dd vd2 zs' ∧ ∀ k, vd2.ownBlock = some k → vd.ownBlock = some k) :=
         ⟨H1.out.1.only o2 (fun e => absurd e (Blk.ne_ H1.out.1.bk H1.out.2.2.bk (by decide))) (fun k hk e => HJ.out k hk (.inl e)), H1.out.2.1.of_none.trans o2, d2, m2⟩
       have g0 := H2.out.1.bk.cell_ H2.out.1.c0
       clear d2 o2 m2)
    | (go_at_call 36; refine (HDR.out w2 H2.out.1).mono ?_; rintro E w3 ⟨rfl, v3, n3, o3, m3⟩
       rw [HRM.out] at n3
       have oA : Only (fun k => vwb d (.slice A0 n0 c0) k ∨ k = dd) w w3 := (H2.out.2.1.mono (fun k _ hk => .inr hk)).trans (o3.mono (fun k _ hk => .inl hk))
       obtain ⟨A3, n3', c3, e3⟩ := own_sl n3.ow
       subst e3
       have H3 : Hid (Nw w3 B d o (cs.setIfInBounds o (.slice A3 n3' c3)) (.slice A3 n3' c3) m n ∧ Only (fun k => vwb d (.slice A0 n0 c0) k ∨ k = dd) w w3 ∧ Dc w3 B dd vd2 zs' ∧ ∀ k, (Value.slice A3 n3' c3).ownBlock = some k → (Value.slice A0 n0 c0).ownBlock = some k) :=
         ⟨n3, oA, H2.out.2.2.1.only o3 (fun k hk e => by
           rcases e with e | e
           · rcases hk with hk | hk
             · exact absurd (e.symm.trans hk) (Blk.ne_ H.out.bk HD.out.bk (by decide))
             · exact H2.out.2.2.1.nn.blk_ne H2.out.1.bk (by decide) (by rw [hk, e])
           · rcases hk with hk | hk
             · exact HJ.out k e (.inl hk)
             · exact HJ.out k e (.inr (H2.out.2.2.2 k hk))), m3⟩
       have g1 := H3.out.1.bk.cell_ H3.out.1.c0
       clear n3 o3 m3 oA)
    | (go_at_call 44; refine (vb_search _ m p _ w3 H3.out.1.nm H3.out.1.up.1 (by have := H3.out.1.le; omega)).mono ?_; rintro E w4 ⟨rfl, o4⟩
       rw [HI.out]
       have H4 : Hid (Nw w4 B d o (cs.setIfInBounds o (.slice A3 n3' c3)) (.slice A3 n3' c3) m n ∧ Only none_ w3 w4) := ⟨H3.out.1.keep o4, o4⟩
       have g2 := H4.out.1.bk.cell_ H4.out.1.c0
       have H5 : Hid (Nw (w4.alloc (.cells #[.int .i64 p] 3)) B d o (cs.setIfInBounds o (.slice A3 n3' c3)) (.slice A3 n3' c3) m n ∧ Only none_ w3 (w4.alloc (.cells #[.int .i64 p] 3)) ∧ Blk (w4.alloc (.cells #[.int .i64 p] 3)) w4.heap.size 3 #[.int .i64 p] ∧ (Value.slice A3 n3' c3).ownBlock ≠ some w4.heap.size ∧ w.heap.size ≤ w4.heap.size) :=
         ⟨H4.out.1.keep ((Only.refl none_ _).alloc _), H4.out.2.alloc _, Blk.new _ _ _, fun e => by have := (H4.out.1.ow.lt _ e).2; omega, Nat.le_trans H3.out.2.1.size H4.out.2.size⟩
       clear o4)
    | (go_at_call 47
       refine (show Calls Try.prog 47 #[.slice A3 n3' c3, .int .i64 (i : Int), .slice (some ⟨w4.heap.size, 0, none⟩) 1 1] (w4.alloc (.cells #[.int .i64 p] 3)) _ from by
         rw [← HI.out]; exact vb_insert B _ _ m p _ H5.out.1.ow (by have := H5.out.1.le; omega) (Nat.le_trans HB.out (Nat.le_trans H3.out.2.1.size H5.out.2.1.size)) H5.out.2.2.1 H5.out.2.2.2.1).mono ?_
       rintro E w6 ⟨v6, rfl, ow6, o6, m6⟩
       obtain ⟨A6, n6, c6, e6⟩ := own_sl ow6
       subst e6
       have hbk : Blk w6 d 52 (cs.setIfInBounds o (.slice A3 n3' c3)) := H5.out.1.bk.only o6 (fun e => H5.out.1.ne e)
       have f0 := hbk.frozen o
       have k0 := hbk.cell_ H5.out.1.c0
       have H6 := Lib.hid (show w6.ownsRow B 3 1 (.slice A6 n6 c6) (vins m p).length (nums (vins m p)) ∧ Only (ownb (.slice A3 n3' c3)) (w4.alloc (.cells #[.int .i64 p] 3)) w6 ∧ Moved (w4.alloc (.cells #[.int .i64 p] 3)) (.slice A3 n3' c3) (.slice A6 n6 c6) from ⟨ow6, o6, m6⟩)
       clear ow6 o6 m6 hbk))
  go_ret
  obtain ⟨r1, r2, r3⟩ := vw_set (v := .slice A0 n0 c0) H3.out.1 H.out.c0 H5.out.2.1 H6.out.1 H6.out.2.1 H6.out.2.2 HU.out (S := none_)
  refine ⟨by rw [HPL.out.2.2]; rfl, _, vd2, by rw [HPL.out.1]; exact r1, ?_, H3.out.2.1.trans (r2.mono (fun k _ hk => .inl (by
    rcases hk with hk | hk
    · exact .inl hk
    · exact .inr (H3.out.2.2.2 k hk)))), fun k hk => ?_, H2.out.2.2.2⟩
  · rw [HPL.out.2.1]
    refine H3.out.2.2.1.only r2 (fun k hk e => ?_)
    rcases e with e | e
    · rcases hk with hk | hk
      · exact absurd (e.symm.trans hk) (Blk.ne_ H.out.bk HD.out.bk (by decide))
      · exact H3.out.2.2.1.nn.blk_ne H3.out.1.bk (by decide) (by rw [hk, e])
    · have e' := H3.out.2.2.2 k e
      rcases hk with hk | hk
      · exact HJ.out k e' (.inl hk)
      · exact HJ.out k e' (.inr (H2.out.2.2.2 k hk))
  · rcases r3 k hk with h1 | h1
    · exact .inl (H3.out.2.2.2 k h1)
    · exact .inr (Nat.le_trans H3.out.2.1.size h1)

theorem vw_put (B d o : Nat) (cs : Array Value) (v : Value) (l : List Int) (n : Nat) (dd : Nat) (vd : Value) (zs : List Int) (p : Int) (w : World) (h : Nw w B d o cs v l n) (hB : B ≤ w.heap.size) (hd : Dc w B dd vd zs) (hdj : ∀ k, v.ownBlock = some k → ¬ dcb dd vd k)
    (hp : nodeB p = true) (hn : p ∉ l) (h1n : 1 ≤ n) :
    Calls Try.prog 37 #[.pointer (some ⟨d, o, none⟩), .int .i64 p, .pointer (some ⟨dd, 0, none⟩)] w fun e w' => PtR B d o cs v l n dd vd zs p w e w' := by
  by_cases hl : l.length = n
  · exact vw_put_full B d o cs v l n dd vd zs p w h hB hd hdj hp hn hl h1n
  · exact vw_put_room B d o cs v l n dd vd zs p w h hB hd hdj hp hn hl
end Go.Proofs.Ytiigebdmkibnbaa
