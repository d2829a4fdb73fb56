/- What has, full and drop of a view do. No statement of the seat is proved here. -/
import Derived.Test.YtiigebdmkibnbaaVwB
import Derived.Test.YtiigebdmkibnbaaFre
import Derived.BigQuiet
namespace Go.Proofs.Ytiigebdmkibnbaa
open Go.RowKit
set_option maxRecDepth 100000
set_option linter.all false

/-- A view lies at place o of block d; v is where its nodes lie. -/
structure Nw (w : World) (B d o : Nat) (cs : Array Value) (v : Value) (l : List Int) (n : Nat) : Prop where
  bk : Blk w d 52 cs
  c0 : cs[o]? = some v
  c1 : cs[o + 1]? = some (.int .i64 n)
  ow : w.ownsRow B 3 1 v l.length (nums l)
  up : Rl l
theorem Nw.only {S : Nat → Prop} {w w' : World} {B d o : Nat} {cs : Array Value} {v : Value} {l : List Int} {n : Nat} (h : Nw w B d o cs v l n) (oo : Only S w w') (h1 : ¬ S d) (h2 : ∀ k, v.ownBlock = some k → ¬ S k) : Nw w' B d o cs v l n :=
  ⟨h.bk.only oo h1, h.c0, h.c1, owns_only h.ow oo h2, h.up⟩
theorem Nw.keep {w w' : World} {B d o : Nat} {cs : Array Value} {v : Value} {l : List Int} {n : Nat} (h : Nw w B d o cs v l n) (oo : Only none_ w w') : Nw w' B d o cs v l n := h.only oo (fun e => e) (fun _ _ e => e)
theorem Nw.nm {w : World} {B d o : Nat} {cs : Array Value} {v : Value} {l : List Int} {n : Nat} (h : Nw w B d o cs v l n) : Nm w (ownb v) v l := Cel.of_own h.ow
theorem Nw.ne {w : World} {B d o : Nat} {cs : Array Value} {v : Value} {l : List Int} {n : Nat} (h : Nw w B d o cs v l n) : v.ownBlock ≠ some d := own_blk_ne h.ow h.bk (by decide)
theorem Nw.le {w : World} {B d o : Nat} {cs : Array Value} {v : Value} {l : List Int} {n : Nat} (h : Nw w B d o cs v l n) : l.length ≤ 12 := rl_le h.up
/-- What a call at a view may change. -/
def vwb (d : Nat) (v : Value) : Nat → Prop := fun k => k = d ∨ v.ownBlock = some k
theorem addr_one (d o : Nat) : (⟨d, o, none⟩ : Addr).add 1 = ⟨d, o + 1, none⟩ := by unfold Addr.add; split <;> simp_all

set_option maxHeartbeats 1600000 in
theorem vw_has (B d o : Nat) (cs : Array Value) (v : Value) (l : List Int) (n : Nat) (p : Int) (w : World) (h : Nw w B d o cs v l n) :
    Calls Try.prog 34 #[.pointer (some ⟨d, o, none⟩), .int .i64 p] w fun e w' => e = .returned (.bool (decide (p ∈ l))) ∧ Only none_ w w' := by
  have c0 := h.bk.cell_ h.c0
  have HS := Lib.hid (fun w' (oo : Only none_ w w') => vb_search v l p _ w' (h.keep oo).nm h.up.1 (by have := h.le; omega))
  obtain ⟨b, hb⟩ : ∃ b, decide (p ∈ l) = b := ⟨_, rfl⟩
  rw [hb] at HS ⊢
  clear hb h
  go_enter Try.func34, Try.ntmps34
  go_wp2_with (first
    | (go_at_call 44; refine (HS.out _ (Only.refl _ _)).mono ?_; rintro E w1 ⟨rfl, o1⟩; have O1 := Lib.hid o1; clear o1))
  go_ret
  exact ⟨rfl, O1.out⟩

set_option maxHeartbeats 1600000 in
theorem vw_full (B d o : Nat) (cs : Array Value) (v : Value) (l : List Int) (n : Nat) (w : World) (h : Nw w B d o cs v l n) :
    Calls Try.prog 41 #[.pointer (some ⟨d, o, none⟩)] w fun e w' => e = .returned (.bool (decide (l.length = n))) ∧ Only none_ w w' := by
  have c0 := h.bk.cell_ h.c0
  have c1 := h.bk.cell_ h.c1
  obtain ⟨A, c, hv⟩ := h.nm.shape
  rw [hv] at c0
  obtain ⟨L, hL⟩ : ∃ L, l.length = L := ⟨_, rfl⟩
  rw [hL] at c0 ⊢
  clear hv h hL
  have k0 : w.drew.cell? ⟨d, o, none⟩ = some (.slice A L c) := c0
  have k1 : w.drew.cell? ⟨d, o + 1, none⟩ = some (.int .i64 n) := c1
  obtain ⟨b, hb⟩ : ∃ b, decide (L = n) = b := ⟨_, rfl⟩
  have hb2 : ((L : Int) == (n : Int)) = b := by rw [← hb, Bool.eq_iff_iff]; simp; omega
  rw [hb]
  clear hb
  go_enter Try.func41, Try.ntmps41
  go_wp2_with fail
  go_quiet (fail)
  go_wp2_with fail
  go_ret
  refine ⟨?_, (Only.refl _ _).drewN _⟩
  first | rfl | (rw [← hb2]; rfl) | skip

/-- What drop leaves. -/
def DpR (B d o : Nat) (cs : Array Value) (v : Value) (l : List Int) (n : Nat) (p : Int) (w : World) (e : Ending) (w' : World) : Prop :=
  e = .returned (.bool (decide (p ∈ l))) ∧ ∃ v', Nw w' B d o (cs.setIfInBounds o v') v' (vrm l p) n ∧ Only (vwb d v) w w' ∧ ∀ k, v'.ownBlock = some k → v.ownBlock = some k
theorem set_same {cs : Array Value} {o : Nat} {v : Value} (h : cs[o]? = some v) : cs.setIfInBounds o v = cs := by
  apply Array.ext_getElem?
  intro i
  rw [Array.getElem?_setIfInBounds]
  split
  · rename_i e; subst e
    rw [h]
    split
    · rfl
    · rename_i hn; rw [Array.getElem?_eq_none (by omega)] at h; cases h
  · rfl
theorem set_at {cs : Array Value} {o : Nat} {v v' : Value} (h : cs[o]? = some v) : (cs.setIfInBounds o v')[o]? = some v' := by
  have : o < cs.size := (Array.getElem?_eq_some_iff.1 h).1
  rw [Array.getElem?_setIfInBounds, if_pos rfl, if_pos this]
theorem set_one {cs : Array Value} {o : Nat} {v' : Value} : (cs.setIfInBounds o v')[o + 1]? = cs[o + 1]? := by
  rw [Array.getElem?_setIfInBounds, if_neg (by omega)]

set_option maxHeartbeats 1600000 in
theorem vw_drop_no (B d o : Nat) (cs : Array Value) (v : Value) (l : List Int) (n : Nat) (p : Int) (w : World) (h : Nw w B d o cs v l n) (hm : p ∉ l) :
    Calls Try.prog 36 #[.pointer (some ⟨d, o, none⟩), .int .i64 p] w fun e w' => DpR B d o cs v l n p w e w' := by
  have c0 := h.bk.cell_ h.c0
  have HS := Lib.hid (vb_search v l p _ w h.nm h.up.1 (by have := h.le; omega))
  have hb : decide (p ∈ l) = false := by simpa using hm
  have F : Hid (∀ w', Only none_ w w' → DpR B d o cs v l n p w (.returned (.bool false)) w') := fun w' oo => ⟨by rw [hb], v, by rw [set_same h.c0, vrm, if_neg hm]; exact h.keep oo, oo.of_none, fun k hk => hk⟩
  rw [hb] at HS
  clear hb h hm
  go_enter Try.func36, Try.ntmps36
  go_wp2_with (first
    | (go_at_call 44; refine HS.out.mono ?_; rintro E w1 ⟨rfl, o1⟩; have O1 := Lib.hid o1; clear o1))
  go_ret
  exact F.out _ O1.out

set_option maxHeartbeats 3200000 in
theorem vw_drop_yes (B d o : Nat) (cs : Array Value) (v : Value) (l : List Int) (n : Nat) (p : Int) (w : World) (h : Nw w B d o cs v l n) (hm : p ∈ l) :
    Calls Try.prog 36 #[.pointer (some ⟨d, o, none⟩), .int .i64 p] w fun e w' => DpR B d o cs v l n p w e w' := by
  have c0 := h.bk.cell_ h.c0
  have HS := Lib.hid (vb_search v l p _ w h.nm h.up.1 (by have := h.le; omega))
  have hb : decide (p ∈ l) = true := by simpa using hm
  have H := Lib.hid h
  have HM := Lib.hid hm
  have hc12 : vcnt l p ≤ 12 := Nat.le_trans (vcnt_le l p) h.le
  obtain ⟨i, hi⟩ : ∃ i, vcnt l p = i := ⟨_, rfl⟩
  have HI := Lib.hid hi
  rw [hi] at HS hc12
  have hw1 : IntKind.i64.wrap ((i : Int) + 1) = (i : Int) + 1 := IntWalk.i64_in _ (by omega)
  have HB := Lib.hid hb
  rw [hb] at HS
  clear hb h hm hi
  go_enter Try.func36, Try.ntmps36
  go_wp2_with (first
    | (go_at_call 44; refine HS.out.mono ?_; rintro E w1 ⟨rfl, o1⟩
       have H1 : Hid (Nw w1 B d o cs v l n ∧ Only none_ w w1) := ⟨H.out.keep o1, o1⟩
       have d0 := H1.out.1.bk.cell_ H1.out.1.c0
       clear o1)
    | (go_at_call 45
       refine (show Calls Try.prog 45 #[v, .int .i64 (i : Int), .int .i64 ((i : Int) + 1)] w1 _ from by
         rw [← HI.out]; exact vb_delete B v l p w1 H1.out.1.ow (by have := H1.out.1.le; omega) H1.out.1.up.1 HM.out).mono ?_
       rintro E w2 ⟨v2, rfl, ow2, o2, m2⟩
       obtain ⟨A2, n2, c2, e2⟩ := own_sl ow2
       subst e2
       have H2 : Hid (Blk w2 d 52 cs ∧ w2.ownsRow B 3 1 (.slice A2 n2 c2) (vdel l p).length (nums (vdel l p)) ∧ Only (ownb v) w w2 ∧ ∀ k, (Value.slice A2 n2 c2).ownBlock = some k → v.ownBlock = some k) :=
         ⟨H1.out.1.bk.only o2 (fun e => H1.out.1.ne e), ow2, H1.out.2.of_none.trans o2, m2⟩
       have e0 := H2.out.1.cell_ H.out.c0
       have f0 := H2.out.1.frozen o
       clear ow2 o2 m2))
  go_ret
  have F : DpR B d o cs v l n p w (.returned (.bool true)) (w2.setCell ⟨d, o, none⟩ (.slice A2 n2 c2)) := by
    have o3 : Only (vwb d v) w (w2.setCell ⟨d, o, none⟩ (.slice A2 n2 c2)) := (H2.out.2.2.1.mono (fun k _ hk => .inr hk)).setCell (.inl (.inl rfl)) (.slice A2 n2 c2)
    have b3 := H2.out.1.set_ o (.slice A2 n2 c2)
    have hne : (Value.slice A2 n2 c2).ownBlock ≠ some d := fun e => H.out.ne (H2.out.2.2.2 _ e)
    refine ⟨by rw [HB.out], .slice A2 n2 c2, ⟨b3, set_at H.out.c0, by rw [set_one]; exact H.out.c1, ?_, ?_⟩, o3, H2.out.2.2.2⟩
    · rw [vrm, if_pos HM.out]
      exact owns_only H2.out.2.1 ((Only.refl (one d) w2).setCell (.inl (show one d d from rfl)) (.slice A2 n2 c2)) (fun g hg e => hne (by rw [hg]; exact congrArg some e))
    · exact vrm_rl H.out.up p
  exact F
theorem vw_drop (B d o : Nat) (cs : Array Value) (v : Value) (l : List Int) (n : Nat) (p : Int) (w : World) (h : Nw w B d o cs v l n) :
    Calls Try.prog 36 #[.pointer (some ⟨d, o, none⟩), .int .i64 p] w fun e w' => DpR B d o cs v l n p w e w' := by
  by_cases hm : p ∈ l
  · exact vw_drop_yes B d o cs v l n p w h hm
  · exact vw_drop_no B d o cs v l n p w h hm
end Go.Proofs.Ytiigebdmkibnbaa
