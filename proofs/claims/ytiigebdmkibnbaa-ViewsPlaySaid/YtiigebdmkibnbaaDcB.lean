/- What New, Feed, Left and Draw of dice do. No statement of the seat is proved here. -/
import Derived.Test.YtiigebdmkibnbaaDcA
import Derived.Test.YtiigebdmkibnbaaChecked
namespace Go.Proofs.Ytiigebdmkibnbaa
open Go.RowKit
set_option linter.all false
set_option maxRecDepth 100000

set_option maxHeartbeats 800000 in
theorem dc_left (B d : Nat) (v : Value) (zs : List Int) (w : World) (h : Dc w B d v zs) :
    Calls Try.prog 13 #[.pointer (some ⟨d, 0, none⟩)] w fun e w' => e = .returned (.int .i64 (zs.length : Int)) ∧ w = w' := by
  obtain ⟨A, c, hv⟩ := h.nn.nm.shape
  have c0 := h.bk.cell_ (i := 0) rfl
  rw [hv] at c0
  generalize zs.length = L at c0 ⊢
  clear h hv
  go_enter Try.func13, Try.ntmps13
  go_wp2_with fail
  go_ret
  exact ⟨rfl, rfl⟩

/-- What Draw leaves. -/
def DrR (B d : Nat) (v : Value) (zs : List Int) (n : Int) (w : World) (e : Ending) (w' : World) : Prop :=
  e = .returned (.int .i64 (drN zs n)) ∧ ∃ v', Dc w' B d v' (drL zs n) ∧ Only (one d) w w' ∧ ∀ k, v'.ownBlock = some k → v.ownBlock = some k

set_option maxHeartbeats 1600000 in
theorem dc_draw_low (B d : Nat) (v : Value) (zs : List Int) (n : Int) (w : World) (h : Dc w B d v zs) (hn : n < 1) :
    Calls Try.prog 54 #[.pointer (some ⟨d, 0, none⟩), .int .i64 n] w fun e w' => DrR B d v zs n w e w' := by
  have F : Hid (Dc w B d v zs) := h
  have HN : Hid (drN zs n = 0 ∧ drL zs n = zs) := ⟨drN_low hn, drL_low hn⟩
  have hd1 : decide (n < 1) = true := by simpa using hn
  clear h
  go_enter Try.func54, Try.ntmps54
  go_wp2_with fail
  go_ret
  exact ⟨by rw [HN.out.1]; rfl, v, by rw [HN.out.2]; exact F.out, (Only.refl none_ w).of_none, fun k hk => hk⟩

set_option maxHeartbeats 1600000 in
theorem dc_draw_nil (B d : Nat) (v : Value) (n : Int) (w : World) (h : Dc w B d v []) (hn : ¬ n < 1) :
    Calls Try.prog 54 #[.pointer (some ⟨d, 0, none⟩), .int .i64 n] w fun e w' => DrR B d v [] n w e w' := by
  have F : Hid (Dc w B d v []) := h
  have HN : Hid (drN [] n = 0 ∧ drL [] n = []) := ⟨drN_nil n, drL_nil n⟩
  have hd1 : decide (n < 1) = false := by simpa using hn
  clear h
  go_enter Try.func54, Try.ntmps54
  go_wp2_with (first
    | (go_at_call 13; refine (dc_left B d v [] _ F.out).mono ?_; rintro E w1 ⟨rfl, rfl⟩))
  go_ret
  exact ⟨by rw [HN.out.1]; rfl, v, by rw [HN.out.2]; exact F.out, (Only.refl none_ w).of_none, fun k hk => hk⟩

set_option maxHeartbeats 3200000 in
theorem dc_draw_cons (B d : Nat) (v : Value) (z : Int) (zs : List Int) (n : Int) (w : World) (h : Dc w B d v (z :: zs)) (hn : ¬ n < 1) (h64 : I64 n) :
    Calls Try.prog 54 #[.pointer (some ⟨d, 0, none⟩), .int .i64 n] w fun e w' => DrR B d v (z :: zs) n w e w' := by
  obtain ⟨i0, hi0, hz0, hz1, hz2⟩ := info_parts int_info
  have HN : Hid (drN (z :: zs) n = z % n ∧ drL (z :: zs) n = zs) := ⟨drN_cons (by omega), drL_cons (by omega)⟩
  have F : Hid (Dc w B d v (z :: zs)) := h
  have hml := h.ml
  obtain ⟨A, c, hv⟩ := h.nn.nm.shape
  obtain ⟨L, hL⟩ : ∃ L, (z :: zs).length = L := ⟨_, rfl⟩
  have hL1 : 0 < L := by rw [← hL]; simp
  have hL6 : L ≤ 100000 := by omega
  rw [hL] at hv
  subst hv
  obtain ⟨b, off, hA, hc0⟩ := ofs_at h.nn (j := 0) (z := z) rfl
  obtain ⟨A1, c1, hsl, ho1, hown⟩ := ofs_tail Try.underlying22 hi0 hz1 h.nn (by simp [maxLen] at hml ⊢; omega)
  subst hA
  rw [Nat.add_zero] at hc0
  have hbd : b ≠ d := fun e => h.ne (by simp [Value.ownBlock, e])
  have c0 := h.bk.cell_ (i := 0) rfl
  have f0 := h.bk.frozen 0
  have hLi : (0 : Int) < (L : Int) := by omega
  have HL := Lib.hid hL
  have hd1 : decide (n < 1) = false := by simpa using hn
  have D1 : Hid (Dc (w.setCell ⟨d, 0, none⟩ (.slice A1 (L - 1) c1)) B d (.slice A1 (L - 1) c1) zs ∧ Only (one d) w (w.setCell ⟨d, 0, none⟩ (.slice A1 (L - 1) c1)) ∧ ∀ k, (Value.slice A1 (L - 1) c1).ownBlock = some k → (Value.slice (some ⟨b, off, none⟩) L c).ownBlock = some k) := by
    have o : Only (one d) w (w.setCell ⟨d, 0, none⟩ (.slice A1 (L - 1) c1)) := (Only.refl (one d) w).setCell (.inl (show one d d from rfl)) _
    refine ⟨⟨h.bk.set_ 0 _, ho1.only o (fun g hg e => h.ne (by have e' : g = d := e; rw [← e']; exact hown g hg)), h.ge, by have := h.ml; simp at this; omega⟩, o, hown⟩
  have hnz : n ≠ 0 := by omega
  have hr2 := tmod_64 (z := z) (n := n) (by omega)
  have HR1 : Hid (Int.tmod z n < 0 → Int.tmod z n + n = z % n) := tmod_neg (by omega)
  have HR2 : Hid (¬ Int.tmod z n < 0 → Int.tmod z n = z % n) := tmod_pos (by omega)
  obtain ⟨h641, h642⟩ := h64
  obtain ⟨r, hr⟩ : ∃ r, Int.tmod z n = r := ⟨_, rfl⟩
  rw [hr] at hr2 HR1 HR2
  have hwr : IntKind.i64.wrap r = r := IntWalk.i64_in _ (by omega)
  clear h ho1 hown hL hn
  by_cases hneg : r < 0
  · have hdn : decide (r < 0) = true := by simpa using hneg
    have HR : Hid (r + n = z % n) := HR1.out hneg
    have hws : IntKind.i64.wrap (r + n) = r + n := IntWalk.i64_in _ (by omega)
    clear HR1 HR2
    go_enter Try.func54, Try.ntmps54
    go_wp2_with (first
      | (go_at_call 13; refine (dc_left B d _ _ _ F.out).mono ?_; rw [HL.out]; rintro E w1 ⟨rfl, rfl⟩))
    go_ret
    exact ⟨by rw [HN.out.1, ← HR.out]; rfl, _, by rw [HN.out.2]; exact D1.out.1, D1.out.2.1, D1.out.2.2⟩
  · have hdn : decide (r < 0) = false := by simpa using hneg
    have HR : Hid (r = z % n) := HR2.out hneg
    clear HR1 HR2
    go_enter Try.func54, Try.ntmps54
    go_wp2_with (first
      | (go_at_call 13; refine (dc_left B d _ _ _ F.out).mono ?_; rw [HL.out]; rintro E w1 ⟨rfl, rfl⟩))
    go_ret
    exact ⟨by rw [HN.out.1, ← HR.out]; rfl, _, by rw [HN.out.2]; exact D1.out.1, D1.out.2.1, D1.out.2.2⟩

theorem dc_draw (B d : Nat) (v : Value) (zs : List Int) (n : Int) (w : World) (h : Dc w B d v zs) (h64 : I64 n) :
    Calls Try.prog 54 #[.pointer (some ⟨d, 0, none⟩), .int .i64 n] w fun e w' => DrR B d v zs n w e w' := by
  by_cases hn : n < 1
  · exact dc_draw_low B d v zs n w h hn
  · cases zs with
    | nil => exact dc_draw_nil B d v n w h hn
    | cons z zs => exact dc_draw_cons B d v z zs n w h hn h64

set_option maxHeartbeats 1600000 in
theorem dc_feed (B d : Nat) (v X : Value) (zs ys : List Int) (S : Nat → Prop) (w : World) (h : Dc w B d v zs) (hX : Nm w S X ys) (hl : zs.length + ys.length ≤ 100000) (hb : B ≤ w.heap.size) :
    Calls Try.prog 25 #[.pointer (some ⟨d, 0, none⟩), X] w fun e w' => e = .returned (.tuple #[]) ∧ ∃ v', Dc w' B d v' (zs ++ ys) ∧ Only (dcb d v) w w' ∧ Moved w v v' := by
  obtain ⟨i0, hi0, hz0, hz1, hz2⟩ := info_parts int_info
  have c0 := h.bk.cell_ (i := 0) rfl
  have HX : Hid (∀ ty, ∃ v' w', (Builtin.append_ #[22, 22] ty #[v, X]).run Try.prog w = .ok v' w' ∧ Ofs w' B 3 v' (zs ++ ys) ∧ w.grownBy w' v.ownBlock ∧ Moved w v v') :=
    fun ty => run_append_ofs w 22 ty 3 i0 _ Try.underlying22 hi0 hz0 hz1 hz2 rfl v zs h.nn S X ys hX (by omega) hb
  have F : Hid (Dc w B d v zs) := h
  have HL := Lib.hid hl
  obtain ⟨A, c, hv⟩ := h.nn.nm.shape
  obtain ⟨A2, c2, hv2⟩ := hX.shape
  generalize zs.length = L at hv
  generalize ys.length = L2 at hv2
  subst hv hv2
  clear h hX hl
  go_enter Try.func25, Try.ntmps25
  go_wp2_with (first
    | (at_builtin
       obtain ⟨v1, w1, hr1, ho1, hg1, hm1⟩ := HX.out 22
       obtain ⟨A3, c3, e3⟩ := ho1.nm.shape
       generalize (zs ++ ys).length = L3 at e3
       subst e3
       refine wpList_append_run2 rfl (.tmp 8) (.tmp 9) _ _ rfl _ _ (by simp [Act.eval, Act.put]) (by simp [Act.eval, Act.put]) hr1 ?_
       have b1 : Blk w1 d 54 #[.slice A L c] := F.out.bk.grown' hg1 (fun e => F.out.ne e)
       have f1 := b1.frozen 0
       have e1 := b1.cell_ (i := 0) rfl
       have R : Hid (Dc (w1.setCell ⟨d, 0, none⟩ (.slice A3 L3 c3)) B d (.slice A3 L3 c3) (zs ++ ys) ∧ Only (dcb d (.slice A L c)) w (w1.setCell ⟨d, 0, none⟩ (.slice A3 L3 c3)) ∧ Moved w (.slice A L c) (.slice A3 L3 c3)) := by
         have o : Only (one d) w1 (w1.setCell ⟨d, 0, none⟩ (.slice A3 L3 c3)) := (Only.refl (one d) w1).setCell (.inl (show one d d from rfl)) _
         have o0 : Only (dcb d (.slice A L c)) w w1 := (Only.refl _ w).grown hg1 (fun k hk => .inl (.inr hk))
         refine ⟨⟨b1.set_ 0 _, ho1.only o (fun g hg e => ho1.blk_ne b1 (by decide) (by have e' : g = d := e; rw [← e']; exact hg)), F.out.ge, by rw [List.length_append]; exact HL.out⟩, o0.trans' o (fun k hk e => .inl e), hm1⟩
       clear hr1 ho1 hg1 hm1))
  go_end0
  exact ⟨rfl, _, R.out⟩

set_option maxHeartbeats 1600000 in
theorem dc_new (X : Value) (ys : List Int) (S : Nat → Prop) (w : World) (hX : Nm w S X ys) (hl : ys.length ≤ 100000) :
    Calls Try.prog 9 #[X] w fun e w' => ∃ d v, e = .returned (.pointer (some ⟨d, 0, none⟩)) ∧ Dc w' w.heap.size d v ys ∧ Only none_ w w' := by
  obtain ⟨A2, c2, hv2⟩ := hX.shape
  have D0 : Hid (Dc (w.alloc (.cells #[.slice none 0 0] 54)) w.heap.size w.heap.size (.slice none 0 0) []) := ⟨Blk.new w _ _, .inl ⟨rfl, rfl⟩, Nat.le_refl _, by simp⟩
  have O0 : Hid (Only none_ w (w.alloc (.cells #[.slice none 0 0] 54))) := (Only.refl none_ w).alloc _
  have HX := Lib.hid (hX.keep O0.out)
  have HL := Lib.hid hl
  generalize ys.length = L2 at hv2
  subst hv2
  clear hX hl
  go_enter Try.func9, Try.ntmps9
  go_wp2_with (first
    | (go_at_call 25; refine (dc_feed w.heap.size w.heap.size _ _ [] ys S _ D0.out HX.out (by simpa using HL.out) O0.out.size).mono ?_
       rintro E w1 ⟨rfl, v1, d1, o1, m1⟩
       have R : Hid (Dc w1 w.heap.size w.heap.size v1 ys ∧ Only none_ w w1) := by
         refine ⟨by simpa using d1, O0.out.trans' o1 (fun k hk e => ?_)⟩
         rcases e with e | e
         · omega
         · simp [Value.ownBlock] at e
       clear d1 o1 m1))
  go_ret
  exact ⟨_, _, rfl, R.out⟩
end Go.Proofs.Ytiigebdmkibnbaa
