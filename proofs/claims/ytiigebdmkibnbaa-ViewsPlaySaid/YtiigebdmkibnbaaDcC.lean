/- What slices.Clone, toFront, Pick and Some of dice do. No statement of the seat is proved here. -/
import Derived.Test.YtiigebdmkibnbaaDcB
import Derived.Deep.RegionLaw
namespace Go.Proofs.Ytiigebdmkibnbaa
open Go.RowKit
set_option linter.all false
set_option maxRecDepth 100000

set_option maxHeartbeats 3200000 in
theorem cloZ (A : Option Addr) (n c : Nat) (S : Nat → Prop) (zs : List Int) (w : World) (h : Nm w S (.slice A n c) zs) (hn : n ≤ 4096) :
    Calls Try.prog 40 #[.slice A n c] w fun e w' => ∃ v', e = .returned v' ∧ w'.ownsRow w.heap.size 3 1 v' n (nums zs) ∧ Only none_ w w' := by
  obtain ⟨i0, hi0, hz0, hz1, hz2⟩ := info_parts int_info
  have hnl := h.len
  have h : Cel w S (.slice A n c) n 1 (nums zs) := by rw [hnl]; rw [hnl] at h; exact h
  have H := Lib.hid h
  have hnil := fun w a n c => Lib.run_eql_slice_nil (P := Try.prog) w 22 3 a n c 0 0 Try.underlying22
  have HN : Hid (0 + n ≤ maxLen ∧ (0 + n) * 8 ≤ 140737488355328) := by simp only [Hid, maxLen]; omega
  clear hnl
  cases A with
  | none =>
    have hz : n = 0 ∧ nums zs = [] ∧ c = 0 := by
      obtain ⟨A', c', e, h0, h1, h2, h3, h4⟩ := h
      injection e with e1 e2 e3
      have hc0 := h3 e1.symm
      have hn0 : n = 0 := by omega
      exact ⟨hn0, List.eq_nil_of_length_eq_zero (by omega), by omega⟩
    obtain ⟨rfl, e2, rfl⟩ := hz
    rw [e2]
    clear h H e2
    go_enter Try.func40, Try.ntmps40
    go_wp2_with fail
    go_ret
    exact ⟨_, rfl, World.ownsRow_nil _ _ _ _, Only.refl _ _⟩
  | some a =>
    have C1 : Hid (Cel (w.alloc (.cells #[] 3)) S (.slice (some a) n c) n 1 (nums zs)) := h.alloc _
    have M1 : Hid ((w.alloc (.cells #[] 3)).ownsRow w.heap.size 3 1 (.slice (some ⟨w.heap.size, 0, none⟩) 0 0) 0 []) := own_made w w.heap.size _ 1 0 #[] (by simp) (by simp [maxLen]) (Nat.le_refl _)
    have hb1 : w.heap.size ≤ (w.alloc (.cells #[] 3)).heap.size := by rw [World.size_alloc]; omega
    have h1x := nums_one zs
    clear h
    go_enter Try.func40, Try.ntmps40
    go_wp2_with (first
      | (at_builtin; refine wpList_append_cel _ rfl (.tmp 5) (.tmp 6) 22 rfl w.heap.size 3 i0 _ 1 8 Try.underlying22 hi0 hz0 hz1 hz2 rfl (by omega) _ 0 [] rfl M1.out _ _ n (nums zs) rfl C1.out h1x HN.out.1 HN.out.2 hb1 ?_
         intro A5 n5 c5 w5 hown5 hgrow5 hmv5
         have R5 : Hid (w5.ownsRow w.heap.size 3 1 (.slice A5 n5 c5) n (nums zs) ∧ Only none_ w w5) := ⟨by simpa using hown5, (((Only.refl none_ w).alloc _).of_none.grown hgrow5 (fun k hk => .inr (by have e : some w.heap.size = some k := hk; injection e with e; omega)))⟩
         clear hown5 hgrow5 hmv5))
    go_ret
    exact ⟨_, rfl, R5.out.1, R5.out.2⟩

/-- One moved to the front of what lies from a place on. -/
theorem front_cells (cur : List Value) (o i : Nat) (hi : o + i < cur.length) (x : Value) (hx : cur[o + i]? = some x) :
    (putAt cur (o + 1) ((cur.drop o).take i)).set o x = cur.take o ++ x :: (cur.drop o).eraseIdx i := by
  have hl : ((cur.drop o).take i).length = i := by simp; omega
  have hl1 : (putAt cur (o + 1) ((cur.drop o).take i)).length = cur.length := putAt_len (by omega)
  apply List.ext_getElem?
  intro j
  rw [List.getElem?_set, hl1]
  have ht : (cur.take o).length = o := by simp; omega
  by_cases h1 : j < o
  · rw [if_neg (by omega), putAt_get (by omega), if_neg (by omega), List.getElem?_append_left (by omega), List.getElem?_take, if_pos h1]
  · obtain ⟨m, rfl⟩ : ∃ m, j = o + m := ⟨j - o, by omega⟩
    rw [List.getElem?_append_right (by omega), ht, Nat.add_sub_cancel_left]
    cases m with
    | zero => simp; omega
    | succ m =>
      rw [if_neg (by omega), List.getElem?_cons_succ, List.getElem?_eraseIdx, putAt_get (by omega), hl]
      by_cases h2 : m < i
      · rw [if_pos (by omega), if_pos h2, List.getElem?_take, if_pos (by omega), List.getElem?_drop, List.getElem?_drop]
        congr 1
        omega
      · rw [if_neg (by omega), if_neg h2, List.getElem?_drop]
theorem Rw_.setCell {w : World} {base g : Nat} {e : TypeId} {k cap : Nat} {cur : List Value} (h : Rw_ w base g e k cap cur) (o : Nat) (u : Value) : Rw_ (w.setCell ⟨g, o, none⟩ u) base g e k cap (cur.set o u) :=
  ⟨h.ge, by have := Blk.set_ (t := e) h.bk o u; rw [List.setIfInBounds_toArray] at this; exact this, h.cm, by rw [List.length_set]; exact h.cs⟩

/-- A call as a step of a region that draws. -/
theorem step_callz {P : Program} {ops : Array Oper} {o : Oper} {a : Act} {w : World} {K : Act → World → Prop} {Q : Exit → Act → World → Prop} {E : Prop} (hwd : Region.wanted o (yielded ops a.tmps) = true) (f : FuncId) (args : Array Value)
    (hrun : (execOp a.eval o).run P w = .ok (.enter f args) w) (h : Calls P f args w fun e w' => ∃ v, e = .returned v ∧ K (a.put o.dst v) w') :
    if Region.wanted o (yielded ops a.tmps) = true then Oper.wp P o a w K Q else E := by
  rw [if_pos hwd]
  unfold Oper.wp
  rw [hrun]
  exact h.mono fun e w'' ⟨v, he, hk⟩ => by subst he; exact hk

/-- What Pick tells. -/
def pkN (zs ys : List Int) : Int := ys.getD (drN zs ys.length).toNat 0
def pkL (zs ys : List Int) : List Int := if ys = [] then zs else drL zs ys.length

set_option maxHeartbeats 3200000 in
theorem dc_pick (B d : Nat) (v X : Value) (zs ys : List Int) (S : Nat → Prop) (w : World) (h : Dc w B d v zs) (hX : Nm w S X ys) (hS : ∀ b, S b → b ≠ d) (hl : ys.length ≤ 100000) :
    Calls Try.prog 46 #[.pointer (some ⟨d, 0, none⟩), X] w fun e w' => e = .returned (.tuple #[.int .i64 (pkN zs ys), .bool (!ys.isEmpty)]) ∧ ∃ v', Dc w' B d v' (pkL zs ys) ∧ Only (one d) w w' ∧ ∀ k, v'.ownBlock = some k → v.ownBlock = some k := by
  obtain ⟨A, c, rfl⟩ := hX.shape
  by_cases hy : ys = []
  · subst hy
    have F : Hid (Dc w B d v zs) := h
    have HN : Hid (pkN zs [] = 0 ∧ pkL zs [] = zs) := ⟨rfl, if_pos rfl⟩
    clear h hX
    go_enter Try.func46, Try.ntmps46
    go_wp2_with fail
    go_ret2
    exact ⟨by rw [HN.out.1]; rfl, v, by rw [HN.out.2]; exact F.out, (Only.refl none_ w).of_none, fun k hk => hk⟩
  · obtain ⟨L, hL⟩ : ∃ L, ys.length = L := ⟨_, rfl⟩
    have hL0 : 0 < L := by rw [← hL]; exact List.length_pos_iff.2 hy
    have hb : (!ys.isEmpty) = true := by simpa [List.isEmpty_iff] using hy
    have hd := drN_pos (zs := zs) (n := (L : Int)) (by omega)
    obtain ⟨i, hi⟩ : ∃ i, (drN zs L).toNat = i := ⟨_, rfl⟩
    have hiz : drN zs L = (i : Int) := by omega
    have hiL : i < L := by omega
    obtain ⟨x, hx⟩ : ∃ x, ys[i]? = some x := ⟨_, List.getElem?_eq_getElem (by omega)⟩
    obtain ⟨b, off, hA, hSb, hbl, hcx⟩ := nm_at hX hx
    subst hA
    have hbd := hS b hSb
    have HN : Hid (pkN zs ys = x ∧ pkL zs ys = drL zs L) := ⟨by rw [pkN, hL, hi, List.getD_eq_getElem?_getD, hx]; rfl, by rw [pkL, if_neg hy, hL]⟩
    have HD : Hid (∀ w, Dc w B d v zs → Calls Try.prog 54 #[.pointer (some ⟨d, 0, none⟩), .int .i64 L] w fun e w' => DrR B d v zs L w e w') := fun w h => dc_draw B d v zs L w h ⟨by omega, by omega⟩
    have HI := Lib.hid hiz
    have F : Hid (Dc w B d v zs) := h
    have hii : (i : Int) < (L : Int) := by omega
    rw [hb, hL]
    have hL00 : ¬ ((L : Int) = 0) := by omega
    have hL01 : ¬ (L = 0) := by omega
    clear h hX hy hd hi hiz hx hL hb hS
    go_enter Try.func46, Try.ntmps46
    go_wp2_with (first
      | (go_at_call 54; refine (HD.out _ F.out).mono ?_; rintro E w1 ⟨rfl, v1, d1, o1, m1⟩
         rw [HI.out]
         have cx1 := (o1.cell (p := ⟨b, off + i, none⟩) hbl (fun e => hbd e)).trans hcx
         have R : Hid (Dc w1 B d v1 (drL zs L) ∧ Only (one d) w w1 ∧ ∀ k, v1.ownBlock = some k → v.ownBlock = some k) := ⟨d1, o1, m1⟩
         clear d1 o1 m1))
    go_ret2
    exact ⟨by rw [HN.out.1]; rfl, v1, by rw [HN.out.2]; exact R.out.1, R.out.2⟩
end Go.Proofs.Ytiigebdmkibnbaa
