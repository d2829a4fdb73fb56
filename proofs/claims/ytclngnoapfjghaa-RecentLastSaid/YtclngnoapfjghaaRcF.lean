/- What Drop of an index does. No statement of the seat is proved here. -/
import Derived.Test.YtclngnoapfjghaaRcD
namespace Go.Proofs.Ytclngnoapfjghaa
open Go.RowKit
set_option maxRecDepth 100000
set_option linter.all false

/-- What a call that works on an index may leave. -/
def LeftR (N g mb : Nat) (v : Value) (w : World) (l' : List Mk) (w' : World) : Prop := ∃ v', Rc N g mb l' l' v' w' ∧ Only (Ft g mb v) w w' ∧ Moved w v v'
theorem mv_foot {w : World} {g mb : Nat} {v v' : Value} (h : Moved w v v') (k : Nat) (hk : k < w.heap.size) (hf : Ft g mb v' k) : Ft g mb v k := by
  rcases hf with rfl | rfl | hf
  · exact .inl rfl
  · exact .inr (.inl rfl)
  · rcases h k hf with h | h
    · exact .inr (.inr h)
    · omega

set_option maxHeartbeats 6400000 in
theorem rc_drop_yes (N g mb : Nat) (l : List Mk) (v : Value) (m : Mk) (w : World) (h : Rc N g mb l l v w) (hm : m ∈ l) :
    Calls Try.prog 17 #[.pointer (some ⟨g, 0, none⟩), .string m.k] w fun e w' => e = .returned (.bool true) ∧ LeftR N g mb v w (dropM l m.k) w' := by
  have hg := rc_get_yes N g mb l l v m w h h.ix.ks hm
  obtain ⟨i, hi, hmi⟩ := List.mem_iff_getElem.1 hm
  have hbh := bh_mem h.ix.ds i hi
  have hdr := drop_at h.ix.ks i hi
  rw [hmi] at hbh hdr
  have hix := h.ix.drop m.k
  have hml := h.ml
  obtain ⟨A, c, rfl⟩ := h.shape
  obtain ⟨p, hp⟩ : ∃ p, l.length = p + 1 := ⟨l.length - 1, by omega⟩
  have HD : Hid (∀ w1, Only none_ w w1 → ∃ w3, (∀ ty, (Builtin.delete_ #[88, 9] ty #[.map (some mb), .string m.k]).run Try.prog (w1.alloc (.cells #[.int .i64 m.a.c, .int .i64 m.a.s, .string m.k] 39)) = .ok (.tuple #[]) w3) ∧
      (w1.alloc (.cells #[.int .i64 m.a.c, .int .i64 m.a.s, .string m.k] 39)).cell? ⟨g, 0, none⟩ = some (.map (some mb)) ∧
      w3.cell? ⟨w1.heap.size, 0, none⟩ = some (.int .i64 m.a.c) ∧ w3.cell? ⟨w1.heap.size, 1, none⟩ = some (.int .i64 m.a.s) ∧ w3.cell? ⟨w1.heap.size, 2, none⟩ = some (.string m.k) ∧
      Rc N g mb l (dropM l m.k) (.slice A l.length c) w3 ∧ Only (one mb) w w3) := by
    intro w1 o1
    have o2 : Only none_ w1 (w1.alloc (.cells #[.int .i64 m.a.c, .int .i64 m.a.s, .string m.k] 39)) := (Only.refl none_ w1).alloc _
    have h1 := (h.keep o1).keep o2
    obtain ⟨w3, hr, hmp, o3⟩ := mp_del (P := Try.prog) Try.underlying9 Try.underlying88 h1.mp h.ix.ks hm
    have B1 := Blk.new w1 39 #[.int .i64 m.a.c, .int .i64 m.a.s, .string m.k]
    have hmb : mb < w1.heap.size := (h.keep o1).mp.lt
    have B3 := B1.only o3 (fun e => by have e' : w1.heap.size = mb := e; omega)
    refine ⟨w3, hr, h1.bk.cell_ (i := 0) rfl, B3.cell_ (i := 0) rfl, B3.cell_ (i := 1) rfl, B3.cell_ (i := 2) rfl, ⟨h1.bk.only o3 (fun e => ?_), owns_only h1.ow o3 (fun k hk e => ?_), hmp, h1.gn, h1.mn, h1.ix, h1.ml⟩, (o1.trans o2).of_none.trans o3⟩
    · exact h1.mp.ne_blk h1.bk (show mb = g from (show g = mb from e).symm)
    · have e' : k = mb := e
      obtain ⟨es, clock, hb, _⟩ := h1.mp
      rcases h1.ow.2 with ⟨h2, _⟩ | ⟨b, cap, cur, h2, _, hh, _⟩
      · injection h2 with h2; rw [h2] at hk; cases hk
      · injection h2 with h2; rw [h2] at hk; have hk' : some b = some k := hk; injection hk' with hk'
        rw [hk', e', hb] at hh; cases hh
  have HG := Lib.hid hg
  have HB : Hid (∀ w3, Rc N g mb l (dropM l m.k) (.slice A l.length c) w3 → Calls Try.prog 44 #[.pointer (some ⟨g, 0, none⟩), .agg #[.int .i64 m.a.c, .int .i64 m.a.s, .string m.k]] w3 fun e w' => e = .returned (.int .i64 ((i : Int) + 1)) ∧ Only none_ w3 w') := fun w3 h3 => by
    have := rc_behind N g mb l (dropM l m.k) _ m w3 h3
    rw [hbh] at this
    exact this
  have HX : Hid (∀ w3 w4 : World, Rc N g mb l (dropM l m.k) (.slice A (p + 1) c) w4 → w4.cell? ⟨g, 1, none⟩ = some (.slice A (p + 1) c) ∧ Calls Try.prog 46 #[.slice A (p + 1) c, .int .i64 i, .int .i64 ((i : Int) + 1)] w4
      fun e w' => e = .returned (.slice A p c) ∧ w'.cell? ⟨g, 1, none⟩ = some (.slice A (p + 1) c) ∧ w'.frozen? ⟨g, 1, none⟩ = false ∧ Rc N g mb (dropM l m.k) (dropM l m.k) (.slice A p c) (w'.setCell ⟨g, 1, none⟩ (.slice A p c)) ∧ Only (Ft g mb (.slice A (p + 1) c)) w4 (w'.setCell ⟨g, 1, none⟩ (.slice A p c))) := by
    intro w3 w4 h4
    have own4 := h4.ow
    rw [hp] at own4
    obtain ⟨b, cur, rfl, hrw, hnc, htk⟩ := own_rw own4 (by omega)
    refine ⟨h4.bk.cell_ (i := 1) rfl, ?_⟩
    refine (delM N b p c i cur _ w4 hrw htk (by omega) hnc (by omega) (mkI_one l)).mono ?_
    rintro e w5 ⟨rfl, own5, o5⟩
    have hgb : g ≠ b := Blk.ne_ h4.bk (show Blk w4 b 39 _ from hrw.bk) (by decide)
    have hmb : mb ≠ b := h4.mp.ne_blk (show Blk w4 b 39 _ from hrw.bk)
    have hmg : mb ≠ g := h4.mp.ne_blk h4.bk
    have b5 := h4.bk.only o5 (fun e => hgb e)
    have hnew : (dropM l m.k).length = p := by rw [hdr]; simp; omega
    have hflat : (dropM l m.k).flatMap mkI = (l.flatMap mkI).take (i * 3) ++ (l.flatMap mkI).drop ((i + 1) * 3) := by
      rw [hdr, List.flatMap_append, flat_take mkI mkI_len l i (by omega), flat_drop mkI mkI_len l (i + 1) (by omega)]
    have o6 : Only (one g) w5 (w5.setCell ⟨g, 1, none⟩ (.slice (some ⟨b, 0, none⟩) p c)) := (Only.refl (one g) w5).setCell (.inl (show one g g from rfl)) _
    refine ⟨rfl, b5.cell_ (i := 1) rfl, b5.frozen 1, ⟨b5.set_ 1 _, ?_, (h4.mp.only o5 (fun e => hmb e)).only o6 (fun e => hmg e), h4.gn, h4.mn, hix, by rw [hnew]; omega⟩, ?_⟩
    · rw [hflat, hnew]
      exact owns_only own5 o6 (fun k hk e => hgb (by have e1 : some b = some k := hk; injection e1 with e1; have e2 : k = g := e; omega))
    · exact ((Only.refl _ w4).trans' o5 (fun k _ e => .inr (.inr (by have e' : k = b := e; rw [e']; rfl)))).trans' o6 (fun k _ e => .inl e)
  rw [hp] at HD HB ⊢
  have hw1 : IntKind.i64.wrap ((i : Int) + 1 - 1) = (i : Int) := by rw [Int.add_sub_cancel]; exact IntWalk.i64_in _ (by omega)
  have hw2 : IntKind.i64.wrap (i : Int) = (i : Int) := IntWalk.i64_in _ (by omega)
  have hsub : (i : Int) + 1 - 1 = i := by omega
  have hi100 : i ≤ 100 := by omega
  obtain ⟨⟨mc, ms⟩, k⟩ := m
  simp only [] at HG HD HB HX ⊢
  clear h hg hm hmi hbh hdr hix hml hp hi
  go_enter Try.func17, Try.ntmps17
  go_wp2_with (first
    | (go_at_call 18; refine HG.out.mono ?_; rintro E w1 ⟨rfl, o1⟩
       obtain ⟨w3, hdel, hc0, hc1, hc2, hc3, h3, o3⟩ := HD.out w1 o1
       have R3 := Lib.hid h3
       have O3 := Lib.hid o3
       clear o1 h3 o3)
    | (go_at_call 44; refine (HB.out _ R3.out).mono ?_; rintro E w4 ⟨rfl, o4⟩
       obtain ⟨hk4, hD4⟩ := HX.out w3 w4 (R3.out.keep o4)
       have HD4 := Lib.hid hD4
       have O4 := Lib.hid (O3.out.trans o4.of_none)
       clear hD4 o4)
    | (go_at_call 46; refine HD4.out.mono ?_; rintro E w5 ⟨rfl, hk5, hf5, r5, o5⟩
       have F5 := Lib.hid (And.intro r5 o5)
       clear r5 o5))
  go_ret
  refine ⟨rfl, _, F5.out.1, (O4.out.mono (fun k _ e => .inr (.inl e))).trans F5.out.2, fun k hk => .inl (by cases A <;> exact hk)⟩

set_option maxHeartbeats 1600000 in
theorem rc_drop_no (N g mb : Nat) (l : List Mk) (v : Value) (k : ByteArray) (w : World) (h : Rc N g mb l l v w) (hk : k.size ≤ maxLen) (hno : hasM l k = false) :
    Calls Try.prog 17 #[.pointer (some ⟨g, 0, none⟩), .string k] w fun e w' => e = .returned (.bool false) ∧ LeftR N g mb v w (dropM l k) w' := by
  rw [drop_not hno]
  have HG := Lib.hid (rc_get_no N g mb l l v k w h hk (has_not hno))
  have H := Lib.hid h
  clear h hk hno
  go_enter Try.func17, Try.ntmps17
  go_wp2_with (first
    | (go_at_call 18; refine HG.out.mono ?_; rintro E w1 ⟨rfl, o1⟩
       have O1 := Lib.hid (o1.trans ((Only.refl none_ w1).alloc (.cells #[.int .i64 0, .int .i64 0, .string ⟨#[]⟩] 39)))
       clear o1))
  go_ret
  exact ⟨rfl, _, H.out.keep O1.out, O1.out.of_none, Moved.refl _ _⟩

theorem rc_drop (N g mb : Nat) (l : List Mk) (v : Value) (k : ByteArray) (w : World) (h : Rc N g mb l l v w) (hk : k.size ≤ maxLen) :
    Calls Try.prog 17 #[.pointer (some ⟨g, 0, none⟩), .string k] w fun e w' => e = .returned (.bool (hasM l k)) ∧ LeftR N g mb v w (dropM l k) w' := by
  cases hh : hasM l k with
  | false => exact rc_drop_no N g mb l v k w h hk hh
  | true =>
    obtain ⟨i, hi, he, _⟩ := has_get hh
    rw [← he]
    exact rc_drop_yes N g mb l v l[i] w h (List.getElem_mem hi)
end Go.Proofs.Ytclngnoapfjghaa
