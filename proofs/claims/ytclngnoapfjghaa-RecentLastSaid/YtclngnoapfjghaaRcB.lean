/- What recent.Compare does, and what it calls: strings.Compare, cmp.Or. No statement of the seat is proved here. -/
import Derived.Test.YtclngnoapfjghaaRcM
import Derived.Test.YtclngnoapfjghaaStB
import Derived.Test.YtclngnoapfjghaaStd
import Derived.Test.YtclngnoapfjghaaSl
namespace Go.Proofs.Ytclngnoapfjghaa
open Go.RowKit
set_option maxRecDepth 100000
set_option linter.all false

theorem cmp_bytes (a b : ByteArray) (w : World) :
    Calls Try.prog 74 #[.string a, .string b] w fun e w' => e = .returned (.int .i64 (Lib.compareBytes a.data.toList b.data.toList)) ∧ w = w' := by
  have hc : ∀ w, (callFunc 95 #[.string a, .string b]).run Try.prog w = .ok (.value (.int .i64 (Lib.compareBytes a.data.toList b.data.toList))) w := fun w => by
    rw [run_callFunc_extern Try.func95 (by kernel_rfl) (by kernel_rfl) (by kernel_rfl) (e := Extern.BytealgCompare.compare) (by kernel_rfl), Lib.run_compareString]
    rfl
  generalize Lib.compareBytes a.data.toList b.data.toList = z at hc ⊢
  go_enter Try.func74, Try.ntmps74
  go_wp2_with fail
  go_ret
  exact ⟨rfl, rfl⟩
theorem cmp_strs (a b : ByteArray) (w : World) :
    Calls Try.prog 51 #[.string a, .string b] w fun e w' => e = .returned (.int .i64 (Lib.compareBytes a.data.toList b.data.toList)) ∧ w = w' := by
  have hc := cmp_bytes a b
  generalize Lib.compareBytes a.data.toList b.data.toList = z at hc ⊢
  have HC := Lib.hid hc
  clear hc
  go_enter Try.func51, Try.ntmps51
  go_wp2_with (first
    | (go_at_call 74; refine (HC.out _).mono ?_; rintro e w' ⟨rfl, rfl⟩))
  go_ret
  exact ⟨rfl, rfl⟩

/-- The first of two numbers that isn't 0. -/
def orI (x y : Int) : Int := if x = 0 then y else x
theorem orI_cmp (x y : Mk) : orI (stCmp x.a y.a) (Lib.compareBytes x.k.data.toList y.k.data.toList) = mkCmp x y := by unfold orI mkCmp; rfl

set_option maxHeartbeats 1600000 in
theorem cmp_or (b : Nat) (t : TypeId) (x y : Int) (w : World) (h : Blk w b t #[.int .i64 x, .int .i64 y]) :
    Calls Try.prog 49 #[.slice (some ⟨b, 0, none⟩) 2 2] w fun e w' => e = .returned (.int .i64 (orI x y)) ∧ w = w' := by
  have c0 := h.cell_ (i := 0) rfl
  have c1 := h.cell_ (i := 1) rfl
  clear h
  by_cases hx : x = 0
  · have H : Hid (orI x y = y) := by rw [Hid, orI, if_pos hx]
    subst hx
    by_cases hy : y = 0
    · subst hy
      go_enter Try.func49, Try.ntmps49
      go_wp2_with fail
      go_loopw [8] (fun s8 wr => ∃ i : Nat, s8 = .int .i64 i ∧ i ≤ 2 ∧ wr = w) (fun s8 _ => 2 - (intOf s8).toNat)
      case atStart => exact ⟨0, rfl, by omega, rfl⟩
      case round =>
        obtain ⟨i, rfl, hi, rfl⟩ := hrel
        by_cases h2 : i < 2
        · have hcase : i = 0 ∨ i = 1 := by omega
          rcases hcase with rfl | rfl
          · go_wp2_with fail
            go_roundw
            case rel => exact ⟨1, rfl, by omega, by first | rfl | trivial⟩
            case measure => simp [intOf]
          · go_wp2_with fail
            go_roundw
            case rel => exact ⟨2, rfl, by omega, by first | rfl | trivial⟩
            case measure => simp [intOf]
        · obtain rfl : i = 2 := by omega
          go_wp2_with fail
          go_ret
          rw [H.out]
          exact ⟨rfl, rfl⟩
    · have hy1 : (y != 0) = true := by simpa using hy
      have hy2 : ¬ (y = 0) := hy
      go_enter Try.func49, Try.ntmps49
      go_wp2_with fail
      go_loopw [8] (fun s8 wr => ∃ i : Nat, s8 = .int .i64 i ∧ i ≤ 1 ∧ wr = w) (fun s8 _ => 2 - (intOf s8).toNat)
      case atStart => exact ⟨0, rfl, by omega, rfl⟩
      case round =>
        obtain ⟨i, rfl, hi, rfl⟩ := hrel
        have hcase : i = 0 ∨ i = 1 := by omega
        rcases hcase with rfl | rfl
        · go_wp2_with fail
          go_roundw
          case rel => exact ⟨1, rfl, by omega, by first | rfl | trivial⟩
          case measure => simp [intOf]
        · go_wp2_with fail
          go_ret
          rw [H.out]
          exact ⟨rfl, rfl⟩
  · have H : Hid (orI x y = x) := by rw [Hid, orI, if_neg hx]
    have hx1 : (x != 0) = true := by simpa using hx
    go_enter Try.func49, Try.ntmps49
    go_wp2_with fail
    go_loopw [8] (fun s8 wr => s8 = .int .i64 0 ∧ wr = w) (fun s8 _ => 0)
    case atStart => exact ⟨rfl, rfl⟩
    case round =>
      obtain ⟨rfl, rfl⟩ := hrel
      go_wp2_with fail
      go_ret
      rw [H.out]
      exact ⟨rfl, rfl⟩

/-- A mark's cells. -/
def mkI (m : Mk) : List Value := [.int .i64 m.a.c, .int .i64 m.a.s, .string m.k]
theorem mkI_len (m : Mk) : (mkI m).length = 3 := rfl
def mkV (m : Mk) : Value := .agg #[.int .i64 m.a.c, .int .i64 m.a.s, .string m.k]

/-- The two boxes of a comparison. -/
structure Bx2 (w0 : World) (ca cb : Array Value) (w : World) : Prop where
  a : Blk w w0.heap.size 39 ca
  b : Blk w (w0.heap.size + 1) 39 cb
  o : Only none_ w0 w
theorem Bx2.keep {w0 w w' : World} {ca cb : Array Value} (h : Bx2 w0 ca cb w) (o : Only none_ w w') : Bx2 w0 ca cb w' := ⟨h.a.only o (fun h => h), h.b.only o (fun h => h), h.o.trans o⟩

set_option maxHeartbeats 3200000 in
theorem rc_compare (x y : Mk) (w : World) :
    Calls Try.prog 26 #[.agg #[.int .i64 x.a.c, .int .i64 x.a.s, .string x.k], .agg #[.int .i64 y.a.c, .int .i64 y.a.s, .string y.k]] w fun e w' => e = .returned (.int .i64 (mkCmp x y)) ∧ Only none_ w w' := by
  rw [← orI_cmp]
  obtain ⟨⟨xc, xs⟩, xk⟩ := x
  obtain ⟨⟨yc, ys⟩, yk⟩ := y
  have hs := st_compare xc xs yc ys
  have hk := cmp_strs xk yk
  simp only []
  generalize stCmp ⟨xc, xs⟩ ⟨yc, ys⟩ = p at hs ⊢
  generalize Lib.compareBytes xk.data.toList yk.data.toList = q at hk ⊢
  have HS := Lib.hid hs
  have HK := Lib.hid hk
  clear hs hk
  have B : Hid (Bx2 w #[.int .i64 xc, .int .i64 xs, .string xk] #[.int .i64 yc, .int .i64 ys, .string yk] ((w.alloc (.cells #[.int .i64 xc, .int .i64 xs, .string xk] 39)).alloc (.cells #[.int .i64 yc, .int .i64 ys, .string yk] 39))) := by
    have B2 := Blk.new (w.alloc (.cells #[.int .i64 xc, .int .i64 xs, .string xk] 39)) 39 #[.int .i64 yc, .int .i64 ys, .string yk]
    rw [World.size_alloc] at B2
    exact ⟨(Blk.new w _ _).alloc _, B2, ((Only.refl none_ w).alloc _).alloc _⟩
  go_enter Try.func26, Try.ntmps26
  go_wp2_with fail
  (refine wp_region_steady (fun w' => Bx2 w #[.int .i64 xc, .int .i64 xs, .string xk] #[.int .i64 yc, .int .i64 ys, .string yk] w') 10 (by kernel_rfl) (by kernel_rfl) (B.out.keep (Only.refl none_ _).drew) ?_; simp only [List.take_succ_cons, List.take_zero, List.drop_succ_cons, List.drop_zero])
  repeat (first
    | (refine sd_value (v := ?_) (by rfl) (fun w0 hS => ?_) ?_; rotate_left; (· (have a0 := hS.a.cell_ (i := 0) rfl; have a1 := hS.a.cell_ (i := 1) rfl; have a2 := hS.a.cell_ (i := 2) rfl; have b0 := hS.b.cell_ (i := 0) rfl; have b1 := hS.b.cell_ (i := 1) rfl; have b2 := hS.b.cell_ (i := 2) rfl; go_simp; try (with_reducible rfl))); try simp only [Act.put, List.setIfInBounds_toArray, List.set_cons_zero, List.set_cons_succ])
    | (refine sd_call (v := ?_) (f := 50) (args := ?_) (by rfl) (fun w0 hS => ?_) (fun w0 hS => ?_) ?_; rotate_left 2; (· (skip; go_simp; try (with_reducible rfl))); (· (refine (HS.out _).mono ?_; rintro E w9 ⟨rfl, o9⟩; refine ⟨?_, hS.keep o9⟩; rfl)); try simp only [Act.put, List.setIfInBounds_toArray, List.set_cons_zero, List.set_cons_succ])
    | (refine sd_call (v := ?_) (f := 51) (args := ?_) (by rfl) (fun w0 hS => ?_) (fun w0 hS => ?_) ?_; rotate_left 2; (· (skip; go_simp; try (with_reducible rfl))); (· (refine (HK.out _).mono ?_; rintro E w9 ⟨rfl, rfl⟩; refine ⟨?_, hS⟩; rfl)); try simp only [Act.put, List.setIfInBounds_toArray, List.set_cons_zero, List.set_cons_succ]))
  refine sd_nil ?_
  intro w3 t3
  have T3 := Lib.hid t3.o
  clear t3
  have O4 : Hid (Only none_ w3 (w3.alloc (.cells #[.int .i64 p, .int .i64 q] 3))) := (Only.refl none_ w3).alloc _
  have B4 : Hid (Blk (w3.alloc (.cells #[.int .i64 p, .int .i64 q] 3)) w3.heap.size 3 #[.int .i64 p, .int .i64 q]) := Blk.new _ _ _
  go_wp2_with (first
    | (go_at_call 49; refine (cmp_or _ 3 p q _ B4.out).mono ?_; rintro e w5 ⟨rfl, rfl⟩))
  go_ret
  exact ⟨rfl, T3.out.trans O4.out⟩
end Go.Proofs.Ytclngnoapfjghaa
