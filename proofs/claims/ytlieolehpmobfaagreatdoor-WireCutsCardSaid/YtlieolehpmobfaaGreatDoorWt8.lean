/- Texts of mine, one behind the other: WiG, WiP. No statement of the seat is proved here. -/
import Derived.Test.YtlieolehpmobfaaGreatDoorWt6
import Derived.Test.YtlieolehpmobfaaGreatDoorWt7
import Derived.Deep.RegionHeld3
section
namespace Go.Proofs.YtlieolehpmobfaaGreatDoor
open Go.RowKit
set_option linter.all false
set_option maxRecDepth 100000
def Lp (B : Nat) (g gm : Nat) (S : Nat → Prop) : Nat → Prop := fun b => B ≤ b ∧ b ≠ g ∧ b ≠ gm ∧ ¬ S b
structure Td (B : World) (g gm : Nat) (S : Nat → Prop) (m : Ms) (vp vm ve : Value) (c : Int) (bs : List UInt8) (w : World) : Prop where
  rd : Rd w g S c bs
  mb : Mb 45 gm (Lp B.heap.size g gm S) m vp vm ve w
  ho : Only none_ B w
  gg : B.heap.size ≤ g ∧ B.heap.size ≤ gm ∧ g ≠ gm ∧ ¬ S gm
  fr : ∀ b, S b → b < w.heap.size ∧ B.heap.size ≤ b
section
variable {B w w' w'' : World} {g gm : Nat} {S : Nat → Prop} {m m' : Ms} {vp vm ve vp' vm' ve' : Value} {c c' : Int} {bs bs' : List UInt8}
theorem Td.keep (t : Td B g gm S m vp vm ve c bs w) (o : Only none_ w w') : Td B g gm S m vp vm ve c bs w' :=
  ⟨t.rd.only o (fun h => h) (fun _ _ h => h), t.mb.keep o, t.ho.trans o, t.gg, fun b hb => ⟨Nat.lt_of_lt_of_le (t.fr b hb).1 o.size, (t.fr b hb).2⟩⟩
theorem Td.step (t : Td B g gm S m vp vm ve c bs w) (hr : Rd w' g S c' bs') (o : Only (one g) w w') : Td B g gm S m vp vm ve c' bs' w' :=
  ⟨hr, t.mb.only o (fun h => by have h' : gm = g := h; exact t.gg.2.2.1 h'.symm) (fun b hb h => by have h' : b = g := h; exact hb.2.1 h'), t.ho.trans' o (fun k hk h => by have h' : k = g := h; have := t.gg.1; omega), t.gg,
    fun b hb => ⟨Nat.lt_of_lt_of_le (t.fr b hb).1 o.size, (t.fr b hb).2⟩⟩
theorem Td.put (t : Td B g gm S m vp vm ve c bs w) (o : Only (one gm) w w') (hb : Blk w' gm 45 #[.int .i64 m'.kd, .int .i64 m'.pe, .int .i64 m'.hp, .bool m'.hi, vp', .int .i64 m'.nu, .int .u64 (m'.su : Int), .int .i64 m'.mr.a.c, .int .i64 m'.mr.a.s, .string m'.mr.k, vm', ve']) (hl : Ml (Lp B.heap.size g gm S) m' vp' vm' ve' w') : Td B g gm S m' vp' vm' ve' c bs w' :=
  ⟨t.rd.only o (fun h => by have h' : g = gm := h; exact t.gg.2.2.1 h') (fun b hS h => by have h' : b = gm := h; rw [h'] at hS; exact t.gg.2.2.2 hS), ⟨hb, hl⟩, t.ho.trans' o (fun k hk h => by have h' : k = gm := h; have := t.gg.2.1; omega), t.gg,
    fun b hb => ⟨Nat.lt_of_lt_of_le (t.fr b hb).1 o.size, (t.fr b hb).2⟩⟩
theorem Td.lists (t : Td B g gm S m vp vm ve c bs w) (o : Only (one gm) w w') : Ml (Lp B.heap.size g gm S) m vp vm ve w' :=
  t.mb.ml.only o (fun b hb h => by have h' : b = gm := h; exact hb.2.2.1 h')
theorem Td.lt (t : Td B g gm S m vp vm ve c bs w) : g < w.heap.size ∧ gm < w.heap.size := ⟨t.rd.lt, t.mb.bx.lt⟩
theorem Td.list {α : Type} {f : α → List Value} {k : Nat} {e : TypeId} {v : Value} {l : List α} (t : Td B g gm S m vp vm ve c bs w) (h : Tl f k e w g S v l c' bs' w') : Cel w' (Lp B.heap.size g gm S) v l.length k (l.flatMap f) :=
  (Cel.of_own h.ow).mono (fun b _ hb => by
    have h1 := (h.ow.lt b hb).1
    have h2 := t.lt
    have h3 := t.ho.size
    exact ⟨by omega, by omega, by omega, fun hs => by have := (t.fr b hs).1; omega⟩)
end
theorem onef_set {w w' : World} {gm : Nat} (o : Only (one gm) w w') (i : Nat) (v : Value) : Only (one gm) w (w'.setCell ⟨gm, i, none⟩ v) := o.setCell (p := ⟨gm, i, none⟩) (.inl rfl) v
set_option maxHeartbeats 1600000 in
theorem wt_field0 (B : World) (g gm : Nat) (S : Nat → Prop) (m : Ms) (vp vm ve : Value) (c : Int) (bs : List UInt8) (w : World) (t : Td B g gm S m vp vm ve c bs w) (hm : bs.length ≤ 140737488355328) :
    Calls Tryz.prog 115 #[.pointer (some ⟨g, 0, none⟩), .pointer (some ⟨gm, 0, none⟩)] w fun e w' => e = .returned (.tuple #[]) ∧ ∃ vp' vm' ve', Td B g gm S (fieldR 0 c bs m).2.2 vp' vm' ve' (fieldR 0 c bs m).1 (fieldR 0 c bs m).2.1 w' := by
  have T := Lib.hid t
  have HF : Hid (fieldR 0 c bs m = ((nodeR c bs).1, (nodeR c bs).2.1, { m with pe := (nodeR c bs).2.2 })) := rfl
  have C := Lib.hid (wt_node g S c bs w t.rd hm)
  obtain ⟨⟨c1, b1, x⟩, ha⟩ : ∃ a, nodeR c bs = a := ⟨_, rfl⟩
  rw [ha] at C HF
  dsimp only at C HF
  clear ha t hm
  go_enter Tryz.func115, Tryz.ntmps115
  go_wp2_with (first
    | (go_at_call 116; refine C.out.mono ?_; rintro e w1 ⟨rfl, h1, o1⟩
       have T1 := Lib.hid (T.out.step h1 o1)
       have k := T1.out.mb.bx.cell_ (i := 1) rfl
       have z := T1.out.mb.bx.frozen 1
       clear h1 o1))
  go_end0
  rw [HF.out]
  refine ⟨rfl, vp, vm, ve, T1.out.put (onef_set (Only.refl _ w1) 1 _) (by simpa using T1.out.mb.bx.set_ 1 (.int .i64 x)) ?_⟩
  have ml := T1.out.lists (onef_set (Only.refl _ w1) 1 (.int .i64 x))
  exact ⟨ml.p, ml.q, ml.r⟩
set_option maxHeartbeats 1600000 in
theorem wt_field1 (B : World) (g gm : Nat) (S : Nat → Prop) (m : Ms) (vp vm ve : Value) (c : Int) (bs : List UInt8) (w : World) (t : Td B g gm S m vp vm ve c bs w) (hm : bs.length ≤ 140737488355328) :
    Calls Tryz.prog 119 #[.pointer (some ⟨g, 0, none⟩), .pointer (some ⟨gm, 0, none⟩)] w fun e w' => e = .returned (.tuple #[]) ∧ ∃ vp' vm' ve', Td B g gm S (fieldR 1 c bs m).2.2 vp' vm' ve' (fieldR 1 c bs m).1 (fieldR 1 c bs m).2.1 w' := by
  have T := Lib.hid t
  have HF : Hid (fieldR 1 c bs m = ((nodeR c bs).1, (nodeR c bs).2.1, { m with hp := (nodeR c bs).2.2 })) := rfl
  have C := Lib.hid (reader_number g S c bs 1 w t.rd hm)
  have HN : Hid (nodeR c bs = ((numR c bs 1).1, (numR c bs 1).2.1, ((numR c bs 1).2.2 : Int))) := rfl
  rw [HN.out] at HF
  have hlt := numR_lt c bs 1
  obtain ⟨⟨c1, b1, x⟩, ha⟩ : ∃ a, numR c bs 1 = a := ⟨_, rfl⟩
  rw [show ((1 : Nat) : Int) = 1 from rfl, ha] at hlt
  rw [ha] at C HF
  dsimp only at C HF hlt
  have hw : IntKind.i64.wrap (x : Int) = (x : Int) := IntWalk.i64_in _ (by omega)
  clear ha t hm
  go_enter Tryz.func119, Tryz.ntmps119
  go_wp2_with (first
    | (go_at_call 120; refine C.out.mono ?_; rintro e w1 ⟨rfl, h1, o1⟩
       have T1 := Lib.hid (T.out.step h1 o1)
       have k := T1.out.mb.bx.cell_ (i := 2) rfl
       have z := T1.out.mb.bx.frozen 2
       clear h1 o1))
  go_end0
  rw [HF.out]
  refine ⟨rfl, vp, vm, ve, T1.out.put (onef_set (Only.refl _ w1) 2 _) (by simpa using T1.out.mb.bx.set_ 2 (.int .i64 (x : Int))) ?_⟩
  have ml := T1.out.lists (onef_set (Only.refl _ w1) 2 (.int .i64 (x : Int)))
  exact ⟨ml.p, ml.q, ml.r⟩
set_option maxHeartbeats 1600000 in
theorem wt_field2 (B : World) (g gm : Nat) (S : Nat → Prop) (m : Ms) (vp vm ve : Value) (c : Int) (bs : List UInt8) (w : World) (t : Td B g gm S m vp vm ve c bs w) (hm : bs.length ≤ 140737488355328) :
    Calls Tryz.prog 123 #[.pointer (some ⟨g, 0, none⟩), .pointer (some ⟨gm, 0, none⟩)] w fun e w' => e = .returned (.tuple #[]) ∧ ∃ vp' vm' ve', Td B g gm S (fieldR 2 c bs m).2.2 vp' vm' ve' (fieldR 2 c bs m).1 (fieldR 2 c bs m).2.1 w' := by
  have T := Lib.hid t
  have HF : Hid (fieldR 2 c bs m = ((flagR c bs).1, (flagR c bs).2.1, { m with hi := (flagR c bs).2.2 })) := rfl
  have C := Lib.hid (reader_flag g S c bs w t.rd hm)
  obtain ⟨⟨c1, b1, x⟩, ha⟩ : ∃ a, flagR c bs = a := ⟨_, rfl⟩
  rw [ha] at C HF
  dsimp only at C HF
  clear ha t hm
  go_enter Tryz.func123, Tryz.ntmps123
  go_wp2_with (first
    | (go_at_call 124; refine C.out.mono ?_; rintro e w1 ⟨rfl, h1, o1⟩
       have T1 := Lib.hid (T.out.step h1 o1)
       have k := T1.out.mb.bx.cell_ (i := 3) rfl
       have z := T1.out.mb.bx.frozen 3
       clear h1 o1))
  go_end0
  rw [HF.out]
  refine ⟨rfl, vp, vm, ve, T1.out.put (onef_set (Only.refl _ w1) 3 _) (by simpa using T1.out.mb.bx.set_ 3 (.bool x)) ?_⟩
  have ml := T1.out.lists (onef_set (Only.refl _ w1) 3 (.bool x))
  exact ⟨ml.p, ml.q, ml.r⟩
set_option maxHeartbeats 1600000 in
theorem wt_field3 (B : World) (g gm : Nat) (S : Nat → Prop) (m : Ms) (vp vm ve : Value) (c : Int) (bs : List UInt8) (w : World) (t : Td B g gm S m vp vm ve c bs w) (hm : bs.length ≤ 140737488355328) :
    Calls Tryz.prog 127 #[.pointer (some ⟨g, 0, none⟩), .pointer (some ⟨gm, 0, none⟩)] w fun e w' => e = .returned (.tuple #[]) ∧ ∃ vp' vm' ve', Td B g gm S (fieldR 3 c bs m).2.2 vp' vm' ve' (fieldR 3 c bs m).1 (fieldR 3 c bs m).2.1 w' := by
  have T := Lib.hid t
  have HF : Hid (fieldR 3 c bs m = ((manyR nodeR c bs).1, (manyR nodeR c bs).2.1, { m with ps := (manyR nodeR c bs).2.2 })) := rfl
  have C := Lib.hid (wt_list_int g S c bs w t.rd (fun b hb => (t.fr b hb).1) hm)
  obtain ⟨⟨c1, b1, x⟩, ha⟩ : ∃ a, manyR nodeR c bs = a := ⟨_, rfl⟩
  rw [ha] at C HF
  dsimp only at C HF
  clear ha t hm
  go_enter Tryz.func127, Tryz.ntmps127
  go_wp2_with (first
    | (go_at_call 128; refine C.out.mono ?_; rintro e w1 ⟨v1, rfl, l1⟩
       have L1 := Lib.hid l1
       have T1 := Lib.hid (T.out.step l1.rd l1.ho)
       have k := T1.out.mb.bx.cell_ (i := 4) rfl
       have z := T1.out.mb.bx.frozen 4
       have h1 := l1.shape
       obtain ⟨A1, cp, rfl⟩ := h1
       clear l1))
  go_end0
  rw [HF.out]
  have NG : ∀ b, Lp B.heap.size g gm S b → ¬ one gm b := fun b hb h => by have h' : b = gm := h; exact hb.2.2.1 h'
  refine ⟨rfl, _, vm, ve, T1.out.put (onef_set (Only.refl _ w1) 4 _) (by simpa using T1.out.mb.bx.set_ 4 (.slice A1 x.length cp)) ⟨(T.out.list L1.out).only (onef_set (Only.refl _ w1) 4 _) NG, (T1.out.lists (onef_set (Only.refl _ w1) 4 _)).q, (T1.out.lists (onef_set (Only.refl _ w1) 4 _)).r⟩⟩
set_option maxHeartbeats 1600000 in
theorem wt_field4 (B : World) (g gm : Nat) (S : Nat → Prop) (m : Ms) (vp vm ve : Value) (c : Int) (bs : List UInt8) (w : World) (t : Td B g gm S m vp vm ve c bs w) (hm : bs.length ≤ 140737488355328) :
    Calls Tryz.prog 130 #[.pointer (some ⟨g, 0, none⟩), .pointer (some ⟨gm, 0, none⟩)] w fun e w' => e = .returned (.tuple #[]) ∧ ∃ vp' vm' ve', Td B g gm S (fieldR 4 c bs m).2.2 vp' vm' ve' (fieldR 4 c bs m).1 (fieldR 4 c bs m).2.1 w' := by
  have T := Lib.hid t
  have HF : Hid (fieldR 4 c bs m = ((numR c bs 4).1, (numR c bs 4).2.1, { m with nu := (((numR c bs 4).2.2 : Nat) : Int) })) := rfl
  have C := Lib.hid (reader_number g S c bs 4 w t.rd hm)
  have hlt := numR_lt c bs 4
  obtain ⟨⟨c1, b1, x⟩, ha⟩ : ∃ a, numR c bs 4 = a := ⟨_, rfl⟩
  rw [show ((4 : Nat) : Int) = 4 from rfl, ha] at hlt
  rw [ha] at C HF
  dsimp only at C HF hlt
  have hw : IntKind.i64.wrap (x : Int) = (x : Int) := IntWalk.i64_in _ (by omega)
  clear ha t hm
  go_enter Tryz.func130, Tryz.ntmps130
  go_wp2_with (first
    | (go_at_call 120; refine C.out.mono ?_; rintro e w1 ⟨rfl, h1, o1⟩
       have T1 := Lib.hid (T.out.step h1 o1)
       have k := T1.out.mb.bx.cell_ (i := 5) rfl
       have z := T1.out.mb.bx.frozen 5
       clear h1 o1))
  go_end0
  rw [HF.out]
  refine ⟨rfl, vp, vm, ve, T1.out.put (onef_set (Only.refl _ w1) 5 _) (by simpa using T1.out.mb.bx.set_ 5 (.int .i64 (x : Int))) ?_⟩
  have ml := T1.out.lists (onef_set (Only.refl _ w1) 5 (.int .i64 (x : Int)))
  exact ⟨ml.p, ml.q, ml.r⟩
set_option maxHeartbeats 1600000 in
theorem wt_field5 (B : World) (g gm : Nat) (S : Nat → Prop) (m : Ms) (vp vm ve : Value) (c : Int) (bs : List UInt8) (w : World) (t : Td B g gm S m vp vm ve c bs w) (hm : bs.length ≤ 140737488355328) :
    Calls Tryz.prog 132 #[.pointer (some ⟨g, 0, none⟩), .pointer (some ⟨gm, 0, none⟩)] w fun e w' => e = .returned (.tuple #[]) ∧ ∃ vp' vm' ve', Td B g gm S (fieldR 5 c bs m).2.2 vp' vm' ve' (fieldR 5 c bs m).1 (fieldR 5 c bs m).2.1 w' := by
  have T := Lib.hid t
  have HF : Hid (fieldR 5 c bs m = ((numR c bs 8).1, (numR c bs 8).2.1, { m with su := (numR c bs 8).2.2 })) := rfl
  have C := Lib.hid (reader_number g S c bs 8 w t.rd hm)
  obtain ⟨⟨c1, b1, x⟩, ha⟩ : ∃ a, numR c bs 8 = a := ⟨_, rfl⟩
  rw [ha] at C HF
  dsimp only at C HF
  clear ha t hm
  go_enter Tryz.func132, Tryz.ntmps132
  go_wp2_with (first
    | (go_at_call 120; refine C.out.mono ?_; rintro e w1 ⟨rfl, h1, o1⟩
       have T1 := Lib.hid (T.out.step h1 o1)
       have k := T1.out.mb.bx.cell_ (i := 6) rfl
       have z := T1.out.mb.bx.frozen 6
       clear h1 o1))
  go_end0
  rw [HF.out]
  refine ⟨rfl, vp, vm, ve, T1.out.put (onef_set (Only.refl _ w1) 6 _) (by simpa using T1.out.mb.bx.set_ 6 (.int .u64 (x : Int))) ?_⟩
  have ml := T1.out.lists (onef_set (Only.refl _ w1) 6 (.int .u64 (x : Int)))
  exact ⟨ml.p, ml.q, ml.r⟩
set_option maxHeartbeats 1600000 in
theorem wt_field6 (B : World) (g gm : Nat) (S : Nat → Prop) (m : Ms) (vp vm ve : Value) (c : Int) (bs : List UInt8) (w : World) (t : Td B g gm S m vp vm ve c bs w) (hm : bs.length ≤ 140737488355328) :
    Calls Tryz.prog 135 #[.pointer (some ⟨g, 0, none⟩), .pointer (some ⟨gm, 0, none⟩)] w fun e w' => e = .returned (.tuple #[]) ∧ ∃ vp' vm' ve', Td B g gm S (fieldR 6 c bs m).2.2 vp' vm' ve' (fieldR 6 c bs m).1 (fieldR 6 c bs m).2.1 w' := by
  have T := Lib.hid t
  have HF : Hid (fieldR 6 c bs m = ((markR c bs).1, (markR c bs).2.1, { m with mr := (markR c bs).2.2 })) := rfl
  have C := Lib.hid (wt_mark g S c bs w t.rd (fun b hb => (t.fr b hb).1) hm)
  obtain ⟨⟨c1, b1, x⟩, ha⟩ : ∃ a, markR c bs = a := ⟨_, rfl⟩
  rw [ha] at C HF
  dsimp only at C HF
  clear ha t hm
  go_enter Tryz.func135, Tryz.ntmps135
  obtain ⟨⟨xc, xs⟩, xk⟩ := x
  dsimp only at C HF
  go_wp2_with (first
    | (go_at_call 136; refine C.out.mono ?_; rintro e w1 ⟨rfl, h1, o1⟩
       have T1 := Lib.hid (T.out.step h1 o1)
       have k0 := T1.out.mb.bx.cell_ (i := 7) rfl
       have z0 := T1.out.mb.bx.frozen 7
       have k1 := (T1.out.mb.bx.set_ 7 (.int .i64 xc)).cell_ (i := 8) rfl
       have z1 := (T1.out.mb.bx.set_ 7 (.int .i64 xc)).frozen 8
       have k2 := ((T1.out.mb.bx.set_ 7 (.int .i64 xc)).set_ 8 (.int .i64 xs)).cell_ (i := 9) rfl
       have z2 := ((T1.out.mb.bx.set_ 7 (.int .i64 xc)).set_ 8 (.int .i64 xs)).frozen 9
       clear h1 o1))
  go_end0
  rw [HF.out]
  refine ⟨rfl, vp, vm, ve, T1.out.put (onef_set (onef_set (onef_set (Only.refl _ w1) 7 _) 8 _) 9 _) (by simpa using ((T1.out.mb.bx.set_ 7 (.int .i64 xc)).set_ 8 (.int .i64 xs)).set_ 9 (.string xk)) ?_⟩
  have ml := T1.out.lists (onef_set (onef_set (onef_set (Only.refl _ w1) 7 (.int .i64 xc)) 8 (.int .i64 xs)) 9 (.string xk))
  exact ⟨ml.p, ml.q, ml.r⟩
set_option maxHeartbeats 1600000 in
theorem wt_field7 (B : World) (g gm : Nat) (S : Nat → Prop) (m : Ms) (vp vm ve : Value) (c : Int) (bs : List UInt8) (w : World) (t : Td B g gm S m vp vm ve c bs w) (hm : bs.length ≤ 140737488355328) :
    Calls Tryz.prog 139 #[.pointer (some ⟨g, 0, none⟩), .pointer (some ⟨gm, 0, none⟩)] w fun e w' => e = .returned (.tuple #[]) ∧ ∃ vp' vm' ve', Td B g gm S (fieldR 7 c bs m).2.2 vp' vm' ve' (fieldR 7 c bs m).1 (fieldR 7 c bs m).2.1 w' := by
  have T := Lib.hid t
  have HF : Hid (fieldR 7 c bs m = ((manyR markR c bs).1, (manyR markR c bs).2.1, { m with ms := (manyR markR c bs).2.2 })) := rfl
  have C := Lib.hid (wt_list_mk g S c bs w t.rd (fun b hb => (t.fr b hb).1) hm)
  obtain ⟨⟨c1, b1, x⟩, ha⟩ : ∃ a, manyR markR c bs = a := ⟨_, rfl⟩
  rw [ha] at C HF
  dsimp only at C HF
  clear ha t hm
  go_enter Tryz.func139, Tryz.ntmps139
  go_wp2_with (first
    | (go_at_call 140; refine C.out.mono ?_; rintro e w1 ⟨v1, rfl, l1⟩
       have L1 := Lib.hid l1
       have T1 := Lib.hid (T.out.step l1.rd l1.ho)
       have k := T1.out.mb.bx.cell_ (i := 10) rfl
       have z := T1.out.mb.bx.frozen 10
       have h1 := l1.shape
       obtain ⟨A1, cp, rfl⟩ := h1
       clear l1))
  go_end0
  rw [HF.out]
  have NG : ∀ b, Lp B.heap.size g gm S b → ¬ one gm b := fun b hb h => by have h' : b = gm := h; exact hb.2.2.1 h'
  refine ⟨rfl, vp, _, ve, T1.out.put (onef_set (Only.refl _ w1) 10 _) (by simpa using T1.out.mb.bx.set_ 10 (.slice A1 x.length cp)) ⟨(T1.out.lists (onef_set (Only.refl _ w1) 10 _)).p, (T.out.list L1.out).only (onef_set (Only.refl _ w1) 10 _) NG, (T1.out.lists (onef_set (Only.refl _ w1) 10 _)).r⟩⟩
set_option maxHeartbeats 1600000 in
theorem wt_field8 (B : World) (g gm : Nat) (S : Nat → Prop) (m : Ms) (vp vm ve : Value) (c : Int) (bs : List UInt8) (w : World) (t : Td B g gm S m vp vm ve c bs w) (hm : bs.length ≤ 140737488355328) :
    Calls Tryz.prog 144 #[.pointer (some ⟨g, 0, none⟩), .pointer (some ⟨gm, 0, none⟩)] w fun e w' => e = .returned (.tuple #[]) ∧ ∃ vp' vm' ve', Td B g gm S (fieldR 8 c bs m).2.2 vp' vm' ve' (fieldR 8 c bs m).1 (fieldR 8 c bs m).2.1 w' := by
  have T := Lib.hid t
  have HF : Hid (fieldR 8 c bs m = ((manyR entR c bs).1, (manyR entR c bs).2.1, { m with es := (manyR entR c bs).2.2 })) := rfl
  have C := Lib.hid (wt_list_en g S c bs w t.rd (fun b hb => (t.fr b hb).1) hm)
  obtain ⟨⟨c1, b1, x⟩, ha⟩ : ∃ a, manyR entR c bs = a := ⟨_, rfl⟩
  rw [ha] at C HF
  dsimp only at C HF
  clear ha t hm
  go_enter Tryz.func144, Tryz.ntmps144
  go_wp2_with (first
    | (go_at_call 145; refine C.out.mono ?_; rintro e w1 ⟨v1, rfl, l1⟩
       have L1 := Lib.hid l1
       have T1 := Lib.hid (T.out.step l1.rd l1.ho)
       have k := T1.out.mb.bx.cell_ (i := 11) rfl
       have z := T1.out.mb.bx.frozen 11
       have h1 := l1.shape
       obtain ⟨A1, cp, rfl⟩ := h1
       clear l1))
  go_end0
  rw [HF.out]
  have NG : ∀ b, Lp B.heap.size g gm S b → ¬ one gm b := fun b hb h => by have h' : b = gm := h; exact hb.2.2.1 h'
  refine ⟨rfl, vp, vm, _, T1.out.put (onef_set (Only.refl _ w1) 11 _) (by simpa using T1.out.mb.bx.set_ 11 (.slice A1 x.length cp)) ⟨(T1.out.lists (onef_set (Only.refl _ w1) 11 _)).p, (T1.out.lists (onef_set (Only.refl _ w1) 11 _)).q, (T.out.list L1.out).only (onef_set (Only.refl _ w1) 11 _) NG⟩⟩
def tkF (i : Nat) : Nat :=
  match i with
  | 0 => 115
  | 1 => 119
  | 2 => 123
  | 3 => 127
  | 4 => 130
  | 5 => 132
  | 6 => 135
  | 7 => 139
  | _ => 144
def ptF (i : Nat) : Nat :=
  match i with
  | 0 => 113
  | 1 => 117
  | 2 => 121
  | 3 => 125
  | 4 => 129
  | 5 => 131
  | 6 => 133
  | 7 => 137
  | _ => 141
theorem take_enter (i : Nat) (hi : i < 9) (args : Array Value) (w : World) : (callFunc (tkF i) args).run Tryz.prog w = .ok (.enter (tkF i) args) w := by
  rcases nine_ways hi with rfl | rfl | rfl | rfl | rfl | rfl | rfl | rfl | rfl <;> exact enter_of _ (by kernel_rfl) args w
theorem put_enter (i : Nat) (hi : i < 9) (args : Array Value) (w : World) : (callFunc (ptF i) args).run Tryz.prog w = .ok (.enter (ptF i) args) w := by
  rcases nine_ways hi with rfl | rfl | rfl | rfl | rfl | rfl | rfl | rfl | rfl <;> exact enter_of _ (by kernel_rfl) args w
theorem wt_field (i : Nat) (hi : i < 9) (B : World) (g gm : Nat) (S : Nat → Prop) (m : Ms) (vp vm ve : Value) (c : Int) (bs : List UInt8) (w : World) (t : Td B g gm S m vp vm ve c bs w) (hm : bs.length ≤ 140737488355328) :
    Calls Tryz.prog (tkF i) #[.pointer (some ⟨g, 0, none⟩), .pointer (some ⟨gm, 0, none⟩)] w fun e w' => e = .returned (.tuple #[]) ∧ ∃ vp' vm' ve', Td B g gm S (fieldR i c bs m).2.2 vp' vm' ve' (fieldR i c bs m).1 (fieldR i c bs m).2.1 w' := by
  rcases nine_ways hi with rfl | rfl | rfl | rfl | rfl | rfl | rfl | rfl | rfl
  · exact wt_field0 B g gm S m vp vm ve c bs w t hm
  · exact wt_field1 B g gm S m vp vm ve c bs w t hm
  · exact wt_field2 B g gm S m vp vm ve c bs w t hm
  · exact wt_field3 B g gm S m vp vm ve c bs w t hm
  · exact wt_field4 B g gm S m vp vm ve c bs w t hm
  · exact wt_field5 B g gm S m vp vm ve c bs w t hm
  · exact wt_field6 B g gm S m vp vm ve c bs w t hm
  · exact wt_field7 B g gm S m vp vm ve c bs w t hm
  · exact wt_field8 B g gm S m vp vm ve c bs w t hm
def formsA : Array Value := #[.func (.func 113) #[] #[], .func (.func 115) #[] #[], .func (.func 117) #[] #[], .func (.func 119) #[] #[], .func (.func 121) #[] #[], .func (.func 123) #[] #[], .func (.func 125) #[] #[], .func (.func 127) #[] #[], .func (.func 129) #[] #[], .func (.func 130) #[] #[], .func (.func 131) #[] #[], .func (.func 132) #[] #[], .func (.func 133) #[] #[], .func (.func 135) #[] #[], .func (.func 137) #[] #[], .func (.func 139) #[] #[], .func (.func 141) #[] #[], .func (.func 144) #[] #[]]
theorem run_index_form (i : Nat) (hi : i < 9) (w : World) :
    (Instr.index 136 (.agg formsA) (.int .i64 i)).run Tryz.prog w = .ok (.agg #[.func (.func (ptF i)) #[] #[], .func (.func (tkF i)) #[] #[]]) w := by
  obtain ⟨i0, hi0, hz0⟩ : ∃ i0, Tryz.prog.info? 135 = some i0 ∧ i0.size = 2 := by
    have : (Tryz.prog.info? 135).map (·.size) = some 2 := by kernel_rfl
    cases h : Tryz.prog.info? 135 with
    | none => rw [h] at this; cases this
    | some i0 => rw [h] at this; simp at this; exact ⟨i0, rfl, this⟩
  rcases nine_ways hi with rfl | rfl | rfl | rfl | rfl | rfl | rfl | rfl | rfl
  all_goals simp [formsA, tkF, ptF, Instr.index, asIntOf, run_underlying Tryz.underlying136, sizeOf, typeInfo, hi0, hz0, part, isAgg, run_underlying Tryz.underlying135]
set_option maxHeartbeats 1600000 in
theorem wi_forms (w : World) : Calls Tryz.prog 60 #[] w fun E w' => E = .returned (.agg formsA) ∧ Only none_ w w' := by
  have B := Lib.hid (Blk.new w 136 nils18)
  have F := Lib.hid (B.out.setRow formsA)
  have O := Lib.hid (((Only.refl none_ w).alloc (.cells nils18 136)).setRow (g := w.heap.size) (.inr (Nat.le_refl _)) formsA)
  go_enter Tryz.func60, Tryz.ntmps60
  go_upto_region 1 with fail
  refine wp_region_lit ?_
  go_wp2_with (first
    | (refine wpList_store_row rfl 136 _ _ rfl w.heap.size formsA rfl rfl 136 _ B.out (by kernel_rfl) rfl (by simp [formsA, Value.oneCell']) ?_))
  exact bodyPost_ret (results_cell_row rfl _ _ w.heap.size 136 _ (0, 0) _ rfl F.out Tryz.underlying136 rfl (by kernel_rfl)) rfl ⟨rfl, O.out⟩
end Go.Proofs.YtlieolehpmobfaaGreatDoor
end
section
namespace Go.Proofs.YtlieolehpmobfaaGreatDoor
open Go.RowKit
set_option linter.all false
set_option maxRecDepth 100000
def mkFit (x : Mk) : Prop := (0 ≤ x.a.c ∧ x.a.c < 4294967296) ∧ (0 ≤ x.a.s ∧ x.a.s < 256) ∧ x.k.size ≤ 16
theorem mkFit_of {x : Mk} (h : (isTop x || mkGood x) = true) : mkFit x := by
  rw [Bool.or_eq_true] at h
  rcases h with h | h
  · obtain ⟨a, k⟩ := x
    rw [isTop_same] at h
    have e := (mkSame_iff _ _).1 h
    injection e with e1 e2
    subst e1 e2
    exact ⟨by decide, by decide, by decide⟩
  · simp only [mkGood, stGood, stSite, Bool.and_eq_true, decide_eq_true_eq] at h
    refine ⟨?_, ?_, ?_⟩ <;> omega
theorem mkFit_good {x : Mk} (h : mkGood x = true) : mkFit x := mkFit_of (by rw [h, Bool.or_true])
theorem markB_len {x : Mk} (h : mkFit x) : (markB x).length ≤ 22 := by
  unfold markB
  rw [List.length_append, List.length_append, leBytes_len, leBytes_len, txtB_len]
  have := h.2.2; omega
theorem wcheck_zero {e : En} (h : enCheck e = 0) : (1 ≤ e.k.size ∧ e.k.size ≤ 16) ∧ (e.v.size ≤ 32 ∧ (e.d = true → e.v.size = 0)) ∧ (stGood e.s = true ∧ stGood e.a = true ∧ stLater e.s e.a = false) ∧
    (e.d = true → 1 ≤ e.p ∧ e.p ≤ 4095 ∧ 0 ≤ e.g ∧ e.g ≤ 2147483647) ∧ (e.d = false → e.a = e.s ∧ e.p = 0 ∧ e.g = 0) := by
  unfold enCheck at h
  split at h
  · cases h
  next h1 =>
  split at h
  · cases h
  next h2 =>
  split at h
  · cases h
  next h3 =>
  split at h
  · cases h
  next h4 =>
  simp only [enKeyBad, Bool.or_eq_true, decide_eq_true_eq] at h1
  simp only [enValBad, Bool.or_eq_true, Bool.and_eq_true, decide_eq_true_eq] at h2
  simp only [enStBad, Bool.or_eq_true, Bool.not_eq_true', Bool.and_eq_false_iff] at h3
  simp only [enRestBad, Bool.not_eq_true', Bool.not_eq_false] at h4
  refine ⟨by omega, ⟨by omega, fun hd => Classical.byContradiction fun h => h2 (.inr ⟨hd, by omega⟩)⟩, ⟨?_, ?_, ?_⟩, fun hd => ?_, fun hd => ?_⟩
  · cases h : stGood e.s
    · exact absurd (.inl (.inl h)) h3
    · rfl
  · cases h : stGood e.a
    · exact absurd (.inl (.inr h)) h3
    · rfl
  · cases h : stLater e.s e.a
    · rfl
    · exact absurd (.inr h) h3
  · rw [hd] at h4
    simp only [if_true, enCert, Bool.and_eq_true, decide_eq_true_eq] at h4
    omega
  · rw [hd] at h4
    simp only [Bool.false_eq_true, if_false, enLive, Bool.and_eq_true, beq_iff_eq, stEq_iff] at h4
    exact ⟨h4.1.1, h4.1.2, h4.2⟩
theorem enNe_en {e : En} (h : enOk e = true) : (enNe e).en = e ∧ (enNe e).ok ∧ e.k.size ≤ 16 ∧ e.v.size ≤ 32 := by
  have hc : enCheck e = 0 := by simpa [enOk] using h
  obtain ⟨⟨k1, k2⟩, ⟨v1, v2⟩, ⟨g1, g2, _⟩, hd, hl⟩ := wcheck_zero hc
  simp only [stGood, stSite, Bool.and_eq_true, decide_eq_true_eq] at g1 g2
  obtain ⟨k, v, d, ⟨sc, ss⟩, ⟨ac, as_⟩, p, g⟩ := e
  dsimp only at *
  have hp : 0 ≤ p ∧ p < 65536 ∧ 0 ≤ g ∧ g < 4294967296 := by
    cases d with
    | true => have := hd rfl; omega
    | false => have := hl rfl; omega
  refine ⟨?_, ⟨?_, ?_, ?_, ?_, ?_, ?_, ?_, ?_⟩, k2, v1⟩
  · simp only [enNe, Ne.en]
    rw [Int.toNat_of_nonneg (by omega), Int.toNat_of_nonneg (by omega), Int.toNat_of_nonneg (by omega), Int.toNat_of_nonneg (by omega), Int.toNat_of_nonneg (by omega), Int.toNat_of_nonneg (by omega)]
  all_goals (simp only [enNe]; omega)
theorem entB_len {e : En} (h : enOk e = true) : (entB e).length ≤ 67 := by
  have := enNe_en h
  unfold entB layB enNe
  simp only [List.length_append, txtB_len, leBytes_len, List.length_cons, List.length_nil]
  omega
set_option maxHeartbeats 400000 in
theorem wp_node (B : World) (g : Nat) (n : Int) (bs : List UInt8) (v : Value) (w : World) (hn : nodeB n = true) (s : Lw B g bs v w) (hl : bs.length ≤ 900000) :
    Calls Tryz.prog 114 #[.pointer (some ⟨g, 0, none⟩), .int .i64 n] w fun E w' => E = .returned (.tuple #[]) ∧ ∃ v', Lw B g (bs ++ nodeL n) v' w' := by
  simp only [nodeB, Bool.and_eq_true, decide_eq_true_eq] at hn
  obtain ⟨q, rfl⟩ : ∃ q : Nat, n = q := ⟨n.toNat, by omega⟩
  have hw : IntKind.u64.wrap (q : Int) = (q : Int) := IntWalk.u64_in _ (by omega)
  have C := Lib.hid (lw_num s q 1 (by omega) (by omega) (by omega))
  have HE : Hid (nodeL (q : Int) = leBytes q 1) := by rw [Hid, nodeL, Int.toNat_natCast]
  clear hn s hl
  go_enter Tryz.func114, Tryz.ntmps114
  go_wp2_with (first
    | (go_at_call 118; refine C.out.mono ?_; rintro e w1 ⟨rfl, v1, l1, o1⟩; have L1 := Lib.hid l1; clear l1 o1))
  go_end0
  rw [HE.out]
  exact ⟨rfl, v1, L1.out⟩
theorem trd {w : World} {g : Nat} {t : TypeId} {a b c : Value} (x : Blk w g t #[a, b, c]) : w.cell? ⟨g, 0, none⟩ = some a ∧ w.cell? ⟨g, 1, none⟩ = some b ∧ w.cell? ⟨g, 2, none⟩ = some c := ⟨x.cell_ rfl, x.cell_ rfl, x.cell_ rfl⟩
set_option maxHeartbeats 1600000 in
theorem wp_mark (B : World) (g : Nat) (x : Mk) (bs : List UInt8) (v : Value) (w : World) (hx : mkFit x) (s : Lw B g bs v w) (hl : bs.length ≤ 900000) :
    Calls Tryz.prog 134 #[.pointer (some ⟨g, 0, none⟩), .agg #[.int .i64 x.a.c, .int .i64 x.a.s, .string x.k]] w fun E w' => E = .returned (.tuple #[]) ∧ ∃ v', Lw B g (bs ++ markB x) v' w' := by
  obtain ⟨⟨xc, xs⟩, xk⟩ := x
  obtain ⟨⟨h1, h2⟩, ⟨h3, h4⟩, h5⟩ := hx
  dsimp only at h1 h2 h3 h4 h5
  obtain ⟨p, rfl⟩ : ∃ p : Nat, xc = p := ⟨xc.toNat, by omega⟩
  obtain ⟨q, rfl⟩ : ∃ q : Nat, xs = q := ⟨xs.toNat, by omega⟩
  show Calls Tryz.prog 134 #[.pointer (some ⟨g, 0, none⟩), .agg #[.int .i64 (p : Int), .int .i64 (q : Int), .string xk]] w _
  have HF : Hid (markB ⟨⟨(p : Int), (q : Int)⟩, xk⟩ = leBytes p 4 ++ leBytes q 1 ++ txtB xk) := by rw [Hid, markB]; simp only [Int.toNat_natCast]
  have u1 : IntKind.u64.wrap (p : Int) = (p : Int) := IntWalk.u64_in _ (by omega)
  have u2 : IntKind.u64.wrap (q : Int) = (q : Int) := IntWalk.u64_in _ (by omega)
  obtain ⟨b1, e1⟩ : ∃ b, bs ++ leBytes p 4 = b := ⟨_, rfl⟩
  obtain ⟨b2, e2⟩ : ∃ b, b1 ++ leBytes q 1 = b := ⟨_, rfl⟩
  obtain ⟨b3, e3⟩ : ∃ b, b2 ++ txtB xk = b := ⟨_, rfl⟩
  have EB : Hid (bs ++ markB ⟨⟨(p : Int), (q : Int)⟩, xk⟩ = b3) := by
    rw [Hid, HF.out, ← e3, ← e2, ← e1]; simp only [List.append_assoc]
  have n1 : b1.length = bs.length + 4 := by rw [← e1, List.length_append, leBytes_len]
  have n2 : b2.length = b1.length + 1 := by rw [← e2, List.length_append, leBytes_len]
  have HN : Hid (bs.length ≤ 1000000 ∧ b1.length ≤ 1000000 ∧ b2.length ≤ 1000000) := by refine ⟨?_, ?_, ?_⟩ <;> omega
  have E1 := Lib.hid e1
  have E2 := Lib.hid e2
  have E3 := Lib.hid e3
  have HK : Hid (xk.size ≤ 255) := by simp only [Hid]; omega
  have A1 : Hid (p < 2 ^ (8 * 4)) := by simp only [Hid]; omega
  have A2 : Hid (q < 2 ^ (8 * 1)) := by simp only [Hid]; omega
  have L0 := Lib.hid (s.keep (((Only.refl none_ w).alloc (.cells #[.int .i64 (p : Int), .int .i64 (q : Int), .string xk] 41)).drew))
  have X0 := Lib.hid (Blk.new w 41 #[.int .i64 (p : Int), .int .i64 (q : Int), .string xk]).drew
  have y0 := trd X0.out
  clear s hl h1 h2 h3 h4 h5 e1 e2 e3 n1 n2
  have tok1 : True := trivial
  go_enter Tryz.func134, Tryz.ntmps134
  go_wp2_with fail
  go_region_held3 (fun w' => w'.cell? ⟨w.heap.size, 0, none⟩ = some (.int .i64 (p : Int)) ∧ w'.cell? ⟨w.heap.size, 1, none⟩ = some (.int .i64 (q : Int)) ∧ w'.cell? ⟨w.heap.size, 2, none⟩ = some (.string xk))
    (first | with_reducible exact y0 | with_reducible exact y1 | with_reducible exact y2 | with_reducible exact y3)
    (first
      | (go_at_call 118; have _t := tok1; refine (lw_num L0.out p 4 (by omega) A1.out HN.out.1).mono ?_; rintro e w1 ⟨rfl, v1, l1, o1⟩
         have L1 : Hid (Lw B g b1 v1 w1) := E1.out ▸ l1
         have X1 := Lib.hid (L0.out.box X0.out o1 (by decide) (by decide))
         have y1 := trd X1.out
         clear l1 o1 tok1
         have tok2 : True := trivial)
      | (go_at_call 118; have _t := tok2; refine (lw_num L1.out q 1 (by omega) A2.out HN.out.2.1).mono ?_; rintro e w2 ⟨rfl, v2, l2, o2⟩
         have L2 : Hid (Lw B g b2 v2 w2) := E2.out ▸ l2
         have X2 := Lib.hid (L1.out.box X1.out o2 (by decide) (by decide))
         have y2 := trd X2.out
         clear l2 o2 tok2)
      | (go_at_call 234; refine (lw_text L2.out xk HK.out HN.out.2.2).mono ?_; rintro e w3 ⟨rfl, v3, l3, o3⟩
         have L3 : Hid (Lw B g b3 v3 w3) := E3.out ▸ l3
         have X3 := Lib.hid (L2.out.box X2.out o3 (by decide) (by decide))
         have y3 := trd X3.out
         clear l3 o3))
  all_goals go_wp2_with fail
  go_end0
  rw [EB.out]
  exact ⟨rfl, v3, L3.out⟩
theorem wp_ent (B : World) (g : Nat) (e : En) (bs : List UInt8) (v : Value) (w : World) (he : enOk e = true) (s : Lw B g bs v w) (hl : bs.length ≤ 900000) :
    Calls Tryz.prog 143 #[.pointer (some ⟨g, 0, none⟩), .agg #[.string e.k, .string e.v, .bool e.d, .int .i64 e.s.c, .int .i64 e.s.s, .int .i64 e.a.c, .int .i64 e.a.s, .int .i64 e.p, .int .i64 e.g]] w fun E w' => E = .returned (.tuple #[]) ∧ ∃ v', Lw B g (bs ++ entB e) v' w' := by
  obtain ⟨h1, h2, _⟩ := enNe_en he
  have := lay_any B g (enNe e) bs v w h2 s hl
  rw [h1] at this
  exact this
theorem flatB_len {α : Type} {f : α → List UInt8} {l : List α} {m : Nat} (h : ∀ x ∈ l, (f x).length ≤ m) : (l.flatMap f).length ≤ l.length * m := by
  induction l with
  | nil => simp
  | cons x r ih =>
    have h1 := h x (List.mem_cons_self ..)
    have h2 := ih (fun y hy => h y (List.mem_cons_of_mem _ hy))
    rw [List.flatMap_cons, List.length_append, List.length_cons, Nat.succ_mul]
    omega
theorem nodeL_len {n : Int} (h : nodeB n = true) : (nodeL n).length ≤ 1 := by rw [nodeL, leBytes_len]; exact Nat.le_refl _
set_option maxHeartbeats 1600000 in
theorem wp_list_int (B : World) (g : Nat) (S : Nat → Prop) (l : List Int) (u : Value) (bs : List UInt8) (v : Value) (w : World) (hc0 : Cel B S u l.length 1 (l.flatMap intI)) (hx : ∀ x ∈ l, nodeB x = true) (h8 : l.length ≤ 8) (s : Lw B g bs v w) (hl : bs.length ≤ 800000) :
    Calls Tryz.prog 126 #[.pointer (some ⟨g, 0, none⟩), u, .func (.func 114) #[] #[]] w fun E w' => E = .returned (.tuple #[]) ∧ ∃ v', Lw B g (bs ++ listB nodeL l) v' w' := by
  obtain ⟨n, hn⟩ : ∃ n, l.length = n := ⟨_, rfl⟩
  rw [hn] at hc0 h8
  obtain ⟨A, c, rfl, _⟩ := id hc0
  have HA := Lib.hid (fun (w' : World) (o : Only none_ B w') => hc0.only o (fun _ _ h => h))
  have HN := Lib.hid hn
  have HXS := Lib.hid hx
  have hw : IntKind.u64.wrap (n : Int) = (n : Int) := IntWalk.u64_in _ (by omega)
  have C := Lib.hid (lw_num s n 1 (by omega) (by omega) (by omega))
  obtain ⟨b1, e1⟩ : ∃ b, bs ++ leBytes n 1 = b := ⟨_, rfl⟩
  have n1 : b1.length ≤ 800001 := by rw [← e1, List.length_append, leBytes_len]; omega
  have HE : Hid (bs ++ listB nodeL l = b1 ++ l.flatMap nodeL) := by rw [Hid, listB, hn, ← e1]; simp only [List.append_assoc]
  have N1 := Lib.hid n1
  rw [e1] at C
  clear hc0 hx s hl hn e1 n1
  go_enter Tryz.func126, Tryz.ntmps126
  go_wp2_with (first
    | (go_at_call 118; refine C.out.mono ?_; rintro e w1 ⟨rfl, v1, l1, o1⟩; have L1 := Lib.hid l1; clear l1 o1))
  go_loopw [15] (fun s15 wr => ∃ i : Nat, i ≤ n ∧ s15 = .int .i64 i ∧ ∃ v', Lw B g (b1 ++ (l.take i).flatMap nodeL) v' wr) (fun s15 _ => n - (intOf s15).toNat)
  case atStart => exact ⟨0, by omega, rfl, v1, by simpa using L1.out⟩
  case round =>
    obtain ⟨i, hi, rfl, v', ls⟩ := hrel
    by_cases hlt : i < n
    · have hin : i < l.length := by have := HN.out; omega
      obtain ⟨x, hx⟩ : ∃ x, l[i]? = some x := ⟨_, List.getElem?_eq_getElem hin⟩
      obtain ⟨b, off, hA, _, _, hc⟩ := in_elem intI_len (by decide) (HA.out _ ls.ho) HN.out hx
      subst hA
      have HX := Lib.hid (HXS.out x (List.mem_of_getElem? hx))
      have HLB : Hid ((b1 ++ (l.take i).flatMap nodeL).length ≤ 900000) := by
        have h1 := flatB_len (f := nodeL) (l := l.take i) (m := 1) (fun y hy => nodeL_len (HXS.out y (List.mem_of_mem_take hy)))
        have h2 := N1.out
        rw [List.length_take] at h1
        rw [Hid, List.length_append]
        omega
      have HTK : Hid (b1 ++ (l.take (i + 1)).flatMap nodeL = (b1 ++ (l.take i).flatMap nodeL) ++ nodeL x) := by
        rw [Hid, List.take_add_one, hx, List.flatMap_append]; simp
      have LK := Lib.hid ls
      have k0 := hc _ (Only.refl none_ _) 0 (.int .i64 x) rfl
      rw [Nat.mul_one, Nat.add_zero] at k0
      clear hc hx ls
      go_wp2_with (first
        | (go_at_call 114; refine (wp_node B g x _ _ _ HX.out LK.out HLB.out).mono ?_; rintro E w9 ⟨rfl, v9, l9⟩; have L9 := Lib.hid l9; clear l9))
      go_roundw
      case rel => exact ⟨i + 1, by omega, by go_num, v9, by rw [HTK.out]; exact L9.out⟩
      case measure => simp [intOf]; omega
    · have hin : l.take i = l := List.take_of_length_le (by have := HN.out; omega)
      rw [hin] at ls
      have L9 := Lib.hid ls
      clear hin ls
      go_wp2_with fail
      go_end0
      rw [HE.out]
      exact ⟨rfl, v', L9.out⟩
set_option maxHeartbeats 1600000 in
theorem wp_list_mk (B : World) (g : Nat) (S : Nat → Prop) (l : List Mk) (u : Value) (bs : List UInt8) (v : Value) (w : World) (hc0 : Cel B S u l.length 3 (l.flatMap mkI)) (hx : ∀ x ∈ l, mkFit x) (h8 : l.length ≤ 8) (s : Lw B g bs v w) (hl : bs.length ≤ 800000) :
    Calls Tryz.prog 138 #[.pointer (some ⟨g, 0, none⟩), u, .func (.func 134) #[] #[]] w fun E w' => E = .returned (.tuple #[]) ∧ ∃ v', Lw B g (bs ++ listB markB l) v' w' := by
  obtain ⟨n, hn⟩ : ∃ n, l.length = n := ⟨_, rfl⟩
  rw [hn] at hc0 h8
  obtain ⟨A, c, rfl, _⟩ := id hc0
  have HA := Lib.hid (fun (w' : World) (o : Only none_ B w') => hc0.only o (fun _ _ h => h))
  have HN := Lib.hid hn
  have HXS := Lib.hid hx
  have hw : IntKind.u64.wrap (n : Int) = (n : Int) := IntWalk.u64_in _ (by omega)
  have C := Lib.hid (lw_num s n 1 (by omega) (by omega) (by omega))
  obtain ⟨b1, e1⟩ : ∃ b, bs ++ leBytes n 1 = b := ⟨_, rfl⟩
  have n1 : b1.length ≤ 800001 := by rw [← e1, List.length_append, leBytes_len]; omega
  have HE : Hid (bs ++ listB markB l = b1 ++ l.flatMap markB) := by rw [Hid, listB, hn, ← e1]; simp only [List.append_assoc]
  have N1 := Lib.hid n1
  rw [e1] at C
  clear hc0 hx s hl hn e1 n1
  go_enter Tryz.func138, Tryz.ntmps138
  go_wp2_with (first
    | (go_at_call 118; refine C.out.mono ?_; rintro e w1 ⟨rfl, v1, l1, o1⟩; have L1 := Lib.hid l1; clear l1 o1))
  go_loopw [15] (fun s15 wr => ∃ i : Nat, i ≤ n ∧ s15 = .int .i64 i ∧ ∃ v', Lw B g (b1 ++ (l.take i).flatMap markB) v' wr) (fun s15 _ => n - (intOf s15).toNat)
  case atStart => exact ⟨0, by omega, rfl, v1, by simpa using L1.out⟩
  case round =>
    obtain ⟨i, hi, rfl, v', ls⟩ := hrel
    by_cases hlt : i < n
    · have hin : i < l.length := by have := HN.out; omega
      obtain ⟨x, hx⟩ : ∃ x, l[i]? = some x := ⟨_, List.getElem?_eq_getElem hin⟩
      obtain ⟨b, off, hA, _, _, hc⟩ := in_elem mkI_len (by decide) (HA.out _ ls.ho) HN.out hx
      subst hA
      have HC : Hid (∀ j u, (#[.int .i64 x.a.c, .int .i64 x.a.s, .string x.k] : Array Value).toList[j]? = some u → wr.cell? ⟨b, off + i * 3 + j, none⟩ = some u) := fun j u hu => hc _ (Only.refl none_ _) j u hu
      have HX := Lib.hid (HXS.out x (List.mem_of_getElem? hx))
      have HLB : Hid ((b1 ++ (l.take i).flatMap markB).length ≤ 900000) := by
        have h1 := flatB_len (f := markB) (l := l.take i) (m := 22) (fun y hy => markB_len (HXS.out y (List.mem_of_mem_take hy)))
        have h2 := N1.out
        rw [List.length_take] at h1
        rw [Hid, List.length_append]
        omega
      have HTK : Hid (b1 ++ (l.take (i + 1)).flatMap markB = (b1 ++ (l.take i).flatMap markB) ++ markB x) := by
        rw [Hid, List.take_add_one, hx, List.flatMap_append]; simp
      have BX := Lib.hid (Blk.new wr 41 #[.int .i64 x.a.c, .int .i64 x.a.s, .string x.k])
      have LK := Lib.hid (ls.keep ((Only.refl none_ wr).alloc (.cells #[.int .i64 x.a.c, .int .i64 x.a.s, .string x.k] 41)))
      clear hc hx ls
      go_wp2_with (first
        | (refine wpl_piece rfl 41 _ rfl b (off + i * 3) rfl #[.int .i64 x.a.c, .int .i64 x.a.s, .string x.k] _ HC.out Tryz.underlying41 rfl (by kernel_rfl) ?_)
        | (refine wpl_new rfl rfl 41 rfl _ _ rfl #[.int .i64 x.a.c, .int .i64 x.a.s, .string x.k] rfl rfl (by kernel_rfl) (mkI_one5 x) ?_)
        | (refine wpl_load rfl 41 _ rfl wr.heap.size rfl 41 #[.int .i64 x.a.c, .int .i64 x.a.s, .string x.k] _ BX.out Tryz.underlying41 rfl (by kernel_rfl) ?_)
        | (go_at_call 134; refine (wp_mark B g x _ _ _ HX.out LK.out HLB.out).mono ?_; rintro E w9 ⟨rfl, v9, l9⟩; have L9 := Lib.hid l9; clear l9))
      go_roundw
      case rel => exact ⟨i + 1, by omega, by go_num, v9, by rw [HTK.out]; exact L9.out⟩
      case measure => simp [intOf]; omega
    · have hin : l.take i = l := List.take_of_length_le (by have := HN.out; omega)
      rw [hin] at ls
      have L9 := Lib.hid ls
      clear hin ls
      go_wp2_with fail
      go_end0
      rw [HE.out]
      exact ⟨rfl, v', L9.out⟩
set_option maxHeartbeats 1600000 in
theorem wp_list_en (B : World) (g : Nat) (S : Nat → Prop) (l : List En) (u : Value) (bs : List UInt8) (v : Value) (w : World) (hc0 : Cel B S u l.length 9 (l.flatMap enRow)) (hx : ∀ x ∈ l, enOk x = true) (h8 : l.length ≤ 8) (s : Lw B g bs v w) (hl : bs.length ≤ 800000) :
    Calls Tryz.prog 142 #[.pointer (some ⟨g, 0, none⟩), u, .func (.func 143) #[] #[]] w fun E w' => E = .returned (.tuple #[]) ∧ ∃ v', Lw B g (bs ++ listB entB l) v' w' := by
  obtain ⟨n, hn⟩ : ∃ n, l.length = n := ⟨_, rfl⟩
  rw [hn] at hc0 h8
  obtain ⟨A, c, rfl, _⟩ := id hc0
  have HA := Lib.hid (fun (w' : World) (o : Only none_ B w') => hc0.only o (fun _ _ h => h))
  have HN := Lib.hid hn
  have HXS := Lib.hid hx
  have hw : IntKind.u64.wrap (n : Int) = (n : Int) := IntWalk.u64_in _ (by omega)
  have C := Lib.hid (lw_num s n 1 (by omega) (by omega) (by omega))
  obtain ⟨b1, e1⟩ : ∃ b, bs ++ leBytes n 1 = b := ⟨_, rfl⟩
  have n1 : b1.length ≤ 800001 := by rw [← e1, List.length_append, leBytes_len]; omega
  have HE : Hid (bs ++ listB entB l = b1 ++ l.flatMap entB) := by rw [Hid, listB, hn, ← e1]; simp only [List.append_assoc]
  have N1 := Lib.hid n1
  rw [e1] at C
  clear hc0 hx s hl hn e1 n1
  go_enter Tryz.func142, Tryz.ntmps142
  go_wp2_with (first
    | (go_at_call 118; refine C.out.mono ?_; rintro e w1 ⟨rfl, v1, l1, o1⟩; have L1 := Lib.hid l1; clear l1 o1))
  go_loopw [15] (fun s15 wr => ∃ i : Nat, i ≤ n ∧ s15 = .int .i64 i ∧ ∃ v', Lw B g (b1 ++ (l.take i).flatMap entB) v' wr) (fun s15 _ => n - (intOf s15).toNat)
  case atStart => exact ⟨0, by omega, rfl, v1, by simpa using L1.out⟩
  case round =>
    obtain ⟨i, hi, rfl, v', ls⟩ := hrel
    by_cases hlt : i < n
    · have hin : i < l.length := by have := HN.out; omega
      obtain ⟨x, hx⟩ : ∃ x, l[i]? = some x := ⟨_, List.getElem?_eq_getElem hin⟩
      obtain ⟨b, off, hA, _, _, hc⟩ := in_elem enRow_length (by decide) (HA.out _ ls.ho) HN.out hx
      subst hA
      have HC : Hid (∀ j u, (#[.string x.k, .string x.v, .bool x.d, .int .i64 x.s.c, .int .i64 x.s.s, .int .i64 x.a.c, .int .i64 x.a.s, .int .i64 x.p, .int .i64 x.g] : Array Value).toList[j]? = some u → wr.cell? ⟨b, off + i * 9 + j, none⟩ = some u) := fun j u hu => hc _ (Only.refl none_ _) j u hu
      have HX := Lib.hid (HXS.out x (List.mem_of_getElem? hx))
      have HLB : Hid ((b1 ++ (l.take i).flatMap entB).length ≤ 900000) := by
        have h1 := flatB_len (f := entB) (l := l.take i) (m := 67) (fun y hy => entB_len (HXS.out y (List.mem_of_mem_take hy)))
        have h2 := N1.out
        rw [List.length_take] at h1
        rw [Hid, List.length_append]
        omega
      have HTK : Hid (b1 ++ (l.take (i + 1)).flatMap entB = (b1 ++ (l.take i).flatMap entB) ++ entB x) := by
        rw [Hid, List.take_add_one, hx, List.flatMap_append]; simp
      have BX := Lib.hid (Blk.new wr 147 #[.string x.k, .string x.v, .bool x.d, .int .i64 x.s.c, .int .i64 x.s.s, .int .i64 x.a.c, .int .i64 x.a.s, .int .i64 x.p, .int .i64 x.g])
      have LK := Lib.hid (ls.keep ((Only.refl none_ wr).alloc (.cells #[.string x.k, .string x.v, .bool x.d, .int .i64 x.s.c, .int .i64 x.s.s, .int .i64 x.a.c, .int .i64 x.a.s, .int .i64 x.p, .int .i64 x.g] 147)))
      clear hc hx ls
      go_wp2_with (first
        | (refine wpl_piece rfl 147 _ rfl b (off + i * 9) rfl #[.string x.k, .string x.v, .bool x.d, .int .i64 x.s.c, .int .i64 x.s.s, .int .i64 x.a.c, .int .i64 x.a.s, .int .i64 x.p, .int .i64 x.g] _ HC.out Tryz.underlying147 rfl (by kernel_rfl) ?_)
        | (refine wpl_new rfl rfl 147 rfl _ _ rfl #[.string x.k, .string x.v, .bool x.d, .int .i64 x.s.c, .int .i64 x.s.s, .int .i64 x.a.c, .int .i64 x.a.s, .int .i64 x.p, .int .i64 x.g] rfl rfl (by kernel_rfl) (en_cells_one x) ?_)
        | (refine wpl_load rfl 147 _ rfl wr.heap.size rfl 147 #[.string x.k, .string x.v, .bool x.d, .int .i64 x.s.c, .int .i64 x.s.s, .int .i64 x.a.c, .int .i64 x.a.s, .int .i64 x.p, .int .i64 x.g] _ BX.out Tryz.underlying147 rfl (by kernel_rfl) ?_)
        | (go_at_call 143; refine (wp_ent B g x _ _ _ HX.out LK.out HLB.out).mono ?_; rintro E w9 ⟨rfl, v9, l9⟩; have L9 := Lib.hid l9; clear l9))
      go_roundw
      case rel => exact ⟨i + 1, by omega, by go_num, v9, by rw [HTK.out]; exact L9.out⟩
      case measure => simp [intOf]; omega
    · have hin : l.take i = l := List.take_of_length_le (by have := HN.out; omega)
      rw [hin] at ls
      have L9 := Lib.hid ls
      clear hin ls
      go_wp2_with fail
      go_end0
      rw [HE.out]
      exact ⟨rfl, v', L9.out⟩
def fits (m : Ms) (i : Nat) : Prop :=
  match i with
  | 0 => nodeB m.pe = true
  | 1 => 0 ≤ m.hp ∧ m.hp ≤ 8
  | 2 => True
  | 3 => m.ps.length ≤ 8 ∧ ∀ x ∈ m.ps, nodeB x = true
  | 4 => 0 ≤ m.nu ∧ m.nu ≤ 4294967295
  | 5 => m.su < 18446744073709551616
  | 6 => mkFit m.mr
  | 7 => m.ms.length ≤ 8 ∧ ∀ x ∈ m.ms, mkFit x
  | _ => m.es.length ≤ 8 ∧ ∀ x ∈ m.es, enOk x = true
theorem fieldB_len {m : Ms} {i : Nat} (h : fits m i) : (fieldB m i).length ≤ 537 := by
  unfold fits at h
  unfold fieldB
  split at h
  all_goals simp only [nodeL, leBytes_len, listB, List.length_append, List.length_cons, List.length_nil]
  all_goals try omega
  · have := flatB_len (f := nodeL) (l := m.ps) (m := 1) (fun y hy => nodeL_len (h.2 y hy)); omega
  · have := markB_len h; omega
  · have := flatB_len (f := markB) (l := m.ms) (m := 22) (fun y hy => markB_len (h.2 y hy)); omega
  · have := flatB_len (f := entB) (l := m.es) (m := 67) (fun y hy => entB_len (h.2 y hy)); omega
set_option maxHeartbeats 1600000 in
theorem wp_field0 (B : World) (g gm : Nat) (S : Nat → Prop) (m : Ms) (vp vm ve : Value) (bs : List UInt8) (v : Value) (w : World) (hb : Blk B gm 45 #[.int .i64 m.kd, .int .i64 m.pe, .int .i64 m.hp, .bool m.hi, vp, .int .i64 m.nu, .int .u64 (m.su : Int), .int .i64 m.mr.a.c, .int .i64 m.mr.a.s, .string m.mr.k, vm, ve]) (hm : Ml S m vp vm ve B) (hf : fits m 0) (s : Lw B g bs v w) (hl : bs.length ≤ 100000) :
    Calls Tryz.prog 113 #[.pointer (some ⟨g, 0, none⟩), .pointer (some ⟨gm, 0, none⟩)] w fun e w' => e = .returned (.tuple #[]) ∧ ∃ v', Lw B g (bs ++ fieldB m 0) v' w' := by
  have xb := hb.only s.ho (fun h => h)
  have C := Lib.hid (wp_node B g m.pe bs v w hf s (by omega))
  have k1 := xb.cell_ (i := 1) rfl
  have HE : Hid (fieldB m 0 = nodeL m.pe) := rfl
  clear xb hb hm hf s hl
  go_enter Tryz.func113, Tryz.ntmps113
  go_wp2_with (first | (go_at_call 114; refine C.out.mono ?_; rintro e w1 ⟨rfl, v1, l1⟩; have L1 := Lib.hid l1; clear l1))
  go_end0
  rw [HE.out]
  exact ⟨rfl, v1, L1.out⟩
set_option maxHeartbeats 1600000 in
theorem wp_field1 (B : World) (g gm : Nat) (S : Nat → Prop) (m : Ms) (vp vm ve : Value) (bs : List UInt8) (v : Value) (w : World) (hb : Blk B gm 45 #[.int .i64 m.kd, .int .i64 m.pe, .int .i64 m.hp, .bool m.hi, vp, .int .i64 m.nu, .int .u64 (m.su : Int), .int .i64 m.mr.a.c, .int .i64 m.mr.a.s, .string m.mr.k, vm, ve]) (hm : Ml S m vp vm ve B) (hf : fits m 1) (s : Lw B g bs v w) (hl : bs.length ≤ 100000) :
    Calls Tryz.prog 117 #[.pointer (some ⟨g, 0, none⟩), .pointer (some ⟨gm, 0, none⟩)] w fun e w' => e = .returned (.tuple #[]) ∧ ∃ v', Lw B g (bs ++ fieldB m 1) v' w' := by
  have xb := hb.only s.ho (fun h => h)
  obtain ⟨h1, h2⟩ : 0 ≤ m.hp ∧ m.hp ≤ 8 := hf
  obtain ⟨q, hq⟩ : ∃ q : Nat, m.hp = q := ⟨m.hp.toNat, by omega⟩
  have hw : IntKind.u64.wrap (q : Int) = (q : Int) := IntWalk.u64_in _ (by omega)
  have C := Lib.hid (lw_num s q 1 (by omega) (by omega) (by omega))
  have k := xb.cell_ (i := 2) rfl
  have k' : w.cell? ⟨gm, 2, none⟩ = some (.int .i64 (q : Int)) := by rw [← hq]; exact k
  have HE : Hid (fieldB m 1 = leBytes q 1) := by show nodeL m.hp = _; rw [nodeL, hq, Int.toNat_natCast]
  clear k xb hb hm s hl hq h1 h2
  go_enter Tryz.func117, Tryz.ntmps117
  go_wp2_with (first | (go_at_call 118; refine C.out.mono ?_; rintro e w1 ⟨rfl, v1, l1, _⟩; have L1 := Lib.hid l1; clear l1))
  go_end0
  rw [HE.out]
  exact ⟨rfl, v1, L1.out⟩
set_option maxHeartbeats 1600000 in
theorem wp_field2 (B : World) (g gm : Nat) (S : Nat → Prop) (m : Ms) (vp vm ve : Value) (bs : List UInt8) (v : Value) (w : World) (hb : Blk B gm 45 #[.int .i64 m.kd, .int .i64 m.pe, .int .i64 m.hp, .bool m.hi, vp, .int .i64 m.nu, .int .u64 (m.su : Int), .int .i64 m.mr.a.c, .int .i64 m.mr.a.s, .string m.mr.k, vm, ve]) (hm : Ml S m vp vm ve B) (hf : fits m 2) (s : Lw B g bs v w) (hl : bs.length ≤ 100000) :
    Calls Tryz.prog 121 #[.pointer (some ⟨g, 0, none⟩), .pointer (some ⟨gm, 0, none⟩)] w fun e w' => e = .returned (.tuple #[]) ∧ ∃ v', Lw B g (bs ++ fieldB m 2) v' w' := by
  have xb := hb.only s.ho (fun h => h)
  have C := Lib.hid (lw_flag s m.hi (by omega))
  have k3 := xb.cell_ (i := 3) rfl
  have HE : Hid (fieldB m 2 = [UInt8.ofNat (bitN m.hi)]) := rfl
  clear xb hb hm hf s hl
  go_enter Tryz.func121, Tryz.ntmps121
  go_wp2_with (first | (go_at_call 122; refine C.out.mono ?_; rintro e w1 ⟨rfl, v1, l1, _⟩; have L1 := Lib.hid l1; clear l1))
  go_end0
  rw [HE.out]
  exact ⟨rfl, v1, L1.out⟩
set_option maxHeartbeats 1600000 in
theorem wp_field3 (B : World) (g gm : Nat) (S : Nat → Prop) (m : Ms) (vp vm ve : Value) (bs : List UInt8) (v : Value) (w : World) (hb : Blk B gm 45 #[.int .i64 m.kd, .int .i64 m.pe, .int .i64 m.hp, .bool m.hi, vp, .int .i64 m.nu, .int .u64 (m.su : Int), .int .i64 m.mr.a.c, .int .i64 m.mr.a.s, .string m.mr.k, vm, ve]) (hm : Ml S m vp vm ve B) (hf : fits m 3) (s : Lw B g bs v w) (hl : bs.length ≤ 100000) :
    Calls Tryz.prog 125 #[.pointer (some ⟨g, 0, none⟩), .pointer (some ⟨gm, 0, none⟩)] w fun e w' => e = .returned (.tuple #[]) ∧ ∃ v', Lw B g (bs ++ fieldB m 3) v' w' := by
  have xb := hb.only s.ho (fun h => h)
  have C := Lib.hid (wp_list_int B g S m.ps _ bs v w hm.p hf.2 hf.1 s (by omega))
  obtain ⟨⟨A1, c1, rfl, _⟩, ⟨A2, c2, rfl, _⟩, ⟨A3, c3, rfl, _⟩⟩ := hm
  have k4 := xb.cell_ (i := 4) rfl
  have HE : Hid (fieldB m 3 = listB nodeL m.ps) := rfl
  clear xb hb  hf s hl
  go_enter Tryz.func125, Tryz.ntmps125
  go_wp2_with (first | (go_at_call 126; refine C.out.mono ?_; rintro e w1 ⟨rfl, v1, l1⟩; have L1 := Lib.hid l1; clear l1))
  go_end0
  rw [HE.out]
  exact ⟨rfl, v1, L1.out⟩
set_option maxHeartbeats 1600000 in
theorem wp_field4 (B : World) (g gm : Nat) (S : Nat → Prop) (m : Ms) (vp vm ve : Value) (bs : List UInt8) (v : Value) (w : World) (hb : Blk B gm 45 #[.int .i64 m.kd, .int .i64 m.pe, .int .i64 m.hp, .bool m.hi, vp, .int .i64 m.nu, .int .u64 (m.su : Int), .int .i64 m.mr.a.c, .int .i64 m.mr.a.s, .string m.mr.k, vm, ve]) (hm : Ml S m vp vm ve B) (hf : fits m 4) (s : Lw B g bs v w) (hl : bs.length ≤ 100000) :
    Calls Tryz.prog 129 #[.pointer (some ⟨g, 0, none⟩), .pointer (some ⟨gm, 0, none⟩)] w fun e w' => e = .returned (.tuple #[]) ∧ ∃ v', Lw B g (bs ++ fieldB m 4) v' w' := by
  have xb := hb.only s.ho (fun h => h)
  obtain ⟨h1, h2⟩ : 0 ≤ m.nu ∧ m.nu ≤ 4294967295 := hf
  obtain ⟨q, hq⟩ : ∃ q : Nat, m.nu = q := ⟨m.nu.toNat, by omega⟩
  have hw : IntKind.u64.wrap (q : Int) = (q : Int) := IntWalk.u64_in _ (by omega)
  have C := Lib.hid (lw_num s q 4 (by omega) (by omega) (by omega))
  have k := xb.cell_ (i := 5) rfl
  have k' : w.cell? ⟨gm, 5, none⟩ = some (.int .i64 (q : Int)) := by rw [← hq]; exact k
  have HE : Hid (fieldB m 4 = leBytes q 4) := by show leBytes m.nu.toNat 4 = _; rw [hq, Int.toNat_natCast]
  clear k xb hb hm s hl hq h1 h2
  go_enter Tryz.func129, Tryz.ntmps129
  go_wp2_with (first | (go_at_call 118; refine C.out.mono ?_; rintro e w1 ⟨rfl, v1, l1, _⟩; have L1 := Lib.hid l1; clear l1))
  go_end0
  rw [HE.out]
  exact ⟨rfl, v1, L1.out⟩
set_option maxHeartbeats 1600000 in
theorem wp_field5 (B : World) (g gm : Nat) (S : Nat → Prop) (m : Ms) (vp vm ve : Value) (bs : List UInt8) (v : Value) (w : World) (hb : Blk B gm 45 #[.int .i64 m.kd, .int .i64 m.pe, .int .i64 m.hp, .bool m.hi, vp, .int .i64 m.nu, .int .u64 (m.su : Int), .int .i64 m.mr.a.c, .int .i64 m.mr.a.s, .string m.mr.k, vm, ve]) (hm : Ml S m vp vm ve B) (hf : fits m 5) (s : Lw B g bs v w) (hl : bs.length ≤ 100000) :
    Calls Tryz.prog 131 #[.pointer (some ⟨g, 0, none⟩), .pointer (some ⟨gm, 0, none⟩)] w fun e w' => e = .returned (.tuple #[]) ∧ ∃ v', Lw B g (bs ++ fieldB m 5) v' w' := by
  have xb := hb.only s.ho (fun h => h)
  have hf' : m.su < 18446744073709551616 := hf
  have C := Lib.hid (lw_num s m.su 8 (by omega) (by omega) (by omega))
  have k := xb.cell_ (i := 6) rfl
  have HE : Hid (fieldB m 5 = leBytes m.su 8) := rfl
  clear xb hb hm s hl hf hf'
  go_enter Tryz.func131, Tryz.ntmps131
  go_wp2_with (first | (go_at_call 118; refine C.out.mono ?_; rintro e w1 ⟨rfl, v1, l1, _⟩; have L1 := Lib.hid l1; clear l1))
  go_end0
  rw [HE.out]
  exact ⟨rfl, v1, L1.out⟩
set_option maxHeartbeats 1600000 in
theorem wp_field6 (B : World) (g gm : Nat) (S : Nat → Prop) (m : Ms) (vp vm ve : Value) (bs : List UInt8) (v : Value) (w : World) (hb : Blk B gm 45 #[.int .i64 m.kd, .int .i64 m.pe, .int .i64 m.hp, .bool m.hi, vp, .int .i64 m.nu, .int .u64 (m.su : Int), .int .i64 m.mr.a.c, .int .i64 m.mr.a.s, .string m.mr.k, vm, ve]) (hm : Ml S m vp vm ve B) (hf : fits m 6) (s : Lw B g bs v w) (hl : bs.length ≤ 100000) :
    Calls Tryz.prog 133 #[.pointer (some ⟨g, 0, none⟩), .pointer (some ⟨gm, 0, none⟩)] w fun e w' => e = .returned (.tuple #[]) ∧ ∃ v', Lw B g (bs ++ fieldB m 6) v' w' := by
  have xb := hb.only s.ho (fun h => h)
  have C := Lib.hid (wp_mark B g m.mr bs v w hf s (by omega))
  have k7 := xb.cell_ (i := 7) rfl
  have k8 := xb.cell_ (i := 8) rfl
  have k9 := xb.cell_ (i := 9) rfl
  have HE : Hid (fieldB m 6 = markB m.mr) := rfl
  clear xb hb hm hf s hl
  go_enter Tryz.func133, Tryz.ntmps133
  go_wp2_with (first | (go_at_call 134; refine C.out.mono ?_; rintro e w1 ⟨rfl, v1, l1⟩; have L1 := Lib.hid l1; clear l1))
  go_end0
  rw [HE.out]
  exact ⟨rfl, v1, L1.out⟩
set_option maxHeartbeats 1600000 in
theorem wp_field7 (B : World) (g gm : Nat) (S : Nat → Prop) (m : Ms) (vp vm ve : Value) (bs : List UInt8) (v : Value) (w : World) (hb : Blk B gm 45 #[.int .i64 m.kd, .int .i64 m.pe, .int .i64 m.hp, .bool m.hi, vp, .int .i64 m.nu, .int .u64 (m.su : Int), .int .i64 m.mr.a.c, .int .i64 m.mr.a.s, .string m.mr.k, vm, ve]) (hm : Ml S m vp vm ve B) (hf : fits m 7) (s : Lw B g bs v w) (hl : bs.length ≤ 100000) :
    Calls Tryz.prog 137 #[.pointer (some ⟨g, 0, none⟩), .pointer (some ⟨gm, 0, none⟩)] w fun e w' => e = .returned (.tuple #[]) ∧ ∃ v', Lw B g (bs ++ fieldB m 7) v' w' := by
  have xb := hb.only s.ho (fun h => h)
  have C := Lib.hid (wp_list_mk B g S m.ms _ bs v w hm.q hf.2 hf.1 s (by omega))
  obtain ⟨⟨A1, c1, rfl, _⟩, ⟨A2, c2, rfl, _⟩, ⟨A3, c3, rfl, _⟩⟩ := hm
  have k10 := xb.cell_ (i := 10) rfl
  have HE : Hid (fieldB m 7 = listB markB m.ms) := rfl
  clear xb hb  hf s hl
  go_enter Tryz.func137, Tryz.ntmps137
  go_wp2_with (first | (go_at_call 138; refine C.out.mono ?_; rintro e w1 ⟨rfl, v1, l1⟩; have L1 := Lib.hid l1; clear l1))
  go_end0
  rw [HE.out]
  exact ⟨rfl, v1, L1.out⟩
set_option maxHeartbeats 1600000 in
theorem wp_field8 (B : World) (g gm : Nat) (S : Nat → Prop) (m : Ms) (vp vm ve : Value) (bs : List UInt8) (v : Value) (w : World) (hb : Blk B gm 45 #[.int .i64 m.kd, .int .i64 m.pe, .int .i64 m.hp, .bool m.hi, vp, .int .i64 m.nu, .int .u64 (m.su : Int), .int .i64 m.mr.a.c, .int .i64 m.mr.a.s, .string m.mr.k, vm, ve]) (hm : Ml S m vp vm ve B) (hf : fits m 8) (s : Lw B g bs v w) (hl : bs.length ≤ 100000) :
    Calls Tryz.prog 141 #[.pointer (some ⟨g, 0, none⟩), .pointer (some ⟨gm, 0, none⟩)] w fun e w' => e = .returned (.tuple #[]) ∧ ∃ v', Lw B g (bs ++ fieldB m 8) v' w' := by
  have xb := hb.only s.ho (fun h => h)
  have C := Lib.hid (wp_list_en B g S m.es _ bs v w hm.r hf.2 hf.1 s (by omega))
  obtain ⟨⟨A1, c1, rfl, _⟩, ⟨A2, c2, rfl, _⟩, ⟨A3, c3, rfl, _⟩⟩ := hm
  have k11 := xb.cell_ (i := 11) rfl
  have HE : Hid (fieldB m 8 = listB entB m.es) := rfl
  clear xb hb  hf s hl
  go_enter Tryz.func141, Tryz.ntmps141
  go_wp2_with (first | (go_at_call 142; refine C.out.mono ?_; rintro e w1 ⟨rfl, v1, l1⟩; have L1 := Lib.hid l1; clear l1))
  go_end0
  rw [HE.out]
  exact ⟨rfl, v1, L1.out⟩
theorem wp_field (i : Nat) (hi : i < 9) (B : World) (g gm : Nat) (S : Nat → Prop) (m : Ms) (vp vm ve : Value) (bs : List UInt8) (v : Value) (w : World) (hb : Blk B gm 45 #[.int .i64 m.kd, .int .i64 m.pe, .int .i64 m.hp, .bool m.hi, vp, .int .i64 m.nu, .int .u64 (m.su : Int), .int .i64 m.mr.a.c, .int .i64 m.mr.a.s, .string m.mr.k, vm, ve]) (hm : Ml S m vp vm ve B) (hf : fits m i) (s : Lw B g bs v w) (hl : bs.length ≤ 100000) :
    Calls Tryz.prog (ptF i) #[.pointer (some ⟨g, 0, none⟩), .pointer (some ⟨gm, 0, none⟩)] w fun e w' => e = .returned (.tuple #[]) ∧ ∃ v', Lw B g (bs ++ fieldB m i) v' w' := by
  rcases nine_ways hi with rfl | rfl | rfl | rfl | rfl | rfl | rfl | rfl | rfl
  · exact wp_field0 B g gm S m vp vm ve bs v w hb hm hf s hl
  · exact wp_field1 B g gm S m vp vm ve bs v w hb hm hf s hl
  · exact wp_field2 B g gm S m vp vm ve bs v w hb hm hf s hl
  · exact wp_field3 B g gm S m vp vm ve bs v w hb hm hf s hl
  · exact wp_field4 B g gm S m vp vm ve bs v w hb hm hf s hl
  · exact wp_field5 B g gm S m vp vm ve bs v w hb hm hf s hl
  · exact wp_field6 B g gm S m vp vm ve bs v w hb hm hf s hl
  · exact wp_field7 B g gm S m vp vm ve bs v w hb hm hf s hl
  · exact wp_field8 B g gm S m vp vm ve bs v w hb hm hf s hl
end Go.Proofs.YtlieolehpmobfaaGreatDoor
end
