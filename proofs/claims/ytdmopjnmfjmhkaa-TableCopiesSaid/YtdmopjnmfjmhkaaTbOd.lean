/- What is done with a table and with the document's one, more of it told. Written by gen_tbod.py. No statement of the seat is proved here. -/
import Derived.Test.YtdmopjnmfjmhkaaTbO
namespace Go.Proofs.Ytdmopjnmfjmhkaa.Dg
open Go.RowKit
set_option maxRecDepth 100000
set_option linter.all false

/-- What do leaves. -/
def DoR (d : Nat → Prop) (B W : World) (g : Nat) (room : Int) (v : Value) (l' : List (Pr Int)) (e : Ending) (w' : World) : Prop := ∃ m' v', e = .returned (.tuple #[m', .bool true]) ∧ Tb B g room l' v' w' ∧ Rt w' (fun b => ¬ foot g v' b ∧ ¬ d b) room l' m' ∧ Only (foot g v) W w' ∧ Moved W v v'
set_option maxHeartbeats 25600000 in
theorem do_put (B W : World) (g : Nat) (room y n : Int) (l : List (Pr Int)) (v m : Value) (x fr : ByteArray) (d : Nat → Prop) (hd : ∀ b, d b → b < W.heap.size) (h : Tb B g room l v W) (hm : Rt W (fun b => ¬ foot g v b ∧ ¬ d b) room l m) :
    Calls Try.prog 10 #[.pointer (some ⟨g, 0, none⟩), m, .agg #[.int .i64 0, .int .i64 y, .string x, .string fr, .int .i64 n]] W fun e w' => DoR d B W g room v (putT room l x y) e w' := by
  have hr := h.rs
  have hml := h.ml
  have HFT : Hid (∀ b, foot g v b → b < W.heap.size) := fun b hb => (h.foot_ge hb).2
  have HD := Lib.hid hd
  have hm0 : Rt W (fun b => (¬ foot g v b ∧ ¬ d b) ∧ b < W.heap.size) room l m := by obtain ⟨A, c, e, hc⟩ := hm; exact ⟨A, c, e, hc.mono (fun b hlt hb => ⟨hb, hlt⟩)⟩
  have HB0 := Lib.hid h.ho.size
  have HRF := Lib.hid (fun (w' : World) (o : Only none_ W w') => rf_put _ room l m x y w' (hm0.only o (fun _ _ h => h)) hr hml)
  obtain ⟨A, c, rfl, hc⟩ := hm
  obtain ⟨L, hL⟩ : ∃ L, l.length = L := ⟨_, rfl⟩
  rw [hL] at HRF ⊢
  have D0 := Lib.hid (Dp.new h #[.int .i64 room, .slice A L c] #[.int .i64 0, .int .i64 y, .string x, .string fr, .int .i64 n] #[.int .i64 0, .slice none 0 0])
  have p0 := D0.out.b4.cell_ (i := 0) rfl
  have p1 := D0.out.b4.cell_ (i := 1) rfl
  have p2 := D0.out.b5.cell_ (i := 0) rfl
  have p3 := D0.out.b5.cell_ (i := 1) rfl
  have p4 := D0.out.b5.cell_ (i := 2) rfl
  obtain ⟨cv, hcv⟩ : ∃ cv, putC room l x = cv := ⟨_, rfl⟩
  obtain ⟨l', hl'⟩ : ∃ l', putT room l x y = l' := ⟨_, rfl⟩
  have HT := Lib.hid (fun (w' : World) (t : Tb B g room l v w') => tb_put B g room l v x y w' t)
  rw [hcv, hl'] at HT
  rw [hcv, hl'] at HRF
  rw [hl']
  clear h hc hcv hl' hm0 hr hd
  go_enter Try.func10, Try.ntmps10
  go_wp2_with (first
    | (go_at_call 29; refine (HRF.out _ D0.out.ho).mono ?_; rintro E w1 ⟨m1, rfl, hrt1, o1⟩
       obtain ⟨A1, c1, rfl, hc1⟩ := hrt1
       have D1 := Lib.hid (D0.out.keep o1)
       have D2 := Lib.hid (D1.out.keep (((Only.refl none_ w1).alloc (.cells #[.int .i64 room, .slice A1 l'.length c1] 31)).drew))
       have X2 : Hid (Blk (w1.alloc (.cells #[.int .i64 room, .slice A1 l'.length c1] 31)).drew w1.heap.size 31 #[.int .i64 room, .slice A1 l'.length c1]) := (Blk.new w1 _ _).drew
       have R2 : Hid (Cel (w1.alloc (.cells #[.int .i64 room, .slice A1 l'.length c1] 31)).drew (fun b => ¬ foot g v b ∧ (b ≠ W.heap.size + 1 + 1 ∧ ¬ d b)) (.slice A1 l'.length c1) l'.length 2 (l'.flatMap prI)) := by
         refine (hc1.mono (fun b hlt hb => ?_)).only (((Only.refl none_ w1).alloc (.cells #[.int .i64 room, .slice A1 l'.length c1] 31)).drew) (fun _ _ h => h)
         have h6 := D0.out.b6.lt
         rcases hb with hb | hb
         · exact ⟨hb.1.1, by have := hb.2; omega, hb.1.2⟩
         · exact ⟨fun hf => by have := HFT.out b hf; have := D0.out.ho.size; omega, by omega, fun hdb => by have := HD.out b hdb; have := D0.out.ho.size; omega⟩
       obtain ⟨L1, hL1⟩ : ∃ L1, l'.length = L1 := ⟨_, rfl⟩
       have HL1 := Lib.hid hL1
       rw [hL1] at D2 X2 R2 ⊢
       have x20 := X2.out.cell_ (i := 0) rfl
       have x21 := X2.out.cell_ (i := 1) rfl
       have y21 := D2.out.b5.cell_ (i := 1) rfl
       have y22 := D2.out.b5.cell_ (i := 2) rfl
       clear hL1 o1 hc1 p0 p1 p2 p3 p4))
  have tokC : True := trivial
  go_region_law (first
    | (refine step_call (by simp [Region.wanted]) 27 #[.pointer (some ⟨g, 0, none⟩), .string x, .int .i64 y] (by go_simp; try (with_reducible rfl)) ?_
       refine (HT.out _ D2.out.t).mono ?_
       rintro E w4 ⟨rfl, v4, t4, o4, mv4⟩
       refine ⟨_, rfl, ?_⟩
       have X4 := X2.out.only o4 (D2.out.t.off X2.out (by decide) (by decide))
       have Y4 := D2.out.b5.only o4 (D2.out.t.off D2.out.b5 (by decide) (by decide))
       have Z4 := D2.out.b6.only o4 (D2.out.t.off D2.out.b6 (by decide) (by decide))
       have x40 := X4.cell_ (i := 0) rfl
       have x41 := X4.cell_ (i := 1) rfl
       have y41 := Y4.cell_ (i := 1) rfl
       have y42 := Y4.cell_ (i := 2) rfl
       have z40 := Z4.cell_ (i := 0) rfl
       have f40 := Z4.frozen 0
       have z41 := (Z4.set_ 0 (.int .i64 room)).cell_ (i := 1) rfl
       have f41 := (Z4.set_ 0 (.int .i64 room)).frozen 1
       have D6 : Hid (Blk ((w4.setCell ⟨W.heap.size + 1 + 1, 0, none⟩ (.int .i64 room)).setCell ⟨W.heap.size + 1 + 1, 1, none⟩ (.slice A1 L1 c1)) (W.heap.size + 1 + 1) 31 #[.int .i64 room, .slice A1 L1 c1]) := (Z4.set_ 0 (.int .i64 room)).set_ 1 (.slice A1 L1 c1)
       have F6 : Hid (Tb B g room l' v4 ((w4.setCell ⟨W.heap.size + 1 + 1, 0, none⟩ (.int .i64 room)).setCell ⟨W.heap.size + 1 + 1, 1, none⟩ (.slice A1 L1 c1)) ∧ Rt ((w4.setCell ⟨W.heap.size + 1 + 1, 0, none⟩ (.int .i64 room)).setCell ⟨W.heap.size + 1 + 1, 1, none⟩ (.slice A1 L1 c1)) (fun b => ¬ foot g v4 b ∧ ¬ d b) room l' (.agg #[.int .i64 room, .slice A1 L1 c1]) ∧
           Only (foot g v) W ((w4.setCell ⟨W.heap.size + 1 + 1, 0, none⟩ (.int .i64 room)).setCell ⟨W.heap.size + 1 + 1, 1, none⟩ (.slice A1 L1 c1)) ∧ Moved W v v4) := by
         have hnf := t4.off Z4 (by decide) (by decide)
         have o7 : Only (one (W.heap.size + 1 + 1)) w4 ((w4.setCell ⟨W.heap.size + 1 + 1, 0, none⟩ (.int .i64 room)).setCell ⟨W.heap.size + 1 + 1, 1, none⟩ (.slice A1 L1 c1)) := ((Only.refl (one (W.heap.size + 1 + 1)) w4).setCell (p := ⟨W.heap.size + 1 + 1, 0, none⟩) (.inl (show one (W.heap.size + 1 + 1) (W.heap.size + 1 + 1) from rfl)) _).setCell (p := ⟨W.heap.size + 1 + 1, 1, none⟩) (.inl (show one (W.heap.size + 1 + 1) (W.heap.size + 1 + 1) from rfl)) _
         have t6 : Tb B g room l' v4 ((w4.setCell ⟨W.heap.size + 1 + 1, 0, none⟩ (.int .i64 room)).setCell ⟨W.heap.size + 1 + 1, 1, none⟩ (.slice A1 L1 c1)) := t4.apart o7 (fun k hk e => hnf (by have e' : k = W.heap.size + 1 + 1 := e; rwa [e'] at hk)) (fun k e => by have e' : k = W.heap.size + 1 + 1 := e; have := HB0.out; omega)
         refine ⟨t6, ⟨A1, c1, by rw [HL1.out], ?_⟩, ((D2.out.ho.of_none).trans o4).trans' o7 (fun k hk e => by have e' : k = W.heap.size + 1 + 1 := e; omega), fun k hk => (mv4 k hk).imp id (fun h => by have := D2.out.ho.size; omega)⟩
         rw [HL1.out]
         exact ((cel_moved2 R2.out o4 mv4).only o7 (fun b hb e => hb.2.1 e)).mono (fun b _ hb => ⟨hb.1, hb.2.2⟩)
       clear mv4 o4 t4 X4 Y4 Z4))
  all_goals go_wp2_with fail
  all_goals (try dsimp only [Act.put, List.getElem_toArray, List.getElem_cons_succ, List.getElem_cons_zero])
  all_goals (try go_simp)
  all_goals (refine bodyPost_ret (results_cell_tmp rfl _ _ (W.heap.size + 1 + 1) 31 _ _ rfl D6.out Try.underlying31 rfl (by kernel_rfl) _ rfl) rfl ?_; exact ⟨_, _, rfl, F6.out.1, F6.out.2.1, F6.out.2.2⟩)

set_option maxHeartbeats 25600000 in
theorem do_drop (B W : World) (g : Nat) (room y n : Int) (l : List (Pr Int)) (v m : Value) (x fr : ByteArray) (d : Nat → Prop) (hd : ∀ b, d b → b < W.heap.size) (h : Tb B g room l v W) (hm : Rt W (fun b => ¬ foot g v b ∧ ¬ d b) room l m) :
    Calls Try.prog 10 #[.pointer (some ⟨g, 0, none⟩), m, .agg #[.int .i64 1, .int .i64 y, .string x, .string fr, .int .i64 n]] W fun e w' => DoR d B W g room v (dropL l x) e w' := by
  have hr := h.rs
  have hml := h.ml
  have HFT : Hid (∀ b, foot g v b → b < W.heap.size) := fun b hb => (h.foot_ge hb).2
  have HD := Lib.hid hd
  have hm0 : Rt W (fun b => (¬ foot g v b ∧ ¬ d b) ∧ b < W.heap.size) room l m := by obtain ⟨A, c, e, hc⟩ := hm; exact ⟨A, c, e, hc.mono (fun b hlt hb => ⟨hb, hlt⟩)⟩
  have HB0 := Lib.hid h.ho.size
  have HRF := Lib.hid (fun (w' : World) (o : Only none_ W w') => rf_drop _ room l m x w' (hm0.only o (fun _ _ h => h)) hr hml)
  obtain ⟨A, c, rfl, hc⟩ := hm
  obtain ⟨L, hL⟩ : ∃ L, l.length = L := ⟨_, rfl⟩
  rw [hL] at HRF ⊢
  have D0 := Lib.hid (Dp.new h #[.int .i64 room, .slice A L c] #[.int .i64 1, .int .i64 y, .string x, .string fr, .int .i64 n] #[.int .i64 0, .slice none 0 0])
  have p0 := D0.out.b4.cell_ (i := 0) rfl
  have p1 := D0.out.b4.cell_ (i := 1) rfl
  have p2 := D0.out.b5.cell_ (i := 0) rfl
  have p3 := D0.out.b5.cell_ (i := 1) rfl
  have p4 := D0.out.b5.cell_ (i := 2) rfl
  obtain ⟨cv, hcv⟩ : ∃ cv, has l x = cv := ⟨_, rfl⟩
  obtain ⟨l', hl'⟩ : ∃ l', dropL l x = l' := ⟨_, rfl⟩
  have HT := Lib.hid (fun (w' : World) (t : Tb B g room l v w') => tb_drop B g room l v x w' t)
  rw [hcv, hl'] at HT
  rw [hcv, hl'] at HRF
  rw [hl']
  clear h hc hcv hl' hm0 hr hd
  go_enter Try.func10, Try.ntmps10
  go_wp2_with (first
    | (go_at_call 30; refine (HRF.out _ D0.out.ho).mono ?_; rintro E w1 ⟨m1, rfl, hrt1, o1⟩
       obtain ⟨A1, c1, rfl, hc1⟩ := hrt1
       have D1 := Lib.hid (D0.out.keep o1)
       have D2 := Lib.hid (D1.out.keep (((Only.refl none_ w1).alloc (.cells #[.int .i64 room, .slice A1 l'.length c1] 31)).drew))
       have X2 : Hid (Blk (w1.alloc (.cells #[.int .i64 room, .slice A1 l'.length c1] 31)).drew w1.heap.size 31 #[.int .i64 room, .slice A1 l'.length c1]) := (Blk.new w1 _ _).drew
       have R2 : Hid (Cel (w1.alloc (.cells #[.int .i64 room, .slice A1 l'.length c1] 31)).drew (fun b => ¬ foot g v b ∧ (b ≠ W.heap.size + 1 + 1 ∧ ¬ d b)) (.slice A1 l'.length c1) l'.length 2 (l'.flatMap prI)) := by
         refine (hc1.mono (fun b hlt hb => ?_)).only (((Only.refl none_ w1).alloc (.cells #[.int .i64 room, .slice A1 l'.length c1] 31)).drew) (fun _ _ h => h)
         have h6 := D0.out.b6.lt
         rcases hb with hb | hb
         · exact ⟨hb.1.1, by have := hb.2; omega, hb.1.2⟩
         · exact ⟨fun hf => by have := HFT.out b hf; have := D0.out.ho.size; omega, by omega, fun hdb => by have := HD.out b hdb; have := D0.out.ho.size; omega⟩
       obtain ⟨L1, hL1⟩ : ∃ L1, l'.length = L1 := ⟨_, rfl⟩
       have HL1 := Lib.hid hL1
       rw [hL1] at D2 X2 R2 ⊢
       have x20 := X2.out.cell_ (i := 0) rfl
       have x21 := X2.out.cell_ (i := 1) rfl
       have y21 := D2.out.b5.cell_ (i := 1) rfl
       have y22 := D2.out.b5.cell_ (i := 2) rfl
       clear hL1 o1 hc1 p0 p1 p2 p3 p4))
  have tokC : True := trivial
  go_region_law (first
    | (refine step_call (by simp [Region.wanted]) 31 #[.pointer (some ⟨g, 0, none⟩), .string x] (by go_simp; try (with_reducible rfl)) ?_
       refine (HT.out _ D2.out.t).mono ?_
       rintro E w4 ⟨rfl, v4, t4, o4, mv4⟩
       refine ⟨_, rfl, ?_⟩
       have X4 := X2.out.only o4 (D2.out.t.off X2.out (by decide) (by decide))
       have Y4 := D2.out.b5.only o4 (D2.out.t.off D2.out.b5 (by decide) (by decide))
       have Z4 := D2.out.b6.only o4 (D2.out.t.off D2.out.b6 (by decide) (by decide))
       have x40 := X4.cell_ (i := 0) rfl
       have x41 := X4.cell_ (i := 1) rfl
       have y41 := Y4.cell_ (i := 1) rfl
       have y42 := Y4.cell_ (i := 2) rfl
       have z40 := Z4.cell_ (i := 0) rfl
       have f40 := Z4.frozen 0
       have z41 := (Z4.set_ 0 (.int .i64 room)).cell_ (i := 1) rfl
       have f41 := (Z4.set_ 0 (.int .i64 room)).frozen 1
       have D6 : Hid (Blk ((w4.setCell ⟨W.heap.size + 1 + 1, 0, none⟩ (.int .i64 room)).setCell ⟨W.heap.size + 1 + 1, 1, none⟩ (.slice A1 L1 c1)) (W.heap.size + 1 + 1) 31 #[.int .i64 room, .slice A1 L1 c1]) := (Z4.set_ 0 (.int .i64 room)).set_ 1 (.slice A1 L1 c1)
       have F6 : Hid (Tb B g room l' v4 ((w4.setCell ⟨W.heap.size + 1 + 1, 0, none⟩ (.int .i64 room)).setCell ⟨W.heap.size + 1 + 1, 1, none⟩ (.slice A1 L1 c1)) ∧ Rt ((w4.setCell ⟨W.heap.size + 1 + 1, 0, none⟩ (.int .i64 room)).setCell ⟨W.heap.size + 1 + 1, 1, none⟩ (.slice A1 L1 c1)) (fun b => ¬ foot g v4 b ∧ ¬ d b) room l' (.agg #[.int .i64 room, .slice A1 L1 c1]) ∧
           Only (foot g v) W ((w4.setCell ⟨W.heap.size + 1 + 1, 0, none⟩ (.int .i64 room)).setCell ⟨W.heap.size + 1 + 1, 1, none⟩ (.slice A1 L1 c1)) ∧ Moved W v v4) := by
         have hnf := t4.off Z4 (by decide) (by decide)
         have o7 : Only (one (W.heap.size + 1 + 1)) w4 ((w4.setCell ⟨W.heap.size + 1 + 1, 0, none⟩ (.int .i64 room)).setCell ⟨W.heap.size + 1 + 1, 1, none⟩ (.slice A1 L1 c1)) := ((Only.refl (one (W.heap.size + 1 + 1)) w4).setCell (p := ⟨W.heap.size + 1 + 1, 0, none⟩) (.inl (show one (W.heap.size + 1 + 1) (W.heap.size + 1 + 1) from rfl)) _).setCell (p := ⟨W.heap.size + 1 + 1, 1, none⟩) (.inl (show one (W.heap.size + 1 + 1) (W.heap.size + 1 + 1) from rfl)) _
         have t6 : Tb B g room l' v4 ((w4.setCell ⟨W.heap.size + 1 + 1, 0, none⟩ (.int .i64 room)).setCell ⟨W.heap.size + 1 + 1, 1, none⟩ (.slice A1 L1 c1)) := t4.apart o7 (fun k hk e => hnf (by have e' : k = W.heap.size + 1 + 1 := e; rwa [e'] at hk)) (fun k e => by have e' : k = W.heap.size + 1 + 1 := e; have := HB0.out; omega)
         refine ⟨t6, ⟨A1, c1, by rw [HL1.out], ?_⟩, ((D2.out.ho.of_none).trans o4).trans' o7 (fun k hk e => by have e' : k = W.heap.size + 1 + 1 := e; omega), fun k hk => (mv4 k hk).imp id (fun h => by have := D2.out.ho.size; omega)⟩
         rw [HL1.out]
         exact ((cel_moved2 R2.out o4 mv4).only o7 (fun b hb e => hb.2.1 e)).mono (fun b _ hb => ⟨hb.1, hb.2.2⟩)
       clear mv4 o4 t4 X4 Y4 Z4))
  all_goals go_wp2_with fail
  all_goals (try dsimp only [Act.put, List.getElem_toArray, List.getElem_cons_succ, List.getElem_cons_zero])
  all_goals (try go_simp)
  all_goals (refine bodyPost_ret (results_cell_tmp rfl _ _ (W.heap.size + 1 + 1) 31 _ _ rfl D6.out Try.underlying31 rfl (by kernel_rfl) _ rfl) rfl ?_; exact ⟨_, _, rfl, F6.out.1, F6.out.2.1, F6.out.2.2⟩)

set_option maxHeartbeats 6400000 in
theorem do_none (B W : World) (g : Nat) (room y n kk : Int) (l : List (Pr Int)) (v m : Value) (x fr : ByteArray) (d : Nat → Prop) (hd : ∀ b, d b → b < W.heap.size) (h : Tb B g room l v W) (hm : Rt W (fun b => ¬ foot g v b ∧ ¬ d b) room l m) (k0 : kk ≠ 0) (k1 : kk ≠ 1) :
    Calls Try.prog 10 #[.pointer (some ⟨g, 0, none⟩), m, .agg #[.int .i64 kk, .int .i64 y, .string x, .string fr, .int .i64 n]] W fun e w' => DoR d B W g room v l e w' := by
  have HM := Lib.hid hm
  obtain ⟨A, c, rfl, hc⟩ := hm
  obtain ⟨L, hL⟩ : ∃ L, l.length = L := ⟨_, rfl⟩
  rw [hL] at HM ⊢
  have D0 := Lib.hid (Dp.new h #[.int .i64 room, .slice A L c] #[.int .i64 kk, .int .i64 y, .string x, .string fr, .int .i64 n] #[.int .i64 0, .slice none 0 0])
  have HT := Lib.hid h
  have p0 := D0.out.b4.cell_ (i := 0) rfl
  have p1 := D0.out.b4.cell_ (i := 1) rfl
  have p2 := D0.out.b5.cell_ (i := 0) rfl
  have D6 := Lib.hid (Dp.new h #[.int .i64 room, .slice A L c] #[.int .i64 kk, .int .i64 y, .string x, .string fr, .int .i64 n] #[.int .i64 room, .slice A L c])
  have e0 : (kk == 0) = false := by simp [k0]
  have e1 : (kk == 1) = false := by simp [k1]
  clear h hc hL k0 k1
  go_enter Try.func10, Try.ntmps10
  go_wp2_with fail
  refine bodyPost_ret (results_cell_tmp rfl _ _ (W.heap.size + 1 + 1) 31 _ _ rfl D6.out.b6 Try.underlying31 rfl (by kernel_rfl) _ rfl) rfl ?_
  exact ⟨_, _, rfl, D6.out.t, HM.out.only D6.out.ho (fun _ _ h => h), D6.out.ho.of_none, Moved.refl _ _⟩
theorem t_do (B W : World) (g : Nat) (room : Int) (l : List (Pr Int)) (v m : Value) (a : Ta) (d : Nat → Prop) (hd : ∀ b, d b → b < W.heap.size) (h : Tb B g room l v W) (hm : Rt W (fun b => ¬ foot g v b ∧ ¬ d b) room l m) :
    Calls Try.prog 10 #[.pointer (some ⟨g, 0, none⟩), m, .agg #[.int .i64 a.kind, .int .i64 a.v, .string a.key, .string a.fr, .int .i64 a.n]] W fun e w' => DoR d B W g room v (taDo room l a) e w' := by
  obtain ⟨kk, y, x, fr, n⟩ := a
  unfold taDo
  dsimp only
  by_cases k0 : kk = 0
  · subst k0
    rw [if_pos rfl]
    exact do_put B W g room y n l v m x fr d hd h hm
  · rw [if_neg k0]
    by_cases k1 : kk = 1
    · subst k1
      rw [if_pos rfl]
      exact do_drop B W g room y n l v m x fr d hd h hm
    · rw [if_neg k1]
      exact do_none B W g room y n kk l v m x fr d hd h hm k0 k1
end Go.Proofs.Ytdmopjnmfjmhkaa.Dg
