/- Texts of mine, one behind the other: Apz, Lif, WiE, StEo, RcU, WiF, WiB. No statement of the seat is proved here. -/
import Derived.Test.YtlieolehpmobfaaGreatDoorWr4
import Derived.Test.YtlieolehpmobfaaGreatDoorWr1
import Derived.Laws.Tables
import Derived.Deep.LoopGhost
import Derived.Deep.DeepCutAuto
import Derived.Deep.Cut
import Derived.Test.YtlieolehpmobfaaGreatDoorWr2
import Derived.Test.YtlieolehpmobfaaGreatDoorWr3
section
namespace Go.Proofs.YtlieolehpmobfaaGreatDoor
open Go.RowKit
set_option maxRecDepth 100000
set_option linter.all false
theorem wpl_load_if {P : Program} {ops : Array Oper} {Q : Exit → Act → World → Prop} {rest : List Oper} {o : Oper} {a : Act} {w : World} (hw : Region.wanted o (yielded ops a.tmps) = true) (ty : TypeId) (x : Operand) (ho : o.op = .load ty x)
    (g : Nat) (hx : a.eval x = .pointer (some ⟨g, 0, none⟩)) (t : TypeId) (cs : Array Value) (d : TypeDesc) (hg : Blk w g t cs)
    (hu : P.underlying ty = some d) (hd : (match d with | .struct _ | .array _ _ => true | _ => false) = true) (hi : (P.info? ty).map (·.size) = some cs.size)
    (h : wpList P ops Q rest (a.put o.dst (.agg cs)) w) : wpList P ops Q (o :: rest) a w := by
  show (if Region.wanted o (yielded ops a.tmps) then o.wp P a w (wpList P ops Q rest) Q ∨ _ else _)
  rw [if_pos hw]
  exact .inl (wp_load_row ty x ho g hx t cs (0, 0) d hg hu hd hi h)
end Go.Proofs.YtlieolehpmobfaaGreatDoor
end
section
namespace Go.Proofs.YtlieolehpmobfaaGreatDoor
open Go.RowKit
set_option linter.all false
set_option maxRecDepth 100000
set_option maxHeartbeats 800000 in
theorem wt_node (g : Nat) (S : Nat → Prop) (c : Int) (bs : List UInt8) (w : World) (hr : Rd w g S c bs) (hm : bs.length ≤ 140737488355328) :
    Calls Tryz.prog 116 #[.pointer (some ⟨g, 0, none⟩)] w fun e w' => e = .returned (.int .i64 (nodeR c bs).2.2) ∧ Rd w' g S (nodeR c bs).1 (nodeR c bs).2.1 ∧ Only (one g) w w' := by
  have C := Lib.hid (reader_number g S c bs 1 w hr hm)
  have hlt := numR_lt c bs 1
  have HE : Hid (nodeR c bs = ((numR c bs 1).1, (numR c bs 1).2.1, ((numR c bs 1).2.2 : Int))) := rfl
  obtain ⟨⟨c1, b1, n1⟩, ha⟩ : ∃ a, numR c bs 1 = a := ⟨_, rfl⟩
  rw [show ((1 : Nat) : Int) = 1 from rfl, ha] at hlt
  rw [ha] at C HE
  dsimp only at C HE hlt
  have hw : IntKind.i64.wrap (n1 : Int) = (n1 : Int) := IntWalk.i64_in _ (by omega)
  clear ha hr hm
  go_enter Tryz.func116, Tryz.ntmps116
  go_wp2_with (first
    | (go_at_call 120; refine C.out.mono ?_; rintro e w1 ⟨rfl, h1, o1⟩; have H1 := Lib.hid h1; have O1 := Lib.hid o1; clear h1 o1))
  go_ret
  rw [HE.out]
  exact ⟨rfl, H1.out, O1.out⟩
set_option maxHeartbeats 1600000 in
theorem wt_mark (g : Nat) (S : Nat → Prop) (code : Int) (bs : List UInt8) (w : World) (hr : Rd w g S code bs) (fr : ∀ b, S b → b < w.heap.size) (hm : bs.length ≤ 140737488355328) :
    Calls Tryz.prog 136 #[.pointer (some ⟨g, 0, none⟩)] w fun e w' =>
      e = .returned (.agg #[.int .i64 (markR code bs).2.2.a.c, .int .i64 (markR code bs).2.2.a.s, .string (markR code bs).2.2.k]) ∧ Rd w' g S (markR code bs).1 (markR code bs).2.1 ∧ Only (one g) w w' := by
  have hg := hr.lt
  have HG := Lib.hid hg
  clear hg
  have R0 := Lib.hid (Blk.new w 41 #[.int .i64 0, .int .i64 0, .string ⟨#[]⟩])
  have O0 := Lib.hid ((Only.refl (one g) w).alloc (.cells #[.int .i64 0, .int .i64 0, .string ⟨#[]⟩] 41))
  have T0 := Tk.new (t := 41) (cs := #[.int .i64 0, .int .i64 0, .string ⟨#[]⟩]) (hr.only ((Only.refl none_ _).alloc (.cells #[.int .i64 0, .int .i64 0, .string ⟨#[]⟩] 41)) (fun h => h) (fun _ _ h => h)) (fun b hb => by rw [World.size_alloc]; have := fr b hb; omega)
  rw [World.size_alloc] at T0
  have T := Lib.hid T0
  clear T0
  obtain ⟨a, ha⟩ : ∃ a, numR code bs 4 = a := ⟨_, rfl⟩
  obtain ⟨b, hb⟩ : ∃ b, numR a.1 a.2.1 1 = b := ⟨_, rfl⟩
  obtain ⟨d, hd⟩ : ∃ d, textR b.1 b.2.1 16 = d := ⟨_, rfl⟩
  have la : a.2.2 < 256 ^ 4 := ha ▸ numR_lt code bs 4
  have lb : b.2.2 < 256 ^ 1 := hb ▸ numR_lt a.1 a.2.1 1
  have l2 : a.2.1.length ≤ bs.length := ha ▸ numR_len code bs 4
  have l3 : b.2.1.length ≤ a.2.1.length := hb ▸ numR_len a.1 a.2.1 1
  have HS : Hid (markR code bs = (d.1, d.2.1, ⟨⟨(a.2.2 : Nat), (b.2.2 : Nat)⟩, ⟨d.2.2.toArray⟩⟩)) := by rw [Hid, markR, stampR, ha, hb]; dsimp only; rw [hd]
  have A1 : IntKind.i64.wrap (a.2.2 : Int) = (a.2.2 : Int) := IntWalk.i64_in _ (by omega)
  have B1 : IntKind.i64.wrap (b.2.2 : Int) = (b.2.2 : Int) := IntWalk.i64_in _ (by omega)
  have HB := Lib.hid hb
  have HD := Lib.hid hd
  have HM : Hid (a.2.1.length ≤ 140737488355328) := Nat.le_trans l2 hm
  have HM2 : Hid (b.2.1.length ≤ 140737488355328) := Nat.le_trans l3 (Nat.le_trans l2 hm)
  have C1 := reader_number g S code bs 4 _ T.out.rd hm
  rw [ha] at C1
  have FR := Lib.hid fr
  clear ha hb hd la lb l2 l3 hr fr hm
  have tok1 : True := trivial
  go_enter Tryz.func136, Tryz.ntmps136
  go_wp2_with (first
    | (go_at_call 120; have _t := tok1; clear tok1; refine C1.mono ?_; clear C1; rintro e w1 ⟨rfl, h1, o1⟩
       have T1 := Lib.hid (T.out.step h1 o1)
       have z1 := T1.out.bx.frozen 0
       have v1 := T1.out.bx.cell_ (i := 0) rfl
       have T2 := Lib.hid (T1.out.set 0 (.int .i64 a.2.2))
       clear h1 o1
       have tok2 : True := trivial)
    | (go_at_call 120; have _t := tok2; clear tok2; refine (reader_number g S _ _ 1 _ T2.out.rd HM.out).mono ?_; rw [HB.out]; rintro e w2 ⟨rfl, h2, o2⟩
       have T3 := Lib.hid (T2.out.step h2 o2)
       have z2 := T3.out.bx.frozen 1
       have v2 := T3.out.bx.cell_ (i := 1) rfl
       have T4 := Lib.hid (T3.out.set 1 (.int .i64 b.2.2))
       clear h2 o2)
    | (go_at_call 235; refine (reader_text g S _ _ 16 _ T4.out.rd HM2.out).mono ?_; rw [HD.out]; rintro e w3 ⟨rfl, h3, o3⟩
       have T5 := Lib.hid (T4.out.step h3 o3)
       have z3 := T5.out.bx.frozen 2
       have v3 := T5.out.bx.cell_ (i := 2) rfl
       have T6 := Lib.hid (T5.out.set 2 (.string ⟨d.2.2.toArray⟩))
       have R6 := Lib.hid (R0.out.only T6.out.ho (fun e => by have e' : w.heap.size = g := e; have := HG.out; omega))
       have c0 := T6.out.bx.cell_ (i := 0) rfl
       have c1 := T6.out.bx.cell_ (i := 1) rfl
       have c2 := T6.out.bx.cell_ (i := 2) rfl
       have y0 := R6.out.frozen 0
       have y1 := (R6.out.set_ 0 (.int .i64 a.2.2)).frozen 1
       have y2 := ((R6.out.set_ 0 (.int .i64 a.2.2)).set_ 1 (.int .i64 b.2.2)).frozen 2
       have x0 := R6.out.cell_ (i := 0) rfl
       have x1 := (R6.out.set_ 0 (.int .i64 a.2.2)).cell_ (i := 1) rfl
       have x2 := ((R6.out.set_ 0 (.int .i64 a.2.2)).set_ 1 (.int .i64 b.2.2)).cell_ (i := 2) rfl
       clear h3 o3))
  have hF : Blk ((((w3.setCell ⟨w.heap.size + 1, 2, none⟩ (.string ⟨d.2.2.toArray⟩)).setCell ⟨w.heap.size, 0, none⟩ (.int .i64 a.2.2)).setCell ⟨w.heap.size, 1, none⟩ (.int .i64 b.2.2)).setCell ⟨w.heap.size, 2, none⟩ (.string ⟨d.2.2.toArray⟩)) w.heap.size 41 #[.int .i64 a.2.2, .int .i64 b.2.2, .string ⟨d.2.2.toArray⟩] := by
    have := ((R6.out.set_ 0 (.int .i64 a.2.2)).set_ 1 (.int .i64 b.2.2)).set_ 2 (.string ⟨d.2.2.toArray⟩)
    simpa using this
  have oF := (((Only.refl (one w.heap.size) (w3.setCell ⟨w.heap.size + 1, 2, none⟩ (.string ⟨d.2.2.toArray⟩))).setCell (p := ⟨w.heap.size, 0, none⟩) (.inl rfl) (.int .i64 a.2.2)).setCell (p := ⟨w.heap.size, 1, none⟩) (.inl rfl) (.int .i64 b.2.2)).setCell (p := ⟨w.heap.size, 2, none⟩) (.inl rfl) (.string ⟨d.2.2.toArray⟩)
  exact bodyPost_ret (results_cell_row rfl _ _ w.heap.size 41 _ (0, 0) _ rfl hF Tryz.underlying41 rfl (by kernel_rfl)) rfl
    (by rw [HS.out]; exact ⟨rfl, T6.out.rd.only oF (fun e => by have e' : g = w.heap.size := e; have := HG.out; omega) (fun b hb e => by have e' : b = w.heap.size := e; have := FR.out b hb; omega),
      (((O0.out.trans T6.out.ho).setCell (p := ⟨w.heap.size, 0, none⟩) (.inr (Nat.le_refl _)) _).setCell (p := ⟨w.heap.size, 1, none⟩) (.inr (Nat.le_refl _)) _).setCell (p := ⟨w.heap.size, 2, none⟩) (.inr (Nat.le_refl _)) _⟩)
end Go.Proofs.YtlieolehpmobfaaGreatDoor
end
section
namespace Go.Proofs.YtlieolehpmobfaaGreatDoor
open Go.RowKit
set_option maxRecDepth 100000
set_option linter.all false
set_option maxHeartbeats 1600000 in
theorem mk_to (m : Mk) (w : World) :
    Calls Tryz.prog 80 #[.agg #[.int .i64 m.a.c, .int .i64 m.a.s, .string m.k]] w fun e w' => e = .returned (.agg #[.int .i64 m.a.c, .int .i64 m.a.s, .string m.k]) ∧ Only none_ w w' := by
  have HST := Lib.hid (st_to m.a.c m.a.s)
  have B0 := Blk.new w 41 #[.int .i64 m.a.c, .int .i64 m.a.s, .string m.k]
  obtain ⟨b0, hb0⟩ : ∃ b0, w.heap.size = b0 := ⟨_, rfl⟩
  have HB0 := Lib.hid hb0
  have B1 := Blk.new (w.alloc (.cells #[.int .i64 m.a.c, .int .i64 m.a.s, .string m.k] 41)) 27 #[.int .i64 0, .int .i64 0, .string ⟨#[]⟩]
  rw [World.size_alloc, hb0] at B1
  rw [hb0] at B0
  have B0' := Lib.hid (B0.alloc (.cells #[.int .i64 0, .int .i64 0, .string ⟨#[]⟩] 27))
  have B1' := Lib.hid B1
  have O := Lib.hid (((Only.refl none_ w).alloc (.cells #[.int .i64 m.a.c, .int .i64 m.a.s, .string m.k] 41)).alloc (.cells #[.int .i64 0, .int .i64 0, .string ⟨#[]⟩] 27))
  obtain ⟨w2, hw2⟩ : ∃ w2, (w.alloc (.cells #[.int .i64 m.a.c, .int .i64 m.a.s, .string m.k] 41)).alloc (.cells #[.int .i64 0, .int .i64 0, .string ⟨#[]⟩] 27) = w2 := ⟨_, rfl⟩
  have HW := Lib.hid hw2
  rw [hw2] at B0' B1' O
  obtain ⟨⟨mc, ms⟩, k⟩ := m
  simp only [] at HST B0' B1' O HW
  clear hb0 B0 B1 hw2
  go_enter Tryz.func80, Tryz.ntmps80
  go_wp2_with fail
  rw [HW.out, HB0.out]
  (refine wp_region_steady (fun w' => Only none_ w2 w') 6 (by kernel_rfl) (by kernel_rfl) ((Only.refl none_ w2).drew) ?_; simp only [List.take_succ_cons, List.take_zero, List.drop_succ_cons, List.drop_zero])
  repeat (first
    | (refine sd_value (v := ?_) (by rfl) (fun w0 hS => ?_) ?_; rotate_left; (· (have hb := B0'.out.only hS (fun h => h); have k0 := hb.cell_ (i := 0) rfl; have k1 := hb.cell_ (i := 1) rfl; have k2 := hb.cell_ (i := 2) rfl; go_simp; try (with_reducible rfl))); try simp only [Act.put, List.setIfInBounds_toArray, List.set_cons_zero, List.set_cons_succ])
    | (refine sd_call (v := ?_) (f := 182) (args := ?_) (by rfl) (fun w0 hS => ?_) (fun w0 hS => ?_) ?_; rotate_left 2; (· (skip; go_simp; try (with_reducible rfl))); (· (refine (HST.out _).mono ?_; rintro E w9 ⟨rfl, o9⟩; refine ⟨?_, hS.trans o9⟩; rfl)); try simp only [Act.put, List.setIfInBounds_toArray, List.set_cons_zero, List.set_cons_succ]))
  refine sd_nil ?_
  intro w3 t3
  have X := B1'.out.only t3 (fun h => h)
  have c0 := X.cell_ (i := 0) rfl
  have f0 := X.frozen 0
  have c1 := (X.set_ 0 (.int .i64 mc)).cell_ (i := 1) rfl
  have f1 := (X.set_ 0 (.int .i64 mc)).frozen 1
  have c2 := ((X.set_ 0 (.int .i64 mc)).set_ 1 (.int .i64 ms)).cell_ (i := 2) rfl
  have f2 := ((X.set_ 0 (.int .i64 mc)).set_ 1 (.int .i64 ms)).frozen 2
  have F : Hid (Blk (((w3.setCell ⟨b0 + 1, 0, none⟩ (.int .i64 mc)).setCell ⟨b0 + 1, 1, none⟩ (.int .i64 ms)).setCell ⟨b0 + 1, 2, none⟩ (.string k)) (b0 + 1) 27 #[.int .i64 mc, .int .i64 ms, .string k]) := ((X.set_ 0 (.int .i64 mc)).set_ 1 (.int .i64 ms)).set_ 2 (.string k)
  have OF : Hid (Only none_ w (((w3.setCell ⟨b0 + 1, 0, none⟩ (.int .i64 mc)).setCell ⟨b0 + 1, 1, none⟩ (.int .i64 ms)).setCell ⟨b0 + 1, 2, none⟩ (.string k))) := (O.out.trans t3).trans' ((((Only.refl (one (b0 + 1)) w3).setCell (p := ⟨b0 + 1, 0, none⟩) (.inl (show one (b0 + 1) (b0 + 1) from rfl)) _).setCell (p := ⟨b0 + 1, 1, none⟩) (.inl (show one (b0 + 1) (b0 + 1) from rfl)) _).setCell (p := ⟨b0 + 1, 2, none⟩) (.inl (show one (b0 + 1) (b0 + 1) from rfl)) _) (fun k hk e => by have e' : k = b0 + 1 := e; have := HB0.out; omega)
  clear t3 X
  go_wp2_with fail
  exact bodyPost_ret (results_cell_row rfl _ _ (b0 + 1) 27 _ (0, 0) _ rfl F.out Tryz.underlying27 rfl (by kernel_rfl)) rfl ⟨rfl, OF.out⟩
end Go.Proofs.YtlieolehpmobfaaGreatDoor
end
section
namespace Go.Proofs.YtlieolehpmobfaaGreatDoor
open Go.RowKit
set_option linter.all false
set_option maxRecDepth 100000
structure Tl {α : Type} (f : α → List Value) (k : Nat) (e : TypeId) (B : World) (g : Nat) (S : Nat → Prop) (v : Value) (l : List α) (code : Int) (bs : List UInt8) (w : World) : Prop where
  ow : w.ownsRow B.heap.size e k v l.length (l.flatMap f)
  rd : Rd w g S code bs
  ho : Only (one g) B w
  gl : g < B.heap.size
  fr : ∀ b, S b → b < B.heap.size
section
variable {α : Type} {f : α → List Value} {k : Nat} {e : TypeId} {B w w' : World} {g : Nat} {S : Nat → Prop} {v v' : Value} {l : List α} {code code' : Int} {bs bs' : List UInt8}
theorem Tl.step (t : Tl f k e B g S v l code bs w) (hr : Rd w' g S code' bs') (o : Only (one g) w w') : Tl f k e B g S v l code' bs' w' :=
  ⟨owns_only t.ow o (fun b hb h => by have h' : b = g := h; have := (t.ow.lt b hb).1; have := t.gl; omega), hr, t.ho.trans o, t.gl, t.fr⟩
theorem Tl.keep (t : Tl f k e B g S v l code bs w) (o : Only none_ w w') : Tl f k e B g S v l code bs w' :=
  ⟨owns_only t.ow o (fun _ _ h => h), t.rd.only o (fun h => h) (fun _ _ h => h), t.ho.trans o.of_none, t.gl, t.fr⟩
theorem Tl.app (t : Tl f k e B g S v l code bs w) (x : α) {n : Nat} {p : List Value} (own : w'.ownsRow B.heap.size e k v' n p) (hn : n = l.length + 1) (hp : p = l.flatMap f ++ f x) (hg : w.grownBy w' v.ownBlock) : Tl f k e B g S v' (l ++ [x]) code bs w' := by
  subst hn hp
  have o : Only (fun b => v.ownBlock = some b) w w' := (Only.refl _ w).grown hg (fun k hk => .inl hk)
  refine ⟨by rw [List.length_append, List.flatMap_append]; simpa using own, t.rd.only o (fun h => by have := (t.ow.lt g h).1; have := t.gl; omega) (fun b hb h => by have := (t.ow.lt b h).1; have := t.fr b hb; omega), t.ho.grown hg (fun k hk => .inr (t.ow.lt k hk).1), t.gl, t.fr⟩
theorem Tl.shape (t : Tl f k e B g S v l code bs w) : ∃ A c, v = .slice A l.length c := by
  rcases t.ow.2 with ⟨rfl, h0⟩ | ⟨_, _, _, rfl, _⟩
  · exact ⟨none, 0, by rw [h0]⟩
  · exact ⟨_, _, rfl⟩
theorem Tl.new (hr : Rd w g S code bs) (fr : ∀ b, S b → b < w.heap.size) : Tl f k e w g S (.slice none 0 0) [] code bs w :=
  ⟨World.ownsRow_nil _ _ _ _, hr, Only.refl _ _, hr.lt, fr⟩
end
theorem lenR_lt (c : Int) (bs : List UInt8) : (lenR c bs).2.2 ≤ 8 := by
  unfold lenR; split
  · exact Nat.zero_le _
  · omega
theorem lenR_len (c : Int) (bs : List UInt8) : (lenR c bs).2.1.length ≤ bs.length := by
  unfold lenR; split <;> exact numR_len c bs 1
theorem listR_len {α : Type} {f : Tkn α} (hf : ∀ c bs, (f c bs).2.1.length ≤ bs.length) (c : Int) (bs : List UInt8) : ∀ n, (listR f n c bs).2.1.length ≤ bs.length
  | 0 => Nat.le_refl _
  | n + 1 => Nat.le_trans (hf _ _) (listR_len hf c bs n)
theorem listR_count {α : Type} (f : Tkn α) (c : Int) (bs : List UInt8) : ∀ n, (listR f n c bs).2.2.length = n
  | 0 => rfl
  | n + 1 => by show ((listR f n c bs).2.2 ++ [_]).length = _; rw [List.length_append, listR_count f c bs n]; rfl
theorem nodeR_len (c : Int) (bs : List UInt8) : (nodeR c bs).2.1.length ≤ bs.length := numR_len c bs 1
theorem markR_len (c : Int) (bs : List UInt8) : (markR c bs).2.1.length ≤ bs.length := Nat.le_trans (textR_len _ _ _) (stampR_len _ _)
theorem entR_len (c : Int) (bs : List UInt8) : (entR c bs).2.1.length ≤ bs.length := by
  show (fieldsF c bs).a7.2.1.length ≤ _
  unfold fieldsF
  dsimp only
  exact Nat.le_trans (numR_len _ _ _) (Nat.le_trans (numR_len _ _ _) (Nat.le_trans (stampR_len _ _) (Nat.le_trans (stampR_len _ _) (Nat.le_trans (textR_len _ _ _) (Nat.le_trans (flagR_len _ _) (textR_len _ _ _))))))
theorem wt_ent (g : Nat) (S : Nat → Prop) (code : Int) (bs : List UInt8) (w : World) (hr : Rd w g S code bs) (fr : ∀ b, S b → b < w.heap.size) (hm : bs.length ≤ 140737488355328) :
    Calls Tryz.prog 146 #[.pointer (some ⟨g, 0, none⟩)] w fun e w' =>
      e = .returned (.agg #[.string (entR code bs).2.2.k, .string (entR code bs).2.2.v, .bool (entR code bs).2.2.d, .int .i64 (entR code bs).2.2.s.c, .int .i64 (entR code bs).2.2.s.s, .int .i64 (entR code bs).2.2.a.c, .int .i64 (entR code bs).2.2.a.s, .int .i64 (entR code bs).2.2.p, .int .i64 (entR code bs).2.2.g]) ∧ Rd w' g S (entR code bs).1 (entR code bs).2.1 ∧ Only (one g) w w' := take_any g S code bs w hr fr hm
theorem int_info2 : (Tryz.prog.info? 3).map (fun i => (i.zero, i.size, i.bytes)) = some (some (.int .i64 0), 1, 8) := by kernel_rfl
theorem amark_info : (Tryz.prog.info? 41).map (fun i => (i.zero, i.size, i.bytes)) = some (some (.agg #[.int .i64 0, .int .i64 0, .string ⟨#[]⟩]), 3, 32) := by kernel_rfl
theorem aent_info : (Tryz.prog.info? 147).map (fun i => (i.zero, i.size, i.bytes)) = some (some (.agg #[.string ⟨#[]⟩, .string ⟨#[]⟩, .bool false, .int .i64 0, .int .i64 0, .int .i64 0, .int .i64 0, .int .i64 0, .int .i64 0]), 9, 88) := by kernel_rfl
set_option maxHeartbeats 3200000 in
theorem wt_list_int (g : Nat) (S : Nat → Prop) (code : Int) (bs : List UInt8) (w : World) (hr : Rd w g S code bs) (fr : ∀ b, S b → b < w.heap.size) (hm : bs.length ≤ 140737488355328) :
    Calls Tryz.prog 128 #[.pointer (some ⟨g, 0, none⟩), .func (.func 116) #[] #[]] w fun e w' =>
      ∃ v, e = .returned v ∧ Tl intI 1 3 w g S v (manyR nodeR code bs).2.2 (manyR nodeR code bs).1 (manyR nodeR code bs).2.1 w' := by
  obtain ⟨i0, hi0, hz0, hz1, hz2⟩ := rinfo_parts int_info2
  have C := Lib.hid (reader_number g S code bs 1 w hr hm)
  have HM : Hid (manyR nodeR code bs = listR nodeR (lenR code bs).2.2 (lenR code bs).1 (lenR code bs).2.1) := rfl
  have hlt := numR_lt code bs 1
  have hl1 := lenR_lt code bs
  have hl2 := lenR_len code bs
  have HE : Hid (lenR code bs = if 8 < (numR code bs 1).2.2 then (first_ (numR code bs 1).1 4, (numR code bs 1).2.1, 0) else numR code bs 1) := rfl
  have hg := hr.lt
  have HG := Lib.hid hg
  have FR := Lib.hid fr
  obtain ⟨⟨c1, b1, n1⟩, ha⟩ : ∃ a, numR code bs 1 = a := ⟨_, rfl⟩
  rw [show ((1 : Nat) : Int) = 1 from rfl, ha] at hlt
  rw [ha] at C HE
  dsimp only at C HE hlt
  have hN : (n1 : Int) < 256 := by have e : (256 : Nat) ^ 1 = 256 := rfl; omega
  clear ha hlt
  have W0 : Hid (∀ w1, Only (one g) w w1 → w.heap.size ≤ w1.heap.size) := fun w1 o => o.size
  by_cases h8 : 8 < n1
  · have h8' : (8 : Int) < (n1 : Int) := by omega
    have HL : Hid (lenR code bs = (first_ c1 4, b1, 0)) := by rw [Hid, HE.out, if_pos h8]
    have HX : Hid (manyR nodeR code bs = (first_ c1 4, b1, [])) := by rw [Hid, HM.out, HL.out]; rfl
    clear h8 HE hl1 hl2 hr fr hm hg
    go_enter Tryz.func128, Tryz.ntmps128
    go_wp2_with (first
      | (go_at_call 120; refine C.out.mono ?_; rintro e w1 ⟨rfl, h1, o1⟩; have H1 := Lib.hid h1; have O1 := Lib.hid o1; clear h1 o1)
      | (go_at_call 177; refine (reader_fail g S c1 4 b1 _ H1.out).mono ?_; rintro e w2 ⟨rfl, h2, o2⟩; have H2 := Lib.hid h2; have O2 := Lib.hid (O1.out.trans o2); clear h2 o2))
    go_ret
    rw [HX.out]
    exact ⟨_, rfl, World.ownsRow_nil _ _ _ _, H2.out, O2.out, HG.out, FR.out⟩
  · have h8' : ¬ (8 : Int) < (n1 : Int) := by omega
    have HL : Hid (lenR code bs = (c1, b1, n1)) := by rw [Hid, HE.out, if_neg h8]
    have HX : Hid (manyR nodeR code bs = listR nodeR n1 c1 b1) := by rw [Hid, HM.out, HL.out]
    rw [HL.out] at hl1 hl2
    dsimp only at hl1 hl2
    have HB : Hid (∀ i, (listR nodeR i c1 b1).2.1.length ≤ 140737488355328) := fun i => Nat.le_trans (listR_len nodeR_len c1 b1 i) (Nat.le_trans hl2 hm)
    have hn8 : (n1 : Int) ≤ 8 := by omega
    clear h8 HE hl2 hr fr hm hg
    go_enter Tryz.func128, Tryz.ntmps128
    go_wp2_with (first
      | (go_at_call 120; refine C.out.mono ?_; rintro e w1 ⟨rfl, h1, o1⟩; have T0 : Hid (Tl intI 1 3 w g S (.slice none 0 0) [] c1 b1 w1) := ⟨World.ownsRow_nil _ _ _ _, h1, o1, HG.out, FR.out⟩; clear h1 o1))
    go_loopw [6, 16] (fun s6 s16 wr => ∃ i : Nat, i ≤ n1 ∧ s16 = .int .u64 i ∧ Tl intI 1 3 w g S s6 (listR nodeR i c1 b1).2.2 (listR nodeR i c1 b1).1 (listR nodeR i c1 b1).2.1 wr) (fun _ s16 _ => n1 - (intOf s16).toNat)
    case atStart => exact ⟨0, by omega, rfl, T0.out⟩
    case round =>
      obtain ⟨i, hi, rfl, r⟩ := hrel
      obtain ⟨A1, cp, hs⟩ := r.shape
      subst hs
      have hct := listR_count nodeR c1 b1 i
      by_cases hlt : i < n1
      · have hlt' : (i : Int) < (n1 : Int) := by omega
        have hiw : IntKind.u64.wrap ((i : Int) + 1) = (i : Int) + 1 := IntWalk.u64_in _ (by omega)
        have HC := Lib.hid (wt_node g S _ _ wr r.rd (HB.out i))
        have HSN : Hid (listR nodeR (i + 1) c1 b1 = ((nodeR (listR nodeR i c1 b1).1 (listR nodeR i c1 b1).2.1).1, (nodeR (listR nodeR i c1 b1).1 (listR nodeR i c1 b1).2.1).2.1, (listR nodeR i c1 b1).2.2 ++ [(nodeR (listR nodeR i c1 b1).1 (listR nodeR i c1 b1).2.1).2.2])) := rfl
        obtain ⟨⟨c2, b2, l2⟩, hs2⟩ : ∃ a, listR nodeR i c1 b1 = a := ⟨_, rfl⟩
        rw [hs2] at hct r HC HSN
        dsimp only at hct r HC HSN
        obtain ⟨⟨c3, b3, x⟩, hs3⟩ : ∃ a, nodeR c2 b2 = a := ⟨_, rfl⟩
        rw [hs3] at HC HSN
        dsimp only at HC HSN
        rw [hs2]
        dsimp only
        rw [hct]
        have R := Lib.hid r
        have HCT := Lib.hid hct
        have HLN : Hid (i + 1 ≤ maxLen ∧ (i + 1) * 8 ≤ 140737488355328) := by simp only [Hid, maxLen]; omega
        have HONE : Hid (∀ u ∈ intI x, u.oneCell' = true) := by intro u hu; simp [intI] at hu; rcases hu with rfl <;> rfl
        clear r hct hs2 hs3 HB HX
        go_wp2_with (first
          | (go_at_call 116; refine HC.out.mono ?_; rintro E w3 ⟨rfl, h3, o3⟩
             have R3 := Lib.hid ((R.out.step h3 o3).keep ((Only.refl none_ w3).alloc (.cells #[.int .i64 x] 3)))
             have C1 : Hid (Cel (w3.alloc (.cells #[.int .i64 x] 3)) (fun b => b = w3.heap.size) (.slice (some ⟨w3.heap.size, 0, none⟩) 1 1) 1 1 (intI x)) := cel_made w3 3 1 1 #[.int .i64 x] rfl (by simp [maxLen])
             clear h3 o3)
          | (at_builtin; refine wpList_append_cel _ rfl (.tmp 18) (.tmp 22) 22 rfl w.heap.size 3 i0 _ 1 8 Tryz.underlying22 hi0 hz0 hz1 hz2 rfl (by omega) (.slice A1 i cp) i _ rfl (by have := R3.out.ow; rw [HCT.out] at this; exact this) _ _ 1 _ rfl C1.out HONE.out HLN.out.1 HLN.out.2 R3.out.ho.size ?_
             intro A5 n5 c5 w5 hown5 hgrow5 hmv5
             have R5 : Hid (Tl intI 1 3 w g S (.slice A5 n5 c5) (l2 ++ [x]) c3 b3 w5) := R3.out.app x hown5 (by rw [HCT.out]) rfl (by rw [HCT.out]; exact hgrow5)
             clear hown5 hgrow5 hmv5))
        go_roundw
        case rel => exact ⟨i + 1, by omega, by go_num, by rw [HSN.out]; exact R5.out⟩
        case measure => simp [intOf]; omega
      · have hge : ¬ ((i : Int) < (n1 : Int)) := by omega
        obtain rfl : i = n1 := by omega
        have R := Lib.hid r
        clear r hct HB
        go_wp2_with fail
        go_ret
        rw [HX.out]
        exact ⟨_, rfl, R.out⟩
set_option maxHeartbeats 3200000 in
theorem wt_list_mk (g : Nat) (S : Nat → Prop) (code : Int) (bs : List UInt8) (w : World) (hr : Rd w g S code bs) (fr : ∀ b, S b → b < w.heap.size) (hm : bs.length ≤ 140737488355328) :
    Calls Tryz.prog 140 #[.pointer (some ⟨g, 0, none⟩), .func (.func 136) #[] #[]] w fun e w' =>
      ∃ v, e = .returned v ∧ Tl mkI 3 41 w g S v (manyR markR code bs).2.2 (manyR markR code bs).1 (manyR markR code bs).2.1 w' := by
  obtain ⟨i0, hi0, hz0, hz1, hz2⟩ := rinfo_parts amark_info
  have C := Lib.hid (reader_number g S code bs 1 w hr hm)
  have HM : Hid (manyR markR code bs = listR markR (lenR code bs).2.2 (lenR code bs).1 (lenR code bs).2.1) := rfl
  have hlt := numR_lt code bs 1
  have hl1 := lenR_lt code bs
  have hl2 := lenR_len code bs
  have HE : Hid (lenR code bs = if 8 < (numR code bs 1).2.2 then (first_ (numR code bs 1).1 4, (numR code bs 1).2.1, 0) else numR code bs 1) := rfl
  have hg := hr.lt
  have HG := Lib.hid hg
  have FR := Lib.hid fr
  obtain ⟨⟨c1, b1, n1⟩, ha⟩ : ∃ a, numR code bs 1 = a := ⟨_, rfl⟩
  rw [show ((1 : Nat) : Int) = 1 from rfl, ha] at hlt
  rw [ha] at C HE
  dsimp only at C HE hlt
  have hN : (n1 : Int) < 256 := by have e : (256 : Nat) ^ 1 = 256 := rfl; omega
  clear ha hlt
  have W0 : Hid (∀ w1, Only (one g) w w1 → w.heap.size ≤ w1.heap.size) := fun w1 o => o.size
  by_cases h8 : 8 < n1
  · have h8' : (8 : Int) < (n1 : Int) := by omega
    have HL : Hid (lenR code bs = (first_ c1 4, b1, 0)) := by rw [Hid, HE.out, if_pos h8]
    have HX : Hid (manyR markR code bs = (first_ c1 4, b1, [])) := by rw [Hid, HM.out, HL.out]; rfl
    clear h8 HE hl1 hl2 hr fr hm hg
    go_enter Tryz.func140, Tryz.ntmps140
    go_wp2_with (first
      | (go_at_call 120; refine C.out.mono ?_; rintro e w1 ⟨rfl, h1, o1⟩; have H1 := Lib.hid h1; have O1 := Lib.hid o1; clear h1 o1)
      | (go_at_call 177; refine (reader_fail g S c1 4 b1 _ H1.out).mono ?_; rintro e w2 ⟨rfl, h2, o2⟩; have H2 := Lib.hid h2; have O2 := Lib.hid (O1.out.trans o2); clear h2 o2))
    go_ret
    rw [HX.out]
    exact ⟨_, rfl, World.ownsRow_nil _ _ _ _, H2.out, O2.out, HG.out, FR.out⟩
  · have h8' : ¬ (8 : Int) < (n1 : Int) := by omega
    have HL : Hid (lenR code bs = (c1, b1, n1)) := by rw [Hid, HE.out, if_neg h8]
    have HX : Hid (manyR markR code bs = listR markR n1 c1 b1) := by rw [Hid, HM.out, HL.out]
    rw [HL.out] at hl1 hl2
    dsimp only at hl1 hl2
    have HB : Hid (∀ i, (listR markR i c1 b1).2.1.length ≤ 140737488355328) := fun i => Nat.le_trans (listR_len markR_len c1 b1 i) (Nat.le_trans hl2 hm)
    have hn8 : (n1 : Int) ≤ 8 := by omega
    clear h8 HE hl2 hr fr hm hg
    go_enter Tryz.func140, Tryz.ntmps140
    go_wp2_with (first
      | (go_at_call 120; refine C.out.mono ?_; rintro e w1 ⟨rfl, h1, o1⟩; have T0 : Hid (Tl mkI 3 41 w g S (.slice none 0 0) [] c1 b1 w1) := ⟨World.ownsRow_nil _ _ _ _, h1, o1, HG.out, FR.out⟩; clear h1 o1))
    go_loopw [6, 16] (fun s6 s16 wr => ∃ i : Nat, i ≤ n1 ∧ s16 = .int .u64 i ∧ Tl mkI 3 41 w g S s6 (listR markR i c1 b1).2.2 (listR markR i c1 b1).1 (listR markR i c1 b1).2.1 wr) (fun _ s16 _ => n1 - (intOf s16).toNat)
    case atStart => exact ⟨0, by omega, rfl, T0.out⟩
    case round =>
      obtain ⟨i, hi, rfl, r⟩ := hrel
      obtain ⟨A1, cp, hs⟩ := r.shape
      subst hs
      have hct := listR_count markR c1 b1 i
      by_cases hlt : i < n1
      · have hlt' : (i : Int) < (n1 : Int) := by omega
        have hiw : IntKind.u64.wrap ((i : Int) + 1) = (i : Int) + 1 := IntWalk.u64_in _ (by omega)
        have HC := Lib.hid (wt_mark g S _ _ wr r.rd (fun b hb => Nat.lt_of_lt_of_le (r.fr b hb) r.ho.size) (HB.out i))
        have HSN : Hid (listR markR (i + 1) c1 b1 = ((markR (listR markR i c1 b1).1 (listR markR i c1 b1).2.1).1, (markR (listR markR i c1 b1).1 (listR markR i c1 b1).2.1).2.1, (listR markR i c1 b1).2.2 ++ [(markR (listR markR i c1 b1).1 (listR markR i c1 b1).2.1).2.2])) := rfl
        obtain ⟨⟨c2, b2, l2⟩, hs2⟩ : ∃ a, listR markR i c1 b1 = a := ⟨_, rfl⟩
        rw [hs2] at hct r HC HSN
        dsimp only at hct r HC HSN
        obtain ⟨⟨c3, b3, x⟩, hs3⟩ : ∃ a, markR c2 b2 = a := ⟨_, rfl⟩
        rw [hs3] at HC HSN
        dsimp only at HC HSN
        rw [hs2]
        dsimp only
        rw [hct]
        have R := Lib.hid r
        have HCT := Lib.hid hct
        have HLN : Hid (i + 1 ≤ maxLen ∧ (i + 1) * 32 ≤ 140737488355328) := by simp only [Hid, maxLen]; omega
        have HONE : Hid (∀ u ∈ mkI x, u.oneCell' = true) := by intro u hu; simp [mkI] at hu; rcases hu with rfl | rfl | rfl <;> rfl
        clear r hct hs2 hs3 HB HX
        go_wp2_with (first
          | (go_at_call 136; refine HC.out.mono ?_; rintro E w3 ⟨rfl, h3, o3⟩
             have R3 := Lib.hid ((R.out.step h3 o3).keep ((Only.refl none_ w3).alloc (.cells #[.int .i64 x.a.c, .int .i64 x.a.s, .string x.k] 41)))
             have C1 : Hid (Cel (w3.alloc (.cells #[.int .i64 x.a.c, .int .i64 x.a.s, .string x.k] 41)) (fun b => b = w3.heap.size) (.slice (some ⟨w3.heap.size, 0, none⟩) 1 1) 1 3 (mkI x)) := cel_made w3 41 3 1 #[.int .i64 x.a.c, .int .i64 x.a.s, .string x.k] rfl (by simp [maxLen])
             clear h3 o3)
          | (at_builtin; refine wpList_append_cel _ rfl (.tmp 18) (.tmp 22) 42 rfl w.heap.size 41 i0 _ 3 32 Tryz.underlying42 hi0 hz0 hz1 hz2 rfl (by omega) (.slice A1 i cp) i _ rfl (by have := R3.out.ow; rw [HCT.out] at this; exact this) _ _ 1 _ rfl C1.out HONE.out HLN.out.1 HLN.out.2 R3.out.ho.size ?_
             intro A5 n5 c5 w5 hown5 hgrow5 hmv5
             have R5 : Hid (Tl mkI 3 41 w g S (.slice A5 n5 c5) (l2 ++ [x]) c3 b3 w5) := R3.out.app x hown5 (by rw [HCT.out]) rfl (by rw [HCT.out]; exact hgrow5)
             clear hown5 hgrow5 hmv5))
        go_roundw
        case rel => exact ⟨i + 1, by omega, by go_num, by rw [HSN.out]; exact R5.out⟩
        case measure => simp [intOf]; omega
      · have hge : ¬ ((i : Int) < (n1 : Int)) := by omega
        obtain rfl : i = n1 := by omega
        have R := Lib.hid r
        clear r hct HB
        go_wp2_with fail
        go_ret
        rw [HX.out]
        exact ⟨_, rfl, R.out⟩
set_option maxHeartbeats 3200000 in
theorem wt_list_en (g : Nat) (S : Nat → Prop) (code : Int) (bs : List UInt8) (w : World) (hr : Rd w g S code bs) (fr : ∀ b, S b → b < w.heap.size) (hm : bs.length ≤ 140737488355328) :
    Calls Tryz.prog 145 #[.pointer (some ⟨g, 0, none⟩), .func (.func 146) #[] #[]] w fun e w' =>
      ∃ v, e = .returned v ∧ Tl enRow 9 147 w g S v (manyR entR code bs).2.2 (manyR entR code bs).1 (manyR entR code bs).2.1 w' := by
  obtain ⟨i0, hi0, hz0, hz1, hz2⟩ := rinfo_parts aent_info
  have C := Lib.hid (reader_number g S code bs 1 w hr hm)
  have HM : Hid (manyR entR code bs = listR entR (lenR code bs).2.2 (lenR code bs).1 (lenR code bs).2.1) := rfl
  have hlt := numR_lt code bs 1
  have hl1 := lenR_lt code bs
  have hl2 := lenR_len code bs
  have HE : Hid (lenR code bs = if 8 < (numR code bs 1).2.2 then (first_ (numR code bs 1).1 4, (numR code bs 1).2.1, 0) else numR code bs 1) := rfl
  have hg := hr.lt
  have HG := Lib.hid hg
  have FR := Lib.hid fr
  obtain ⟨⟨c1, b1, n1⟩, ha⟩ : ∃ a, numR code bs 1 = a := ⟨_, rfl⟩
  rw [show ((1 : Nat) : Int) = 1 from rfl, ha] at hlt
  rw [ha] at C HE
  dsimp only at C HE hlt
  have hN : (n1 : Int) < 256 := by have e : (256 : Nat) ^ 1 = 256 := rfl; omega
  clear ha hlt
  have W0 : Hid (∀ w1, Only (one g) w w1 → w.heap.size ≤ w1.heap.size) := fun w1 o => o.size
  by_cases h8 : 8 < n1
  · have h8' : (8 : Int) < (n1 : Int) := by omega
    have HL : Hid (lenR code bs = (first_ c1 4, b1, 0)) := by rw [Hid, HE.out, if_pos h8]
    have HX : Hid (manyR entR code bs = (first_ c1 4, b1, [])) := by rw [Hid, HM.out, HL.out]; rfl
    clear h8 HE hl1 hl2 hr fr hm hg
    go_enter Tryz.func145, Tryz.ntmps145
    go_wp2_with (first
      | (go_at_call 120; refine C.out.mono ?_; rintro e w1 ⟨rfl, h1, o1⟩; have H1 := Lib.hid h1; have O1 := Lib.hid o1; clear h1 o1)
      | (go_at_call 177; refine (reader_fail g S c1 4 b1 _ H1.out).mono ?_; rintro e w2 ⟨rfl, h2, o2⟩; have H2 := Lib.hid h2; have O2 := Lib.hid (O1.out.trans o2); clear h2 o2))
    go_ret
    rw [HX.out]
    exact ⟨_, rfl, World.ownsRow_nil _ _ _ _, H2.out, O2.out, HG.out, FR.out⟩
  · have h8' : ¬ (8 : Int) < (n1 : Int) := by omega
    have HL : Hid (lenR code bs = (c1, b1, n1)) := by rw [Hid, HE.out, if_neg h8]
    have HX : Hid (manyR entR code bs = listR entR n1 c1 b1) := by rw [Hid, HM.out, HL.out]
    rw [HL.out] at hl1 hl2
    dsimp only at hl1 hl2
    have HB : Hid (∀ i, (listR entR i c1 b1).2.1.length ≤ 140737488355328) := fun i => Nat.le_trans (listR_len entR_len c1 b1 i) (Nat.le_trans hl2 hm)
    have hn8 : (n1 : Int) ≤ 8 := by omega
    clear h8 HE hl2 hr fr hm hg
    go_enter Tryz.func145, Tryz.ntmps145
    go_wp2_with (first
      | (go_at_call 120; refine C.out.mono ?_; rintro e w1 ⟨rfl, h1, o1⟩; have T0 : Hid (Tl enRow 9 147 w g S (.slice none 0 0) [] c1 b1 w1) := ⟨World.ownsRow_nil _ _ _ _, h1, o1, HG.out, FR.out⟩; clear h1 o1))
    go_loopw [6, 16] (fun s6 s16 wr => ∃ i : Nat, i ≤ n1 ∧ s16 = .int .u64 i ∧ Tl enRow 9 147 w g S s6 (listR entR i c1 b1).2.2 (listR entR i c1 b1).1 (listR entR i c1 b1).2.1 wr) (fun _ s16 _ => n1 - (intOf s16).toNat)
    case atStart => exact ⟨0, by omega, rfl, T0.out⟩
    case round =>
      obtain ⟨i, hi, rfl, r⟩ := hrel
      obtain ⟨A1, cp, hs⟩ := r.shape
      subst hs
      have hct := listR_count entR c1 b1 i
      by_cases hlt : i < n1
      · have hlt' : (i : Int) < (n1 : Int) := by omega
        have hiw : IntKind.u64.wrap ((i : Int) + 1) = (i : Int) + 1 := IntWalk.u64_in _ (by omega)
        have HC := Lib.hid (wt_ent g S _ _ wr r.rd (fun b hb => Nat.lt_of_lt_of_le (r.fr b hb) r.ho.size) (HB.out i))
        have HSN : Hid (listR entR (i + 1) c1 b1 = ((entR (listR entR i c1 b1).1 (listR entR i c1 b1).2.1).1, (entR (listR entR i c1 b1).1 (listR entR i c1 b1).2.1).2.1, (listR entR i c1 b1).2.2 ++ [(entR (listR entR i c1 b1).1 (listR entR i c1 b1).2.1).2.2])) := rfl
        obtain ⟨⟨c2, b2, l2⟩, hs2⟩ : ∃ a, listR entR i c1 b1 = a := ⟨_, rfl⟩
        rw [hs2] at hct r HC HSN
        dsimp only at hct r HC HSN
        obtain ⟨⟨c3, b3, x⟩, hs3⟩ : ∃ a, entR c2 b2 = a := ⟨_, rfl⟩
        rw [hs3] at HC HSN
        dsimp only at HC HSN
        rw [hs2]
        dsimp only
        rw [hct]
        have R := Lib.hid r
        have HCT := Lib.hid hct
        have HLN : Hid (i + 1 ≤ maxLen ∧ (i + 1) * 88 ≤ 140737488355328) := by simp only [Hid, maxLen]; omega
        have HONE : Hid (∀ u ∈ enRow x, u.oneCell' = true) := by intro u hu; simp [enRow] at hu; rcases hu with rfl | rfl | rfl | rfl | rfl | rfl | rfl | rfl | rfl <;> rfl
        clear r hct hs2 hs3 HB HX
        go_wp2_with (first
          | (go_at_call 146; refine HC.out.mono ?_; rintro E w3 ⟨rfl, h3, o3⟩
             have R3 := Lib.hid ((R.out.step h3 o3).keep ((Only.refl none_ w3).alloc (.cells #[.string x.k, .string x.v, .bool x.d, .int .i64 x.s.c, .int .i64 x.s.s, .int .i64 x.a.c, .int .i64 x.a.s, .int .i64 x.p, .int .i64 x.g] 147)))
             have C1 : Hid (Cel (w3.alloc (.cells #[.string x.k, .string x.v, .bool x.d, .int .i64 x.s.c, .int .i64 x.s.s, .int .i64 x.a.c, .int .i64 x.a.s, .int .i64 x.p, .int .i64 x.g] 147)) (fun b => b = w3.heap.size) (.slice (some ⟨w3.heap.size, 0, none⟩) 1 1) 1 9 (enRow x)) := cel_made w3 147 9 1 #[.string x.k, .string x.v, .bool x.d, .int .i64 x.s.c, .int .i64 x.s.s, .int .i64 x.a.c, .int .i64 x.a.s, .int .i64 x.p, .int .i64 x.g] rfl (by simp [maxLen])
             clear h3 o3)
          | (at_builtin; refine wpList_append_cel _ rfl (.tmp 18) (.tmp 22) 43 rfl w.heap.size 147 i0 _ 9 88 Tryz.underlying43 hi0 hz0 hz1 hz2 rfl (by omega) (.slice A1 i cp) i _ rfl (by have := R3.out.ow; rw [HCT.out] at this; exact this) _ _ 1 _ rfl C1.out HONE.out HLN.out.1 HLN.out.2 R3.out.ho.size ?_
             intro A5 n5 c5 w5 hown5 hgrow5 hmv5
             have R5 : Hid (Tl enRow 9 147 w g S (.slice A5 n5 c5) (l2 ++ [x]) c3 b3 w5) := R3.out.app x hown5 (by rw [HCT.out]) rfl (by rw [HCT.out]; exact hgrow5)
             clear hown5 hgrow5 hmv5))
        go_roundw
        case rel => exact ⟨i + 1, by omega, by go_num, by rw [HSN.out]; exact R5.out⟩
        case measure => simp [intOf]; omega
      · have hge : ¬ ((i : Int) < (n1 : Int)) := by omega
        obtain rfl : i = n1 := by omega
        have R := Lib.hid r
        clear r hct HB
        go_wp2_with fail
        go_ret
        rw [HX.out]
        exact ⟨_, rfl, R.out⟩
end Go.Proofs.YtlieolehpmobfaaGreatDoor
end
section
namespace Go.Proofs.YtlieolehpmobfaaGreatDoor
open Go.RowKit
set_option linter.all false
set_option maxRecDepth 100000
theorem is_emp (s : ByteArray) : s.toList.isEmpty = decide (s.size = 0) := by
  rw [ByteArray.toList_eq]; obtain ⟨⟨l⟩⟩ := s; cases l <;> simp [ByteArray.size]
set_option maxHeartbeats 1600000 in
theorem wi_mark (x : Mk) (w : World) : Calls Tryz.prog 167 #[.agg #[.int .i64 x.a.c, .int .i64 x.a.s, .string x.k]] w fun E w' => E = .returned (.bool (mkGood x)) ∧ Only none_ w w' := by
  obtain ⟨⟨xc, xs⟩, xk⟩ := x
  show Calls Tryz.prog 167 #[.agg #[.int .i64 xc, .int .i64 xs, .string xk]] w _
  have B := Blk.new w 41 #[.int .i64 xc, .int .i64 xs, .string xk]
  have HB := Lib.hid B
  have O := Lib.hid ((Only.refl none_ w).alloc (.cells #[.int .i64 xc, .int .i64 xs, .string xk] 41))
  have c0 := B.cell_ (i := 0) rfl
  have c1 := B.cell_ (i := 1) rfl
  have c2 := B.cell_ (i := 2) rfl
  obtain ⟨gb, hg⟩ : ∃ b, stGood ⟨xc, xs⟩ = b := ⟨_, rfl⟩
  have HG := Lib.hid hg
  have HM : Hid (mkGood ⟨⟨xc, xs⟩, xk⟩ = (gb && decide (1 ≤ xk.size) && decide (xk.size ≤ 16))) := by rw [Hid, mkGood]; dsimp only; rw [hg]
  have he := is_emp xk
  clear B hg
  cases gb
  · go_enter Tryz.func167, Tryz.ntmps167
    go_wp2_with (first
      | (go_at_call 239; refine (st_good _ _ _).mono ?_; rintro E w9 ⟨rfl, o9⟩; rw [HG.out]; have O9 := Lib.hid (O.out.trans o9); clear o9))
    go_ret
    exact ⟨by rw [HM.out]; rfl, O9.out⟩
  · by_cases h1 : xk.size = 0
    · have he' : xk.toList.isEmpty = true := by rw [he]; simp [h1]
      have HM2 : Hid (mkGood ⟨⟨xc, xs⟩, xk⟩ = false) := by rw [Hid, HM.out]; simp [h1]
      clear he HM
      go_enter Tryz.func167, Tryz.ntmps167
      go_wp2_with (first
        | (go_at_call 239; refine (st_good _ _ _).mono ?_; rintro E w9 ⟨rfl, o9⟩; rw [HG.out]; have O9 := Lib.hid (O.out.trans o9)
           have b9 := HB.out.only o9 (fun h => h)
           have k2 := b9.cell_ (i := 2) rfl
           clear o9 b9))
      go_ret
      exact ⟨by rw [HM2.out]; rfl, O9.out⟩
    · have he' : xk.toList.isEmpty = false := by rw [he]; simp [h1]
      have HM2 : Hid (mkGood ⟨⟨xc, xs⟩, xk⟩ = decide ((xk.size : Int) ≤ 16)) := by
        rw [Hid, HM.out, Bool.eq_iff_iff]
        simp only [Bool.true_and, Bool.and_eq_true, decide_eq_true_eq]
        omega
      clear he HM
      go_enter Tryz.func167, Tryz.ntmps167
      go_wp2_with (first
        | (go_at_call 239; refine (st_good _ _ _).mono ?_; rintro E w9 ⟨rfl, o9⟩; rw [HG.out]; have O9 := Lib.hid (O.out.trans o9)
           have b9 := HB.out.only o9 (fun h => h)
           have k2 := b9.cell_ (i := 2) rfl
           clear o9 b9))
      go_ret
      exact ⟨by rw [HM2.out]; rfl, O9.out⟩
def shRow (nm : ByteArray) (fl lo up : Int) : Array Value := #[.string nm, .int .i64 fl, .int .i64 lo, .int .i64 up]
set_option maxHeartbeats 800000 in
theorem wi_many (nm : ByteArray) (fl lo up : Int) (n : Nat) (w : World) : Calls Tryz.prog 170 #[.agg #[.string nm, .int .i64 fl, .int .i64 lo, .int .i64 up], .int .i64 n] w fun E w' => E = .returned (.bool (manyB lo up n)) ∧ Only none_ w w' := by
  have B := Blk.new w 139 #[.string nm, .int .i64 fl, .int .i64 lo, .int .i64 up]
  have O := Lib.hid ((Only.refl none_ w).alloc (.cells #[.string nm, .int .i64 fl, .int .i64 lo, .int .i64 up] 139))
  have c2 := B.cell_ (i := 2) rfl
  have c3 := B.cell_ (i := 3) rfl
  have HM : Hid (manyB lo up n = (decide (lo ≤ (n : Int)) && decide ((n : Int) ≤ up))) := rfl
  clear B
  by_cases h : lo ≤ (n : Int)
  · have HM2 : Hid (manyB lo up n = decide ((n : Int) ≤ up)) := by rw [Hid, HM.out]; simp [h]
    clear HM
    go_enter Tryz.func170, Tryz.ntmps170
    go_wp2_with fail
    go_ret
    exact ⟨by rw [HM2.out]; rfl, O.out⟩
  · have HM2 : Hid (manyB lo up n = false) := by rw [Hid, HM.out]; simp [h]
    clear HM
    go_enter Tryz.func170, Tryz.ntmps170
    go_wp2_with fail
    go_ret
    exact ⟨by rw [HM2.out]; rfl, O.out⟩
set_option maxHeartbeats 1600000 in
theorem wi_each_int (S : Nat → Prop) (l : List Int) (v : Value) (w : World) (h : Cel w S v l.length 1 (l.flatMap intI)) (hl : l.length ≤ 4096) :
    Calls Tryz.prog 159 #[v, .func (.func 152) #[] #[]] w fun e w' => e = .returned (.bool (l.all nodeB)) ∧ Only none_ w w' := by
  obtain ⟨n, hn⟩ : ∃ n, l.length = n := ⟨_, rfl⟩
  have h0 := h
  rw [hn] at h hl
  obtain ⟨A, c, rfl, _⟩ := id h
  have HA := Lib.hid (fun (w' : World) (o : Only none_ w w') => h.only o (fun _ _ h => h))
  have HN := Lib.hid hn
  clear h h0 hn
  go_enter Tryz.func159, Tryz.ntmps159
  go_wp2_with fail
  go_loopw [9] (fun s9 wr => ∃ i : Nat, i ≤ n ∧ s9 = .int .i64 i ∧ Only none_ w wr ∧ (l.take i).all nodeB = true) (fun s9 _ => n - (intOf s9).toNat)
  case atStart => exact ⟨0, by omega, rfl, Only.refl _ _, by simp⟩
  case round =>
    obtain ⟨i, hi, rfl, o, hall⟩ := hrel
    have HAL := Lib.hid hall
    have O := Lib.hid o
    clear hall
    by_cases hlt : i < n
    · have hin : i < l.length := by have := HN.out; omega
      obtain ⟨x, hx⟩ : ∃ x, l[i]? = some x := ⟨_, List.getElem?_eq_getElem hin⟩
      obtain ⟨b, off, hA, _, _, hc⟩ := in_elem intI_len (by decide) (HA.out _ o) HN.out hx
      subst hA
      have k0 := hc _ (Only.refl none_ _) 0 (.int .i64 x) rfl
      rw [Nat.mul_one, Nat.add_zero] at k0
      obtain ⟨pb, hp⟩ : ∃ pb, nodeB x = pb := ⟨_, rfl⟩
      have HP := Lib.hid hp
      have HX := Lib.hid hx
      clear o hc hp hx
      cases pb
      · go_wp2_with (first
          | (go_at_call 152; refine (wi_node _ _).mono ?_; rintro E w9 ⟨rfl, rfl⟩; rw [HP.out]))
        go_ret
        have hf : l.all nodeB = false := by
          rw [Bool.eq_false_iff]
          intro ha
          have := List.all_eq_true.1 ha x (List.mem_of_getElem? HX.out)
          rw [HP.out] at this; cases this
        exact ⟨by rw [hf]; rfl, O.out⟩
      · go_wp2_with (first
          | (go_at_call 152; refine (wi_node _ _).mono ?_; rintro E w9 ⟨rfl, rfl⟩; rw [HP.out]))
        go_roundw
        case rel => exact ⟨i + 1, by omega, by go_num, O.out, by
          rw [List.take_add_one, HX.out]
          simp only [Option.toList_some, List.all_append, HAL.out, List.all_cons, List.all_nil, HP.out]; rfl⟩
        case measure => simp [intOf]; omega
    · have hin : l.take i = l := List.take_of_length_le (by have := HN.out; omega)
      rw [hin] at HAL
      clear o hin
      go_wp2_with fail
      go_ret
      exact ⟨by rw [HAL.out]; rfl, O.out⟩
theorem mkI_one5 (m : Mk) : (#[.int .i64 m.a.c, .int .i64 m.a.s, .string m.k] : Array Value).all (·.oneCell') = true := by simp [Value.oneCell']
set_option maxHeartbeats 1600000 in
theorem wi_each_mk (S : Nat → Prop) (l : List Mk) (v : Value) (w : World) (h : Cel w S v l.length 3 (l.flatMap mkI)) (hl : l.length ≤ 4096) :
    Calls Tryz.prog 171 #[v, .func (.func 167) #[] #[]] w fun e w' => e = .returned (.bool (l.all mkGood)) ∧ Only none_ w w' := by
  obtain ⟨n, hn⟩ : ∃ n, l.length = n := ⟨_, rfl⟩
  have h0 := h
  rw [hn] at h hl
  obtain ⟨A, c, rfl, _⟩ := id h
  have HA := Lib.hid (fun (w' : World) (o : Only none_ w w') => h.only o (fun _ _ h => h))
  have HN := Lib.hid hn
  clear h h0 hn
  go_enter Tryz.func171, Tryz.ntmps171
  go_wp2_with fail
  go_loopw [9] (fun s9 wr => ∃ i : Nat, i ≤ n ∧ s9 = .int .i64 i ∧ Only none_ w wr ∧ (l.take i).all mkGood = true) (fun s9 _ => n - (intOf s9).toNat)
  case atStart => exact ⟨0, by omega, rfl, Only.refl _ _, by simp⟩
  case round =>
    obtain ⟨i, hi, rfl, o, hall⟩ := hrel
    have HAL := Lib.hid hall
    have O := Lib.hid o
    clear hall
    by_cases hlt : i < n
    · have hin : i < l.length := by have := HN.out; omega
      obtain ⟨x, hx⟩ : ∃ x, l[i]? = some x := ⟨_, List.getElem?_eq_getElem hin⟩
      obtain ⟨b, off, hA, _, _, hc⟩ := in_elem mkI_len (by decide) (HA.out _ o) HN.out hx
      subst hA
      have HC : Hid (∀ j u, (#[.int .i64 x.a.c, .int .i64 x.a.s, .string x.k] : Array Value).toList[j]? = some u → wr.cell? ⟨b, off + i * 3 + j, none⟩ = some u) := fun j u hu => hc _ (Only.refl none_ _) j u hu
      have BX := Lib.hid (Blk.new wr 41 #[.int .i64 x.a.c, .int .i64 x.a.s, .string x.k])
      have OA := Lib.hid (o.alloc (.cells #[.int .i64 x.a.c, .int .i64 x.a.s, .string x.k] 41))
      obtain ⟨pb, hp⟩ : ∃ pb, mkGood x = pb := ⟨_, rfl⟩
      have HP := Lib.hid hp
      have HX := Lib.hid hx
      clear o hc hp hx
      cases pb
      · go_wp2_with (first
          | (refine wpl_piece rfl 41 _ rfl b (off + i * 3) rfl #[.int .i64 x.a.c, .int .i64 x.a.s, .string x.k] _ HC.out Tryz.underlying41 rfl (by kernel_rfl) ?_)
          | (refine wpl_new rfl rfl 41 rfl _ _ rfl #[.int .i64 x.a.c, .int .i64 x.a.s, .string x.k] rfl rfl (by kernel_rfl) (mkI_one5 x) ?_)
          | (refine wpl_load rfl 41 _ rfl wr.heap.size rfl 41 #[.int .i64 x.a.c, .int .i64 x.a.s, .string x.k] _ BX.out Tryz.underlying41 rfl (by kernel_rfl) ?_)
          | (go_at_call 167; refine (wi_mark _ _).mono ?_; rintro E w9 ⟨rfl, o9⟩; rw [HP.out]; have O9 := Lib.hid (OA.out.trans o9); clear o9))
        go_ret
        have hf : l.all mkGood = false := by
          rw [Bool.eq_false_iff]
          intro ha
          have := List.all_eq_true.1 ha x (List.mem_of_getElem? HX.out)
          rw [HP.out] at this; cases this
        exact ⟨by rw [hf]; rfl, O9.out⟩
      · go_wp2_with (first
          | (refine wpl_piece rfl 41 _ rfl b (off + i * 3) rfl #[.int .i64 x.a.c, .int .i64 x.a.s, .string x.k] _ HC.out Tryz.underlying41 rfl (by kernel_rfl) ?_)
          | (refine wpl_new rfl rfl 41 rfl _ _ rfl #[.int .i64 x.a.c, .int .i64 x.a.s, .string x.k] rfl rfl (by kernel_rfl) (mkI_one5 x) ?_)
          | (refine wpl_load rfl 41 _ rfl wr.heap.size rfl 41 #[.int .i64 x.a.c, .int .i64 x.a.s, .string x.k] _ BX.out Tryz.underlying41 rfl (by kernel_rfl) ?_)
          | (go_at_call 167; refine (wi_mark _ _).mono ?_; rintro E w9 ⟨rfl, o9⟩; rw [HP.out]; have O9 := Lib.hid (OA.out.trans o9); clear o9))
        go_roundw
        case rel => exact ⟨i + 1, by omega, by go_num, O9.out, by
          rw [List.take_add_one, HX.out]
          simp only [Option.toList_some, List.all_append, HAL.out, List.all_cons, List.all_nil, HP.out]; rfl⟩
        case measure => simp [intOf]; omega
    · have hin : l.take i = l := List.take_of_length_le (by have := HN.out; omega)
      rw [hin] at HAL
      clear o hin
      go_wp2_with fail
      go_ret
      exact ⟨by rw [HAL.out]; rfl, O.out⟩
set_option maxHeartbeats 1600000 in
theorem wi_each_en (S : Nat → Prop) (l : List En) (v : Value) (w : World) (h : Cel w S v l.length 9 (l.flatMap enRow)) (hl : l.length ≤ 4096) :
    Calls Tryz.prog 174 #[v, .func (.func 175) #[] #[]] w fun e w' => e = .returned (.bool (l.all enOk)) ∧ Only none_ w w' := by
  obtain ⟨n, hn⟩ : ∃ n, l.length = n := ⟨_, rfl⟩
  have h0 := h
  rw [hn] at h hl
  obtain ⟨A, c, rfl, _⟩ := id h
  have HA := Lib.hid (fun (w' : World) (o : Only none_ w w') => h.only o (fun _ _ h => h))
  have HN := Lib.hid hn
  clear h h0 hn
  go_enter Tryz.func174, Tryz.ntmps174
  go_wp2_with fail
  go_loopw [9] (fun s9 wr => ∃ i : Nat, i ≤ n ∧ s9 = .int .i64 i ∧ Only none_ w wr ∧ (l.take i).all enOk = true) (fun s9 _ => n - (intOf s9).toNat)
  case atStart => exact ⟨0, by omega, rfl, Only.refl _ _, by simp⟩
  case round =>
    obtain ⟨i, hi, rfl, o, hall⟩ := hrel
    have HAL := Lib.hid hall
    have O := Lib.hid o
    clear hall
    by_cases hlt : i < n
    · have hin : i < l.length := by have := HN.out; omega
      obtain ⟨x, hx⟩ : ∃ x, l[i]? = some x := ⟨_, List.getElem?_eq_getElem hin⟩
      obtain ⟨b, off, hA, _, _, hc⟩ := in_elem enRow_length (by decide) (HA.out _ o) HN.out hx
      subst hA
      have HC : Hid (∀ j u, (#[.string x.k, .string x.v, .bool x.d, .int .i64 x.s.c, .int .i64 x.s.s, .int .i64 x.a.c, .int .i64 x.a.s, .int .i64 x.p, .int .i64 x.g] : Array Value).toList[j]? = some u → wr.cell? ⟨b, off + i * 9 + j, none⟩ = some u) := fun j u hu => hc _ (Only.refl none_ _) j u hu
      have BX := Lib.hid (Blk.new wr 147 #[.string x.k, .string x.v, .bool x.d, .int .i64 x.s.c, .int .i64 x.s.s, .int .i64 x.a.c, .int .i64 x.a.s, .int .i64 x.p, .int .i64 x.g])
      have OA := Lib.hid (o.alloc (.cells #[.string x.k, .string x.v, .bool x.d, .int .i64 x.s.c, .int .i64 x.s.s, .int .i64 x.a.c, .int .i64 x.a.s, .int .i64 x.p, .int .i64 x.g] 147))
      obtain ⟨pb, hp⟩ : ∃ pb, enOk x = pb := ⟨_, rfl⟩
      have HP := Lib.hid hp
      have HX := Lib.hid hx
      clear o hc hp hx
      cases pb
      · go_wp2_with (first
          | (refine wpl_piece rfl 147 _ rfl b (off + i * 9) rfl #[.string x.k, .string x.v, .bool x.d, .int .i64 x.s.c, .int .i64 x.s.s, .int .i64 x.a.c, .int .i64 x.a.s, .int .i64 x.p, .int .i64 x.g] _ HC.out Tryz.underlying147 rfl (by kernel_rfl) ?_)
          | (refine wpl_new rfl rfl 147 rfl _ _ rfl #[.string x.k, .string x.v, .bool x.d, .int .i64 x.s.c, .int .i64 x.s.s, .int .i64 x.a.c, .int .i64 x.a.s, .int .i64 x.p, .int .i64 x.g] rfl rfl (by kernel_rfl) (en_cells_one x) ?_)
          | (refine wpl_load rfl 147 _ rfl wr.heap.size rfl 147 #[.string x.k, .string x.v, .bool x.d, .int .i64 x.s.c, .int .i64 x.s.s, .int .i64 x.a.c, .int .i64 x.a.s, .int .i64 x.p, .int .i64 x.g] _ BX.out Tryz.underlying147 rfl (by kernel_rfl) ?_)
          | (go_at_call 175; refine (wi_entry _ _).mono ?_; rintro E w9 ⟨rfl, o9⟩; rw [HP.out]; have O9 := Lib.hid (OA.out.trans o9); clear o9))
        go_ret
        have hf : l.all enOk = false := by
          rw [Bool.eq_false_iff]
          intro ha
          have := List.all_eq_true.1 ha x (List.mem_of_getElem? HX.out)
          rw [HP.out] at this; cases this
        exact ⟨by rw [hf]; rfl, O9.out⟩
      · go_wp2_with (first
          | (refine wpl_piece rfl 147 _ rfl b (off + i * 9) rfl #[.string x.k, .string x.v, .bool x.d, .int .i64 x.s.c, .int .i64 x.s.s, .int .i64 x.a.c, .int .i64 x.a.s, .int .i64 x.p, .int .i64 x.g] _ HC.out Tryz.underlying147 rfl (by kernel_rfl) ?_)
          | (refine wpl_new rfl rfl 147 rfl _ _ rfl #[.string x.k, .string x.v, .bool x.d, .int .i64 x.s.c, .int .i64 x.s.s, .int .i64 x.a.c, .int .i64 x.a.s, .int .i64 x.p, .int .i64 x.g] rfl rfl (by kernel_rfl) (en_cells_one x) ?_)
          | (refine wpl_load rfl 147 _ rfl wr.heap.size rfl 147 #[.string x.k, .string x.v, .bool x.d, .int .i64 x.s.c, .int .i64 x.s.s, .int .i64 x.a.c, .int .i64 x.a.s, .int .i64 x.p, .int .i64 x.g] _ BX.out Tryz.underlying147 rfl (by kernel_rfl) ?_)
          | (go_at_call 175; refine (wi_entry _ _).mono ?_; rintro E w9 ⟨rfl, o9⟩; rw [HP.out]; have O9 := Lib.hid (OA.out.trans o9); clear o9))
        go_roundw
        case rel => exact ⟨i + 1, by omega, by go_num, O9.out, by
          rw [List.take_add_one, HX.out]
          simp only [Option.toList_some, List.all_append, HAL.out, List.all_cons, List.all_nil, HP.out]; rfl⟩
        case measure => simp [intOf]; omega
    · have hin : l.take i = l := List.take_of_length_le (by have := HN.out; omega)
      rw [hin] at HAL
      clear o hin
      go_wp2_with fail
      go_ret
      exact ⟨by rw [HAL.out]; rfl, O.out⟩
set_option maxHeartbeats 1600000 in
theorem wi_none0 (g : Nat) (S : Nat → Prop) (m : Ms) (vp vm ve : Value) (w : World) (h : Mb 45 g S m vp vm ve w) :
    Calls Tryz.prog 150 #[.pointer (some ⟨g, 0, none⟩)] w fun e w' => e = .returned (.bool (wNone m 0)) ∧ Only none_ w w' := by
  obtain ⟨⟨A1, c1, rfl, _⟩, ⟨A2, c2, rfl, _⟩, ⟨A3, c3, rfl, _⟩⟩ := h.ml
  have HB := Lib.hid h.bx
  have k := h.bx.cell_ (i := 1) rfl
  clear h
  go_enter Tryz.func150, Tryz.ntmps150
  go_wp2_with fail
  go_ret
  exact ⟨rfl, Only.refl _ _⟩
set_option maxHeartbeats 1600000 in
theorem wi_none1 (g : Nat) (S : Nat → Prop) (m : Ms) (vp vm ve : Value) (w : World) (h : Mb 45 g S m vp vm ve w) :
    Calls Tryz.prog 153 #[.pointer (some ⟨g, 0, none⟩)] w fun e w' => e = .returned (.bool (wNone m 1)) ∧ Only none_ w w' := by
  obtain ⟨⟨A1, c1, rfl, _⟩, ⟨A2, c2, rfl, _⟩, ⟨A3, c3, rfl, _⟩⟩ := h.ml
  have HB := Lib.hid h.bx
  have k := h.bx.cell_ (i := 2) rfl
  clear h
  go_enter Tryz.func153, Tryz.ntmps153
  go_wp2_with fail
  go_ret
  exact ⟨rfl, Only.refl _ _⟩
set_option maxHeartbeats 1600000 in
theorem wi_none2 (g : Nat) (S : Nat → Prop) (m : Ms) (vp vm ve : Value) (w : World) (h : Mb 45 g S m vp vm ve w) :
    Calls Tryz.prog 155 #[.pointer (some ⟨g, 0, none⟩)] w fun e w' => e = .returned (.bool (wNone m 2)) ∧ Only none_ w w' := by
  obtain ⟨⟨A1, c1, rfl, _⟩, ⟨A2, c2, rfl, _⟩, ⟨A3, c3, rfl, _⟩⟩ := h.ml
  have HB := Lib.hid h.bx
  have k := h.bx.cell_ (i := 3) rfl
  clear h
  obtain ⟨hb, hh⟩ : ∃ b, m.hi = b := ⟨_, rfl⟩
  have HH : Hid (wNone m 2 = !hb) := by rw [Hid, wNone, hh]
  rw [hh] at k
  clear hh
  go_enter Tryz.func155, Tryz.ntmps155
  go_wp2_with fail
  go_ret
  exact ⟨by rw [HH.out]; rfl, Only.refl _ _⟩
set_option maxHeartbeats 1600000 in
theorem wi_none3 (g : Nat) (S : Nat → Prop) (m : Ms) (vp vm ve : Value) (w : World) (h : Mb 45 g S m vp vm ve w) :
    Calls Tryz.prog 157 #[.pointer (some ⟨g, 0, none⟩)] w fun e w' => e = .returned (.bool (wNone m 3)) ∧ Only none_ w w' := by
  obtain ⟨⟨A1, c1, rfl, _⟩, ⟨A2, c2, rfl, _⟩, ⟨A3, c3, rfl, _⟩⟩ := h.ml
  have HB := Lib.hid h.bx
  have k := h.bx.cell_ (i := 4) rfl
  clear h
  go_enter Tryz.func157, Tryz.ntmps157
  go_wp2_with fail
  go_ret
  exact ⟨rfl, Only.refl _ _⟩
set_option maxHeartbeats 1600000 in
theorem wi_none4 (g : Nat) (S : Nat → Prop) (m : Ms) (vp vm ve : Value) (w : World) (h : Mb 45 g S m vp vm ve w) :
    Calls Tryz.prog 160 #[.pointer (some ⟨g, 0, none⟩)] w fun e w' => e = .returned (.bool (wNone m 4)) ∧ Only none_ w w' := by
  obtain ⟨⟨A1, c1, rfl, _⟩, ⟨A2, c2, rfl, _⟩, ⟨A3, c3, rfl, _⟩⟩ := h.ml
  have HB := Lib.hid h.bx
  have k := h.bx.cell_ (i := 5) rfl
  clear h
  go_enter Tryz.func160, Tryz.ntmps160
  go_wp2_with fail
  go_ret
  exact ⟨rfl, Only.refl _ _⟩
set_option maxHeartbeats 1600000 in
theorem wi_none5 (g : Nat) (S : Nat → Prop) (m : Ms) (vp vm ve : Value) (w : World) (h : Mb 45 g S m vp vm ve w) :
    Calls Tryz.prog 162 #[.pointer (some ⟨g, 0, none⟩)] w fun e w' => e = .returned (.bool (wNone m 5)) ∧ Only none_ w w' := by
  obtain ⟨⟨A1, c1, rfl, _⟩, ⟨A2, c2, rfl, _⟩, ⟨A3, c3, rfl, _⟩⟩ := h.ml
  have HB := Lib.hid h.bx
  have k := h.bx.cell_ (i := 6) rfl
  clear h
  go_enter Tryz.func162, Tryz.ntmps162
  go_wp2_with fail
  go_ret
  exact ⟨rfl, Only.refl _ _⟩
set_option maxHeartbeats 1600000 in
theorem wi_none6 (g : Nat) (S : Nat → Prop) (m : Ms) (vp vm ve : Value) (w : World) (h : Mb 45 g S m vp vm ve w) :
    Calls Tryz.prog 164 #[.pointer (some ⟨g, 0, none⟩)] w fun e w' => e = .returned (.bool (wNone m 6)) ∧ Only none_ w w' := by
  obtain ⟨⟨A1, c1, rfl, _⟩, ⟨A2, c2, rfl, _⟩, ⟨A3, c3, rfl, _⟩⟩ := h.ml
  have HB := Lib.hid h.bx
  have k7 := h.bx.cell_ (i := 7) rfl
  have k8 := h.bx.cell_ (i := 8) rfl
  have k9 := h.bx.cell_ (i := 9) rfl
  clear h
  go_enter Tryz.func164, Tryz.ntmps164
  go_wp2_with (first | (go_at_call 165; refine (wi_top m.mr _).mono ?_; rintro E w9 ⟨rfl, o9⟩; have O9 := Lib.hid o9; clear o9))
  go_ret
  exact ⟨rfl, O9.out⟩
set_option maxHeartbeats 1600000 in
theorem wi_none7 (g : Nat) (S : Nat → Prop) (m : Ms) (vp vm ve : Value) (w : World) (h : Mb 45 g S m vp vm ve w) :
    Calls Tryz.prog 168 #[.pointer (some ⟨g, 0, none⟩)] w fun e w' => e = .returned (.bool (wNone m 7)) ∧ Only none_ w w' := by
  obtain ⟨⟨A1, c1, rfl, _⟩, ⟨A2, c2, rfl, _⟩, ⟨A3, c3, rfl, _⟩⟩ := h.ml
  have HB := Lib.hid h.bx
  have k := h.bx.cell_ (i := 10) rfl
  clear h
  go_enter Tryz.func168, Tryz.ntmps168
  go_wp2_with fail
  go_ret
  exact ⟨rfl, Only.refl _ _⟩
set_option maxHeartbeats 1600000 in
theorem wi_none8 (g : Nat) (S : Nat → Prop) (m : Ms) (vp vm ve : Value) (w : World) (h : Mb 45 g S m vp vm ve w) :
    Calls Tryz.prog 172 #[.pointer (some ⟨g, 0, none⟩)] w fun e w' => e = .returned (.bool (wNone m 8)) ∧ Only none_ w w' := by
  obtain ⟨⟨A1, c1, rfl, _⟩, ⟨A2, c2, rfl, _⟩, ⟨A3, c3, rfl, _⟩⟩ := h.ml
  have HB := Lib.hid h.bx
  have k := h.bx.cell_ (i := 11) rfl
  clear h
  go_enter Tryz.func172, Tryz.ntmps172
  go_wp2_with fail
  go_ret
  exact ⟨rfl, Only.refl _ _⟩
set_option maxHeartbeats 1600000 in
theorem wi_may0 (g : Nat) (S : Nat → Prop) (m : Ms) (vp vm ve : Value) (nm : ByteArray) (fl lo up : Int) (w : World) (h : Mb 45 g S m vp vm ve w) (hl : m.ps.length ≤ 4096 ∧ m.ms.length ≤ 4096 ∧ m.es.length ≤ 4096) :
    Calls Tryz.prog 151 #[.pointer (some ⟨g, 0, none⟩), .agg #[.string nm, .int .i64 fl, .int .i64 lo, .int .i64 up]] w fun e w' => e = .returned (.bool (wMay m lo up 0)) ∧ Only none_ w w' := by
  have O := Lib.hid ((Only.refl none_ w).alloc (.cells #[.string nm, .int .i64 fl, .int .i64 lo, .int .i64 up] 139))
  have HB := Lib.hid (h.bx.alloc (.cells #[.string nm, .int .i64 fl, .int .i64 lo, .int .i64 up] 139))
  have NB := Lib.hid (Blk.new w 139 #[.string nm, .int .i64 fl, .int .i64 lo, .int .i64 up])
  have k := HB.out.cell_ (i := 1) rfl
  clear h
  go_enter Tryz.func151, Tryz.ntmps151
  go_wp2_with (first | (go_at_call 152; refine (wi_node _ _).mono ?_; rintro E w9 ⟨rfl, rfl⟩))
  go_ret
  exact ⟨rfl, O.out⟩
set_option maxHeartbeats 1600000 in
theorem wi_may1 (g : Nat) (S : Nat → Prop) (m : Ms) (vp vm ve : Value) (nm : ByteArray) (fl lo up : Int) (w : World) (h : Mb 45 g S m vp vm ve w) (hl : m.ps.length ≤ 4096 ∧ m.ms.length ≤ 4096 ∧ m.es.length ≤ 4096) :
    Calls Tryz.prog 154 #[.pointer (some ⟨g, 0, none⟩), .agg #[.string nm, .int .i64 fl, .int .i64 lo, .int .i64 up]] w fun e w' => e = .returned (.bool (wMay m lo up 1)) ∧ Only none_ w w' := by
  have O := Lib.hid ((Only.refl none_ w).alloc (.cells #[.string nm, .int .i64 fl, .int .i64 lo, .int .i64 up] 139))
  have HB := Lib.hid (h.bx.alloc (.cells #[.string nm, .int .i64 fl, .int .i64 lo, .int .i64 up] 139))
  have NB := Lib.hid (Blk.new w 139 #[.string nm, .int .i64 fl, .int .i64 lo, .int .i64 up])
  have k := HB.out.cell_ (i := 2) rfl
  have HM : Hid (wMay m lo up 1 = (decide (0 ≤ m.hp) && decide (m.hp ≤ 8))) := rfl
  clear h
  by_cases h0 : 0 ≤ m.hp
  · have HM2 : Hid (wMay m lo up 1 = decide (m.hp ≤ 8)) := by rw [Hid, HM.out]; simp [h0]
    clear HM
    go_enter Tryz.func154, Tryz.ntmps154
    go_wp2_with fail
    go_ret
    exact ⟨by rw [HM2.out]; rfl, O.out⟩
  · have HM2 : Hid (wMay m lo up 1 = false) := by rw [Hid, HM.out]; simp [h0]
    clear HM
    go_enter Tryz.func154, Tryz.ntmps154
    go_wp2_with fail
    go_ret
    exact ⟨by rw [HM2.out]; rfl, O.out⟩
set_option maxHeartbeats 1600000 in
theorem wi_may2 (g : Nat) (S : Nat → Prop) (m : Ms) (vp vm ve : Value) (nm : ByteArray) (fl lo up : Int) (w : World) (h : Mb 45 g S m vp vm ve w) (hl : m.ps.length ≤ 4096 ∧ m.ms.length ≤ 4096 ∧ m.es.length ≤ 4096) :
    Calls Tryz.prog 156 #[.pointer (some ⟨g, 0, none⟩), .agg #[.string nm, .int .i64 fl, .int .i64 lo, .int .i64 up]] w fun e w' => e = .returned (.bool (wMay m lo up 2)) ∧ Only none_ w w' := by
  have O := Lib.hid ((Only.refl none_ w).alloc (.cells #[.string nm, .int .i64 fl, .int .i64 lo, .int .i64 up] 139))
  have HB := Lib.hid (h.bx.alloc (.cells #[.string nm, .int .i64 fl, .int .i64 lo, .int .i64 up] 139))
  have NB := Lib.hid (Blk.new w 139 #[.string nm, .int .i64 fl, .int .i64 lo, .int .i64 up])
  clear h
  go_enter Tryz.func156, Tryz.ntmps156
  go_wp2_with fail
  go_ret
  exact ⟨rfl, O.out⟩
set_option maxHeartbeats 1600000 in
theorem wi_may3 (g : Nat) (S : Nat → Prop) (m : Ms) (vp vm ve : Value) (nm : ByteArray) (fl lo up : Int) (w : World) (h : Mb 45 g S m vp vm ve w) (hl : m.ps.length ≤ 4096 ∧ m.ms.length ≤ 4096 ∧ m.es.length ≤ 4096) :
    Calls Tryz.prog 158 #[.pointer (some ⟨g, 0, none⟩), .agg #[.string nm, .int .i64 fl, .int .i64 lo, .int .i64 up]] w fun e w' => e = .returned (.bool (wMay m lo up 3)) ∧ Only none_ w w' := by
  have O := Lib.hid ((Only.refl none_ w).alloc (.cells #[.string nm, .int .i64 fl, .int .i64 lo, .int .i64 up] 139))
  have HB := Lib.hid (h.bx.alloc (.cells #[.string nm, .int .i64 fl, .int .i64 lo, .int .i64 up] 139))
  have NB := Lib.hid (Blk.new w 139 #[.string nm, .int .i64 fl, .int .i64 lo, .int .i64 up])
  have HL := Lib.hid h.ml
  obtain ⟨⟨A1, c1, e1, _⟩, ⟨A2, c2, e2, _⟩, ⟨A3, c3, e3, _⟩⟩ := h.ml
  subst e1 e2 e3
  have k := HB.out.cell_ (i := 4) rfl
  have HM : Hid (wMay m lo up 3 = (decide ((m.ps.length : Int) ≤ 8) && m.ps.all nodeB)) := rfl
  have HE := Lib.hid (wi_each_int S m.ps (.slice A1 m.ps.length c1) _ (HL.out.p.only O.out (fun _ _ h => h)) hl.1)
  obtain ⟨n, hn⟩ : ∃ n, m.ps.length = n := ⟨_, rfl⟩
  obtain ⟨pb, hp⟩ : ∃ b, m.ps.all nodeB = b := ⟨_, rfl⟩
  rw [hn] at k HE HM
  rw [hp] at HM HE
  clear h hn hp hl
  by_cases h0 : (n : Int) ≤ 8
  · have HM2 : Hid (wMay m lo up 3 = pb) := by rw [Hid, HM.out]; simp [h0]
    clear HM
    go_enter Tryz.func158, Tryz.ntmps158
    go_wp2_with (first | (go_at_call 159; refine HE.out.mono ?_; rintro E w9 ⟨rfl, o9⟩; have O9 := Lib.hid (O.out.trans o9); clear o9))
    go_ret
    exact ⟨by rw [HM2.out]; rfl, O9.out⟩
  · have HM2 : Hid (wMay m lo up 3 = false) := by rw [Hid, HM.out]; simp [h0]
    clear HM
    go_enter Tryz.func158, Tryz.ntmps158
    go_wp2_with fail
    go_ret
    exact ⟨by rw [HM2.out]; rfl, O.out⟩
set_option maxHeartbeats 1600000 in
theorem wi_may4 (g : Nat) (S : Nat → Prop) (m : Ms) (vp vm ve : Value) (nm : ByteArray) (fl lo up : Int) (w : World) (h : Mb 45 g S m vp vm ve w) (hl : m.ps.length ≤ 4096 ∧ m.ms.length ≤ 4096 ∧ m.es.length ≤ 4096) :
    Calls Tryz.prog 161 #[.pointer (some ⟨g, 0, none⟩), .agg #[.string nm, .int .i64 fl, .int .i64 lo, .int .i64 up]] w fun e w' => e = .returned (.bool (wMay m lo up 4)) ∧ Only none_ w w' := by
  have O := Lib.hid ((Only.refl none_ w).alloc (.cells #[.string nm, .int .i64 fl, .int .i64 lo, .int .i64 up] 139))
  have HB := Lib.hid (h.bx.alloc (.cells #[.string nm, .int .i64 fl, .int .i64 lo, .int .i64 up] 139))
  have NB := Lib.hid (Blk.new w 139 #[.string nm, .int .i64 fl, .int .i64 lo, .int .i64 up])
  have k := HB.out.cell_ (i := 5) rfl
  have HM : Hid (wMay m lo up 4 = (decide (0 ≤ m.nu) && decide (m.nu ≤ 4294967295))) := rfl
  clear h
  by_cases h0 : 0 ≤ m.nu
  · have HM2 : Hid (wMay m lo up 4 = decide (m.nu ≤ 4294967295)) := by rw [Hid, HM.out]; simp [h0]
    clear HM
    go_enter Tryz.func161, Tryz.ntmps161
    go_wp2_with fail
    go_ret
    exact ⟨by rw [HM2.out]; rfl, O.out⟩
  · have HM2 : Hid (wMay m lo up 4 = false) := by rw [Hid, HM.out]; simp [h0]
    clear HM
    go_enter Tryz.func161, Tryz.ntmps161
    go_wp2_with fail
    go_ret
    exact ⟨by rw [HM2.out]; rfl, O.out⟩
set_option maxHeartbeats 1600000 in
theorem wi_may5 (g : Nat) (S : Nat → Prop) (m : Ms) (vp vm ve : Value) (nm : ByteArray) (fl lo up : Int) (w : World) (h : Mb 45 g S m vp vm ve w) (hl : m.ps.length ≤ 4096 ∧ m.ms.length ≤ 4096 ∧ m.es.length ≤ 4096) :
    Calls Tryz.prog 163 #[.pointer (some ⟨g, 0, none⟩), .agg #[.string nm, .int .i64 fl, .int .i64 lo, .int .i64 up]] w fun e w' => e = .returned (.bool (wMay m lo up 5)) ∧ Only none_ w w' := by
  have O := Lib.hid ((Only.refl none_ w).alloc (.cells #[.string nm, .int .i64 fl, .int .i64 lo, .int .i64 up] 139))
  have HB := Lib.hid (h.bx.alloc (.cells #[.string nm, .int .i64 fl, .int .i64 lo, .int .i64 up] 139))
  have NB := Lib.hid (Blk.new w 139 #[.string nm, .int .i64 fl, .int .i64 lo, .int .i64 up])
  clear h
  go_enter Tryz.func163, Tryz.ntmps163
  go_wp2_with fail
  go_ret
  exact ⟨rfl, O.out⟩
set_option maxHeartbeats 1600000 in
theorem wi_may6 (g : Nat) (S : Nat → Prop) (m : Ms) (vp vm ve : Value) (nm : ByteArray) (fl lo up : Int) (w : World) (h : Mb 45 g S m vp vm ve w) (hl : m.ps.length ≤ 4096 ∧ m.ms.length ≤ 4096 ∧ m.es.length ≤ 4096) :
    Calls Tryz.prog 166 #[.pointer (some ⟨g, 0, none⟩), .agg #[.string nm, .int .i64 fl, .int .i64 lo, .int .i64 up]] w fun e w' => e = .returned (.bool (wMay m lo up 6)) ∧ Only none_ w w' := by
  have O := Lib.hid ((Only.refl none_ w).alloc (.cells #[.string nm, .int .i64 fl, .int .i64 lo, .int .i64 up] 139))
  have HB := Lib.hid (h.bx.alloc (.cells #[.string nm, .int .i64 fl, .int .i64 lo, .int .i64 up] 139))
  have NB := Lib.hid (Blk.new w 139 #[.string nm, .int .i64 fl, .int .i64 lo, .int .i64 up])
  have k7 := HB.out.cell_ (i := 7) rfl
  have k8 := HB.out.cell_ (i := 8) rfl
  have k9 := HB.out.cell_ (i := 9) rfl
  have HM : Hid (wMay m lo up 6 = (isTop m.mr || mkGood m.mr)) := rfl
  obtain ⟨tb, ht⟩ : ∃ b, isTop m.mr = b := ⟨_, rfl⟩
  have HT := Lib.hid ht
  rw [ht] at HM
  clear h ht hl
  cases tb
  · have HM2 : Hid (wMay m lo up 6 = mkGood m.mr) := by rw [Hid, HM.out]; simp
    clear HM
    go_enter Tryz.func166, Tryz.ntmps166
    go_wp2_with (first
      | (go_at_call 165; refine (wi_top m.mr _).mono ?_; rintro E w9 ⟨rfl, o9⟩; rw [HT.out]; have O9 := Lib.hid (O.out.trans o9)
         have b9 := HB.out.only o9 (fun h => h)
         have j7 := b9.cell_ (i := 7) rfl
         have j8 := b9.cell_ (i := 8) rfl
         have j9 := b9.cell_ (i := 9) rfl
         clear o9 b9)
      | (go_at_call 167; refine (wi_mark m.mr _).mono ?_; rintro E w8 ⟨rfl, o8⟩; have O8 := Lib.hid (O9.out.trans o8); clear o8))
    go_ret
    exact ⟨by rw [HM2.out]; rfl, O8.out⟩
  · have HM2 : Hid (wMay m lo up 6 = true) := by rw [Hid, HM.out]; simp
    clear HM
    go_enter Tryz.func166, Tryz.ntmps166
    go_wp2_with (first
      | (go_at_call 165; refine (wi_top m.mr _).mono ?_; rintro E w9 ⟨rfl, o9⟩; rw [HT.out]; have O9 := Lib.hid (O.out.trans o9); clear o9))
    go_ret
    exact ⟨by rw [HM2.out]; rfl, O9.out⟩
set_option maxHeartbeats 1600000 in
theorem wi_may7 (g : Nat) (S : Nat → Prop) (m : Ms) (vp vm ve : Value) (nm : ByteArray) (fl lo up : Int) (w : World) (h : Mb 45 g S m vp vm ve w) (hl : m.ps.length ≤ 4096 ∧ m.ms.length ≤ 4096 ∧ m.es.length ≤ 4096) :
    Calls Tryz.prog 169 #[.pointer (some ⟨g, 0, none⟩), .agg #[.string nm, .int .i64 fl, .int .i64 lo, .int .i64 up]] w fun e w' => e = .returned (.bool (wMay m lo up 7)) ∧ Only none_ w w' := by
  have O := Lib.hid ((Only.refl none_ w).alloc (.cells #[.string nm, .int .i64 fl, .int .i64 lo, .int .i64 up] 139))
  have HB := Lib.hid (h.bx.alloc (.cells #[.string nm, .int .i64 fl, .int .i64 lo, .int .i64 up] 139))
  have NB := Lib.hid (Blk.new w 139 #[.string nm, .int .i64 fl, .int .i64 lo, .int .i64 up])
  have HL := Lib.hid h.ml
  obtain ⟨⟨A1, c1, e1, _⟩, ⟨A2, c2, e2, _⟩, ⟨A3, c3, e3, _⟩⟩ := h.ml
  subst e1 e2 e3
  have HM : Hid (wMay m lo up 7 = (manyB lo up m.ms.length && m.ms.all mkGood)) := rfl
  have HE : Hid (∀ w', Only none_ w w' → _) := fun w' o => wi_each_mk S m.ms (.slice A2 m.ms.length c2) w' (HL.out.q.only o (fun _ _ h => h)) hl.2.1
  obtain ⟨n, hn⟩ : ∃ n, m.ms.length = n := ⟨_, rfl⟩
  obtain ⟨pb, hp⟩ : ∃ b, m.ms.all mkGood = b := ⟨_, rfl⟩
  obtain ⟨mb, hm⟩ : ∃ b, manyB lo up n = b := ⟨_, rfl⟩
  have HY := Lib.hid hm
  rw [hn] at HB HE HM
  rw [hp] at HM HE
  rw [hm] at HM
  obtain ⟨w1, hw1⟩ : ∃ w1, w.alloc (.cells #[.string nm, .int .i64 fl, .int .i64 lo, .int .i64 up] 139) = w1 := ⟨_, rfl⟩
  obtain ⟨b0, hb0⟩ : ∃ b0, w.heap.size = b0 := ⟨_, rfl⟩
  have HW1 := Lib.hid hw1
  have HB0 := Lib.hid hb0
  rw [hw1] at O HB NB
  rw [hb0] at NB
  clear h hn hp hl hm HL hw1 hb0
  cases mb
  · have HM2 : Hid (wMay m lo up 7 = false) := by rw [Hid, HM.out]; simp
    clear HM
    go_enter Tryz.func169, Tryz.ntmps169
    go_wp2_with fail
    rw [HW1.out, HB0.out]
    (refine wp_region_free (fun w' => Only none_ w1 w') (Only none_) (F := ?_) (by kernel_rfl) 19 (by rfl) (by kernel_rfl) (fun x => ?_) ((Only.refl none_ w1).drew) ?_; rotate_left; (· (simp only [putsL, Act.put, List.setIfInBounds_toArray, List.set_cons_zero, List.set_cons_succ, Nat.reduceAdd]; exact rfl)))
    repeat (first
      | ((first | refine fr_skip (by rfl) (by rfl) (by rfl) (fun w => Only.refl none_ w) ?_ | refine fr_skip_too (by rfl) (by rfl) (by rfl) (fun w => Only.refl none_ w) ?_); try simp only [List.nil_append, List.cons_append])
      | ((first | refine fr_some (fun v _ => v = .bool false) (fun _ _ _ _ _ _ h => h) (by rfl) (fun x w0 hS hk => ?_) ?_ | refine fr_some_if (fun v _ => v = .bool false) (fun _ _ _ _ _ _ h => h) (by rfl) (by rfl) (by rfl) (fun x w0 hS hk => ?_) ?_); (· (have hk2 := hk; (try simp [knAll, Region.binds] at hk2); skip; refine got_call (f := 170) (args := ?_) (by go_simp; try (with_reducible rfl)) ?_; refine (wi_many nm fl lo up n _).mono ?_; rintro E w8 ⟨rfl, o8⟩; exact ⟨_, rfl, by rw [HY.out], hS.trans o8, o8⟩)); try simp only [List.nil_append, List.cons_append])
      | ((first | refine fr_some (fun v _ => v = .bool pb) (fun _ _ _ _ _ _ h => h) (by rfl) (fun x w0 hS hk => ?_) ?_ | refine fr_some_if (fun v _ => v = .bool pb) (fun _ _ _ _ _ _ h => h) (by rfl) (by rfl) (by rfl) (fun x w0 hS hk => ?_) ?_); (· (have hk2 := hk; (try simp [knAll, Region.binds] at hk2); skip; refine got_call (f := 171) (args := ?_) (by go_simp; try (with_reducible rfl)) ?_; refine (HE.out _ (O.out.trans hS)).mono ?_; rintro E w8 ⟨rfl, o8⟩; exact ⟨_, rfl, rfl, hS.trans o8, o8⟩)); try simp only [List.nil_append, List.cons_append])
      | ((first | refine fr_value (c := ?_) (by rfl) (fun w => Only.refl none_ w) (fun x w0 hS hk => ?_) ?_ | refine fr_value_if (c := ?_) (by rfl) (by rfl) (by rfl) (fun w => Only.refl none_ w) (fun x w0 hS hk => ?_) ?_); rotate_left; (· (have hk2 := hk; (try simp [knAll, Region.binds] at hk2); have y := NB.out.only hS (fun h => h); have y0 := y.cell_ (i := 0) rfl; have y1 := y.cell_ (i := 1) rfl; have y2 := y.cell_ (i := 2) rfl; have y3 := y.cell_ (i := 3) rfl; have x9 := HB.out.only hS (fun h => h); have x1 := x9.cell_ (i := 10) rfl; go_simp; try (with_reducible rfl))); try simp only [List.nil_append, List.cons_append]))
    (refine fr_end ?_; intro x w9 hS hk)
    have z := kn_end_at 14 hk (by rfl)
    rw [Nat.zero_add] at z
    clear hk
    rw [z]
    go_wp2_with fail
    go_ret
    exact ⟨by rw [HM2.out]; rfl, O.out.trans hS⟩
  · have HM2 : Hid (wMay m lo up 7 = pb) := by rw [Hid, HM.out]; simp
    clear HM
    go_enter Tryz.func169, Tryz.ntmps169
    go_wp2_with fail
    rw [HW1.out, HB0.out]
    (refine wp_region_free (fun w' => Only none_ w1 w') (Only none_) (F := ?_) (by kernel_rfl) 19 (by rfl) (by kernel_rfl) (fun x => ?_) ((Only.refl none_ w1).drew) ?_; rotate_left; (· (simp only [putsL, Act.put, List.setIfInBounds_toArray, List.set_cons_zero, List.set_cons_succ, Nat.reduceAdd]; exact rfl)))
    repeat (first
      | ((first | refine fr_skip (by rfl) (by rfl) (by rfl) (fun w => Only.refl none_ w) ?_ | refine fr_skip_too (by rfl) (by rfl) (by rfl) (fun w => Only.refl none_ w) ?_); try simp only [List.nil_append, List.cons_append])
      | ((first | refine fr_some (fun v _ => v = .bool true) (fun _ _ _ _ _ _ h => h) (by rfl) (fun x w0 hS hk => ?_) ?_ | refine fr_some_if (fun v _ => v = .bool true) (fun _ _ _ _ _ _ h => h) (by rfl) (by rfl) (by rfl) (fun x w0 hS hk => ?_) ?_); (· (have hk2 := hk; (try simp [knAll, Region.binds] at hk2); skip; refine got_call (f := 170) (args := ?_) (by go_simp; try (with_reducible rfl)) ?_; refine (wi_many nm fl lo up n _).mono ?_; rintro E w8 ⟨rfl, o8⟩; exact ⟨_, rfl, by rw [HY.out], hS.trans o8, o8⟩)); try simp only [List.nil_append, List.cons_append])
      | ((first | refine fr_some (fun v _ => v = .bool pb) (fun _ _ _ _ _ _ h => h) (by rfl) (fun x w0 hS hk => ?_) ?_ | refine fr_some_if (fun v _ => v = .bool pb) (fun _ _ _ _ _ _ h => h) (by rfl) (by rfl) (by rfl) (fun x w0 hS hk => ?_) ?_); (· (have hk2 := hk; (try simp [knAll, Region.binds] at hk2); skip; refine got_call (f := 171) (args := ?_) (by go_simp; try (with_reducible rfl)) ?_; refine (HE.out _ (O.out.trans hS)).mono ?_; rintro E w8 ⟨rfl, o8⟩; exact ⟨_, rfl, rfl, hS.trans o8, o8⟩)); try simp only [List.nil_append, List.cons_append])
      | ((first | refine fr_value (c := ?_) (by rfl) (fun w => Only.refl none_ w) (fun x w0 hS hk => ?_) ?_ | refine fr_value_if (c := ?_) (by rfl) (by rfl) (by rfl) (fun w => Only.refl none_ w) (fun x w0 hS hk => ?_) ?_); rotate_left; (· (have hk2 := hk; (try simp [knAll, Region.binds] at hk2); have y := NB.out.only hS (fun h => h); have y0 := y.cell_ (i := 0) rfl; have y1 := y.cell_ (i := 1) rfl; have y2 := y.cell_ (i := 2) rfl; have y3 := y.cell_ (i := 3) rfl; have x9 := HB.out.only hS (fun h => h); have x1 := x9.cell_ (i := 10) rfl; go_simp; try (with_reducible rfl))); try simp only [List.nil_append, List.cons_append]))
    (refine fr_end ?_; intro x w9 hS hk)
    have z := kn_end_at 14 hk (by rfl)
    rw [Nat.zero_add] at z
    clear hk
    rw [z]
    go_wp2_with fail
    go_ret
    exact ⟨by rw [HM2.out]; rfl, O.out.trans hS⟩
set_option maxHeartbeats 1600000 in
theorem wi_may8 (g : Nat) (S : Nat → Prop) (m : Ms) (vp vm ve : Value) (nm : ByteArray) (fl lo up : Int) (w : World) (h : Mb 45 g S m vp vm ve w) (hl : m.ps.length ≤ 4096 ∧ m.ms.length ≤ 4096 ∧ m.es.length ≤ 4096) :
    Calls Tryz.prog 173 #[.pointer (some ⟨g, 0, none⟩), .agg #[.string nm, .int .i64 fl, .int .i64 lo, .int .i64 up]] w fun e w' => e = .returned (.bool (wMay m lo up 8)) ∧ Only none_ w w' := by
  have O := Lib.hid ((Only.refl none_ w).alloc (.cells #[.string nm, .int .i64 fl, .int .i64 lo, .int .i64 up] 139))
  have HB := Lib.hid (h.bx.alloc (.cells #[.string nm, .int .i64 fl, .int .i64 lo, .int .i64 up] 139))
  have NB := Lib.hid (Blk.new w 139 #[.string nm, .int .i64 fl, .int .i64 lo, .int .i64 up])
  have HL := Lib.hid h.ml
  obtain ⟨⟨A1, c1, e1, _⟩, ⟨A2, c2, e2, _⟩, ⟨A3, c3, e3, _⟩⟩ := h.ml
  subst e1 e2 e3
  have HM : Hid (wMay m lo up 8 = (manyB lo up m.es.length && m.es.all enOk)) := rfl
  have HE : Hid (∀ w', Only none_ w w' → _) := fun w' o => wi_each_en S m.es (.slice A3 m.es.length c3) w' (HL.out.r.only o (fun _ _ h => h)) hl.2.2
  obtain ⟨n, hn⟩ : ∃ n, m.es.length = n := ⟨_, rfl⟩
  obtain ⟨pb, hp⟩ : ∃ b, m.es.all enOk = b := ⟨_, rfl⟩
  obtain ⟨mb, hm⟩ : ∃ b, manyB lo up n = b := ⟨_, rfl⟩
  have HY := Lib.hid hm
  rw [hn] at HB HE HM
  rw [hp] at HM HE
  rw [hm] at HM
  obtain ⟨w1, hw1⟩ : ∃ w1, w.alloc (.cells #[.string nm, .int .i64 fl, .int .i64 lo, .int .i64 up] 139) = w1 := ⟨_, rfl⟩
  obtain ⟨b0, hb0⟩ : ∃ b0, w.heap.size = b0 := ⟨_, rfl⟩
  have HW1 := Lib.hid hw1
  have HB0 := Lib.hid hb0
  rw [hw1] at O HB NB
  rw [hb0] at NB
  clear h hn hp hl hm HL hw1 hb0
  cases mb
  · have HM2 : Hid (wMay m lo up 8 = false) := by rw [Hid, HM.out]; simp
    clear HM
    go_enter Tryz.func173, Tryz.ntmps173
    go_wp2_with fail
    rw [HW1.out, HB0.out]
    (refine wp_region_free (fun w' => Only none_ w1 w') (Only none_) (F := ?_) (by kernel_rfl) 19 (by rfl) (by kernel_rfl) (fun x => ?_) ((Only.refl none_ w1).drew) ?_; rotate_left; (· (simp only [putsL, Act.put, List.setIfInBounds_toArray, List.set_cons_zero, List.set_cons_succ, Nat.reduceAdd]; exact rfl)))
    repeat (first
      | ((first | refine fr_skip (by rfl) (by rfl) (by rfl) (fun w => Only.refl none_ w) ?_ | refine fr_skip_too (by rfl) (by rfl) (by rfl) (fun w => Only.refl none_ w) ?_); try simp only [List.nil_append, List.cons_append])
      | ((first | refine fr_some (fun v _ => v = .bool false) (fun _ _ _ _ _ _ h => h) (by rfl) (fun x w0 hS hk => ?_) ?_ | refine fr_some_if (fun v _ => v = .bool false) (fun _ _ _ _ _ _ h => h) (by rfl) (by rfl) (by rfl) (fun x w0 hS hk => ?_) ?_); (· (have hk2 := hk; (try simp [knAll, Region.binds] at hk2); skip; refine got_call (f := 170) (args := ?_) (by go_simp; try (with_reducible rfl)) ?_; refine (wi_many nm fl lo up n _).mono ?_; rintro E w8 ⟨rfl, o8⟩; exact ⟨_, rfl, by rw [HY.out], hS.trans o8, o8⟩)); try simp only [List.nil_append, List.cons_append])
      | ((first | refine fr_some (fun v _ => v = .bool pb) (fun _ _ _ _ _ _ h => h) (by rfl) (fun x w0 hS hk => ?_) ?_ | refine fr_some_if (fun v _ => v = .bool pb) (fun _ _ _ _ _ _ h => h) (by rfl) (by rfl) (by rfl) (fun x w0 hS hk => ?_) ?_); (· (have hk2 := hk; (try simp [knAll, Region.binds] at hk2); skip; refine got_call (f := 174) (args := ?_) (by go_simp; try (with_reducible rfl)) ?_; refine (HE.out _ (O.out.trans hS)).mono ?_; rintro E w8 ⟨rfl, o8⟩; exact ⟨_, rfl, rfl, hS.trans o8, o8⟩)); try simp only [List.nil_append, List.cons_append])
      | ((first | refine fr_value (c := ?_) (by rfl) (fun w => Only.refl none_ w) (fun x w0 hS hk => ?_) ?_ | refine fr_value_if (c := ?_) (by rfl) (by rfl) (by rfl) (fun w => Only.refl none_ w) (fun x w0 hS hk => ?_) ?_); rotate_left; (· (have hk2 := hk; (try simp [knAll, Region.binds] at hk2); have y := NB.out.only hS (fun h => h); have y0 := y.cell_ (i := 0) rfl; have y1 := y.cell_ (i := 1) rfl; have y2 := y.cell_ (i := 2) rfl; have y3 := y.cell_ (i := 3) rfl; have x9 := HB.out.only hS (fun h => h); have x1 := x9.cell_ (i := 11) rfl; go_simp; try (with_reducible rfl))); try simp only [List.nil_append, List.cons_append]))
    (refine fr_end ?_; intro x w9 hS hk)
    have z := kn_end_at 14 hk (by rfl)
    rw [Nat.zero_add] at z
    clear hk
    rw [z]
    go_wp2_with fail
    go_ret
    exact ⟨by rw [HM2.out]; rfl, O.out.trans hS⟩
  · have HM2 : Hid (wMay m lo up 8 = pb) := by rw [Hid, HM.out]; simp
    clear HM
    go_enter Tryz.func173, Tryz.ntmps173
    go_wp2_with fail
    rw [HW1.out, HB0.out]
    (refine wp_region_free (fun w' => Only none_ w1 w') (Only none_) (F := ?_) (by kernel_rfl) 19 (by rfl) (by kernel_rfl) (fun x => ?_) ((Only.refl none_ w1).drew) ?_; rotate_left; (· (simp only [putsL, Act.put, List.setIfInBounds_toArray, List.set_cons_zero, List.set_cons_succ, Nat.reduceAdd]; exact rfl)))
    repeat (first
      | ((first | refine fr_skip (by rfl) (by rfl) (by rfl) (fun w => Only.refl none_ w) ?_ | refine fr_skip_too (by rfl) (by rfl) (by rfl) (fun w => Only.refl none_ w) ?_); try simp only [List.nil_append, List.cons_append])
      | ((first | refine fr_some (fun v _ => v = .bool true) (fun _ _ _ _ _ _ h => h) (by rfl) (fun x w0 hS hk => ?_) ?_ | refine fr_some_if (fun v _ => v = .bool true) (fun _ _ _ _ _ _ h => h) (by rfl) (by rfl) (by rfl) (fun x w0 hS hk => ?_) ?_); (· (have hk2 := hk; (try simp [knAll, Region.binds] at hk2); skip; refine got_call (f := 170) (args := ?_) (by go_simp; try (with_reducible rfl)) ?_; refine (wi_many nm fl lo up n _).mono ?_; rintro E w8 ⟨rfl, o8⟩; exact ⟨_, rfl, by rw [HY.out], hS.trans o8, o8⟩)); try simp only [List.nil_append, List.cons_append])
      | ((first | refine fr_some (fun v _ => v = .bool pb) (fun _ _ _ _ _ _ h => h) (by rfl) (fun x w0 hS hk => ?_) ?_ | refine fr_some_if (fun v _ => v = .bool pb) (fun _ _ _ _ _ _ h => h) (by rfl) (by rfl) (by rfl) (fun x w0 hS hk => ?_) ?_); (· (have hk2 := hk; (try simp [knAll, Region.binds] at hk2); skip; refine got_call (f := 174) (args := ?_) (by go_simp; try (with_reducible rfl)) ?_; refine (HE.out _ (O.out.trans hS)).mono ?_; rintro E w8 ⟨rfl, o8⟩; exact ⟨_, rfl, rfl, hS.trans o8, o8⟩)); try simp only [List.nil_append, List.cons_append])
      | ((first | refine fr_value (c := ?_) (by rfl) (fun w => Only.refl none_ w) (fun x w0 hS hk => ?_) ?_ | refine fr_value_if (c := ?_) (by rfl) (by rfl) (by rfl) (fun w => Only.refl none_ w) (fun x w0 hS hk => ?_) ?_); rotate_left; (· (have hk2 := hk; (try simp [knAll, Region.binds] at hk2); have y := NB.out.only hS (fun h => h); have y0 := y.cell_ (i := 0) rfl; have y1 := y.cell_ (i := 1) rfl; have y2 := y.cell_ (i := 2) rfl; have y3 := y.cell_ (i := 3) rfl; have x9 := HB.out.only hS (fun h => h); have x1 := x9.cell_ (i := 11) rfl; go_simp; try (with_reducible rfl))); try simp only [List.nil_append, List.cons_append]))
    (refine fr_end ?_; intro x w9 hS hk)
    have z := kn_end_at 14 hk (by rfl)
    rw [Nat.zero_add] at z
    clear hk
    rw [z]
    go_wp2_with fail
    go_ret
    exact ⟨by rw [HM2.out]; rfl, O.out.trans hS⟩
end Go.Proofs.YtlieolehpmobfaaGreatDoor
end
