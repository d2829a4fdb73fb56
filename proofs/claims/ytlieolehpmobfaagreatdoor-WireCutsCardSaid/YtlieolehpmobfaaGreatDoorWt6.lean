/- Texts of mine, one behind the other: Pce, WiA, Apz, Lif, WiE, StEo, RcU, WiF. No statement of the seat is proved here. -/
import Derived.Test.YtlieolehpmobfaaGreatDoorWt1
import Derived.Laws.Tables
import Derived.Test.YtlieolehpmobfaaGreatDoorWt4
import Derived.Test.YtlieolehpmobfaaGreatDoorWt5
import Derived.Deep.LoopGhost
import Derived.Deep.DeepCutAuto
import Derived.Deep.Cut
import Derived.Test.YtlieolehpmobfaaGreatDoorWt3
section
namespace Go.Proofs.YtlieolehpmobfaaGreatDoor
open Go.RowKit
set_option maxRecDepth 100000
set_option linter.all false
theorem run_load_piece {P : Program} (w : World) (g off : Nat) (ty : TypeId) (cs : Array Value) (d : TypeDesc) (hc : ∀ j u, cs.toList[j]? = some u → w.cell? ⟨g, off + j, none⟩ = some u)
    (hu : P.underlying ty = some d) (hd : (match d with | .struct _ | .array _ _ => true | _ => false) = true) (hi : (P.info? ty).map (·.size) = some cs.size) :
    (loadVar ty ⟨g, off, none⟩).run P w = .ok (.agg cs) w := by
  have hl : (loadCells ⟨g, off, none⟩ cs.toList.length).run P w = .ok cs.toList.toArray w :=
    run_loadCells_list (P := P) w ⟨g, off, none⟩ cs.toList (fun j v hv => by
      have hadd : (⟨g, off, none⟩ : Addr).add j = ⟨g, off + j, none⟩ := by unfold Addr.add; split <;> simp_all
      rw [hadd]
      exact hc j v hv)
  cases hq : P.info? ty with
  | none => simp [hq] at hi
  | some i =>
    have hs : i.size = cs.size := by simpa [hq] using hi
    have hagg : (isAgg ty).run P w = .ok true w := by
      unfold isAgg
      rw [Sem.run_bind, run_underlying hu w]
      cases d <;> simp_all
    simp only [Array.length_toList, Array.toArray_toList] at hl
    simp [loadVar, Sem.run_bind, hagg, sizeOf, typeInfo, hq, hs, hl]
theorem wpl_piece {P : Program} {ops : Array Oper} {rest : List Oper} {o : Oper} {a : Act} {w : World} {Q : Exit → Act → World → Prop} (hgd : o.guard = none) (ty : TypeId) (x : Operand) (ho : o.op = .load ty x)
    (g off : Nat) (hx : a.eval x = .pointer (some ⟨g, off, none⟩)) (cs : Array Value) (d : TypeDesc) (hc : ∀ j u, cs.toList[j]? = some u → w.cell? ⟨g, off + j, none⟩ = some u)
    (hu : P.underlying ty = some d) (hd : (match d with | .struct _ | .array _ _ => true | _ => false) = true) (hi : (P.info? ty).map (·.size) = some cs.size)
    (h : wpList P ops Q rest (a.put o.dst (.agg cs)) w) : wpList P ops Q (o :: rest) a w := by
  refine wpList_plain hgd fun K hK => ?_
  unfold Oper.wp execOp
  simp only [ho, hx, Instr.loadAt, Instr.sureAddr, Sem.run_bind, Sem.run_pure, Result.andThen_ok, run_load_piece w g off ty cs d hc hu hd hi]
  exact hK _ _ h
theorem setRow_alloc (w : World) (old cs : Array Value) (t : TypeId) : (w.alloc (.cells old t)).setRow w.heap.size cs = w.alloc (.cells cs t) := by
  unfold World.setRow World.alloc
  congr 1
  apply Array.ext_getElem?
  intro i
  rw [Array.getElem?_modify]
  by_cases hi : w.heap.size = i
  · subst hi; simp
  · simp [hi, Array.getElem?_push, Ne.symm hi]
theorem wpl_new {P : Program} {ops : Array Oper} {rest : List Oper} {o o2 : Oper} {a : Act} {w : World} {Q : Exit → Act → World → Prop} (hgd : o.guard = none) (hgd2 : o2.guard = none) (ty : TypeId) (ho : o.op = .alloc ty) (x y : Operand) (ho2 : o2.op = .store ty x y) (cs : Array Value)
    (hx : (a.put o.dst (.pointer (some ⟨w.heap.size, 0, none⟩))).eval x = .pointer (some ⟨w.heap.size, 0, none⟩)) (hy : (a.put o.dst (.pointer (some ⟨w.heap.size, 0, none⟩))).eval y = .agg cs)
    (hi : (P.info? ty).map (fun i => (i.size, i.zero.map (fun z => z.cells.size))) = some (cs.size, some cs.size)) (h1 : cs.all (·.oneCell') = true)
    (h : wpList P ops Q rest ((a.put o.dst (.pointer (some ⟨w.heap.size, 0, none⟩))).put o2.dst undef) (w.alloc (.cells cs ty))) : wpList P ops Q (o :: o2 :: rest) a w := by
  cases hq : P.info? ty with
  | none => simp [hq] at hi
  | some i =>
    cases hz : i.zero with
    | none => simp [hq, hz] at hi
    | some z =>
      have hs : i.size = cs.size ∧ z.cells.size = cs.size := by simpa [hq, hz] using hi
      refine wpList_plain hgd fun K hK => ?_
      unfold Oper.wp execOp
      simp only [ho, Instr.alloc, zeroValue, typeInfo, newVar, newRow, Sem.run_bind]
      simp [hq, hz]
      refine hK _ _ ?_
      refine wpList_store_row hgd2 ty x y ho2 w.heap.size cs hx hy ty z.cells (heap_alloc_new w _) (by simp [hq, hs.1]) hs.2 h1 ?_
      rw [setRow_alloc]
      exact h
end Go.Proofs.YtlieolehpmobfaaGreatDoor
end
section
namespace Go.Proofs.YtlieolehpmobfaaGreatDoor
open Go.RowKit
set_option linter.all false
set_option maxRecDepth 100000
def intI (z : Int) : List Value := [.int .i64 z]
theorem intI_len (z : Int) : (intI z).length = 1 := rfl
structure Ml (S : Nat → Prop) (m : Ms) (vp vm ve : Value) (w : World) : Prop where
  p : Cel w S vp m.ps.length 1 (m.ps.flatMap intI)
  q : Cel w S vm m.ms.length 3 (m.ms.flatMap mkI)
  r : Cel w S ve m.es.length 9 (m.es.flatMap enRow)
section
variable {S T : Nat → Prop} {m : Ms} {vp vm ve : Value} {w w' : World}
theorem Ml.only (h : Ml S m vp vm ve w) (o : Only T w w') (hn : ∀ b, S b → ¬ T b) : Ml S m vp vm ve w' := ⟨h.p.only o hn, h.q.only o hn, h.r.only o hn⟩
theorem Ml.keep (h : Ml S m vp vm ve w) (o : Only none_ w w') : Ml S m vp vm ve w' := h.only o (fun _ _ h => h)
theorem Ml.mono (h : Ml S m vp vm ve w) (hk : ∀ b, b < w.heap.size → S b → T b) : Ml T m vp vm ve w := ⟨h.p.mono hk, h.q.mono hk, h.r.mono hk⟩
theorem Ml.nil (w : World) (S : Nat → Prop) (k : Int) : Ml S (msZero k) (.slice none 0 0) (.slice none 0 0) (.slice none 0 0) w := ⟨Cel.nil _ _ _, Cel.nil _ _ _, Cel.nil _ _ _⟩
end
structure Mb (t : TypeId) (g : Nat) (S : Nat → Prop) (m : Ms) (vp vm ve : Value) (w : World) : Prop where
  bx : Blk w g t #[.int .i64 m.kd, .int .i64 m.pe, .int .i64 m.hp, .bool m.hi, vp, .int .i64 m.nu, .int .u64 (m.su : Int), .int .i64 m.mr.a.c, .int .i64 m.mr.a.s, .string m.mr.k, vm, ve]
  ml : Ml S m vp vm ve w
section
variable {t : TypeId} {g : Nat} {S T : Nat → Prop} {m : Ms} {vp vm ve : Value} {w w' : World}
theorem Mb.only (h : Mb t g S m vp vm ve w) (o : Only T w w') (hg : ¬ T g) (hn : ∀ b, S b → ¬ T b) : Mb t g S m vp vm ve w' := ⟨h.bx.only o hg, h.ml.only o hn⟩
theorem Mb.keep (h : Mb t g S m vp vm ve w) (o : Only none_ w w') : Mb t g S m vp vm ve w' := h.only o (fun h => h) (fun _ _ h => h)
end
set_option maxHeartbeats 400000 in
theorem wi_node (n : Int) (w : World) : Calls Tryz.prog 152 #[.int .i64 n] w fun e w' => e = .returned (.bool (nodeB n)) ∧ w = w' := by
  unfold nodeB
  by_cases h : 0 ≤ n
  · go_enter Tryz.func152, Tryz.ntmps152
    go_wp2_with fail
    go_ret
    (simp [h]) <;> omega
  · go_enter Tryz.func152, Tryz.ntmps152
    go_wp2_with fail
    go_ret
    (simp [h]) <;> omega
set_option maxHeartbeats 400000 in
theorem wi_kind (n : Int) (w : World) : Calls Tryz.prog 66 #[.int .i64 n] w fun e w' => e = .returned (.bool (wKind n)) ∧ w = w' := by
  unfold wKind
  by_cases h : 1 ≤ n
  · go_enter Tryz.func66, Tryz.ntmps66
    go_wp2_with fail
    go_ret
    (simp [h]) <;> omega
  · go_enter Tryz.func66, Tryz.ntmps66
    go_wp2_with fail
    go_ret
    (simp [h]) <;> omega
set_option maxHeartbeats 400000 in
theorem wi_entry (e : En) (w : World) : Calls Tryz.prog 175 #[.agg #[.string e.k, .string e.v, .bool e.d, .int .i64 e.s.c, .int .i64 e.s.s, .int .i64 e.a.c, .int .i64 e.a.s, .int .i64 e.p, .int .i64 e.g]] w fun E w' => E = .returned (.bool (enOk e)) ∧ Only none_ w w' := by
  have B := Lib.hid (Blk.new w 147 #[.string e.k, .string e.v, .bool e.d, .int .i64 e.s.c, .int .i64 e.s.s, .int .i64 e.a.c, .int .i64 e.a.s, .int .i64 e.p, .int .i64 e.g])
  have O := Lib.hid ((Only.refl none_ w).alloc (.cells #[.string e.k, .string e.v, .bool e.d, .int .i64 e.s.c, .int .i64 e.s.s, .int .i64 e.a.c, .int .i64 e.a.s, .int .i64 e.p, .int .i64 e.g] 147))
  have HE : Hid (enOk e = (enCheck e == 0)) := rfl
  go_enter Tryz.func175, Tryz.ntmps175
  go_wp2_with (first
    | (refine wpl_load rfl 147 _ rfl w.heap.size rfl 147 #[.string e.k, .string e.v, .bool e.d, .int .i64 e.s.c, .int .i64 e.s.s, .int .i64 e.a.c, .int .i64 e.a.s, .int .i64 e.p, .int .i64 e.g] _ B.out Tryz.underlying147 rfl (by kernel_rfl) ?_)
    | (go_at_call 238; refine (en_check e _).mono ?_; rintro E w9 ⟨rfl, o9⟩; have O9 := Lib.hid (O.out.trans o9); clear o9))
  go_ret
  exact ⟨by rw [HE.out]; rfl, O9.out⟩
set_option maxHeartbeats 400000 in
theorem wi_top (x : Mk) (w : World) : Calls Tryz.prog 165 #[.agg #[.int .i64 x.a.c, .int .i64 x.a.s, .string x.k]] w fun E w' => E = .returned (.bool (isTop x)) ∧ Only none_ w w' := by
  have B := Blk.new w 41 #[.int .i64 x.a.c, .int .i64 x.a.s, .string x.k]
  have O := Lib.hid ((Only.refl none_ w).alloc (.cells #[.int .i64 x.a.c, .int .i64 x.a.s, .string x.k] 41))
  have c0 := B.cell_ (i := 0) rfl
  have c1 := B.cell_ (i := 1) rfl
  have c2 := B.cell_ (i := 2) rfl
  have he : ∀ w, (binOp .eql 41 (.agg #[.int .i64 x.a.c, .int .i64 x.a.s, .string x.k]) (.agg #[.int .i64 0, .int .i64 0, .string ⟨#[]⟩])).run Tryz.prog w = .ok (.bool (mkSame x mkTop)) w := fun w => eqlA w x mkTop
  rw [isTop_same]
  clear B
  go_enter Tryz.func165, Tryz.ntmps165
  go_wp2_with fail
  go_ret
  exact ⟨rfl, O.out⟩
end Go.Proofs.YtlieolehpmobfaaGreatDoor
end
section
namespace Go.Proofs.YtlieolehpmobfaaGreatDoor
open Go.RowKit
set_option maxRecDepth 100000
set_option linter.all false
theorem wpl_load_if {P : Program} {ops : Array Oper} {Q : Exit → Act → World → Prop} {rest : List Oper} {o : Oper} {a : Act} {w : World} (hw : Region.wanted o (yielded ops a.tmps) = true) (ty : TypeId) (x : Operand) (ho : o.op = .load ty x)
    (g : Nat) (hx : a.eval x = .pointer (some ⟨g, 0, none⟩)) (t : TypeId) (cs : Array Value) (d : TypeDesc) (hg : Blk w g t cs)
    (hu : P.underlying ty = some d) (hd : (match d with | .struct _ | .array _ _ => true | _ => false) = true) (hi : (P.info? ty).map (·.size) = some cs.size)
    (h : wpList P ops Q rest (a.put o.dst (.agg cs)) w) : wpList P ops Q (o :: rest) a w := by
  show (if Region.wanted o (yielded ops a.tmps) then o.wp P a w (wpList P ops Q rest) Q ∨ _ else _)
  rw [if_pos hw]
  exact .inl (wp_load_row ty x ho g hx t cs (0, 0) d hg hu hd hi h)
end Go.Proofs.YtlieolehpmobfaaGreatDoor
end
section
namespace Go.Proofs.YtlieolehpmobfaaGreatDoor
open Go.RowKit
set_option linter.all false
set_option maxRecDepth 100000
set_option maxHeartbeats 800000 in
theorem wt_node (g : Nat) (S : Nat → Prop) (c : Int) (bs : List UInt8) (w : World) (hr : Rd w g S c bs) (hm : bs.length ≤ 140737488355328) :
    Calls Tryz.prog 116 #[.pointer (some ⟨g, 0, none⟩)] w fun e w' => e = .returned (.int .i64 (nodeR c bs).2.2) ∧ Rd w' g S (nodeR c bs).1 (nodeR c bs).2.1 ∧ Only (one g) w w' := by
  have C := Lib.hid (reader_number g S c bs 1 w hr hm)
  have hlt := numR_lt c bs 1
  have HE : Hid (nodeR c bs = ((numR c bs 1).1, (numR c bs 1).2.1, ((numR c bs 1).2.2 : Int))) := rfl
  obtain ⟨⟨c1, b1, n1⟩, ha⟩ : ∃ a, numR c bs 1 = a := ⟨_, rfl⟩
  rw [show ((1 : Nat) : Int) = 1 from rfl, ha] at hlt
  rw [ha] at C HE
  dsimp only at C HE hlt
  have hw : IntKind.i64.wrap (n1 : Int) = (n1 : Int) := IntWalk.i64_in _ (by omega)
  clear ha hr hm
  go_enter Tryz.func116, Tryz.ntmps116
  go_wp2_with (first
    | (go_at_call 120; refine C.out.mono ?_; rintro e w1 ⟨rfl, h1, o1⟩; have H1 := Lib.hid h1; have O1 := Lib.hid o1; clear h1 o1))
  go_ret
  rw [HE.out]
  exact ⟨rfl, H1.out, O1.out⟩
set_option maxHeartbeats 1600000 in
theorem wt_mark (g : Nat) (S : Nat → Prop) (code : Int) (bs : List UInt8) (w : World) (hr : Rd w g S code bs) (fr : ∀ b, S b → b < w.heap.size) (hm : bs.length ≤ 140737488355328) :
    Calls Tryz.prog 136 #[.pointer (some ⟨g, 0, none⟩)] w fun e w' =>
      e = .returned (.agg #[.int .i64 (markR code bs).2.2.a.c, .int .i64 (markR code bs).2.2.a.s, .string (markR code bs).2.2.k]) ∧ Rd w' g S (markR code bs).1 (markR code bs).2.1 ∧ Only (one g) w w' := by
  have hg := hr.lt
  have HG := Lib.hid hg
  clear hg
  have R0 := Lib.hid (Blk.new w 41 #[.int .i64 0, .int .i64 0, .string ⟨#[]⟩])
  have O0 := Lib.hid ((Only.refl (one g) w).alloc (.cells #[.int .i64 0, .int .i64 0, .string ⟨#[]⟩] 41))
  have T0 := Tk.new (t := 41) (cs := #[.int .i64 0, .int .i64 0, .string ⟨#[]⟩]) (hr.only ((Only.refl none_ _).alloc (.cells #[.int .i64 0, .int .i64 0, .string ⟨#[]⟩] 41)) (fun h => h) (fun _ _ h => h)) (fun b hb => by rw [World.size_alloc]; have := fr b hb; omega)
  rw [World.size_alloc] at T0
  have T := Lib.hid T0
  clear T0
  obtain ⟨a, ha⟩ : ∃ a, numR code bs 4 = a := ⟨_, rfl⟩
  obtain ⟨b, hb⟩ : ∃ b, numR a.1 a.2.1 1 = b := ⟨_, rfl⟩
  obtain ⟨d, hd⟩ : ∃ d, textR b.1 b.2.1 16 = d := ⟨_, rfl⟩
  have la : a.2.2 < 256 ^ 4 := ha ▸ numR_lt code bs 4
  have lb : b.2.2 < 256 ^ 1 := hb ▸ numR_lt a.1 a.2.1 1
  have l2 : a.2.1.length ≤ bs.length := ha ▸ numR_len code bs 4
  have l3 : b.2.1.length ≤ a.2.1.length := hb ▸ numR_len a.1 a.2.1 1
  have HS : Hid (markR code bs = (d.1, d.2.1, ⟨⟨(a.2.2 : Nat), (b.2.2 : Nat)⟩, ⟨d.2.2.toArray⟩⟩)) := by rw [Hid, markR, stampR, ha, hb]; dsimp only; rw [hd]
  have A1 : IntKind.i64.wrap (a.2.2 : Int) = (a.2.2 : Int) := IntWalk.i64_in _ (by omega)
  have B1 : IntKind.i64.wrap (b.2.2 : Int) = (b.2.2 : Int) := IntWalk.i64_in _ (by omega)
  have HB := Lib.hid hb
  have HD := Lib.hid hd
  have HM : Hid (a.2.1.length ≤ 140737488355328) := Nat.le_trans l2 hm
  have HM2 : Hid (b.2.1.length ≤ 140737488355328) := Nat.le_trans l3 (Nat.le_trans l2 hm)
  have C1 := reader_number g S code bs 4 _ T.out.rd hm
  rw [ha] at C1
  have FR := Lib.hid fr
  clear ha hb hd la lb l2 l3 hr fr hm
  have tok1 : True := trivial
  go_enter Tryz.func136, Tryz.ntmps136
  go_wp2_with (first
    | (go_at_call 120; have _t := tok1; clear tok1; refine C1.mono ?_; clear C1; rintro e w1 ⟨rfl, h1, o1⟩
       have T1 := Lib.hid (T.out.step h1 o1)
       have z1 := T1.out.bx.frozen 0
       have v1 := T1.out.bx.cell_ (i := 0) rfl
       have T2 := Lib.hid (T1.out.set 0 (.int .i64 a.2.2))
       clear h1 o1
       have tok2 : True := trivial)
    | (go_at_call 120; have _t := tok2; clear tok2; refine (reader_number g S _ _ 1 _ T2.out.rd HM.out).mono ?_; rw [HB.out]; rintro e w2 ⟨rfl, h2, o2⟩
       have T3 := Lib.hid (T2.out.step h2 o2)
       have z2 := T3.out.bx.frozen 1
       have v2 := T3.out.bx.cell_ (i := 1) rfl
       have T4 := Lib.hid (T3.out.set 1 (.int .i64 b.2.2))
       clear h2 o2)
    | (go_at_call 235; refine (reader_text g S _ _ 16 _ T4.out.rd HM2.out).mono ?_; rw [HD.out]; rintro e w3 ⟨rfl, h3, o3⟩
       have T5 := Lib.hid (T4.out.step h3 o3)
       have z3 := T5.out.bx.frozen 2
       have v3 := T5.out.bx.cell_ (i := 2) rfl
       have T6 := Lib.hid (T5.out.set 2 (.string ⟨d.2.2.toArray⟩))
       have R6 := Lib.hid (R0.out.only T6.out.ho (fun e => by have e' : w.heap.size = g := e; have := HG.out; omega))
       have c0 := T6.out.bx.cell_ (i := 0) rfl
       have c1 := T6.out.bx.cell_ (i := 1) rfl
       have c2 := T6.out.bx.cell_ (i := 2) rfl
       have y0 := R6.out.frozen 0
       have y1 := (R6.out.set_ 0 (.int .i64 a.2.2)).frozen 1
       have y2 := ((R6.out.set_ 0 (.int .i64 a.2.2)).set_ 1 (.int .i64 b.2.2)).frozen 2
       have x0 := R6.out.cell_ (i := 0) rfl
       have x1 := (R6.out.set_ 0 (.int .i64 a.2.2)).cell_ (i := 1) rfl
       have x2 := ((R6.out.set_ 0 (.int .i64 a.2.2)).set_ 1 (.int .i64 b.2.2)).cell_ (i := 2) rfl
       clear h3 o3))
  have hF : Blk ((((w3.setCell ⟨w.heap.size + 1, 2, none⟩ (.string ⟨d.2.2.toArray⟩)).setCell ⟨w.heap.size, 0, none⟩ (.int .i64 a.2.2)).setCell ⟨w.heap.size, 1, none⟩ (.int .i64 b.2.2)).setCell ⟨w.heap.size, 2, none⟩ (.string ⟨d.2.2.toArray⟩)) w.heap.size 41 #[.int .i64 a.2.2, .int .i64 b.2.2, .string ⟨d.2.2.toArray⟩] := by
    have := ((R6.out.set_ 0 (.int .i64 a.2.2)).set_ 1 (.int .i64 b.2.2)).set_ 2 (.string ⟨d.2.2.toArray⟩)
    simpa using this
  have oF := (((Only.refl (one w.heap.size) (w3.setCell ⟨w.heap.size + 1, 2, none⟩ (.string ⟨d.2.2.toArray⟩))).setCell (p := ⟨w.heap.size, 0, none⟩) (.inl rfl) (.int .i64 a.2.2)).setCell (p := ⟨w.heap.size, 1, none⟩) (.inl rfl) (.int .i64 b.2.2)).setCell (p := ⟨w.heap.size, 2, none⟩) (.inl rfl) (.string ⟨d.2.2.toArray⟩)
  exact bodyPost_ret (results_cell_row rfl _ _ w.heap.size 41 _ (0, 0) _ rfl hF Tryz.underlying41 rfl (by kernel_rfl)) rfl
    (by rw [HS.out]; exact ⟨rfl, T6.out.rd.only oF (fun e => by have e' : g = w.heap.size := e; have := HG.out; omega) (fun b hb e => by have e' : b = w.heap.size := e; have := FR.out b hb; omega),
      (((O0.out.trans T6.out.ho).setCell (p := ⟨w.heap.size, 0, none⟩) (.inr (Nat.le_refl _)) _).setCell (p := ⟨w.heap.size, 1, none⟩) (.inr (Nat.le_refl _)) _).setCell (p := ⟨w.heap.size, 2, none⟩) (.inr (Nat.le_refl _)) _⟩)
end Go.Proofs.YtlieolehpmobfaaGreatDoor
end
section
namespace Go.Proofs.YtlieolehpmobfaaGreatDoor
open Go.RowKit
set_option maxRecDepth 100000
theorem st_of (c s : Int) (w : World) :
    Calls Tryz.prog 149 #[.agg #[.int .i64 c, .int .i64 s]] w fun e w' => e = .returned (.agg #[.int .i64 c, .int .i64 s]) ∧ Only none_ w w' := by
  have O := Lib.hid (((Only.refl none_ w).alloc (.cells #[.int .i64 c, .int .i64 s] 25)).alloc (.cells #[.int .i64 c, .int .i64 s] 39))
  go_enter Tryz.func149, Tryz.ntmps149
  go_wp2_with fail
  exact bodyPost_ret (v := .agg #[.int .i64 c, .int .i64 s]) (by simp [results, Tryz.results149, go_sem]) rfl ⟨rfl, O.out⟩
end Go.Proofs.YtlieolehpmobfaaGreatDoor
end
section
namespace Go.Proofs.YtlieolehpmobfaaGreatDoor
open Go.RowKit
set_option maxRecDepth 100000
set_option linter.all false
set_option maxHeartbeats 1600000 in
theorem mk_of (m : Mk) (w : World) :
    Calls Tryz.prog 64 #[.agg #[.int .i64 m.a.c, .int .i64 m.a.s, .string m.k]] w fun e w' => e = .returned (.agg #[.int .i64 m.a.c, .int .i64 m.a.s, .string m.k]) ∧ Only none_ w w' := by
  have HST := Lib.hid (st_of m.a.c m.a.s)
  have B0 := Blk.new w 27 #[.int .i64 m.a.c, .int .i64 m.a.s, .string m.k]
  obtain ⟨b0, hb0⟩ : ∃ b0, w.heap.size = b0 := ⟨_, rfl⟩
  have HB0 := Lib.hid hb0
  have B1 := Blk.new (w.alloc (.cells #[.int .i64 m.a.c, .int .i64 m.a.s, .string m.k] 27)) 41 #[.int .i64 0, .int .i64 0, .string ⟨#[]⟩]
  rw [World.size_alloc, hb0] at B1
  rw [hb0] at B0
  have B0' := Lib.hid (B0.alloc (.cells #[.int .i64 0, .int .i64 0, .string ⟨#[]⟩] 41))
  have B1' := Lib.hid B1
  have O := Lib.hid (((Only.refl none_ w).alloc (.cells #[.int .i64 m.a.c, .int .i64 m.a.s, .string m.k] 27)).alloc (.cells #[.int .i64 0, .int .i64 0, .string ⟨#[]⟩] 41))
  obtain ⟨w2, hw2⟩ : ∃ w2, (w.alloc (.cells #[.int .i64 m.a.c, .int .i64 m.a.s, .string m.k] 27)).alloc (.cells #[.int .i64 0, .int .i64 0, .string ⟨#[]⟩] 41) = w2 := ⟨_, rfl⟩
  have HW := Lib.hid hw2
  rw [hw2] at B0' B1' O
  obtain ⟨⟨mc, ms⟩, k⟩ := m
  simp only [] at HST B0' B1' O HW
  clear hb0 B0 B1 hw2
  go_enter Tryz.func64, Tryz.ntmps64
  go_wp2_with fail
  rw [HW.out, HB0.out]
  (refine wp_region_steady (fun w' => Only none_ w2 w') 6 (by kernel_rfl) (by kernel_rfl) ((Only.refl none_ w2).drew) ?_; simp only [List.take_succ_cons, List.take_zero, List.drop_succ_cons, List.drop_zero])
  repeat (first
    | (refine sd_value (v := ?_) (by rfl) (fun w0 hS => ?_) ?_; rotate_left; (· (have hb := B0'.out.only hS (fun h => h); have k0 := hb.cell_ (i := 0) rfl; have k1 := hb.cell_ (i := 1) rfl; have k2 := hb.cell_ (i := 2) rfl; go_simp; try (with_reducible rfl))); try simp only [Act.put, List.setIfInBounds_toArray, List.set_cons_zero, List.set_cons_succ])
    | (refine sd_call (v := ?_) (f := 149) (args := ?_) (by rfl) (fun w0 hS => ?_) (fun w0 hS => ?_) ?_; rotate_left 2; (· (skip; go_simp; try (with_reducible rfl))); (· (refine (HST.out _).mono ?_; rintro E w9 ⟨rfl, o9⟩; refine ⟨?_, hS.trans o9⟩; rfl)); try simp only [Act.put, List.setIfInBounds_toArray, List.set_cons_zero, List.set_cons_succ]))
  refine sd_nil ?_
  intro w3 t3
  have X := B1'.out.only t3 (fun h => h)
  have c0 := X.cell_ (i := 0) rfl
  have f0 := X.frozen 0
  have c1 := (X.set_ 0 (.int .i64 mc)).cell_ (i := 1) rfl
  have f1 := (X.set_ 0 (.int .i64 mc)).frozen 1
  have c2 := ((X.set_ 0 (.int .i64 mc)).set_ 1 (.int .i64 ms)).cell_ (i := 2) rfl
  have f2 := ((X.set_ 0 (.int .i64 mc)).set_ 1 (.int .i64 ms)).frozen 2
  have F : Hid (Blk (((w3.setCell ⟨b0 + 1, 0, none⟩ (.int .i64 mc)).setCell ⟨b0 + 1, 1, none⟩ (.int .i64 ms)).setCell ⟨b0 + 1, 2, none⟩ (.string k)) (b0 + 1) 41 #[.int .i64 mc, .int .i64 ms, .string k]) := ((X.set_ 0 (.int .i64 mc)).set_ 1 (.int .i64 ms)).set_ 2 (.string k)
  have OF : Hid (Only none_ w (((w3.setCell ⟨b0 + 1, 0, none⟩ (.int .i64 mc)).setCell ⟨b0 + 1, 1, none⟩ (.int .i64 ms)).setCell ⟨b0 + 1, 2, none⟩ (.string k))) := (O.out.trans t3).trans' ((((Only.refl (one (b0 + 1)) w3).setCell (p := ⟨b0 + 1, 0, none⟩) (.inl (show one (b0 + 1) (b0 + 1) from rfl)) _).setCell (p := ⟨b0 + 1, 1, none⟩) (.inl (show one (b0 + 1) (b0 + 1) from rfl)) _).setCell (p := ⟨b0 + 1, 2, none⟩) (.inl (show one (b0 + 1) (b0 + 1) from rfl)) _) (fun k hk e => by have e' : k = b0 + 1 := e; have := HB0.out; omega)
  clear t3 X
  go_wp2_with fail
  exact bodyPost_ret (results_cell_row rfl _ _ (b0 + 1) 41 _ (0, 0) _ rfl F.out Tryz.underlying41 rfl (by kernel_rfl)) rfl ⟨rfl, OF.out⟩
set_option maxHeartbeats 1600000 in
theorem mk_to (m : Mk) (w : World) :
    Calls Tryz.prog 80 #[.agg #[.int .i64 m.a.c, .int .i64 m.a.s, .string m.k]] w fun e w' => e = .returned (.agg #[.int .i64 m.a.c, .int .i64 m.a.s, .string m.k]) ∧ Only none_ w w' := by
  have HST := Lib.hid (st_to m.a.c m.a.s)
  have B0 := Blk.new w 41 #[.int .i64 m.a.c, .int .i64 m.a.s, .string m.k]
  obtain ⟨b0, hb0⟩ : ∃ b0, w.heap.size = b0 := ⟨_, rfl⟩
  have HB0 := Lib.hid hb0
  have B1 := Blk.new (w.alloc (.cells #[.int .i64 m.a.c, .int .i64 m.a.s, .string m.k] 41)) 27 #[.int .i64 0, .int .i64 0, .string ⟨#[]⟩]
  rw [World.size_alloc, hb0] at B1
  rw [hb0] at B0
  have B0' := Lib.hid (B0.alloc (.cells #[.int .i64 0, .int .i64 0, .string ⟨#[]⟩] 27))
  have B1' := Lib.hid B1
  have O := Lib.hid (((Only.refl none_ w).alloc (.cells #[.int .i64 m.a.c, .int .i64 m.a.s, .string m.k] 41)).alloc (.cells #[.int .i64 0, .int .i64 0, .string ⟨#[]⟩] 27))
  obtain ⟨w2, hw2⟩ : ∃ w2, (w.alloc (.cells #[.int .i64 m.a.c, .int .i64 m.a.s, .string m.k] 41)).alloc (.cells #[.int .i64 0, .int .i64 0, .string ⟨#[]⟩] 27) = w2 := ⟨_, rfl⟩
  have HW := Lib.hid hw2
  rw [hw2] at B0' B1' O
  obtain ⟨⟨mc, ms⟩, k⟩ := m
  simp only [] at HST B0' B1' O HW
  clear hb0 B0 B1 hw2
  go_enter Tryz.func80, Tryz.ntmps80
  go_wp2_with fail
  rw [HW.out, HB0.out]
  (refine wp_region_steady (fun w' => Only none_ w2 w') 6 (by kernel_rfl) (by kernel_rfl) ((Only.refl none_ w2).drew) ?_; simp only [List.take_succ_cons, List.take_zero, List.drop_succ_cons, List.drop_zero])
  repeat (first
    | (refine sd_value (v := ?_) (by rfl) (fun w0 hS => ?_) ?_; rotate_left; (· (have hb := B0'.out.only hS (fun h => h); have k0 := hb.cell_ (i := 0) rfl; have k1 := hb.cell_ (i := 1) rfl; have k2 := hb.cell_ (i := 2) rfl; go_simp; try (with_reducible rfl))); try simp only [Act.put, List.setIfInBounds_toArray, List.set_cons_zero, List.set_cons_succ])
    | (refine sd_call (v := ?_) (f := 182) (args := ?_) (by rfl) (fun w0 hS => ?_) (fun w0 hS => ?_) ?_; rotate_left 2; (· (skip; go_simp; try (with_reducible rfl))); (· (refine (HST.out _).mono ?_; rintro E w9 ⟨rfl, o9⟩; refine ⟨?_, hS.trans o9⟩; rfl)); try simp only [Act.put, List.setIfInBounds_toArray, List.set_cons_zero, List.set_cons_succ]))
  refine sd_nil ?_
  intro w3 t3
  have X := B1'.out.only t3 (fun h => h)
  have c0 := X.cell_ (i := 0) rfl
  have f0 := X.frozen 0
  have c1 := (X.set_ 0 (.int .i64 mc)).cell_ (i := 1) rfl
  have f1 := (X.set_ 0 (.int .i64 mc)).frozen 1
  have c2 := ((X.set_ 0 (.int .i64 mc)).set_ 1 (.int .i64 ms)).cell_ (i := 2) rfl
  have f2 := ((X.set_ 0 (.int .i64 mc)).set_ 1 (.int .i64 ms)).frozen 2
  have F : Hid (Blk (((w3.setCell ⟨b0 + 1, 0, none⟩ (.int .i64 mc)).setCell ⟨b0 + 1, 1, none⟩ (.int .i64 ms)).setCell ⟨b0 + 1, 2, none⟩ (.string k)) (b0 + 1) 27 #[.int .i64 mc, .int .i64 ms, .string k]) := ((X.set_ 0 (.int .i64 mc)).set_ 1 (.int .i64 ms)).set_ 2 (.string k)
  have OF : Hid (Only none_ w (((w3.setCell ⟨b0 + 1, 0, none⟩ (.int .i64 mc)).setCell ⟨b0 + 1, 1, none⟩ (.int .i64 ms)).setCell ⟨b0 + 1, 2, none⟩ (.string k))) := (O.out.trans t3).trans' ((((Only.refl (one (b0 + 1)) w3).setCell (p := ⟨b0 + 1, 0, none⟩) (.inl (show one (b0 + 1) (b0 + 1) from rfl)) _).setCell (p := ⟨b0 + 1, 1, none⟩) (.inl (show one (b0 + 1) (b0 + 1) from rfl)) _).setCell (p := ⟨b0 + 1, 2, none⟩) (.inl (show one (b0 + 1) (b0 + 1) from rfl)) _) (fun k hk e => by have e' : k = b0 + 1 := e; have := HB0.out; omega)
  clear t3 X
  go_wp2_with fail
  exact bodyPost_ret (results_cell_row rfl _ _ (b0 + 1) 27 _ (0, 0) _ rfl F.out Tryz.underlying27 rfl (by kernel_rfl)) rfl ⟨rfl, OF.out⟩
end Go.Proofs.YtlieolehpmobfaaGreatDoor
end
section
namespace Go.Proofs.YtlieolehpmobfaaGreatDoor
open Go.RowKit
set_option linter.all false
set_option maxRecDepth 100000
structure Tl {α : Type} (f : α → List Value) (k : Nat) (e : TypeId) (B : World) (g : Nat) (S : Nat → Prop) (v : Value) (l : List α) (code : Int) (bs : List UInt8) (w : World) : Prop where
  ow : w.ownsRow B.heap.size e k v l.length (l.flatMap f)
  rd : Rd w g S code bs
  ho : Only (one g) B w
  gl : g < B.heap.size
  fr : ∀ b, S b → b < B.heap.size
section
variable {α : Type} {f : α → List Value} {k : Nat} {e : TypeId} {B w w' : World} {g : Nat} {S : Nat → Prop} {v v' : Value} {l : List α} {code code' : Int} {bs bs' : List UInt8}
theorem Tl.step (t : Tl f k e B g S v l code bs w) (hr : Rd w' g S code' bs') (o : Only (one g) w w') : Tl f k e B g S v l code' bs' w' :=
  ⟨owns_only t.ow o (fun b hb h => by have h' : b = g := h; have := (t.ow.lt b hb).1; have := t.gl; omega), hr, t.ho.trans o, t.gl, t.fr⟩
theorem Tl.keep (t : Tl f k e B g S v l code bs w) (o : Only none_ w w') : Tl f k e B g S v l code bs w' :=
  ⟨owns_only t.ow o (fun _ _ h => h), t.rd.only o (fun h => h) (fun _ _ h => h), t.ho.trans o.of_none, t.gl, t.fr⟩
theorem Tl.app (t : Tl f k e B g S v l code bs w) (x : α) {n : Nat} {p : List Value} (own : w'.ownsRow B.heap.size e k v' n p) (hn : n = l.length + 1) (hp : p = l.flatMap f ++ f x) (hg : w.grownBy w' v.ownBlock) : Tl f k e B g S v' (l ++ [x]) code bs w' := by
  subst hn hp
  have o : Only (fun b => v.ownBlock = some b) w w' := (Only.refl _ w).grown hg (fun k hk => .inl hk)
  refine ⟨by rw [List.length_append, List.flatMap_append]; simpa using own, t.rd.only o (fun h => by have := (t.ow.lt g h).1; have := t.gl; omega) (fun b hb h => by have := (t.ow.lt b h).1; have := t.fr b hb; omega), t.ho.grown hg (fun k hk => .inr (t.ow.lt k hk).1), t.gl, t.fr⟩
theorem Tl.shape (t : Tl f k e B g S v l code bs w) : ∃ A c, v = .slice A l.length c := by
  rcases t.ow.2 with ⟨rfl, h0⟩ | ⟨_, _, _, rfl, _⟩
  · exact ⟨none, 0, by rw [h0]⟩
  · exact ⟨_, _, rfl⟩
theorem Tl.new (hr : Rd w g S code bs) (fr : ∀ b, S b → b < w.heap.size) : Tl f k e w g S (.slice none 0 0) [] code bs w :=
  ⟨World.ownsRow_nil _ _ _ _, hr, Only.refl _ _, hr.lt, fr⟩
end
theorem lenR_lt (c : Int) (bs : List UInt8) : (lenR c bs).2.2 ≤ 8 := by
  unfold lenR; split
  · exact Nat.zero_le _
  · omega
theorem lenR_len (c : Int) (bs : List UInt8) : (lenR c bs).2.1.length ≤ bs.length := by
  unfold lenR; split <;> exact numR_len c bs 1
theorem listR_len {α : Type} {f : Tkn α} (hf : ∀ c bs, (f c bs).2.1.length ≤ bs.length) (c : Int) (bs : List UInt8) : ∀ n, (listR f n c bs).2.1.length ≤ bs.length
  | 0 => Nat.le_refl _
  | n + 1 => Nat.le_trans (hf _ _) (listR_len hf c bs n)
theorem listR_count {α : Type} (f : Tkn α) (c : Int) (bs : List UInt8) : ∀ n, (listR f n c bs).2.2.length = n
  | 0 => rfl
  | n + 1 => by show ((listR f n c bs).2.2 ++ [_]).length = _; rw [List.length_append, listR_count f c bs n]; rfl
theorem nodeR_len (c : Int) (bs : List UInt8) : (nodeR c bs).2.1.length ≤ bs.length := numR_len c bs 1
theorem markR_len (c : Int) (bs : List UInt8) : (markR c bs).2.1.length ≤ bs.length := Nat.le_trans (textR_len _ _ _) (stampR_len _ _)
theorem entR_len (c : Int) (bs : List UInt8) : (entR c bs).2.1.length ≤ bs.length := by
  show (fieldsF c bs).a7.2.1.length ≤ _
  unfold fieldsF
  dsimp only
  exact Nat.le_trans (numR_len _ _ _) (Nat.le_trans (numR_len _ _ _) (Nat.le_trans (stampR_len _ _) (Nat.le_trans (stampR_len _ _) (Nat.le_trans (textR_len _ _ _) (Nat.le_trans (flagR_len _ _) (textR_len _ _ _))))))
theorem wt_ent (g : Nat) (S : Nat → Prop) (code : Int) (bs : List UInt8) (w : World) (hr : Rd w g S code bs) (fr : ∀ b, S b → b < w.heap.size) (hm : bs.length ≤ 140737488355328) :
    Calls Tryz.prog 146 #[.pointer (some ⟨g, 0, none⟩)] w fun e w' =>
      e = .returned (.agg #[.string (entR code bs).2.2.k, .string (entR code bs).2.2.v, .bool (entR code bs).2.2.d, .int .i64 (entR code bs).2.2.s.c, .int .i64 (entR code bs).2.2.s.s, .int .i64 (entR code bs).2.2.a.c, .int .i64 (entR code bs).2.2.a.s, .int .i64 (entR code bs).2.2.p, .int .i64 (entR code bs).2.2.g]) ∧ Rd w' g S (entR code bs).1 (entR code bs).2.1 ∧ Only (one g) w w' := take_any g S code bs w hr fr hm
theorem int_info2 : (Tryz.prog.info? 3).map (fun i => (i.zero, i.size, i.bytes)) = some (some (.int .i64 0), 1, 8) := by kernel_rfl
theorem amark_info : (Tryz.prog.info? 41).map (fun i => (i.zero, i.size, i.bytes)) = some (some (.agg #[.int .i64 0, .int .i64 0, .string ⟨#[]⟩]), 3, 32) := by kernel_rfl
theorem aent_info : (Tryz.prog.info? 147).map (fun i => (i.zero, i.size, i.bytes)) = some (some (.agg #[.string ⟨#[]⟩, .string ⟨#[]⟩, .bool false, .int .i64 0, .int .i64 0, .int .i64 0, .int .i64 0, .int .i64 0, .int .i64 0]), 9, 88) := by kernel_rfl
set_option maxHeartbeats 3200000 in
theorem wt_list_int (g : Nat) (S : Nat → Prop) (code : Int) (bs : List UInt8) (w : World) (hr : Rd w g S code bs) (fr : ∀ b, S b → b < w.heap.size) (hm : bs.length ≤ 140737488355328) :
    Calls Tryz.prog 128 #[.pointer (some ⟨g, 0, none⟩), .func (.func 116) #[] #[]] w fun e w' =>
      ∃ v, e = .returned v ∧ Tl intI 1 3 w g S v (manyR nodeR code bs).2.2 (manyR nodeR code bs).1 (manyR nodeR code bs).2.1 w' := by
  obtain ⟨i0, hi0, hz0, hz1, hz2⟩ := rinfo_parts int_info2
  have C := Lib.hid (reader_number g S code bs 1 w hr hm)
  have HM : Hid (manyR nodeR code bs = listR nodeR (lenR code bs).2.2 (lenR code bs).1 (lenR code bs).2.1) := rfl
  have hlt := numR_lt code bs 1
  have hl1 := lenR_lt code bs
  have hl2 := lenR_len code bs
  have HE : Hid (lenR code bs = if 8 < (numR code bs 1).2.2 then (first_ (numR code bs 1).1 4, (numR code bs 1).2.1, 0) else numR code bs 1) := rfl
  have hg := hr.lt
  have HG := Lib.hid hg
  have FR := Lib.hid fr
  obtain ⟨⟨c1, b1, n1⟩, ha⟩ : ∃ a, numR code bs 1 = a := ⟨_, rfl⟩
  rw [show ((1 : Nat) : Int) = 1 from rfl, ha] at hlt
  rw [ha] at C HE
  dsimp only at C HE hlt
  have hN : (n1 : Int) < 256 := by have e : (256 : Nat) ^ 1 = 256 := rfl; omega
  clear ha hlt
  have W0 : Hid (∀ w1, Only (one g) w w1 → w.heap.size ≤ w1.heap.size) := fun w1 o => o.size
  by_cases h8 : 8 < n1
  · have h8' : (8 : Int) < (n1 : Int) := by omega
    have HL : Hid (lenR code bs = (first_ c1 4, b1, 0)) := by rw [Hid, HE.out, if_pos h8]
    have HX : Hid (manyR nodeR code bs = (first_ c1 4, b1, [])) := by rw [Hid, HM.out, HL.out]; rfl
    clear h8 HE hl1 hl2 hr fr hm hg
    go_enter Tryz.func128, Tryz.ntmps128
    go_wp2_with (first
      | (go_at_call 120; refine C.out.mono ?_; rintro e w1 ⟨rfl, h1, o1⟩; have H1 := Lib.hid h1; have O1 := Lib.hid o1; clear h1 o1)
      | (go_at_call 177; refine (reader_fail g S c1 4 b1 _ H1.out).mono ?_; rintro e w2 ⟨rfl, h2, o2⟩; have H2 := Lib.hid h2; have O2 := Lib.hid (O1.out.trans o2); clear h2 o2))
    go_ret
    rw [HX.out]
    exact ⟨_, rfl, World.ownsRow_nil _ _ _ _, H2.out, O2.out, HG.out, FR.out⟩
  · have h8' : ¬ (8 : Int) < (n1 : Int) := by omega
    have HL : Hid (lenR code bs = (c1, b1, n1)) := by rw [Hid, HE.out, if_neg h8]
    have HX : Hid (manyR nodeR code bs = listR nodeR n1 c1 b1) := by rw [Hid, HM.out, HL.out]
    rw [HL.out] at hl1 hl2
    dsimp only at hl1 hl2
    have HB : Hid (∀ i, (listR nodeR i c1 b1).2.1.length ≤ 140737488355328) := fun i => Nat.le_trans (listR_len nodeR_len c1 b1 i) (Nat.le_trans hl2 hm)
    have hn8 : (n1 : Int) ≤ 8 := by omega
    clear h8 HE hl2 hr fr hm hg
    go_enter Tryz.func128, Tryz.ntmps128
    go_wp2_with (first
      | (go_at_call 120; refine C.out.mono ?_; rintro e w1 ⟨rfl, h1, o1⟩; have T0 : Hid (Tl intI 1 3 w g S (.slice none 0 0) [] c1 b1 w1) := ⟨World.ownsRow_nil _ _ _ _, h1, o1, HG.out, FR.out⟩; clear h1 o1))
    go_loopw [6, 16] (fun s6 s16 wr => ∃ i : Nat, i ≤ n1 ∧ s16 = .int .u64 i ∧ Tl intI 1 3 w g S s6 (listR nodeR i c1 b1).2.2 (listR nodeR i c1 b1).1 (listR nodeR i c1 b1).2.1 wr) (fun _ s16 _ => n1 - (intOf s16).toNat)
    case atStart => exact ⟨0, by omega, rfl, T0.out⟩
    case round =>
      obtain ⟨i, hi, rfl, r⟩ := hrel
      obtain ⟨A1, cp, hs⟩ := r.shape
      subst hs
      have hct := listR_count nodeR c1 b1 i
      by_cases hlt : i < n1
      · have hlt' : (i : Int) < (n1 : Int) := by omega
        have hiw : IntKind.u64.wrap ((i : Int) + 1) = (i : Int) + 1 := IntWalk.u64_in _ (by omega)
        have HC := Lib.hid (wt_node g S _ _ wr r.rd (HB.out i))
        have HSN : Hid (listR nodeR (i + 1) c1 b1 = ((nodeR (listR nodeR i c1 b1).1 (listR nodeR i c1 b1).2.1).1, (nodeR (listR nodeR i c1 b1).1 (listR nodeR i c1 b1).2.1).2.1, (listR nodeR i c1 b1).2.2 ++ [(nodeR (listR nodeR i c1 b1).1 (listR nodeR i c1 b1).2.1).2.2])) := rfl
        obtain ⟨⟨c2, b2, l2⟩, hs2⟩ : ∃ a, listR nodeR i c1 b1 = a := ⟨_, rfl⟩
        rw [hs2] at hct r HC HSN
        dsimp only at hct r HC HSN
        obtain ⟨⟨c3, b3, x⟩, hs3⟩ : ∃ a, nodeR c2 b2 = a := ⟨_, rfl⟩
        rw [hs3] at HC HSN
        dsimp only at HC HSN
        rw [hs2]
        dsimp only
        rw [hct]
        have R := Lib.hid r
        have HCT := Lib.hid hct
        have HLN : Hid (i + 1 ≤ maxLen ∧ (i + 1) * 8 ≤ 140737488355328) := by simp only [Hid, maxLen]; omega
        have HONE : Hid (∀ u ∈ intI x, u.oneCell' = true) := by intro u hu; simp [intI] at hu; rcases hu with rfl <;> rfl
        clear r hct hs2 hs3 HB HX
        go_wp2_with (first
          | (go_at_call 116; refine HC.out.mono ?_; rintro E w3 ⟨rfl, h3, o3⟩
             have R3 := Lib.hid ((R.out.step h3 o3).keep ((Only.refl none_ w3).alloc (.cells #[.int .i64 x] 3)))
             have C1 : Hid (Cel (w3.alloc (.cells #[.int .i64 x] 3)) (fun b => b = w3.heap.size) (.slice (some ⟨w3.heap.size, 0, none⟩) 1 1) 1 1 (intI x)) := cel_made w3 3 1 1 #[.int .i64 x] rfl (by simp [maxLen])
             clear h3 o3)
          | (at_builtin; refine wpList_append_cel _ rfl (.tmp 18) (.tmp 22) 22 rfl w.heap.size 3 i0 _ 1 8 Tryz.underlying22 hi0 hz0 hz1 hz2 rfl (by omega) (.slice A1 i cp) i _ rfl (by have := R3.out.ow; rw [HCT.out] at this; exact this) _ _ 1 _ rfl C1.out HONE.out HLN.out.1 HLN.out.2 R3.out.ho.size ?_
             intro A5 n5 c5 w5 hown5 hgrow5 hmv5
             have R5 : Hid (Tl intI 1 3 w g S (.slice A5 n5 c5) (l2 ++ [x]) c3 b3 w5) := R3.out.app x hown5 (by rw [HCT.out]) rfl (by rw [HCT.out]; exact hgrow5)
             clear hown5 hgrow5 hmv5))
        go_roundw
        case rel => exact ⟨i + 1, by omega, by go_num, by rw [HSN.out]; exact R5.out⟩
        case measure => simp [intOf]; omega
      · have hge : ¬ ((i : Int) < (n1 : Int)) := by omega
        obtain rfl : i = n1 := by omega
        have R := Lib.hid r
        clear r hct HB
        go_wp2_with fail
        go_ret
        rw [HX.out]
        exact ⟨_, rfl, R.out⟩
set_option maxHeartbeats 3200000 in
theorem wt_list_mk (g : Nat) (S : Nat → Prop) (code : Int) (bs : List UInt8) (w : World) (hr : Rd w g S code bs) (fr : ∀ b, S b → b < w.heap.size) (hm : bs.length ≤ 140737488355328) :
    Calls Tryz.prog 140 #[.pointer (some ⟨g, 0, none⟩), .func (.func 136) #[] #[]] w fun e w' =>
      ∃ v, e = .returned v ∧ Tl mkI 3 41 w g S v (manyR markR code bs).2.2 (manyR markR code bs).1 (manyR markR code bs).2.1 w' := by
  obtain ⟨i0, hi0, hz0, hz1, hz2⟩ := rinfo_parts amark_info
  have C := Lib.hid (reader_number g S code bs 1 w hr hm)
  have HM : Hid (manyR markR code bs = listR markR (lenR code bs).2.2 (lenR code bs).1 (lenR code bs).2.1) := rfl
  have hlt := numR_lt code bs 1
  have hl1 := lenR_lt code bs
  have hl2 := lenR_len code bs
  have HE : Hid (lenR code bs = if 8 < (numR code bs 1).2.2 then (first_ (numR code bs 1).1 4, (numR code bs 1).2.1, 0) else numR code bs 1) := rfl
  have hg := hr.lt
  have HG := Lib.hid hg
  have FR := Lib.hid fr
  obtain ⟨⟨c1, b1, n1⟩, ha⟩ : ∃ a, numR code bs 1 = a := ⟨_, rfl⟩
  rw [show ((1 : Nat) : Int) = 1 from rfl, ha] at hlt
  rw [ha] at C HE
  dsimp only at C HE hlt
  have hN : (n1 : Int) < 256 := by have e : (256 : Nat) ^ 1 = 256 := rfl; omega
  clear ha hlt
  have W0 : Hid (∀ w1, Only (one g) w w1 → w.heap.size ≤ w1.heap.size) := fun w1 o => o.size
  by_cases h8 : 8 < n1
  · have h8' : (8 : Int) < (n1 : Int) := by omega
    have HL : Hid (lenR code bs = (first_ c1 4, b1, 0)) := by rw [Hid, HE.out, if_pos h8]
    have HX : Hid (manyR markR code bs = (first_ c1 4, b1, [])) := by rw [Hid, HM.out, HL.out]; rfl
    clear h8 HE hl1 hl2 hr fr hm hg
    go_enter Tryz.func140, Tryz.ntmps140
    go_wp2_with (first
      | (go_at_call 120; refine C.out.mono ?_; rintro e w1 ⟨rfl, h1, o1⟩; have H1 := Lib.hid h1; have O1 := Lib.hid o1; clear h1 o1)
      | (go_at_call 177; refine (reader_fail g S c1 4 b1 _ H1.out).mono ?_; rintro e w2 ⟨rfl, h2, o2⟩; have H2 := Lib.hid h2; have O2 := Lib.hid (O1.out.trans o2); clear h2 o2))
    go_ret
    rw [HX.out]
    exact ⟨_, rfl, World.ownsRow_nil _ _ _ _, H2.out, O2.out, HG.out, FR.out⟩
  · have h8' : ¬ (8 : Int) < (n1 : Int) := by omega
    have HL : Hid (lenR code bs = (c1, b1, n1)) := by rw [Hid, HE.out, if_neg h8]
    have HX : Hid (manyR markR code bs = listR markR n1 c1 b1) := by rw [Hid, HM.out, HL.out]
    rw [HL.out] at hl1 hl2
    dsimp only at hl1 hl2
    have HB : Hid (∀ i, (listR markR i c1 b1).2.1.length ≤ 140737488355328) := fun i => Nat.le_trans (listR_len markR_len c1 b1 i) (Nat.le_trans hl2 hm)
    have hn8 : (n1 : Int) ≤ 8 := by omega
    clear h8 HE hl2 hr fr hm hg
    go_enter Tryz.func140, Tryz.ntmps140
    go_wp2_with (first
      | (go_at_call 120; refine C.out.mono ?_; rintro e w1 ⟨rfl, h1, o1⟩; have T0 : Hid (Tl mkI 3 41 w g S (.slice none 0 0) [] c1 b1 w1) := ⟨World.ownsRow_nil _ _ _ _, h1, o1, HG.out, FR.out⟩; clear h1 o1))
    go_loopw [6, 16] (fun s6 s16 wr => ∃ i : Nat, i ≤ n1 ∧ s16 = .int .u64 i ∧ Tl mkI 3 41 w g S s6 (listR markR i c1 b1).2.2 (listR markR i c1 b1).1 (listR markR i c1 b1).2.1 wr) (fun _ s16 _ => n1 - (intOf s16).toNat)
    case atStart => exact ⟨0, by omega, rfl, T0.out⟩
    case round =>
      obtain ⟨i, hi, rfl, r⟩ := hrel
      obtain ⟨A1, cp, hs⟩ := r.shape
      subst hs
      have hct := listR_count markR c1 b1 i
      by_cases hlt : i < n1
      · have hlt' : (i : Int) < (n1 : Int) := by omega
        have hiw : IntKind.u64.wrap ((i : Int) + 1) = (i : Int) + 1 := IntWalk.u64_in _ (by omega)
        have HC := Lib.hid (wt_mark g S _ _ wr r.rd (fun b hb => Nat.lt_of_lt_of_le (r.fr b hb) r.ho.size) (HB.out i))
        have HSN : Hid (listR markR (i + 1) c1 b1 = ((markR (listR markR i c1 b1).1 (listR markR i c1 b1).2.1).1, (markR (listR markR i c1 b1).1 (listR markR i c1 b1).2.1).2.1, (listR markR i c1 b1).2.2 ++ [(markR (listR markR i c1 b1).1 (listR markR i c1 b1).2.1).2.2])) := rfl
        obtain ⟨⟨c2, b2, l2⟩, hs2⟩ : ∃ a, listR markR i c1 b1 = a := ⟨_, rfl⟩
        rw [hs2] at hct r HC HSN
        dsimp only at hct r HC HSN
        obtain ⟨⟨c3, b3, x⟩, hs3⟩ : ∃ a, markR c2 b2 = a := ⟨_, rfl⟩
        rw [hs3] at HC HSN
        dsimp only at HC HSN
        rw [hs2]
        dsimp only
        rw [hct]
        have R := Lib.hid r
        have HCT := Lib.hid hct
        have HLN : Hid (i + 1 ≤ maxLen ∧ (i + 1) * 32 ≤ 140737488355328) := by simp only [Hid, maxLen]; omega
        have HONE : Hid (∀ u ∈ mkI x, u.oneCell' = true) := by intro u hu; simp [mkI] at hu; rcases hu with rfl | rfl | rfl <;> rfl
        clear r hct hs2 hs3 HB HX
        go_wp2_with (first
          | (go_at_call 136; refine HC.out.mono ?_; rintro E w3 ⟨rfl, h3, o3⟩
             have R3 := Lib.hid ((R.out.step h3 o3).keep ((Only.refl none_ w3).alloc (.cells #[.int .i64 x.a.c, .int .i64 x.a.s, .string x.k] 41)))
             have C1 : Hid (Cel (w3.alloc (.cells #[.int .i64 x.a.c, .int .i64 x.a.s, .string x.k] 41)) (fun b => b = w3.heap.size) (.slice (some ⟨w3.heap.size, 0, none⟩) 1 1) 1 3 (mkI x)) := cel_made w3 41 3 1 #[.int .i64 x.a.c, .int .i64 x.a.s, .string x.k] rfl (by simp [maxLen])
             clear h3 o3)
          | (at_builtin; refine wpList_append_cel _ rfl (.tmp 18) (.tmp 22) 42 rfl w.heap.size 41 i0 _ 3 32 Tryz.underlying42 hi0 hz0 hz1 hz2 rfl (by omega) (.slice A1 i cp) i _ rfl (by have := R3.out.ow; rw [HCT.out] at this; exact this) _ _ 1 _ rfl C1.out HONE.out HLN.out.1 HLN.out.2 R3.out.ho.size ?_
             intro A5 n5 c5 w5 hown5 hgrow5 hmv5
             have R5 : Hid (Tl mkI 3 41 w g S (.slice A5 n5 c5) (l2 ++ [x]) c3 b3 w5) := R3.out.app x hown5 (by rw [HCT.out]) rfl (by rw [HCT.out]; exact hgrow5)
             clear hown5 hgrow5 hmv5))
        go_roundw
        case rel => exact ⟨i + 1, by omega, by go_num, by rw [HSN.out]; exact R5.out⟩
        case measure => simp [intOf]; omega
      · have hge : ¬ ((i : Int) < (n1 : Int)) := by omega
        obtain rfl : i = n1 := by omega
        have R := Lib.hid r
        clear r hct HB
        go_wp2_with fail
        go_ret
        rw [HX.out]
        exact ⟨_, rfl, R.out⟩
set_option maxHeartbeats 3200000 in
theorem wt_list_en (g : Nat) (S : Nat → Prop) (code : Int) (bs : List UInt8) (w : World) (hr : Rd w g S code bs) (fr : ∀ b, S b → b < w.heap.size) (hm : bs.length ≤ 140737488355328) :
    Calls Tryz.prog 145 #[.pointer (some ⟨g, 0, none⟩), .func (.func 146) #[] #[]] w fun e w' =>
      ∃ v, e = .returned v ∧ Tl enRow 9 147 w g S v (manyR entR code bs).2.2 (manyR entR code bs).1 (manyR entR code bs).2.1 w' := by
  obtain ⟨i0, hi0, hz0, hz1, hz2⟩ := rinfo_parts aent_info
  have C := Lib.hid (reader_number g S code bs 1 w hr hm)
  have HM : Hid (manyR entR code bs = listR entR (lenR code bs).2.2 (lenR code bs).1 (lenR code bs).2.1) := rfl
  have hlt := numR_lt code bs 1
  have hl1 := lenR_lt code bs
  have hl2 := lenR_len code bs
  have HE : Hid (lenR code bs = if 8 < (numR code bs 1).2.2 then (first_ (numR code bs 1).1 4, (numR code bs 1).2.1, 0) else numR code bs 1) := rfl
  have hg := hr.lt
  have HG := Lib.hid hg
  have FR := Lib.hid fr
  obtain ⟨⟨c1, b1, n1⟩, ha⟩ : ∃ a, numR code bs 1 = a := ⟨_, rfl⟩
  rw [show ((1 : Nat) : Int) = 1 from rfl, ha] at hlt
  rw [ha] at C HE
  dsimp only at C HE hlt
  have hN : (n1 : Int) < 256 := by have e : (256 : Nat) ^ 1 = 256 := rfl; omega
  clear ha hlt
  have W0 : Hid (∀ w1, Only (one g) w w1 → w.heap.size ≤ w1.heap.size) := fun w1 o => o.size
  by_cases h8 : 8 < n1
  · have h8' : (8 : Int) < (n1 : Int) := by omega
    have HL : Hid (lenR code bs = (first_ c1 4, b1, 0)) := by rw [Hid, HE.out, if_pos h8]
    have HX : Hid (manyR entR code bs = (first_ c1 4, b1, [])) := by rw [Hid, HM.out, HL.out]; rfl
    clear h8 HE hl1 hl2 hr fr hm hg
    go_enter Tryz.func145, Tryz.ntmps145
    go_wp2_with (first
      | (go_at_call 120; refine C.out.mono ?_; rintro e w1 ⟨rfl, h1, o1⟩; have H1 := Lib.hid h1; have O1 := Lib.hid o1; clear h1 o1)
      | (go_at_call 177; refine (reader_fail g S c1 4 b1 _ H1.out).mono ?_; rintro e w2 ⟨rfl, h2, o2⟩; have H2 := Lib.hid h2; have O2 := Lib.hid (O1.out.trans o2); clear h2 o2))
    go_ret
    rw [HX.out]
    exact ⟨_, rfl, World.ownsRow_nil _ _ _ _, H2.out, O2.out, HG.out, FR.out⟩
  · have h8' : ¬ (8 : Int) < (n1 : Int) := by omega
    have HL : Hid (lenR code bs = (c1, b1, n1)) := by rw [Hid, HE.out, if_neg h8]
    have HX : Hid (manyR entR code bs = listR entR n1 c1 b1) := by rw [Hid, HM.out, HL.out]
    rw [HL.out] at hl1 hl2
    dsimp only at hl1 hl2
    have HB : Hid (∀ i, (listR entR i c1 b1).2.1.length ≤ 140737488355328) := fun i => Nat.le_trans (listR_len entR_len c1 b1 i) (Nat.le_trans hl2 hm)
    have hn8 : (n1 : Int) ≤ 8 := by omega
    clear h8 HE hl2 hr fr hm hg
    go_enter Tryz.func145, Tryz.ntmps145
    go_wp2_with (first
      | (go_at_call 120; refine C.out.mono ?_; rintro e w1 ⟨rfl, h1, o1⟩; have T0 : Hid (Tl enRow 9 147 w g S (.slice none 0 0) [] c1 b1 w1) := ⟨World.ownsRow_nil _ _ _ _, h1, o1, HG.out, FR.out⟩; clear h1 o1))
    go_loopw [6, 16] (fun s6 s16 wr => ∃ i : Nat, i ≤ n1 ∧ s16 = .int .u64 i ∧ Tl enRow 9 147 w g S s6 (listR entR i c1 b1).2.2 (listR entR i c1 b1).1 (listR entR i c1 b1).2.1 wr) (fun _ s16 _ => n1 - (intOf s16).toNat)
    case atStart => exact ⟨0, by omega, rfl, T0.out⟩
    case round =>
      obtain ⟨i, hi, rfl, r⟩ := hrel
      obtain ⟨A1, cp, hs⟩ := r.shape
      subst hs
      have hct := listR_count entR c1 b1 i
      by_cases hlt : i < n1
      · have hlt' : (i : Int) < (n1 : Int) := by omega
        have hiw : IntKind.u64.wrap ((i : Int) + 1) = (i : Int) + 1 := IntWalk.u64_in _ (by omega)
        have HC := Lib.hid (wt_ent g S _ _ wr r.rd (fun b hb => Nat.lt_of_lt_of_le (r.fr b hb) r.ho.size) (HB.out i))
        have HSN : Hid (listR entR (i + 1) c1 b1 = ((entR (listR entR i c1 b1).1 (listR entR i c1 b1).2.1).1, (entR (listR entR i c1 b1).1 (listR entR i c1 b1).2.1).2.1, (listR entR i c1 b1).2.2 ++ [(entR (listR entR i c1 b1).1 (listR entR i c1 b1).2.1).2.2])) := rfl
        obtain ⟨⟨c2, b2, l2⟩, hs2⟩ : ∃ a, listR entR i c1 b1 = a := ⟨_, rfl⟩
        rw [hs2] at hct r HC HSN
        dsimp only at hct r HC HSN
        obtain ⟨⟨c3, b3, x⟩, hs3⟩ : ∃ a, entR c2 b2 = a := ⟨_, rfl⟩
        rw [hs3] at HC HSN
        dsimp only at HC HSN
        rw [hs2]
        dsimp only
        rw [hct]
        have R := Lib.hid r
        have HCT := Lib.hid hct
        have HLN : Hid (i + 1 ≤ maxLen ∧ (i + 1) * 88 ≤ 140737488355328) := by simp only [Hid, maxLen]; omega
        have HONE : Hid (∀ u ∈ enRow x, u.oneCell' = true) := by intro u hu; simp [enRow] at hu; rcases hu with rfl | rfl | rfl | rfl | rfl | rfl | rfl | rfl | rfl <;> rfl
        clear r hct hs2 hs3 HB HX
        go_wp2_with (first
          | (go_at_call 146; refine HC.out.mono ?_; rintro E w3 ⟨rfl, h3, o3⟩
             have R3 := Lib.hid ((R.out.step h3 o3).keep ((Only.refl none_ w3).alloc (.cells #[.string x.k, .string x.v, .bool x.d, .int .i64 x.s.c, .int .i64 x.s.s, .int .i64 x.a.c, .int .i64 x.a.s, .int .i64 x.p, .int .i64 x.g] 147)))
             have C1 : Hid (Cel (w3.alloc (.cells #[.string x.k, .string x.v, .bool x.d, .int .i64 x.s.c, .int .i64 x.s.s, .int .i64 x.a.c, .int .i64 x.a.s, .int .i64 x.p, .int .i64 x.g] 147)) (fun b => b = w3.heap.size) (.slice (some ⟨w3.heap.size, 0, none⟩) 1 1) 1 9 (enRow x)) := cel_made w3 147 9 1 #[.string x.k, .string x.v, .bool x.d, .int .i64 x.s.c, .int .i64 x.s.s, .int .i64 x.a.c, .int .i64 x.a.s, .int .i64 x.p, .int .i64 x.g] rfl (by simp [maxLen])
             clear h3 o3)
          | (at_builtin; refine wpList_append_cel _ rfl (.tmp 18) (.tmp 22) 43 rfl w.heap.size 147 i0 _ 9 88 Tryz.underlying43 hi0 hz0 hz1 hz2 rfl (by omega) (.slice A1 i cp) i _ rfl (by have := R3.out.ow; rw [HCT.out] at this; exact this) _ _ 1 _ rfl C1.out HONE.out HLN.out.1 HLN.out.2 R3.out.ho.size ?_
             intro A5 n5 c5 w5 hown5 hgrow5 hmv5
             have R5 : Hid (Tl enRow 9 147 w g S (.slice A5 n5 c5) (l2 ++ [x]) c3 b3 w5) := R3.out.app x hown5 (by rw [HCT.out]) rfl (by rw [HCT.out]; exact hgrow5)
             clear hown5 hgrow5 hmv5))
        go_roundw
        case rel => exact ⟨i + 1, by omega, by go_num, by rw [HSN.out]; exact R5.out⟩
        case measure => simp [intOf]; omega
      · have hge : ¬ ((i : Int) < (n1 : Int)) := by omega
        obtain rfl : i = n1 := by omega
        have R := Lib.hid r
        clear r hct HB
        go_wp2_with fail
        go_ret
        rw [HX.out]
        exact ⟨_, rfl, R.out⟩
end Go.Proofs.YtlieolehpmobfaaGreatDoor
end
