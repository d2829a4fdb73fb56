/- Texts of mine, one behind the other: EoJ, WiW. No statement of the seat is proved here. -/
import Derived.Test.YtlieolehpmobfaaGreatDoorWr9
import Derived.Deep.RegionHeld3
import Derived.Deep.LoopGhost
import Derived.Test.YtlieolehpmobfaaGreatDoorWr4
import Derived.Deep.DeepCutAuto
import Derived.Deep.Cut
section
namespace Go.Proofs.YtlieolehpmobfaaGreatDoor
open Go.RowKit
set_option maxRecDepth 100000
set_option linter.all false
theorem tri_of {w : World} {g : Nat} {t : TypeId} {a b c : Value} (x : Blk w g t #[a, b, c]) : w.cell? ⟨g, 0, none⟩ = some a ∧ w.cell? ⟨g, 1, none⟩ = some b ∧ w.cell? ⟨g, 2, none⟩ = some c := ⟨x.cell_ rfl, x.cell_ rfl, x.cell_ rfl⟩
theorem trif {w : World} {g : Nat} {t : TypeId} {cs : Array Value} (x : Blk w g t cs) : w.frozen? ⟨g, 0, none⟩ = false ∧ w.frozen? ⟨g, 1, none⟩ = false ∧ w.frozen? ⟨g, 2, none⟩ = false := ⟨x.frozen _, x.frozen _, x.frozen _⟩
theorem results_cell_cell {P : Program} {fn : Func} {p q : Tmp} {ty ty2 : TypeId} (h : fn.results = #[.cell p ty, .cell q ty2]) (tmps : Array Value) (w : World) (g g2 : Nat) (t t2 : TypeId) (cs ds : Array Value) (d d2 : TypeDesc)
    (hp : tmps.getD p undef = .pointer (some ⟨g, 0, none⟩)) (hg : Blk w g t cs) (hq : tmps.getD q undef = .pointer (some ⟨g2, 0, none⟩)) (hg2 : Blk w g2 t2 ds)
    (hu : P.underlying ty = some d) (hd : (match d with | .struct _ | .array _ _ => true | _ => false) = true) (hi : (P.info? ty).map (·.size) = some cs.size)
    (hu2 : P.underlying ty2 = some d2) (hd2 : (match d2 with | .struct _ | .array _ _ => true | _ => false) = true) (hi2 : (P.info? ty2).map (·.size) = some ds.size) :
    (results fn tmps).run P w = .ok (.tuple #[.agg cs, .agg ds]) w := by
  have hp' : tmps[p]?.getD undef = .pointer (some ⟨g, 0, none⟩) := by simpa using hp
  have hq' : tmps[q]?.getD undef = .pointer (some ⟨g2, 0, none⟩) := by simpa using hq
  simp [results, h, hp', hq', asAddr, run_loadVar_row w g t ty cs (0, 0) d hg hu hd hi, run_loadVar_row w g2 t2 ty2 ds (0, 0) d2 hg2 hu2 hd2 hi2]
theorem nArr_cell (f : Nat → Nat) (k j : Nat) (hj : j < 6) : ∃ x, (nArr f k)[j]? = some x := ⟨_, Array.getElem?_eq_getElem (by simp [nArr]; exact hj)⟩
structure Rt (W : World) (cs es : Array Value) (w : World) : Prop where
  c0 : Blk w W.heap.size 169 cs
  c1 : Blk w (W.heap.size + 1) 169 #[.slice none 0 0, .int .i64 0, .int .i64 0]
  e0 : Blk w (W.heap.size + 1 + 1) 123 #[.string ⟨#[]⟩, .string ⟨#[]⟩, .bool false, .int .i64 0, .int .i64 0, .int .i64 0, .int .i64 0, .int .i64 0, .int .i64 0]
  e1 : Blk w (W.heap.size + 1 + 1 + 1) 123 es
  ho : Only none_ W w
section
variable {W w w' : World} {cs es : Array Value}
theorem Rt.new (W : World) (cs es : Array Value) : Rt W cs es ((((W.alloc (.cells cs 169)).alloc (.cells #[.slice none 0 0, .int .i64 0, .int .i64 0] 169)).alloc (.cells #[.string ⟨#[]⟩, .string ⟨#[]⟩, .bool false, .int .i64 0, .int .i64 0, .int .i64 0, .int .i64 0, .int .i64 0, .int .i64 0] 123)).alloc (.cells es 123)) := by
  refine ⟨(((Blk.new W _ cs).alloc _).alloc _).alloc _, ?_, ?_, ?_, ((((Only.refl none_ W).alloc _).alloc _).alloc _).alloc _⟩
  · have := ((Blk.new (W.alloc (.cells cs 169)) 169 #[.slice none 0 0, .int .i64 0, .int .i64 0]).alloc (.cells #[.string ⟨#[]⟩, .string ⟨#[]⟩, .bool false, .int .i64 0, .int .i64 0, .int .i64 0, .int .i64 0, .int .i64 0, .int .i64 0] 123)).alloc (.cells es 123)
    rwa [World.size_alloc] at this
  · have := (Blk.new ((W.alloc (.cells cs 169)).alloc (.cells #[.slice none 0 0, .int .i64 0, .int .i64 0] 169)) 123 #[.string ⟨#[]⟩, .string ⟨#[]⟩, .bool false, .int .i64 0, .int .i64 0, .int .i64 0, .int .i64 0, .int .i64 0, .int .i64 0]).alloc (.cells es 123)
    rwa [World.size_alloc, World.size_alloc] at this
  · have := Blk.new (((W.alloc (.cells cs 169)).alloc (.cells #[.slice none 0 0, .int .i64 0, .int .i64 0] 169)).alloc (.cells #[.string ⟨#[]⟩, .string ⟨#[]⟩, .bool false, .int .i64 0, .int .i64 0, .int .i64 0, .int .i64 0, .int .i64 0, .int .i64 0] 123)) 123 es
    rwa [World.size_alloc, World.size_alloc, World.size_alloc] at this
theorem Rt.keep (r : Rt W cs es w) (o : Only none_ w w') : Rt W cs es w' := ⟨r.c0.only o (fun h => h), r.c1.only o (fun h => h), r.e0.only o (fun h => h), r.e1.only o (fun h => h), r.ho.trans o⟩
theorem Rt.row (r : Rt W cs es w) (z : Array Value) : Rt W z es (w.setRow W.heap.size z) := ⟨r.c0.setRow z, r.c1.setRow_far (by omega) z, r.e0.setRow_far (by omega) z, r.e1.setRow_far (by omega) z, r.ho.setRow (.inr (Nat.le_refl _)) z⟩
theorem Rt.set (r : Rt W cs es w) (i : Nat) (u : Value) : Rt W cs (es.setIfInBounds i u) (w.setCell ⟨W.heap.size + 1 + 1 + 1, i, none⟩ u) :=
  ⟨r.c0.far (p := ⟨W.heap.size + 1 + 1 + 1, i, none⟩) (by show W.heap.size ≠ W.heap.size + 1 + 1 + 1; omega) u, r.c1.far (p := ⟨W.heap.size + 1 + 1 + 1, i, none⟩) (by show W.heap.size + 1 ≠ W.heap.size + 1 + 1 + 1; omega) u, r.e0.far (p := ⟨W.heap.size + 1 + 1 + 1, i, none⟩) (by show W.heap.size + 1 + 1 ≠ W.heap.size + 1 + 1 + 1; omega) u, r.e1.set_ i u, r.ho.setCell (p := ⟨W.heap.size + 1 + 1 + 1, i, none⟩) (.inr (by show W.heap.size ≤ W.heap.size + 1 + 1 + 1; omega)) u⟩
end
structure Rn (W : World) (cs es : Array Value) (g5 : Nat) (ns : Array Value) (w : World) : Prop where
  t : Rt W cs es w
  n0 : Blk w g5 286 ns
  w0 : Blk w (g5 + 1) 287 #[.int .i64 4, .int .i64 1, .int .i64 4, .int .i64 1, .int .i64 2, .int .i64 4]
  ge : W.heap.size + 1 + 1 + 1 < g5
section
variable {W w w' : World} {cs es ns : Array Value} {g5 : Nat}
theorem Rn.keep (r : Rn W cs es g5 ns w) (o : Only none_ w w') : Rn W cs es g5 ns w' := ⟨r.t.keep o, r.n0.only o (fun h => h), r.w0.only o (fun h => h), r.ge⟩
theorem Rn.row (r : Rn W cs es g5 ns w) (z : Array Value) : Rn W z es g5 ns (w.setRow W.heap.size z) := ⟨r.t.row z, r.n0.setRow_far (by have := r.ge; omega) z, r.w0.setRow_far (by have := r.ge; omega) z, r.ge⟩
theorem Rn.ent (r : Rn W cs es g5 ns w) (i : Nat) (u : Value) : Rn W cs (es.setIfInBounds i u) g5 ns (w.setCell ⟨W.heap.size + 1 + 1 + 1, i, none⟩ u) := by
  have hg := r.ge
  exact ⟨r.t.set i u, r.n0.far (p := ⟨W.heap.size + 1 + 1 + 1, i, none⟩) (by show g5 ≠ W.heap.size + 1 + 1 + 1; omega) u, r.w0.far (p := ⟨W.heap.size + 1 + 1 + 1, i, none⟩) (by show g5 + 1 ≠ W.heap.size + 1 + 1 + 1; omega) u, hg⟩
theorem wd_four (i : Nat) : wd i ≤ 4 := by
  unfold wd
  rcases i with _ | _ | _ | _ | _ | _ | i <;> simp
theorem Rn.set (r : Rn W cs es g5 ns w) (i : Nat) (u : Value) : Rn W cs es g5 (ns.setIfInBounds i u) (w.setCell ⟨g5, i, none⟩ u) := by
  have hg := r.ge
  exact ⟨⟨r.t.c0.far (p := ⟨g5, i, none⟩) (by show W.heap.size ≠ g5; omega) u, r.t.c1.far (p := ⟨g5, i, none⟩) (by show W.heap.size + 1 ≠ g5; omega) u, r.t.e0.far (p := ⟨g5, i, none⟩) (by show W.heap.size + 1 + 1 ≠ g5; omega) u, r.t.e1.far (p := ⟨g5, i, none⟩) (by show W.heap.size + 1 + 1 + 1 ≠ g5; omega) u,
    r.t.ho.setCell (p := ⟨g5, i, none⟩) (.inr (by show W.heap.size ≤ g5; omega)) u⟩, r.n0.set_ i u, r.w0.far (p := ⟨g5, i, none⟩) (by show g5 + 1 ≠ g5; omega) u, hg⟩
end
theorem atw {P : Program} {ops : Array Oper} {Q : Exit → Act → World → Prop} {l : List Oper} {a : Act} (w : World) (h : wpList P ops Q l a w) : wpList P ops Q l a w := h
theorem wpl_load_g {P : Program} {ops : Array Oper} {rest : List Oper} {o : Oper} {a : Act} {w : World} {Q : Exit → Act → World → Prop} (hw : Region.wanted o (yielded ops a.tmps) = true) (ty : TypeId) (x : Operand) (ho : o.op = .load ty x)
    (g : Nat) (hx : a.eval x = .pointer (some ⟨g, 0, none⟩)) (t : TypeId) (cs : Array Value) (d : TypeDesc) (hg : Blk w g t cs)
    (hu : P.underlying ty = some d) (hd : (match d with | .struct _ | .array _ _ => true | _ => false) = true) (hi : (P.info? ty).map (·.size) = some cs.size)
    (h : wpList P ops Q rest (a.put o.dst (.agg cs)) w) : wpList P ops Q (o :: rest) a w := by
  show (if Region.wanted o (yielded ops a.tmps) then o.wp P a w (wpList P ops Q rest) Q ∨ _ else _)
  rw [if_pos hw]
  exact .inl (wp_load_row ty x ho g hx t cs (0, 0) d hg hu hd hi h)
structure Fb (W : World) (cs es ds fs : Array Value) (w : World) : Prop where
  c0 : Blk w W.heap.size 169 cs
  c1 : Blk w (W.heap.size + 1) 169 ds
  e0 : Blk w (W.heap.size + 1 + 1) 123 fs
  e1 : Blk w (W.heap.size + 1 + 1 + 1) 123 es
  ho : Only none_ W w
section
variable {W w w' : World} {cs es ds fs : Array Value}
theorem Fb.keep (r : Fb W cs es ds fs w) (o : Only none_ w w') : Fb W cs es ds fs w' := ⟨r.c0.only o (fun h => h), r.c1.only o (fun h => h), r.e0.only o (fun h => h), r.e1.only o (fun h => h), r.ho.trans o⟩
theorem Fb.fillC (r : Fb W cs es ds fs w) (x y z : Value) (hd : ds.size = 3 := by rfl) : Fb W cs es #[x, y, z] fs (((w.setCell ⟨W.heap.size + 1, 0, none⟩ x).setCell ⟨W.heap.size + 1, 1, none⟩ y).setCell ⟨W.heap.size + 1, 2, none⟩ z) := by
  have hds : ((ds.setIfInBounds 0 x).setIfInBounds 1 y).setIfInBounds 2 z = #[x, y, z] := by
    rcases ds with ⟨_ | ⟨a, _ | ⟨b, _ | ⟨c, _ | ⟨d, l⟩⟩⟩⟩⟩ <;> simp_all
  have c1 := ((r.c1.set_ 0 x).set_ 1 y).set_ 2 z
  rw [hds] at c1
  exact ⟨((r.c0.far (p := ⟨W.heap.size + 1, 0, none⟩) (by show W.heap.size ≠ W.heap.size + 1; omega) x).far (p := ⟨W.heap.size + 1, 1, none⟩) (by show W.heap.size ≠ W.heap.size + 1; omega) y).far (p := ⟨W.heap.size + 1, 2, none⟩) (by show W.heap.size ≠ W.heap.size + 1; omega) z, c1,
    ((r.e0.far (p := ⟨W.heap.size + 1, 0, none⟩) (by show W.heap.size + 1 + 1 ≠ W.heap.size + 1; omega) x).far (p := ⟨W.heap.size + 1, 1, none⟩) (by show W.heap.size + 1 + 1 ≠ W.heap.size + 1; omega) y).far (p := ⟨W.heap.size + 1, 2, none⟩) (by show W.heap.size + 1 + 1 ≠ W.heap.size + 1; omega) z,
    ((r.e1.far (p := ⟨W.heap.size + 1, 0, none⟩) (by show W.heap.size + 1 + 1 + 1 ≠ W.heap.size + 1; omega) x).far (p := ⟨W.heap.size + 1, 1, none⟩) (by show W.heap.size + 1 + 1 + 1 ≠ W.heap.size + 1; omega) y).far (p := ⟨W.heap.size + 1, 2, none⟩) (by show W.heap.size + 1 + 1 + 1 ≠ W.heap.size + 1; omega) z,
    ((r.ho.setCell (p := ⟨W.heap.size + 1, 0, none⟩) (.inr (by show W.heap.size ≤ W.heap.size + 1; omega)) x).setCell (p := ⟨W.heap.size + 1, 1, none⟩) (.inr (by show W.heap.size ≤ W.heap.size + 1; omega)) y).setCell (p := ⟨W.heap.size + 1, 2, none⟩) (.inr (by show W.heap.size ≤ W.heap.size + 1; omega)) z⟩
theorem Fb.fillE (r : Fb W cs es ds #[.string ⟨#[]⟩, .string ⟨#[]⟩, .bool false, .int .i64 0, .int .i64 0, .int .i64 0, .int .i64 0, .int .i64 0, .int .i64 0] w) (a0 a1 a2 a3 a4 a5 a6 a7 a8 : Value) : Fb W cs es ds #[a0, a1, a2, a3, a4, a5, a6, a7, a8] (fill9 w (W.heap.size + 1 + 1) a0 a1 a2 a3 a4 a5 a6 a7 a8) :=
  ⟨fill9_far r.c0 (by omega) a0 a1 a2 a3 a4 a5 a6 a7 a8, fill9_far r.c1 (by omega) a0 a1 a2 a3 a4 a5 a6 a7 a8, fill9_blk r.e0 a0 a1 a2 a3 a4 a5 a6 a7 a8, fill9_far r.e1 (by omega) a0 a1 a2 a3 a4 a5 a6 a7 a8, fill9_only r.ho (.inr (by omega)) a0 a1 a2 a3 a4 a5 a6 a7 a8⟩
theorem Fb.rowC (r : Fb W cs es ds fs w) (z : Array Value) : Fb W cs es z fs (w.setRow (W.heap.size + 1) z) := ⟨r.c0.setRow_far (by omega) z, r.c1.setRow z, r.e0.setRow_far (by omega) z, r.e1.setRow_far (by omega) z, r.ho.setRow (.inr (by omega)) z⟩
theorem Fb.rowE (r : Fb W cs es ds fs w) (z : Array Value) : Fb W cs es ds z (w.setRow (W.heap.size + 1 + 1) z) := ⟨r.c0.setRow_far (by omega) z, r.c1.setRow_far (by omega) z, r.e0.setRow z, r.e1.setRow_far (by omega) z, r.ho.setRow (.inr (by omega)) z⟩
theorem Fb.cur (r : Fb W cs es ds fs w) (i : Nat) (u : Value) : Fb W (cs.setIfInBounds i u) es ds fs (w.setCell ⟨W.heap.size, i, none⟩ u) :=
  ⟨r.c0.set_ i u, r.c1.far (p := ⟨W.heap.size, i, none⟩) (by show W.heap.size + 1 ≠ W.heap.size; omega) u, r.e0.far (p := ⟨W.heap.size, i, none⟩) (by show W.heap.size + 1 + 1 ≠ W.heap.size; omega) u, r.e1.far (p := ⟨W.heap.size, i, none⟩) (by show W.heap.size + 1 + 1 + 1 ≠ W.heap.size; omega) u, r.ho.setCell (p := ⟨W.heap.size, i, none⟩) (.inr (by show W.heap.size ≤ W.heap.size; omega)) u⟩
end
set_option maxHeartbeats 25600000 in
theorem rf_take (A : Option Addr) (c p0 : Nat) (bs r : List UInt8) (err : Int) (S : Nat → Prop) (w : World) (h : Byt w S (.slice A bs.length c) bs) (hS : ∀ b, S b → b < w.heap.size) (hr : Rest bs r) (hp0 : p0 = bs.length - r.length) (hL : bs.length ≤ 100000) :
    Calls Tryz.prog 187 #[.agg #[.slice A bs.length c, .int .i64 (p0 : Int), .int .i64 err]] w fun E w' =>
      ∃ q : Nat, E = .returned (.tuple #[.agg #[.slice A bs.length c, .int .i64 (q : Int), .int .i64 (takeC err r)], .agg #[.string (takeE err r).k, .string (takeE err r).v, .bool (takeE err r).d, .int .i64 (takeE err r).s.c, .int .i64 (takeE err r).s.s, .int .i64 (takeE err r).a.c, .int .i64 (takeE err r).a.s, .int .i64 (takeE err r).p, .int .i64 (takeE err r).g]]) ∧ q = bs.length - (takeB err r).length ∧ Rest bs (takeB err r) ∧ Only none_ w w' := by
  obtain ⟨L, hLL⟩ : ∃ L, bs.length = L := ⟨_, rfl⟩
  have HT1 := fun w' (o : Only none_ w w') => rest_text (err := err) (h.only o (fun _ _ h => h)) (fun b hb => Nat.lt_of_lt_of_le (hS b hb) o.size) hr hL p0 hp0 16
  have HT2 := fun w' r' e' p' (hr' : Rest bs r') (hp' : p' = bs.length - r'.length) (o : Only none_ w w') => rest_flag (err := e') (h.only o (fun _ _ h => h)) (fun b hb => Nat.lt_of_lt_of_le (hS b hb) o.size) hr' hL p' hp'
  have HT3 := fun w' r' e' p' (hr' : Rest bs r') (hp' : p' = bs.length - r'.length) (o : Only none_ w w') => rest_text (err := e') (h.only o (fun _ _ h => h)) (fun b hb => Nat.lt_of_lt_of_le (hS b hb) o.size) hr' hL p' hp' 32
  have HT4 := fun w' r' e' p' j (hr' : Rest bs r') (hp' : p' = bs.length - r'.length) (o : Only none_ w w') => rest_take (err := e') (h.only o (fun _ _ h => h)) (fun b hb => Nat.lt_of_lt_of_le (hS b hb) o.size) hr' hL p' hp' (wd j : Int) (wd_small j)
  rw [hLL] at HT1 HT2 HT3 HT4 ⊢
  obtain ⟨a1, h1⟩ : ∃ a, textR err r 16 = a := ⟨_, rfl⟩
  obtain ⟨a2, h2⟩ : ∃ a, flagR a1.1 a1.2.1 = a := ⟨_, rfl⟩
  obtain ⟨a3, h3⟩ : ∃ a, textR a2.1 a2.2.1 32 = a := ⟨_, rfl⟩
  obtain ⟨f1, f2, f3⟩ := fields_curs err r a1 a2 a3 h1 h2 h3
  have H1 := Lib.hid h1
  have H2 := Lib.hid h2
  have H3 := Lib.hid h3
  have HF := Lib.hid (And.intro f1 (And.intro f2 f3))
  have K1 := Lib.hid HT1
  have K2 := Lib.hid HT2
  have K3 := Lib.hid HT3
  have K4 := Lib.hid HT4
  have R0 := Lib.hid (Rt.new w #[.slice A L c, .int .i64 (p0 : Int), .int .i64 err] #[.string ⟨#[]⟩, .string ⟨#[]⟩, .bool false, .int .i64 0, .int .i64 0, .int .i64 0, .int .i64 0, .int .i64 0, .int .i64 0])
  have y0 := tri_of R0.out.c0
  clear h hS hr hp0 hL hLL HT1 HT2 HT3 HT4 h1 h2 h3 f1 f2 f3
  have tok1 : True := trivial
  go_enter Tryz.func187, Tryz.ntmps187
  go_wp2_with (first
    | (go_at_call 243; have _t := tok1; clear tok1; refine (K1.out _ R0.out.ho).mono ?_; rw [H1.out]; rintro E w1 ⟨p1, rfl, hq, hr, o⟩
       have q1 := Lib.hid hq
       have r1 := Lib.hid hr
       have R1 := Lib.hid (R0.out.keep o)
       clear hq hr o)
    | (refine wpList_store_row rfl 169 _ _ rfl w.heap.size #[.slice A L c, .int .i64 (p1 : Int), .int .i64 a1.1] rfl rfl 169 _ R1.out.c0 (by kernel_rfl) rfl (by simp [Value.oneCell']) ?_
       have Rr : Hid (Rt w #[.slice A L c, .int .i64 (p1 : Int), .int .i64 a1.1] #[.string ⟨#[]⟩, .string ⟨#[]⟩, .bool false, .int .i64 0, .int .i64 0, .int .i64 0, .int .i64 0, .int .i64 0, .int .i64 0] (w1.setRow w.heap.size #[.slice A L c, .int .i64 (p1 : Int), .int .i64 a1.1])) := R1.out.row #[.slice A L c, .int .i64 (p1 : Int), .int .i64 a1.1]
       clear R1
       generalize w1.setRow w.heap.size #[.slice A L c, .int .i64 (p1 : Int), .int .i64 a1.1] = u1 at *
       have z1 := Rr.out.e1.frozen 0
       have x1 := Rr.out.e1.cell_ (i := 0) rfl
       have R1s : Hid (Rt w #[.slice A L c, .int .i64 (p1 : Int), .int .i64 a1.1] #[.string ⟨a1.2.2.toArray⟩, .string ⟨#[]⟩, .bool false, .int .i64 0, .int .i64 0, .int .i64 0, .int .i64 0, .int .i64 0, .int .i64 0] (u1.setCell ⟨w.heap.size + 1 + 1 + 1, 0, none⟩ (.string ⟨a1.2.2.toArray⟩))) := Rr.out.set 0 _
       have y1 := tri_of R1s.out.c0
       clear Rr
       have tok2 : True := trivial)
    | (go_at_call 184; have _t := tok2; clear tok2; refine (K2.out _ _ _ _ r1.out q1.out R1s.out.ho).mono ?_; rw [H2.out]; rintro E w2 ⟨p2, rfl, hq, hr, o⟩
       have q2 := Lib.hid hq
       have r2 := Lib.hid hr
       have R2 := Lib.hid (R1s.out.keep o)
       clear hq hr o)
    | (refine wpList_store_row rfl 169 _ _ rfl w.heap.size #[.slice A L c, .int .i64 (p2 : Int), .int .i64 a2.1] rfl rfl 169 _ R2.out.c0 (by kernel_rfl) rfl (by simp [Value.oneCell']) ?_
       have Rr : Hid (Rt w #[.slice A L c, .int .i64 (p2 : Int), .int .i64 a2.1] #[.string ⟨a1.2.2.toArray⟩, .string ⟨#[]⟩, .bool false, .int .i64 0, .int .i64 0, .int .i64 0, .int .i64 0, .int .i64 0, .int .i64 0] (w2.setRow w.heap.size #[.slice A L c, .int .i64 (p2 : Int), .int .i64 a2.1])) := R2.out.row #[.slice A L c, .int .i64 (p2 : Int), .int .i64 a2.1]
       clear R2
       generalize w2.setRow w.heap.size #[.slice A L c, .int .i64 (p2 : Int), .int .i64 a2.1] = u2 at *
       have z2 := Rr.out.e1.frozen 2
       have x2 := Rr.out.e1.cell_ (i := 2) rfl
       have R2s : Hid (Rt w #[.slice A L c, .int .i64 (p2 : Int), .int .i64 a2.1] #[.string ⟨a1.2.2.toArray⟩, .string ⟨#[]⟩, .bool a2.2.2, .int .i64 0, .int .i64 0, .int .i64 0, .int .i64 0, .int .i64 0, .int .i64 0] (u2.setCell ⟨w.heap.size + 1 + 1 + 1, 2, none⟩ (.bool a2.2.2))) := Rr.out.set 2 _
       have y2 := tri_of R2s.out.c0
       clear Rr
       have tok3 : True := trivial)
    | (go_at_call 243; have _t := tok3; clear tok3; refine (K3.out _ _ _ _ r2.out q2.out R2s.out.ho).mono ?_; rw [H3.out]; rintro E w3 ⟨p3, rfl, hq, hr, o⟩
       have q3 := Lib.hid hq
       have r3 := Lib.hid hr
       have R3 := Lib.hid (R2s.out.keep o)
       clear hq hr o)
    | (refine wpList_store_row rfl 169 _ _ rfl w.heap.size #[.slice A L c, .int .i64 (p3 : Int), .int .i64 a3.1] rfl rfl 169 _ R3.out.c0 (by kernel_rfl) rfl (by simp [Value.oneCell']) ?_
       have Rr : Hid (Rt w #[.slice A L c, .int .i64 (p3 : Int), .int .i64 a3.1] #[.string ⟨a1.2.2.toArray⟩, .string ⟨#[]⟩, .bool a2.2.2, .int .i64 0, .int .i64 0, .int .i64 0, .int .i64 0, .int .i64 0, .int .i64 0] (w3.setRow w.heap.size #[.slice A L c, .int .i64 (p3 : Int), .int .i64 a3.1])) := R3.out.row #[.slice A L c, .int .i64 (p3 : Int), .int .i64 a3.1]
       clear R3
       generalize w3.setRow w.heap.size #[.slice A L c, .int .i64 (p3 : Int), .int .i64 a3.1] = u3 at *
       have z3 := Rr.out.e1.frozen 1
       have x3 := Rr.out.e1.cell_ (i := 1) rfl
       have R3s : Hid (Rt w #[.slice A L c, .int .i64 (p3 : Int), .int .i64 a3.1] #[.string ⟨a1.2.2.toArray⟩, .string ⟨a3.2.2.toArray⟩, .bool a2.2.2, .int .i64 0, .int .i64 0, .int .i64 0, .int .i64 0, .int .i64 0, .int .i64 0] (u3.setCell ⟨w.heap.size + 1 + 1 + 1, 1, none⟩ (.string ⟨a3.2.2.toArray⟩))) := Rr.out.set 1 _
       have y3 := tri_of R3s.out.c0
       clear Rr
       have tok4 : True := trivial))
  have hsz : (u3.setCell ⟨w.heap.size + 1 + 1 + 1, 1, none⟩ (.string ⟨a3.2.2.toArray⟩)).heap.size = u3.heap.size := by simp
  have hge : w.heap.size + 1 + 1 + 1 < u3.heap.size := by rw [← hsz]; exact R3s.out.e1.lt
  have N0 : Hid (Rn w #[.slice A L c, .int .i64 (p3 : Int), .int .i64 a3.1] #[.string ⟨a1.2.2.toArray⟩, .string ⟨a3.2.2.toArray⟩, .bool a2.2.2, .int .i64 0, .int .i64 0, .int .i64 0, .int .i64 0, .int .i64 0, .int .i64 0] u3.heap.size (nArr (vals a3.1 a3.2.1) 0) (((u3.setCell ⟨w.heap.size + 1 + 1 + 1, 1, none⟩ (.string ⟨a3.2.2.toArray⟩)).alloc (.cells #[.int .u64 0, .int .u64 0, .int .u64 0, .int .u64 0, .int .u64 0, .int .u64 0] 286)).alloc (.cells #[.int .i64 4, .int .i64 1, .int .i64 4, .int .i64 1, .int .i64 2, .int .i64 4] 287))) := by
    refine ⟨R3s.out.keep (((Only.refl none_ _).alloc _).alloc _), ?_, ?_, hge⟩
    · have := (Blk.new (u3.setCell ⟨w.heap.size + 1 + 1 + 1, 1, none⟩ (.string ⟨a3.2.2.toArray⟩)) 286 #[.int .u64 0, .int .u64 0, .int .u64 0, .int .u64 0, .int .u64 0, .int .u64 0]).alloc (.cells #[.int .i64 4, .int .i64 1, .int .i64 4, .int .i64 1, .int .i64 2, .int .i64 4] 287)
      rw [hsz] at this
      exact this
    · have := Blk.new ((u3.setCell ⟨w.heap.size + 1 + 1 + 1, 1, none⟩ (.string ⟨a3.2.2.toArray⟩)).alloc (.cells #[.int .u64 0, .int .u64 0, .int .u64 0, .int .u64 0, .int .u64 0, .int .u64 0] 286)) 287 #[.int .i64 4, .int .i64 1, .int .i64 4, .int .i64 1, .int .i64 2, .int .i64 4]
      rw [World.size_alloc, hsz] at this
      exact this
  clear hsz hge x1 x3 z1 z3 y1 y3 y0 x2 z2 y2
  generalize u3.heap.size = g5 at *
  generalize Value.tuple #[.agg #[.slice A L c, .int .i64 (p1 : Int), .int .i64 a1.1], .string ⟨a1.2.2.toArray⟩] = zz0
  generalize Value.tuple #[.agg #[.slice A L c, .int .i64 (p2 : Int), .int .i64 a2.1], .bool a2.2.2] = zz1
  generalize Value.tuple #[.agg #[.slice A L c, .int .i64 (p3 : Int), .int .i64 a3.1], .string ⟨a3.2.2.toArray⟩] = zz2
  generalize Value.agg #[.slice A L c, .int .i64 (p0 : Int), .int .i64 err] = zz3
  generalize Value.agg #[.slice A L c, .int .i64 (p1 : Int), .int .i64 a1.1] = zz4
  generalize Value.agg #[.slice A L c, .int .i64 (p2 : Int), .int .i64 a2.1] = zz5
  generalize Value.agg #[.slice A L c, .int .i64 (p3 : Int), .int .i64 a3.1] = zz6
  generalize Value.agg #[.string ⟨#[]⟩, .string ⟨#[]⟩, .bool false, .int .i64 0, .int .i64 0, .int .i64 0, .int .i64 0, .int .i64 0, .int .i64 0] = zz7
  generalize Value.agg #[.int .u64 0, .int .u64 0, .int .u64 0, .int .u64 0, .int .u64 0, .int .u64 0] = zz8
  generalize Value.agg #[.int .i64 4, .int .i64 1, .int .i64 4, .int .i64 1, .int .i64 2, .int .i64 4] = zz9
  go_loopw [7] (fun i wr => ∃ j : Nat, j ≤ 6 ∧ i = .int .i64 j ∧ ∃ p : Nat, p = L - (curs a3.1 a3.2.1 j).2.length ∧ Rest bs (curs a3.1 a3.2.1 j).2 ∧ Rn w #[.slice A L c, .int .i64 (p : Int), .int .i64 (curs a3.1 a3.2.1 j).1] #[.string ⟨a1.2.2.toArray⟩, .string ⟨a3.2.2.toArray⟩, .bool a2.2.2, .int .i64 0, .int .i64 0, .int .i64 0, .int .i64 0, .int .i64 0, .int .i64 0] g5 (nArr (vals a3.1 a3.2.1) j) wr) (fun i _ => 6 - (intOf i).toNat)
  case atStart => exact ⟨0, by omega, rfl, p3, q3.out, r3.out, N0.out⟩
  case round =>
    obtain ⟨j, hj, rfl, p, hp, hrs, hn⟩ := hrel
    by_cases hlb : j < 6
    · have KT := K4.out
      have E1 : Hid (curs a3.1 a3.2.1 (j + 1) = ((numR (curs a3.1 a3.2.1 j).1 (curs a3.1 a3.2.1 j).2 (wd j : Int)).1, (numR (curs a3.1 a3.2.1 j).1 (curs a3.1 a3.2.1 j).2 (wd j : Int)).2.1)) := rfl
      have E2 : Hid (vals a3.1 a3.2.1 j = (numR (curs a3.1 a3.2.1 j).1 (curs a3.1 a3.2.1 j).2 (wd j : Int)).2.2) := rfl
      obtain ⟨ej, hej⟩ : ∃ x, (curs a3.1 a3.2.1 j).1 = x := ⟨_, rfl⟩
      obtain ⟨rj, hrj⟩ : ∃ x, (curs a3.1 a3.2.1 j).2 = x := ⟨_, rfl⟩
      rw [hej, hrj] at E1 E2
      rw [hrj] at hp hrs
      rw [hej] at hn
      obtain ⟨NN, hNN⟩ : ∃ x, numR ej rj (wd j : Int) = x := ⟨_, rfl⟩
      rw [hNN] at E1 E2
      have HNN := Lib.hid hNN
      have ns := nArr_set (vals a3.1 a3.2.1) j hlb
      rw [E2.out] at ns
      have NS := Lib.hid ns
      clear ns
      obtain ⟨zn, hzn⟩ := nArr_cell (vals a3.1 a3.2.1) j j hlb
      have ZN := Lib.hid hzn
      clear hzn
      have KA := Lib.hid (fun w' o => KT w' rj ej p j hrs hp o)
      rw [hNN] at KA
      have D0 := Lib.hid (hn.keep (Only.refl none_ wr).drew)
      have y0 := tri_of D0.out.t.c0
      have x0 := wd_cell D0.out.w0 j hlb
      have D1 := Lib.hid (hn.keep ((Only.refl none_ wr).alloc (.cells #[.slice none 0 0, .int .i64 0, .int .i64 0] 169)).drew)
      have y1 := tri_of D1.out.t.c0
      have x1 := wd_cell D1.out.w0 j hlb
      have B1 := Lib.hid (Blk.new wr 169 #[.slice none 0 0, .int .i64 0, .int .i64 0]).drew
      obtain ⟨wj, hwj⟩ : ∃ x, (wd j : Int) = x := ⟨_, rfl⟩
      rw [hwj] at x0 x1 KA
      have HWJ := Lib.hid hwj
      have HLB := Lib.hid hlb
      have HNK := Lib.hid (fun w' (o : Only none_ wr w') => hn.keep o)
      clear hp hrs hn hej hrj hNN KT hwj
      go_wp2_with fail
      go_region_held3 (fun w' => w'.cell? ⟨w.heap.size, 0, none⟩ = some (.slice A L c) ∧ w'.cell? ⟨w.heap.size, 1, none⟩ = some (.int .i64 (p : Int)) ∧ w'.cell? ⟨w.heap.size, 2, none⟩ = some (.int .i64 ej) ∧ w'.cell? ⟨g5 + 1, j, none⟩ = some (.int .i64 wj))
        (first | with_reducible exact ⟨y0.1, y0.2.1, y0.2.2, x0⟩ | with_reducible exact ⟨y1.1, y1.2.1, y1.2.2, x1⟩ | with_reducible exact ⟨y2.1, y2.2.1, y2.2.2, x2⟩ | with_reducible exact ⟨y2z.1, y2z.2.1, y2z.2.2, x2z⟩ | with_reducible exact ⟨y3.1, y3.2.1, y3.2.2, x3⟩ | with_reducible exact ⟨y3z.1, y3z.2.1, y3z.2.2, x3z⟩ | with_reducible exact ⟨y2s.1, y2s.2.1, y2s.2.2, x2s⟩ | with_reducible exact ⟨y2t.1, y2t.2.1, y2t.2.2, x2t⟩)
        (first
          | (go_at_call 183; with_reducible refine (KA.out wr.drew D0.out.t.ho).mono ?_; rintro E w2 ⟨pn, rfl, hpn, hrn, o⟩
             have D2 := Lib.hid (D0.out.keep o)
             have y2 := tri_of D2.out.t.c0
             have x2 := wd_cell D2.out.w0 j HLB.out
             rw [HWJ.out] at x2
             have D2z := Lib.hid (D2.out.keep ((Only.refl none_ w2).alloc (.cells #[.slice none 0 0, .int .i64 0, .int .i64 0] 169)))
             have y2z := tri_of D2z.out.t.c0
             have x2z := wd_cell D2z.out.w0 j HLB.out
             rw [HWJ.out] at x2z
             have D2s := Lib.hid (D2.out.keep ((Only.refl none_ w2).alloc (.cells #[.slice A L c, .int .i64 (pn : Int), .int .i64 NN.1] 169)))
             have y2s := tri_of D2s.out.t.c0
             have x2s := wd_cell D2s.out.w0 j HLB.out
             rw [HWJ.out] at x2s
             have nb2 := tri_of (Blk.new w2 169 #[.slice A L c, .int .i64 (pn : Int), .int .i64 NN.1])
             have D2t := Lib.hid (D2.out.keep (((((Only.refl none_ w2).alloc (.cells #[.slice none 0 0, .int .i64 0, .int .i64 0] 169)).setCell (p := ⟨w2.heap.size, 0, none⟩) (.inr (Nat.le_refl _)) (.slice A L c)).setCell (p := ⟨w2.heap.size, 1, none⟩) (.inr (Nat.le_refl _)) (.int .i64 (pn : Int))).setCell (p := ⟨w2.heap.size, 2, none⟩) (.inr (Nat.le_refl _)) (.int .i64 NN.1)))
             have y2t := tri_of D2t.out.t.c0
             have x2t := wd_cell D2t.out.w0 j HLB.out
             rw [HWJ.out] at x2t
             have PN := Lib.hid (And.intro hpn hrn)
             clear o hpn hrn)
          | (go_at_call 183; with_reducible refine (KA.out (wr.alloc (.cells #[.slice none 0 0, .int .i64 0, .int .i64 0] 169)).drew D1.out.t.ho).mono ?_; rintro E w3 ⟨pn, rfl, hpn, hrn, o⟩
             have D3 := Lib.hid (D1.out.keep o)
             have y3 := tri_of D3.out.t.c0
             have x3 := wd_cell D3.out.w0 j HLB.out
             rw [HWJ.out] at x3
             have B3 := Lib.hid (B1.out.only o (fun h => h))
             have b3 := tri_of B3.out
             have bz3 := trif B3.out
             have nb3 := tri_of (((B3.out.set_ 0 (.slice A L c)).set_ 1 (.int .i64 (pn : Int))).set_ 2 (.int .i64 NN.1))
             have D3z := Lib.hid (HNK.out _ (((((((Only.refl none_ wr).alloc (.cells #[.slice none 0 0, .int .i64 0, .int .i64 0] 169)).drew).trans o).setCell (p := ⟨wr.heap.size, 0, none⟩) (.inr (Nat.le_refl _)) (.slice A L c)).setCell (p := ⟨wr.heap.size, 1, none⟩) (.inr (Nat.le_refl _)) (.int .i64 (pn : Int))).setCell (p := ⟨wr.heap.size, 2, none⟩) (.inr (Nat.le_refl _)) (.int .i64 NN.1)))
             have y3z := tri_of D3z.out.t.c0
             have x3z := wd_cell D3z.out.w0 j HLB.out
             rw [HWJ.out] at x3z
             have PN := Lib.hid (And.intro hpn hrn)
             clear o hpn hrn))
      · clear ‹_ ∧ _ ∧ _ ∧ _›
        go_wp2_with (first
          | (refine wpList_store_row rfl 169 _ _ rfl w.heap.size #[.slice A L c, .int .i64 (pn : Int), .int .i64 NN.1] rfl rfl 169 _ D2s.out.t.c0 (by kernel_rfl) rfl (by simp [Value.oneCell']) ?_
             have RR := Lib.hid (D2s.out.row #[.slice A L c, .int .i64 (pn : Int), .int .i64 NN.1])
             have rz := RR.out.n0.cell_ ZN.out
             have rf := RR.out.n0.frozen j))
        go_roundw
        case rel =>
          have hh := RR.out.set j (.int .u64 (NN.2.2 : Int))
          rw [NS.out] at hh
          refine ⟨j + 1, by omega, by go_num, pn, ?_, ?_, ?_⟩
          · rw [E1.out]; exact PN.out.1
          · rw [E1.out]; exact PN.out.2
          · rw [E1.out]; exact hh
        case measure => simp [intOf]; omega
      · clear ‹_ ∧ _ ∧ _ ∧ _›
        go_wp2_with (first
          | (refine wpList_store_row rfl 169 _ _ rfl w.heap.size #[.slice A L c, .int .i64 (pn : Int), .int .i64 NN.1] rfl rfl 169 _ D3z.out.t.c0 (by kernel_rfl) rfl (by simp [Value.oneCell']) ?_
             have RR := Lib.hid (D3z.out.row #[.slice A L c, .int .i64 (pn : Int), .int .i64 NN.1])
             have rz := RR.out.n0.cell_ ZN.out
             have rf := RR.out.n0.frozen j))
        go_roundw
        case rel =>
          have hh := RR.out.set j (.int .u64 (NN.2.2 : Int))
          rw [NS.out] at hh
          refine ⟨j + 1, by omega, by go_num, pn, ?_, ?_, ?_⟩
          · rw [E1.out]; exact PN.out.1
          · rw [E1.out]; exact PN.out.2
          · rw [E1.out]; exact hh
        case measure => simp [intOf]; omega
    · have hj6 : j = 6 := by omega
      subst hj6
      obtain ⟨q, hq⟩ : ∃ x, curs a3.1 a3.2.1 6 = x := ⟨_, rfl⟩
      rw [hq] at hp hrs hn
      rw [nArr_six] at hn
      have hv : ∀ i, vals a3.1 a3.2.1 i < 4294967296 := fun i => Nat.lt_of_lt_of_le (numR_lt _ _ (wd i)) (Nat.le_trans (Nat.pow_le_pow_right (by omega) (wd_four i)) (by decide))
      obtain ⟨f, hf⟩ : ∃ x, vals a3.1 a3.2.1 = x := ⟨_, rfl⟩
      obtain ⟨hf1, hf2, hf3⟩ := HF.out
      rw [hq] at hf2 hf3
      have hd1 : takeC err r = if enCheck (fieldsF err r).en = 0 then (fieldsF err r).a7.1 else first_ (fieldsF err r).a7.1 4 := rfl
      have hd2 : takeB err r = (fieldsF err r).a7.2.1 := rfl
      have hd3 : takeE err r = if takeC err r = 0 then (fieldsF err r).en else enZero := rfl
      rw [hf1, hf2] at hd1
      rw [hf3] at hd2
      rw [hf1] at hd3
      rw [hf] at hn hv hd1 hd3
      obtain ⟨n0, m0⟩ : ∃ x, (f 0 : Int) = x := ⟨_, rfl⟩
      obtain ⟨n1, m1⟩ : ∃ x, (f 1 : Int) = x := ⟨_, rfl⟩
      obtain ⟨n2, m2⟩ : ∃ x, (f 2 : Int) = x := ⟨_, rfl⟩
      obtain ⟨n3, m3⟩ : ∃ x, (f 3 : Int) = x := ⟨_, rfl⟩
      obtain ⟨n4, m4⟩ : ∃ x, (f 4 : Int) = x := ⟨_, rfl⟩
      obtain ⟨n5, m5⟩ : ∃ x, (f 5 : Int) = x := ⟨_, rfl⟩
      have cv0 : IntKind.i64.wrap n0 = n0 := IntWalk.i64_in _ (by have := hv 0; omega)
      have cv1 : IntKind.i64.wrap n1 = n1 := IntWalk.i64_in _ (by have := hv 1; omega)
      have cv2 : IntKind.i64.wrap n2 = n2 := IntWalk.i64_in _ (by have := hv 2; omega)
      have cv3 : IntKind.i64.wrap n3 = n3 := IntWalk.i64_in _ (by have := hv 3; omega)
      have cv4 : IntKind.i64.wrap n4 = n4 := IntWalk.i64_in _ (by have := hv 4; omega)
      have cv5 : IntKind.i64.wrap n5 = n5 := IntWalk.i64_in _ (by have := hv 5; omega)
      rw [m0, m1, m2, m3, m4, m5] at hn hd1 hd3
      clear m0 m1 m2 m3 m4 m5 hv hf
      obtain ⟨q1, q2⟩ := q
      simp only at hp hrs hn hd1 hd2 hf2 hf3
      obtain ⟨z, hz⟩ : ∃ z, enCheck (⟨⟨a1.2.2.toArray⟩, ⟨a3.2.2.toArray⟩, a2.2.2, ⟨n0, n1⟩, ⟨n2, n3⟩, n4, n5⟩ : En) = z := ⟨_, rfl⟩
      rw [hz] at hd1
      have HP := Lib.hid hp
      have HR := Lib.hid hrs
      have HZ := Lib.hid hz
      have HD1 := Lib.hid hd1
      have HD2 := Lib.hid hd2
      have HD3 := Lib.hid hd3
      obtain ⟨k0, hk0⟩ : ∃ k, (⟨a1.2.2.toArray⟩ : ByteArray) = k := ⟨_, rfl⟩
      obtain ⟨v0, hv0⟩ : ∃ k, (⟨a3.2.2.toArray⟩ : ByteArray) = k := ⟨_, rfl⟩
      obtain ⟨b0, hb0⟩ : ∃ k, a2.2.2 = k := ⟨_, rfl⟩
      rw [hk0, hv0, hb0] at hn HZ HD3
      clear hk0 hv0 hb0 hp hrs hz hd1 hd2 hd3 HF hf1 hf2 hf3 hq K1 K2 K3 K4 H1 H2 H3 hj hlb R3s r1 r2 r3 N0
      have S0 : Hid (Rn w #[.slice A L c, .int .i64 (p : Int), .int .i64 q1] #[.string k0, .string v0, .bool b0, .int .i64 0, .int .i64 0, .int .i64 0, .int .i64 0, .int .i64 0, .int .i64 0] g5 #[.int .u64 n0, .int .u64 n1, .int .u64 n2, .int .u64 n3, .int .u64 n4, .int .u64 n5] wr) := hn
      have sA : Hid (Rn w #[.slice A L c, .int .i64 (p : Int), .int .i64 q1] #[.string k0, .string v0, .bool b0, .int .i64 n0, .int .i64 0, .int .i64 0, .int .i64 0, .int .i64 0, .int .i64 0] g5 #[.int .u64 n0, .int .u64 n1, .int .u64 n2, .int .u64 n3, .int .u64 n4, .int .u64 n5] (wr.setCell ⟨w.heap.size + 1 + 1 + 1, 3, none⟩ (.int .i64 n0))) := hn.ent 3 _
      have S1 : Hid (Rn w #[.slice A L c, .int .i64 (p : Int), .int .i64 q1] #[.string k0, .string v0, .bool b0, .int .i64 n0, .int .i64 n1, .int .i64 0, .int .i64 0, .int .i64 0, .int .i64 0] g5 #[.int .u64 n0, .int .u64 n1, .int .u64 n2, .int .u64 n3, .int .u64 n4, .int .u64 n5] ((wr.setCell ⟨w.heap.size + 1 + 1 + 1, 3, none⟩ (.int .i64 n0)).setCell ⟨w.heap.size + 1 + 1 + 1, 4, none⟩ (.int .i64 n1))) := sA.out.ent 4 _
      have sc0 := hn.t.e1.cell_ (i := 3) rfl
      have sf0 := hn.t.e1.frozen 3
      have sf1 := hn.t.e1.frozen 4
      have sg1 := sA.out.t.e1.frozen 4
      have sc1 := sA.out.t.e1.cell_ (i := 4) rfl
      have l0 := hn.n0.cell_ (i := 0) rfl
      have l1 := hn.n0.cell_ (i := 1) rfl
      clear hn sA
      by_cases hq0 : q1 = 0
      · have qb : (q1 == 0) = true := by simpa using hq0
        by_cases hz0 : z = 0
        · have e1 : takeC err r = q1 := by
            rw [HD1.out, if_pos hz0]
          have e2 : takeE err r = ⟨k0, v0, b0, ⟨n0, n1⟩, ⟨n2, n3⟩, n4, n5⟩ := by rw [HD3.out, if_pos (by rw [e1]; exact hq0)]
          have EE := Lib.hid (And.intro e1 e2)
          have zb : (z != 0) = false := by simpa using hz0
          clear e1 e2 HD1 HD3 hz0 hq0
          go_wp2_with (first
            | (with_reducible refine atw ((wr.setCell ⟨w.heap.size + 1 + 1 + 1, 3, none⟩ (.int .i64 n0)).setCell ⟨w.heap.size + 1 + 1 + 1, 4, none⟩ (.int .i64 n1)) ?_; clear sc0 sf0 sf1 sg1 sc1 l0 l1
               generalize (wr.setCell ⟨w.heap.size + 1 + 1 + 1, 3, none⟩ (.int .i64 n0)).setCell ⟨w.heap.size + 1 + 1 + 1, 4, none⟩ (.int .i64 n1) = v1 at *
               have sB : Hid (Rn w #[.slice A L c, .int .i64 (p : Int), .int .i64 q1] #[.string k0, .string v0, .bool b0, .int .i64 n0, .int .i64 n1, .int .i64 n2, .int .i64 0, .int .i64 0, .int .i64 0] g5 #[.int .u64 n0, .int .u64 n1, .int .u64 n2, .int .u64 n3, .int .u64 n4, .int .u64 n5] (v1.setCell ⟨w.heap.size + 1 + 1 + 1, 5, none⟩ (.int .i64 n2))) := S1.out.ent 5 _
               have S3 : Hid (Rn w #[.slice A L c, .int .i64 (p : Int), .int .i64 q1] #[.string k0, .string v0, .bool b0, .int .i64 n0, .int .i64 n1, .int .i64 n2, .int .i64 n3, .int .i64 0, .int .i64 0] g5 #[.int .u64 n0, .int .u64 n1, .int .u64 n2, .int .u64 n3, .int .u64 n4, .int .u64 n5] ((v1.setCell ⟨w.heap.size + 1 + 1 + 1, 5, none⟩ (.int .i64 n2)).setCell ⟨w.heap.size + 1 + 1 + 1, 6, none⟩ (.int .i64 n3))) := sB.out.ent 6 _
               have sc2 := S1.out.t.e1.cell_ (i := 5) rfl
               have sf2 := S1.out.t.e1.frozen 5
               have sf3 := S1.out.t.e1.frozen 6
               have sg3 := sB.out.t.e1.frozen 6
               have sc3 := sB.out.t.e1.cell_ (i := 6) rfl
               have l2 := S1.out.n0.cell_ (i := 2) rfl
               have l3 := S1.out.n0.cell_ (i := 3) rfl
               clear sB
               have tokB : True := trivial)
            | (with_reducible refine atw ((v1.setCell ⟨w.heap.size + 1 + 1 + 1, 5, none⟩ (.int .i64 n2)).setCell ⟨w.heap.size + 1 + 1 + 1, 6, none⟩ (.int .i64 n3)) ?_; clear sc2 sf2 sf3 sg3 sc3 l2 l3
               generalize (v1.setCell ⟨w.heap.size + 1 + 1 + 1, 5, none⟩ (.int .i64 n2)).setCell ⟨w.heap.size + 1 + 1 + 1, 6, none⟩ (.int .i64 n3) = v2 at *
               have S4 : Hid (Rn w #[.slice A L c, .int .i64 (p : Int), .int .i64 q1] #[.string k0, .string v0, .bool b0, .int .i64 n0, .int .i64 n1, .int .i64 n2, .int .i64 n3, .int .i64 n4, .int .i64 0] g5 #[.int .u64 n0, .int .u64 n1, .int .u64 n2, .int .u64 n3, .int .u64 n4, .int .u64 n5] (v2.setCell ⟨w.heap.size + 1 + 1 + 1, 7, none⟩ (.int .i64 n4))) := S3.out.ent 7 _
               have sc4 := S3.out.t.e1.cell_ (i := 7) rfl
               have sf4 := S3.out.t.e1.frozen 7
               have l4 := S3.out.n0.cell_ (i := 4) rfl
               have tokC : True := trivial)
            | (with_reducible refine atw (v2.setCell ⟨w.heap.size + 1 + 1 + 1, 7, none⟩ (.int .i64 n4)) ?_; clear sc4 sf4 l4
               generalize v2.setCell ⟨w.heap.size + 1 + 1 + 1, 7, none⟩ (.int .i64 n4) = v3 at *
               have S5 : Hid (Rn w #[.slice A L c, .int .i64 (p : Int), .int .i64 q1] #[.string k0, .string v0, .bool b0, .int .i64 n0, .int .i64 n1, .int .i64 n2, .int .i64 n3, .int .i64 n4, .int .i64 n5] g5 #[.int .u64 n0, .int .u64 n1, .int .u64 n2, .int .u64 n3, .int .u64 n4, .int .u64 n5] (v3.setCell ⟨w.heap.size + 1 + 1 + 1, 8, none⟩ (.int .i64 n5))) := S4.out.ent 8 _
               have sc5 := S4.out.t.e1.cell_ (i := 8) rfl
               have sf5 := S4.out.t.e1.frozen 8
               have l5 := S4.out.n0.cell_ (i := 5) rfl
               have tokD : True := trivial)
            | (with_reducible refine atw (v3.setCell ⟨w.heap.size + 1 + 1 + 1, 8, none⟩ (.int .i64 n5)) ?_; clear sc5 sf5 l5
               generalize v3.setCell ⟨w.heap.size + 1 + 1 + 1, 8, none⟩ (.int .i64 n5) = v4 at *
               have F4 : Hid (Fb w #[.slice A L c, .int .i64 (p : Int), .int .i64 q1] #[.string k0, .string v0, .bool b0, .int .i64 n0, .int .i64 n1, .int .i64 n2, .int .i64 n3, .int .i64 n4, .int .i64 n5] #[.slice none 0 0, .int .i64 0, .int .i64 0] #[.string ⟨#[]⟩, .string ⟨#[]⟩, .bool false, .int .i64 0, .int .i64 0, .int .i64 0, .int .i64 0, .int .i64 0, .int .i64 0] v4) := ⟨S5.out.t.c0, S5.out.t.c1, S5.out.t.e0, S5.out.t.e1, S5.out.t.ho⟩
               clear S0 S1 S3 S4 S5
               have y4 := tri_of F4.out.c0
               have fz4 := trif F4.out.c0
               have tokE : True := trivial)
            | (refine wpl_load_g rfl 123 _ rfl (w.heap.size + 1 + 1 + 1) rfl 123 #[.string k0, .string v0, .bool b0, .int .i64 n0, .int .i64 n1, .int .i64 n2, .int .i64 n3, .int .i64 n4, .int .i64 n5] _ F4.out.e1 Tryz.underlying123 rfl (by kernel_rfl) ?_; clear tokE)
            | (go_at_call 59; refine (rf_check ⟨k0, v0, b0, ⟨n0, n1⟩, ⟨n2, n3⟩, n4, n5⟩ _).mono ?_; rintro E v5 ⟨rfl, o⟩; rw [HZ.out]
               have F5 := Lib.hid (F4.out.keep o)
               have y5 := tri_of F5.out.c0
               have fz5 := trif F5.out.c0
               clear o))
          have XC := Lib.hid (F5.out.fillC (.slice A L c) (.int .i64 (p : Int)) (.int .i64 q1))
          have XD := Lib.hid (XC.out.fillE (.string k0) (.string v0) (.bool b0) (.int .i64 n0) (.int .i64 n1) (.int .i64 n2) (.int .i64 n3) (.int .i64 n4) (.int .i64 n5))
          clear y5 y4 fz5
          have h_a1 := tri_of F5.out.c0.drew
          have h_a2 := nine_of F5.out.e1.drew
          have h_b1 := tri_of XC.out.c0.drew
          have h_b2 := nine_of XC.out.e1.drew
          have h_f1 := tri_of XD.out.c0.drew
          have h_f2 := nine_of XD.out.e1.drew
          have h_c0 := (F5.out.c1).drew.cell_ (i := 0) rfl
          have h_z0 := (F5.out.c1).drew.frozen 0
          have h_c1 := ((F5.out.c1).set_ 0 (.slice A L c)).drew.cell_ (i := 1) rfl
          have h_z1 := ((F5.out.c1).set_ 0 (.slice A L c)).drew.frozen 1
          have h_c2 := (((F5.out.c1).set_ 0 (.slice A L c)).set_ 1 (.int .i64 (p : Int))).drew.cell_ (i := 2) rfl
          have h_z2 := (((F5.out.c1).set_ 0 (.slice A L c)).set_ 1 (.int .i64 (p : Int))).drew.frozen 2
          have h_d0 := (XC.out.e0).drew.cell_ (i := 0) rfl
          have h_y0 := (XC.out.e0).drew.frozen 0
          have h_d1 := ((XC.out.e0).set_ 0 (.string k0)).drew.cell_ (i := 1) rfl
          have h_y1 := ((XC.out.e0).set_ 0 (.string k0)).drew.frozen 1
          have h_d2 := (((XC.out.e0).set_ 0 (.string k0)).set_ 1 (.string v0)).drew.cell_ (i := 2) rfl
          have h_y2 := (((XC.out.e0).set_ 0 (.string k0)).set_ 1 (.string v0)).drew.frozen 2
          have h_d3 := ((((XC.out.e0).set_ 0 (.string k0)).set_ 1 (.string v0)).set_ 2 (.bool b0)).drew.cell_ (i := 3) rfl
          have h_y3 := ((((XC.out.e0).set_ 0 (.string k0)).set_ 1 (.string v0)).set_ 2 (.bool b0)).drew.frozen 3
          have h_d4 := (((((XC.out.e0).set_ 0 (.string k0)).set_ 1 (.string v0)).set_ 2 (.bool b0)).set_ 3 (.int .i64 n0)).drew.cell_ (i := 4) rfl
          have h_y4 := (((((XC.out.e0).set_ 0 (.string k0)).set_ 1 (.string v0)).set_ 2 (.bool b0)).set_ 3 (.int .i64 n0)).drew.frozen 4
          have h_d5 := ((((((XC.out.e0).set_ 0 (.string k0)).set_ 1 (.string v0)).set_ 2 (.bool b0)).set_ 3 (.int .i64 n0)).set_ 4 (.int .i64 n1)).drew.cell_ (i := 5) rfl
          have h_y5 := ((((((XC.out.e0).set_ 0 (.string k0)).set_ 1 (.string v0)).set_ 2 (.bool b0)).set_ 3 (.int .i64 n0)).set_ 4 (.int .i64 n1)).drew.frozen 5
          have h_d6 := (((((((XC.out.e0).set_ 0 (.string k0)).set_ 1 (.string v0)).set_ 2 (.bool b0)).set_ 3 (.int .i64 n0)).set_ 4 (.int .i64 n1)).set_ 5 (.int .i64 n2)).drew.cell_ (i := 6) rfl
          have h_y6 := (((((((XC.out.e0).set_ 0 (.string k0)).set_ 1 (.string v0)).set_ 2 (.bool b0)).set_ 3 (.int .i64 n0)).set_ 4 (.int .i64 n1)).set_ 5 (.int .i64 n2)).drew.frozen 6
          have h_d7 := ((((((((XC.out.e0).set_ 0 (.string k0)).set_ 1 (.string v0)).set_ 2 (.bool b0)).set_ 3 (.int .i64 n0)).set_ 4 (.int .i64 n1)).set_ 5 (.int .i64 n2)).set_ 6 (.int .i64 n3)).drew.cell_ (i := 7) rfl
          have h_y7 := ((((((((XC.out.e0).set_ 0 (.string k0)).set_ 1 (.string v0)).set_ 2 (.bool b0)).set_ 3 (.int .i64 n0)).set_ 4 (.int .i64 n1)).set_ 5 (.int .i64 n2)).set_ 6 (.int .i64 n3)).drew.frozen 7
          have h_d8 := (((((((((XC.out.e0).set_ 0 (.string k0)).set_ 1 (.string v0)).set_ 2 (.bool b0)).set_ 3 (.int .i64 n0)).set_ 4 (.int .i64 n1)).set_ 5 (.int .i64 n2)).set_ 6 (.int .i64 n3)).set_ 7 (.int .i64 n4)).drew.cell_ (i := 8) rfl
          have h_y8 := (((((((((XC.out.e0).set_ 0 (.string k0)).set_ 1 (.string v0)).set_ 2 (.bool b0)).set_ 3 (.int .i64 n0)).set_ 4 (.int .i64 n1)).set_ 5 (.int .i64 n2)).set_ 6 (.int .i64 n3)).set_ 7 (.int .i64 n4)).drew.frozen 8
          go_region_held3 (fun w' => (w'.cell? ⟨w.heap.size, 0, none⟩ = some (.slice A L c) ∧ w'.cell? ⟨w.heap.size, 1, none⟩ = some (.int .i64 (p : Int)) ∧ w'.cell? ⟨w.heap.size, 2, none⟩ = some (.int .i64 q1)) ∧ (w'.cell? ⟨w.heap.size + 1 + 1 + 1, 0, none⟩ = some (.string k0) ∧ w'.cell? ⟨w.heap.size + 1 + 1 + 1, 1, none⟩ = some (.string v0) ∧ w'.cell? ⟨w.heap.size + 1 + 1 + 1, 2, none⟩ = some (.bool b0) ∧ w'.cell? ⟨w.heap.size + 1 + 1 + 1, 3, none⟩ = some (.int .i64 n0) ∧ w'.cell? ⟨w.heap.size + 1 + 1 + 1, 4, none⟩ = some (.int .i64 n1) ∧ w'.cell? ⟨w.heap.size + 1 + 1 + 1, 5, none⟩ = some (.int .i64 n2) ∧ w'.cell? ⟨w.heap.size + 1 + 1 + 1, 6, none⟩ = some (.int .i64 n3) ∧ w'.cell? ⟨w.heap.size + 1 + 1 + 1, 7, none⟩ = some (.int .i64 n4) ∧ w'.cell? ⟨w.heap.size + 1 + 1 + 1, 8, none⟩ = some (.int .i64 n5)))
            (first | with_reducible exact ⟨h_a1, h_a2⟩ | with_reducible exact ⟨h_b1, h_b2⟩ | with_reducible exact ⟨h_f1, h_f2⟩)
            (first | fail)
          go_wp2_with fail
          refine bodyPost_ret (results_cell_cell rfl _ _ (w.heap.size + 1) (w.heap.size + 1 + 1) 169 123 #[.slice A L c, .int .i64 (p : Int), .int .i64 q1] #[.string k0, .string v0, .bool b0, .int .i64 n0, .int .i64 n1, .int .i64 n2, .int .i64 n3, .int .i64 n4, .int .i64 n5] _ _ rfl XD.out.c1.drew rfl XD.out.e0.drew Tryz.underlying169 rfl (by kernel_rfl) Tryz.underlying123 rfl (by kernel_rfl)) rfl ?_
          rw [EE.out.1, EE.out.2, HD2.out]
          exact ⟨p, rfl, HP.out, HR.out, XD.out.ho.drew⟩
        · have e1 : takeC err r = 4 := by
            rw [HD1.out, if_neg hz0, hq0]
            rfl
          have e2 : takeE err r = enZero := by rw [HD3.out, if_neg (by rw [e1]; decide)]
          have EE := Lib.hid (And.intro e1 e2)
          have zb : (z != 0) = true := by simpa using hz0
          clear e1 e2 HD1 HD3 hz0 hq0
          go_wp2_with (first
            | (with_reducible refine atw ((wr.setCell ⟨w.heap.size + 1 + 1 + 1, 3, none⟩ (.int .i64 n0)).setCell ⟨w.heap.size + 1 + 1 + 1, 4, none⟩ (.int .i64 n1)) ?_; clear sc0 sf0 sf1 sg1 sc1 l0 l1
               generalize (wr.setCell ⟨w.heap.size + 1 + 1 + 1, 3, none⟩ (.int .i64 n0)).setCell ⟨w.heap.size + 1 + 1 + 1, 4, none⟩ (.int .i64 n1) = v1 at *
               have sB : Hid (Rn w #[.slice A L c, .int .i64 (p : Int), .int .i64 q1] #[.string k0, .string v0, .bool b0, .int .i64 n0, .int .i64 n1, .int .i64 n2, .int .i64 0, .int .i64 0, .int .i64 0] g5 #[.int .u64 n0, .int .u64 n1, .int .u64 n2, .int .u64 n3, .int .u64 n4, .int .u64 n5] (v1.setCell ⟨w.heap.size + 1 + 1 + 1, 5, none⟩ (.int .i64 n2))) := S1.out.ent 5 _
               have S3 : Hid (Rn w #[.slice A L c, .int .i64 (p : Int), .int .i64 q1] #[.string k0, .string v0, .bool b0, .int .i64 n0, .int .i64 n1, .int .i64 n2, .int .i64 n3, .int .i64 0, .int .i64 0] g5 #[.int .u64 n0, .int .u64 n1, .int .u64 n2, .int .u64 n3, .int .u64 n4, .int .u64 n5] ((v1.setCell ⟨w.heap.size + 1 + 1 + 1, 5, none⟩ (.int .i64 n2)).setCell ⟨w.heap.size + 1 + 1 + 1, 6, none⟩ (.int .i64 n3))) := sB.out.ent 6 _
               have sc2 := S1.out.t.e1.cell_ (i := 5) rfl
               have sf2 := S1.out.t.e1.frozen 5
               have sf3 := S1.out.t.e1.frozen 6
               have sg3 := sB.out.t.e1.frozen 6
               have sc3 := sB.out.t.e1.cell_ (i := 6) rfl
               have l2 := S1.out.n0.cell_ (i := 2) rfl
               have l3 := S1.out.n0.cell_ (i := 3) rfl
               clear sB
               have tokB : True := trivial)
            | (with_reducible refine atw ((v1.setCell ⟨w.heap.size + 1 + 1 + 1, 5, none⟩ (.int .i64 n2)).setCell ⟨w.heap.size + 1 + 1 + 1, 6, none⟩ (.int .i64 n3)) ?_; clear sc2 sf2 sf3 sg3 sc3 l2 l3
               generalize (v1.setCell ⟨w.heap.size + 1 + 1 + 1, 5, none⟩ (.int .i64 n2)).setCell ⟨w.heap.size + 1 + 1 + 1, 6, none⟩ (.int .i64 n3) = v2 at *
               have S4 : Hid (Rn w #[.slice A L c, .int .i64 (p : Int), .int .i64 q1] #[.string k0, .string v0, .bool b0, .int .i64 n0, .int .i64 n1, .int .i64 n2, .int .i64 n3, .int .i64 n4, .int .i64 0] g5 #[.int .u64 n0, .int .u64 n1, .int .u64 n2, .int .u64 n3, .int .u64 n4, .int .u64 n5] (v2.setCell ⟨w.heap.size + 1 + 1 + 1, 7, none⟩ (.int .i64 n4))) := S3.out.ent 7 _
               have sc4 := S3.out.t.e1.cell_ (i := 7) rfl
               have sf4 := S3.out.t.e1.frozen 7
               have l4 := S3.out.n0.cell_ (i := 4) rfl
               have tokC : True := trivial)
            | (with_reducible refine atw (v2.setCell ⟨w.heap.size + 1 + 1 + 1, 7, none⟩ (.int .i64 n4)) ?_; clear sc4 sf4 l4
               generalize v2.setCell ⟨w.heap.size + 1 + 1 + 1, 7, none⟩ (.int .i64 n4) = v3 at *
               have S5 : Hid (Rn w #[.slice A L c, .int .i64 (p : Int), .int .i64 q1] #[.string k0, .string v0, .bool b0, .int .i64 n0, .int .i64 n1, .int .i64 n2, .int .i64 n3, .int .i64 n4, .int .i64 n5] g5 #[.int .u64 n0, .int .u64 n1, .int .u64 n2, .int .u64 n3, .int .u64 n4, .int .u64 n5] (v3.setCell ⟨w.heap.size + 1 + 1 + 1, 8, none⟩ (.int .i64 n5))) := S4.out.ent 8 _
               have sc5 := S4.out.t.e1.cell_ (i := 8) rfl
               have sf5 := S4.out.t.e1.frozen 8
               have l5 := S4.out.n0.cell_ (i := 5) rfl
               have tokD : True := trivial)
            | (with_reducible refine atw (v3.setCell ⟨w.heap.size + 1 + 1 + 1, 8, none⟩ (.int .i64 n5)) ?_; clear sc5 sf5 l5
               generalize v3.setCell ⟨w.heap.size + 1 + 1 + 1, 8, none⟩ (.int .i64 n5) = v4 at *
               have F4 : Hid (Fb w #[.slice A L c, .int .i64 (p : Int), .int .i64 q1] #[.string k0, .string v0, .bool b0, .int .i64 n0, .int .i64 n1, .int .i64 n2, .int .i64 n3, .int .i64 n4, .int .i64 n5] #[.slice none 0 0, .int .i64 0, .int .i64 0] #[.string ⟨#[]⟩, .string ⟨#[]⟩, .bool false, .int .i64 0, .int .i64 0, .int .i64 0, .int .i64 0, .int .i64 0, .int .i64 0] v4) := ⟨S5.out.t.c0, S5.out.t.c1, S5.out.t.e0, S5.out.t.e1, S5.out.t.ho⟩
               clear S0 S1 S3 S4 S5
               have y4 := tri_of F4.out.c0
               have fz4 := trif F4.out.c0
               have tokE : True := trivial)
            | (refine wpl_load_g rfl 123 _ rfl (w.heap.size + 1 + 1 + 1) rfl 123 #[.string k0, .string v0, .bool b0, .int .i64 n0, .int .i64 n1, .int .i64 n2, .int .i64 n3, .int .i64 n4, .int .i64 n5] _ F4.out.e1 Tryz.underlying123 rfl (by kernel_rfl) ?_; clear tokE)
            | (go_at_call 59; refine (rf_check ⟨k0, v0, b0, ⟨n0, n1⟩, ⟨n2, n3⟩, n4, n5⟩ _).mono ?_; rintro E v5 ⟨rfl, o⟩; rw [HZ.out]
               have F5 := Lib.hid (F4.out.keep o)
               have y5 := tri_of F5.out.c0
               have fz5 := trif F5.out.c0
               clear o)
            | (with_reducible refine atw (v5.setCell ⟨w.heap.size, 2, none⟩ (.int .i64 4)) ?_
               have F6 : Hid (Fb w #[.slice A L c, .int .i64 (p : Int), .int .i64 4] #[.string k0, .string v0, .bool b0, .int .i64 n0, .int .i64 n1, .int .i64 n2, .int .i64 n3, .int .i64 n4, .int .i64 n5] #[.slice none 0 0, .int .i64 0, .int .i64 0] #[.string ⟨#[]⟩, .string ⟨#[]⟩, .bool false, .int .i64 0, .int .i64 0, .int .i64 0, .int .i64 0, .int .i64 0, .int .i64 0] (v5.setCell ⟨w.heap.size, 2, none⟩ (.int .i64 4))) := F5.out.cur 2 _
               generalize v5.setCell ⟨w.heap.size, 2, none⟩ (.int .i64 4) = v6 at *
               have y6 := tri_of F6.out.c0)
            | (refine wpList_store_row rfl 169 _ _ rfl (w.heap.size + 1) #[.slice A L c, .int .i64 (p : Int), .int .i64 4] rfl rfl 169 _ F6.out.c1 (by kernel_rfl) rfl (by simp [Value.oneCell']) ?_
               have G1 := Lib.hid (F6.out.rowC #[.slice A L c, .int .i64 (p : Int), .int .i64 4]))
            | (refine wpList_store_row rfl 123 _ _ rfl (w.heap.size + 1 + 1) #[.string ⟨#[]⟩, .string ⟨#[]⟩, .bool false, .int .i64 0, .int .i64 0, .int .i64 0, .int .i64 0, .int .i64 0, .int .i64 0] rfl rfl 123 _ G1.out.e0 (by kernel_rfl) rfl (by simp [Value.oneCell']) ?_
               have G2 := Lib.hid (G1.out.rowE #[.string ⟨#[]⟩, .string ⟨#[]⟩, .bool false, .int .i64 0, .int .i64 0, .int .i64 0, .int .i64 0, .int .i64 0, .int .i64 0])))
          refine bodyPost_ret (results_cell_cell rfl _ _ (w.heap.size + 1) (w.heap.size + 1 + 1) 169 123 #[.slice A L c, .int .i64 (p : Int), .int .i64 4] #[.string ⟨#[]⟩, .string ⟨#[]⟩, .bool false, .int .i64 0, .int .i64 0, .int .i64 0, .int .i64 0, .int .i64 0, .int .i64 0] _ _ rfl G2.out.c1 rfl G2.out.e0 Tryz.underlying169 rfl (by kernel_rfl) Tryz.underlying123 rfl (by kernel_rfl)) rfl ?_
          rw [EE.out.1, EE.out.2, HD2.out]
          exact ⟨p, rfl, HP.out, HR.out, G2.out.ho⟩
      · have e1 : takeC err r = q1 := by
          rw [HD1.out]
          split
          · rfl
          · simp [first_, hq0]
        have e2 : takeE err r = enZero := by rw [HD3.out, if_neg (by rw [e1]; exact hq0)]
        have qb : (q1 == 0) = false := by simpa using hq0
        have EE := Lib.hid (And.intro e1 e2)
        clear e1 e2 HD1 HD3 HZ hq0
        go_wp2_with (first
          | (with_reducible refine atw ((wr.setCell ⟨w.heap.size + 1 + 1 + 1, 3, none⟩ (.int .i64 n0)).setCell ⟨w.heap.size + 1 + 1 + 1, 4, none⟩ (.int .i64 n1)) ?_; clear sc0 sf0 sf1 sg1 sc1 l0 l1
             generalize (wr.setCell ⟨w.heap.size + 1 + 1 + 1, 3, none⟩ (.int .i64 n0)).setCell ⟨w.heap.size + 1 + 1 + 1, 4, none⟩ (.int .i64 n1) = v1 at *
             have sB : Hid (Rn w #[.slice A L c, .int .i64 (p : Int), .int .i64 q1] #[.string k0, .string v0, .bool b0, .int .i64 n0, .int .i64 n1, .int .i64 n2, .int .i64 0, .int .i64 0, .int .i64 0] g5 #[.int .u64 n0, .int .u64 n1, .int .u64 n2, .int .u64 n3, .int .u64 n4, .int .u64 n5] (v1.setCell ⟨w.heap.size + 1 + 1 + 1, 5, none⟩ (.int .i64 n2))) := S1.out.ent 5 _
             have S3 : Hid (Rn w #[.slice A L c, .int .i64 (p : Int), .int .i64 q1] #[.string k0, .string v0, .bool b0, .int .i64 n0, .int .i64 n1, .int .i64 n2, .int .i64 n3, .int .i64 0, .int .i64 0] g5 #[.int .u64 n0, .int .u64 n1, .int .u64 n2, .int .u64 n3, .int .u64 n4, .int .u64 n5] ((v1.setCell ⟨w.heap.size + 1 + 1 + 1, 5, none⟩ (.int .i64 n2)).setCell ⟨w.heap.size + 1 + 1 + 1, 6, none⟩ (.int .i64 n3))) := sB.out.ent 6 _
             have sc2 := S1.out.t.e1.cell_ (i := 5) rfl
             have sf2 := S1.out.t.e1.frozen 5
             have sf3 := S1.out.t.e1.frozen 6
             have sg3 := sB.out.t.e1.frozen 6
             have sc3 := sB.out.t.e1.cell_ (i := 6) rfl
             have l2 := S1.out.n0.cell_ (i := 2) rfl
             have l3 := S1.out.n0.cell_ (i := 3) rfl
             clear sB
             have tokB : True := trivial)
          | (with_reducible refine atw ((v1.setCell ⟨w.heap.size + 1 + 1 + 1, 5, none⟩ (.int .i64 n2)).setCell ⟨w.heap.size + 1 + 1 + 1, 6, none⟩ (.int .i64 n3)) ?_; clear sc2 sf2 sf3 sg3 sc3 l2 l3
             generalize (v1.setCell ⟨w.heap.size + 1 + 1 + 1, 5, none⟩ (.int .i64 n2)).setCell ⟨w.heap.size + 1 + 1 + 1, 6, none⟩ (.int .i64 n3) = v2 at *
             have S4 : Hid (Rn w #[.slice A L c, .int .i64 (p : Int), .int .i64 q1] #[.string k0, .string v0, .bool b0, .int .i64 n0, .int .i64 n1, .int .i64 n2, .int .i64 n3, .int .i64 n4, .int .i64 0] g5 #[.int .u64 n0, .int .u64 n1, .int .u64 n2, .int .u64 n3, .int .u64 n4, .int .u64 n5] (v2.setCell ⟨w.heap.size + 1 + 1 + 1, 7, none⟩ (.int .i64 n4))) := S3.out.ent 7 _
             have sc4 := S3.out.t.e1.cell_ (i := 7) rfl
             have sf4 := S3.out.t.e1.frozen 7
             have l4 := S3.out.n0.cell_ (i := 4) rfl
             have tokC : True := trivial)
          | (with_reducible refine atw (v2.setCell ⟨w.heap.size + 1 + 1 + 1, 7, none⟩ (.int .i64 n4)) ?_; clear sc4 sf4 l4
             generalize v2.setCell ⟨w.heap.size + 1 + 1 + 1, 7, none⟩ (.int .i64 n4) = v3 at *
             have S5 : Hid (Rn w #[.slice A L c, .int .i64 (p : Int), .int .i64 q1] #[.string k0, .string v0, .bool b0, .int .i64 n0, .int .i64 n1, .int .i64 n2, .int .i64 n3, .int .i64 n4, .int .i64 n5] g5 #[.int .u64 n0, .int .u64 n1, .int .u64 n2, .int .u64 n3, .int .u64 n4, .int .u64 n5] (v3.setCell ⟨w.heap.size + 1 + 1 + 1, 8, none⟩ (.int .i64 n5))) := S4.out.ent 8 _
             have sc5 := S4.out.t.e1.cell_ (i := 8) rfl
             have sf5 := S4.out.t.e1.frozen 8
             have l5 := S4.out.n0.cell_ (i := 5) rfl
             have tokD : True := trivial)
          | (with_reducible refine atw (v3.setCell ⟨w.heap.size + 1 + 1 + 1, 8, none⟩ (.int .i64 n5)) ?_; clear sc5 sf5 l5
             generalize v3.setCell ⟨w.heap.size + 1 + 1 + 1, 8, none⟩ (.int .i64 n5) = v4 at *
             have F4 : Hid (Fb w #[.slice A L c, .int .i64 (p : Int), .int .i64 q1] #[.string k0, .string v0, .bool b0, .int .i64 n0, .int .i64 n1, .int .i64 n2, .int .i64 n3, .int .i64 n4, .int .i64 n5] #[.slice none 0 0, .int .i64 0, .int .i64 0] #[.string ⟨#[]⟩, .string ⟨#[]⟩, .bool false, .int .i64 0, .int .i64 0, .int .i64 0, .int .i64 0, .int .i64 0, .int .i64 0] v4) := ⟨S5.out.t.c0, S5.out.t.c1, S5.out.t.e0, S5.out.t.e1, S5.out.t.ho⟩
             clear S0 S1 S3 S4 S5
             have y4 := tri_of F4.out.c0
             have fz4 := trif F4.out.c0
             have tokE : True := trivial)
          | (refine wpList_store_row rfl 169 _ _ rfl (w.heap.size + 1) #[.slice A L c, .int .i64 (p : Int), .int .i64 q1] rfl rfl 169 _ F4.out.c1 (by kernel_rfl) rfl (by simp [Value.oneCell']) ?_
             have G1 := Lib.hid (F4.out.rowC #[.slice A L c, .int .i64 (p : Int), .int .i64 q1]))
          | (refine wpList_store_row rfl 123 _ _ rfl (w.heap.size + 1 + 1) #[.string ⟨#[]⟩, .string ⟨#[]⟩, .bool false, .int .i64 0, .int .i64 0, .int .i64 0, .int .i64 0, .int .i64 0, .int .i64 0] rfl rfl 123 _ G1.out.e0 (by kernel_rfl) rfl (by simp [Value.oneCell']) ?_
             have G2 := Lib.hid (G1.out.rowE #[.string ⟨#[]⟩, .string ⟨#[]⟩, .bool false, .int .i64 0, .int .i64 0, .int .i64 0, .int .i64 0, .int .i64 0, .int .i64 0])))
        refine bodyPost_ret (results_cell_cell rfl _ _ (w.heap.size + 1) (w.heap.size + 1 + 1) 169 123 #[.slice A L c, .int .i64 (p : Int), .int .i64 q1] #[.string ⟨#[]⟩, .string ⟨#[]⟩, .bool false, .int .i64 0, .int .i64 0, .int .i64 0, .int .i64 0, .int .i64 0, .int .i64 0] _ _ rfl G2.out.c1 rfl G2.out.e0 Tryz.underlying169 rfl (by kernel_rfl) Tryz.underlying123 rfl (by kernel_rfl)) rfl ?_
        rw [EE.out.1, EE.out.2, HD2.out]
        exact ⟨p, rfl, HP.out, HR.out, G2.out.ho⟩
end Go.Proofs.YtlieolehpmobfaaGreatDoor
end
section
namespace Go.Proofs.YtlieolehpmobfaaGreatDoor
open Go.RowKit
set_option linter.all false
set_option maxRecDepth 100000
theorem numR_zero (code : Int) (bs : List UInt8) (n : Int) (h : (numR code bs n).1 ≠ 0) : (numR code bs n).2.2 = 0 := by
  unfold numR at h ⊢
  split
  · rename_i hw
    rw [if_pos hw] at h
    split
    · rename_i hc; rw [if_pos hc] at h; exact absurd rfl h
    · rfl
  · rfl
structure Cz (W : World) (cs : Array Value) (t2 : TypeId) (z2 : Array Value) (w : World) : Prop where
  c0 : Blk w W.heap.size 169 cs
  c1 : Blk w (W.heap.size + 1) 169 #[.slice none 0 0, .int .i64 0, .int .i64 0]
  c2 : Blk w (W.heap.size + 2) t2 z2
  ho : Only none_ W w
section
variable {W w w' : World} {cs : Array Value} {t2 : TypeId} {z2 : Array Value}
theorem Cz.keep (r : Cz W cs t2 z2 w) (o : Only none_ w w') : Cz W cs t2 z2 w' := ⟨r.c0.only o (fun h => h), r.c1.only o (fun h => h), r.c2.only o (fun h => h), r.ho.trans o⟩
theorem Cz.row (r : Cz W cs t2 z2 w) (z : Array Value) : Cz W z t2 z2 (w.setRow W.heap.size z) := ⟨r.c0.setRow z, r.c1.setRow_far (by omega) z, r.c2.setRow_far (by omega) z, r.ho.setRow (.inr (Nat.le_refl _)) z⟩
end
set_option maxHeartbeats 3200000 in
theorem rk_mark (A : Option Addr) (c p0 : Nat) (bs r : List UInt8) (err : Int) (S : Nat → Prop) (w : World) (h : Byt w S (.slice A bs.length c) bs) (hS : ∀ b, S b → b < w.heap.size) (hr : Rest bs r) (hp0 : p0 = bs.length - r.length) (hL : bs.length ≤ 100000) :
    Calls Tryz.prog 186 #[.agg #[.slice A bs.length c, .int .i64 (p0 : Int), .int .i64 err]] w fun E w' =>
      ∃ q : Nat, E = .returned (.tuple #[.agg #[.slice A bs.length c, .int .i64 (q : Int), .int .i64 (markR err r).1], .agg #[.int .i64 (markR err r).2.2.a.c, .int .i64 (markR err r).2.2.a.s, .string (markR err r).2.2.k]]) ∧ q = bs.length - (markR err r).2.1.length ∧ Rest bs (markR err r).2.1 ∧ Only none_ w w' := by
  have HB := Lib.hid (fun (w' : World) (o : Only none_ w w') => h.only o (fun _ _ h => h))
  have HSS := Lib.hid (fun (w' : World) (o : Only none_ w w') (b : Nat) (hb : S b) => Nat.lt_of_lt_of_le (hS b hb) o.size)
  have HLL := Lib.hid hL
  obtain ⟨w0, hw0⟩ : ∃ w0, ((w.alloc (.cells #[.slice A bs.length c, .int .i64 (p0 : Int), .int .i64 err] 169)).alloc (.cells #[.slice none 0 0, .int .i64 0, .int .i64 0] 169)).alloc (.cells #[.int .i64 0, .int .i64 0, .string ⟨#[]⟩] 27) = w0 := ⟨_, rfl⟩
  have T0 : Hid (Cz w #[.slice A bs.length c, .int .i64 (p0 : Int), .int .i64 err] 27 #[.int .i64 0, .int .i64 0, .string ⟨#[]⟩] w0) := by
    rw [Hid, ← hw0]
    refine ⟨((Blk.new w _ _).alloc _).alloc _, ?_, ?_, (((Only.refl none_ w).alloc _).alloc _).alloc _⟩
    · have := (Blk.new (w.alloc (.cells #[.slice A bs.length c, .int .i64 (p0 : Int), .int .i64 err] 169)) 169 #[.slice none 0 0, .int .i64 0, .int .i64 0]).alloc (.cells #[.int .i64 0, .int .i64 0, .string ⟨#[]⟩] 27)
      rwa [World.size_alloc] at this
    · have := Blk.new ((w.alloc (.cells #[.slice A bs.length c, .int .i64 (p0 : Int), .int .i64 err] 169)).alloc (.cells #[.slice none 0 0, .int .i64 0, .int .i64 0] 169)) 27 #[.int .i64 0, .int .i64 0, .string ⟨#[]⟩]
      rwa [World.size_alloc, World.size_alloc] at this
  have HW := Lib.hid hw0
  have C1 := Lib.hid (rest_take (err := err) (HB.out w0 T0.out.ho) (HSS.out w0 T0.out.ho) hr hL p0 hp0 4 (by omega))
  have hlt1 := numR_lt err r 4
  have HE : Hid (markR err r = ((textR (stampR err r).1 (stampR err r).2.1 16).1, (textR (stampR err r).1 (stampR err r).2.1 16).2.1, ⟨(stampR err r).2.2, ⟨(textR (stampR err r).1 (stampR err r).2.1 16).2.2.toArray⟩⟩)) := rfl
  have HE2 : Hid (stampR err r = ((numR (numR err r 4).1 (numR err r 4).2.1 1).1, (numR (numR err r 4).1 (numR err r 4).2.1 1).2.1, ⟨(numR err r 4).2.2, (numR (numR err r 4).1 (numR err r 4).2.1 1).2.2⟩)) := rfl
  obtain ⟨⟨e1, r1, n1⟩, ha1⟩ : ∃ a, numR err r 4 = a := ⟨_, rfl⟩
  rw [show ((4 : Nat) : Int) = 4 from rfl, ha1] at hlt1
  rw [ha1] at C1 HE2
  dsimp only at C1 HE2 hlt1
  have hlt2 := numR_lt e1 r1 1
  obtain ⟨⟨e2, r2, n2⟩, ha2⟩ : ∃ a, numR e1 r1 1 = a := ⟨_, rfl⟩
  rw [show ((1 : Nat) : Int) = 1 from rfl, ha2] at hlt2
  rw [ha2] at HE2
  dsimp only at HE2 hlt2
  rw [HE2.out] at HE
  dsimp only at HE
  obtain ⟨⟨e3, r3, x3⟩, ha3⟩ : ∃ a, textR e2 r2 16 = a := ⟨_, rfl⟩
  rw [ha3] at HE
  dsimp only at HE
  have HA2 := Lib.hid ha2
  have HA3 := Lib.hid ha3
  have v1 : IntKind.i64.wrap (n1 : Int) = (n1 : Int) := IntWalk.i64_in _ (by omega)
  have v2 : IntKind.i64.wrap (n2 : Int) = (n2 : Int) := IntWalk.i64_in _ (by omega)
  clear h hS hr hp0 hL hw0 ha1 ha2 ha3 hlt1 hlt2 HE2
  go_enter Tryz.func186, Tryz.ntmps186
  go_upto_region 1 with fail
  rw [HW.out]
  go_upto_region 2 with (first
    | (refine wpl_load rfl 169 _ rfl w.heap.size rfl 169 #[.slice A bs.length c, .int .i64 (p0 : Int), .int .i64 err] _ T0.out.c0 Tryz.underlying169 rfl (by kernel_rfl) ?_)
    | (go_at_call 183; refine C1.out.mono ?_; rintro E w1 ⟨q1, rfl, hq1, hr1, o1⟩
       have T1 := Lib.hid (T0.out.keep o1)
       have Q1 := Lib.hid hq1
       have R1 := Lib.hid hr1
       clear hq1 hr1 o1)
    | (refine wpList_store_row rfl 169 _ _ rfl w.heap.size #[.slice A bs.length c, .int .i64 (q1 : Int), .int .i64 e1] rfl rfl 169 _ T1.out.c0 (by kernel_rfl) rfl (by simp [Value.oneCell']) ?_
       have T1' := Lib.hid (T1.out.row #[.slice A bs.length c, .int .i64 (q1 : Int), .int .i64 e1])))
  generalize w1.setRow w.heap.size #[.slice A bs.length c, .int .i64 (q1 : Int), .int .i64 e1] = w1' at *
  go_upto_region 3 with (first
    | (refine wpl_load rfl 169 _ rfl w.heap.size rfl 169 #[.slice A bs.length c, .int .i64 (q1 : Int), .int .i64 e1] _ T1'.out.c0 Tryz.underlying169 rfl (by kernel_rfl) ?_)
    | (go_at_call 183; refine (rest_take (err := e1) (HB.out _ T1'.out.ho) (HSS.out _ T1'.out.ho) R1.out HLL.out q1 Q1.out 1 (by omega)).mono ?_; rw [HA2.out]; rintro E w2 ⟨q2, rfl, hq2, hr2, o2⟩
       have T2 := Lib.hid (T1'.out.keep o2)
       have Q2 := Lib.hid hq2
       have R2 := Lib.hid hr2
       clear hq2 hr2 o2)
    | (refine wpList_store_row rfl 169 _ _ rfl w.heap.size #[.slice A bs.length c, .int .i64 (q2 : Int), .int .i64 e2] rfl rfl 169 _ T2.out.c0 (by kernel_rfl) rfl (by simp [Value.oneCell']) ?_
       have T2' := Lib.hid (T2.out.row #[.slice A bs.length c, .int .i64 (q2 : Int), .int .i64 e2])))
  generalize w2.setRow w.heap.size #[.slice A bs.length c, .int .i64 (q2 : Int), .int .i64 e2] = w2' at *
  go_upto_region 4 with (first
    | (refine wpl_load rfl 169 _ rfl w.heap.size rfl 169 #[.slice A bs.length c, .int .i64 (q2 : Int), .int .i64 e2] _ T2'.out.c0 Tryz.underlying169 rfl (by kernel_rfl) ?_)
    | (go_at_call 243; refine (rest_text (err := e2) (HB.out _ T2'.out.ho) (HSS.out _ T2'.out.ho) R2.out HLL.out q2 Q2.out 16).mono ?_; rw [HA3.out]; rintro E w3 ⟨q3, rfl, hq3, hr3, o3⟩
       have T3 := Lib.hid (T2'.out.keep o3)
       have Q3 := Lib.hid hq3
       have R3 := Lib.hid hr3
       clear hq3 hr3 o3)
    | (refine wpList_store_row rfl 169 _ _ rfl w.heap.size #[.slice A bs.length c, .int .i64 (q3 : Int), .int .i64 e3] rfl rfl 169 _ T3.out.c0 (by kernel_rfl) rfl (by simp [Value.oneCell']) ?_
       have T3' := Lib.hid (T3.out.row #[.slice A bs.length c, .int .i64 (q3 : Int), .int .i64 e3])))
  generalize w3.setRow w.heap.size #[.slice A bs.length c, .int .i64 (q3 : Int), .int .i64 e3] = w3' at *
  refine wp_region_lit ?_
  go_wp2_with (first
    | (refine wpl_load rfl 169 _ rfl w.heap.size rfl 169 #[.slice A bs.length c, .int .i64 (q3 : Int), .int .i64 e3] _ T3'.out.c0 Tryz.underlying169 rfl (by kernel_rfl) ?_)
    | (refine wpList_store_row rfl 169 _ _ rfl (w.heap.size + 1) #[.slice A bs.length c, .int .i64 (q3 : Int), .int .i64 e3] rfl rfl 169 _ T3'.out.c1 (by kernel_rfl) rfl (by simp [Value.oneCell']) ?_
       have B1 := Lib.hid (T3'.out.c1.setRow #[.slice A bs.length c, .int .i64 (q3 : Int), .int .i64 e3])
       have B2 := Lib.hid (T3'.out.c2.setRow_far (g' := w.heap.size + 1) (by omega) #[.slice A bs.length c, .int .i64 (q3 : Int), .int .i64 e3])
       have OA := Lib.hid (T3'.out.ho.setRow (g := w.heap.size + 1) (.inr (Nat.le_succ _)) #[.slice A bs.length c, .int .i64 (q3 : Int), .int .i64 e3]))
    | (refine wpList_store_row rfl 27 _ _ rfl (w.heap.size + 2) #[.int .i64 (n1 : Int), .int .i64 (n2 : Int), .string ⟨x3.toArray⟩] rfl rfl 27 _ B2.out (by kernel_rfl) rfl (by simp [Value.oneCell']) ?_
       have B3 := Lib.hid (B2.out.setRow #[.int .i64 (n1 : Int), .int .i64 (n2 : Int), .string ⟨x3.toArray⟩])
       have B4 := Lib.hid (B1.out.setRow_far (g' := w.heap.size + 2) (by omega) #[.int .i64 (n1 : Int), .int .i64 (n2 : Int), .string ⟨x3.toArray⟩])
       have OB := Lib.hid (OA.out.setRow (g := w.heap.size + 2) (.inr (by omega)) #[.int .i64 (n1 : Int), .int .i64 (n2 : Int), .string ⟨x3.toArray⟩])))
  refine bodyPost_ret (results_cell_cell rfl _ _ (w.heap.size + 1) (w.heap.size + 2) 169 27 _ _ _ _ rfl B4.out rfl B3.out Tryz.underlying169 rfl (by kernel_rfl) Tryz.underlying27 rfl (by kernel_rfl)) rfl ?_
  rw [HE.out]
  exact ⟨q3, rfl, Q3.out, R3.out, OB.out⟩
end Go.Proofs.YtlieolehpmobfaaGreatDoor
end
