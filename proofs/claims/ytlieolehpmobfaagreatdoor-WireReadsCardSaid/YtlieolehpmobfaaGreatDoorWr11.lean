/- Texts of mine, one behind the other: WiX. No statement of the seat is proved here. -/
import Derived.Test.YtlieolehpmobfaaGreatDoorWr10
import Derived.Test.YtlieolehpmobfaaGreatDoorWr7
import Derived.Deep.RegionLaw
section
namespace Go.Proofs.YtlieolehpmobfaaGreatDoor
open Go.RowKit
set_option linter.all false
set_option maxRecDepth 100000
theorem step_load_row {P : Program} {ops : Array Oper} {a : Act} {w : World} {Q : Exit → Act → World → Prop} {o : Oper} {K : Act → World → Prop} {E : Prop} (hwd : Region.wanted o (yielded ops a.tmps) = true) (ty : TypeId) (x : Operand) (ho : o.op = .load ty x)
    (g : Nat) (hx : a.eval x = .pointer (some ⟨g, 0, none⟩)) (t : TypeId) (cs : Array Value) (d : TypeDesc) (hg : Blk w g t cs)
    (hu : P.underlying ty = some d) (hd : (match d with | .struct _ | .array _ _ => true | _ => false) = true) (hi : (P.info? ty).map (·.size) = some cs.size)
    (h : K (a.put o.dst (.agg cs)) w) : if Region.wanted o (yielded ops a.tmps) = true then Oper.wp P o a w K Q else E := by
  rw [if_pos hwd]
  exact wp_load_row ty x ho g hx t cs (0, 0) d hg hu hd hi h
theorem step_store_all {P : Program} {ops : Array Oper} {a : Act} {w : World} {Q : Exit → Act → World → Prop} {o : Oper} {K : Act → World → Prop} {E : Prop} (hwd : Region.wanted o (yielded ops a.tmps) = true) (ty : TypeId) (x y : Operand) (ho : o.op = .store ty x y)
    (g : Nat) (cells : Array Value) (hx : a.eval x = .pointer (some ⟨g, 0, none⟩)) (hy : a.eval y = .agg cells) (t : TypeId) (old : Array Value) (hg : Blk w g t old) (hi : (P.info? ty).map (·.size) = some cells.size)
    (hold : old.size = cells.size) (h1 : cells.all (·.oneCell') = true) (h : K (a.put o.dst undef) (w.setRow g cells)) : if Region.wanted o (yielded ops a.tmps) = true then Oper.wp P o a w K Q else E := by
  rw [if_pos hwd]
  exact wp_store_row ty x y ho g cells hx hy t old hg hi hold h1 h
structure Cw (W : World) (cs : Array Value) (w : World) : Prop where
  c0 : Blk w W.heap.size 169 cs
  c1 : Blk w (W.heap.size + 1) 169 #[.slice none 0 0, .int .i64 0, .int .i64 0]
  ho : Only none_ W w
section
variable {W w w' : World} {cs : Array Value}
theorem Cw.keep (r : Cw W cs w) (o : Only none_ w w') : Cw W cs w' := ⟨r.c0.only o (fun h => h), r.c1.only o (fun h => h), r.ho.trans o⟩
theorem Cw.row (r : Cw W cs w) (z : Array Value) : Cw W z (w.setRow W.heap.size z) := ⟨r.c0.setRow z, r.c1.setRow_far (by omega) z, r.ho.setRow (.inr (Nat.le_refl _)) z⟩
theorem Cw.set (r : Cw W cs w) (i : Nat) (u : Value) : Cw W (cs.setIfInBounds i u) (w.setCell ⟨W.heap.size, i, none⟩ u) :=
  ⟨r.c0.set_ i u, r.c1.far (p := ⟨W.heap.size, i, none⟩) (by show W.heap.size + 1 ≠ W.heap.size; omega) u, r.ho.setCell (p := ⟨W.heap.size, i, none⟩) (.inr (Nat.le_refl _)) u⟩
end
set_option maxHeartbeats 3200000 in
theorem rk_many (A : Option Addr) (c p0 : Nat) (bs r : List UInt8) (err : Int) (S : Nat → Prop) (w : World) (h : Byt w S (.slice A bs.length c) bs) (hS : ∀ b, S b → b < w.heap.size) (hr : Rest bs r) (hp0 : p0 = bs.length - r.length) (hL : bs.length ≤ 100000) :
    Calls Tryz.prog 185 #[.agg #[.slice A bs.length c, .int .i64 (p0 : Int), .int .i64 err]] w fun E w' =>
      ∃ q : Nat, E = .returned (.tuple #[.agg #[.slice A bs.length c, .int .i64 (q : Int), .int .i64 (lenR err r).1], .int .i64 ((lenR err r).2.2 : Int)]) ∧ q = bs.length - (lenR err r).2.1.length ∧ Rest bs (lenR err r).2.1 ∧ Only none_ w w' := by
  obtain ⟨w0, hw0⟩ : ∃ w0, (w.alloc (.cells #[.slice A bs.length c, .int .i64 (p0 : Int), .int .i64 err] 169)).alloc (.cells #[.slice none 0 0, .int .i64 0, .int .i64 0] 169) = w0 := ⟨_, rfl⟩
  have T0 : Hid (Cw w #[.slice A bs.length c, .int .i64 (p0 : Int), .int .i64 err] w0) := by
    rw [Hid, ← hw0]
    refine ⟨(Blk.new w _ _).alloc _, ?_, ((Only.refl none_ w).alloc _).alloc _⟩
    have := Blk.new (w.alloc (.cells #[.slice A bs.length c, .int .i64 (p0 : Int), .int .i64 err] 169)) 169 #[.slice none 0 0, .int .i64 0, .int .i64 0]
    rwa [World.size_alloc] at this
  have HW := Lib.hid hw0
  have C1 := Lib.hid (rest_take (err := err) (h.only T0.out.ho (fun _ _ h => h)) (fun b hb => Nat.lt_of_lt_of_le (hS b hb) T0.out.ho.size) hr hL p0 hp0 1 (by omega))
  have hlt1 := numR_lt err r 1
  have hz := numR_zero err r 1
  have HE : Hid (lenR err r = if 8 < (numR err r 1).2.2 then (first_ (numR err r 1).1 4, (numR err r 1).2.1, 0) else numR err r 1) := rfl
  obtain ⟨⟨e1, r1, n1⟩, ha1⟩ : ∃ a, numR err r 1 = a := ⟨_, rfl⟩
  rw [show ((1 : Nat) : Int) = 1 from rfl, ha1] at hlt1
  rw [ha1] at C1 HE hz
  dsimp only at C1 HE hlt1 hz
  have hN : (n1 : Int) < 256 := by have e : (256 : Nat) ^ 1 = 256 := rfl; omega
  have v1 : IntKind.i64.wrap (n1 : Int) = (n1 : Int) := IntWalk.i64_in _ (by omega)
  clear h hS hr hp0 hL hw0 ha1 hlt1
  by_cases he : e1 = 0
  · subst he
    clear hz
    by_cases h8 : 8 < n1
    · have h8' : (8 : Int) < (n1 : Int) := by omega
      have HX : Hid (lenR err r = (4, r1, 0)) := by rw [Hid, HE.out, if_pos h8]; rfl
      clear h8 HE
      go_enter Tryz.func185, Tryz.ntmps185
      go_upto_region 1 with fail
      rw [HW.out]
      go_upto_region 2 with (first
        | (refine wpl_load rfl 169 _ rfl w.heap.size rfl 169 #[.slice A bs.length c, .int .i64 (p0 : Int), .int .i64 err] _ T0.out.c0 Tryz.underlying169 rfl (by kernel_rfl) ?_)
        | (go_at_call 183; refine C1.out.mono ?_; rintro E w1 ⟨q1, rfl, hq1, hr1, o1⟩
           have T1 := Lib.hid (T0.out.keep o1)
           have Q1 := Lib.hid hq1
           have R1 := Lib.hid hr1
           clear hq1 hr1 o1)
        | (refine wpList_store_row rfl 169 _ _ rfl w.heap.size #[.slice A bs.length c, .int .i64 (q1 : Int), .int .i64 0] rfl rfl 169 _ T1.out.c0 (by kernel_rfl) rfl (by simp [Value.oneCell']) ?_
           have T1' := Lib.hid (T1.out.row #[.slice A bs.length c, .int .i64 (q1 : Int), .int .i64 0])))
      generalize w1.setRow w.heap.size #[.slice A bs.length c, .int .i64 (q1 : Int), .int .i64 0] = w1' at *
      have k2 := T1'.out.c0.cell_ (i := 2) rfl
      have f2 := T1'.out.c0.frozen 2
      have T2 : Hid (Cw w #[.slice A bs.length c, .int .i64 (q1 : Int), .int .i64 4] (w1'.setCell ⟨w.heap.size, 2, none⟩ (.int .i64 4))) := by rw [Hid]; simpa using T1'.out.set 2 (.int .i64 4)
      have j2 := T2.out.c0.cell_ (i := 2) rfl
      go_wp2_with (first
        | (refine wpl_load rfl 169 _ rfl w.heap.size rfl 169 #[.slice A bs.length c, .int .i64 (q1 : Int), .int .i64 4] _ T2.out.c0 Tryz.underlying169 rfl (by kernel_rfl) ?_)
        | (refine wpList_store_row rfl 169 _ _ rfl (w.heap.size + 1) #[.slice A bs.length c, .int .i64 (q1 : Int), .int .i64 4] rfl rfl 169 _ T2.out.c1 (by kernel_rfl) rfl (by simp [Value.oneCell']) ?_
           have B1 := Lib.hid (T2.out.c1.setRow #[.slice A bs.length c, .int .i64 (q1 : Int), .int .i64 4])
           have OA := Lib.hid (T2.out.ho.setRow (g := w.heap.size + 1) (.inr (Nat.le_succ _)) #[.slice A bs.length c, .int .i64 (q1 : Int), .int .i64 4])))
      refine bodyPost_ret (results_cell_tmp rfl _ _ (w.heap.size + 1) 169 _ _ rfl B1.out Tryz.underlying169 rfl (by kernel_rfl) (.int .i64 0) rfl) rfl ?_
      rw [HX.out]
      exact ⟨q1, rfl, Q1.out, R1.out, OA.out⟩
    · have h8' : ¬ (8 : Int) < (n1 : Int) := by omega
      have HX : Hid (lenR err r = (0, r1, n1)) := by rw [Hid, HE.out, if_neg h8]
      clear h8 HE
      go_enter Tryz.func185, Tryz.ntmps185
      go_upto_region 1 with fail
      rw [HW.out]
      go_upto_region 2 with (first
        | (refine wpl_load rfl 169 _ rfl w.heap.size rfl 169 #[.slice A bs.length c, .int .i64 (p0 : Int), .int .i64 err] _ T0.out.c0 Tryz.underlying169 rfl (by kernel_rfl) ?_)
        | (go_at_call 183; refine C1.out.mono ?_; rintro E w1 ⟨q1, rfl, hq1, hr1, o1⟩
           have T1 := Lib.hid (T0.out.keep o1)
           have Q1 := Lib.hid hq1
           have R1 := Lib.hid hr1
           clear hq1 hr1 o1)
        | (refine wpList_store_row rfl 169 _ _ rfl w.heap.size #[.slice A bs.length c, .int .i64 (q1 : Int), .int .i64 0] rfl rfl 169 _ T1.out.c0 (by kernel_rfl) rfl (by simp [Value.oneCell']) ?_
           have T1' := Lib.hid (T1.out.row #[.slice A bs.length c, .int .i64 (q1 : Int), .int .i64 0])))
      generalize w1.setRow w.heap.size #[.slice A bs.length c, .int .i64 (q1 : Int), .int .i64 0] = w1' at *
      have k2 := T1'.out.c0.cell_ (i := 2) rfl
      go_wp2_with (first
        | (refine wpl_load rfl 169 _ rfl w.heap.size rfl 169 #[.slice A bs.length c, .int .i64 (q1 : Int), .int .i64 0] _ T1'.out.c0 Tryz.underlying169 rfl (by kernel_rfl) ?_)
        | (refine wpList_store_row rfl 169 _ _ rfl (w.heap.size + 1) #[.slice A bs.length c, .int .i64 (q1 : Int), .int .i64 0] rfl rfl 169 _ T1'.out.c1 (by kernel_rfl) rfl (by simp [Value.oneCell']) ?_
           have B1 := Lib.hid (T1'.out.c1.setRow #[.slice A bs.length c, .int .i64 (q1 : Int), .int .i64 0])
           have OA := Lib.hid (T1'.out.ho.setRow (g := w.heap.size + 1) (.inr (Nat.le_succ _)) #[.slice A bs.length c, .int .i64 (q1 : Int), .int .i64 0])))
      refine bodyPost_ret (results_cell_tmp rfl _ _ (w.heap.size + 1) 169 _ _ rfl B1.out Tryz.underlying169 rfl (by kernel_rfl) (.int .i64 (n1 : Int)) rfl) rfl ?_
      rw [HX.out]
      exact ⟨q1, rfl, Q1.out, R1.out, OA.out⟩
  · have hn : n1 = 0 := hz he
    subst hn
    have heb : (e1 == 0) = false := by simpa using he
    have heb' : (e1 != 0) = true := by simpa using he
    have HX : Hid (lenR err r = (e1, r1, 0)) := by rw [Hid, HE.out, if_neg (by omega)]
    clear he hz HE
    go_enter Tryz.func185, Tryz.ntmps185
    go_upto_region 1 with fail
    rw [HW.out]
    go_upto_region 2 with (first
      | (refine wpl_load rfl 169 _ rfl w.heap.size rfl 169 #[.slice A bs.length c, .int .i64 (p0 : Int), .int .i64 err] _ T0.out.c0 Tryz.underlying169 rfl (by kernel_rfl) ?_)
      | (go_at_call 183; refine C1.out.mono ?_; rintro E w1 ⟨q1, rfl, hq1, hr1, o1⟩
         have T1 := Lib.hid (T0.out.keep o1)
         have Q1 := Lib.hid hq1
         have R1 := Lib.hid hr1
         clear hq1 hr1 o1)
      | (refine wpList_store_row rfl 169 _ _ rfl w.heap.size #[.slice A bs.length c, .int .i64 (q1 : Int), .int .i64 e1] rfl rfl 169 _ T1.out.c0 (by kernel_rfl) rfl (by simp [Value.oneCell']) ?_
         have T1' := Lib.hid (T1.out.row #[.slice A bs.length c, .int .i64 (q1 : Int), .int .i64 e1])))
    generalize w1.setRow w.heap.size #[.slice A bs.length c, .int .i64 (q1 : Int), .int .i64 e1] = w1' at *
    have k2 := T1'.out.c0.cell_ (i := 2) rfl
    go_wp2_with (first
      | (refine wpl_load rfl 169 _ rfl w.heap.size rfl 169 #[.slice A bs.length c, .int .i64 (q1 : Int), .int .i64 e1] _ T1'.out.c0 Tryz.underlying169 rfl (by kernel_rfl) ?_)
      | (refine wpList_store_row rfl 169 _ _ rfl (w.heap.size + 1) #[.slice A bs.length c, .int .i64 (q1 : Int), .int .i64 e1] rfl rfl 169 _ T1'.out.c1 (by kernel_rfl) rfl (by simp [Value.oneCell']) ?_
         have B1 := Lib.hid (T1'.out.c1.setRow #[.slice A bs.length c, .int .i64 (q1 : Int), .int .i64 e1])
         have OA := Lib.hid (T1'.out.ho.setRow (g := w.heap.size + 1) (.inr (Nat.le_succ _)) #[.slice A bs.length c, .int .i64 (q1 : Int), .int .i64 e1])))
    refine bodyPost_ret (results_cell_tmp rfl _ _ (w.heap.size + 1) 169 _ _ rfl B1.out Tryz.underlying169 rfl (by kernel_rfl) (.int .i64 0) rfl) rfl ?_
    rw [HX.out]
    exact ⟨q1, rfl, Q1.out, R1.out, OA.out⟩
structure Oz (W : World) (cs ms : Array Value) (w : World) : Prop where
  c0 : Blk w W.heap.size 169 cs
  c1 : Blk w (W.heap.size + 1) 31 ms
  c2 : Blk w (W.heap.size + 1 + 1) 169 #[.slice none 0 0, .int .i64 0, .int .i64 0]
  c3 : Blk w (W.heap.size + 1 + 1 + 1) 31 #[.int .i64 0, .int .i64 0, .int .i64 0, .bool false, .slice none 0 0, .int .i64 0, .int .u64 0, .int .i64 0, .int .i64 0, .string ⟨#[]⟩, .slice none 0 0, .slice none 0 0]
  ho : Only none_ W w
section
variable {W w w' : World} {cs ms : Array Value}
theorem Oz.keep (r : Oz W cs ms w) (o : Only none_ w w') : Oz W cs ms w' := ⟨r.c0.only o (fun h => h), r.c1.only o (fun h => h), r.c2.only o (fun h => h), r.c3.only o (fun h => h), r.ho.trans o⟩
theorem Oz.row (r : Oz W cs ms w) (z : Array Value) : Oz W z ms (w.setRow W.heap.size z) := ⟨r.c0.setRow z, r.c1.setRow_far (by omega) z, r.c2.setRow_far (by omega) z, r.c3.setRow_far (by omega) z, r.ho.setRow (.inr (Nat.le_refl _)) z⟩
theorem Oz.set (r : Oz W cs ms w) (i : Nat) (u : Value) : Oz W cs (ms.setIfInBounds i u) (w.setCell ⟨W.heap.size + 1, i, none⟩ u) :=
  ⟨r.c0.far (p := ⟨W.heap.size + 1, i, none⟩) (by show W.heap.size ≠ W.heap.size + 1; omega) u, r.c1.set_ i u, r.c2.far (p := ⟨W.heap.size + 1, i, none⟩) (by show W.heap.size + 1 + 1 ≠ W.heap.size + 1; omega) u, r.c3.far (p := ⟨W.heap.size + 1, i, none⟩) (by show W.heap.size + 1 + 1 + 1 ≠ W.heap.size + 1; omega) u,
    r.ho.setCell (p := ⟨W.heap.size + 1, i, none⟩) (.inr (by show W.heap.size ≤ W.heap.size + 1; omega)) u⟩
theorem Oz.cast {ms' : Array Value} (r : Oz W cs ms w) (e : ms = ms') : Oz W cs ms' w := e ▸ r
theorem Oz.drew (r : Oz W cs ms w) : Oz W cs ms w.drew := ⟨r.c0.drew, r.c1.drew, r.c2.drew, r.c3.drew, r.ho.drew⟩
theorem Oz.mid (r : Oz W cs ms w) : Blk (w.setRow (W.heap.size + 1 + 1) cs) (W.heap.size + 1) 31 ms ∧ Blk (w.setRow (W.heap.size + 1 + 1) cs) (W.heap.size + 1 + 1 + 1) 31 #[.int .i64 0, .int .i64 0, .int .i64 0, .bool false, .slice none 0 0, .int .i64 0, .int .u64 0, .int .i64 0, .int .i64 0, .string ⟨#[]⟩, .slice none 0 0, .slice none 0 0] :=
  ⟨r.c1.setRow_far (by omega) cs, r.c3.setRow_far (by omega) cs⟩
theorem Oz.fin (r : Oz W cs ms w) : Blk ((w.setRow (W.heap.size + 1 + 1) cs).setRow (W.heap.size + 1 + 1 + 1) ms) (W.heap.size + 1 + 1) 169 cs ∧ Blk ((w.setRow (W.heap.size + 1 + 1) cs).setRow (W.heap.size + 1 + 1 + 1) ms) (W.heap.size + 1 + 1 + 1) 31 ms ∧ Only none_ W ((w.setRow (W.heap.size + 1 + 1) cs).setRow (W.heap.size + 1 + 1 + 1) ms) :=
  ⟨(r.c2.setRow cs).setRow_far (by omega) ms, r.mid.2.setRow ms, (r.ho.setRow (g := W.heap.size + 1 + 1) (.inr (by omega)) cs).setRow (g := W.heap.size + 1 + 1 + 1) (.inr (by omega)) ms⟩
theorem Oz.new (W : World) (cs ms : Array Value) : Oz W cs ms ((((W.alloc (.cells cs 169)).alloc (.cells ms 31)).alloc (.cells #[.slice none 0 0, .int .i64 0, .int .i64 0] 169)).alloc (.cells #[.int .i64 0, .int .i64 0, .int .i64 0, .bool false, .slice none 0 0, .int .i64 0, .int .u64 0, .int .i64 0, .int .i64 0, .string ⟨#[]⟩, .slice none 0 0, .slice none 0 0] 31)) := by
  refine ⟨(((Blk.new W _ _).alloc _).alloc _).alloc _, ?_, ?_, ?_, ((((Only.refl none_ W).alloc _).alloc _).alloc _).alloc _⟩
  · have := ((Blk.new (W.alloc (.cells cs 169)) 31 ms).alloc (.cells #[.slice none 0 0, .int .i64 0, .int .i64 0] 169)).alloc (.cells #[.int .i64 0, .int .i64 0, .int .i64 0, .bool false, .slice none 0 0, .int .i64 0, .int .u64 0, .int .i64 0, .int .i64 0, .string ⟨#[]⟩, .slice none 0 0, .slice none 0 0] 31)
    rwa [World.size_alloc] at this
  · have := (Blk.new ((W.alloc (.cells cs 169)).alloc (.cells ms 31)) 169 #[.slice none 0 0, .int .i64 0, .int .i64 0]).alloc (.cells #[.int .i64 0, .int .i64 0, .int .i64 0, .bool false, .slice none 0 0, .int .i64 0, .int .u64 0, .int .i64 0, .int .i64 0, .string ⟨#[]⟩, .slice none 0 0, .slice none 0 0] 31)
    rwa [World.size_alloc, World.size_alloc] at this
  · have := Blk.new (((W.alloc (.cells cs 169)).alloc (.cells ms 31)).alloc (.cells #[.slice none 0 0, .int .i64 0, .int .i64 0] 169)) 31 #[.int .i64 0, .int .i64 0, .int .i64 0, .bool false, .slice none 0 0, .int .i64 0, .int .u64 0, .int .i64 0, .int .i64 0, .string ⟨#[]⟩, .slice none 0 0, .slice none 0 0]
    rwa [World.size_alloc, World.size_alloc, World.size_alloc] at this
end
set_option maxHeartbeats 3200000 in
theorem rk_one0 (A : Option Addr) (c p0 : Nat) (bs r : List UInt8) (err : Int) (S S2 : Nat → Prop) (m : Ms) (vp vm ve : Value) (w : World) (h : Byt w S (.slice A bs.length c) bs) (hS : ∀ b, S b → b < w.heap.size) (hr : Rest bs r) (hp0 : p0 = bs.length - r.length) (hL : bs.length ≤ 100000) (hl : Ml S2 m vp vm ve w) :
    Calls Tryz.prog 82 #[.agg #[.slice A bs.length c, .int .i64 (p0 : Int), .int .i64 err], .agg #[.int .i64 m.kd, .int .i64 m.pe, .int .i64 m.hp, .bool m.hi, vp, .int .i64 m.nu, .int .u64 (m.su : Int), .int .i64 m.mr.a.c, .int .i64 m.mr.a.s, .string m.mr.k, vm, ve], .int .i64 0] w fun E w' =>
      ∃ (q : Nat) (vp' vm' ve' : Value), E = .returned (.tuple #[.agg #[.slice A bs.length c, .int .i64 (q : Int), .int .i64 (fieldR 0 err r m).1], .agg #[.int .i64 (fieldR 0 err r m).2.2.kd, .int .i64 (fieldR 0 err r m).2.2.pe, .int .i64 (fieldR 0 err r m).2.2.hp, .bool (fieldR 0 err r m).2.2.hi, vp', .int .i64 (fieldR 0 err r m).2.2.nu, .int .u64 ((fieldR 0 err r m).2.2.su : Int), .int .i64 (fieldR 0 err r m).2.2.mr.a.c, .int .i64 (fieldR 0 err r m).2.2.mr.a.s, .string (fieldR 0 err r m).2.2.mr.k, vm', ve']]) ∧ q = bs.length - (fieldR 0 err r m).2.1.length ∧ Rest bs (fieldR 0 err r m).2.1 ∧ Ml (fun b => S2 b ∨ w.heap.size ≤ b) (fieldR 0 err r m).2.2 vp' vm' ve' w' ∧ Only none_ w w' ∧ vp' = vp ∧ vm' = vm ∧ ve' = ve := by
  obtain ⟨A1, c1, A2, c2, A3, c3, ea, eb, ec⟩ := hl.shape
  subst ea eb ec
  obtain ⟨w0, hw0⟩ : ∃ w0, (((w.alloc (.cells #[.slice A bs.length c, .int .i64 (p0 : Int), .int .i64 err] 169)).alloc (.cells #[.int .i64 m.kd, .int .i64 m.pe, .int .i64 m.hp, .bool m.hi, .slice A1 m.ps.length c1, .int .i64 m.nu, .int .u64 (m.su : Int), .int .i64 m.mr.a.c, .int .i64 m.mr.a.s, .string m.mr.k, .slice A2 m.ms.length c2, .slice A3 m.es.length c3] 31)).alloc (.cells #[.slice none 0 0, .int .i64 0, .int .i64 0] 169)).alloc (.cells #[.int .i64 0, .int .i64 0, .int .i64 0, .bool false, .slice none 0 0, .int .i64 0, .int .u64 0, .int .i64 0, .int .i64 0, .string ⟨#[]⟩, .slice none 0 0, .slice none 0 0] 31) = w0 := ⟨_, rfl⟩
  have T0 : Hid (Oz w #[.slice A bs.length c, .int .i64 (p0 : Int), .int .i64 err] #[.int .i64 m.kd, .int .i64 m.pe, .int .i64 m.hp, .bool m.hi, .slice A1 m.ps.length c1, .int .i64 m.nu, .int .u64 (m.su : Int), .int .i64 m.mr.a.c, .int .i64 m.mr.a.s, .string m.mr.k, .slice A2 m.ms.length c2, .slice A3 m.es.length c3] w0) := by rw [Hid, ← hw0]; exact Oz.new w _ _
  have HW := Lib.hid hw0
  have HL := Lib.hid (fun (w' : World) (o : Only none_ w w') => (hl.keep o).mono (T := fun b => S2 b ∨ w.heap.size ≤ b) (fun _ _ h => .inl h))
  have HX := h.only T0.out.ho (fun _ _ h => h)
  have HSX : ∀ b, S b → b < w0.heap.size := fun b hb => Nat.lt_of_lt_of_le (hS b hb) T0.out.ho.size
  have C1 := Lib.hid (rest_take (err := err) HX HSX hr hL p0 hp0 1 (by omega))
  have HF : Hid (fieldR 0 err r m = ((nodeR err r).1, (nodeR err r).2.1, { m with pe := (nodeR err r).2.2 })) := rfl
  have HN : Hid (nodeR err r = ((numR err r 1).1, (numR err r 1).2.1, ((numR err r 1).2.2 : Int))) := rfl
  rw [HN.out] at HF
  have hlt := numR_lt err r 1
  obtain ⟨⟨e1, r1, x⟩, ha⟩ : ∃ a, numR err r 1 = a := ⟨_, rfl⟩
  rw [show ((1 : Nat) : Int) = 1 from rfl, ha] at hlt
  rw [ha] at C1 HF
  dsimp only at C1 HF hlt
  have v1 : IntKind.i64.wrap (x : Int) = (x : Int) := IntWalk.i64_in _ (by omega)
  clear h hS hr hp0 hL hl hw0 ha HX HSX
  clear hlt
  go_enter Tryz.func82, Tryz.ntmps82
  go_upto_region 1 with fail
  rw [HW.out]
  go_upto_region 41 with (first
    | (refine wpl_load rfl 169 _ rfl w.heap.size rfl 169 #[.slice A bs.length c, .int .i64 (p0 : Int), .int .i64 err] _ T0.out.c0 Tryz.underlying169 rfl (by kernel_rfl) ?_)
    | (go_at_call 183; refine C1.out.mono ?_; rintro E w1 ⟨q1, rfl, hq1, hr1, o1⟩
       have T1 := Lib.hid (T0.out.keep o1)
       have Q1 := Lib.hid hq1
       have R1 := Lib.hid hr1
       clear hq1 hr1 o1)
    | (refine wpList_store_row rfl 169 _ _ rfl w.heap.size #[.slice A bs.length c, .int .i64 (q1 : Int), .int .i64 e1] rfl rfl 169 _ T1.out.c0 (by kernel_rfl) rfl (by simp [Value.oneCell']) ?_
       have T1' := Lib.hid (T1.out.row #[.slice A bs.length c, .int .i64 (q1 : Int), .int .i64 e1])
       have k0 := T1'.out.c1.cell_ (i := 1) rfl
       have f0 := T1'.out.c1.frozen 1
       have T2 := Lib.hid (Oz.cast (ms' := #[.int .i64 m.kd, .int .i64 (x : Int), .int .i64 m.hp, .bool m.hi, .slice A1 m.ps.length c1, .int .i64 m.nu, .int .u64 (m.su : Int), .int .i64 m.mr.a.c, .int .i64 m.mr.a.s, .string m.mr.k, .slice A2 m.ms.length c2, .slice A3 m.es.length c3]) (T1'.out.set 1 (.int .i64 (x : Int))) (by simp))))
  have TD := Lib.hid T2.out.drew
  refine wp_region_any (by kernel_rfl) ?_
  try (change wpAny _ _ _ _ _ _ _ (World.drew _))
  refine wpAny_ready (rs := [0, 1]) (by decide +kernel) (by simp) ?_
  refine AllReady.cons rfl (fun K hK => ?_) ?_
  · refine step_load_row (by simp [Region.wanted]) 169 _ rfl w.heap.size rfl 169 #[.slice A bs.length c, .int .i64 (q1 : Int), .int .i64 e1] _ TD.out.c0 Tryz.underlying169 rfl (by kernel_rfl) ?_
    refine hK _ _ ?_
    clear hK K
    try simp only [Act.put, List.getElem_toArray, List.getElem_cons_zero, List.getElem_cons_succ, List.setIfInBounds_toArray, List.set_cons_zero, List.set_cons_succ]
    refine wpAny_ready (rs := [1, 2]) (by decide +kernel) (by simp) ?_
    refine AllReady.cons rfl (fun K hK => ?_) ?_
    · refine step_load_row (by simp [Region.wanted]) 31 _ rfl (w.heap.size + 1) rfl 31 #[.int .i64 m.kd, .int .i64 (x : Int), .int .i64 m.hp, .bool m.hi, .slice A1 m.ps.length c1, .int .i64 m.nu, .int .u64 (m.su : Int), .int .i64 m.mr.a.c, .int .i64 m.mr.a.s, .string m.mr.k, .slice A2 m.ms.length c2, .slice A3 m.es.length c3] _ TD.out.c1 Tryz.underlying31 rfl (by kernel_rfl) ?_
      refine hK _ _ ?_
      clear hK K
      try simp only [Act.put, List.getElem_toArray, List.getElem_cons_zero, List.getElem_cons_succ, List.setIfInBounds_toArray, List.set_cons_zero, List.set_cons_succ]
      refine wpAny_ready (rs := [2]) (by decide +kernel) (by simp) ?_
      refine AllReady.cons rfl (fun K hK => ?_) AllReady.nil
      refine step_store_all (by simp [Region.wanted]) 169 _ _ rfl (w.heap.size + 1 + 1) #[.slice A bs.length c, .int .i64 (q1 : Int), .int .i64 e1] rfl rfl 169 _ TD.out.c2 (by kernel_rfl) rfl (by simp [Value.oneCell']) ?_
      refine hK _ _ ?_
      clear hK K
      try simp only [Act.put, List.getElem_toArray, List.getElem_cons_zero, List.getElem_cons_succ, List.setIfInBounds_toArray, List.set_cons_zero, List.set_cons_succ]
      refine wpAny_ready (rs := [3]) (by decide +kernel) (by simp) ?_
      refine AllReady.cons rfl (fun K hK => ?_) AllReady.nil
      refine step_store_all (by simp [Region.wanted]) 31 _ _ rfl (w.heap.size + 1 + 1 + 1) #[.int .i64 m.kd, .int .i64 (x : Int), .int .i64 m.hp, .bool m.hi, .slice A1 m.ps.length c1, .int .i64 m.nu, .int .u64 (m.su : Int), .int .i64 m.mr.a.c, .int .i64 m.mr.a.s, .string m.mr.k, .slice A2 m.ms.length c2, .slice A3 m.es.length c3] rfl rfl 31 _ TD.out.mid.2 (by kernel_rfl) rfl (by simp [Value.oneCell']) ?_
      refine hK _ _ ?_
      clear hK K
      try simp only [Act.put, List.getElem_toArray, List.getElem_cons_zero, List.getElem_cons_succ, List.setIfInBounds_toArray, List.set_cons_zero, List.set_cons_succ]
      refine wpAny_done (by kernel_rfl) ?_ _
      go_wp2_with fail
      refine bodyPost_ret (results_cell_cell rfl _ _ (w.heap.size + 1 + 1) (w.heap.size + 1 + 1 + 1) 169 31 _ _ _ _ rfl TD.out.fin.1 rfl TD.out.fin.2.1 Tryz.underlying169 rfl (by kernel_rfl) Tryz.underlying31 rfl (by kernel_rfl)) rfl ?_
      have ML := HL.out _ TD.out.fin.2.2
      rw [HF.out]
      exact ⟨q1, _, _, _, rfl, Q1.out, R1.out, ⟨ML.p, ML.q, ML.r⟩, TD.out.fin.2.2, rfl, rfl, rfl⟩
    refine AllReady.cons rfl (fun K hK => ?_) AllReady.nil
    refine step_store_all (by simp [Region.wanted]) 169 _ _ rfl (w.heap.size + 1 + 1) #[.slice A bs.length c, .int .i64 (q1 : Int), .int .i64 e1] rfl rfl 169 _ TD.out.c2 (by kernel_rfl) rfl (by simp [Value.oneCell']) ?_
    refine hK _ _ ?_
    clear hK K
    try simp only [Act.put, List.getElem_toArray, List.getElem_cons_zero, List.getElem_cons_succ, List.setIfInBounds_toArray, List.set_cons_zero, List.set_cons_succ]
    refine wpAny_ready (rs := [1]) (by decide +kernel) (by simp) ?_
    refine AllReady.cons rfl (fun K hK => ?_) AllReady.nil
    refine step_load_row (by simp [Region.wanted]) 31 _ rfl (w.heap.size + 1) rfl 31 #[.int .i64 m.kd, .int .i64 (x : Int), .int .i64 m.hp, .bool m.hi, .slice A1 m.ps.length c1, .int .i64 m.nu, .int .u64 (m.su : Int), .int .i64 m.mr.a.c, .int .i64 m.mr.a.s, .string m.mr.k, .slice A2 m.ms.length c2, .slice A3 m.es.length c3] _ TD.out.mid.1 Tryz.underlying31 rfl (by kernel_rfl) ?_
    refine hK _ _ ?_
    clear hK K
    try simp only [Act.put, List.getElem_toArray, List.getElem_cons_zero, List.getElem_cons_succ, List.setIfInBounds_toArray, List.set_cons_zero, List.set_cons_succ]
    refine wpAny_ready (rs := [3]) (by decide +kernel) (by simp) ?_
    refine AllReady.cons rfl (fun K hK => ?_) AllReady.nil
    refine step_store_all (by simp [Region.wanted]) 31 _ _ rfl (w.heap.size + 1 + 1 + 1) #[.int .i64 m.kd, .int .i64 (x : Int), .int .i64 m.hp, .bool m.hi, .slice A1 m.ps.length c1, .int .i64 m.nu, .int .u64 (m.su : Int), .int .i64 m.mr.a.c, .int .i64 m.mr.a.s, .string m.mr.k, .slice A2 m.ms.length c2, .slice A3 m.es.length c3] rfl rfl 31 _ TD.out.mid.2 (by kernel_rfl) rfl (by simp [Value.oneCell']) ?_
    refine hK _ _ ?_
    clear hK K
    try simp only [Act.put, List.getElem_toArray, List.getElem_cons_zero, List.getElem_cons_succ, List.setIfInBounds_toArray, List.set_cons_zero, List.set_cons_succ]
    refine wpAny_done (by kernel_rfl) ?_ _
    go_wp2_with fail
    refine bodyPost_ret (results_cell_cell rfl _ _ (w.heap.size + 1 + 1) (w.heap.size + 1 + 1 + 1) 169 31 _ _ _ _ rfl TD.out.fin.1 rfl TD.out.fin.2.1 Tryz.underlying169 rfl (by kernel_rfl) Tryz.underlying31 rfl (by kernel_rfl)) rfl ?_
    have ML := HL.out _ TD.out.fin.2.2
    rw [HF.out]
    exact ⟨q1, _, _, _, rfl, Q1.out, R1.out, ⟨ML.p, ML.q, ML.r⟩, TD.out.fin.2.2, rfl, rfl, rfl⟩
  refine AllReady.cons rfl (fun K hK => ?_) AllReady.nil
  refine step_load_row (by simp [Region.wanted]) 31 _ rfl (w.heap.size + 1) rfl 31 #[.int .i64 m.kd, .int .i64 (x : Int), .int .i64 m.hp, .bool m.hi, .slice A1 m.ps.length c1, .int .i64 m.nu, .int .u64 (m.su : Int), .int .i64 m.mr.a.c, .int .i64 m.mr.a.s, .string m.mr.k, .slice A2 m.ms.length c2, .slice A3 m.es.length c3] _ TD.out.c1 Tryz.underlying31 rfl (by kernel_rfl) ?_
  refine hK _ _ ?_
  clear hK K
  try simp only [Act.put, List.getElem_toArray, List.getElem_cons_zero, List.getElem_cons_succ, List.setIfInBounds_toArray, List.set_cons_zero, List.set_cons_succ]
  refine wpAny_ready (rs := [0]) (by decide +kernel) (by simp) ?_
  refine AllReady.cons rfl (fun K hK => ?_) AllReady.nil
  refine step_load_row (by simp [Region.wanted]) 169 _ rfl w.heap.size rfl 169 #[.slice A bs.length c, .int .i64 (q1 : Int), .int .i64 e1] _ TD.out.c0 Tryz.underlying169 rfl (by kernel_rfl) ?_
  refine hK _ _ ?_
  clear hK K
  try simp only [Act.put, List.getElem_toArray, List.getElem_cons_zero, List.getElem_cons_succ, List.setIfInBounds_toArray, List.set_cons_zero, List.set_cons_succ]
  refine wpAny_ready (rs := [2]) (by decide +kernel) (by simp) ?_
  refine AllReady.cons rfl (fun K hK => ?_) AllReady.nil
  refine step_store_all (by simp [Region.wanted]) 169 _ _ rfl (w.heap.size + 1 + 1) #[.slice A bs.length c, .int .i64 (q1 : Int), .int .i64 e1] rfl rfl 169 _ TD.out.c2 (by kernel_rfl) rfl (by simp [Value.oneCell']) ?_
  refine hK _ _ ?_
  clear hK K
  try simp only [Act.put, List.getElem_toArray, List.getElem_cons_zero, List.getElem_cons_succ, List.setIfInBounds_toArray, List.set_cons_zero, List.set_cons_succ]
  refine wpAny_ready (rs := [3]) (by decide +kernel) (by simp) ?_
  refine AllReady.cons rfl (fun K hK => ?_) AllReady.nil
  refine step_store_all (by simp [Region.wanted]) 31 _ _ rfl (w.heap.size + 1 + 1 + 1) #[.int .i64 m.kd, .int .i64 (x : Int), .int .i64 m.hp, .bool m.hi, .slice A1 m.ps.length c1, .int .i64 m.nu, .int .u64 (m.su : Int), .int .i64 m.mr.a.c, .int .i64 m.mr.a.s, .string m.mr.k, .slice A2 m.ms.length c2, .slice A3 m.es.length c3] rfl rfl 31 _ TD.out.mid.2 (by kernel_rfl) rfl (by simp [Value.oneCell']) ?_
  refine hK _ _ ?_
  clear hK K
  try simp only [Act.put, List.getElem_toArray, List.getElem_cons_zero, List.getElem_cons_succ, List.setIfInBounds_toArray, List.set_cons_zero, List.set_cons_succ]
  refine wpAny_done (by kernel_rfl) ?_ _
  go_wp2_with fail
  refine bodyPost_ret (results_cell_cell rfl _ _ (w.heap.size + 1 + 1) (w.heap.size + 1 + 1 + 1) 169 31 _ _ _ _ rfl TD.out.fin.1 rfl TD.out.fin.2.1 Tryz.underlying169 rfl (by kernel_rfl) Tryz.underlying31 rfl (by kernel_rfl)) rfl ?_
  have ML := HL.out _ TD.out.fin.2.2
  rw [HF.out]
  exact ⟨q1, _, _, _, rfl, Q1.out, R1.out, ⟨ML.p, ML.q, ML.r⟩, TD.out.fin.2.2, rfl, rfl, rfl⟩
set_option maxHeartbeats 3200000 in
theorem rk_one1 (A : Option Addr) (c p0 : Nat) (bs r : List UInt8) (err : Int) (S S2 : Nat → Prop) (m : Ms) (vp vm ve : Value) (w : World) (h : Byt w S (.slice A bs.length c) bs) (hS : ∀ b, S b → b < w.heap.size) (hr : Rest bs r) (hp0 : p0 = bs.length - r.length) (hL : bs.length ≤ 100000) (hl : Ml S2 m vp vm ve w) :
    Calls Tryz.prog 82 #[.agg #[.slice A bs.length c, .int .i64 (p0 : Int), .int .i64 err], .agg #[.int .i64 m.kd, .int .i64 m.pe, .int .i64 m.hp, .bool m.hi, vp, .int .i64 m.nu, .int .u64 (m.su : Int), .int .i64 m.mr.a.c, .int .i64 m.mr.a.s, .string m.mr.k, vm, ve], .int .i64 1] w fun E w' =>
      ∃ (q : Nat) (vp' vm' ve' : Value), E = .returned (.tuple #[.agg #[.slice A bs.length c, .int .i64 (q : Int), .int .i64 (fieldR 1 err r m).1], .agg #[.int .i64 (fieldR 1 err r m).2.2.kd, .int .i64 (fieldR 1 err r m).2.2.pe, .int .i64 (fieldR 1 err r m).2.2.hp, .bool (fieldR 1 err r m).2.2.hi, vp', .int .i64 (fieldR 1 err r m).2.2.nu, .int .u64 ((fieldR 1 err r m).2.2.su : Int), .int .i64 (fieldR 1 err r m).2.2.mr.a.c, .int .i64 (fieldR 1 err r m).2.2.mr.a.s, .string (fieldR 1 err r m).2.2.mr.k, vm', ve']]) ∧ q = bs.length - (fieldR 1 err r m).2.1.length ∧ Rest bs (fieldR 1 err r m).2.1 ∧ Ml (fun b => S2 b ∨ w.heap.size ≤ b) (fieldR 1 err r m).2.2 vp' vm' ve' w' ∧ Only none_ w w' ∧ vp' = vp ∧ vm' = vm ∧ ve' = ve := by
  obtain ⟨A1, c1, A2, c2, A3, c3, ea, eb, ec⟩ := hl.shape
  subst ea eb ec
  obtain ⟨w0, hw0⟩ : ∃ w0, (((w.alloc (.cells #[.slice A bs.length c, .int .i64 (p0 : Int), .int .i64 err] 169)).alloc (.cells #[.int .i64 m.kd, .int .i64 m.pe, .int .i64 m.hp, .bool m.hi, .slice A1 m.ps.length c1, .int .i64 m.nu, .int .u64 (m.su : Int), .int .i64 m.mr.a.c, .int .i64 m.mr.a.s, .string m.mr.k, .slice A2 m.ms.length c2, .slice A3 m.es.length c3] 31)).alloc (.cells #[.slice none 0 0, .int .i64 0, .int .i64 0] 169)).alloc (.cells #[.int .i64 0, .int .i64 0, .int .i64 0, .bool false, .slice none 0 0, .int .i64 0, .int .u64 0, .int .i64 0, .int .i64 0, .string ⟨#[]⟩, .slice none 0 0, .slice none 0 0] 31) = w0 := ⟨_, rfl⟩
  have T0 : Hid (Oz w #[.slice A bs.length c, .int .i64 (p0 : Int), .int .i64 err] #[.int .i64 m.kd, .int .i64 m.pe, .int .i64 m.hp, .bool m.hi, .slice A1 m.ps.length c1, .int .i64 m.nu, .int .u64 (m.su : Int), .int .i64 m.mr.a.c, .int .i64 m.mr.a.s, .string m.mr.k, .slice A2 m.ms.length c2, .slice A3 m.es.length c3] w0) := by rw [Hid, ← hw0]; exact Oz.new w _ _
  have HW := Lib.hid hw0
  have HL := Lib.hid (fun (w' : World) (o : Only none_ w w') => (hl.keep o).mono (T := fun b => S2 b ∨ w.heap.size ≤ b) (fun _ _ h => .inl h))
  have HX := h.only T0.out.ho (fun _ _ h => h)
  have HSX : ∀ b, S b → b < w0.heap.size := fun b hb => Nat.lt_of_lt_of_le (hS b hb) T0.out.ho.size
  have C1 := Lib.hid (rest_take (err := err) HX HSX hr hL p0 hp0 1 (by omega))
  have HF : Hid (fieldR 1 err r m = ((nodeR err r).1, (nodeR err r).2.1, { m with hp := (nodeR err r).2.2 })) := rfl
  have HN : Hid (nodeR err r = ((numR err r 1).1, (numR err r 1).2.1, ((numR err r 1).2.2 : Int))) := rfl
  rw [HN.out] at HF
  have hlt := numR_lt err r 1
  obtain ⟨⟨e1, r1, x⟩, ha⟩ : ∃ a, numR err r 1 = a := ⟨_, rfl⟩
  rw [show ((1 : Nat) : Int) = 1 from rfl, ha] at hlt
  rw [ha] at C1 HF
  dsimp only at C1 HF hlt
  have v1 : IntKind.i64.wrap (x : Int) = (x : Int) := IntWalk.i64_in _ (by omega)
  clear h hS hr hp0 hL hl hw0 ha HX HSX
  clear hlt
  go_enter Tryz.func82, Tryz.ntmps82
  go_upto_region 1 with fail
  rw [HW.out]
  go_upto_region 41 with (first
    | (refine wpl_load rfl 169 _ rfl w.heap.size rfl 169 #[.slice A bs.length c, .int .i64 (p0 : Int), .int .i64 err] _ T0.out.c0 Tryz.underlying169 rfl (by kernel_rfl) ?_)
    | (go_at_call 183; refine C1.out.mono ?_; rintro E w1 ⟨q1, rfl, hq1, hr1, o1⟩
       have T1 := Lib.hid (T0.out.keep o1)
       have Q1 := Lib.hid hq1
       have R1 := Lib.hid hr1
       clear hq1 hr1 o1)
    | (refine wpList_store_row rfl 169 _ _ rfl w.heap.size #[.slice A bs.length c, .int .i64 (q1 : Int), .int .i64 e1] rfl rfl 169 _ T1.out.c0 (by kernel_rfl) rfl (by simp [Value.oneCell']) ?_
       have T1' := Lib.hid (T1.out.row #[.slice A bs.length c, .int .i64 (q1 : Int), .int .i64 e1])
       have k0 := T1'.out.c1.cell_ (i := 2) rfl
       have f0 := T1'.out.c1.frozen 2
       have T2 := Lib.hid (Oz.cast (ms' := #[.int .i64 m.kd, .int .i64 m.pe, .int .i64 (x : Int), .bool m.hi, .slice A1 m.ps.length c1, .int .i64 m.nu, .int .u64 (m.su : Int), .int .i64 m.mr.a.c, .int .i64 m.mr.a.s, .string m.mr.k, .slice A2 m.ms.length c2, .slice A3 m.es.length c3]) (T1'.out.set 2 (.int .i64 (x : Int))) (by simp))))
  have TD := Lib.hid T2.out.drew
  refine wp_region_any (by kernel_rfl) ?_
  try (change wpAny _ _ _ _ _ _ _ (World.drew _))
  refine wpAny_ready (rs := [0, 1]) (by decide +kernel) (by simp) ?_
  refine AllReady.cons rfl (fun K hK => ?_) ?_
  · refine step_load_row (by simp [Region.wanted]) 169 _ rfl w.heap.size rfl 169 #[.slice A bs.length c, .int .i64 (q1 : Int), .int .i64 e1] _ TD.out.c0 Tryz.underlying169 rfl (by kernel_rfl) ?_
    refine hK _ _ ?_
    clear hK K
    try simp only [Act.put, List.getElem_toArray, List.getElem_cons_zero, List.getElem_cons_succ, List.setIfInBounds_toArray, List.set_cons_zero, List.set_cons_succ]
    refine wpAny_ready (rs := [1, 2]) (by decide +kernel) (by simp) ?_
    refine AllReady.cons rfl (fun K hK => ?_) ?_
    · refine step_load_row (by simp [Region.wanted]) 31 _ rfl (w.heap.size + 1) rfl 31 #[.int .i64 m.kd, .int .i64 m.pe, .int .i64 (x : Int), .bool m.hi, .slice A1 m.ps.length c1, .int .i64 m.nu, .int .u64 (m.su : Int), .int .i64 m.mr.a.c, .int .i64 m.mr.a.s, .string m.mr.k, .slice A2 m.ms.length c2, .slice A3 m.es.length c3] _ TD.out.c1 Tryz.underlying31 rfl (by kernel_rfl) ?_
      refine hK _ _ ?_
      clear hK K
      try simp only [Act.put, List.getElem_toArray, List.getElem_cons_zero, List.getElem_cons_succ, List.setIfInBounds_toArray, List.set_cons_zero, List.set_cons_succ]
      refine wpAny_ready (rs := [2]) (by decide +kernel) (by simp) ?_
      refine AllReady.cons rfl (fun K hK => ?_) AllReady.nil
      refine step_store_all (by simp [Region.wanted]) 169 _ _ rfl (w.heap.size + 1 + 1) #[.slice A bs.length c, .int .i64 (q1 : Int), .int .i64 e1] rfl rfl 169 _ TD.out.c2 (by kernel_rfl) rfl (by simp [Value.oneCell']) ?_
      refine hK _ _ ?_
      clear hK K
      try simp only [Act.put, List.getElem_toArray, List.getElem_cons_zero, List.getElem_cons_succ, List.setIfInBounds_toArray, List.set_cons_zero, List.set_cons_succ]
      refine wpAny_ready (rs := [3]) (by decide +kernel) (by simp) ?_
      refine AllReady.cons rfl (fun K hK => ?_) AllReady.nil
      refine step_store_all (by simp [Region.wanted]) 31 _ _ rfl (w.heap.size + 1 + 1 + 1) #[.int .i64 m.kd, .int .i64 m.pe, .int .i64 (x : Int), .bool m.hi, .slice A1 m.ps.length c1, .int .i64 m.nu, .int .u64 (m.su : Int), .int .i64 m.mr.a.c, .int .i64 m.mr.a.s, .string m.mr.k, .slice A2 m.ms.length c2, .slice A3 m.es.length c3] rfl rfl 31 _ TD.out.mid.2 (by kernel_rfl) rfl (by simp [Value.oneCell']) ?_
      refine hK _ _ ?_
      clear hK K
      try simp only [Act.put, List.getElem_toArray, List.getElem_cons_zero, List.getElem_cons_succ, List.setIfInBounds_toArray, List.set_cons_zero, List.set_cons_succ]
      refine wpAny_done (by kernel_rfl) ?_ _
      go_wp2_with fail
      refine bodyPost_ret (results_cell_cell rfl _ _ (w.heap.size + 1 + 1) (w.heap.size + 1 + 1 + 1) 169 31 _ _ _ _ rfl TD.out.fin.1 rfl TD.out.fin.2.1 Tryz.underlying169 rfl (by kernel_rfl) Tryz.underlying31 rfl (by kernel_rfl)) rfl ?_
      have ML := HL.out _ TD.out.fin.2.2
      rw [HF.out]
      exact ⟨q1, _, _, _, rfl, Q1.out, R1.out, ⟨ML.p, ML.q, ML.r⟩, TD.out.fin.2.2, rfl, rfl, rfl⟩
    refine AllReady.cons rfl (fun K hK => ?_) AllReady.nil
    refine step_store_all (by simp [Region.wanted]) 169 _ _ rfl (w.heap.size + 1 + 1) #[.slice A bs.length c, .int .i64 (q1 : Int), .int .i64 e1] rfl rfl 169 _ TD.out.c2 (by kernel_rfl) rfl (by simp [Value.oneCell']) ?_
    refine hK _ _ ?_
    clear hK K
    try simp only [Act.put, List.getElem_toArray, List.getElem_cons_zero, List.getElem_cons_succ, List.setIfInBounds_toArray, List.set_cons_zero, List.set_cons_succ]
    refine wpAny_ready (rs := [1]) (by decide +kernel) (by simp) ?_
    refine AllReady.cons rfl (fun K hK => ?_) AllReady.nil
    refine step_load_row (by simp [Region.wanted]) 31 _ rfl (w.heap.size + 1) rfl 31 #[.int .i64 m.kd, .int .i64 m.pe, .int .i64 (x : Int), .bool m.hi, .slice A1 m.ps.length c1, .int .i64 m.nu, .int .u64 (m.su : Int), .int .i64 m.mr.a.c, .int .i64 m.mr.a.s, .string m.mr.k, .slice A2 m.ms.length c2, .slice A3 m.es.length c3] _ TD.out.mid.1 Tryz.underlying31 rfl (by kernel_rfl) ?_
    refine hK _ _ ?_
    clear hK K
    try simp only [Act.put, List.getElem_toArray, List.getElem_cons_zero, List.getElem_cons_succ, List.setIfInBounds_toArray, List.set_cons_zero, List.set_cons_succ]
    refine wpAny_ready (rs := [3]) (by decide +kernel) (by simp) ?_
    refine AllReady.cons rfl (fun K hK => ?_) AllReady.nil
    refine step_store_all (by simp [Region.wanted]) 31 _ _ rfl (w.heap.size + 1 + 1 + 1) #[.int .i64 m.kd, .int .i64 m.pe, .int .i64 (x : Int), .bool m.hi, .slice A1 m.ps.length c1, .int .i64 m.nu, .int .u64 (m.su : Int), .int .i64 m.mr.a.c, .int .i64 m.mr.a.s, .string m.mr.k, .slice A2 m.ms.length c2, .slice A3 m.es.length c3] rfl rfl 31 _ TD.out.mid.2 (by kernel_rfl) rfl (by simp [Value.oneCell']) ?_
    refine hK _ _ ?_
    clear hK K
    try simp only [Act.put, List.getElem_toArray, List.getElem_cons_zero, List.getElem_cons_succ, List.setIfInBounds_toArray, List.set_cons_zero, List.set_cons_succ]
    refine wpAny_done (by kernel_rfl) ?_ _
    go_wp2_with fail
    refine bodyPost_ret (results_cell_cell rfl _ _ (w.heap.size + 1 + 1) (w.heap.size + 1 + 1 + 1) 169 31 _ _ _ _ rfl TD.out.fin.1 rfl TD.out.fin.2.1 Tryz.underlying169 rfl (by kernel_rfl) Tryz.underlying31 rfl (by kernel_rfl)) rfl ?_
    have ML := HL.out _ TD.out.fin.2.2
    rw [HF.out]
    exact ⟨q1, _, _, _, rfl, Q1.out, R1.out, ⟨ML.p, ML.q, ML.r⟩, TD.out.fin.2.2, rfl, rfl, rfl⟩
  refine AllReady.cons rfl (fun K hK => ?_) AllReady.nil
  refine step_load_row (by simp [Region.wanted]) 31 _ rfl (w.heap.size + 1) rfl 31 #[.int .i64 m.kd, .int .i64 m.pe, .int .i64 (x : Int), .bool m.hi, .slice A1 m.ps.length c1, .int .i64 m.nu, .int .u64 (m.su : Int), .int .i64 m.mr.a.c, .int .i64 m.mr.a.s, .string m.mr.k, .slice A2 m.ms.length c2, .slice A3 m.es.length c3] _ TD.out.c1 Tryz.underlying31 rfl (by kernel_rfl) ?_
  refine hK _ _ ?_
  clear hK K
  try simp only [Act.put, List.getElem_toArray, List.getElem_cons_zero, List.getElem_cons_succ, List.setIfInBounds_toArray, List.set_cons_zero, List.set_cons_succ]
  refine wpAny_ready (rs := [0]) (by decide +kernel) (by simp) ?_
  refine AllReady.cons rfl (fun K hK => ?_) AllReady.nil
  refine step_load_row (by simp [Region.wanted]) 169 _ rfl w.heap.size rfl 169 #[.slice A bs.length c, .int .i64 (q1 : Int), .int .i64 e1] _ TD.out.c0 Tryz.underlying169 rfl (by kernel_rfl) ?_
  refine hK _ _ ?_
  clear hK K
  try simp only [Act.put, List.getElem_toArray, List.getElem_cons_zero, List.getElem_cons_succ, List.setIfInBounds_toArray, List.set_cons_zero, List.set_cons_succ]
  refine wpAny_ready (rs := [2]) (by decide +kernel) (by simp) ?_
  refine AllReady.cons rfl (fun K hK => ?_) AllReady.nil
  refine step_store_all (by simp [Region.wanted]) 169 _ _ rfl (w.heap.size + 1 + 1) #[.slice A bs.length c, .int .i64 (q1 : Int), .int .i64 e1] rfl rfl 169 _ TD.out.c2 (by kernel_rfl) rfl (by simp [Value.oneCell']) ?_
  refine hK _ _ ?_
  clear hK K
  try simp only [Act.put, List.getElem_toArray, List.getElem_cons_zero, List.getElem_cons_succ, List.setIfInBounds_toArray, List.set_cons_zero, List.set_cons_succ]
  refine wpAny_ready (rs := [3]) (by decide +kernel) (by simp) ?_
  refine AllReady.cons rfl (fun K hK => ?_) AllReady.nil
  refine step_store_all (by simp [Region.wanted]) 31 _ _ rfl (w.heap.size + 1 + 1 + 1) #[.int .i64 m.kd, .int .i64 m.pe, .int .i64 (x : Int), .bool m.hi, .slice A1 m.ps.length c1, .int .i64 m.nu, .int .u64 (m.su : Int), .int .i64 m.mr.a.c, .int .i64 m.mr.a.s, .string m.mr.k, .slice A2 m.ms.length c2, .slice A3 m.es.length c3] rfl rfl 31 _ TD.out.mid.2 (by kernel_rfl) rfl (by simp [Value.oneCell']) ?_
  refine hK _ _ ?_
  clear hK K
  try simp only [Act.put, List.getElem_toArray, List.getElem_cons_zero, List.getElem_cons_succ, List.setIfInBounds_toArray, List.set_cons_zero, List.set_cons_succ]
  refine wpAny_done (by kernel_rfl) ?_ _
  go_wp2_with fail
  refine bodyPost_ret (results_cell_cell rfl _ _ (w.heap.size + 1 + 1) (w.heap.size + 1 + 1 + 1) 169 31 _ _ _ _ rfl TD.out.fin.1 rfl TD.out.fin.2.1 Tryz.underlying169 rfl (by kernel_rfl) Tryz.underlying31 rfl (by kernel_rfl)) rfl ?_
  have ML := HL.out _ TD.out.fin.2.2
  rw [HF.out]
  exact ⟨q1, _, _, _, rfl, Q1.out, R1.out, ⟨ML.p, ML.q, ML.r⟩, TD.out.fin.2.2, rfl, rfl, rfl⟩
set_option maxHeartbeats 3200000 in
theorem rk_one2 (A : Option Addr) (c p0 : Nat) (bs r : List UInt8) (err : Int) (S S2 : Nat → Prop) (m : Ms) (vp vm ve : Value) (w : World) (h : Byt w S (.slice A bs.length c) bs) (hS : ∀ b, S b → b < w.heap.size) (hr : Rest bs r) (hp0 : p0 = bs.length - r.length) (hL : bs.length ≤ 100000) (hl : Ml S2 m vp vm ve w) :
    Calls Tryz.prog 82 #[.agg #[.slice A bs.length c, .int .i64 (p0 : Int), .int .i64 err], .agg #[.int .i64 m.kd, .int .i64 m.pe, .int .i64 m.hp, .bool m.hi, vp, .int .i64 m.nu, .int .u64 (m.su : Int), .int .i64 m.mr.a.c, .int .i64 m.mr.a.s, .string m.mr.k, vm, ve], .int .i64 2] w fun E w' =>
      ∃ (q : Nat) (vp' vm' ve' : Value), E = .returned (.tuple #[.agg #[.slice A bs.length c, .int .i64 (q : Int), .int .i64 (fieldR 2 err r m).1], .agg #[.int .i64 (fieldR 2 err r m).2.2.kd, .int .i64 (fieldR 2 err r m).2.2.pe, .int .i64 (fieldR 2 err r m).2.2.hp, .bool (fieldR 2 err r m).2.2.hi, vp', .int .i64 (fieldR 2 err r m).2.2.nu, .int .u64 ((fieldR 2 err r m).2.2.su : Int), .int .i64 (fieldR 2 err r m).2.2.mr.a.c, .int .i64 (fieldR 2 err r m).2.2.mr.a.s, .string (fieldR 2 err r m).2.2.mr.k, vm', ve']]) ∧ q = bs.length - (fieldR 2 err r m).2.1.length ∧ Rest bs (fieldR 2 err r m).2.1 ∧ Ml (fun b => S2 b ∨ w.heap.size ≤ b) (fieldR 2 err r m).2.2 vp' vm' ve' w' ∧ Only none_ w w' ∧ vp' = vp ∧ vm' = vm ∧ ve' = ve := by
  obtain ⟨A1, c1, A2, c2, A3, c3, ea, eb, ec⟩ := hl.shape
  subst ea eb ec
  obtain ⟨w0, hw0⟩ : ∃ w0, (((w.alloc (.cells #[.slice A bs.length c, .int .i64 (p0 : Int), .int .i64 err] 169)).alloc (.cells #[.int .i64 m.kd, .int .i64 m.pe, .int .i64 m.hp, .bool m.hi, .slice A1 m.ps.length c1, .int .i64 m.nu, .int .u64 (m.su : Int), .int .i64 m.mr.a.c, .int .i64 m.mr.a.s, .string m.mr.k, .slice A2 m.ms.length c2, .slice A3 m.es.length c3] 31)).alloc (.cells #[.slice none 0 0, .int .i64 0, .int .i64 0] 169)).alloc (.cells #[.int .i64 0, .int .i64 0, .int .i64 0, .bool false, .slice none 0 0, .int .i64 0, .int .u64 0, .int .i64 0, .int .i64 0, .string ⟨#[]⟩, .slice none 0 0, .slice none 0 0] 31) = w0 := ⟨_, rfl⟩
  have T0 : Hid (Oz w #[.slice A bs.length c, .int .i64 (p0 : Int), .int .i64 err] #[.int .i64 m.kd, .int .i64 m.pe, .int .i64 m.hp, .bool m.hi, .slice A1 m.ps.length c1, .int .i64 m.nu, .int .u64 (m.su : Int), .int .i64 m.mr.a.c, .int .i64 m.mr.a.s, .string m.mr.k, .slice A2 m.ms.length c2, .slice A3 m.es.length c3] w0) := by rw [Hid, ← hw0]; exact Oz.new w _ _
  have HW := Lib.hid hw0
  have HL := Lib.hid (fun (w' : World) (o : Only none_ w w') => (hl.keep o).mono (T := fun b => S2 b ∨ w.heap.size ≤ b) (fun _ _ h => .inl h))
  have HX := h.only T0.out.ho (fun _ _ h => h)
  have HSX : ∀ b, S b → b < w0.heap.size := fun b hb => Nat.lt_of_lt_of_le (hS b hb) T0.out.ho.size
  have C1 := Lib.hid (rest_flag (err := err) HX HSX hr hL p0 hp0)
  have HF : Hid (fieldR 2 err r m = ((flagR err r).1, (flagR err r).2.1, { m with hi := (flagR err r).2.2 })) := rfl
  obtain ⟨⟨e1, r1, x⟩, ha⟩ : ∃ a, flagR err r = a := ⟨_, rfl⟩
  rw [ha] at C1 HF
  dsimp only at C1 HF
  clear h hS hr hp0 hL hl hw0 ha HX HSX
  go_enter Tryz.func82, Tryz.ntmps82
  go_upto_region 1 with fail
  rw [HW.out]
  go_upto_region 41 with (first
    | (refine wpl_load rfl 169 _ rfl w.heap.size rfl 169 #[.slice A bs.length c, .int .i64 (p0 : Int), .int .i64 err] _ T0.out.c0 Tryz.underlying169 rfl (by kernel_rfl) ?_)
    | (go_at_call 184; refine C1.out.mono ?_; rintro E w1 ⟨q1, rfl, hq1, hr1, o1⟩
       have T1 := Lib.hid (T0.out.keep o1)
       have Q1 := Lib.hid hq1
       have R1 := Lib.hid hr1
       clear hq1 hr1 o1)
    | (refine wpList_store_row rfl 169 _ _ rfl w.heap.size #[.slice A bs.length c, .int .i64 (q1 : Int), .int .i64 e1] rfl rfl 169 _ T1.out.c0 (by kernel_rfl) rfl (by simp [Value.oneCell']) ?_
       have T1' := Lib.hid (T1.out.row #[.slice A bs.length c, .int .i64 (q1 : Int), .int .i64 e1])
       have k0 := T1'.out.c1.cell_ (i := 3) rfl
       have f0 := T1'.out.c1.frozen 3
       have T2 := Lib.hid (Oz.cast (ms' := #[.int .i64 m.kd, .int .i64 m.pe, .int .i64 m.hp, .bool x, .slice A1 m.ps.length c1, .int .i64 m.nu, .int .u64 (m.su : Int), .int .i64 m.mr.a.c, .int .i64 m.mr.a.s, .string m.mr.k, .slice A2 m.ms.length c2, .slice A3 m.es.length c3]) (T1'.out.set 3 (.bool x)) (by simp))))
  have TD := Lib.hid T2.out.drew
  refine wp_region_any (by kernel_rfl) ?_
  try (change wpAny _ _ _ _ _ _ _ (World.drew _))
  refine wpAny_ready (rs := [0, 1]) (by decide +kernel) (by simp) ?_
  refine AllReady.cons rfl (fun K hK => ?_) ?_
  · refine step_load_row (by simp [Region.wanted]) 169 _ rfl w.heap.size rfl 169 #[.slice A bs.length c, .int .i64 (q1 : Int), .int .i64 e1] _ TD.out.c0 Tryz.underlying169 rfl (by kernel_rfl) ?_
    refine hK _ _ ?_
    clear hK K
    try simp only [Act.put, List.getElem_toArray, List.getElem_cons_zero, List.getElem_cons_succ, List.setIfInBounds_toArray, List.set_cons_zero, List.set_cons_succ]
    refine wpAny_ready (rs := [1, 2]) (by decide +kernel) (by simp) ?_
    refine AllReady.cons rfl (fun K hK => ?_) ?_
    · refine step_load_row (by simp [Region.wanted]) 31 _ rfl (w.heap.size + 1) rfl 31 #[.int .i64 m.kd, .int .i64 m.pe, .int .i64 m.hp, .bool x, .slice A1 m.ps.length c1, .int .i64 m.nu, .int .u64 (m.su : Int), .int .i64 m.mr.a.c, .int .i64 m.mr.a.s, .string m.mr.k, .slice A2 m.ms.length c2, .slice A3 m.es.length c3] _ TD.out.c1 Tryz.underlying31 rfl (by kernel_rfl) ?_
      refine hK _ _ ?_
      clear hK K
      try simp only [Act.put, List.getElem_toArray, List.getElem_cons_zero, List.getElem_cons_succ, List.setIfInBounds_toArray, List.set_cons_zero, List.set_cons_succ]
      refine wpAny_ready (rs := [2]) (by decide +kernel) (by simp) ?_
      refine AllReady.cons rfl (fun K hK => ?_) AllReady.nil
      refine step_store_all (by simp [Region.wanted]) 169 _ _ rfl (w.heap.size + 1 + 1) #[.slice A bs.length c, .int .i64 (q1 : Int), .int .i64 e1] rfl rfl 169 _ TD.out.c2 (by kernel_rfl) rfl (by simp [Value.oneCell']) ?_
      refine hK _ _ ?_
      clear hK K
      try simp only [Act.put, List.getElem_toArray, List.getElem_cons_zero, List.getElem_cons_succ, List.setIfInBounds_toArray, List.set_cons_zero, List.set_cons_succ]
      refine wpAny_ready (rs := [3]) (by decide +kernel) (by simp) ?_
      refine AllReady.cons rfl (fun K hK => ?_) AllReady.nil
      refine step_store_all (by simp [Region.wanted]) 31 _ _ rfl (w.heap.size + 1 + 1 + 1) #[.int .i64 m.kd, .int .i64 m.pe, .int .i64 m.hp, .bool x, .slice A1 m.ps.length c1, .int .i64 m.nu, .int .u64 (m.su : Int), .int .i64 m.mr.a.c, .int .i64 m.mr.a.s, .string m.mr.k, .slice A2 m.ms.length c2, .slice A3 m.es.length c3] rfl rfl 31 _ TD.out.mid.2 (by kernel_rfl) rfl (by simp [Value.oneCell']) ?_
      refine hK _ _ ?_
      clear hK K
      try simp only [Act.put, List.getElem_toArray, List.getElem_cons_zero, List.getElem_cons_succ, List.setIfInBounds_toArray, List.set_cons_zero, List.set_cons_succ]
      refine wpAny_done (by kernel_rfl) ?_ _
      go_wp2_with fail
      refine bodyPost_ret (results_cell_cell rfl _ _ (w.heap.size + 1 + 1) (w.heap.size + 1 + 1 + 1) 169 31 _ _ _ _ rfl TD.out.fin.1 rfl TD.out.fin.2.1 Tryz.underlying169 rfl (by kernel_rfl) Tryz.underlying31 rfl (by kernel_rfl)) rfl ?_
      have ML := HL.out _ TD.out.fin.2.2
      rw [HF.out]
      exact ⟨q1, _, _, _, rfl, Q1.out, R1.out, ⟨ML.p, ML.q, ML.r⟩, TD.out.fin.2.2, rfl, rfl, rfl⟩
    refine AllReady.cons rfl (fun K hK => ?_) AllReady.nil
    refine step_store_all (by simp [Region.wanted]) 169 _ _ rfl (w.heap.size + 1 + 1) #[.slice A bs.length c, .int .i64 (q1 : Int), .int .i64 e1] rfl rfl 169 _ TD.out.c2 (by kernel_rfl) rfl (by simp [Value.oneCell']) ?_
    refine hK _ _ ?_
    clear hK K
    try simp only [Act.put, List.getElem_toArray, List.getElem_cons_zero, List.getElem_cons_succ, List.setIfInBounds_toArray, List.set_cons_zero, List.set_cons_succ]
    refine wpAny_ready (rs := [1]) (by decide +kernel) (by simp) ?_
    refine AllReady.cons rfl (fun K hK => ?_) AllReady.nil
    refine step_load_row (by simp [Region.wanted]) 31 _ rfl (w.heap.size + 1) rfl 31 #[.int .i64 m.kd, .int .i64 m.pe, .int .i64 m.hp, .bool x, .slice A1 m.ps.length c1, .int .i64 m.nu, .int .u64 (m.su : Int), .int .i64 m.mr.a.c, .int .i64 m.mr.a.s, .string m.mr.k, .slice A2 m.ms.length c2, .slice A3 m.es.length c3] _ TD.out.mid.1 Tryz.underlying31 rfl (by kernel_rfl) ?_
    refine hK _ _ ?_
    clear hK K
    try simp only [Act.put, List.getElem_toArray, List.getElem_cons_zero, List.getElem_cons_succ, List.setIfInBounds_toArray, List.set_cons_zero, List.set_cons_succ]
    refine wpAny_ready (rs := [3]) (by decide +kernel) (by simp) ?_
    refine AllReady.cons rfl (fun K hK => ?_) AllReady.nil
    refine step_store_all (by simp [Region.wanted]) 31 _ _ rfl (w.heap.size + 1 + 1 + 1) #[.int .i64 m.kd, .int .i64 m.pe, .int .i64 m.hp, .bool x, .slice A1 m.ps.length c1, .int .i64 m.nu, .int .u64 (m.su : Int), .int .i64 m.mr.a.c, .int .i64 m.mr.a.s, .string m.mr.k, .slice A2 m.ms.length c2, .slice A3 m.es.length c3] rfl rfl 31 _ TD.out.mid.2 (by kernel_rfl) rfl (by simp [Value.oneCell']) ?_
    refine hK _ _ ?_
    clear hK K
    try simp only [Act.put, List.getElem_toArray, List.getElem_cons_zero, List.getElem_cons_succ, List.setIfInBounds_toArray, List.set_cons_zero, List.set_cons_succ]
    refine wpAny_done (by kernel_rfl) ?_ _
    go_wp2_with fail
    refine bodyPost_ret (results_cell_cell rfl _ _ (w.heap.size + 1 + 1) (w.heap.size + 1 + 1 + 1) 169 31 _ _ _ _ rfl TD.out.fin.1 rfl TD.out.fin.2.1 Tryz.underlying169 rfl (by kernel_rfl) Tryz.underlying31 rfl (by kernel_rfl)) rfl ?_
    have ML := HL.out _ TD.out.fin.2.2
    rw [HF.out]
    exact ⟨q1, _, _, _, rfl, Q1.out, R1.out, ⟨ML.p, ML.q, ML.r⟩, TD.out.fin.2.2, rfl, rfl, rfl⟩
  refine AllReady.cons rfl (fun K hK => ?_) AllReady.nil
  refine step_load_row (by simp [Region.wanted]) 31 _ rfl (w.heap.size + 1) rfl 31 #[.int .i64 m.kd, .int .i64 m.pe, .int .i64 m.hp, .bool x, .slice A1 m.ps.length c1, .int .i64 m.nu, .int .u64 (m.su : Int), .int .i64 m.mr.a.c, .int .i64 m.mr.a.s, .string m.mr.k, .slice A2 m.ms.length c2, .slice A3 m.es.length c3] _ TD.out.c1 Tryz.underlying31 rfl (by kernel_rfl) ?_
  refine hK _ _ ?_
  clear hK K
  try simp only [Act.put, List.getElem_toArray, List.getElem_cons_zero, List.getElem_cons_succ, List.setIfInBounds_toArray, List.set_cons_zero, List.set_cons_succ]
  refine wpAny_ready (rs := [0]) (by decide +kernel) (by simp) ?_
  refine AllReady.cons rfl (fun K hK => ?_) AllReady.nil
  refine step_load_row (by simp [Region.wanted]) 169 _ rfl w.heap.size rfl 169 #[.slice A bs.length c, .int .i64 (q1 : Int), .int .i64 e1] _ TD.out.c0 Tryz.underlying169 rfl (by kernel_rfl) ?_
  refine hK _ _ ?_
  clear hK K
  try simp only [Act.put, List.getElem_toArray, List.getElem_cons_zero, List.getElem_cons_succ, List.setIfInBounds_toArray, List.set_cons_zero, List.set_cons_succ]
  refine wpAny_ready (rs := [2]) (by decide +kernel) (by simp) ?_
  refine AllReady.cons rfl (fun K hK => ?_) AllReady.nil
  refine step_store_all (by simp [Region.wanted]) 169 _ _ rfl (w.heap.size + 1 + 1) #[.slice A bs.length c, .int .i64 (q1 : Int), .int .i64 e1] rfl rfl 169 _ TD.out.c2 (by kernel_rfl) rfl (by simp [Value.oneCell']) ?_
  refine hK _ _ ?_
  clear hK K
  try simp only [Act.put, List.getElem_toArray, List.getElem_cons_zero, List.getElem_cons_succ, List.setIfInBounds_toArray, List.set_cons_zero, List.set_cons_succ]
  refine wpAny_ready (rs := [3]) (by decide +kernel) (by simp) ?_
  refine AllReady.cons rfl (fun K hK => ?_) AllReady.nil
  refine step_store_all (by simp [Region.wanted]) 31 _ _ rfl (w.heap.size + 1 + 1 + 1) #[.int .i64 m.kd, .int .i64 m.pe, .int .i64 m.hp, .bool x, .slice A1 m.ps.length c1, .int .i64 m.nu, .int .u64 (m.su : Int), .int .i64 m.mr.a.c, .int .i64 m.mr.a.s, .string m.mr.k, .slice A2 m.ms.length c2, .slice A3 m.es.length c3] rfl rfl 31 _ TD.out.mid.2 (by kernel_rfl) rfl (by simp [Value.oneCell']) ?_
  refine hK _ _ ?_
  clear hK K
  try simp only [Act.put, List.getElem_toArray, List.getElem_cons_zero, List.getElem_cons_succ, List.setIfInBounds_toArray, List.set_cons_zero, List.set_cons_succ]
  refine wpAny_done (by kernel_rfl) ?_ _
  go_wp2_with fail
  refine bodyPost_ret (results_cell_cell rfl _ _ (w.heap.size + 1 + 1) (w.heap.size + 1 + 1 + 1) 169 31 _ _ _ _ rfl TD.out.fin.1 rfl TD.out.fin.2.1 Tryz.underlying169 rfl (by kernel_rfl) Tryz.underlying31 rfl (by kernel_rfl)) rfl ?_
  have ML := HL.out _ TD.out.fin.2.2
  rw [HF.out]
  exact ⟨q1, _, _, _, rfl, Q1.out, R1.out, ⟨ML.p, ML.q, ML.r⟩, TD.out.fin.2.2, rfl, rfl, rfl⟩
set_option maxHeartbeats 3200000 in
theorem rk_one4 (A : Option Addr) (c p0 : Nat) (bs r : List UInt8) (err : Int) (S S2 : Nat → Prop) (m : Ms) (vp vm ve : Value) (w : World) (h : Byt w S (.slice A bs.length c) bs) (hS : ∀ b, S b → b < w.heap.size) (hr : Rest bs r) (hp0 : p0 = bs.length - r.length) (hL : bs.length ≤ 100000) (hl : Ml S2 m vp vm ve w) :
    Calls Tryz.prog 82 #[.agg #[.slice A bs.length c, .int .i64 (p0 : Int), .int .i64 err], .agg #[.int .i64 m.kd, .int .i64 m.pe, .int .i64 m.hp, .bool m.hi, vp, .int .i64 m.nu, .int .u64 (m.su : Int), .int .i64 m.mr.a.c, .int .i64 m.mr.a.s, .string m.mr.k, vm, ve], .int .i64 4] w fun E w' =>
      ∃ (q : Nat) (vp' vm' ve' : Value), E = .returned (.tuple #[.agg #[.slice A bs.length c, .int .i64 (q : Int), .int .i64 (fieldR 4 err r m).1], .agg #[.int .i64 (fieldR 4 err r m).2.2.kd, .int .i64 (fieldR 4 err r m).2.2.pe, .int .i64 (fieldR 4 err r m).2.2.hp, .bool (fieldR 4 err r m).2.2.hi, vp', .int .i64 (fieldR 4 err r m).2.2.nu, .int .u64 ((fieldR 4 err r m).2.2.su : Int), .int .i64 (fieldR 4 err r m).2.2.mr.a.c, .int .i64 (fieldR 4 err r m).2.2.mr.a.s, .string (fieldR 4 err r m).2.2.mr.k, vm', ve']]) ∧ q = bs.length - (fieldR 4 err r m).2.1.length ∧ Rest bs (fieldR 4 err r m).2.1 ∧ Ml (fun b => S2 b ∨ w.heap.size ≤ b) (fieldR 4 err r m).2.2 vp' vm' ve' w' ∧ Only none_ w w' ∧ vp' = vp ∧ vm' = vm ∧ ve' = ve := by
  obtain ⟨A1, c1, A2, c2, A3, c3, ea, eb, ec⟩ := hl.shape
  subst ea eb ec
  obtain ⟨w0, hw0⟩ : ∃ w0, (((w.alloc (.cells #[.slice A bs.length c, .int .i64 (p0 : Int), .int .i64 err] 169)).alloc (.cells #[.int .i64 m.kd, .int .i64 m.pe, .int .i64 m.hp, .bool m.hi, .slice A1 m.ps.length c1, .int .i64 m.nu, .int .u64 (m.su : Int), .int .i64 m.mr.a.c, .int .i64 m.mr.a.s, .string m.mr.k, .slice A2 m.ms.length c2, .slice A3 m.es.length c3] 31)).alloc (.cells #[.slice none 0 0, .int .i64 0, .int .i64 0] 169)).alloc (.cells #[.int .i64 0, .int .i64 0, .int .i64 0, .bool false, .slice none 0 0, .int .i64 0, .int .u64 0, .int .i64 0, .int .i64 0, .string ⟨#[]⟩, .slice none 0 0, .slice none 0 0] 31) = w0 := ⟨_, rfl⟩
  have T0 : Hid (Oz w #[.slice A bs.length c, .int .i64 (p0 : Int), .int .i64 err] #[.int .i64 m.kd, .int .i64 m.pe, .int .i64 m.hp, .bool m.hi, .slice A1 m.ps.length c1, .int .i64 m.nu, .int .u64 (m.su : Int), .int .i64 m.mr.a.c, .int .i64 m.mr.a.s, .string m.mr.k, .slice A2 m.ms.length c2, .slice A3 m.es.length c3] w0) := by rw [Hid, ← hw0]; exact Oz.new w _ _
  have HW := Lib.hid hw0
  have HL := Lib.hid (fun (w' : World) (o : Only none_ w w') => (hl.keep o).mono (T := fun b => S2 b ∨ w.heap.size ≤ b) (fun _ _ h => .inl h))
  have HX := h.only T0.out.ho (fun _ _ h => h)
  have HSX : ∀ b, S b → b < w0.heap.size := fun b hb => Nat.lt_of_lt_of_le (hS b hb) T0.out.ho.size
  have C1 := Lib.hid (rest_take (err := err) HX HSX hr hL p0 hp0 4 (by omega))
  have HF : Hid (fieldR 4 err r m = ((numR err r 4).1, (numR err r 4).2.1, { m with nu := (((numR err r 4).2.2 : Nat) : Int) })) := rfl
  have hlt := numR_lt err r 4
  obtain ⟨⟨e1, r1, x⟩, ha⟩ : ∃ a, numR err r 4 = a := ⟨_, rfl⟩
  rw [show ((4 : Nat) : Int) = 4 from rfl, ha] at hlt
  rw [ha] at C1 HF
  dsimp only at C1 HF hlt
  have v1 : IntKind.i64.wrap (x : Int) = (x : Int) := IntWalk.i64_in _ (by omega)
  clear h hS hr hp0 hL hl hw0 ha HX HSX
  clear hlt
  go_enter Tryz.func82, Tryz.ntmps82
  go_upto_region 1 with fail
  rw [HW.out]
  go_upto_region 41 with (first
    | (refine wpl_load rfl 169 _ rfl w.heap.size rfl 169 #[.slice A bs.length c, .int .i64 (p0 : Int), .int .i64 err] _ T0.out.c0 Tryz.underlying169 rfl (by kernel_rfl) ?_)
    | (go_at_call 183; refine C1.out.mono ?_; rintro E w1 ⟨q1, rfl, hq1, hr1, o1⟩
       have T1 := Lib.hid (T0.out.keep o1)
       have Q1 := Lib.hid hq1
       have R1 := Lib.hid hr1
       clear hq1 hr1 o1)
    | (refine wpList_store_row rfl 169 _ _ rfl w.heap.size #[.slice A bs.length c, .int .i64 (q1 : Int), .int .i64 e1] rfl rfl 169 _ T1.out.c0 (by kernel_rfl) rfl (by simp [Value.oneCell']) ?_
       have T1' := Lib.hid (T1.out.row #[.slice A bs.length c, .int .i64 (q1 : Int), .int .i64 e1])
       have k0 := T1'.out.c1.cell_ (i := 5) rfl
       have f0 := T1'.out.c1.frozen 5
       have T2 := Lib.hid (Oz.cast (ms' := #[.int .i64 m.kd, .int .i64 m.pe, .int .i64 m.hp, .bool m.hi, .slice A1 m.ps.length c1, .int .i64 (x : Int), .int .u64 (m.su : Int), .int .i64 m.mr.a.c, .int .i64 m.mr.a.s, .string m.mr.k, .slice A2 m.ms.length c2, .slice A3 m.es.length c3]) (T1'.out.set 5 (.int .i64 (x : Int))) (by simp))))
  have TD := Lib.hid T2.out.drew
  refine wp_region_any (by kernel_rfl) ?_
  try (change wpAny _ _ _ _ _ _ _ (World.drew _))
  refine wpAny_ready (rs := [0, 1]) (by decide +kernel) (by simp) ?_
  refine AllReady.cons rfl (fun K hK => ?_) ?_
  · refine step_load_row (by simp [Region.wanted]) 169 _ rfl w.heap.size rfl 169 #[.slice A bs.length c, .int .i64 (q1 : Int), .int .i64 e1] _ TD.out.c0 Tryz.underlying169 rfl (by kernel_rfl) ?_
    refine hK _ _ ?_
    clear hK K
    try simp only [Act.put, List.getElem_toArray, List.getElem_cons_zero, List.getElem_cons_succ, List.setIfInBounds_toArray, List.set_cons_zero, List.set_cons_succ]
    refine wpAny_ready (rs := [1, 2]) (by decide +kernel) (by simp) ?_
    refine AllReady.cons rfl (fun K hK => ?_) ?_
    · refine step_load_row (by simp [Region.wanted]) 31 _ rfl (w.heap.size + 1) rfl 31 #[.int .i64 m.kd, .int .i64 m.pe, .int .i64 m.hp, .bool m.hi, .slice A1 m.ps.length c1, .int .i64 (x : Int), .int .u64 (m.su : Int), .int .i64 m.mr.a.c, .int .i64 m.mr.a.s, .string m.mr.k, .slice A2 m.ms.length c2, .slice A3 m.es.length c3] _ TD.out.c1 Tryz.underlying31 rfl (by kernel_rfl) ?_
      refine hK _ _ ?_
      clear hK K
      try simp only [Act.put, List.getElem_toArray, List.getElem_cons_zero, List.getElem_cons_succ, List.setIfInBounds_toArray, List.set_cons_zero, List.set_cons_succ]
      refine wpAny_ready (rs := [2]) (by decide +kernel) (by simp) ?_
      refine AllReady.cons rfl (fun K hK => ?_) AllReady.nil
      refine step_store_all (by simp [Region.wanted]) 169 _ _ rfl (w.heap.size + 1 + 1) #[.slice A bs.length c, .int .i64 (q1 : Int), .int .i64 e1] rfl rfl 169 _ TD.out.c2 (by kernel_rfl) rfl (by simp [Value.oneCell']) ?_
      refine hK _ _ ?_
      clear hK K
      try simp only [Act.put, List.getElem_toArray, List.getElem_cons_zero, List.getElem_cons_succ, List.setIfInBounds_toArray, List.set_cons_zero, List.set_cons_succ]
      refine wpAny_ready (rs := [3]) (by decide +kernel) (by simp) ?_
      refine AllReady.cons rfl (fun K hK => ?_) AllReady.nil
      refine step_store_all (by simp [Region.wanted]) 31 _ _ rfl (w.heap.size + 1 + 1 + 1) #[.int .i64 m.kd, .int .i64 m.pe, .int .i64 m.hp, .bool m.hi, .slice A1 m.ps.length c1, .int .i64 (x : Int), .int .u64 (m.su : Int), .int .i64 m.mr.a.c, .int .i64 m.mr.a.s, .string m.mr.k, .slice A2 m.ms.length c2, .slice A3 m.es.length c3] rfl rfl 31 _ TD.out.mid.2 (by kernel_rfl) rfl (by simp [Value.oneCell']) ?_
      refine hK _ _ ?_
      clear hK K
      try simp only [Act.put, List.getElem_toArray, List.getElem_cons_zero, List.getElem_cons_succ, List.setIfInBounds_toArray, List.set_cons_zero, List.set_cons_succ]
      refine wpAny_done (by kernel_rfl) ?_ _
      go_wp2_with fail
      refine bodyPost_ret (results_cell_cell rfl _ _ (w.heap.size + 1 + 1) (w.heap.size + 1 + 1 + 1) 169 31 _ _ _ _ rfl TD.out.fin.1 rfl TD.out.fin.2.1 Tryz.underlying169 rfl (by kernel_rfl) Tryz.underlying31 rfl (by kernel_rfl)) rfl ?_
      have ML := HL.out _ TD.out.fin.2.2
      rw [HF.out]
      exact ⟨q1, _, _, _, rfl, Q1.out, R1.out, ⟨ML.p, ML.q, ML.r⟩, TD.out.fin.2.2, rfl, rfl, rfl⟩
    refine AllReady.cons rfl (fun K hK => ?_) AllReady.nil
    refine step_store_all (by simp [Region.wanted]) 169 _ _ rfl (w.heap.size + 1 + 1) #[.slice A bs.length c, .int .i64 (q1 : Int), .int .i64 e1] rfl rfl 169 _ TD.out.c2 (by kernel_rfl) rfl (by simp [Value.oneCell']) ?_
    refine hK _ _ ?_
    clear hK K
    try simp only [Act.put, List.getElem_toArray, List.getElem_cons_zero, List.getElem_cons_succ, List.setIfInBounds_toArray, List.set_cons_zero, List.set_cons_succ]
    refine wpAny_ready (rs := [1]) (by decide +kernel) (by simp) ?_
    refine AllReady.cons rfl (fun K hK => ?_) AllReady.nil
    refine step_load_row (by simp [Region.wanted]) 31 _ rfl (w.heap.size + 1) rfl 31 #[.int .i64 m.kd, .int .i64 m.pe, .int .i64 m.hp, .bool m.hi, .slice A1 m.ps.length c1, .int .i64 (x : Int), .int .u64 (m.su : Int), .int .i64 m.mr.a.c, .int .i64 m.mr.a.s, .string m.mr.k, .slice A2 m.ms.length c2, .slice A3 m.es.length c3] _ TD.out.mid.1 Tryz.underlying31 rfl (by kernel_rfl) ?_
    refine hK _ _ ?_
    clear hK K
    try simp only [Act.put, List.getElem_toArray, List.getElem_cons_zero, List.getElem_cons_succ, List.setIfInBounds_toArray, List.set_cons_zero, List.set_cons_succ]
    refine wpAny_ready (rs := [3]) (by decide +kernel) (by simp) ?_
    refine AllReady.cons rfl (fun K hK => ?_) AllReady.nil
    refine step_store_all (by simp [Region.wanted]) 31 _ _ rfl (w.heap.size + 1 + 1 + 1) #[.int .i64 m.kd, .int .i64 m.pe, .int .i64 m.hp, .bool m.hi, .slice A1 m.ps.length c1, .int .i64 (x : Int), .int .u64 (m.su : Int), .int .i64 m.mr.a.c, .int .i64 m.mr.a.s, .string m.mr.k, .slice A2 m.ms.length c2, .slice A3 m.es.length c3] rfl rfl 31 _ TD.out.mid.2 (by kernel_rfl) rfl (by simp [Value.oneCell']) ?_
    refine hK _ _ ?_
    clear hK K
    try simp only [Act.put, List.getElem_toArray, List.getElem_cons_zero, List.getElem_cons_succ, List.setIfInBounds_toArray, List.set_cons_zero, List.set_cons_succ]
    refine wpAny_done (by kernel_rfl) ?_ _
    go_wp2_with fail
    refine bodyPost_ret (results_cell_cell rfl _ _ (w.heap.size + 1 + 1) (w.heap.size + 1 + 1 + 1) 169 31 _ _ _ _ rfl TD.out.fin.1 rfl TD.out.fin.2.1 Tryz.underlying169 rfl (by kernel_rfl) Tryz.underlying31 rfl (by kernel_rfl)) rfl ?_
    have ML := HL.out _ TD.out.fin.2.2
    rw [HF.out]
    exact ⟨q1, _, _, _, rfl, Q1.out, R1.out, ⟨ML.p, ML.q, ML.r⟩, TD.out.fin.2.2, rfl, rfl, rfl⟩
  refine AllReady.cons rfl (fun K hK => ?_) AllReady.nil
  refine step_load_row (by simp [Region.wanted]) 31 _ rfl (w.heap.size + 1) rfl 31 #[.int .i64 m.kd, .int .i64 m.pe, .int .i64 m.hp, .bool m.hi, .slice A1 m.ps.length c1, .int .i64 (x : Int), .int .u64 (m.su : Int), .int .i64 m.mr.a.c, .int .i64 m.mr.a.s, .string m.mr.k, .slice A2 m.ms.length c2, .slice A3 m.es.length c3] _ TD.out.c1 Tryz.underlying31 rfl (by kernel_rfl) ?_
  refine hK _ _ ?_
  clear hK K
  try simp only [Act.put, List.getElem_toArray, List.getElem_cons_zero, List.getElem_cons_succ, List.setIfInBounds_toArray, List.set_cons_zero, List.set_cons_succ]
  refine wpAny_ready (rs := [0]) (by decide +kernel) (by simp) ?_
  refine AllReady.cons rfl (fun K hK => ?_) AllReady.nil
  refine step_load_row (by simp [Region.wanted]) 169 _ rfl w.heap.size rfl 169 #[.slice A bs.length c, .int .i64 (q1 : Int), .int .i64 e1] _ TD.out.c0 Tryz.underlying169 rfl (by kernel_rfl) ?_
  refine hK _ _ ?_
  clear hK K
  try simp only [Act.put, List.getElem_toArray, List.getElem_cons_zero, List.getElem_cons_succ, List.setIfInBounds_toArray, List.set_cons_zero, List.set_cons_succ]
  refine wpAny_ready (rs := [2]) (by decide +kernel) (by simp) ?_
  refine AllReady.cons rfl (fun K hK => ?_) AllReady.nil
  refine step_store_all (by simp [Region.wanted]) 169 _ _ rfl (w.heap.size + 1 + 1) #[.slice A bs.length c, .int .i64 (q1 : Int), .int .i64 e1] rfl rfl 169 _ TD.out.c2 (by kernel_rfl) rfl (by simp [Value.oneCell']) ?_
  refine hK _ _ ?_
  clear hK K
  try simp only [Act.put, List.getElem_toArray, List.getElem_cons_zero, List.getElem_cons_succ, List.setIfInBounds_toArray, List.set_cons_zero, List.set_cons_succ]
  refine wpAny_ready (rs := [3]) (by decide +kernel) (by simp) ?_
  refine AllReady.cons rfl (fun K hK => ?_) AllReady.nil
  refine step_store_all (by simp [Region.wanted]) 31 _ _ rfl (w.heap.size + 1 + 1 + 1) #[.int .i64 m.kd, .int .i64 m.pe, .int .i64 m.hp, .bool m.hi, .slice A1 m.ps.length c1, .int .i64 (x : Int), .int .u64 (m.su : Int), .int .i64 m.mr.a.c, .int .i64 m.mr.a.s, .string m.mr.k, .slice A2 m.ms.length c2, .slice A3 m.es.length c3] rfl rfl 31 _ TD.out.mid.2 (by kernel_rfl) rfl (by simp [Value.oneCell']) ?_
  refine hK _ _ ?_
  clear hK K
  try simp only [Act.put, List.getElem_toArray, List.getElem_cons_zero, List.getElem_cons_succ, List.setIfInBounds_toArray, List.set_cons_zero, List.set_cons_succ]
  refine wpAny_done (by kernel_rfl) ?_ _
  go_wp2_with fail
  refine bodyPost_ret (results_cell_cell rfl _ _ (w.heap.size + 1 + 1) (w.heap.size + 1 + 1 + 1) 169 31 _ _ _ _ rfl TD.out.fin.1 rfl TD.out.fin.2.1 Tryz.underlying169 rfl (by kernel_rfl) Tryz.underlying31 rfl (by kernel_rfl)) rfl ?_
  have ML := HL.out _ TD.out.fin.2.2
  rw [HF.out]
  exact ⟨q1, _, _, _, rfl, Q1.out, R1.out, ⟨ML.p, ML.q, ML.r⟩, TD.out.fin.2.2, rfl, rfl, rfl⟩
set_option maxHeartbeats 3200000 in
theorem rk_one5 (A : Option Addr) (c p0 : Nat) (bs r : List UInt8) (err : Int) (S S2 : Nat → Prop) (m : Ms) (vp vm ve : Value) (w : World) (h : Byt w S (.slice A bs.length c) bs) (hS : ∀ b, S b → b < w.heap.size) (hr : Rest bs r) (hp0 : p0 = bs.length - r.length) (hL : bs.length ≤ 100000) (hl : Ml S2 m vp vm ve w) :
    Calls Tryz.prog 82 #[.agg #[.slice A bs.length c, .int .i64 (p0 : Int), .int .i64 err], .agg #[.int .i64 m.kd, .int .i64 m.pe, .int .i64 m.hp, .bool m.hi, vp, .int .i64 m.nu, .int .u64 (m.su : Int), .int .i64 m.mr.a.c, .int .i64 m.mr.a.s, .string m.mr.k, vm, ve], .int .i64 5] w fun E w' =>
      ∃ (q : Nat) (vp' vm' ve' : Value), E = .returned (.tuple #[.agg #[.slice A bs.length c, .int .i64 (q : Int), .int .i64 (fieldR 5 err r m).1], .agg #[.int .i64 (fieldR 5 err r m).2.2.kd, .int .i64 (fieldR 5 err r m).2.2.pe, .int .i64 (fieldR 5 err r m).2.2.hp, .bool (fieldR 5 err r m).2.2.hi, vp', .int .i64 (fieldR 5 err r m).2.2.nu, .int .u64 ((fieldR 5 err r m).2.2.su : Int), .int .i64 (fieldR 5 err r m).2.2.mr.a.c, .int .i64 (fieldR 5 err r m).2.2.mr.a.s, .string (fieldR 5 err r m).2.2.mr.k, vm', ve']]) ∧ q = bs.length - (fieldR 5 err r m).2.1.length ∧ Rest bs (fieldR 5 err r m).2.1 ∧ Ml (fun b => S2 b ∨ w.heap.size ≤ b) (fieldR 5 err r m).2.2 vp' vm' ve' w' ∧ Only none_ w w' ∧ vp' = vp ∧ vm' = vm ∧ ve' = ve := by
  obtain ⟨A1, c1, A2, c2, A3, c3, ea, eb, ec⟩ := hl.shape
  subst ea eb ec
  obtain ⟨w0, hw0⟩ : ∃ w0, (((w.alloc (.cells #[.slice A bs.length c, .int .i64 (p0 : Int), .int .i64 err] 169)).alloc (.cells #[.int .i64 m.kd, .int .i64 m.pe, .int .i64 m.hp, .bool m.hi, .slice A1 m.ps.length c1, .int .i64 m.nu, .int .u64 (m.su : Int), .int .i64 m.mr.a.c, .int .i64 m.mr.a.s, .string m.mr.k, .slice A2 m.ms.length c2, .slice A3 m.es.length c3] 31)).alloc (.cells #[.slice none 0 0, .int .i64 0, .int .i64 0] 169)).alloc (.cells #[.int .i64 0, .int .i64 0, .int .i64 0, .bool false, .slice none 0 0, .int .i64 0, .int .u64 0, .int .i64 0, .int .i64 0, .string ⟨#[]⟩, .slice none 0 0, .slice none 0 0] 31) = w0 := ⟨_, rfl⟩
  have T0 : Hid (Oz w #[.slice A bs.length c, .int .i64 (p0 : Int), .int .i64 err] #[.int .i64 m.kd, .int .i64 m.pe, .int .i64 m.hp, .bool m.hi, .slice A1 m.ps.length c1, .int .i64 m.nu, .int .u64 (m.su : Int), .int .i64 m.mr.a.c, .int .i64 m.mr.a.s, .string m.mr.k, .slice A2 m.ms.length c2, .slice A3 m.es.length c3] w0) := by rw [Hid, ← hw0]; exact Oz.new w _ _
  have HW := Lib.hid hw0
  have HL := Lib.hid (fun (w' : World) (o : Only none_ w w') => (hl.keep o).mono (T := fun b => S2 b ∨ w.heap.size ≤ b) (fun _ _ h => .inl h))
  have HX := h.only T0.out.ho (fun _ _ h => h)
  have HSX : ∀ b, S b → b < w0.heap.size := fun b hb => Nat.lt_of_lt_of_le (hS b hb) T0.out.ho.size
  have C1 := Lib.hid (rest_take (err := err) HX HSX hr hL p0 hp0 8 (by omega))
  have HF : Hid (fieldR 5 err r m = ((numR err r 8).1, (numR err r 8).2.1, { m with su := (numR err r 8).2.2 })) := rfl
  have hlt := numR_lt err r 8
  obtain ⟨⟨e1, r1, x⟩, ha⟩ : ∃ a, numR err r 8 = a := ⟨_, rfl⟩
  rw [show ((8 : Nat) : Int) = 8 from rfl, ha] at hlt
  rw [ha] at C1 HF
  dsimp only at C1 HF hlt
  clear h hS hr hp0 hL hl hw0 ha HX HSX
  clear hlt
  go_enter Tryz.func82, Tryz.ntmps82
  go_upto_region 1 with fail
  rw [HW.out]
  go_upto_region 41 with (first
    | (refine wpl_load rfl 169 _ rfl w.heap.size rfl 169 #[.slice A bs.length c, .int .i64 (p0 : Int), .int .i64 err] _ T0.out.c0 Tryz.underlying169 rfl (by kernel_rfl) ?_)
    | (go_at_call 183; refine C1.out.mono ?_; rintro E w1 ⟨q1, rfl, hq1, hr1, o1⟩
       have T1 := Lib.hid (T0.out.keep o1)
       have Q1 := Lib.hid hq1
       have R1 := Lib.hid hr1
       clear hq1 hr1 o1)
    | (refine wpList_store_row rfl 169 _ _ rfl w.heap.size #[.slice A bs.length c, .int .i64 (q1 : Int), .int .i64 e1] rfl rfl 169 _ T1.out.c0 (by kernel_rfl) rfl (by simp [Value.oneCell']) ?_
       have T1' := Lib.hid (T1.out.row #[.slice A bs.length c, .int .i64 (q1 : Int), .int .i64 e1])
       have k0 := T1'.out.c1.cell_ (i := 6) rfl
       have f0 := T1'.out.c1.frozen 6
       have T2 := Lib.hid (Oz.cast (ms' := #[.int .i64 m.kd, .int .i64 m.pe, .int .i64 m.hp, .bool m.hi, .slice A1 m.ps.length c1, .int .i64 m.nu, .int .u64 (x : Int), .int .i64 m.mr.a.c, .int .i64 m.mr.a.s, .string m.mr.k, .slice A2 m.ms.length c2, .slice A3 m.es.length c3]) (T1'.out.set 6 (.int .u64 (x : Int))) (by simp))))
  have TD := Lib.hid T2.out.drew
  refine wp_region_any (by kernel_rfl) ?_
  try (change wpAny _ _ _ _ _ _ _ (World.drew _))
  refine wpAny_ready (rs := [0, 1]) (by decide +kernel) (by simp) ?_
  refine AllReady.cons rfl (fun K hK => ?_) ?_
  · refine step_load_row (by simp [Region.wanted]) 169 _ rfl w.heap.size rfl 169 #[.slice A bs.length c, .int .i64 (q1 : Int), .int .i64 e1] _ TD.out.c0 Tryz.underlying169 rfl (by kernel_rfl) ?_
    refine hK _ _ ?_
    clear hK K
    try simp only [Act.put, List.getElem_toArray, List.getElem_cons_zero, List.getElem_cons_succ, List.setIfInBounds_toArray, List.set_cons_zero, List.set_cons_succ]
    refine wpAny_ready (rs := [1, 2]) (by decide +kernel) (by simp) ?_
    refine AllReady.cons rfl (fun K hK => ?_) ?_
    · refine step_load_row (by simp [Region.wanted]) 31 _ rfl (w.heap.size + 1) rfl 31 #[.int .i64 m.kd, .int .i64 m.pe, .int .i64 m.hp, .bool m.hi, .slice A1 m.ps.length c1, .int .i64 m.nu, .int .u64 (x : Int), .int .i64 m.mr.a.c, .int .i64 m.mr.a.s, .string m.mr.k, .slice A2 m.ms.length c2, .slice A3 m.es.length c3] _ TD.out.c1 Tryz.underlying31 rfl (by kernel_rfl) ?_
      refine hK _ _ ?_
      clear hK K
      try simp only [Act.put, List.getElem_toArray, List.getElem_cons_zero, List.getElem_cons_succ, List.setIfInBounds_toArray, List.set_cons_zero, List.set_cons_succ]
      refine wpAny_ready (rs := [2]) (by decide +kernel) (by simp) ?_
      refine AllReady.cons rfl (fun K hK => ?_) AllReady.nil
      refine step_store_all (by simp [Region.wanted]) 169 _ _ rfl (w.heap.size + 1 + 1) #[.slice A bs.length c, .int .i64 (q1 : Int), .int .i64 e1] rfl rfl 169 _ TD.out.c2 (by kernel_rfl) rfl (by simp [Value.oneCell']) ?_
      refine hK _ _ ?_
      clear hK K
      try simp only [Act.put, List.getElem_toArray, List.getElem_cons_zero, List.getElem_cons_succ, List.setIfInBounds_toArray, List.set_cons_zero, List.set_cons_succ]
      refine wpAny_ready (rs := [3]) (by decide +kernel) (by simp) ?_
      refine AllReady.cons rfl (fun K hK => ?_) AllReady.nil
      refine step_store_all (by simp [Region.wanted]) 31 _ _ rfl (w.heap.size + 1 + 1 + 1) #[.int .i64 m.kd, .int .i64 m.pe, .int .i64 m.hp, .bool m.hi, .slice A1 m.ps.length c1, .int .i64 m.nu, .int .u64 (x : Int), .int .i64 m.mr.a.c, .int .i64 m.mr.a.s, .string m.mr.k, .slice A2 m.ms.length c2, .slice A3 m.es.length c3] rfl rfl 31 _ TD.out.mid.2 (by kernel_rfl) rfl (by simp [Value.oneCell']) ?_
      refine hK _ _ ?_
      clear hK K
      try simp only [Act.put, List.getElem_toArray, List.getElem_cons_zero, List.getElem_cons_succ, List.setIfInBounds_toArray, List.set_cons_zero, List.set_cons_succ]
      refine wpAny_done (by kernel_rfl) ?_ _
      go_wp2_with fail
      refine bodyPost_ret (results_cell_cell rfl _ _ (w.heap.size + 1 + 1) (w.heap.size + 1 + 1 + 1) 169 31 _ _ _ _ rfl TD.out.fin.1 rfl TD.out.fin.2.1 Tryz.underlying169 rfl (by kernel_rfl) Tryz.underlying31 rfl (by kernel_rfl)) rfl ?_
      have ML := HL.out _ TD.out.fin.2.2
      rw [HF.out]
      exact ⟨q1, _, _, _, rfl, Q1.out, R1.out, ⟨ML.p, ML.q, ML.r⟩, TD.out.fin.2.2, rfl, rfl, rfl⟩
    refine AllReady.cons rfl (fun K hK => ?_) AllReady.nil
    refine step_store_all (by simp [Region.wanted]) 169 _ _ rfl (w.heap.size + 1 + 1) #[.slice A bs.length c, .int .i64 (q1 : Int), .int .i64 e1] rfl rfl 169 _ TD.out.c2 (by kernel_rfl) rfl (by simp [Value.oneCell']) ?_
    refine hK _ _ ?_
    clear hK K
    try simp only [Act.put, List.getElem_toArray, List.getElem_cons_zero, List.getElem_cons_succ, List.setIfInBounds_toArray, List.set_cons_zero, List.set_cons_succ]
    refine wpAny_ready (rs := [1]) (by decide +kernel) (by simp) ?_
    refine AllReady.cons rfl (fun K hK => ?_) AllReady.nil
    refine step_load_row (by simp [Region.wanted]) 31 _ rfl (w.heap.size + 1) rfl 31 #[.int .i64 m.kd, .int .i64 m.pe, .int .i64 m.hp, .bool m.hi, .slice A1 m.ps.length c1, .int .i64 m.nu, .int .u64 (x : Int), .int .i64 m.mr.a.c, .int .i64 m.mr.a.s, .string m.mr.k, .slice A2 m.ms.length c2, .slice A3 m.es.length c3] _ TD.out.mid.1 Tryz.underlying31 rfl (by kernel_rfl) ?_
    refine hK _ _ ?_
    clear hK K
    try simp only [Act.put, List.getElem_toArray, List.getElem_cons_zero, List.getElem_cons_succ, List.setIfInBounds_toArray, List.set_cons_zero, List.set_cons_succ]
    refine wpAny_ready (rs := [3]) (by decide +kernel) (by simp) ?_
    refine AllReady.cons rfl (fun K hK => ?_) AllReady.nil
    refine step_store_all (by simp [Region.wanted]) 31 _ _ rfl (w.heap.size + 1 + 1 + 1) #[.int .i64 m.kd, .int .i64 m.pe, .int .i64 m.hp, .bool m.hi, .slice A1 m.ps.length c1, .int .i64 m.nu, .int .u64 (x : Int), .int .i64 m.mr.a.c, .int .i64 m.mr.a.s, .string m.mr.k, .slice A2 m.ms.length c2, .slice A3 m.es.length c3] rfl rfl 31 _ TD.out.mid.2 (by kernel_rfl) rfl (by simp [Value.oneCell']) ?_
    refine hK _ _ ?_
    clear hK K
    try simp only [Act.put, List.getElem_toArray, List.getElem_cons_zero, List.getElem_cons_succ, List.setIfInBounds_toArray, List.set_cons_zero, List.set_cons_succ]
    refine wpAny_done (by kernel_rfl) ?_ _
    go_wp2_with fail
    refine bodyPost_ret (results_cell_cell rfl _ _ (w.heap.size + 1 + 1) (w.heap.size + 1 + 1 + 1) 169 31 _ _ _ _ rfl TD.out.fin.1 rfl TD.out.fin.2.1 Tryz.underlying169 rfl (by kernel_rfl) Tryz.underlying31 rfl (by kernel_rfl)) rfl ?_
    have ML := HL.out _ TD.out.fin.2.2
    rw [HF.out]
    exact ⟨q1, _, _, _, rfl, Q1.out, R1.out, ⟨ML.p, ML.q, ML.r⟩, TD.out.fin.2.2, rfl, rfl, rfl⟩
  refine AllReady.cons rfl (fun K hK => ?_) AllReady.nil
  refine step_load_row (by simp [Region.wanted]) 31 _ rfl (w.heap.size + 1) rfl 31 #[.int .i64 m.kd, .int .i64 m.pe, .int .i64 m.hp, .bool m.hi, .slice A1 m.ps.length c1, .int .i64 m.nu, .int .u64 (x : Int), .int .i64 m.mr.a.c, .int .i64 m.mr.a.s, .string m.mr.k, .slice A2 m.ms.length c2, .slice A3 m.es.length c3] _ TD.out.c1 Tryz.underlying31 rfl (by kernel_rfl) ?_
  refine hK _ _ ?_
  clear hK K
  try simp only [Act.put, List.getElem_toArray, List.getElem_cons_zero, List.getElem_cons_succ, List.setIfInBounds_toArray, List.set_cons_zero, List.set_cons_succ]
  refine wpAny_ready (rs := [0]) (by decide +kernel) (by simp) ?_
  refine AllReady.cons rfl (fun K hK => ?_) AllReady.nil
  refine step_load_row (by simp [Region.wanted]) 169 _ rfl w.heap.size rfl 169 #[.slice A bs.length c, .int .i64 (q1 : Int), .int .i64 e1] _ TD.out.c0 Tryz.underlying169 rfl (by kernel_rfl) ?_
  refine hK _ _ ?_
  clear hK K
  try simp only [Act.put, List.getElem_toArray, List.getElem_cons_zero, List.getElem_cons_succ, List.setIfInBounds_toArray, List.set_cons_zero, List.set_cons_succ]
  refine wpAny_ready (rs := [2]) (by decide +kernel) (by simp) ?_
  refine AllReady.cons rfl (fun K hK => ?_) AllReady.nil
  refine step_store_all (by simp [Region.wanted]) 169 _ _ rfl (w.heap.size + 1 + 1) #[.slice A bs.length c, .int .i64 (q1 : Int), .int .i64 e1] rfl rfl 169 _ TD.out.c2 (by kernel_rfl) rfl (by simp [Value.oneCell']) ?_
  refine hK _ _ ?_
  clear hK K
  try simp only [Act.put, List.getElem_toArray, List.getElem_cons_zero, List.getElem_cons_succ, List.setIfInBounds_toArray, List.set_cons_zero, List.set_cons_succ]
  refine wpAny_ready (rs := [3]) (by decide +kernel) (by simp) ?_
  refine AllReady.cons rfl (fun K hK => ?_) AllReady.nil
  refine step_store_all (by simp [Region.wanted]) 31 _ _ rfl (w.heap.size + 1 + 1 + 1) #[.int .i64 m.kd, .int .i64 m.pe, .int .i64 m.hp, .bool m.hi, .slice A1 m.ps.length c1, .int .i64 m.nu, .int .u64 (x : Int), .int .i64 m.mr.a.c, .int .i64 m.mr.a.s, .string m.mr.k, .slice A2 m.ms.length c2, .slice A3 m.es.length c3] rfl rfl 31 _ TD.out.mid.2 (by kernel_rfl) rfl (by simp [Value.oneCell']) ?_
  refine hK _ _ ?_
  clear hK K
  try simp only [Act.put, List.getElem_toArray, List.getElem_cons_zero, List.getElem_cons_succ, List.setIfInBounds_toArray, List.set_cons_zero, List.set_cons_succ]
  refine wpAny_done (by kernel_rfl) ?_ _
  go_wp2_with fail
  refine bodyPost_ret (results_cell_cell rfl _ _ (w.heap.size + 1 + 1) (w.heap.size + 1 + 1 + 1) 169 31 _ _ _ _ rfl TD.out.fin.1 rfl TD.out.fin.2.1 Tryz.underlying169 rfl (by kernel_rfl) Tryz.underlying31 rfl (by kernel_rfl)) rfl ?_
  have ML := HL.out _ TD.out.fin.2.2
  rw [HF.out]
  exact ⟨q1, _, _, _, rfl, Q1.out, R1.out, ⟨ML.p, ML.q, ML.r⟩, TD.out.fin.2.2, rfl, rfl, rfl⟩
set_option maxHeartbeats 3200000 in
theorem rk_one6 (A : Option Addr) (c p0 : Nat) (bs r : List UInt8) (err : Int) (S S2 : Nat → Prop) (m : Ms) (vp vm ve : Value) (w : World) (h : Byt w S (.slice A bs.length c) bs) (hS : ∀ b, S b → b < w.heap.size) (hr : Rest bs r) (hp0 : p0 = bs.length - r.length) (hL : bs.length ≤ 100000) (hl : Ml S2 m vp vm ve w) :
    Calls Tryz.prog 82 #[.agg #[.slice A bs.length c, .int .i64 (p0 : Int), .int .i64 err], .agg #[.int .i64 m.kd, .int .i64 m.pe, .int .i64 m.hp, .bool m.hi, vp, .int .i64 m.nu, .int .u64 (m.su : Int), .int .i64 m.mr.a.c, .int .i64 m.mr.a.s, .string m.mr.k, vm, ve], .int .i64 6] w fun E w' =>
      ∃ (q : Nat) (vp' vm' ve' : Value), E = .returned (.tuple #[.agg #[.slice A bs.length c, .int .i64 (q : Int), .int .i64 (fieldR 6 err r m).1], .agg #[.int .i64 (fieldR 6 err r m).2.2.kd, .int .i64 (fieldR 6 err r m).2.2.pe, .int .i64 (fieldR 6 err r m).2.2.hp, .bool (fieldR 6 err r m).2.2.hi, vp', .int .i64 (fieldR 6 err r m).2.2.nu, .int .u64 ((fieldR 6 err r m).2.2.su : Int), .int .i64 (fieldR 6 err r m).2.2.mr.a.c, .int .i64 (fieldR 6 err r m).2.2.mr.a.s, .string (fieldR 6 err r m).2.2.mr.k, vm', ve']]) ∧ q = bs.length - (fieldR 6 err r m).2.1.length ∧ Rest bs (fieldR 6 err r m).2.1 ∧ Ml (fun b => S2 b ∨ w.heap.size ≤ b) (fieldR 6 err r m).2.2 vp' vm' ve' w' ∧ Only none_ w w' ∧ vp' = vp ∧ vm' = vm ∧ ve' = ve := by
  obtain ⟨A1, c1, A2, c2, A3, c3, ea, eb, ec⟩ := hl.shape
  subst ea eb ec
  obtain ⟨w0, hw0⟩ : ∃ w0, (((w.alloc (.cells #[.slice A bs.length c, .int .i64 (p0 : Int), .int .i64 err] 169)).alloc (.cells #[.int .i64 m.kd, .int .i64 m.pe, .int .i64 m.hp, .bool m.hi, .slice A1 m.ps.length c1, .int .i64 m.nu, .int .u64 (m.su : Int), .int .i64 m.mr.a.c, .int .i64 m.mr.a.s, .string m.mr.k, .slice A2 m.ms.length c2, .slice A3 m.es.length c3] 31)).alloc (.cells #[.slice none 0 0, .int .i64 0, .int .i64 0] 169)).alloc (.cells #[.int .i64 0, .int .i64 0, .int .i64 0, .bool false, .slice none 0 0, .int .i64 0, .int .u64 0, .int .i64 0, .int .i64 0, .string ⟨#[]⟩, .slice none 0 0, .slice none 0 0] 31) = w0 := ⟨_, rfl⟩
  have T0 : Hid (Oz w #[.slice A bs.length c, .int .i64 (p0 : Int), .int .i64 err] #[.int .i64 m.kd, .int .i64 m.pe, .int .i64 m.hp, .bool m.hi, .slice A1 m.ps.length c1, .int .i64 m.nu, .int .u64 (m.su : Int), .int .i64 m.mr.a.c, .int .i64 m.mr.a.s, .string m.mr.k, .slice A2 m.ms.length c2, .slice A3 m.es.length c3] w0) := by rw [Hid, ← hw0]; exact Oz.new w _ _
  have HW := Lib.hid hw0
  have HL := Lib.hid (fun (w' : World) (o : Only none_ w w') => (hl.keep o).mono (T := fun b => S2 b ∨ w.heap.size ≤ b) (fun _ _ h => .inl h))
  have HX := h.only T0.out.ho (fun _ _ h => h)
  have HSX : ∀ b, S b → b < w0.heap.size := fun b hb => Nat.lt_of_lt_of_le (hS b hb) T0.out.ho.size
  have C1 := Lib.hid (rk_mark A c p0 bs r err S _ HX HSX hr hp0 hL)
  have HF : Hid (fieldR 6 err r m = ((markR err r).1, (markR err r).2.1, { m with mr := (markR err r).2.2 })) := rfl
  obtain ⟨⟨e1, r1, x⟩, ha⟩ : ∃ a, markR err r = a := ⟨_, rfl⟩
  rw [ha] at C1 HF
  dsimp only at C1 HF
  clear h hS hr hp0 hL hl hw0 ha HX HSX
  obtain ⟨⟨xc, xs⟩, xk⟩ := x
  dsimp only at C1 HF
  go_enter Tryz.func82, Tryz.ntmps82
  go_upto_region 1 with fail
  rw [HW.out]
  go_upto_region 41 with (first
    | (refine wpl_load rfl 169 _ rfl w.heap.size rfl 169 #[.slice A bs.length c, .int .i64 (p0 : Int), .int .i64 err] _ T0.out.c0 Tryz.underlying169 rfl (by kernel_rfl) ?_)
    | (go_at_call 186; refine C1.out.mono ?_; rintro E w1 ⟨q1, rfl, hq1, hr1, o1⟩
       have T1 := Lib.hid (T0.out.keep o1)
       have Q1 := Lib.hid hq1
       have R1 := Lib.hid hr1
       clear hq1 hr1 o1)
    | (refine wpList_store_row rfl 169 _ _ rfl w.heap.size #[.slice A bs.length c, .int .i64 (q1 : Int), .int .i64 e1] rfl rfl 169 _ T1.out.c0 (by kernel_rfl) rfl (by simp [Value.oneCell']) ?_
       have T1' := Lib.hid (T1.out.row #[.slice A bs.length c, .int .i64 (q1 : Int), .int .i64 e1])
       have k0 := T1'.out.c1.cell_ (i := 7) rfl
       have f0 := T1'.out.c1.frozen 7
       have k1 := (T1'.out.set 7 (.int .i64 xc)).c1.cell_ (i := 8) rfl
       have f1 := (T1'.out.set 7 (.int .i64 xc)).c1.frozen 8
       have k2 := ((T1'.out.set 7 (.int .i64 xc)).set 8 (.int .i64 xs)).c1.cell_ (i := 9) rfl
       have f2 := ((T1'.out.set 7 (.int .i64 xc)).set 8 (.int .i64 xs)).c1.frozen 9
       have T2 := Lib.hid (Oz.cast (ms' := #[.int .i64 m.kd, .int .i64 m.pe, .int .i64 m.hp, .bool m.hi, .slice A1 m.ps.length c1, .int .i64 m.nu, .int .u64 (m.su : Int), .int .i64 xc, .int .i64 xs, .string xk, .slice A2 m.ms.length c2, .slice A3 m.es.length c3]) (((T1'.out.set 7 (.int .i64 xc)).set 8 (.int .i64 xs)).set 9 (.string xk)) (by simp))))
  have TD := Lib.hid T2.out.drew
  refine wp_region_any (by kernel_rfl) ?_
  try (change wpAny _ _ _ _ _ _ _ (World.drew _))
  refine wpAny_ready (rs := [0, 1]) (by decide +kernel) (by simp) ?_
  refine AllReady.cons rfl (fun K hK => ?_) ?_
  · refine step_load_row (by simp [Region.wanted]) 169 _ rfl w.heap.size rfl 169 #[.slice A bs.length c, .int .i64 (q1 : Int), .int .i64 e1] _ TD.out.c0 Tryz.underlying169 rfl (by kernel_rfl) ?_
    refine hK _ _ ?_
    clear hK K
    try simp only [Act.put, List.getElem_toArray, List.getElem_cons_zero, List.getElem_cons_succ, List.setIfInBounds_toArray, List.set_cons_zero, List.set_cons_succ]
    refine wpAny_ready (rs := [1, 2]) (by decide +kernel) (by simp) ?_
    refine AllReady.cons rfl (fun K hK => ?_) ?_
    · refine step_load_row (by simp [Region.wanted]) 31 _ rfl (w.heap.size + 1) rfl 31 #[.int .i64 m.kd, .int .i64 m.pe, .int .i64 m.hp, .bool m.hi, .slice A1 m.ps.length c1, .int .i64 m.nu, .int .u64 (m.su : Int), .int .i64 xc, .int .i64 xs, .string xk, .slice A2 m.ms.length c2, .slice A3 m.es.length c3] _ TD.out.c1 Tryz.underlying31 rfl (by kernel_rfl) ?_
      refine hK _ _ ?_
      clear hK K
      try simp only [Act.put, List.getElem_toArray, List.getElem_cons_zero, List.getElem_cons_succ, List.setIfInBounds_toArray, List.set_cons_zero, List.set_cons_succ]
      refine wpAny_ready (rs := [2]) (by decide +kernel) (by simp) ?_
      refine AllReady.cons rfl (fun K hK => ?_) AllReady.nil
      refine step_store_all (by simp [Region.wanted]) 169 _ _ rfl (w.heap.size + 1 + 1) #[.slice A bs.length c, .int .i64 (q1 : Int), .int .i64 e1] rfl rfl 169 _ TD.out.c2 (by kernel_rfl) rfl (by simp [Value.oneCell']) ?_
      refine hK _ _ ?_
      clear hK K
      try simp only [Act.put, List.getElem_toArray, List.getElem_cons_zero, List.getElem_cons_succ, List.setIfInBounds_toArray, List.set_cons_zero, List.set_cons_succ]
      refine wpAny_ready (rs := [3]) (by decide +kernel) (by simp) ?_
      refine AllReady.cons rfl (fun K hK => ?_) AllReady.nil
      refine step_store_all (by simp [Region.wanted]) 31 _ _ rfl (w.heap.size + 1 + 1 + 1) #[.int .i64 m.kd, .int .i64 m.pe, .int .i64 m.hp, .bool m.hi, .slice A1 m.ps.length c1, .int .i64 m.nu, .int .u64 (m.su : Int), .int .i64 xc, .int .i64 xs, .string xk, .slice A2 m.ms.length c2, .slice A3 m.es.length c3] rfl rfl 31 _ TD.out.mid.2 (by kernel_rfl) rfl (by simp [Value.oneCell']) ?_
      refine hK _ _ ?_
      clear hK K
      try simp only [Act.put, List.getElem_toArray, List.getElem_cons_zero, List.getElem_cons_succ, List.setIfInBounds_toArray, List.set_cons_zero, List.set_cons_succ]
      refine wpAny_done (by kernel_rfl) ?_ _
      go_wp2_with fail
      refine bodyPost_ret (results_cell_cell rfl _ _ (w.heap.size + 1 + 1) (w.heap.size + 1 + 1 + 1) 169 31 _ _ _ _ rfl TD.out.fin.1 rfl TD.out.fin.2.1 Tryz.underlying169 rfl (by kernel_rfl) Tryz.underlying31 rfl (by kernel_rfl)) rfl ?_
      have ML := HL.out _ TD.out.fin.2.2
      rw [HF.out]
      exact ⟨q1, _, _, _, rfl, Q1.out, R1.out, ⟨ML.p, ML.q, ML.r⟩, TD.out.fin.2.2, rfl, rfl, rfl⟩
    refine AllReady.cons rfl (fun K hK => ?_) AllReady.nil
    refine step_store_all (by simp [Region.wanted]) 169 _ _ rfl (w.heap.size + 1 + 1) #[.slice A bs.length c, .int .i64 (q1 : Int), .int .i64 e1] rfl rfl 169 _ TD.out.c2 (by kernel_rfl) rfl (by simp [Value.oneCell']) ?_
    refine hK _ _ ?_
    clear hK K
    try simp only [Act.put, List.getElem_toArray, List.getElem_cons_zero, List.getElem_cons_succ, List.setIfInBounds_toArray, List.set_cons_zero, List.set_cons_succ]
    refine wpAny_ready (rs := [1]) (by decide +kernel) (by simp) ?_
    refine AllReady.cons rfl (fun K hK => ?_) AllReady.nil
    refine step_load_row (by simp [Region.wanted]) 31 _ rfl (w.heap.size + 1) rfl 31 #[.int .i64 m.kd, .int .i64 m.pe, .int .i64 m.hp, .bool m.hi, .slice A1 m.ps.length c1, .int .i64 m.nu, .int .u64 (m.su : Int), .int .i64 xc, .int .i64 xs, .string xk, .slice A2 m.ms.length c2, .slice A3 m.es.length c3] _ TD.out.mid.1 Tryz.underlying31 rfl (by kernel_rfl) ?_
    refine hK _ _ ?_
    clear hK K
    try simp only [Act.put, List.getElem_toArray, List.getElem_cons_zero, List.getElem_cons_succ, List.setIfInBounds_toArray, List.set_cons_zero, List.set_cons_succ]
    refine wpAny_ready (rs := [3]) (by decide +kernel) (by simp) ?_
    refine AllReady.cons rfl (fun K hK => ?_) AllReady.nil
    refine step_store_all (by simp [Region.wanted]) 31 _ _ rfl (w.heap.size + 1 + 1 + 1) #[.int .i64 m.kd, .int .i64 m.pe, .int .i64 m.hp, .bool m.hi, .slice A1 m.ps.length c1, .int .i64 m.nu, .int .u64 (m.su : Int), .int .i64 xc, .int .i64 xs, .string xk, .slice A2 m.ms.length c2, .slice A3 m.es.length c3] rfl rfl 31 _ TD.out.mid.2 (by kernel_rfl) rfl (by simp [Value.oneCell']) ?_
    refine hK _ _ ?_
    clear hK K
    try simp only [Act.put, List.getElem_toArray, List.getElem_cons_zero, List.getElem_cons_succ, List.setIfInBounds_toArray, List.set_cons_zero, List.set_cons_succ]
    refine wpAny_done (by kernel_rfl) ?_ _
    go_wp2_with fail
    refine bodyPost_ret (results_cell_cell rfl _ _ (w.heap.size + 1 + 1) (w.heap.size + 1 + 1 + 1) 169 31 _ _ _ _ rfl TD.out.fin.1 rfl TD.out.fin.2.1 Tryz.underlying169 rfl (by kernel_rfl) Tryz.underlying31 rfl (by kernel_rfl)) rfl ?_
    have ML := HL.out _ TD.out.fin.2.2
    rw [HF.out]
    exact ⟨q1, _, _, _, rfl, Q1.out, R1.out, ⟨ML.p, ML.q, ML.r⟩, TD.out.fin.2.2, rfl, rfl, rfl⟩
  refine AllReady.cons rfl (fun K hK => ?_) AllReady.nil
  refine step_load_row (by simp [Region.wanted]) 31 _ rfl (w.heap.size + 1) rfl 31 #[.int .i64 m.kd, .int .i64 m.pe, .int .i64 m.hp, .bool m.hi, .slice A1 m.ps.length c1, .int .i64 m.nu, .int .u64 (m.su : Int), .int .i64 xc, .int .i64 xs, .string xk, .slice A2 m.ms.length c2, .slice A3 m.es.length c3] _ TD.out.c1 Tryz.underlying31 rfl (by kernel_rfl) ?_
  refine hK _ _ ?_
  clear hK K
  try simp only [Act.put, List.getElem_toArray, List.getElem_cons_zero, List.getElem_cons_succ, List.setIfInBounds_toArray, List.set_cons_zero, List.set_cons_succ]
  refine wpAny_ready (rs := [0]) (by decide +kernel) (by simp) ?_
  refine AllReady.cons rfl (fun K hK => ?_) AllReady.nil
  refine step_load_row (by simp [Region.wanted]) 169 _ rfl w.heap.size rfl 169 #[.slice A bs.length c, .int .i64 (q1 : Int), .int .i64 e1] _ TD.out.c0 Tryz.underlying169 rfl (by kernel_rfl) ?_
  refine hK _ _ ?_
  clear hK K
  try simp only [Act.put, List.getElem_toArray, List.getElem_cons_zero, List.getElem_cons_succ, List.setIfInBounds_toArray, List.set_cons_zero, List.set_cons_succ]
  refine wpAny_ready (rs := [2]) (by decide +kernel) (by simp) ?_
  refine AllReady.cons rfl (fun K hK => ?_) AllReady.nil
  refine step_store_all (by simp [Region.wanted]) 169 _ _ rfl (w.heap.size + 1 + 1) #[.slice A bs.length c, .int .i64 (q1 : Int), .int .i64 e1] rfl rfl 169 _ TD.out.c2 (by kernel_rfl) rfl (by simp [Value.oneCell']) ?_
  refine hK _ _ ?_
  clear hK K
  try simp only [Act.put, List.getElem_toArray, List.getElem_cons_zero, List.getElem_cons_succ, List.setIfInBounds_toArray, List.set_cons_zero, List.set_cons_succ]
  refine wpAny_ready (rs := [3]) (by decide +kernel) (by simp) ?_
  refine AllReady.cons rfl (fun K hK => ?_) AllReady.nil
  refine step_store_all (by simp [Region.wanted]) 31 _ _ rfl (w.heap.size + 1 + 1 + 1) #[.int .i64 m.kd, .int .i64 m.pe, .int .i64 m.hp, .bool m.hi, .slice A1 m.ps.length c1, .int .i64 m.nu, .int .u64 (m.su : Int), .int .i64 xc, .int .i64 xs, .string xk, .slice A2 m.ms.length c2, .slice A3 m.es.length c3] rfl rfl 31 _ TD.out.mid.2 (by kernel_rfl) rfl (by simp [Value.oneCell']) ?_
  refine hK _ _ ?_
  clear hK K
  try simp only [Act.put, List.getElem_toArray, List.getElem_cons_zero, List.getElem_cons_succ, List.setIfInBounds_toArray, List.set_cons_zero, List.set_cons_succ]
  refine wpAny_done (by kernel_rfl) ?_ _
  go_wp2_with fail
  refine bodyPost_ret (results_cell_cell rfl _ _ (w.heap.size + 1 + 1) (w.heap.size + 1 + 1 + 1) 169 31 _ _ _ _ rfl TD.out.fin.1 rfl TD.out.fin.2.1 Tryz.underlying169 rfl (by kernel_rfl) Tryz.underlying31 rfl (by kernel_rfl)) rfl ?_
  have ML := HL.out _ TD.out.fin.2.2
  rw [HF.out]
  exact ⟨q1, _, _, _, rfl, Q1.out, R1.out, ⟨ML.p, ML.q, ML.r⟩, TD.out.fin.2.2, rfl, rfl, rfl⟩
end Go.Proofs.YtlieolehpmobfaaGreatDoor
end
