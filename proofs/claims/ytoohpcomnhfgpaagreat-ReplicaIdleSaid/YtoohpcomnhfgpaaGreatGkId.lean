/- What ReplicaIdle comes to. No statement of the seat is proved here. -/
import Derived.Test.YtoohpcomnhfgpaaGreatGk1
import Derived.ChangeKeysEq
import Derived.Laws.StructEq
import Derived.Test.YtoohpcomnhfgpaaGreatChecked
import Derived.Test.YtoohpcomnhfgpaaGreatGk12
import Derived.Laws.LoneSync
import Derived.Test.YtoohpcomnhfgpaaGreatGk2
import Derived.Test.YtoohpcomnhfgpaaGreatGk20
import Derived.Test.YtoohpcomnhfgpaaGreatGk11
import Derived.Test.YtoohpcomnhfgpaaGreatGk8
import Derived.LoopTactic
import Derived.Deep.DeepCutAuto
import Derived.Deep.CutBlock
import Derived.Shelf.SlGeneric
import Derived.Shelf.SlIter.Nil
import Derived.Shelf.SortM.Plain
import Derived.Shelf.SortM.SortNone
import Derived.Ground.GgzProg
import Derived.Ground.SlgmProg
import Derived.Test.YtoohpcomnhfgpaaGreatProg
import Derived.Sort.KeysCollected
import Derived.Test.YtoohpcomnhfgpaaGreatGk4
import Derived.Test.YtoohpcomnhfgpaaGreatGk5
import Derived.BigQuiet
import Derived.Test.YtoohpcomnhfgpaaGreatGk18
import Derived.Test.YtoohpcomnhfgpaaGreatGk19
section
namespace Go.Proofs.YtoohpcomnhfgpaaGreat
set_option maxRecDepth 100000
def enAlike (x y : En) : Bool := enEq ⟨x.k, x.v, x.d, x.s, x.a, x.p, y.g⟩ y
end Go.Proofs.YtoohpcomnhfgpaaGreat
end
section
namespace Go.Proofs.YtoohpcomnhfgpaaGreat
set_option linter.all false
end Go.Proofs.YtoohpcomnhfgpaaGreat
end
section
namespace Go.Proofs.YtoohpcomnhfgpaaGreat
open Go.RowKit
set_option linter.all false
set_option maxRecDepth 100000
theorem neq_of {P : Program} {w : World} {t : TypeId} {xs ys : Array Value} {b : Bool} (h : (Op.equalIn 10000 t (.agg xs) (.agg ys)).run P w = .ok b w) : (binOp .neq t (.agg xs) (.agg ys)).run P w = .ok (.bool (!b)) w := by
  rw [run_neq_struct, h]; rfl
end Go.Proofs.YtoohpcomnhfgpaaGreat
end
section
namespace Go.Proofs.YtoohpcomnhfgpaaGreat
open Go.RowKit
set_option linter.all false
set_option maxRecDepth 100000
theorem eq_ref_stamp (w : World) (x y : St) (d : Nat) : (Op.equalIn (d + 2) 48 (.agg #[.int .i64 x.c, .int .i64 x.s]) (.agg #[.int .i64 y.c, .int .i64 y.s])).run Tryz.prog w = .ok (stEq x y) w := by
  rw [eq_struct Tryz.underlying48 (by kernel_rfl)]
  have e : ∀ (a b : Int), (Op.equalIn (d + 1) 3 (.int .i64 a) (.int .i64 b)).run Tryz.prog w = .ok (a == b) w := fun a b => run_equalIn_int w d 3 .i64 .i64 a b Tryz.underlying3
  simp only [stEq]
  cases h1 : x.c == y.c <;> cases h2 : x.s == y.s <;> simp [Op.eqFields, part, isAgg, run_underlying Tryz.underlying3, e, h1, h2]
theorem eq_ref_entry (w : World) (x y : En) (d : Nat) : (Op.equalIn (d + 3) 50 (.agg #[.string x.k, .string x.v, .bool x.d, .int .i64 x.s.c, .int .i64 x.s.s, .int .i64 x.a.c, .int .i64 x.a.s, .int .i64 x.p, .int .i64 x.g]) (.agg #[.string y.k, .string y.v, .bool y.d, .int .i64 y.s.c, .int .i64 y.s.s, .int .i64 y.a.c, .int .i64 y.a.s, .int .i64 y.p, .int .i64 y.g])).run Tryz.prog w = .ok (enEq x y) w := by
  rw [eq_struct Tryz.underlying50 (by kernel_rfl) (d + 2)]
  have e1 : ∀ (a b : ByteArray), (Op.equalIn (d + 2) 9 (.string a) (.string b)).run Tryz.prog w = .ok (a.toList == b.toList) w := fun a b => run_equalIn_string w (d + 1) 9 a b Tryz.underlying9
  have e2 : ∀ (a b : Bool), (Op.equalIn (d + 2) 4 (.bool a) (.bool b)).run Tryz.prog w = .ok (a == b) w := fun a b => run_equalIn_bool w (d + 1) 4 a b Tryz.underlying4
  have e3 : ∀ (a b : Int), (Op.equalIn (d + 2) 3 (.int .i64 a) (.int .i64 b)).run Tryz.prog w = .ok (a == b) w := fun a b => run_equalIn_int w (d + 1) 3 .i64 .i64 a b Tryz.underlying3
  have e4 := eq_ref_stamp w x.s y.s d
  have e5 := eq_ref_stamp w x.a y.a d
  obtain ⟨i0, hi0, hz0⟩ : ∃ i0, Tryz.prog.info? 48 = some i0 ∧ i0.size = 2 := by
    have : (Tryz.prog.info? 48).map (·.size) = some 2 := by kernel_rfl
    cases h : Tryz.prog.info? 48 with
    | none => rw [h] at this; cases this
    | some i0 => rw [h] at this; simp at this; exact ⟨i0, rfl, this⟩
  have p1 : (part 48 #[.string x.k, .string x.v, .bool x.d, .int .i64 x.s.c, .int .i64 x.s.s, .int .i64 x.a.c, .int .i64 x.a.s, .int .i64 x.p, .int .i64 x.g] 3).run Tryz.prog w = .ok (.agg #[.int .i64 x.s.c, .int .i64 x.s.s]) w := by
    simp [part, isAgg, run_underlying Tryz.underlying48, sizeOf, typeInfo, hi0, hz0]
  have p2 : (part 48 #[.string x.k, .string x.v, .bool x.d, .int .i64 x.s.c, .int .i64 x.s.s, .int .i64 x.a.c, .int .i64 x.a.s, .int .i64 x.p, .int .i64 x.g] 5).run Tryz.prog w = .ok (.agg #[.int .i64 x.a.c, .int .i64 x.a.s]) w := by
    simp [part, isAgg, run_underlying Tryz.underlying48, sizeOf, typeInfo, hi0, hz0]
  have q1 : (part 48 #[.string y.k, .string y.v, .bool y.d, .int .i64 y.s.c, .int .i64 y.s.s, .int .i64 y.a.c, .int .i64 y.a.s, .int .i64 y.p, .int .i64 y.g] 3).run Tryz.prog w = .ok (.agg #[.int .i64 y.s.c, .int .i64 y.s.s]) w := by
    simp [part, isAgg, run_underlying Tryz.underlying48, sizeOf, typeInfo, hi0, hz0]
  have q2 : (part 48 #[.string y.k, .string y.v, .bool y.d, .int .i64 y.s.c, .int .i64 y.s.s, .int .i64 y.a.c, .int .i64 y.a.s, .int .i64 y.p, .int .i64 y.g] 5).run Tryz.prog w = .ok (.agg #[.int .i64 y.a.c, .int .i64 y.a.s]) w := by
    simp [part, isAgg, run_underlying Tryz.underlying48, sizeOf, typeInfo, hi0, hz0]
  have ps : ∀ (cs : Array Value) (i : Nat) (u : Value), cs[i]? = some u → (part 9 cs i).run Tryz.prog w = .ok u w := fun cs i u h => by simp [part, isAgg, run_underlying Tryz.underlying9, h]
  have pb : ∀ (cs : Array Value) (i : Nat) (u : Value), cs[i]? = some u → (part 4 cs i).run Tryz.prog w = .ok u w := fun cs i u h => by simp [part, isAgg, run_underlying Tryz.underlying4, h]
  have pi : ∀ (cs : Array Value) (i : Nat) (u : Value), cs[i]? = some u → (part 3 cs i).run Tryz.prog w = .ok u w := fun cs i u h => by simp [part, isAgg, run_underlying Tryz.underlying3, h]
  have s1 := e1 x.k y.k
  have s2 := e1 x.v y.v
  have s3 := e2 x.d y.d
  have s6 := e3 x.p y.p
  have s7 := e3 x.g y.g
  unfold enEq
  generalize (x.k.toList == y.k.toList) = b1 at *
  generalize (x.v.toList == y.v.toList) = b2 at *
  generalize (x.d == y.d) = b3 at *
  generalize stEq x.s y.s = b4 at *
  generalize stEq x.a y.a = b5 at *
  generalize (x.p == y.p) = b6 at *
  generalize (x.g == y.g) = b7 at *
  have r0 := ps #[.string x.k, .string x.v, .bool x.d, .int .i64 x.s.c, .int .i64 x.s.s, .int .i64 x.a.c, .int .i64 x.a.s, .int .i64 x.p, .int .i64 x.g] 0 _ rfl
  have r1 := ps #[.string y.k, .string y.v, .bool y.d, .int .i64 y.s.c, .int .i64 y.s.s, .int .i64 y.a.c, .int .i64 y.a.s, .int .i64 y.p, .int .i64 y.g] 0 _ rfl
  have r2 := ps #[.string x.k, .string x.v, .bool x.d, .int .i64 x.s.c, .int .i64 x.s.s, .int .i64 x.a.c, .int .i64 x.a.s, .int .i64 x.p, .int .i64 x.g] 1 _ rfl
  have r3 := ps #[.string y.k, .string y.v, .bool y.d, .int .i64 y.s.c, .int .i64 y.s.s, .int .i64 y.a.c, .int .i64 y.a.s, .int .i64 y.p, .int .i64 y.g] 1 _ rfl
  have r4 := pb #[.string x.k, .string x.v, .bool x.d, .int .i64 x.s.c, .int .i64 x.s.s, .int .i64 x.a.c, .int .i64 x.a.s, .int .i64 x.p, .int .i64 x.g] 2 _ rfl
  have r5 := pb #[.string y.k, .string y.v, .bool y.d, .int .i64 y.s.c, .int .i64 y.s.s, .int .i64 y.a.c, .int .i64 y.a.s, .int .i64 y.p, .int .i64 y.g] 2 _ rfl
  have r6 := pi #[.string x.k, .string x.v, .bool x.d, .int .i64 x.s.c, .int .i64 x.s.s, .int .i64 x.a.c, .int .i64 x.a.s, .int .i64 x.p, .int .i64 x.g] 7 _ rfl
  have r7 := pi #[.string y.k, .string y.v, .bool y.d, .int .i64 y.s.c, .int .i64 y.s.s, .int .i64 y.a.c, .int .i64 y.a.s, .int .i64 y.p, .int .i64 y.g] 7 _ rfl
  have r8 := pi #[.string x.k, .string x.v, .bool x.d, .int .i64 x.s.c, .int .i64 x.s.s, .int .i64 x.a.c, .int .i64 x.a.s, .int .i64 x.p, .int .i64 x.g] 8 _ rfl
  have r9 := pi #[.string y.k, .string y.v, .bool y.d, .int .i64 y.s.c, .int .i64 y.s.s, .int .i64 y.a.c, .int .i64 y.a.s, .int .i64 y.p, .int .i64 y.g] 8 _ rfl
  clear ps pb pi e1 e2 e3
  cases b1
  · simp [Op.eqFields, r0, r1, s1]
  cases b2
  · simp [Op.eqFields, r0, r1, r2, r3, s1, s2]
  cases b3
  · simp [Op.eqFields, r0, r1, r2, r3, r4, r5, s1, s2, s3]
  cases b4
  · simp [Op.eqFields, r0, r1, r2, r3, r4, r5, p1, q1, s1, s2, s3, e4]
  cases b5
  · simp [Op.eqFields, r0, r1, r2, r3, r4, r5, p1, q1, p2, q2, s1, s2, s3, e4, e5]
  cases b6
  · simp [Op.eqFields, r0, r1, r2, r3, r4, r5, p1, q1, p2, q2, r6, r7, s1, s2, s3, e4, e5, s6]
  cases b7 <;> simp [Op.eqFields, r0, r1, r2, r3, r4, r5, p1, q1, p2, q2, r6, r7, r8, r9, s1, s2, s3, e4, e5, s6, s7]
end Go.Proofs.YtoohpcomnhfgpaaGreat
end
section
namespace Go.Proofs.YtoohpcomnhfgpaaGreat
open Go.RowKit
set_option maxRecDepth 100000
set_option linter.all false
theorem uload (a : Addr) (n : Int) (w : World) (hc : w.cell? a = some (.int .u64 n)) :
    Calls Tryz.prog 162 #[.pointer (some a)] w fun e w' => e = .returned (.int .u64 n) ∧ w = w' := by
  have hl := run_call_load (P := Tryz.prog) Tryz.func208 (by kernel_rfl) (by kernel_rfl) (by kernel_rfl) .u64 (by kernel_rfl) hc
  go_enter Tryz.func162, Tryz.ntmps162
  go_wp2
  go_ret
  exact ⟨rfl, rfl⟩
section
variable {w w' : World} {g : Nat} {z : Int}
end
end Go.Proofs.YtoohpcomnhfgpaaGreat
end
section
namespace Go.Proofs.YtoohpcomnhfgpaaGreat
open Go.RowKit
set_option maxRecDepth 100000
set_option linter.all false
theorem su_value_in (g i : Nat) (tt : TypeId) (cs : Array Value) (z : Int) (w : World) (h : Blk w g tt cs) (hi : cs[i]? = some (.int .u64 (w64 z))) :
    Calls Tryz.prog 103 #[.pointer (some ⟨g, i, none⟩)] w fun E w' => E = .returned (.int .u64 (w64 z)) ∧ w = w' := by
  have h0 := h.cell_ hi
  clear h hi
  go_enter Tryz.func103, Tryz.ntmps103
  go_wp2_with (go_at_call 162; refine (uload _ _ _ h0).mono ?_; rintro e w' ⟨rfl, rfl⟩)
  go_ret
  exact ⟨rfl, rfl⟩
end Go.Proofs.YtoohpcomnhfgpaaGreat
end
section
namespace Go.Proofs.YtoohpcomnhfgpaaGreat
open Go.RowKit
set_option linter.all false
set_option maxRecDepth 100000
set_option maxHeartbeats 1600000 in
theorem rf_alike (x y : En) (w : World) :
    Calls Tryz.prog 39 #[.agg #[.string x.k, .string x.v, .bool x.d, .int .i64 x.s.c, .int .i64 x.s.s, .int .i64 x.a.c, .int .i64 x.a.s, .int .i64 x.p, .int .i64 x.g], .agg #[.string y.k, .string y.v, .bool y.d, .int .i64 y.s.c, .int .i64 y.s.s, .int .i64 y.a.c, .int .i64 y.a.s, .int .i64 y.p, .int .i64 y.g]] w fun E w' => E = .returned (.bool (enAlike x y)) ∧ Only none_ w w' := by
  have heq := fun w => eql_of (eq_ref_entry w ⟨x.k, x.v, x.d, x.s, x.a, x.p, y.g⟩ y 9997)
  have HA : Hid (enAlike x y = enEq ⟨x.k, x.v, x.d, x.s, x.a, x.p, y.g⟩ y) := rfl
  generalize enEq ⟨x.k, x.v, x.d, x.s, x.a, x.p, y.g⟩ y = b at heq HA
  simp only at heq
  go_enter Tryz.func39, Tryz.ntmps39
  go_wp2_with fail
  go_ret
  rw [HA.out]
  exact ⟨rfl, ((Only.refl none_ w).alloc _).alloc _⟩
end Go.Proofs.YtoohpcomnhfgpaaGreat
end
section
namespace Go.Proofs.YtoohpcomnhfgpaaGreat
open Go.RowKit
set_option maxRecDepth 100000
set_option linter.all false
set_option maxHeartbeats 3200000 in
theorem ct_sum (B : World) (a : Ra) (s : Rs) (w : World) (h : Rp B a s w) :
    Calls Tryz.prog 53 #[.pointer (some ⟨a.r, 6, none⟩)] w fun E w' => E = .returned (.int .u64 (w64 s.z)) ∧ w = w' := by
  have HS := Lib.hid (su_value_in a.r 7 78 (rCells a s.o s.z) s.z w h.bk rfl)
  clear h
  go_enter Tryz.func53, Tryz.ntmps53
  go_wp2_with (first
    | (go_at_call 103; refine HS.out.mono ?_; rintro E w1 ⟨rfl, rfl⟩))
  go_ret
  exact ⟨rfl, rfl⟩
end Go.Proofs.YtoohpcomnhfgpaaGreat
end
section
namespace Go.Proofs.YtoohpcomnhfgpaaGreat
open Go.RowKit
set_option maxRecDepth 100000
set_option linter.all false
theorem withK_le1 (k : ByteArray) : ∀ l : List ByteArray, (withK k l).length ≤ l.length + 1
  | [] => by simp [withK]
  | x :: r => by
    unfold withK
    have := withK_le1 k r
    split
    · simp only [List.length_cons]; omega
    · split
      · exact Nat.le_succ _
      · exact Nat.le_refl _
theorem rc_own (s : Rs) (x : En) : (rcS s x).own.length ≤ s.own.length + 1 := by
  have h : (rcS s x).own = if x.s.s = s.site then withK x.k s.own else s.own := by
    cases hw : newsM s.tab x with
    | true => rw [rcS_new hw]
    | false => rw [rcS_old hw]
  rw [h]
  split
  · exact withK_le1 _ _
  · exact Nat.le_succ _
theorem opF_own : ∀ (l : List En) (s s' : Rs), opF l s = some s' → s'.own.length ≤ s.own.length + l.length
  | [], s, s', h => by
    have : s = s' := by simpa [opF] using h
    subst this
    exact Nat.le_refl _
  | x :: l, s, s', h => by
    unfold opF at h
    split at h
    · cases h
    · have h1 := opF_own l _ _ h
      have h2 := rc_own s x
      simp only [List.length_cons]; omega
def Ow (log : List En) (s : Rs) : Prop := s.own.length ≤ log.length
section
variable {log : List En} {s s1 s' : Rs} {x : En}
theorem Ow.dn (h : Ow log s) (d : Dn log s1 x s') (hw : s1.own = s.own) : Ow (log ++ [x]) s' := by
  have h1 : s.own.length ≤ log.length := h
  have h2 : s'.own.length ≤ s.own.length + 1 := by
    rw [d.own, hw]
    split
    · exact withK_le1 _ _
    · exact Nat.le_succ _
  unfold Ow
  rw [List.length_append, List.length_singleton]
  omega
theorem Ow.mg (h : Ow log s) (wf : Wf log s) (hl : log.length ≤ 60) (x : En) : ∃ log', Ow log' (mgR s x).1 ∧ Wf log' (mgR s x).1 ∧ log'.length ≤ log.length + 1 := by
  cases wf.mgw hl x with
  | bad z hz e hc => rw [e]; exact ⟨log, h, wf, Nat.le_succ _⟩
  | old hc hn e w => rw [e]; exact ⟨log, h, w, Nat.le_succ _⟩
  | not z hc e w => rw [e]; exact ⟨log, h, w, Nat.le_succ _⟩
  | woken hc hn y q hy hov hcl e hq2 d => rw [e]; exact ⟨_, h.dn d rfl, d.wf, by simp⟩
  | taken hc hn hlt hov e d => rw [e]; exact ⟨_, h.dn d rfl, d.wf, by simp⟩
theorem Ow.tick (h : Ow log s) (wf : Wf log s) : Ow log (tickS s) := by
  have e1 : (tickS s).own = (tickR s.o (toM s log)).1.own := congrArg Rm.own wf.tick.2.1
  have e2 : (tickR s.o (toM s log)).1.own = s.own := by unfold tickR; split <;> rfl
  unfold Ow
  rw [e1, e2]; exact h
theorem Ow.open {o : Ro} {site : Int} {D : Dv} {n : Int} (ho : opF log (blankS o site D n) = some s') : Ow log s' := by
  have h := opF_own log _ _ ho
  have h2 : (blankS o site D n).own.length = 0 := rfl
  unfold Ow
  omega
end
theorem Rp.dk_same {B w w' : World} {a : Ra} {s : Rs} {v' : Value} (h : Rp B a s w) (hd : Dsk B a.dg s.D v' w') (o : Only (foot a.dg a.vd) w w') (m : ∀ k, foot a.dg v' k → foot a.dg a.vd k ∨ w.heap.size ≤ k) : LeftP B a w s w' := by
  have o6 : Only (ft a 6) w w' := o
  have r := h.rest (fun i => i = 6) (is_of o6)
  have heq : ∀ j, j ≠ 6 → ft { a with vd := v' } j = ft a j := fun j hj => by
    match j, hj with
    | 0, _ => rfl
    | 1, _ => rfl
    | 2, _ => rfl
    | 3, _ => rfl
    | 4, _ => rfl
    | 5, _ => rfl
    | 6, e => exact absurd rfl e
    | 7, _ => rfl
    | _ + 8, _ => rfl
  have hm : ∀ k, ft { a with vd := v' } 6 k → ft a 6 k ∨ w.heap.size ≤ k := fun k hk => m k hk
  exact ⟨{ a with vd := v' }, ⟨r.bk (by decide), r.ck (by decide), r.tb (by decide), r.mx (by decide), r.gv (by decide), r.ob (by decide), hd, r.jn (by decide), h.ho.trans' o (fun k hk e => by have := (h.ft_ge 6 k e).1; omega), h.ge, dj_one h.dj (fun j k hk => (h.ft_ge j k hk).2) heq hm⟩, all_of o6, all_one heq hm, rfl, rfl⟩
theorem Rq.reopen_same {B X : World} {o : Ro} {dg r m : Nat} {a : Ra} {s : Rs} {log : List En} (h : Rq B o dg a s log r m X) (hm : m ≤ 60) (hop : opF log (blankS o 0 (dvOf (log.map encB)) log.length) = none) :
    Calls Tryz.prog 15 #[.int .i64 0, .agg #[.int .i64 o.n, .int .i64 o.q, .int .i64 o.r, .int .i64 o.t1, .int .i64 o.t2], .pointer (some ⟨dg, 0, none⟩)] X fun E X' => E = .returned (.tuple #[.pointer none, .int .i64 12]) ∧ ∃ a', Rq B o dg a' s log r m X' ∧ Ol a a' X X' := by
  have hob : roBad o = false := by rw [← h.ho]; exact h.wf.o
  have hsi : (0 : Int) ≤ 0 ∧ 0 < o.n := ⟨Int.le_refl _, by have := (ro_ok hob).1; omega⟩
  have := rp_reopen B dg a.vd log 0 o X h.dsk h.wf.lg (Nat.le_trans h.n hm) hob hsi
  rw [hop] at this
  refine this.mono ?_
  rintro E X' ⟨rfl, v', hd, hO, hf⟩
  refine ⟨rfl, h.left (h.p.dk_same (v' := v') ?_ ?_ ?_) h.wf h.n rfl rfl⟩
  · rw [h.hd, h.wf.D]; exact hd
  · rw [h.hd]; exact hO
  · rw [h.hd]; exact hf
set_option maxHeartbeats 51200000 in
theorem rp_play (o : Ro) (hob : roBad o = false) (A : Option Addr) (L c : Nat) (l : List Pa) (S : Nat → Prop) (w : World) (hx : Cel w S (.slice A L c) L 12 (l.flatMap paRow)) (hL : l.length = L) (hL50 : L ≤ 50) :
    Calls Tryz.prog 52 #[.agg #[.int .i64 o.n, .int .i64 o.q, .int .i64 o.r, .int .i64 o.t1, .int .i64 o.t2], .slice A L c] w fun E w' => ∃ (B : World) (dg r : Nat) (a : Ra) (s : Rs) (log : List En), E = .returned (.pointer (some ⟨r, 0, none⟩)) ∧ Rq B o dg a s log r L w' ∧ Ow log s ∧ Only none_ w B := by
  have BX := Lib.hid (Blk.new w 23 #[.int .i64 o.n, .int .i64 o.q, .int .i64 o.r, .int .i64 o.t1, .int .i64 o.t2])
  have O0 := Lib.hid ((Only.refl none_ w).alloc (.cells #[.int .i64 o.n, .int .i64 o.q, .int .i64 o.r, .int .i64 o.t1, .int .i64 o.t2] 23))
  have HX := Lib.hid hx
  have HL := Lib.hid hL
  have HOB := Lib.hid hob
  have HDN := Lib.hid (fun (B X : World) (ho : Only none_ B X) => disk_new B X ho)
  have HRO := Lib.hid (fun (X : World) => rp_of o X)
  clear hx hL hob
  go_enter Tryz.func52, Tryz.ntmps52
  go_upto_region 1 with fail
  obtain ⟨B, hB⟩ : ∃ B, w.alloc (.cells #[.int .i64 o.n, .int .i64 o.q, .int .i64 o.r, .int .i64 o.t1, .int .i64 o.t2] 23) = B := ⟨_, rfl⟩
  rw [hB] at BX O0 ⊢
  clear hB
  generalize hg2 : w.heap.size = g2 at *
  go_upto_region 5 with (first
    | (go_at_call 14; refine (HDN.out B _ (Only.refl _ _)).mono ?_; rintro E w4 ⟨dg, rfl, hdg, hd, o4⟩
       have B4 := Lib.hid (BX.out.only o4 (fun h => h))
       have D4 := Lib.hid hd
       clear hdg hd o4)
    | (refine wpl_load rfl 23 _ rfl g2 rfl 23 #[.int .i64 o.n, .int .i64 o.q, .int .i64 o.r, .int .i64 o.t1, .int .i64 o.t2] _ B4.out Tryz.underlying23 rfl (by kernel_rfl) ?_)
    | (go_at_call 16; refine (HRO.out _).mono ?_; rintro E w5 ⟨rfl, o5⟩
       have D5 := Lib.hid (D4.out.keep o5)
       clear o5)
    | (go_at_call 15; refine (rq_first HOB.out D5.out).mono ?_; rintro E w6 ⟨a0, r0, rfl, q6, _, _⟩
       have Q6 := Lib.hid q6
       clear q6))
  clear B4 D4 D5 HDN
  have BO : Hid (∀ X, Only none_ B X → Blk X g2 23 #[.int .i64 o.n, .int .i64 o.q, .int .i64 o.r, .int .i64 o.t1, .int .i64 o.t2]) := fun X ho => BX.out.only ho (fun h => h)
  clear BX
  go_wp2_with fail
  go_loopw [6, 24] (fun v6 i X => ∃ (k r : Nat) (a : Ra) (s : Rs) (log : List En), k ≤ L ∧ i = .int .i64 (k : Int) ∧ v6 = .pointer (some ⟨r, 0, none⟩) ∧ Rq B o dg a s log r k X ∧ Ow log s) (fun _ i _ => L - (intOf i).toNat)
  case atStart => exact ⟨0, r0, a0, _, [], Nat.zero_le _, rfl, rfl, Q6.out, Nat.le_refl _⟩
  case round =>
    obtain ⟨k, r, a, s, log, hk, rfl, rfl, hq, how⟩ := hrel
    have HQ := Lib.hid hq
    have HOW := Lib.hid how
    clear hq how Q6
    by_cases hlt : k < L
    · obtain ⟨p, hp⟩ : ∃ p, l[k]? = some p := ⟨l[k]'(by have := HL.out; omega), List.getElem?_eq_getElem _⟩
      obtain ⟨b, off, hA, _, hbb, hc⟩ := in_elem paRow_length (by decide) HX.out HL.out hp
      subst hA
      have HC : Hid (∀ j u, (paA p).toList[j]? = some u → wr.cell? ⟨b, off + k * 12 + j, none⟩ = some u) := fun j u hu => hc _ (O0.out.trans HQ.out.p.ho) j u hu
      have hki : (k : Int) < (L : Int) := by omega
      clear hc hp hbb
      go_upto_region 8 with (first
        | (refine wpl_piece rfl 52 _ rfl b (off + k * 12) rfl (paA p) _ HC.out Tryz.underlying52 rfl (by kernel_rfl) ?_)
        | (refine wpl_new rfl rfl 52 rfl _ _ rfl (paA p) rfl rfl (by kernel_rfl) (pa_one p) ?_))
      try simp only [Act.put, List.setIfInBounds_toArray, List.set_cons_succ, List.set_cons_zero, World.size_alloc]
      have oa := (Only.refl none_ wr).alloc (.cells (paA p) 52)
      have R1 := Lib.hid (HQ.out.keep oa)
      have A1 : Hid (Bn a wr.heap.size 52 (paA p) (wr.alloc (.cells (paA p) 52))) := Bn.new HQ.out.p
      generalize wr.alloc (.cells (paA p) 52) = W1 at *
      generalize wr.heap.size = n1 at *
      clear oa HQ HC
      have hm60 : k ≤ 60 := by omega
      obtain ⟨pk, pu, pv, pe⟩ := p
      have q0 := A1.out.b.cell_ (i := 0) rfl
      have q1 := A1.out.b.cell_ (i := 1) rfl
      have q2 := A1.out.b.cell_ (i := 2) rfl
      try dsimp only at q0 q1 q2
      by_cases hk0 : pk = 0
      · skip
        have k0b : (pk == 0) = true := by simp [hk0]
        clear hk0
        rcases R1.out.wf.ptw (by have := R1.out.n; omega) pu pv with ⟨z, hz, hpe⟩ | ⟨hcl, hpe, d, _⟩
        · have HP := Lib.hid (R1.out.put hm60 hpe R1.out.wf (Nat.le_trans R1.out.n (Nat.le_succ k)))
          clear hpe hz
          go_wp2_with (first
            | (go_at_call 44; refine (HP.out).mono ?_; rintro E w5 ⟨rfl, a5, r5, ol5⟩
               have R5 := Lib.hid r5
               clear r5 ol5))
          go_roundw
          case rel => exact ⟨k + 1, r, a5, _, _, by omega, by go_num, rfl, R5.out, HOW.out⟩
          case measure => simp [intOf]; omega
        · have HOW2 := Lib.hid (HOW.out.dn d rfl)
          have HP := Lib.hid (R1.out.put hm60 hpe d.wf (m' := k + 1) (by have := R1.out.n; rw [List.length_append]; simp only [List.length_cons, List.length_nil]; omega))
          clear hpe hcl d
          go_wp2_with (first
            | (go_at_call 44; refine (HP.out).mono ?_; rintro E w5 ⟨rfl, a5, r5, ol5⟩
               have R5 := Lib.hid r5
               clear r5 ol5))
          go_roundw
          case rel => exact ⟨k + 1, r, a5, _, _, by omega, by go_num, rfl, R5.out, HOW2.out⟩
          case measure => simp [intOf]; omega
      · by_cases hk1 : pk = 1
        · skip
          have k0b : (pk == 0) = false := by simp [hk0]
          have k1b : (pk == 1) = true := by simp [hk1]
          clear hk0 hk1
          rcases R1.out.wf.dlw (by have := R1.out.n; omega) pu with ⟨z, hz, hpe⟩ | ⟨hcl, hlive, x, hxx, hpe, d, _⟩
          · have HP := Lib.hid (R1.out.del hm60 hpe R1.out.wf (Nat.le_trans R1.out.n (Nat.le_succ k)))
            clear hpe hz
            go_wp2_with (first
              | (go_at_call 46; refine (HP.out).mono ?_; rintro E w5 ⟨rfl, a5, r5, ol5⟩
                 have R5 := Lib.hid r5
                 clear r5 ol5))
            go_roundw
            case rel => exact ⟨k + 1, r, a5, _, _, by omega, by go_num, rfl, R5.out, HOW.out⟩
            case measure => simp [intOf]; omega
          · have HOW2 := Lib.hid (HOW.out.dn d rfl)
            have HP := Lib.hid (R1.out.del hm60 hpe d.wf (m' := k + 1) (by have := R1.out.n; rw [List.length_append]; simp only [List.length_cons, List.length_nil]; omega))
            clear hpe hxx hcl d hlive
            go_wp2_with (first
              | (go_at_call 46; refine (HP.out).mono ?_; rintro E w5 ⟨rfl, a5, r5, ol5⟩
                 have R5 := Lib.hid r5
                 clear r5 ol5))
            go_roundw
            case rel => exact ⟨k + 1, r, a5, _, _, by omega, by go_num, rfl, R5.out, HOW2.out⟩
            case measure => simp [intOf]; omega
        · by_cases hk2 : pk = 2
          · skip
            have k0b : (pk == 0) = false := by simp [hk0]
            have k1b : (pk == 1) = false := by simp [hk1]
            have k2b : (pk == 2) = true := by simp [hk2]
            clear hk0 hk1 hk2
            obtain ⟨log', hqx, hwf, hnl⟩ := HOW.out.mg R1.out.wf (by have := R1.out.n; omega) pe
            obtain ⟨s', kd, x, z, hmg⟩ : ∃ s' kd x z, mgR s pe = (s', kd, x, z) := ⟨_, _, _, _, rfl⟩
            rw [hmg] at hqx hwf
            have HE := Lib.hid hmg
            have HWF := Lib.hid hwf
            have HOW2 := Lib.hid hqx
            have HNL : Hid (log'.length ≤ k + 1) := by have := R1.out.n; simp only [Hid]; omega
            clear hmg hqx hwf hnl
            go_wp2_with (first
              | (with_reducible refine wpl_piece rfl 50 _ rfl n1 3 rfl #[.string pe.k, .string pe.v, .bool pe.d, .int .i64 pe.s.c, .int .i64 pe.s.s, .int .i64 pe.a.c, .int .i64 pe.a.s, .int .i64 pe.p, .int .i64 pe.g] _ (pa_entry (a := ⟨pk, pu, pv, pe⟩) A1.out.b) Tryz.underlying50 rfl (by kernel_rfl) ?_)
              | (go_at_call 36; refine (en_of pe _).mono ?_; rintro E w4 ⟨rfl, o4⟩
                 have R4 := Lib.hid (R1.out.keep o4)
                 clear o4)
              | (go_at_call 35; refine (R4.out.mrg hm60 HE.out HWF.out HNL.out).mono ?_; rintro E w5 ⟨rfl, a5, r5, ol5⟩
                 have R5 := Lib.hid r5
                 clear r5 ol5))
            go_roundw
            case rel => exact ⟨k + 1, r, a5, _, _, by omega, by go_num, rfl, R5.out, HOW2.out⟩
            case measure => simp [intOf]; omega
          · by_cases hk3 : pk = 3
            · skip
              have k0b : (pk == 0) = false := by simp [hk0]
              have k1b : (pk == 1) = false := by simp [hk1]
              have k2b : (pk == 2) = false := by simp [hk2]
              have k3b : (pk == 3) = true := by simp [hk3]
              clear hk0 hk1 hk2 hk3
              have HOW2 := Lib.hid (HOW.out.tick R1.out.wf)
              go_wp2_with (first
                | (go_at_call 47; refine R1.out.tick.mono ?_; rintro E w5 ⟨vs, rfl, a5, r5, ol5⟩
                   have R5 : Hid (Rq B o dg a5 (tickS s) log r (k + 1) w5) := ⟨r5.p, r5.hr, r5.hd, r5.wf, Nat.le_trans r5.n (Nat.le_succ k), r5.ho, r5.hs⟩
                   clear r5 ol5))
              go_roundw
              case rel => exact ⟨k + 1, r, a5, _, _, by omega, by go_num, rfl, R5.out, HOW2.out⟩
              case measure => simp [intOf]; omega
            · by_cases hk4 : pk = 4
              · skip
                have k0b : (pk == 0) = false := by simp [hk0]
                have k1b : (pk == 1) = false := by simp [hk1]
                have k2b : (pk == 2) = false := by simp [hk2]
                have k3b : (pk == 3) = false := by simp [hk3]
                have k4b : (pk == 4) = true := by simp [hk4]
                clear hk0 hk1 hk2 hk3 hk4
                cases hop : opF log (blankS o 0 (dvOf (log.map encB)) log.length) with
                | some s' =>
                  have HOW2 : Hid (Ow log s') := Ow.open hop
                  have HRE := Lib.hid (fun (X : World) (oX : Only none_ W1 X) => (R1.out.keep oX).reopen hm60 hop)
                  have b2 := BO.out _ R1.out.p.ho
                  have B2 := Lib.hid b2
                  clear hop b2
                  go_wp2_with (first
                    | (refine wpl_load rfl 23 _ rfl g2 rfl 23 #[.int .i64 o.n, .int .i64 o.q, .int .i64 o.r, .int .i64 o.t1, .int .i64 o.t2] _ B2.out Tryz.underlying23 rfl (by kernel_rfl) ?_)
                    | (go_at_call 16; refine (HRO.out _).mono ?_; rintro E w4 ⟨rfl, o4⟩; have O4 := Lib.hid o4; clear o4)
                    | (go_at_call 15; refine (HRE.out _ O4.out).mono ?_; rintro E w5 ⟨a5, r5, rfl, q5, ol5⟩
                       have R5 : Hid (Rq B o dg a5 s' log r5 (k + 1) w5) := ⟨q5.p, q5.hr, q5.hd, q5.wf, Nat.le_trans q5.n (Nat.le_succ k), q5.ho, q5.hs⟩
                       clear q5 ol5))
                  go_roundw
                  case rel => exact ⟨k + 1, r5, a5, _, _, by omega, by go_num, rfl, R5.out, HOW2.out⟩
                  case measure => simp [intOf]; omega
                | none =>
                  have HRE := Lib.hid (fun (X : World) (oX : Only none_ W1 X) => (R1.out.keep oX).reopen_same hm60 hop)
                  have b2 := BO.out _ R1.out.p.ho
                  have B2 := Lib.hid b2
                  clear hop b2
                  go_wp2_with (first
                    | (refine wpl_load rfl 23 _ rfl g2 rfl 23 #[.int .i64 o.n, .int .i64 o.q, .int .i64 o.r, .int .i64 o.t1, .int .i64 o.t2] _ B2.out Tryz.underlying23 rfl (by kernel_rfl) ?_)
                    | (go_at_call 16; refine (HRO.out _).mono ?_; rintro E w4 ⟨rfl, o4⟩; have O4 := Lib.hid o4; clear o4)
                    | (go_at_call 15; refine (HRE.out _ O4.out).mono ?_; rintro E w5 ⟨rfl, a5, q5, ol5⟩
                       have R5 : Hid (Rq B o dg a5 s log r (k + 1) w5) := ⟨q5.p, q5.hr, q5.hd, q5.wf, Nat.le_trans q5.n (Nat.le_succ k), q5.ho, q5.hs⟩
                       clear q5 ol5))
                  go_roundw
                  case rel => exact ⟨k + 1, r, a5, _, _, by omega, by go_num, rfl, R5.out, HOW.out⟩
                  case measure => simp [intOf]; omega
              · skip
                have k0b : (pk == 0) = false := by simp [hk0]
                have k1b : (pk == 1) = false := by simp [hk1]
                have k2b : (pk == 2) = false := by simp [hk2]
                have k3b : (pk == 3) = false := by simp [hk3]
                have k4b : (pk == 4) = false := by simp [hk4]
                clear hk0 hk1 hk2 hk3 hk4
                have R5 : Hid (Rq B o dg a s log r (k + 1) W1) := ⟨R1.out.p, R1.out.hr, R1.out.hd, R1.out.wf, Nat.le_trans R1.out.n (Nat.le_succ k), R1.out.ho, R1.out.hs⟩
                go_wp2_with fail
                go_roundw
                case rel => exact ⟨k + 1, r, a, _, _, by omega, by go_num, rfl, R5.out, HOW.out⟩
                case measure => simp [intOf]; omega
    · obtain rfl : k = L := by omega
      go_wp2_with fail
      go_ret
      exact ⟨B, dg, r, a, s, log, rfl, HQ.out, HOW.out, O0.out⟩
end Go.Proofs.YtoohpcomnhfgpaaGreat
end
section
namespace Go.Proofs.YtoohpcomnhfgpaaGreat
open Go.Shelf
def keysA_ren : Go.Shelf.Ren := ⟨fun | 7 => 107 | 10 => 167 | n => n, fun | 23 => 75 | 26 => 9 | 3 => 63 | 28 => 191 | 0 => 0 | 27 => 190 | 33 => 173 | 4 => 4 | n => n, fun | n => n⟩
theorem keysA : Go.Proofs.SlLaysZ.n7 Tryz.prog keysA_ren := {
  mixed := by kernel_rfl
  f7 := ⟨Tryz.f107.name, by decide, Tryz.func107.trans (congrArg some (by kernel_rfl))⟩
  f10 := ⟨Tryz.f167.name, by decide, Tryz.func167.trans (congrArg some (by kernel_rfl))⟩
  t0 := Tryz.underlying0
  a0 := Tryz.isAgg0
  z0 := Tryz.sizeOf0
  v0 := Tryz.zeroValue0
  t4 := Tryz.underlying4
  a4 := Tryz.isAgg4
  z4 := Tryz.sizeOf4
  v4 := Tryz.zeroValue4
  t23 := Tryz.underlying75
  a23 := Tryz.isAgg75
  z23 := Tryz.sizeOf75
  v23 := Tryz.zeroValue75
  t26 := Tryz.underlying9
  a26 := Tryz.isAgg9
  z26 := Tryz.sizeOf9
  v26 := Tryz.zeroValue9
  t27 := Tryz.underlying190
  a27 := Tryz.isAgg190
  z27 := Tryz.sizeOf190
  v27 := Tryz.zeroValue190
  t28 := Tryz.underlying191
  a28 := Tryz.isAgg191
  z28 := Tryz.sizeOf191
  v28 := Tryz.zeroValue191
  t33 := Tryz.underlying173
  a33 := Tryz.isAgg173
  z33 := Tryz.sizeOf173
  v33 := Tryz.zeroValue173 }
def sortedA_ren : Go.Shelf.Ren := ⟨fun | 6 => 106 | 8 => 165 | 9 => 166 | 11 => 212 | 13 => 214 | 12 => 213 | 23 => 249 | 24 => 250 | 14 => 240 | 15 => 241 | 16 => 242 | 17 => 243 | 18 => 244 | 19 => 245 | 20 => 246 | 21 => 247 | 22 => 248 | 25 => 271 | 26 => 272 | 27 => 273 | 28 => 274 | 29 => 275 | 30 => 276 | 31 => 287 | n => n, fun | 26 => 9 | 28 => 191 | 24 => 38 | 0 => 0 | 3 => 3 | 37 => 325 | 48 => 199 | 50 => 66 | 4 => 4 | 40 => 349 | 39 => 348 | 45 => 237 | 5 => 5 | 9 => 9 | 51 => 376 | 55 => 379 | 57 => 391 | 58 => 392 | 33 => 173 | n => n, fun | n => n⟩
theorem sortedA : Go.Proofs.SlLaysZ.n6 Tryz.prog sortedA_ren := {
  mixed := by kernel_rfl
  f6 := ⟨Tryz.f106.name, by decide, Tryz.func106.trans (congrArg some (by kernel_rfl))⟩
  f8 := ⟨Tryz.f165.name, by decide, Tryz.func165.trans (congrArg some (by kernel_rfl))⟩
  f11 := ⟨Tryz.f212.name, by decide, Tryz.func212.trans (congrArg some (by kernel_rfl))⟩
  t0 := Tryz.underlying0
  a0 := Tryz.isAgg0
  z0 := Tryz.sizeOf0
  v0 := Tryz.zeroValue0
  t24 := Tryz.underlying38
  a24 := Tryz.isAgg38
  z24 := Tryz.sizeOf38
  v24 := Tryz.zeroValue38
  t26 := Tryz.underlying9
  a26 := Tryz.isAgg9
  z26 := Tryz.sizeOf9
  v26 := Tryz.zeroValue9
  t28 := Tryz.underlying191
  a28 := Tryz.isAgg191
  z28 := Tryz.sizeOf191
  v28 := Tryz.zeroValue191
  i26 := by kernel_rfl }
def sortA_ren : Go.Shelf.Ren := ⟨fun | 6 => 166 | 8 => 214 | 9 => 213 | 19 => 249 | 20 => 250 | 21 => 240 | 22 => 241 | 23 => 242 | 24 => 243 | 25 => 244 | 26 => 245 | 27 => 246 | 28 => 247 | 29 => 248 | 36 => 271 | 31 => 272 | 32 => 273 | 37 => 274 | 38 => 275 | 39 => 276 | 41 => 287 | n => n, fun | 27 => 38 | 29 => 9 | 3 => 3 | 32 => 325 | 26 => 38 | 0 => 0 | 44 => 199 | 46 => 66 | 4 => 4 | 36 => 349 | 35 => 348 | 41 => 237 | 5 => 5 | 9 => 9 | 53 => 376 | 57 => 379 | 63 => 391 | 64 => 392 | n => n, fun | n => n⟩
theorem sortA : Go.Proofs.SlLaysM.n6 Tryz.prog sortA_ren := {
  mixed := by kernel_rfl
  f6 := ⟨Tryz.f166.name, by decide, Tryz.func166.trans (congrArg some (by kernel_rfl))⟩
  f8 := Tryz.func214.trans (congrArg some (by kernel_rfl))
  f9 := ⟨Tryz.f213.name, by decide, Tryz.func213.trans (congrArg some (by kernel_rfl))⟩
  f19 := Tryz.func249.trans (congrArg some (by kernel_rfl))
  f20 := Tryz.func250.trans (congrArg some (by kernel_rfl))
  f21 := ⟨Tryz.f240.name, by decide, Tryz.func240.trans (congrArg some (by kernel_rfl))⟩
  f22 := ⟨Tryz.f241.name, by decide, Tryz.func241.trans (congrArg some (by kernel_rfl))⟩
  f23 := ⟨Tryz.f242.name, by decide, Tryz.func242.trans (congrArg some (by kernel_rfl))⟩
  f24 := ⟨Tryz.f243.name, by decide, Tryz.func243.trans (congrArg some (by kernel_rfl))⟩
  f25 := ⟨Tryz.f244.name, by decide, Tryz.func244.trans (congrArg some (by kernel_rfl))⟩
  f26 := ⟨Tryz.f245.name, by decide, Tryz.func245.trans (congrArg some (by kernel_rfl))⟩
  f27 := ⟨Tryz.f246.name, by decide, Tryz.func246.trans (congrArg some (by kernel_rfl))⟩
  f28 := ⟨Tryz.f247.name, by decide, Tryz.func247.trans (congrArg some (by kernel_rfl))⟩
  f29 := ⟨Tryz.f248.name, by decide, Tryz.func248.trans (congrArg some (by kernel_rfl))⟩
  f31 := Tryz.func272.trans (congrArg some (by kernel_rfl))
  f32 := Tryz.func273.trans (congrArg some (by kernel_rfl))
  f36 := ⟨Tryz.f271.name, by decide, Tryz.func271.trans (congrArg some (by kernel_rfl))⟩
  f37 := ⟨Tryz.f274.name, by decide, Tryz.func274.trans (congrArg some (by kernel_rfl))⟩
  f38 := ⟨Tryz.f275.name, by decide, Tryz.func275.trans (congrArg some (by kernel_rfl))⟩
  f39 := ⟨Tryz.f276.name, by decide, Tryz.func276.trans (congrArg some (by kernel_rfl))⟩
  f41 := ⟨Tryz.f287.name, by decide, Tryz.func287.trans (congrArg some (by kernel_rfl))⟩
  t0 := Tryz.underlying0
  a0 := Tryz.isAgg0
  z0 := Tryz.sizeOf0
  v0 := Tryz.zeroValue0
  t3 := Tryz.underlying3
  a3 := Tryz.isAgg3
  z3 := Tryz.sizeOf3
  v3 := Tryz.zeroValue3
  t4 := Tryz.underlying4
  a4 := Tryz.isAgg4
  z4 := Tryz.sizeOf4
  v4 := Tryz.zeroValue4
  t5 := Tryz.underlying5
  a5 := Tryz.isAgg5
  z5 := Tryz.sizeOf5
  v5 := Tryz.zeroValue5
  t9 := Tryz.underlying9
  a9 := Tryz.isAgg9
  z9 := Tryz.sizeOf9
  v9 := Tryz.zeroValue9
  t26 := Tryz.underlying38
  a26 := Tryz.isAgg38
  z26 := Tryz.sizeOf38
  v26 := Tryz.zeroValue38
  t27 := Tryz.underlying38
  a27 := Tryz.isAgg38
  z27 := Tryz.sizeOf38
  v27 := Tryz.zeroValue38
  t29 := Tryz.underlying9
  a29 := Tryz.isAgg9
  z29 := Tryz.sizeOf9
  v29 := Tryz.zeroValue9
  t32 := Tryz.underlying325
  a32 := Tryz.isAgg325
  z32 := Tryz.sizeOf325
  v32 := Tryz.zeroValue325
  t35 := Tryz.underlying348
  a35 := Tryz.isAgg348
  z35 := Tryz.sizeOf348
  v35 := Tryz.zeroValue348
  t36 := Tryz.underlying349
  a36 := Tryz.isAgg349
  z36 := Tryz.sizeOf349
  v36 := Tryz.zeroValue349
  t41 := Tryz.underlying237
  a41 := Tryz.isAgg237
  z41 := Tryz.sizeOf237
  v41 := Tryz.zeroValue237
  t44 := Tryz.underlying199
  a44 := Tryz.isAgg199
  z44 := Tryz.sizeOf199
  v44 := Tryz.zeroValue199
  t46 := Tryz.underlying66
  a46 := Tryz.isAgg66
  z46 := Tryz.sizeOf66
  v46 := Tryz.zeroValue66
  t53 := Tryz.underlying376
  a53 := Tryz.isAgg376
  z53 := Tryz.sizeOf376
  v53 := Tryz.zeroValue376
  t57 := Tryz.underlying379
  a57 := Tryz.isAgg379
  z57 := Tryz.sizeOf379
  v57 := Tryz.zeroValue379
  t63 := Tryz.underlying391
  a63 := Tryz.isAgg391
  z63 := Tryz.sizeOf391
  v63 := Tryz.zeroValue391
  t64 := Tryz.underlying392
  a64 := Tryz.isAgg392
  z64 := Tryz.sizeOf392
  v64 := Tryz.zeroValue392 }
end Go.Proofs.YtoohpcomnhfgpaaGreat
end
section
namespace Go.Proofs.YtoohpcomnhfgpaaGreat
open Go.RowKit Go.Maps Go.Sort Go.Shelf Go.ChangeMaps Go.MapKept
open Go.WideElems (Fit rd rg rd_mk rg_of)
set_option maxRecDepth 100000
set_option linter.all false
def kb : Value → List UInt8
  | .string s => s.data.toList
  | _ => []
theorem mq_owns {P : Program} {k : TypeId} {w : World} {b : Nat} {l : List ByteArray} (hk : P.underlying k = some .string) (h : Mq w b l) (hl : l.length ≤ maxLen) :
    ∃ D : DataW Unit, w.ownsMap P k (fun _ => some (DataW.nil, [])) b l.length D ∧ Maps.size D = l.length ∧ (strKeys D).Perm (l.map fun x => x.data.toList) := by
  obtain ⟨es, clock, hb, h1, h2, h4⟩ := h
  have hes : es.size = l.length := by have := h1.length_eq; simpa using this
  have hrd : ∀ x ∈ es.toList, rd P k (fun _ => some ((DataW.nil : DataW Unit), [])) x = some (.string (kb x.key), DataW.nil) := by
    intro x hx
    have hm : (x.key, x.val) ∈ l.map kEnt := h1.mem_iff.1 (List.mem_map.2 ⟨x, hx, rfl⟩)
    obtain ⟨m, hml, e⟩ := List.mem_map.1 hm
    have e1 : x.key = .string m := by injection e with e _; exact e.symm
    have h5 := rd_mk (P := P) (k := k) (R := fun _ => some ((DataW.nil : DataW Unit), [])) (key := x.key) (val := x.val) (born := x.born) (kl := .string (kb x.key)) (yv := (DataW.nil, [])) (by rw [e1]; exact Go.WideMaps.keyOf_string_mk hk (h2 m hml)) rfl
    exact h5
  have hmap : es.toList.map (rg P k (fun _ => some ((DataW.nil : DataW Unit), []))) = es.toList.map fun x => (.string (kb x.key), DataW.nil) := List.map_congr_left fun x hx => rg_of (hrd x hx)
  refine ⟨.map ((es.toList.map (rg P k (fun _ => some (DataW.nil, [])))).foldr DataW.insert []), ⟨es, clock, hb, ⟨by omega, h4, fun x hx => ⟨_, hrd x hx⟩⟩, by omega, rfl⟩, ?_, ?_⟩
  · have := (Go.WideShapes.sorted_perm (es.toList.map (rg P k (fun _ => some ((DataW.nil : DataW Unit), []))))).length_eq
    show (List.foldr DataW.insert [] _).length = _
    rw [this, List.length_map]
    simpa using hes
  · show (List.map (fun (p : Lit × DataW Unit) => strOf p.1) _).Perm _
    refine ((Go.WideShapes.sorted_perm _).map _).trans ?_
    rw [hmap, List.map_map]
    have h6 := h1.map (fun p => kb p.1)
    rw [List.map_map, List.map_map] at h6
    exact h6
def ownB (own : List ByteArray) : List (List UInt8) := (own.map fun x => x.data.toList).mergeSort leB
theorem ownB_len (own : List ByteArray) : (ownB own).length = own.length := by simp [ownB]
theorem sortsA (m : Nat) : AnyZ.SortsIn Tryz.prog sortedA_ren Fence.wide m :=
  ⟨fun blk off cap ss W hH hblk hsz => callsIn_wide.2 (AnyM.slices_Sort_string sortA blk off cap ss W hH hblk hsz),
   fun p cap W => callsIn_wide.2 (AnyM.slices_Sort_string_none sortA p cap W)⟩
set_option maxHeartbeats 3200000 in
theorem rp_own (B : World) (a : Ra) (s : Rs) (w : World) (h : Rp B a s w) (hl : s.own.length ≤ 4096) :
    Calls Tryz.prog 59 #[.pointer (some ⟨a.r, 0, none⟩)] w fun E w' => ∃ v', E = .returned v' ∧ w'.ownsRow w.heap.size 9 1 v' (ownB s.own).length ((ownB s.own).map encStr) ∧ Only none_ w w' := by
  have q10 : w.cell? ⟨a.r, 10, none⟩ = some (.map (some a.ob)) := h.bk.cell_ (i := 10) rfl
  obtain ⟨D0, hown, hsz, hpm⟩ := mq_owns (P := Tryz.prog) Tryz.underlying9 h.ob (by simp only [maxLen]; omega)
  have hmax : Maps.size D0 ≤ maxLen := by rw [hsz]; simp only [maxLen]; omega
  have hbytes : Maps.size D0 * 16 ≤ 140737488355328 := by rw [hsz]; omega
  have hfin : ∀ ss : List (List UInt8), ss.Perm (strKeys D0) → ss.mergeSort leB = ownB s.own := fun ss hs => mergeSort_of_perm (hs.trans hpm)
  have hlen : ∀ ss : List (List UInt8), ss.Perm (strKeys D0) → ss.length = (ownB s.own).length := fun ss hs => by rw [← hfin ss hs]; simp
  generalize ownB s.own = K at hfin hlen ⊢
  generalize a.ob = b at q10 hown
  generalize a.r = r at q10 ⊢
  generalize s.own.length = nn at hown
  clear h hl hpm hsz
  refine (callsIn_wide (n := 6)).1 ?_
  have hbl := hown.lt
  have hseq : SeqGives Fence.wide 2 Tryz.prog 167 #[.pointer (some ⟨w.heap.size, 0, none⟩)] encStr (fun ss => ss.Perm (strKeys D0)) (Maps.size D0) (w.alloc (.cells #[.map (some b)] 75)) :=
    AnyZ.keys_gives (ρ := keysA_ren) { keysA with } Fence.wide _ trivial rfl (by omega) w.heap.size b nn D0 _ (by simp) (by simp) (by
      obtain ⟨es, clock, hb, Ft, hs, hD⟩ := hown
      exact ⟨es, clock, (Below.heap_alloc _ _ b hbl).trans hb, Ft, hs, hD⟩)
  have cK : ∀ mb W, CallsIn Fence.wide 5 Tryz.prog 107 #[.map mb] W fun e w' => e = .returned (.func (.func 167) #[] #[.pointer (some ⟨W.heap.size, 0, none⟩)]) ∧ w' = W.alloc (.cells #[.map mb] 75) := fun mb W => AnyZ.keys_in keysA Fence.wide 5 trivial rfl mb W
  have cS := AnyZ.sorted_in sortedA Fence.wide 5 trivial trivial trivial trivial rfl (by omega) (sortsA _) (enters_of Tryz.func166 (by kernel_rfl) rfl) 167 #[.pointer (some ⟨w.heap.size, 0, none⟩)] trivial (enters_of Tryz.func167 (by kernel_rfl) rfl) _ _ hmax hbytes _ hseq
  change CallsIn _ _ Tryz.prog 106 _ _ _ at cS
  have hfK : Fence.wide.fn 107 := trivial
  have hfS : Fence.wide.fn 106 := trivial
  refine callsIn_of_wp Tryz.func59 rfl trivial ?_ rfl
  simp only [Tryz.ntmps59, List.size_toArray, List.length_cons, List.length_nil, Nat.reduceAdd, Nat.reduceSub, Array.replicate_succ, Array.replicate_zero, List.push_toArray, List.append_toArray, List.nil_append, List.cons_append]
  gi_wp2_with (first
    | (gi_at_call 107; refine (cK _ _).mono ?_; rintro e w' ⟨rfl, rfl⟩)
    | (gi_at_call 106; refine cS.mono ?_; rintro e w' ⟨v, ss, rfl, hS, hrow, hnil, hb⟩))
  go_ret
  refine ⟨v, rfl, ?_, ?_⟩
  · have h1 := ownsRow_base_a hrow (by simp : w.heap.size ≤ _)
    rw [hlen ss hS, show (ss.mergeSort fun x y => decide (x ≤ y)) = K from hfin ss hS] at h1
    exact h1
  · exact Only.of_below (((Below.refl _ w).alloc (Nat.le_refl _) _).trans (hb.mono (by simp)))
end Go.Proofs.YtoohpcomnhfgpaaGreat
end
section
namespace Go.Proofs.YtoohpcomnhfgpaaGreat
open Go.RowKit
set_option maxRecDepth 100000
set_option linter.all false
theorem ref_info5 : (Tryz.prog.info? 50).map (fun i => (i.zero, i.size, i.bytes)) = some (some (.agg #[.string ⟨#[]⟩, .string ⟨#[]⟩, .bool false, .int .i64 0, .int .i64 0, .int .i64 0, .int .i64 0, .int .i64 0, .int .i64 0]), 9, 88) := by kernel_rfl
theorem row_one5 (e : En) : ∀ u ∈ enRow e, u.oneCell' = true := by
  intro u hu
  simp only [enRow, List.mem_cons, List.not_mem_nil, or_false] at hu
  rcases hu with rfl | rfl | rfl | rfl | rfl | rfl | rfl | rfl | rfl <;> rfl
theorem rows_next {l : List En} {k : Nat} {a : En} (h : l[k]? = some a) : (l.take (k + 1)).flatMap enRow = (l.take k).flatMap enRow ++ enRow a := by
  obtain ⟨hk, hb⟩ := List.getElem?_eq_some_iff.1 h
  rw [List.take_succ_eq_append_getElem hk, List.flatMap_append, hb]
  simp
theorem own_len5 {w : World} {base : Nat} {e : TypeId} {k n n' c : Nat} {A : Option Addr} {xs : List Value} (h : w.ownsRow base e k (.slice A n' c) n xs) : n' = n := by
  rcases h.2 with ⟨e1, h0⟩ | ⟨g, cap, cur, e1, _⟩
  · injection e1 with _ e2 _; omega
  · injection e1 with _ e2 _
set_option maxHeartbeats 6400000 in
theorem g_tos (A : Option Addr) (c n : Nat) (S : Nat → Prop) (l : List En) (hn : l.length = n) (hn4 : n ≤ 4096) (w : World) (hx : Cel w S (.slice A n c) n 9 (l.flatMap enRow)) :
    Calls Tryz.prog 30 #[.slice A n c] w fun E w' => ∃ v', E = .returned v' ∧ w'.ownsRow w.heap.size 50 9 v' n (l.flatMap enRow) ∧ Only none_ w w' := by
  obtain ⟨i0, hi0, hz0, hz1, hz2⟩ := info_parts ref_info5
  have HX := Lib.hid hx
  have HN := Lib.hid hn
  have M1 : Hid ((w.alloc (.cells #[] 50)).ownsRow w.heap.size 50 9 (.slice (some ⟨w.heap.size, 0, none⟩) 0 0) 0 []) := own_made w w.heap.size _ 9 0 #[] (by simp) (by simp [maxLen]) (Nat.le_refl _)
  have O1 := Lib.hid ((Only.refl none_ w).alloc (.cells #[] 50))
  clear hx hn
  go_enter Tryz.func30, Tryz.ntmps30
  go_wp2_with fail
  go_loopw [9, 3] (fun i o wr => ∃ (k : Nat) (B : Option Addr) (m d : Nat), k ≤ n ∧ i = .int .i64 (k : Int) ∧ o = .slice B m d ∧ m = k ∧ wr.ownsRow w.heap.size 50 9 (.slice B m d) k ((l.take k).flatMap enRow) ∧ Only none_ w wr) (fun i _ _ => n - (intOf i).toNat)
  case atStart => exact ⟨0, _, _, _, Nat.zero_le _, rfl, rfl, rfl, M1.out, O1.out⟩
  case round =>
    obtain ⟨k, B, m, d, hk, rfl, rfl, hm, hown, ho⟩ := hrel
    have HW := Lib.hid ho
    have OW := Lib.hid hown
    have HM := Lib.hid hm
    clear ho hown hm
    by_cases hlt : k < n
    · obtain ⟨a, ha⟩ : ∃ a, l[k]? = some a := ⟨l[k]'(by have := HN.out; omega), List.getElem?_eq_getElem _⟩
      obtain ⟨b, off, hA, _, hb, hc⟩ := in_elem enRow_length (by decide) HX.out HN.out ha
      subst hA
      have HC : Hid (∀ j u, (#[.string a.k, .string a.v, .bool a.d, .int .i64 a.s.c, .int .i64 a.s.s, .int .i64 a.a.c, .int .i64 a.a.s, .int .i64 a.p, .int .i64 a.g] : Array Value).toList[j]? = some u → wr.cell? ⟨b, off + k * 9 + j, none⟩ = some u) := fun j u hu => hc _ HW.out j u hu
      have HS := Lib.hid (rows_next ha)
      have BA := Lib.hid (Blk.new wr 82 #[.string a.k, .string a.v, .bool a.d, .int .i64 a.s.c, .int .i64 a.s.s, .int .i64 a.a.c, .int .i64 a.a.s, .int .i64 a.p, .int .i64 a.g])
      have O2 := Lib.hid ((Only.refl none_ wr).alloc (.cells #[.string a.k, .string a.v, .bool a.d, .int .i64 a.s.c, .int .i64 a.s.s, .int .i64 a.a.c, .int .i64 a.a.s, .int .i64 a.p, .int .i64 a.g] 82))
      have MX : Hid (k + 1 ≤ maxLen ∧ (k + 1) * 88 ≤ 140737488355328) := by simp only [Hid, maxLen]; omega
      have hki : (k : Int) < (n : Int) := by omega
      clear ha hc
      go_wp2_with (first
        | (with_reducible refine wpl_piece rfl 82 _ rfl b (off + k * 9) rfl #[.string a.k, .string a.v, .bool a.d, .int .i64 a.s.c, .int .i64 a.s.s, .int .i64 a.a.c, .int .i64 a.a.s, .int .i64 a.p, .int .i64 a.g] _ HC.out Tryz.underlying82 rfl (by kernel_rfl) ?_)
        | (with_reducible refine wpl_new rfl rfl 82 rfl _ _ rfl #[.string a.k, .string a.v, .bool a.d, .int .i64 a.s.c, .int .i64 a.s.s, .int .i64 a.a.c, .int .i64 a.a.s, .int .i64 a.p, .int .i64 a.g] rfl rfl (by kernel_rfl) (en_cells_one a) ?_)
        | (with_reducible refine wpl_load rfl 82 _ rfl wr.heap.size rfl _ #[.string a.k, .string a.v, .bool a.d, .int .i64 a.s.c, .int .i64 a.s.s, .int .i64 a.a.c, .int .i64 a.a.s, .int .i64 a.p, .int .i64 a.g] _ BA.out Tryz.underlying82 rfl (by kernel_rfl) ?_)
        | (go_at_call 26; refine (en_to a _).mono ?_; rintro E w5 ⟨rfl, o5⟩
           have O5 := Lib.hid (O2.out.trans o5)
           have O6 := Lib.hid ((O2.out.trans o5).alloc (.cells #[.string a.k, .string a.v, .bool a.d, .int .i64 a.s.c, .int .i64 a.s.s, .int .i64 a.a.c, .int .i64 a.a.s, .int .i64 a.p, .int .i64 a.g] 50))
           have OW6 := Lib.hid (owns_only OW.out O6.out (fun _ _ h => h))
           have CM := Lib.hid (cel_made w5 50 9 1 #[.string a.k, .string a.v, .bool a.d, .int .i64 a.s.c, .int .i64 a.s.s, .int .i64 a.a.c, .int .i64 a.a.s, .int .i64 a.p, .int .i64 a.g] rfl (by simp [maxLen]))
           have ONE : Hid (∀ u ∈ (#[.string a.k, .string a.v, .bool a.d, .int .i64 a.s.c, .int .i64 a.s.s, .int .i64 a.a.c, .int .i64 a.a.s, .int .i64 a.p, .int .i64 a.g] : Array Value).toList, u.oneCell' = true) := row_one5 a
           have SZ : Hid (w.heap.size ≤ (w5.alloc (.cells #[.string a.k, .string a.v, .bool a.d, .int .i64 a.s.c, .int .i64 a.s.s, .int .i64 a.a.c, .int .i64 a.a.s, .int .i64 a.p, .int .i64 a.g] 50)).heap.size) := (HW.out.trans O6.out).size
           clear o5)
        | (at_builtin; refine wpList_append_cel _ rfl (.tmp 13) (.tmp 16) 35 rfl w.heap.size 50 i0 _ 9 88 Tryz.underlying35 hi0 hz0 hz1 hz2 rfl (by omega) (.slice B m d) k _ rfl OW6.out _ _ 1 _ rfl CM.out ONE.out MX.out.1 MX.out.2 SZ.out ?_
           intro A7 n7 c7 w7 hown7 hgrow7 hmv7
           have O7 : Hid (Only none_ w w7) := (HW.out.trans O6.out).grown hgrow7 (fun k hk => .inr (OW6.out.lt k hk).1)
           have H7 := Lib.hid hown7
           have HN7 : Hid (n7 = k + 1) := own_len5 hown7
           clear hown7 hgrow7 hmv7))
      go_roundw
      case rel => exact ⟨k + 1, A7, n7, c7, by omega, by go_num, rfl, HN7.out, by rw [HS.out]; exact H7.out, O7.out⟩
      case measure => simp [intOf]; omega
    · obtain rfl : k = n := by omega
      have HT : Hid (l.take k = l) := by rw [Hid, ← HN.out, List.take_length]
      have F : Hid (wr.ownsRow w.heap.size 50 9 (.slice B m d) k (l.flatMap enRow)) := by have := OW.out; rwa [HT.out] at this
      clear HT OW
      go_wp2_with fail
      go_ret
      exact ⟨_, rfl, F.out, HW.out⟩
end Go.Proofs.YtoohpcomnhfgpaaGreat
end
section
namespace Go.Proofs.YtoohpcomnhfgpaaGreat
open Go.RowKit
set_option maxRecDepth 100000
set_option linter.all false
theorem same_str (a b : ByteArray) : (a.toList == b.toList) = decide (a = b) := by
  rw [Bool.eq_iff_iff, beq_iff_eq, decide_eq_true_eq]
  exact ⟨fun h => by
    have e : ∀ x : ByteArray, x.toList = x.data.toList := fun x => by
      rw [ByteArray.toList_eq]
    rw [e, e] at h
    exact key_ext h, fun h => by rw [h]⟩
end Go.Proofs.YtoohpcomnhfgpaaGreat
end
section
namespace Go.Proofs.YtoohpcomnhfgpaaGreat
open Go.RowKit
set_option maxRecDepth 100000
set_option linter.all false
theorem str1_length (s : ByteArray) : ([.string s] : List Value).length = 1 := rfl
theorem flat_str (l : List ByteArray) : l.flatMap (fun s => [Value.string s]) = l.map .string := by
  induction l with
  | nil => rfl
  | cons a l ih => rw [List.flatMap_cons, List.map_cons, ih]; rfl
set_option maxHeartbeats 3200000 in
theorem rg_texts (S T : Nat → Prop) (l : List ByteArray) (A B : Option Addr) (n c d : Nat) (w : World) (ha : Cel w S (.slice A n c) n 1 (l.map .string)) (hb : Cel w T (.slice B n d) n 1 (l.map .string)) (hn : l.length = n) (hl : n ≤ 4096) :
    Calls Tryz.prog 60 #[.slice A n c, .slice B n d] w fun e w' => e = .returned (.bool true) ∧ Only none_ w w' := by
  rw [← flat_str] at ha hb
  have HA := Lib.hid ha
  have HB := Lib.hid hb
  have HN := Lib.hid hn
  clear ha hb hn
  go_enter Tryz.func60, Tryz.ntmps60
  go_wp2_with fail
  go_loopw [13] (fun s5 wr => ∃ i : Nat, i ≤ n ∧ s5 = .int .i64 i ∧ Only none_ w wr) (fun s5 _ => n - (intOf s5).toNat)
  case atStart => exact ⟨0, by omega, rfl, Only.refl _ _⟩
  case round =>
    obtain ⟨i, hi, rfl, o⟩ := hrel
    have O := Lib.hid o
    by_cases hlt : i < n
    · obtain ⟨p, hp⟩ : ∃ p, l[i]? = some p := ⟨l[i]'(by have := HN.out; omega), List.getElem?_eq_getElem _⟩
      obtain ⟨a0, off0, hA, _, _, ca⟩ := in_elem str1_length (by decide) HA.out HN.out hp
      obtain ⟨b0, off1, hB, _, _, cb⟩ := in_elem str1_length (by decide) HB.out HN.out hp
      subst hA hB
      have hbl := same_str p p
      rw [decide_eq_true rfl] at hbl
      have x0 := ca _ o 0 _ rfl
      have y0 := cb _ o 0 _ rfl
      rw [Nat.add_zero, Nat.mul_one] at x0 y0
      have hki : (i : Int) < (n : Int) := by omega
      clear o ca cb hp
      go_wp2_with fail
      go_quiet (fail)
      go_wp2_with fail
      go_roundw
      case rel => exact ⟨i + 1, by omega, by go_num, O.out.drewN _⟩
      case measure => simp [intOf]; omega
    · clear o
      go_wp2_with fail
      go_ret
      exact ⟨rfl, O.out⟩
end Go.Proofs.YtoohpcomnhfgpaaGreat
end
section
namespace Go.Proofs.YtoohpcomnhfgpaaGreat
open Go.RowKit
set_option maxRecDepth 100000
set_option linter.all false
def spE (x : En) : En := { x with g := 0 }
theorem sp_alike {x y : En} (h : spE x = spE y) : enAlike x y = true := by
  unfold enAlike
  rw [enEq_iff]
  obtain ⟨xk, xv, xd, xs, xa, xp, xg⟩ := x
  obtain ⟨yk, yv, yd, ys, ya, yp, yg⟩ := y
  simp only [spE, En.mk.injEq] at h ⊢
  obtain ⟨h1, h2, h3, h4, h5, h6, _⟩ := h
  exact ⟨h1, h2, h3, h4, h5, h6, trivial⟩
theorem sp_set {l : List En} {was y : En} (hr : RisE l) (hw : was ∈ l) (hk : y.k = was.k) (h : spE y = spE was) : (setE y l).map spE = l.map spE := by
  obtain ⟨P, r, rfl⟩ := List.append_of_mem hw
  rw [set_mid hk hr, List.map_append, List.map_append, List.map_cons, List.map_cons, h]
structure Iv (T : List En) (z c : Int) (own : List ByteArray) (s : Rs) : Prop where
  t : s.tab.map spE = T.map spE
  z : s.z = z
  c : s.c = c
  w : s.own = own
  h : ∀ x ∈ T, enCheck x = 0 ∧ x.a.c ≤ s.c
theorem Iv.mg {T : List En} {z c : Int} {own : List ByteArray} {log : List En} {s : Rs} (h : Iv T z c own s) (wf : Wf log s) {x : En} (hx : x ∈ T) : ∃ s', mgR s x = (s', 0, enZero, 0) ∧ Wf log s' ∧ Iv T z c own s' := by
  obtain ⟨hc, hac⟩ := h.h x hx
  have hm : spE x ∈ s.tab.map spE := by rw [h.t]; exact List.mem_map.2 ⟨x, hx, rfl⟩
  obtain ⟨was, hw, he⟩ := List.mem_map.1 hm
  obtain ⟨wk, wv, wd, ws, wa, wp, wg⟩ := was
  obtain ⟨xk, xv, xd, xs, xa, xp, xg⟩ := x
  simp only [spE, En.mk.injEq] at he
  obtain ⟨h1, h2, h3, h4, h5, h6, _⟩ := he
  subst h1 h2 h3 h4 h5 h6
  have hl : lookE s.tab wk = some ⟨wk, wv, wd, ws, wa, wp, wg⟩ := look_mem wf.ris hw
  have hn : newsM s.tab ⟨wk, wv, wd, ws, wa, wp, xg⟩ = false := by
    unfold newsM
    rw [hl]
    show enNewer _ _ = false
    unfold enNewer
    rw [if_pos ((stEq_iff _ _).2 rfl)]
    unfold stLater
    rw [if_pos rfl]
    simp
  have hse : seeS s ⟨wk, wv, wd, ws, wa, wp, xg⟩ = s := by
    have : seeC s.c wa = s.c := by
      unfold seeC
      rw [if_neg]
      rintro ⟨_, h7⟩
      have h8 : wa.c ≤ s.c := hac
      omega
    unfold seeS
    rw [this]
  refine ⟨{ s with tab := youngM s.o s.tab ⟨wk, wv, wd, ws, wa, wp, xg⟩ }, ?_, wf.young hc, ⟨?_, h.z, h.c, h.w, h.h⟩⟩
  · unfold mgR
    rw [if_neg (fun e => e hc), if_pos hn, hse]
  · show (youngM s.o s.tab ⟨wk, wv, wd, ws, wa, wp, xg⟩).map spE = _
    rw [← h.t]
    unfold youngM
    rw [hl]
    simp only
    split
    · exact sp_set wf.ris hw rfl rfl
    · rfl
structure Ce (a : Ra) (T : List En) (M N : Nat) (K : List ByteArray) (v1 v2 v3 : Value) (X : World) : Prop where
  c1 : Cel X (fun b => ¬ allF a b) v1 M 9 (T.flatMap enRow)
  c2 : Cel X (fun b => ¬ allF a b) v2 N 1 (K.map .string)
  c3 : Cel X (fun b => ¬ allF a b) v3 M 9 (T.flatMap enRow)
section
variable {a a' : Ra} {T : List En} {M N n k g : Nat} {K : List ByteArray} {v v1 v2 v3 : Value} {X X' : World} {cs : List Value}
theorem cel_ol (h : Cel X (fun b => ¬ allF a b) v n k cs) (o : Ol a a' X X') : Cel X' (fun b => ¬ allF a' b) v n k cs :=
  ((h.mono (T := fun b => ¬ allF a b ∧ b < X.heap.size) (fun b hb hs => ⟨hs, hb⟩)).only o.o (fun b hb => hb.1)).mono (fun b _ hb hf => by
    rcases o.f b hf with h1 | h1
    · exact hb.1 h1
    · have := hb.2; omega)
theorem Ce.ol (h : Ce a T M N K v1 v2 v3 X) (o : Ol a a' X X') : Ce a' T M N K v1 v2 v3 X' := ⟨cel_ol h.c1 o, cel_ol h.c2 o, cel_ol h.c3 o⟩
theorem Ce.keep (h : Ce a T M N K v1 v2 v3 X) (o : Only none_ X X') : Ce a T M N K v1 v2 v3 X' := ⟨h.c1.only o (fun _ _ h => h), h.c2.only o (fun _ _ h => h), h.c3.only o (fun _ _ h => h)⟩
theorem cel_new {S : Nat → Prop} (h : Cel X S v n k cs) (o : Only none_ X X') (c' : Array Value) (hg : X.heap.size ≤ g) : Cel (X'.setRow g c') S v n k cs :=
  (((h.mono (T := fun b => S b ∧ b < X.heap.size) (fun b hb hs => ⟨hs, hb⟩)).only o (fun _ _ h => h)).only (only_rowP X' g c') (fun b hb e => by
    have e' : b = g := e
    have := hb.2
    omega)).mono (fun b _ hb => hb.1)
theorem Ce.new (h : Ce a T M N K v1 v2 v3 X) (o : Only none_ X X') (c' : Array Value) (hg : X.heap.size ≤ g) : Ce a T M N K v1 v2 v3 (X'.setRow g c') := ⟨cel_new h.c1 o c' hg, cel_new h.c2 o c' hg, cel_new h.c3 o c' hg⟩
end
def ownS (own : List ByteArray) : List ByteArray := (ownB own).map fun b => ⟨b.toArray⟩
theorem ownS_map (own : List ByteArray) : (ownB own).map Go.Proofs.encStr = (ownS own).map .string := by
  unfold ownS
  rw [List.map_map]
  rfl
theorem ownS_len (own : List ByteArray) : (ownS own).length = own.length := by simp [ownS, ownB_len]
theorem nine_at {X : World} {b p : Nat} {e : En} (h : ∀ i u, (#[.string e.k, .string e.v, .bool e.d, .int .i64 e.s.c, .int .i64 e.s.s, .int .i64 e.a.c, .int .i64 e.a.s, .int .i64 e.p, .int .i64 e.g] : Array Value).toList[i]? = some u → X.cell? ⟨b, p + i, none⟩ = some u) : X.cell? ⟨b, p, none⟩ = some (.string e.k) ∧ X.cell? ⟨b, p + 1, none⟩ = some (.string e.v) ∧ X.cell? ⟨b, p + 2, none⟩ = some (.bool e.d) ∧ X.cell? ⟨b, p + 3, none⟩ = some (.int .i64 e.s.c) ∧ X.cell? ⟨b, p + 4, none⟩ = some (.int .i64 e.s.s) ∧ X.cell? ⟨b, p + 5, none⟩ = some (.int .i64 e.a.c) ∧ X.cell? ⟨b, p + 6, none⟩ = some (.int .i64 e.a.s) ∧ X.cell? ⟨b, p + 7, none⟩ = some (.int .i64 e.p) ∧ X.cell? ⟨b, p + 8, none⟩ = some (.int .i64 e.g) :=
  ⟨h 0 _ rfl, h 1 _ rfl, h 2 _ rfl, h 3 _ rfl, h 4 _ rfl, h 5 _ rfl, h 6 _ rfl, h 7 _ rfl, h 8 _ rfl⟩
set_option maxHeartbeats 51200000 in
theorem rp_idle (o : Ro) (v : Value) (l : List Pa) (S : Nat → Prop) (w : World) (hx : Cel w S v l.length 12 (l.flatMap paRow)) :
    Calls Tryz.prog 10 #[.agg #[.int .i64 o.n, .int .i64 o.q, .int .i64 o.r, .int .i64 o.t1, .int .i64 o.t2], v] w fun E w' => E = .returned (.bool true) ∧ Only none_ w w' := by
  have HSP := Lib.hid (fun (X : World) => rp_speaks X)
  have HFW : Hid (∀ X, Only none_ w X → Calls Tryz.prog 13 #[v, .int .i64 50] X fun E w' => E = .returned (.bool (l.all paShort && decide (l.length ≤ 50))) ∧ Only none_ X w') :=
    fun X ho => rp_few v l 50 X S (hx.only ho (fun _ _ h => h))
  have HCK := Lib.hid (fun (X : World) => rd_check o X)
  have BX := Lib.hid (Blk.new w 23 #[.int .i64 o.n, .int .i64 o.q, .int .i64 o.r, .int .i64 o.t1, .int .i64 o.t2])
  have O0 := Lib.hid ((Only.refl none_ w).alloc (.cells #[.int .i64 o.n, .int .i64 o.q, .int .i64 o.r, .int .i64 o.t1, .int .i64 o.t2] 23))
  obtain ⟨A, c, rfl, _, h2, h3, _, _⟩ := id hx
  have HX := Lib.hid hx
  obtain ⟨L, hL⟩ : ∃ L, l.length = L := ⟨_, rfl⟩
  have HL := Lib.hid hL
  rw [hL] at HX HFW h2 ⊢
  obtain ⟨fw, hfw⟩ : ∃ fw, (l.all paShort && decide (L ≤ 50)) = fw := ⟨_, rfl⟩
  have hL50 : fw = true → L ≤ 50 := by intro e; rw [e] at hfw; simp at hfw; exact hfw.2
  rw [hfw] at HFW
  clear hx hL h2 h3 hfw
  cases fw with
  | false =>
    as_aux_lemma =>
      clear HX HL HCK BX hL50
      go_enter Tryz.func10, Tryz.ntmps10
      have tok1 : True := trivial
      go_wp2_with (first
        | (go_at_call 12; have _t := tok1; clear tok1; refine (HSP.out _).mono ?_; rintro E w1 ⟨rfl, o1⟩; have O1 := Lib.hid (O0.out.trans o1); clear o1; have tok2 : True := trivial)
        | (go_at_call 13; refine (HFW.out _ O1.out).mono ?_; rintro E w2 ⟨rfl, o2⟩; have O2 := Lib.hid (O1.out.trans o2); clear o2)
        | (go_at_call 12; have _t := tok2; clear tok2; refine (HSP.out _).mono ?_; rintro E w9 ⟨rfl, o9⟩; have O9 := Lib.hid (O2.out.trans o9); clear o9))
      go_ret
      exact ⟨rfl, O9.out⟩
  | true =>
    have hL50' := hL50 rfl
    clear hL50
    obtain ⟨ck, hck⟩ : ∃ ck, roCheck o = ck := ⟨_, rfl⟩
    rw [hck] at HCK
    by_cases hc0 : ck = 0
    · subst hc0
      have hob : roBad o = false := by
        unfold roCheck at hck
        split at hck
        · cases hck
        · next h => simpa using h
      have HPY : Hid (∀ X, Only none_ w X → Calls Tryz.prog 52 #[.agg #[.int .i64 o.n, .int .i64 o.q, .int .i64 o.r, .int .i64 o.t1, .int .i64 o.t2], .slice A L c] X fun E w' => ∃ (B : World) (dg r : Nat) (a : Ra) (s : Rs) (log : List En), E = .returned (.pointer (some ⟨r, 0, none⟩)) ∧ Rq B o dg a s log r L w' ∧ Ow log s ∧ Only none_ X B) :=
        fun X oX => rp_play o hob A L c l S X (HX.out.only oX (fun _ _ h => h)) HL.out hL50'
      clear hck HX HL hob
      go_enter Tryz.func10, Tryz.ntmps10
      have tok1 : True := trivial
      go_upto_region 6 with (first
        | (go_at_call 12; refine (HSP.out _).mono ?_; rintro E w1 ⟨rfl, o1⟩; have P1 := Lib.hid (O0.out.trans o1); have B1 := Lib.hid (BX.out.only o1 (fun h => h)); clear o1)
        | (go_at_call 13; refine (HFW.out _ P1.out).mono ?_; rintro E w2 ⟨rfl, o2⟩; have P2 := Lib.hid (P1.out.trans o2); have B2 := Lib.hid (B1.out.only o2 (fun h => h)); clear o2)
        | (refine wpl_load_if (by rfl) 23 _ rfl w.heap.size rfl 23 #[.int .i64 o.n, .int .i64 o.q, .int .i64 o.r, .int .i64 o.t1, .int .i64 o.t2] _ B2.out Tryz.underlying23 rfl (by kernel_rfl) ?_)
        | (go_at_call 19; refine (HCK.out _).mono ?_; rintro E w3 ⟨rfl, o3⟩; have P3 := Lib.hid (P2.out.trans o3); have B3 := Lib.hid (B2.out.only o3 (fun h => h)); clear o3)
        | (refine wpl_load rfl 23 _ rfl w.heap.size rfl 23 #[.int .i64 o.n, .int .i64 o.q, .int .i64 o.r, .int .i64 o.t1, .int .i64 o.t2] _ B3.out Tryz.underlying23 rfl (by kernel_rfl) ?_)
        | (go_at_call 52; refine (HPY.out _ P3.out).mono ?_; rintro E w6 ⟨B, dg, r, a, s, log, rfl, hR, hW, oB⟩
           have R6 := Lib.hid hR
           have HOW := Lib.hid hW
           have P6 := Lib.hid (P3.out.trans oB)
           clear hR hW oB))
      clear P1 B1 P2 B2 P3 B3 HPY HFW HCK BX O0
      obtain ⟨T, hT⟩ : ∃ T, s.tab = T := ⟨_, rfl⟩
      obtain ⟨M, hM⟩ : ∃ M, T.length = M := ⟨_, rfl⟩
      have HM := Lib.hid hM
      have hM60 : M ≤ 60 := by
        have h1 := R6.out.wf.tl
        have h2 := R6.out.n
        rw [hT, hM] at h1
        omega
      obtain ⟨N, hN⟩ : ∃ N, (ownS s.own).length = N := ⟨_, rfl⟩
      have HN := Lib.hid hN
      have hN60 : N ≤ 60 := by
        have h1 : s.own.length ≤ log.length := HOW.out
        have h2 := R6.out.n
        have h3 := ownS_len s.own
        omega
      obtain ⟨K, hK⟩ : ∃ K, ownS s.own = K := ⟨_, rfl⟩
      obtain ⟨zz, hzz⟩ : ∃ zz, w64 s.z = zz := ⟨_, rfl⟩
      have HO60 : Hid (s.own.length ≤ 4096) := by
        have h1 : s.own.length ≤ log.length := HOW.out
        have h2 := R6.out.n
        simp only [Hid]; omega
      have HI6 : Hid (Iv T s.z s.c s.own s) := ⟨by rw [hT], rfl, rfl, rfl, fun x hx => R6.out.wf.chk x (by rw [hT]; exact hx)⟩
      have HEN : Hid (∀ (a' : Ra) (s' : Rs) (X : World), Rq B o dg a' s' log r L X → Calls Tryz.prog 40 #[.pointer (some ⟨r, 6, none⟩)] X fun E w' => ∃ v', E = .returned v' ∧ w'.ownsRow X.heap.size 82 9 v' s'.tab.length (s'.tab.flatMap enRow) ∧ Only none_ X w') := fun a' s' X h => by
        have := ct_entries B a' s' X h.p
        rwa [h.hr] at this
      have HSU : Hid (∀ (a' : Ra) (s' : Rs) (X : World), Rq B o dg a' s' log r L X → s'.z = s.z → Calls Tryz.prog 53 #[.pointer (some ⟨r, 6, none⟩)] X fun E w' => E = .returned (.int .u64 zz) ∧ X = w') := fun a' s' X h hz => by
        have := ct_sum B a' s' X h.p
        rwa [h.hr, hz, hzz] at this
      obtain ⟨cc, hcc⟩ : ∃ cc, s.c = cc := ⟨_, rfl⟩
      have HNW : Hid (∀ (a' : Ra) (s' : Rs) (X : World), Rq B o dg a' s' log r L X → s'.c = s.c → Calls Tryz.prog 58 #[.pointer (some ⟨a'.ck, 0, none⟩)] X fun E w' => E = .returned (.int .i64 cc) ∧ X = w') := fun a' s' X h hc => by
        have := clk_now a'.ck s'.site s'.c X h.p.ck
        rwa [hc, hcc] at this
      have HOS : Hid (∀ (a' : Ra) (s' : Rs) (X : World), Rq B o dg a' s' log r L X → s'.own = s.own → Calls Tryz.prog 59 #[.pointer (some ⟨r, 0, none⟩)] X fun E w' => ∃ v', E = .returned v' ∧ w'.ownsRow X.heap.size 9 1 v' K.length (K.flatMap fun k => [.string k]) ∧ Only none_ X w') := fun a' s' X h hw => by
        have := rp_own B a' s' X h.p (by rw [hw]; exact HO60.out)
        rw [h.hr, hw, ownS_map, hK, ← flat_str, show (ownB s.own).length = K.length from by rw [← hK, ownS_len, ownB_len]] at this
        exact this
      rw [hK] at HN
      have HT := Lib.hid hT
      have Z6 : Hid (s.z = s.z ∧ s.c = s.c ∧ s.own = s.own) := ⟨rfl, rfl, rfl⟩
      clear hT hM hN hK hzz hcc HO60
      (refine wp_region_free_tail (fun X => Only none_ w6 X) (Only none_) (F := ?_) (by kernel_rfl) 16 129 (by rfl) (by kernel_rfl) (fun x => ?_) ((Only.refl none_ w6).drew) ?_; rotate_left; (· (simp only [List.take_succ_cons, List.take_zero, putsL, Act.put, List.setIfInBounds_toArray, List.set_cons_zero, List.set_cons_succ, Nat.reduceAdd]; exact rfl)); simp only [List.take_succ_cons, List.take_zero, List.drop_succ_cons, List.drop_zero])
      repeat (first | ((first | refine fr_value (c := ?_) (by rfl) (fun w => Only.refl none_ w) (fun x w0 hS hk => ?_) ?_ | refine fr_value_if (c := ?_) (by rfl) (by rfl) (by rfl) (fun w => Only.refl none_ w) (fun x w0 hS hk => ?_) ?_); rotate_left; (· (have hk2 := hk; (try simp [knAll, Region.binds] at hk2); skip; go_simp; try (with_reducible rfl))); try simp only [List.nil_append, List.cons_append]))
      ((first | refine fr_some (SlO enRow 9 w6.heap.size 82 M T) (fun _ _ _ _ _ r h => h.keep r) (by rfl) (fun x w0 hS hk => ?_) ?_ | refine fr_some_if (SlO enRow 9 w6.heap.size 82 M T) (fun _ _ _ _ _ r h => h.keep r) (by rfl) (by rfl) (by rfl) (fun x w0 hS hk => ?_) ?_); (· (have hk2 := hk; (try simp [knAll, Region.binds] at hk2); skip; refine got_call (f := 40) (args := ?_) (by go_simp; try (with_reducible rfl)) ?_; refine (HEN.out _ _ _ (R6.out.keep hS)).mono ?_; rw [HT.out]; rintro e w8 ⟨v8, rfl, own8, o8⟩; exact ⟨v8, rfl, SlO.of own8 HM.out hS.size, hS.trans o8, o8⟩)); try simp only [List.nil_append, List.cons_append])
      ((first | refine fr_some (SlO enRow 9 w6.heap.size 50 M T) (fun _ _ _ _ _ r h => h.keep r) (by rfl) (fun x w0 hS hk => ?_) ?_ | refine fr_some_if (SlO enRow 9 w6.heap.size 50 M T) (fun _ _ _ _ _ r h => h.keep r) (by rfl) (by rfl) (by rfl) (fun x w0 hS hk => ?_) ?_); (· (have hk2 := hk; (try simp [knAll, Region.binds] at hk2); obtain ⟨A9, c9, e9, own9⟩ := kn_at (j := 3) (by rfl) hk (by rfl); refine got_call (f := 30) (args := ?_) (by go_simp; try (with_reducible rfl)) ?_; refine (g_tos A9 c9 M _ T HM.out (by omega) _ (Cel.of_own own9)).mono ?_; rintro e w8 ⟨v8, rfl, own8, o8⟩; exact ⟨v8, rfl, SlO.of (by rw [HM.out]; exact own8) HM.out hS.size, hS.trans o8, o8⟩)); try simp only [List.nil_append, List.cons_append])
      repeat (first | ((first | refine fr_value (c := ?_) (by rfl) (fun w => Only.refl none_ w) (fun x w0 hS hk => ?_) ?_ | refine fr_value_if (c := ?_) (by rfl) (by rfl) (by rfl) (fun w => Only.refl none_ w) (fun x w0 hS hk => ?_) ?_); rotate_left; (· (have hk2 := hk; (try simp [knAll, Region.binds] at hk2); skip; go_simp; try (with_reducible rfl))); try simp only [List.nil_append, List.cons_append]))
      ((first | refine fr_some (fun v _ => v = .int .u64 zz) (fun _ _ _ _ _ _ h => h) (by rfl) (fun x w0 hS hk => ?_) ?_ | refine fr_some_if (fun v _ => v = .int .u64 zz) (fun _ _ _ _ _ _ h => h) (by rfl) (by rfl) (by rfl) (fun x w0 hS hk => ?_) ?_); (· (have hk2 := hk; (try simp [knAll, Region.binds] at hk2); skip; refine got_call (f := 53) (args := ?_) (by go_simp; try (with_reducible rfl)) ?_; refine (HSU.out _ _ _ (R6.out.keep hS) rfl).mono ?_; rintro e w8 ⟨rfl, rfl⟩; exact ⟨_, rfl, rfl, hS, Only.refl _ _⟩)); try simp only [List.nil_append, List.cons_append])
      repeat (first | ((first | refine fr_value (c := ?_) (by rfl) (fun w => Only.refl none_ w) (fun x w0 hS hk => ?_) ?_ | refine fr_value_if (c := ?_) (by rfl) (by rfl) (by rfl) (fun w => Only.refl none_ w) (fun x w0 hS hk => ?_) ?_); rotate_left; (· (have hk2 := hk; (try simp [knAll, Region.binds] at hk2); have rr := (R6.out.p.keep hS).bk.cell_ (i := 5) rfl; rw [R6.out.hr] at rr; (try dsimp only at rr); go_simp; try (with_reducible rfl))); try simp only [List.nil_append, List.cons_append]))
      ((first | refine fr_some (fun v _ => v = .int .i64 cc) (fun _ _ _ _ _ _ h => h) (by rfl) (fun x w0 hS hk => ?_) ?_ | refine fr_some_if (fun v _ => v = .int .i64 cc) (fun _ _ _ _ _ _ h => h) (by rfl) (by rfl) (by rfl) (fun x w0 hS hk => ?_) ?_); (· (have hk2 := hk; (try simp [knAll, Region.binds] at hk2); skip; refine got_call (f := 58) (args := ?_) (by go_simp; try (with_reducible rfl)) ?_; refine (HNW.out _ _ _ (R6.out.keep hS) rfl).mono ?_; rintro e w8 ⟨rfl, rfl⟩; exact ⟨_, rfl, rfl, hS, Only.refl _ _⟩)); try simp only [List.nil_append, List.cons_append])
      repeat (first | ((first | refine fr_value (c := ?_) (by rfl) (fun w => Only.refl none_ w) (fun x w0 hS hk => ?_) ?_ | refine fr_value_if (c := ?_) (by rfl) (by rfl) (by rfl) (fun w => Only.refl none_ w) (fun x w0 hS hk => ?_) ?_); rotate_left; (· (have hk2 := hk; (try simp [knAll, Region.binds] at hk2); skip; go_simp; try (with_reducible rfl))); try simp only [List.nil_append, List.cons_append]))
      ((first | refine fr_some (SlO (fun k : ByteArray => [.string k]) 1 w6.heap.size 9 N K) (fun _ _ _ _ _ r h => h.keep r) (by rfl) (fun x w0 hS hk => ?_) ?_ | refine fr_some_if (SlO (fun k : ByteArray => [.string k]) 1 w6.heap.size 9 N K) (fun _ _ _ _ _ r h => h.keep r) (by rfl) (by rfl) (by rfl) (fun x w0 hS hk => ?_) ?_); (· (have hk2 := hk; (try simp [knAll, Region.binds] at hk2); skip; refine got_call (f := 59) (args := ?_) (by go_simp; try (with_reducible rfl)) ?_; refine (HOS.out _ _ _ (R6.out.keep hS) rfl).mono ?_; rintro e w8 ⟨v8, rfl, own8, o8⟩; exact ⟨v8, rfl, SlO.of own8 HN.out hS.size, hS.trans o8, o8⟩)); try simp only [List.nil_append, List.cons_append])
      (refine fr_end ?_; intro x w9 hS hk)
      obtain ⟨A1, c1, e1, own1⟩ := kn_end_at 4 hk (by rfl)
      have e8 := kn_end_at 8 hk (by rfl)
      have e13 := kn_end_at 13 hk (by rfl)
      obtain ⟨A2, c2, e2, own2⟩ := kn_end_at 15 hk (by rfl)
      rw [Nat.zero_add] at e1 e8 e13 e2
      rw [e1, e8, e13, e2]
      have R7 := Lib.hid (R6.out.keep hS)
      have hf : ∀ k, allF a k → k < w6.heap.size := fun k hk => (R6.out.p.all_ge hk).2
      have X1 : Hid (Cel w9 (fun b => ¬ allF a b) (.slice A1 M c1) M 9 (T.flatMap enRow)) := (Cel.of_own own1).mono (fun b _ hb h => by have := (own1.lt b hb).1; have := hf b h; omega)
      have X2 : Hid (Cel w9 (fun b => ¬ allF a b) (.slice A2 N c2) N 1 (K.map .string)) := by
        have := (Cel.of_own own2).mono (T := fun b => ¬ allF a b) (fun b _ hb h => by have := (own2.lt b hb).1; have := hf b h; omega)
        rwa [flat_str] at this
      have HNQ : Hid (∀ X, (binOp .neq 82 (.agg #[.string enZero.k, .string enZero.v, .bool enZero.d, .int .i64 enZero.s.c, .int .i64 enZero.s.s, .int .i64 enZero.a.c, .int .i64 enZero.a.s, .int .i64 enZero.p, .int .i64 enZero.g]) (.agg #[.string enZero.k, .string enZero.v, .bool enZero.d, .int .i64 enZero.s.c, .int .i64 enZero.s.s, .int .i64 enZero.a.c, .int .i64 enZero.a.s, .int .i64 enZero.p, .int .i64 enZero.g])).run Tryz.prog X = .ok (.bool (!enEq enZero enZero)) X) := fun X => neq_of (eq_api_entry X enZero enZero 9997)
      rw [enEq_refl] at HNQ
      obtain ⟨x0, hx0⟩ : ∃ x0, enZero = x0 := ⟨_, rfl⟩
      have HZ0 : Hid (∀ X, (binOp .neq 82 (.agg #[.string x0.k, .string x0.v, .bool x0.d, .int .i64 x0.s.c, .int .i64 x0.s.s, .int .i64 x0.a.c, .int .i64 x0.a.s, .int .i64 x0.p, .int .i64 x0.g]) (.agg #[.string ⟨#[]⟩, .string ⟨#[]⟩, .bool false, .int .i64 0, .int .i64 0, .int .i64 0, .int .i64 0, .int .i64 0, .int .i64 0])).run Tryz.prog X = .ok (.bool false) X) := by
        intro X
        have := HNQ.out X
        rw [hx0] at this
        have e : (#[.string x0.k, .string x0.v, .bool x0.d, .int .i64 x0.s.c, .int .i64 x0.s.s, .int .i64 x0.a.c, .int .i64 x0.a.s, .int .i64 x0.p, .int .i64 x0.g] : Array Value) = #[.string ⟨#[]⟩, .string ⟨#[]⟩, .bool false, .int .i64 0, .int .i64 0, .int .i64 0, .int .i64 0, .int .i64 0, .int .i64 0] := by rw [← hx0]; rfl
        rw [e] at this ⊢
        exact this
      have hMi : (M : Int) ≤ 60 := by omega
      clear hk e1 e8 e13 e2 own1 own2 hf hS R6 HNQ
      go_wp2_with (first
        | (go_at_call 40; refine (HEN.out _ _ _ R7.out).mono ?_; rw [HT.out]; rintro E w10 ⟨v10, rfl, own10, o10⟩
           obtain ⟨A3, n3, c3, rfl⟩ := own_shape own10
           obtain rfl : M = n3 := by have := own_count own10; have := HM.out; omega
           have R8 := Lib.hid (R7.out.keep o10)
           have C8 : Hid (Ce a T M N K (.slice A1 M c1) (.slice A2 N c2) (.slice A3 M c3) w10) := ⟨X1.out.only o10 (fun _ _ h => h), X2.out.only o10 (fun _ _ h => h), by
             have h1 := (Cel.of_own own10).mono (T := fun b => ¬ allF a b) (fun b _ hb h => by have := (own10.lt b hb).1; have := (R7.out.p.all_ge h).2; omega)
             rwa [HM.out] at h1⟩
           clear own10 o10))
      go_loopw [56] (fun i X => ∃ (j : Nat) (a' : Ra) (s' : Rs), j ≤ M ∧ i = .int .i64 (j : Int) ∧ Rq B o dg a' s' log r L X ∧ Iv T s.z s.c s.own s' ∧ Ce a' T M N K (.slice A1 M c1) (.slice A2 N c2) (.slice A3 M c3) X) (fun i _ => M - (intOf i).toNat)
      case atStart => exact ⟨0, a, s, Nat.zero_le _, rfl, R8.out, HI6.out, C8.out⟩
      case round =>
        obtain ⟨j, a1, s1, hj, rfl, hR, hI, hC⟩ := hrel
        have R9 := Lib.hid hR
        have I9 := Lib.hid hI
        have C9 := Lib.hid hC
        clear hR hI hC R8 HI6 C8 X1 X2 R7
        by_cases hlt : j < M
        · skip
          obtain ⟨x, hx⟩ : ∃ x, T[j]? = some x := ⟨_, List.getElem?_eq_getElem (by have := HM.out; omega)⟩
          have hxm : x ∈ T := List.mem_of_getElem? hx
          obtain ⟨b3, off3, hA3, _, hb3, hc3⟩ := in_elem enRow_length (by decide) C9.out.c3 HM.out hx
          subst hA3
          have HCW : Hid (∀ i u, (#[.string x.k, .string x.v, .bool x.d, .int .i64 x.s.c, .int .i64 x.s.s, .int .i64 x.a.c, .int .i64 x.a.s, .int .i64 x.p, .int .i64 x.g] : Array Value).toList[i]? = some u → wr.cell? ⟨b3, off3 + j * 9 + i, none⟩ = some u) := fun i u hu => hc3 wr (Only.refl none_ wr) i u hu
          have hji : (j : Int) < (M : Int) := by omega
          have oa := (Only.refl none_ wr).alloc (.cells #[.string x.k, .string x.v, .bool x.d, .int .i64 x.s.c, .int .i64 x.s.s, .int .i64 x.a.c, .int .i64 x.a.s, .int .i64 x.p, .int .i64 x.g] 82)
          have R10 := Lib.hid (R9.out.keep oa)
          have C10 := Lib.hid (C9.out.keep oa)
          have Y10 := Lib.hid (Blk.new wr 82 #[.string x.k, .string x.v, .bool x.d, .int .i64 x.s.c, .int .i64 x.s.s, .int .i64 x.a.c, .int .i64 x.a.s, .int .i64 x.p, .int .i64 x.g])
          obtain ⟨s2, hmg, hwf, hiv⟩ := I9.out.mg R9.out.wf hxm
          rw [hx0] at hmg
          have HE := Lib.hid hmg
          have HWF := Lib.hid hwf
          have HIV := Lib.hid hiv
          have HNL : Hid (log.length ≤ L) := R9.out.n
          have hL60 : L ≤ 60 := by omega
          clear hx hxm hc3 hb3 oa hmg hwf hiv
          go_wp2_with (first
            | (with_reducible refine wpl_piece rfl 82 _ rfl b3 (off3 + j * 9) rfl #[.string x.k, .string x.v, .bool x.d, .int .i64 x.s.c, .int .i64 x.s.s, .int .i64 x.a.c, .int .i64 x.a.s, .int .i64 x.p, .int .i64 x.g] _ HCW.out Tryz.underlying82 rfl (by kernel_rfl) ?_)
            | (with_reducible refine wpl_new rfl rfl 82 rfl _ _ rfl #[.string x.k, .string x.v, .bool x.d, .int .i64 x.s.c, .int .i64 x.s.s, .int .i64 x.a.c, .int .i64 x.a.s, .int .i64 x.p, .int .i64 x.g] rfl rfl (by kernel_rfl) (en_cells_one x) ?_)
            | (with_reducible refine wpl_load rfl 82 _ rfl wr.heap.size rfl _ #[.string x.k, .string x.v, .bool x.d, .int .i64 x.s.c, .int .i64 x.s.s, .int .i64 x.a.c, .int .i64 x.a.s, .int .i64 x.p, .int .i64 x.g] _ Y10.out Tryz.underlying82 rfl (by kernel_rfl) ?_)
            | (go_at_call 35; refine (R10.out.mrg hL60 HE.out HWF.out HNL.out).mono ?_; rintro E w12 ⟨rfl, a2, r12, ol12⟩
               have ox := (Only.refl none_ w12).alloc (.cells #[.string ⟨#[]⟩, .string ⟨#[]⟩, .bool false, .int .i64 0, .int .i64 0, .int .i64 0, .int .i64 0, .int .i64 0, .int .i64 0] 82)
               have R12 := Lib.hid (r12.keep ox)
               have C12 := Lib.hid (C10.out.ol ol12)
               have X12 : Hid (Bn a2 w12.heap.size 82 #[.string ⟨#[]⟩, .string ⟨#[]⟩, .bool false, .int .i64 0, .int .i64 0, .int .i64 0, .int .i64 0, .int .i64 0, .int .i64 0] (w12.alloc (.cells #[.string ⟨#[]⟩, .string ⟨#[]⟩, .bool false, .int .i64 0, .int .i64 0, .int .i64 0, .int .i64 0, .int .i64 0, .int .i64 0] 82))) := Bn.new r12.p
               have n12 : Hid (B.heap.size ≤ w12.heap.size) := r12.p.ho.size
               clear r12 ol12 ox)
            | (refine wpList_store_row rfl 82 _ _ rfl w12.heap.size #[.string x0.k, .string x0.v, .bool x0.d, .int .i64 x0.s.c, .int .i64 x0.s.s, .int .i64 x0.a.c, .int .i64 x0.a.s, .int .i64 x0.p, .int .i64 x0.g] rfl rfl 82 _ X12.out.b (by kernel_rfl) rfl (en_cells_one x0) ?_
               have R13 := Lib.hid (R12.out.box X12.out n12.out (only_rowP _ _ #[.string x0.k, .string x0.v, .bool x0.d, .int .i64 x0.s.c, .int .i64 x0.s.s, .int .i64 x0.a.c, .int .i64 x0.a.s, .int .i64 x0.p, .int .i64 x0.g]))
               have C13 := Lib.hid (C12.out.new ((Only.refl none_ w12).alloc (.cells #[.string ⟨#[]⟩, .string ⟨#[]⟩, .bool false, .int .i64 0, .int .i64 0, .int .i64 0, .int .i64 0, .int .i64 0, .int .i64 0] 82)) #[.string x0.k, .string x0.v, .bool x0.d, .int .i64 x0.s.c, .int .i64 x0.s.s, .int .i64 x0.a.c, .int .i64 x0.a.s, .int .i64 x0.p, .int .i64 x0.g] (Nat.le_refl _))
               have X13 : Hid (Blk _ w12.heap.size 82 #[.string x0.k, .string x0.v, .bool x0.d, .int .i64 x0.s.c, .int .i64 x0.s.s, .int .i64 x0.a.c, .int .i64 x0.a.s, .int .i64 x0.p, .int .i64 x0.g]) := X12.out.b.setRow #[.string x0.k, .string x0.v, .bool x0.d, .int .i64 x0.s.c, .int .i64 x0.s.s, .int .i64 x0.a.c, .int .i64 x0.a.s, .int .i64 x0.p, .int .i64 x0.g]
               have hnq := HZ0.out
               have nn := nine_of X13.out))
          go_roundw
          case rel => exact ⟨j + 1, a2, s2, by omega, by go_num, R13.out, HIV.out, C13.out⟩
          case measure => simp [intOf]; omega
        · obtain rfl : M = j := by omega
          obtain ⟨T2, hT2⟩ : ∃ T2, s1.tab = T2 := ⟨_, rfl⟩
          have hsp : T2.map spE = T.map spE := by rw [← hT2]; exact I9.out.t
          have hM2 : T2.length = M := by have := congrArg List.length hsp; rw [List.length_map, List.length_map] at this; rw [this]; exact HM.out
          have HM2 := Lib.hid hM2
          have HT2 := Lib.hid hT2
          have HSPP : Hid (∀ (i : Nat) (x y : En), T2[i]? = some x → T[i]? = some y → enAlike x y = true) := fun i x y h1 h2 => by
            have h3 := congrArg (fun q => q[i]?) hsp
            simp only [List.getElem?_map, h1, h2, Option.map_some, Option.some.injEq] at h3
            exact sp_alike h3
          clear hsp hM2 hT2
          have tokE : True := trivial
          go_wp2_with (first
            | (go_at_call 40; refine (HEN.out _ _ _ R9.out).mono ?_; rw [HT2.out]; rintro E w12 ⟨v12, rfl, own12, o12⟩
               obtain ⟨A4, n4, c4, rfl⟩ := own_shape own12
               obtain rfl : M = n4 := by have := own_count own12; have := HM2.out; omega
               have R12 := Lib.hid (R9.out.keep o12)
               have C12 := Lib.hid (C9.out.keep o12)
               have Q12 : Hid (Cel w12 (ownb (.slice A4 M c4)) (.slice A4 M c4) M 9 (T2.flatMap enRow)) := by
                 have h1 := Cel.of_own own12
                 rwa [HM2.out] at h1
               clear own12 o12)
            | (go_at_call 30; refine (g_tos A4 c4 M _ T2 HM2.out (by omega) _ Q12.out).mono ?_; rintro E w13 ⟨v13, rfl, own13, o13⟩
               obtain ⟨A5, n5, c5, rfl⟩ := own_shape own13
               obtain rfl : M = n5 := (own_count own13).symm
               have R13 := Lib.hid (R12.out.keep o13)
               have C13 := Lib.hid (C12.out.keep o13)
               have Q13 := Lib.hid (Cel.of_own own13)
               have rr := R13.out.p.bk.cell_ (i := 5) rfl
               rw [R13.out.hr] at rr
               try dsimp only at rr
               clear own13 o13)
            | (go_at_call 53; refine (HSU.out _ _ _ R13.out I9.out.z).mono ?_; rintro E w14 ⟨rfl, rfl⟩)
            | (go_at_call 58; refine (HNW.out _ _ _ R13.out I9.out.c).mono ?_; rintro E w14 ⟨rfl, rfl⟩)
            | (go_at_call 59; refine (HOS.out _ _ _ R13.out I9.out.w).mono ?_; rintro E w15 ⟨v15, rfl, own15, o15⟩
               obtain ⟨A6, n6, c6, rfl⟩ := own_shape own15
               obtain rfl : N = n6 := by have := own_count own15; have := HN.out; omega
               have Q15 := Lib.hid (Q13.out.only o15 (fun _ _ h => h))
               have C15 := Lib.hid (C13.out.keep o15)
               have R15 := Lib.hid (R13.out.keep o15)
               have K15 : Hid (Cel w15 (ownb (.slice A6 N c6)) (.slice A6 N c6) N 1 (K.map .string)) := by
                 have h1 := Cel.of_own own15
                 rw [HN.out, flat_str] at h1
                 exact h1
               clear own15 o15)
            | (go_at_call 60; refine (rg_texts _ _ K _ _ N c6 c2 _ K15.out C15.out.c2 HN.out (by omega)).mono ?_; rintro E w16 ⟨rfl, o16⟩
               have Q16 := Lib.hid (Q15.out.only o16 (fun _ _ h => h))
               have C16 := Lib.hid (C15.out.c1.only o16 (fun _ _ h => h))
               have R16 := Lib.hid (R15.out.keep o16)
               clear o16))
          go_loopw [115] (fun i X => ∃ k : Nat, k ≤ M ∧ i = .int .i64 (k : Int) ∧ Only none_ w16 X) (fun i _ => M - (intOf i).toNat)
          case atStart => exact ⟨0, Nat.zero_le _, rfl, Only.refl _ _⟩
          case round =>
            obtain ⟨k, hk, rfl, ho⟩ := hrel
            have OK := Lib.hid ho
            clear ho
            by_cases hkl : k < M
            · skip
              obtain ⟨x, hx⟩ : ∃ x, T2[k]? = some x := ⟨_, List.getElem?_eq_getElem (by have := HM2.out; omega)⟩
              obtain ⟨y, hy⟩ : ∃ y, T[k]? = some y := ⟨_, List.getElem?_eq_getElem (by have := HM.out; omega)⟩
              obtain ⟨b5, off5, hA5, _, hb5, hc5⟩ := in_elem enRow_length (by decide) Q16.out HM2.out hx
              obtain ⟨b6, off6, hA6, _, hb6, hc6⟩ := in_elem enRow_length (by decide) C16.out HM.out hy
              subst hA5 hA6
              have HC5 : Hid (∀ X, Only none_ w16 X → ∀ i u, (#[.string x.k, .string x.v, .bool x.d, .int .i64 x.s.c, .int .i64 x.s.s, .int .i64 x.a.c, .int .i64 x.a.s, .int .i64 x.p, .int .i64 x.g] : Array Value).toList[i]? = some u → X.cell? ⟨b5, off5 + k * 9 + i, none⟩ = some u) := fun X oX i u hu => hc5 X oX i u hu
              have HC6 : Hid (∀ X, Only none_ w16 X → ∀ i u, (#[.string y.k, .string y.v, .bool y.d, .int .i64 y.s.c, .int .i64 y.s.s, .int .i64 y.a.c, .int .i64 y.a.s, .int .i64 y.p, .int .i64 y.g] : Array Value).toList[i]? = some u → X.cell? ⟨b6, off6 + k * 9 + i, none⟩ = some u) := fun X oX i u hu => hc6 X oX i u hu
              have hki : (k : Int) < (M : Int) := by omega
              have HAL : Hid (∀ X, Calls Tryz.prog 39 #[.agg #[.string x.k, .string x.v, .bool x.d, .int .i64 x.s.c, .int .i64 x.s.s, .int .i64 x.a.c, .int .i64 x.a.s, .int .i64 x.p, .int .i64 x.g], .agg #[.string y.k, .string y.v, .bool y.d, .int .i64 y.s.c, .int .i64 y.s.s, .int .i64 y.a.c, .int .i64 y.a.s, .int .i64 y.p, .int .i64 y.g]] X fun E w' => E = .returned (.bool true) ∧ Only none_ X w') := fun X => by
                have := rf_alike x y X
                rwa [HSPP.out k x y hx hy] at this
              clear hx hy hc5 hc6 hb5 hb6
              go_upto_region 20 with fail
              (refine wp_region_steady (fun X => Only none_ wr X) 10 (by kernel_rfl) (by kernel_rfl) ((Only.refl none_ wr).drew) ?_; simp only [List.take_succ_cons, List.take_zero, List.drop_succ_cons, List.drop_zero])
              repeat (first
                | (refine sd_value (v := ?_) (by rfl) (fun w0 hS => ?_) ?_; rotate_left; (· (skip; go_simp; try (with_reducible rfl))); try simp only [Act.put, List.setIfInBounds_toArray, List.set_cons_zero, List.set_cons_succ])
                | (refine sd_value (v := ?_) (by rfl) (fun w0 hS => ?_) ?_; rotate_left; (· (have n5 := nine_at (HC5.out _ (OK.out.trans hS)); have n6 := nine_at (HC6.out _ (OK.out.trans hS)); go_simp; try (with_reducible rfl))); try simp only [Act.put, List.setIfInBounds_toArray, List.set_cons_zero, List.set_cons_succ])
                | (refine sd_call (v := ?_) (f := 39) (args := ?_) (by rfl) (fun w0 hS => ?_) (fun w0 hS => ?_) ?_; rotate_left 2; (· (skip; go_simp; try (with_reducible rfl))); (· (refine (HAL.out _).mono ?_; rintro E w8 ⟨rfl, o8⟩; refine ⟨?_, hS.trans o8⟩; rfl)); try simp only [Act.put, List.setIfInBounds_toArray, List.set_cons_zero, List.set_cons_succ]))
              refine sd_nil ?_
              intro w20 t20
              have O20 := Lib.hid (OK.out.trans t20)
              clear t20
              go_wp2_with fail
              go_roundw
              case rel => exact ⟨k + 1, by omega, by go_num, O20.out⟩
              case measure => simp [intOf]; omega
            · obtain rfl : M = k := by omega
              have P9 := Lib.hid ((P6.out.trans R16.out.p.ho).trans OK.out)
              go_wp2_with fail
              go_ret
              exact ⟨rfl, P9.out⟩
    · have hcb : (ck != 0) = true := by simpa using hc0
      as_aux_lemma =>
        clear hck hc0 HX HL
        go_enter Tryz.func10, Tryz.ntmps10
        have tok1 : True := trivial
        go_wp2_with (first
          | (go_at_call 12; have _t := tok1; clear tok1; refine (HSP.out _).mono ?_; rintro E w1 ⟨rfl, o1⟩; have P1 := Lib.hid o1; have O1 := Lib.hid (O0.out.trans o1); clear o1; have tok2 : True := trivial)
          | (go_at_call 13; refine (HFW.out _ O1.out).mono ?_; rintro E w2 ⟨rfl, o2⟩; have P2 := Lib.hid o2; have O2 := Lib.hid (O1.out.trans o2); clear o2)
          | (refine wpl_load_if (by rfl) 23 _ rfl w.heap.size rfl 23 #[.int .i64 o.n, .int .i64 o.q, .int .i64 o.r, .int .i64 o.t1, .int .i64 o.t2] _ (by first | exact BX.out.only (Only.trans P1.out P2.out) (fun h => h)) Tryz.underlying23 rfl (by kernel_rfl) ?_)
          | (go_at_call 19; refine (HCK.out _).mono ?_; rintro E w3 ⟨rfl, o3⟩; have O3 := Lib.hid (O2.out.trans o3); clear o3)
          | (go_at_call 12; have _t := tok2; clear tok2; refine (HSP.out _).mono ?_; rintro E w9 ⟨rfl, o9⟩; have O9 := Lib.hid (O3.out.trans o9); clear o9))
        go_ret
        exact ⟨rfl, O9.out⟩
end Go.Proofs.YtoohpcomnhfgpaaGreat
end
