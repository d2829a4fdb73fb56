/- What ReplicaQuota comes to. No statement of the seat is proved here. -/
import Derived.Test.YtoohpcomnhfgpaaGreatGk1
import Derived.ChangeKeysEq
import Derived.Laws.StructEq
import Derived.Test.YtoohpcomnhfgpaaGreatChecked
import Derived.Test.YtoohpcomnhfgpaaGreatGk2
import Derived.Test.YtoohpcomnhfgpaaGreatGk12
import Derived.Test.YtoohpcomnhfgpaaGreatGk19
import Derived.Shelf.SlGeneric
import Derived.Shelf.SlIter.Nil
import Derived.Shelf.SortM.Plain
import Derived.Shelf.SortM.SortNone
import Derived.Ground.GgzProg
import Derived.Ground.SlgmProg
import Derived.Test.YtoohpcomnhfgpaaGreatProg
import Derived.Test.YtoohpcomnhfgpaaGreatGk11
import Derived.Sort.KeysCollected
import Derived.Test.YtoohpcomnhfgpaaGreatGk20
import Derived.Test.YtoohpcomnhfgpaaGreatGk18
import Derived.Test.YtoohpcomnhfgpaaGreatGk8
import Derived.Test.YtoohpcomnhfgpaaGreatGk5
import Derived.LoopTactic
import Derived.Deep.DeepCutAuto
import Derived.Deep.CutBlock
section
namespace Go.Proofs.YtoohpcomnhfgpaaGreat
open Go.RowKit
set_option linter.all false
set_option maxRecDepth 100000
theorem neq_of {P : Program} {w : World} {t : TypeId} {xs ys : Array Value} {b : Bool} (h : (Op.equalIn 10000 t (.agg xs) (.agg ys)).run P w = .ok b w) : (binOp .neq t (.agg xs) (.agg ys)).run P w = .ok (.bool (!b)) w := by
  rw [run_neq_struct, h]; rfl
end Go.Proofs.YtoohpcomnhfgpaaGreat
end
section
namespace Go.Proofs.YtoohpcomnhfgpaaGreat
open Go.RowKit
set_option linter.all false
set_option maxRecDepth 100000
theorem eq_ref_stamp (w : World) (x y : St) (d : Nat) : (Op.equalIn (d + 2) 48 (.agg #[.int .i64 x.c, .int .i64 x.s]) (.agg #[.int .i64 y.c, .int .i64 y.s])).run Tryz.prog w = .ok (stEq x y) w := by
  rw [eq_struct Tryz.underlying48 (by kernel_rfl)]
  have e : ∀ (a b : Int), (Op.equalIn (d + 1) 3 (.int .i64 a) (.int .i64 b)).run Tryz.prog w = .ok (a == b) w := fun a b => run_equalIn_int w d 3 .i64 .i64 a b Tryz.underlying3
  simp only [stEq]
  cases h1 : x.c == y.c <;> cases h2 : x.s == y.s <;> simp [Op.eqFields, part, isAgg, run_underlying Tryz.underlying3, e, h1, h2]
end Go.Proofs.YtoohpcomnhfgpaaGreat
end
section
namespace Go.Proofs.YtoohpcomnhfgpaaGreat
open Go.RowKit
set_option maxRecDepth 100000
theorem rf_site (n : Int) (w : World) :
    Calls Tryz.prog 101 #[.int .i64 n] w fun e w' => e = .returned (.bool (stSite n)) ∧ w = w' := by
  by_cases h1 : 0 ≤ n
  · by_cases h2 : n < 12
    · have H : Hid (stSite n = true) := by simp [Hid, stSite, h1]; omega
      go_enter Tryz.func101, Tryz.ntmps101
      go_wp2
      go_ret
      rw [H.out]
      exact ⟨rfl, rfl⟩
    · have H : Hid (stSite n = false) := by simp [Hid, stSite]; omega
      go_enter Tryz.func101, Tryz.ntmps101
      go_wp2
      go_ret
      rw [H.out]
      exact ⟨rfl, rfl⟩
  · have H : Hid (stSite n = false) := by simp [Hid, stSite]; omega
    go_enter Tryz.func101, Tryz.ntmps101
    go_wp2
    go_ret
    rw [H.out]
    exact ⟨rfl, rfl⟩
theorem rf_good (c s : Int) (w : World) :
    Calls Tryz.prog 49 #[.agg #[.int .i64 c, .int .i64 s]] w fun e w' => e = .returned (.bool (stGood ⟨c, s⟩)) ∧ Only none_ w w' := by
  have O := Lib.hid ((Only.refl none_ w).alloc (.cells #[.int .i64 c, .int .i64 s] 48))
  obtain ⟨b, hb⟩ : ∃ b, stSite s = b := ⟨_, rfl⟩
  have HB := Lib.hid hb
  have HG : Hid (stGood ⟨c, s⟩ = (decide (1 ≤ c ∧ c ≤ 4294967295) && b)) := by rw [Hid, stGood, hb]
  clear hb
  by_cases h1 : 1 ≤ c
  · by_cases h2 : c ≤ 4294967295
    · have H : Hid (stGood ⟨c, s⟩ = b) := by rw [Hid, HG.out]; simp [h1, h2]
      go_enter Tryz.func49, Tryz.ntmps49
      go_wp2_with (first
        | (go_at_call 101; refine (rf_site _ _).mono ?_; rintro e w' ⟨rfl, rfl⟩; rw [HB.out]))
      go_ret
      rw [H.out]
      exact ⟨rfl, O.out⟩
    · have H : Hid (stGood ⟨c, s⟩ = false) := by rw [Hid, HG.out]; simp [h1, h2]
      go_enter Tryz.func49, Tryz.ntmps49
      go_wp2_with fail
      go_ret
      rw [H.out]
      exact ⟨rfl, O.out⟩
  · have H : Hid (stGood ⟨c, s⟩ = false) := by rw [Hid, HG.out]; simp [h1]
    go_enter Tryz.func49, Tryz.ntmps49
    go_wp2_with fail
    go_ret
    rw [H.out]
    exact ⟨rfl, O.out⟩
end Go.Proofs.YtoohpcomnhfgpaaGreat
end
section
namespace Go.Proofs.YtoohpcomnhfgpaaGreat
open Go.RowKit
set_option linter.all false
set_option maxRecDepth 100000
set_option linter.unusedSimpArgs false
set_option maxHeartbeats 6400000 in
theorem rf_check (e : En) (w : World) :
    Calls Tryz.prog 37 #[.agg #[.string e.k, .string e.v, .bool e.d, .int .i64 e.s.c, .int .i64 e.s.s, .int .i64 e.a.c, .int .i64 e.a.s, .int .i64 e.p, .int .i64 e.g]] w fun E w' => E = .returned (.int .i64 (enCheck e)) ∧ Only none_ w w' := by
  have O := Lib.hid ((Only.refl none_ w).alloc (.cells #[.string e.k, .string e.v, .bool e.d, .int .i64 e.s.c, .int .i64 e.s.s, .int .i64 e.a.c, .int .i64 e.a.s, .int .i64 e.p, .int .i64 e.g] 50))
  have B := Lib.hid (Blk.new w 50 #[.string e.k, .string e.v, .bool e.d, .int .i64 e.s.c, .int .i64 e.s.s, .int .i64 e.a.c, .int .i64 e.a.s, .int .i64 e.p, .int .i64 e.g])
  have heq := fun w => neq_of (eq_ref_stamp w e.a e.s 9998)
  obtain ⟨g1, hg1⟩ : ∃ b, stGood ⟨e.s.c, e.s.s⟩ = b := ⟨_, rfl⟩
  obtain ⟨g2, hg2⟩ : ∃ b, stGood ⟨e.a.c, e.a.s⟩ = b := ⟨_, rfl⟩
  obtain ⟨lt, hlt⟩ : ∃ b, stLater ⟨e.s.c, e.s.s⟩ ⟨e.a.c, e.a.s⟩ = b := ⟨_, rfl⟩
  obtain ⟨q, hq⟩ : ∃ b, stEq e.a e.s = b := ⟨_, rfl⟩
  rw [hq] at heq
  have HC : Hid (enCheck e = if (decide (e.k.size < 1) || decide (16 < e.k.size)) = true then 9 else if (decide (32 < e.v.size) || (e.d && decide (0 < e.v.size))) = true then 10 else if (!(g1 && g2) || lt) = true then 1 else
      if (!(if e.d = true then decide (1 ≤ e.p) && decide (e.p ≤ 4095) && decide (0 ≤ e.g) && decide (e.g ≤ 2147483647) else q && e.p == 0 && e.g == 0)) = true then 1 else 0) := by
    rw [Hid, ← hg1, ← hg2, ← hlt, ← hq]; rfl
  have G1 := Lib.hid hg1
  have G2 := Lib.hid hg2
  have L := Lib.hid hlt
  clear hg1 hg2 hlt hq
  have tok : True := trivial
  obtain ⟨k, v, d, s, a, p, g⟩ := e
  simp only at *
  cases d
  all_goals
   go_enter Tryz.func37, Tryz.ntmps37
   go_wp2_with (first
     | (go_at_call 49; have _t := tok; refine (rf_good _ _ _).mono ?_; rintro E w1 ⟨rfl, o1⟩; rw [G1.out]
        have O1 := Lib.hid (O.out.trans o1)
        have B1 := Lib.hid (B.out.only o1 (fun h => h))
        have c2 := B1.out.cell_ (i := 2) rfl
        have c3 := B1.out.cell_ (i := 3) rfl
        have c4 := B1.out.cell_ (i := 4) rfl
        have c5 := B1.out.cell_ (i := 5) rfl
        have c6 := B1.out.cell_ (i := 6) rfl
        have c7 := B1.out.cell_ (i := 7) rfl
        have c8 := B1.out.cell_ (i := 8) rfl
        clear o1 tok)
     | (go_at_call 49; refine (rf_good _ _ _).mono ?_; rintro E w2 ⟨rfl, o2⟩; rw [G2.out]
        have O2 := Lib.hid (O1.out.trans o2)
        have B2 := Lib.hid (B1.out.only o2 (fun h => h))
        have d2 := B2.out.cell_ (i := 2) rfl
        have d3 := B2.out.cell_ (i := 3) rfl
        have d4 := B2.out.cell_ (i := 4) rfl
        have d5 := B2.out.cell_ (i := 5) rfl
        have d6 := B2.out.cell_ (i := 6) rfl
        have d7 := B2.out.cell_ (i := 7) rfl
        have d8 := B2.out.cell_ (i := 8) rfl
        clear o2)
     | (go_at_call 51; refine (rf_later _ _ _ _ _).mono ?_; rintro E w3 ⟨rfl, o3⟩; rw [L.out]
        have O3 := Lib.hid (O2.out.trans o3)
        have B3 := Lib.hid (B2.out.only o3 (fun h => h))
        have e2 := B3.out.cell_ (i := 2) rfl
        have e3 := B3.out.cell_ (i := 3) rfl
        have e4 := B3.out.cell_ (i := 4) rfl
        have e5 := B3.out.cell_ (i := 5) rfl
        have e6 := B3.out.cell_ (i := 6) rfl
        have e7 := B3.out.cell_ (i := 7) rfl
        have e8 := B3.out.cell_ (i := 8) rfl
        clear o3))
   all_goals
     go_ret
     refine ⟨congrArg (fun z => Ending.returned (.int .i64 z)) (Eq.symm ?_), ?_⟩
     · rw [HC.out]
       clear HC heq O B G1 G2 L
       try clear c2 c3 c4 c5 c6 c7 c8 O1 B1
       try clear d2 d3 d4 d5 d6 d7 d8 O2 B2
       try clear e2 e3 e4 e5 e6 e7 e8 O3 B3
       simp only [Bool.or_eq_true, Bool.and_eq_true, Bool.not_eq_true', Bool.or_eq_false_iff, Bool.and_eq_false_iff, decide_eq_true_eq, decide_eq_false_iff_not, Bool.false_eq_true, if_true, if_false, beq_iff_eq, beq_eq_false_iff_ne, bne_iff_ne, ne_eq, Bool.not_eq_true, bne_eq_false_iff_eq, false_and, true_and, and_true, and_false, or_false, false_or, or_true, true_or, not_true_eq_false, not_false_eq_true] at *
       (repeat' split) <;> first | rfl | omega | (exfalso; simp_all; done) | (exfalso; simp_all; omega)
     · first
         | exact O3.out
         | exact O2.out
         | exact O1.out
         | exact O.out
end Go.Proofs.YtoohpcomnhfgpaaGreat
end
section
namespace Go.Proofs.YtoohpcomnhfgpaaGreat
open Go.RowKit
set_option maxRecDepth 100000
set_option linter.all false
section
variable {log : List En} {s s1 s' : Rs} {x : En}
theorem own_put {s0 : Rs} {k : ByteArray} {q : Int} (hr : RisK s0.own) (h : hasK s0.own k = true ∨ (s0.own.length : Int) < q) : ((withK k s0.own).length : Int) ≤ s0.own.length ∨ (s0.own.length : Int) < q := by
  rcases h with h | h
  · left
    rw [withK_in hr ((hasK_iff _ _).1 h)]
    exact Int.le_refl _
  · exact .inr h
end
end Go.Proofs.YtoohpcomnhfgpaaGreat
end
section
namespace Go.Proofs.YtoohpcomnhfgpaaGreat
open Go.Shelf
def keysA_ren : Go.Shelf.Ren := ⟨fun | 7 => 107 | 10 => 167 | n => n, fun | 23 => 75 | 26 => 9 | 3 => 63 | 28 => 191 | 0 => 0 | 27 => 190 | 33 => 173 | 4 => 4 | n => n, fun | n => n⟩
theorem keysA : Go.Proofs.SlLaysZ.n7 Tryz.prog keysA_ren := {
  mixed := by kernel_rfl
  f7 := ⟨Tryz.f107.name, by decide, Tryz.func107.trans (congrArg some (by kernel_rfl))⟩
  f10 := ⟨Tryz.f167.name, by decide, Tryz.func167.trans (congrArg some (by kernel_rfl))⟩
  t0 := Tryz.underlying0
  a0 := Tryz.isAgg0
  z0 := Tryz.sizeOf0
  v0 := Tryz.zeroValue0
  t4 := Tryz.underlying4
  a4 := Tryz.isAgg4
  z4 := Tryz.sizeOf4
  v4 := Tryz.zeroValue4
  t23 := Tryz.underlying75
  a23 := Tryz.isAgg75
  z23 := Tryz.sizeOf75
  v23 := Tryz.zeroValue75
  t26 := Tryz.underlying9
  a26 := Tryz.isAgg9
  z26 := Tryz.sizeOf9
  v26 := Tryz.zeroValue9
  t27 := Tryz.underlying190
  a27 := Tryz.isAgg190
  z27 := Tryz.sizeOf190
  v27 := Tryz.zeroValue190
  t28 := Tryz.underlying191
  a28 := Tryz.isAgg191
  z28 := Tryz.sizeOf191
  v28 := Tryz.zeroValue191
  t33 := Tryz.underlying173
  a33 := Tryz.isAgg173
  z33 := Tryz.sizeOf173
  v33 := Tryz.zeroValue173 }
def sortedA_ren : Go.Shelf.Ren := ⟨fun | 6 => 106 | 8 => 165 | 9 => 166 | 11 => 212 | 13 => 214 | 12 => 213 | 23 => 249 | 24 => 250 | 14 => 240 | 15 => 241 | 16 => 242 | 17 => 243 | 18 => 244 | 19 => 245 | 20 => 246 | 21 => 247 | 22 => 248 | 25 => 271 | 26 => 272 | 27 => 273 | 28 => 274 | 29 => 275 | 30 => 276 | 31 => 287 | n => n, fun | 26 => 9 | 28 => 191 | 24 => 38 | 0 => 0 | 3 => 3 | 37 => 325 | 48 => 199 | 50 => 66 | 4 => 4 | 40 => 349 | 39 => 348 | 45 => 237 | 5 => 5 | 9 => 9 | 51 => 376 | 55 => 379 | 57 => 391 | 58 => 392 | 33 => 173 | n => n, fun | n => n⟩
theorem sortedA : Go.Proofs.SlLaysZ.n6 Tryz.prog sortedA_ren := {
  mixed := by kernel_rfl
  f6 := ⟨Tryz.f106.name, by decide, Tryz.func106.trans (congrArg some (by kernel_rfl))⟩
  f8 := ⟨Tryz.f165.name, by decide, Tryz.func165.trans (congrArg some (by kernel_rfl))⟩
  f11 := ⟨Tryz.f212.name, by decide, Tryz.func212.trans (congrArg some (by kernel_rfl))⟩
  t0 := Tryz.underlying0
  a0 := Tryz.isAgg0
  z0 := Tryz.sizeOf0
  v0 := Tryz.zeroValue0
  t24 := Tryz.underlying38
  a24 := Tryz.isAgg38
  z24 := Tryz.sizeOf38
  v24 := Tryz.zeroValue38
  t26 := Tryz.underlying9
  a26 := Tryz.isAgg9
  z26 := Tryz.sizeOf9
  v26 := Tryz.zeroValue9
  t28 := Tryz.underlying191
  a28 := Tryz.isAgg191
  z28 := Tryz.sizeOf191
  v28 := Tryz.zeroValue191
  i26 := by kernel_rfl }
def sortA_ren : Go.Shelf.Ren := ⟨fun | 6 => 166 | 8 => 214 | 9 => 213 | 19 => 249 | 20 => 250 | 21 => 240 | 22 => 241 | 23 => 242 | 24 => 243 | 25 => 244 | 26 => 245 | 27 => 246 | 28 => 247 | 29 => 248 | 36 => 271 | 31 => 272 | 32 => 273 | 37 => 274 | 38 => 275 | 39 => 276 | 41 => 287 | n => n, fun | 27 => 38 | 29 => 9 | 3 => 3 | 32 => 325 | 26 => 38 | 0 => 0 | 44 => 199 | 46 => 66 | 4 => 4 | 36 => 349 | 35 => 348 | 41 => 237 | 5 => 5 | 9 => 9 | 53 => 376 | 57 => 379 | 63 => 391 | 64 => 392 | n => n, fun | n => n⟩
theorem sortA : Go.Proofs.SlLaysM.n6 Tryz.prog sortA_ren := {
  mixed := by kernel_rfl
  f6 := ⟨Tryz.f166.name, by decide, Tryz.func166.trans (congrArg some (by kernel_rfl))⟩
  f8 := Tryz.func214.trans (congrArg some (by kernel_rfl))
  f9 := ⟨Tryz.f213.name, by decide, Tryz.func213.trans (congrArg some (by kernel_rfl))⟩
  f19 := Tryz.func249.trans (congrArg some (by kernel_rfl))
  f20 := Tryz.func250.trans (congrArg some (by kernel_rfl))
  f21 := ⟨Tryz.f240.name, by decide, Tryz.func240.trans (congrArg some (by kernel_rfl))⟩
  f22 := ⟨Tryz.f241.name, by decide, Tryz.func241.trans (congrArg some (by kernel_rfl))⟩
  f23 := ⟨Tryz.f242.name, by decide, Tryz.func242.trans (congrArg some (by kernel_rfl))⟩
  f24 := ⟨Tryz.f243.name, by decide, Tryz.func243.trans (congrArg some (by kernel_rfl))⟩
  f25 := ⟨Tryz.f244.name, by decide, Tryz.func244.trans (congrArg some (by kernel_rfl))⟩
  f26 := ⟨Tryz.f245.name, by decide, Tryz.func245.trans (congrArg some (by kernel_rfl))⟩
  f27 := ⟨Tryz.f246.name, by decide, Tryz.func246.trans (congrArg some (by kernel_rfl))⟩
  f28 := ⟨Tryz.f247.name, by decide, Tryz.func247.trans (congrArg some (by kernel_rfl))⟩
  f29 := ⟨Tryz.f248.name, by decide, Tryz.func248.trans (congrArg some (by kernel_rfl))⟩
  f31 := Tryz.func272.trans (congrArg some (by kernel_rfl))
  f32 := Tryz.func273.trans (congrArg some (by kernel_rfl))
  f36 := ⟨Tryz.f271.name, by decide, Tryz.func271.trans (congrArg some (by kernel_rfl))⟩
  f37 := ⟨Tryz.f274.name, by decide, Tryz.func274.trans (congrArg some (by kernel_rfl))⟩
  f38 := ⟨Tryz.f275.name, by decide, Tryz.func275.trans (congrArg some (by kernel_rfl))⟩
  f39 := ⟨Tryz.f276.name, by decide, Tryz.func276.trans (congrArg some (by kernel_rfl))⟩
  f41 := ⟨Tryz.f287.name, by decide, Tryz.func287.trans (congrArg some (by kernel_rfl))⟩
  t0 := Tryz.underlying0
  a0 := Tryz.isAgg0
  z0 := Tryz.sizeOf0
  v0 := Tryz.zeroValue0
  t3 := Tryz.underlying3
  a3 := Tryz.isAgg3
  z3 := Tryz.sizeOf3
  v3 := Tryz.zeroValue3
  t4 := Tryz.underlying4
  a4 := Tryz.isAgg4
  z4 := Tryz.sizeOf4
  v4 := Tryz.zeroValue4
  t5 := Tryz.underlying5
  a5 := Tryz.isAgg5
  z5 := Tryz.sizeOf5
  v5 := Tryz.zeroValue5
  t9 := Tryz.underlying9
  a9 := Tryz.isAgg9
  z9 := Tryz.sizeOf9
  v9 := Tryz.zeroValue9
  t26 := Tryz.underlying38
  a26 := Tryz.isAgg38
  z26 := Tryz.sizeOf38
  v26 := Tryz.zeroValue38
  t27 := Tryz.underlying38
  a27 := Tryz.isAgg38
  z27 := Tryz.sizeOf38
  v27 := Tryz.zeroValue38
  t29 := Tryz.underlying9
  a29 := Tryz.isAgg9
  z29 := Tryz.sizeOf9
  v29 := Tryz.zeroValue9
  t32 := Tryz.underlying325
  a32 := Tryz.isAgg325
  z32 := Tryz.sizeOf325
  v32 := Tryz.zeroValue325
  t35 := Tryz.underlying348
  a35 := Tryz.isAgg348
  z35 := Tryz.sizeOf348
  v35 := Tryz.zeroValue348
  t36 := Tryz.underlying349
  a36 := Tryz.isAgg349
  z36 := Tryz.sizeOf349
  v36 := Tryz.zeroValue349
  t41 := Tryz.underlying237
  a41 := Tryz.isAgg237
  z41 := Tryz.sizeOf237
  v41 := Tryz.zeroValue237
  t44 := Tryz.underlying199
  a44 := Tryz.isAgg199
  z44 := Tryz.sizeOf199
  v44 := Tryz.zeroValue199
  t46 := Tryz.underlying66
  a46 := Tryz.isAgg66
  z46 := Tryz.sizeOf66
  v46 := Tryz.zeroValue66
  t53 := Tryz.underlying376
  a53 := Tryz.isAgg376
  z53 := Tryz.sizeOf376
  v53 := Tryz.zeroValue376
  t57 := Tryz.underlying379
  a57 := Tryz.isAgg379
  z57 := Tryz.sizeOf379
  v57 := Tryz.zeroValue379
  t63 := Tryz.underlying391
  a63 := Tryz.isAgg391
  z63 := Tryz.sizeOf391
  v63 := Tryz.zeroValue391
  t64 := Tryz.underlying392
  a64 := Tryz.isAgg392
  z64 := Tryz.sizeOf392
  v64 := Tryz.zeroValue392 }
end Go.Proofs.YtoohpcomnhfgpaaGreat
end
section
namespace Go.Proofs.YtoohpcomnhfgpaaGreat
open Go.RowKit Go.Maps Go.Sort Go.Shelf Go.ChangeMaps Go.MapKept
open Go.WideElems (Fit rd rg rd_mk rg_of)
set_option maxRecDepth 100000
set_option linter.all false
def kb : Value → List UInt8
  | .string s => s.data.toList
  | _ => []
theorem mq_owns {P : Program} {k : TypeId} {w : World} {b : Nat} {l : List ByteArray} (hk : P.underlying k = some .string) (h : Mq w b l) (hl : l.length ≤ maxLen) :
    ∃ D : DataW Unit, w.ownsMap P k (fun _ => some (DataW.nil, [])) b l.length D ∧ Maps.size D = l.length ∧ (strKeys D).Perm (l.map fun x => x.data.toList) := by
  obtain ⟨es, clock, hb, h1, h2, h4⟩ := h
  have hes : es.size = l.length := by have := h1.length_eq; simpa using this
  have hrd : ∀ x ∈ es.toList, rd P k (fun _ => some ((DataW.nil : DataW Unit), [])) x = some (.string (kb x.key), DataW.nil) := by
    intro x hx
    have hm : (x.key, x.val) ∈ l.map kEnt := h1.mem_iff.1 (List.mem_map.2 ⟨x, hx, rfl⟩)
    obtain ⟨m, hml, e⟩ := List.mem_map.1 hm
    have e1 : x.key = .string m := by injection e with e _; exact e.symm
    have h5 := rd_mk (P := P) (k := k) (R := fun _ => some ((DataW.nil : DataW Unit), [])) (key := x.key) (val := x.val) (born := x.born) (kl := .string (kb x.key)) (yv := (DataW.nil, [])) (by rw [e1]; exact Go.WideMaps.keyOf_string_mk hk (h2 m hml)) rfl
    exact h5
  have hmap : es.toList.map (rg P k (fun _ => some ((DataW.nil : DataW Unit), []))) = es.toList.map fun x => (.string (kb x.key), DataW.nil) := List.map_congr_left fun x hx => rg_of (hrd x hx)
  refine ⟨.map ((es.toList.map (rg P k (fun _ => some (DataW.nil, [])))).foldr DataW.insert []), ⟨es, clock, hb, ⟨by omega, h4, fun x hx => ⟨_, hrd x hx⟩⟩, by omega, rfl⟩, ?_, ?_⟩
  · have := (Go.WideShapes.sorted_perm (es.toList.map (rg P k (fun _ => some ((DataW.nil : DataW Unit), []))))).length_eq
    show (List.foldr DataW.insert [] _).length = _
    rw [this, List.length_map]
    simpa using hes
  · show (List.map (fun (p : Lit × DataW Unit) => strOf p.1) _).Perm _
    refine ((Go.WideShapes.sorted_perm _).map _).trans ?_
    rw [hmap, List.map_map]
    have h6 := h1.map (fun p => kb p.1)
    rw [List.map_map, List.map_map] at h6
    exact h6
def ownB (own : List ByteArray) : List (List UInt8) := (own.map fun x => x.data.toList).mergeSort leB
theorem ownB_len (own : List ByteArray) : (ownB own).length = own.length := by simp [ownB]
theorem sortsA (m : Nat) : AnyZ.SortsIn Tryz.prog sortedA_ren Fence.wide m :=
  ⟨fun blk off cap ss W hH hblk hsz => callsIn_wide.2 (AnyM.slices_Sort_string sortA blk off cap ss W hH hblk hsz),
   fun p cap W => callsIn_wide.2 (AnyM.slices_Sort_string_none sortA p cap W)⟩
set_option maxHeartbeats 3200000 in
theorem rp_own (B : World) (a : Ra) (s : Rs) (w : World) (h : Rp B a s w) (hl : s.own.length ≤ 4096) :
    Calls Tryz.prog 59 #[.pointer (some ⟨a.r, 0, none⟩)] w fun E w' => ∃ v', E = .returned v' ∧ w'.ownsRow w.heap.size 9 1 v' (ownB s.own).length ((ownB s.own).map encStr) ∧ Only none_ w w' := by
  have q10 : w.cell? ⟨a.r, 10, none⟩ = some (.map (some a.ob)) := h.bk.cell_ (i := 10) rfl
  obtain ⟨D0, hown, hsz, hpm⟩ := mq_owns (P := Tryz.prog) Tryz.underlying9 h.ob (by simp only [maxLen]; omega)
  have hmax : Maps.size D0 ≤ maxLen := by rw [hsz]; simp only [maxLen]; omega
  have hbytes : Maps.size D0 * 16 ≤ 140737488355328 := by rw [hsz]; omega
  have hfin : ∀ ss : List (List UInt8), ss.Perm (strKeys D0) → ss.mergeSort leB = ownB s.own := fun ss hs => mergeSort_of_perm (hs.trans hpm)
  have hlen : ∀ ss : List (List UInt8), ss.Perm (strKeys D0) → ss.length = (ownB s.own).length := fun ss hs => by rw [← hfin ss hs]; simp
  generalize ownB s.own = K at hfin hlen ⊢
  generalize a.ob = b at q10 hown
  generalize a.r = r at q10 ⊢
  generalize s.own.length = nn at hown
  clear h hl hpm hsz
  refine (callsIn_wide (n := 6)).1 ?_
  have hbl := hown.lt
  have hseq : SeqGives Fence.wide 2 Tryz.prog 167 #[.pointer (some ⟨w.heap.size, 0, none⟩)] encStr (fun ss => ss.Perm (strKeys D0)) (Maps.size D0) (w.alloc (.cells #[.map (some b)] 75)) :=
    AnyZ.keys_gives (ρ := keysA_ren) { keysA with } Fence.wide _ trivial rfl (by omega) w.heap.size b nn D0 _ (by simp) (by simp) (by
      obtain ⟨es, clock, hb, Ft, hs, hD⟩ := hown
      exact ⟨es, clock, (Below.heap_alloc _ _ b hbl).trans hb, Ft, hs, hD⟩)
  have cK : ∀ mb W, CallsIn Fence.wide 5 Tryz.prog 107 #[.map mb] W fun e w' => e = .returned (.func (.func 167) #[] #[.pointer (some ⟨W.heap.size, 0, none⟩)]) ∧ w' = W.alloc (.cells #[.map mb] 75) := fun mb W => AnyZ.keys_in keysA Fence.wide 5 trivial rfl mb W
  have cS := AnyZ.sorted_in sortedA Fence.wide 5 trivial trivial trivial trivial rfl (by omega) (sortsA _) (enters_of Tryz.func166 (by kernel_rfl) rfl) 167 #[.pointer (some ⟨w.heap.size, 0, none⟩)] trivial (enters_of Tryz.func167 (by kernel_rfl) rfl) _ _ hmax hbytes _ hseq
  change CallsIn _ _ Tryz.prog 106 _ _ _ at cS
  have hfK : Fence.wide.fn 107 := trivial
  have hfS : Fence.wide.fn 106 := trivial
  refine callsIn_of_wp Tryz.func59 rfl trivial ?_ rfl
  simp only [Tryz.ntmps59, List.size_toArray, List.length_cons, List.length_nil, Nat.reduceAdd, Nat.reduceSub, Array.replicate_succ, Array.replicate_zero, List.push_toArray, List.append_toArray, List.nil_append, List.cons_append]
  gi_wp2_with (first
    | (gi_at_call 107; refine (cK _ _).mono ?_; rintro e w' ⟨rfl, rfl⟩)
    | (gi_at_call 106; refine cS.mono ?_; rintro e w' ⟨v, ss, rfl, hS, hrow, hnil, hb⟩))
  go_ret
  refine ⟨v, rfl, ?_, ?_⟩
  · have h1 := ownsRow_base_a hrow (by simp : w.heap.size ≤ _)
    rw [hlen ss hS, show (ss.mergeSort fun x y => decide (x ≤ y)) = K from hfin ss hS] at h1
    exact h1
  · exact Only.of_below (((Below.refl _ w).alloc (Nat.le_refl _) _).trans (hb.mono (by simp)))
end Go.Proofs.YtoohpcomnhfgpaaGreat
end
section
namespace Go.Proofs.YtoohpcomnhfgpaaGreat
open Go.RowKit
set_option maxRecDepth 100000
set_option linter.all false
theorem withK_le {k : ByteArray} {l : List ByteArray} (hr : RisK l) : (withK k l).length ≤ l.length + 1 := by
  by_cases h : k ∈ l
  · rw [withK_in hr h]; exact Nat.le_succ _
  · rw [(withK_out h).length_eq]; exact Nat.le_refl _
structure Qx (log : List En) (s : Rs) : Prop where
  q : Qi s
  w : s.own.length ≤ log.length
section
variable {log : List En} {s s1 s' : Rs} {x : En}
theorem Qx.dn (h : Qx log s) (d : Dn log s1 x s') (wf : Wf log s) (ht : s1.tab = s.tab) (ho : s1.o = s.o) (hw : s1.own = s.own) (H : x.d = true → 0 < s.o.t1 → x.g < s.o.t1) : Qx (log ++ [x]) s' := by
  refine ⟨h.q.dn d ht ho H, ?_⟩
  have h1 := h.w
  have h2 : s'.own.length ≤ s.own.length + 1 := by
    rw [d.own, hw]
    split
    · exact withK_le wf.own
    · exact Nat.le_succ _
  rw [List.length_append, List.length_singleton]
  omega
theorem Qx.mg (h : Qx log s) (wf : Wf log s) (hl : log.length ≤ 60) (x : En) : ∃ log', Qx log' (mgR s x).1 ∧ Wf log' (mgR s x).1 ∧ log'.length ≤ log.length + 1 := by
  have hq := h.q.mg wf hl x
  cases wf.mgw hl x with
  | bad z hz e hc => rw [e] at hq ⊢; exact ⟨log, ⟨hq, h.w⟩, wf, Nat.le_succ _⟩
  | old hc hn e w => rw [e] at hq ⊢; exact ⟨log, ⟨hq, h.w⟩, w, Nat.le_succ _⟩
  | not z hc e w => rw [e] at hq ⊢; exact ⟨log, ⟨hq, h.w⟩, w, Nat.le_succ _⟩
  | woken hc hn y q hy hov hcl e hq2 d => rw [e] at hq ⊢; exact ⟨_, ⟨hq, (h.dn d wf rfl rfl rfl (fun _ h0 => by rw [hq2.2.2.2.2]; exact h0)).w⟩, d.wf, by simp⟩
  | taken hc hn hlt hov e d => rw [e] at hq ⊢; exact ⟨_, ⟨hq, (h.dn d wf rfl rfl rfl (fun hd h0 => age_young h.q hlt hd h0)).w⟩, d.wf, by simp⟩
theorem Qx.tick (h : Qx log s) (wf : Wf log s) : Qx log (tickS s) := by
  refine ⟨h.q.tick wf, ?_⟩
  have e1 : (tickS s).own = (tickR s.o (toM s log)).1.own := congrArg Rm.own wf.tick.2.1
  have e2 : (tickR s.o (toM s log)).1.own = s.own := by unfold tickR; split <;> rfl
  rw [e1, e2]; exact h.w
end
def Mu (B : World) (o : Ro) (dg r k : Nat) (v6 : Value) (X : World) : Prop :=
  ∃ (a : Ra) (s : Rs) (log : List En), v6 = .pointer (some ⟨r, 0, none⟩) ∧ Rq B o dg a s log r (k + 1) X ∧ Qx log s
set_option maxHeartbeats 51200000 in
theorem rp_quota (o : Ro) (v : Value) (l : List Pa) (S : Nat → Prop) (w : World) (hx : Cel w S v l.length 12 (l.flatMap paRow)) :
    Calls Tryz.prog 11 #[.agg #[.int .i64 o.n, .int .i64 o.q, .int .i64 o.r, .int .i64 o.t1, .int .i64 o.t2], v] w fun E w' => E = .returned (.bool true) ∧ Only none_ w w' := by
  have HSP := Lib.hid (fun (X : World) => rp_speaks X)
  have HFW : Hid (∀ X, Only none_ w X → Calls Tryz.prog 13 #[v, .int .i64 50] X fun E w' => E = .returned (.bool (l.all paShort && decide (l.length ≤ 50))) ∧ Only none_ X w') :=
    fun X ho => rp_few v l 50 X S (hx.only ho (fun _ _ h => h))
  have HCK := Lib.hid (fun (X : World) => rd_check o X)
  have BX := Lib.hid (Blk.new w 23 #[.int .i64 o.n, .int .i64 o.q, .int .i64 o.r, .int .i64 o.t1, .int .i64 o.t2])
  have O0 := Lib.hid ((Only.refl none_ w).alloc (.cells #[.int .i64 o.n, .int .i64 o.q, .int .i64 o.r, .int .i64 o.t1, .int .i64 o.t2] 23))
  obtain ⟨A, c, rfl, _, h2, h3, _, _⟩ := id hx
  have HX := Lib.hid hx
  obtain ⟨L, hL⟩ : ∃ L, l.length = L := ⟨_, rfl⟩
  have HL := Lib.hid hL
  rw [hL] at HX HFW h2 ⊢
  have hLm : L ≤ 9223372036854775807 := by simp only [maxLen] at h3; omega
  obtain ⟨fw, hfw⟩ : ∃ fw, (l.all paShort && decide (L ≤ 50)) = fw := ⟨_, rfl⟩
  have hL50 : fw = true → L ≤ 50 := by intro e; rw [e] at hfw; simp at hfw; exact hfw.2
  rw [hfw] at HFW
  clear hx hL h2 h3 hfw
  cases fw with
  | false =>
    as_aux_lemma =>
      clear HX HL HCK BX hL50
      go_enter Tryz.func11, Tryz.ntmps11
      have tok1 : True := trivial
      go_wp2_with (first
        | (go_at_call 12; have _t := tok1; clear tok1; refine (HSP.out _).mono ?_; rintro E w1 ⟨rfl, o1⟩; have O1 := Lib.hid (O0.out.trans o1); clear o1; have tok2 : True := trivial)
        | (go_at_call 13; refine (HFW.out _ O1.out).mono ?_; rintro E w2 ⟨rfl, o2⟩; have O2 := Lib.hid (O1.out.trans o2); clear o2)
        | (go_at_call 12; have _t := tok2; clear tok2; refine (HSP.out _).mono ?_; rintro E w9 ⟨rfl, o9⟩; have O9 := Lib.hid (O2.out.trans o9); clear o9))
      go_ret
      exact ⟨rfl, O9.out⟩
  | true =>
    have hL50' := hL50 rfl
    clear hL50
    obtain ⟨ck, hck⟩ : ∃ ck, roCheck o = ck := ⟨_, rfl⟩
    rw [hck] at HCK
    by_cases hc0 : ck = 0
    · subst hc0
      have hob : roBad o = false := by
        unfold roCheck at hck
        split at hck
        · cases hck
        · next h => simpa using h
      have HOB := Lib.hid hob
      have HDN := Lib.hid (fun (B X : World) (ho : Only none_ B X) => disk_new B X ho)
      have HRO := Lib.hid (fun (X : World) => rp_of o X)
      have HRM := Lib.hid (fun (X : World) => rd_room o X (by have := ro_room hob; omega))
      clear hck
      go_enter Tryz.func11, Tryz.ntmps11
      go_upto_region 1 with fail
      obtain ⟨B, hB⟩ : ∃ B, w.alloc (.cells #[.int .i64 o.n, .int .i64 o.q, .int .i64 o.r, .int .i64 o.t1, .int .i64 o.t2] 23) = B := ⟨_, rfl⟩
      rw [hB] at BX O0 ⊢
      clear hB
      generalize hg2 : w.heap.size = g2 at *
      have tok1 : True := trivial
      go_upto_region 7 with (first
        | (go_at_call 12; refine (HSP.out _).mono ?_; rintro E w1 ⟨rfl, o1⟩; have P1 := Lib.hid o1; clear o1)
        | (go_at_call 13; refine (HFW.out _ (O0.out.trans P1.out)).mono ?_; rintro E w2 ⟨rfl, o2⟩; have P2 := Lib.hid (P1.out.trans o2); have B2 := Lib.hid (BX.out.only P2.out (fun h => h)); clear o2)
        | (refine wpl_load_if (by rfl) 23 _ rfl g2 rfl 23 #[.int .i64 o.n, .int .i64 o.q, .int .i64 o.r, .int .i64 o.t1, .int .i64 o.t2] _ B2.out Tryz.underlying23 rfl (by kernel_rfl) ?_)
        | (go_at_call 19; refine (HCK.out _).mono ?_; rintro E w3 ⟨rfl, o3⟩; have P3 := Lib.hid (P2.out.trans o3); clear o3)
        | (go_at_call 14; refine (HDN.out B _ P3.out).mono ?_; rintro E w4 ⟨dg, rfl, hdg, hd, o4⟩
           have P4 := Lib.hid (P3.out.trans o4)
           have B4 := Lib.hid (BX.out.only P4.out (fun h => h))
           have D4 := Lib.hid hd
           clear hdg hd o4)
        | (refine wpl_load rfl 23 _ rfl g2 rfl 23 #[.int .i64 o.n, .int .i64 o.q, .int .i64 o.r, .int .i64 o.t1, .int .i64 o.t2] _ B4.out Tryz.underlying23 rfl (by kernel_rfl) ?_)
        | (go_at_call 16; refine (HRO.out _).mono ?_; rintro E w5 ⟨rfl, o5⟩
           have D5 := Lib.hid (D4.out.keep o5)
           clear o5)
        | (go_at_call 15; refine (rq_first HOB.out D5.out).mono ?_; rintro E w6 ⟨a0, r0, rfl, q6, _, _⟩
           have Q6 := Lib.hid q6
           clear q6))
      clear P1 P2 B2 P3 P4 B4 D4 D5 HFW HCK HDN
      have BO : Hid (∀ X, Only none_ B X → Blk X g2 23 #[.int .i64 o.n, .int .i64 o.q, .int .i64 o.r, .int .i64 o.t1, .int .i64 o.t2]) := fun X ho => BX.out.only ho (fun h => h)
      clear BX
      go_wp2_with fail
      go_loopw [44] (fun i X => ∃ (k : Nat) (a : Ra) (s : Rs) (log : List En), k ≤ L ∧ i = .int .i64 (k : Int) ∧ Rq B o dg a s log r0 k X ∧ Qx log s) (fun i _ => L - (intOf i).toNat)
      case atStart => exact ⟨0, a0, _, [], Nat.zero_le _, rfl, Q6.out, ⟨(fun x hx => by cases hx), Nat.le_refl _⟩⟩
      case round =>
        obtain ⟨k, a, s, log, hk, rfl, hq, hqx⟩ := hrel
        have HQ := Lib.hid hq
        have HQX := Lib.hid hqx
        clear hq hqx Q6
        by_cases hlt : k < L
        · obtain ⟨p, hp⟩ : ∃ p, l[k]? = some p := ⟨l[k]'(by have := HL.out; omega), List.getElem?_eq_getElem _⟩
          obtain ⟨b, off, hA, _, hbb, hc⟩ := in_elem paRow_length (by decide) HX.out HL.out hp
          subst hA
          have HC : Hid (∀ j u, (paA p).toList[j]? = some u → wr.cell? ⟨b, off + k * 12 + j, none⟩ = some u) := fun j u hu => hc _ (O0.out.trans HQ.out.p.ho) j u hu
          have hki : (k : Int) < (L : Int) := by omega
          clear hc hp hbb
          go_upto_region 10 with (first
            | (refine wpl_piece rfl 52 _ rfl b (off + k * 12) rfl (paA p) _ HC.out Tryz.underlying52 rfl (by kernel_rfl) ?_)
            | (refine wpl_new rfl rfl 52 rfl _ _ rfl (paA p) rfl rfl (by kernel_rfl) (pa_one p) ?_))
          try simp only [Act.put, List.setIfInBounds_toArray, List.set_cons_succ, List.set_cons_zero, World.size_alloc]
          have oa := (Only.refl none_ wr).alloc (.cells (paA p) 52)
          have R0 := Lib.hid (HQ.out.keep oa)
          have A0 : Hid (Bn a wr.heap.size 52 (paA p) (wr.alloc (.cells (paA p) 52))) := Bn.new HQ.out.p
          generalize wr.alloc (.cells (paA p) 52) = W0 at *
          generalize wr.heap.size = n1 at *
          clear oa HQ HC
          have hm60 : k ≤ 60 := by omega
          have how : s.own.length ≤ 60 := by have h1 := R0.out.n; have h2 := HQX.out.w; omega
          have HOW : Hid (Calls Tryz.prog 59 #[.pointer (some ⟨r0, 0, none⟩)] W0 fun E w' => ∃ (Ao : Option Addr) (co : Nat), E = .returned (.slice Ao s.own.length co) ∧ Only none_ W0 w') := by
            have := rp_own B a s W0 R0.out.p (by omega)
            rw [R0.out.hr] at this
            refine this.mono ?_
            rintro E w' ⟨v', rfl, hv, ho⟩
            obtain ⟨Ao, no, co, rfl⟩ := own_shape hv
            obtain rfl := own_count hv
            exact ⟨Ao, co, by rw [ownB_len], ho⟩
          obtain ⟨hd, hhd⟩ : ∃ hd, s.own.length = hd := ⟨_, rfl⟩
          rw [hhd] at HOW
          have HHD := Lib.hid hhd
          clear hhd
          obtain ⟨pk, pu, pv, pe⟩ := p
          go_upto_region 11 with (first
            | (go_at_call 59; refine HOW.out.mono ?_; rintro E W1 ⟨Ao, co, rfl, o1⟩
               have R1 := Lib.hid (R0.out.keep o1)
               have A1 := Lib.hid (A0.out.keep o1)
               have q0 := A1.out.b.cell_ (i := 0) rfl
               have q1 := A1.out.b.cell_ (i := 1) rfl
               have q2 := A1.out.b.cell_ (i := 2) rfl
               have q3 := A1.out.b.cell_ (i := 3) rfl
               try dsimp only at q0 q1 q2 q3
               clear o1))
          clear HOW R0 A0
          go_upto_block 2 with fail
          go_cut [6] (fun v6 X => Mu B o dg r0 k v6 X)
          case first =>
            by_cases hk0 : pk = 0
            · skip
              as_aux_lemma =>
                have k0b : (pk == 0) = true := by simp [hk0]
                clear hk0
                rcases R1.out.wf.ptw (by have := R1.out.n; omega) pu pv with ⟨z, hz, hpe⟩ | ⟨hcl, hpe, d, hown⟩
                · obtain ⟨x, hxx⟩ : ∃ x, enZero = x := ⟨_, rfl⟩
                  rw [hxx] at hpe
                  have hzb : (z == 0) = false := by simpa using hz
                  have HP := Lib.hid (R1.out.put hm60 hpe R1.out.wf (Nat.le_trans R1.out.n (Nat.le_succ k)))
                  clear hpe hxx hz
                  go_wp2_with (first
                    | (go_at_call 44; refine (HP.out).mono ?_; rintro E w5 ⟨rfl, a5, r5, ol5⟩
                       have R5 := Lib.hid (r5.keep ((Only.refl none_ w5).alloc (.cells #[.string x.k, .string x.v, .bool x.d, .int .i64 x.s.c, .int .i64 x.s.s, .int .i64 x.a.c, .int .i64 x.a.s, .int .i64 x.p, .int .i64 x.g] 82)))
                       clear r5 ol5)
                    | (with_reducible refine wpl_new rfl rfl 82 rfl _ _ rfl #[.string x.k, .string x.v, .bool x.d, .int .i64 x.s.c, .int .i64 x.s.s, .int .i64 x.a.c, .int .i64 x.a.s, .int .i64 x.p, .int .i64 x.g] rfl rfl (by kernel_rfl) (en_cells_one x) ?_))
                  go_meet
                  exact ⟨a5, _, _, rfl, R5.out, HQX.out⟩
                · have hqx := HQX.out.dn d R1.out.wf rfl rfl rfl (fun h => by cases h)
                  have hop := own_put R1.out.wf.own hown
                  have hdo := d.own
                  obtain ⟨x, hxx⟩ : ∃ x, putE pu pv ⟨s.c + 1, s.site⟩ = x := ⟨_, rfl⟩
                  have hxs : x.s.s = s.site ∧ x.k = pu := by rw [← hxx]; exact ⟨rfl, rfl⟩
                  rw [hxx] at hpe d hqx hdo
                  obtain ⟨s', hs'⟩ : ∃ s', downS { s with c := s.c + 1 } x = s' := ⟨_, rfl⟩
                  rw [hs'] at hpe d hqx hdo
                  rw [if_pos hxs.1, hxs.2] at hdo
                  have hol : s'.own.length = (withK pu s.own).length := by rw [hdo]
                  rw [← hol, HHD.out, R1.out.ho] at hop
                  have hnl : (log ++ [x]).length ≤ k + 1 := by have := R1.out.n; rw [List.length_append]; simp only [List.length_cons, List.length_nil]; omega
                  have HP := Lib.hid (R1.out.put hm60 hpe d.wf hnl)
                  have HQX2 := Lib.hid hqx
                  have HO2 : Hid (∀ (a' : Ra) (X : World), Rq B o dg a' s' (log ++ [x]) r0 (k + 1) X → Calls Tryz.prog 59 #[.pointer (some ⟨r0, 0, none⟩)] X fun E w' => ∃ (Ao : Option Addr) (co : Nat), E = .returned (.slice Ao s'.own.length co) ∧ Only none_ X w') := fun a' X hR => by
                    have := rp_own B a' s' X hR.p (by have := hqx.w; omega)
                    rw [hR.hr] at this
                    refine this.mono ?_
                    rintro E w' ⟨v', rfl, hv, ho⟩
                    obtain ⟨Ao, no, co, rfl⟩ := own_shape hv
                    obtain rfl := own_count hv
                    exact ⟨Ao, co, by rw [ownB_len], ho⟩
                  obtain ⟨hd2, hhd2⟩ : ∃ hd2, s'.own.length = hd2 := ⟨_, rfl⟩
                  rw [hhd2] at HO2 hop
                  clear hpe hxx hcl d hqx hdo hxs hol hown hs' hhd2
                  by_cases hgt : (hd : Int) < (hd2 : Int)
                  · have hq2 : ¬ o.q ≤ (hd : Int) := by omega
                    clear hop
                    go_wp2_with (first
                      | (go_at_call 44; refine (HP.out).mono ?_; rintro E w5 ⟨rfl, a5, r5, ol5⟩
                         have R5 := Lib.hid (r5.keep ((Only.refl none_ w5).alloc (.cells #[.string x.k, .string x.v, .bool x.d, .int .i64 x.s.c, .int .i64 x.s.s, .int .i64 x.a.c, .int .i64 x.a.s, .int .i64 x.p, .int .i64 x.g] 82)))
                         clear r5 ol5)
                      | (with_reducible refine wpl_new rfl rfl 82 rfl _ _ rfl #[.string x.k, .string x.v, .bool x.d, .int .i64 x.s.c, .int .i64 x.s.s, .int .i64 x.a.c, .int .i64 x.a.s, .int .i64 x.p, .int .i64 x.g] rfl rfl (by kernel_rfl) (en_cells_one x) ?_)
                      | (go_at_call 59; refine (HO2.out _ _ R5.out).mono ?_; rintro E w6 ⟨Ao2, co2, rfl, o6⟩
                         have R6 := Lib.hid (R5.out.keep o6)
                         have b1 := (BO.out _ R6.out.p.ho).cell_ (i := 1) rfl
                         try dsimp only at b1
                         clear o6))
                    go_meet
                    exact ⟨a5, _, _, rfl, R6.out, HQX2.out⟩
                  · clear hop
                    go_wp2_with (first
                      | (go_at_call 44; refine (HP.out).mono ?_; rintro E w5 ⟨rfl, a5, r5, ol5⟩
                         have R5 := Lib.hid (r5.keep ((Only.refl none_ w5).alloc (.cells #[.string x.k, .string x.v, .bool x.d, .int .i64 x.s.c, .int .i64 x.s.s, .int .i64 x.a.c, .int .i64 x.a.s, .int .i64 x.p, .int .i64 x.g] 82)))
                         clear r5 ol5)
                      | (with_reducible refine wpl_new rfl rfl 82 rfl _ _ rfl #[.string x.k, .string x.v, .bool x.d, .int .i64 x.s.c, .int .i64 x.s.s, .int .i64 x.a.c, .int .i64 x.a.s, .int .i64 x.p, .int .i64 x.g] rfl rfl (by kernel_rfl) (en_cells_one x) ?_)
                      | (go_at_call 59; refine (HO2.out _ _ R5.out).mono ?_; rintro E w6 ⟨Ao2, co2, rfl, o6⟩
                         have R6 := Lib.hid (R5.out.keep o6)
                         have b1 := (BO.out _ R6.out.p.ho).cell_ (i := 1) rfl
                         try dsimp only at b1
                         clear o6))
                    go_meet
                    exact ⟨a5, _, _, rfl, R6.out, HQX2.out⟩
            · by_cases hk1 : pk = 1
              · skip
                as_aux_lemma =>
                  have k0b : (pk == 0) = false := by simp [hk0]
                  have k1b : (pk == 1) = true := by simp [hk1]
                  clear hk0 hk1
                  rcases R1.out.wf.dlw (by have := R1.out.n; omega) pu with ⟨z, hz, hpe⟩ | ⟨hcl, hlive, x, hxx, hpe, d, _⟩
                  · have HP := Lib.hid (R1.out.del hm60 hpe R1.out.wf (Nat.le_trans R1.out.n (Nat.le_succ k)))
                    clear hpe hz
                    go_wp2_with (first
                      | (go_at_call 46; refine (HP.out).mono ?_; rintro E w5 ⟨rfl, a5, r5, ol5⟩
                         have R5 := Lib.hid (r5)
                         clear r5 ol5))
                    go_meet
                    exact ⟨a5, _, _, rfl, R5.out, HQX.out⟩
                  · have HQX2 := Lib.hid (HQX.out.dn d R1.out.wf rfl rfl rfl (fun _ h0 => by rw [hxx]; exact h0))
                    have HP := Lib.hid (R1.out.del hm60 hpe d.wf (m' := k + 1) (by have := R1.out.n; rw [List.length_append]; simp only [List.length_cons, List.length_nil]; omega))
                    clear hpe hxx hcl d hlive
                    go_wp2_with (first
                      | (go_at_call 46; refine (HP.out).mono ?_; rintro E w5 ⟨rfl, a5, r5, ol5⟩
                         have R5 := Lib.hid (r5)
                         clear r5 ol5))
                    go_meet
                    exact ⟨a5, _, _, rfl, R5.out, HQX2.out⟩
              · by_cases hk2 : pk = 2
                · skip
                  as_aux_lemma =>
                    have k0b : (pk == 0) = false := by simp [hk0]
                    have k1b : (pk == 1) = false := by simp [hk1]
                    have k2b : (pk == 2) = true := by simp [hk2]
                    clear hk0 hk1 hk2
                    obtain ⟨log', hqx, hwf, hnl⟩ := HQX.out.mg R1.out.wf (by have := R1.out.n; omega) pe
                    obtain ⟨s', kd, x, z, hmg⟩ : ∃ s' kd x z, mgR s pe = (s', kd, x, z) := ⟨_, _, _, _, rfl⟩
                    rw [hmg] at hqx hwf
                    have HE := Lib.hid hmg
                    have HWF := Lib.hid hwf
                    have HQX2 := Lib.hid hqx
                    have HNL : Hid (log'.length ≤ k + 1) := by have := R1.out.n; simp only [Hid]; omega
                    clear hmg hqx hwf hnl
                    go_wp2_with (first
                      | (with_reducible refine wpl_piece rfl 50 _ rfl n1 3 rfl #[.string pe.k, .string pe.v, .bool pe.d, .int .i64 pe.s.c, .int .i64 pe.s.s, .int .i64 pe.a.c, .int .i64 pe.a.s, .int .i64 pe.p, .int .i64 pe.g] _ (pa_entry (a := ⟨pk, pu, pv, pe⟩) A1.out.b) Tryz.underlying50 rfl (by kernel_rfl) ?_)
                      | (go_at_call 36; refine (en_of pe _).mono ?_; rintro E w4 ⟨rfl, o4⟩
                         have R4 := Lib.hid (R1.out.keep o4)
                         clear o4)
                      | (go_at_call 35; refine (R4.out.mrg hm60 HE.out HWF.out HNL.out).mono ?_; rintro E w5 ⟨rfl, a5, r5, ol5⟩
                         have R5 := Lib.hid r5
                         clear r5 ol5))
                    go_meet
                    exact ⟨a5, _, _, rfl, R5.out, HQX2.out⟩
                · by_cases hk3 : pk = 3
                  · skip
                    as_aux_lemma =>
                      have k0b : (pk == 0) = false := by simp [hk0]
                      have k1b : (pk == 1) = false := by simp [hk1]
                      have k2b : (pk == 2) = false := by simp [hk2]
                      have k3b : (pk == 3) = true := by simp [hk3]
                      clear hk0 hk1 hk2 hk3
                      have HQX2 := Lib.hid (HQX.out.tick R1.out.wf)
                      go_wp2_with (first
                        | (go_at_call 47; refine R1.out.tick.mono ?_; rintro E w5 ⟨vs, rfl, a5, r5, ol5⟩
                           have R5 : Hid (Rq B o dg a5 (tickS s) log r0 (k + 1) w5) := ⟨r5.p, r5.hr, r5.hd, r5.wf, Nat.le_trans r5.n (Nat.le_succ k), r5.ho, r5.hs⟩
                           clear r5 ol5))
                      go_meet
                      exact ⟨a5, _, _, rfl, R5.out, HQX2.out⟩
                  · skip
                    as_aux_lemma =>
                      have k0b : (pk == 0) = false := by simp [hk0]
                      have k1b : (pk == 1) = false := by simp [hk1]
                      have k2b : (pk == 2) = false := by simp [hk2]
                      have k3b : (pk == 3) = false := by simp [hk3]
                      clear hk0 hk1 hk2 hk3
                      have R5 : Hid (Rq B o dg a s log r0 (k + 1) W1) := ⟨R1.out.p, R1.out.hr, R1.out.hd, R1.out.wf, Nat.le_trans R1.out.n (Nat.le_succ k), R1.out.ho, R1.out.hs⟩
                      go_wp2_with fail
                      go_meet
                      exact ⟨a, _, _, rfl, R5.out, HQX.out⟩
          case rest =>
            obtain ⟨a2, s2, log2, rfl, hR2, hQ2⟩ := hcut
            have R2 := Lib.hid hR2
            have HQ2 := Lib.hid hQ2
            clear hR2 hQ2 R1 A1 HQX q0 q1 q2 q3
            have HEN : Hid (∀ X, Only none_ wc X → Calls Tryz.prog 40 #[.pointer (some ⟨r0, 6, none⟩)] X fun E w' => ∃ v', E = .returned v' ∧ w'.ownsRow X.heap.size 82 9 v' s2.tab.length (s2.tab.flatMap enRow) ∧ Only none_ X w') := fun X oX => by
              have := ct_entries B a2 s2 X (R2.out.p.keep oX)
              rwa [R2.out.hr] at this
            obtain ⟨M, hM⟩ : ∃ M, s2.tab.length = M := ⟨_, rfl⟩
            rw [hM] at HEN
            have HM := Lib.hid hM
            have HMl : Hid ((M : Int) ≤ roRoom o ∧ M ≤ 60) := by
              have h1 := R2.out.wf.len
              have h2 := R2.out.wf.tl
              have h3 := R2.out.n
              rw [R2.out.ho, hM] at h1
              exact ⟨h1, by omega⟩
            clear hM
            go_wp2_with (first
              | (go_at_call 40; refine (HEN.out _ (Only.refl _ _)).mono ?_; rintro E w2 ⟨vg, rfl, own2, o2⟩
                 obtain ⟨Ag, ng, cg, rfl⟩ := own_shape own2
                 obtain rfl : M = ng := (own_count own2).symm
                 have CG := Lib.hid (Cel.of_own own2)
                 have R3 := Lib.hid (R2.out.keep o2)
                 have O3 := Lib.hid o2
                 clear own2 o2))
            go_loopw [101] (fun i X => ∃ j : Nat, j ≤ M ∧ i = .int .i64 (j : Int) ∧ Only none_ w2 X) (fun i _ => M - (intOf i).toNat)
            case atStart => exact ⟨0, Nat.zero_le _, rfl, Only.refl _ _⟩
            case round =>
              obtain ⟨j, hj, rfl, ho⟩ := hrel
              have OJ := Lib.hid ho
              clear ho
              by_cases hjl : j < M
              · skip
                obtain ⟨x, hx⟩ : ∃ x, s2.tab[j]? = some x := ⟨s2.tab[j]'(by have := HM.out; omega), List.getElem?_eq_getElem _⟩
                have hxm : x ∈ s2.tab := List.mem_of_getElem? hx
                obtain ⟨b2, off2, hA, _, _, hc⟩ := in_elem enRow_length (by decide) CG.out HM.out hx
                subst hA
                have HCW : Hid (∀ i u, (#[.string x.k, .string x.v, .bool x.d, .int .i64 x.s.c, .int .i64 x.s.s, .int .i64 x.a.c, .int .i64 x.a.s, .int .i64 x.p, .int .i64 x.g] : Array Value).toList[i]? = some u → wr.cell? ⟨b2, off2 + j * 9 + i, none⟩ = some u) := fun i u hu => hc wr OJ.out i u hu
                have X4 := Lib.hid (Blk.new wr 82 #[.string x.k, .string x.v, .bool x.d, .int .i64 x.s.c, .int .i64 x.s.s, .int .i64 x.a.c, .int .i64 x.a.s, .int .i64 x.p, .int .i64 x.g])
                have hjI : (j : Int) < (M : Int) := by omega
                have hng : (M : Int) ≤ 60 := by have := HMl.out.2; omega
                have R4 := Lib.hid (R3.out.keep (OJ.out.alloc (.cells #[.string x.k, .string x.v, .bool x.d, .int .i64 x.s.c, .int .i64 x.s.s, .int .i64 x.a.c, .int .i64 x.a.s, .int .i64 x.p, .int .i64 x.g] 82)))
                have O4 := Lib.hid (OJ.out.alloc (.cells #[.string x.k, .string x.v, .bool x.d, .int .i64 x.s.c, .int .i64 x.s.s, .int .i64 x.a.c, .int .i64 x.a.s, .int .i64 x.p, .int .i64 x.g] 82))
                obtain ⟨hck, hac⟩ := R2.out.wf.chk x hxm
                have hyg := HQ2.out.q x hxm
                rw [R2.out.ho] at hyg
                have HCHK : Hid (∀ X, Calls Tryz.prog 37 #[.agg #[.string x.k, .string x.v, .bool x.d, .int .i64 x.s.c, .int .i64 x.s.s, .int .i64 x.a.c, .int .i64 x.a.s, .int .i64 x.p, .int .i64 x.g]] X fun E w' => E = .returned (.int .i64 0) ∧ Only none_ X w') := fun X => by
                  have := rf_check x X
                  rwa [hck] at this
                have HNOW : Hid (∀ X, Only none_ (wr.alloc (.cells #[.string x.k, .string x.v, .bool x.d, .int .i64 x.s.c, .int .i64 x.s.s, .int .i64 x.a.c, .int .i64 x.a.s, .int .i64 x.p, .int .i64 x.g] 82)) X → Calls Tryz.prog 58 #[.pointer (some ⟨a2.ck, 0, none⟩)] X fun e w' => e = .returned (.int .i64 s2.c) ∧ X = w') := fun X oX => clk_now a2.ck s2.site s2.c X (R4.out.p.keep oX).ck
                obtain ⟨cc, hcc⟩ : ∃ cc, s2.c = cc := ⟨_, rfl⟩
                rw [hcc] at hac HNOW
                obtain ⟨xk, xv, xd, ⟨xsc, xss⟩, ⟨xac, xas⟩, xp, xg⟩ := x
                have hgt : ¬ cc < xac := by
                  have h1 : xac ≤ cc := hac
                  omega
                have hyg2 : xd = true → 0 < o.t1 → ¬ o.t1 ≤ xg := fun h1 h2 => by
                  have h3 : xg < o.t1 := hyg h1 h2
                  omega
                have HYG := Lib.hid hyg2
                clear hx hc hxm hck hac hyg hcc hyg2
                go_upto_region 25 with (first
                  | (with_reducible refine wpl_piece rfl 82 _ rfl b2 (off2 + j * 9) rfl #[.string xk, .string xv, .bool xd, .int .i64 xsc, .int .i64 xss, .int .i64 xac, .int .i64 xas, .int .i64 xp, .int .i64 xg] _ HCW.out Tryz.underlying82 rfl (by kernel_rfl) ?_)
                  | (with_reducible refine wpl_new rfl rfl 82 rfl _ _ rfl #[.string xk, .string xv, .bool xd, .int .i64 xsc, .int .i64 xss, .int .i64 xac, .int .i64 xas, .int .i64 xp, .int .i64 xg] rfl rfl (by kernel_rfl) (en_cells_one ⟨xk, xv, xd, ⟨xsc, xss⟩, ⟨xac, xas⟩, xp, xg⟩) ?_))
                try simp only [Act.put, List.setIfInBounds_toArray, List.set_cons_succ, List.set_cons_zero, World.size_alloc]
                try dsimp only at X4 R4 O4 HCHK HNOW HCW
                generalize wr.alloc (.cells #[.string xk, .string xv, .bool xd, .int .i64 xsc, .int .i64 xss, .int .i64 xac, .int .i64 xas, .int .i64 xp, .int .i64 xg] 82) = W4 at *
                generalize wr.heap.size = n23 at *
                clear HCW
                cases xd with
                | false =>
                  (refine wp_region_steady (fun X => Only none_ W4 X) 31 (by kernel_rfl) (by kernel_rfl) ((Only.refl none_ W4).drew) ?_; simp only [List.take_succ_cons, List.take_zero, List.drop_succ_cons, List.drop_zero])
                  repeat (first
                    | (refine sd_value (v := ?_) (by rfl) (fun w0 hS => ?_) ?_; rotate_left; (· (skip; go_simp; try (with_reducible rfl))); try simp only [Act.put, List.setIfInBounds_toArray, List.set_cons_zero, List.set_cons_succ])
                    | (refine sd_value (v := ?_) (by rfl) (fun w0 hS => ?_) ?_; rotate_left; (· (have oo := nine_of (X4.out.only hS (fun h => h)); have rr := (R4.out.p.keep hS).bk.cell_ (i := 5) rfl; rw [R4.out.hr] at rr; have b3 := (BO.out _ (R4.out.p.ho.trans hS)).cell_ (i := 3) rfl; (try dsimp only at b3); (try dsimp only at rr); go_simp; try (with_reducible rfl))); try simp only [Act.put, List.setIfInBounds_toArray, List.set_cons_zero, List.set_cons_succ])
                    | (refine sd_call (v := ?_) (f := 58) (args := ?_) (by rfl) (fun w0 hS => ?_) (fun w0 hS => ?_) ?_; rotate_left 2; (· (skip; go_simp; try (with_reducible rfl))); (· (refine (HNOW.out _ hS).mono ?_; rintro E w8 ⟨rfl, rfl⟩; refine ⟨?_, hS⟩; rfl)); try simp only [Act.put, List.setIfInBounds_toArray, List.set_cons_zero, List.set_cons_succ])
                    | (refine sd_call (v := ?_) (f := 26) (args := ?_) (by rfl) (fun w0 hS => ?_) (fun w0 hS => ?_) ?_; rotate_left 2; (· (skip; go_simp; try (with_reducible rfl))); (· (with_reducible refine (en_to ⟨xk, xv, false, ⟨xsc, xss⟩, ⟨xac, xas⟩, xp, xg⟩ _).mono ?_; rintro E w8 ⟨rfl, o8⟩; refine ⟨?_, hS.trans o8⟩; rfl)); try simp only [Act.put, List.setIfInBounds_toArray, List.set_cons_zero, List.set_cons_succ])
                    | (refine sd_call (v := ?_) (f := 37) (args := ?_) (by rfl) (fun w0 hS => ?_) (fun w0 hS => ?_) ?_; rotate_left 2; (· (skip; go_simp; try (with_reducible rfl))); (· (refine (HCHK.out _).mono ?_; rintro E w8 ⟨rfl, o8⟩; refine ⟨?_, hS.trans o8⟩; rfl)); try simp only [Act.put, List.setIfInBounds_toArray, List.set_cons_zero, List.set_cons_succ])
                    | (refine sd_skip (by rfl) ?_; try simp only [Act.put, List.setIfInBounds_toArray, List.set_cons_zero, List.set_cons_succ]))
                  refine sd_nil ?_
                  intro w10 t10
                  have O10 := Lib.hid (O4.out.trans t10)
                  clear t10
                  go_wp2_with fail
                  go_roundw
                  case rel => exact ⟨j + 1, by omega, by go_num, O10.out⟩
                  case measure => simp [intOf]; omega
                | true =>
                  by_cases ht1 : 0 < o.t1
                  · have hyg3 : ¬ o.t1 ≤ xg := HYG.out rfl ht1
                    (refine wp_region_steady (fun X => Only none_ W4 X) 31 (by kernel_rfl) (by kernel_rfl) ((Only.refl none_ W4).drew) ?_; simp only [List.take_succ_cons, List.take_zero, List.drop_succ_cons, List.drop_zero])
                    repeat (first
                      | (refine sd_value (v := ?_) (by rfl) (fun w0 hS => ?_) ?_; rotate_left; (· (skip; go_simp; try (with_reducible rfl))); try simp only [Act.put, List.setIfInBounds_toArray, List.set_cons_zero, List.set_cons_succ])
                      | (refine sd_value (v := ?_) (by rfl) (fun w0 hS => ?_) ?_; rotate_left; (· (have oo := nine_of (X4.out.only hS (fun h => h)); have rr := (R4.out.p.keep hS).bk.cell_ (i := 5) rfl; rw [R4.out.hr] at rr; have b3 := (BO.out _ (R4.out.p.ho.trans hS)).cell_ (i := 3) rfl; (try dsimp only at b3); (try dsimp only at rr); go_simp; try (with_reducible rfl))); try simp only [Act.put, List.setIfInBounds_toArray, List.set_cons_zero, List.set_cons_succ])
                      | (refine sd_call (v := ?_) (f := 58) (args := ?_) (by rfl) (fun w0 hS => ?_) (fun w0 hS => ?_) ?_; rotate_left 2; (· (skip; go_simp; try (with_reducible rfl))); (· (refine (HNOW.out _ hS).mono ?_; rintro E w8 ⟨rfl, rfl⟩; refine ⟨?_, hS⟩; rfl)); try simp only [Act.put, List.setIfInBounds_toArray, List.set_cons_zero, List.set_cons_succ])
                      | (refine sd_call (v := ?_) (f := 26) (args := ?_) (by rfl) (fun w0 hS => ?_) (fun w0 hS => ?_) ?_; rotate_left 2; (· (skip; go_simp; try (with_reducible rfl))); (· (with_reducible refine (en_to ⟨xk, xv, true, ⟨xsc, xss⟩, ⟨xac, xas⟩, xp, xg⟩ _).mono ?_; rintro E w8 ⟨rfl, o8⟩; refine ⟨?_, hS.trans o8⟩; rfl)); try simp only [Act.put, List.setIfInBounds_toArray, List.set_cons_zero, List.set_cons_succ])
                      | (refine sd_call (v := ?_) (f := 37) (args := ?_) (by rfl) (fun w0 hS => ?_) (fun w0 hS => ?_) ?_; rotate_left 2; (· (skip; go_simp; try (with_reducible rfl))); (· (refine (HCHK.out _).mono ?_; rintro E w8 ⟨rfl, o8⟩; refine ⟨?_, hS.trans o8⟩; rfl)); try simp only [Act.put, List.setIfInBounds_toArray, List.set_cons_zero, List.set_cons_succ])
                      | (refine sd_skip (by rfl) ?_; try simp only [Act.put, List.setIfInBounds_toArray, List.set_cons_zero, List.set_cons_succ]))
                    refine sd_nil ?_
                    intro w10 t10
                    have O10 := Lib.hid (O4.out.trans t10)
                    clear t10
                    go_wp2_with fail
                    go_roundw
                    case rel => exact ⟨j + 1, by omega, by go_num, O10.out⟩
                    case measure => simp [intOf]; omega
                  · skip
                    (refine wp_region_steady (fun X => Only none_ W4 X) 31 (by kernel_rfl) (by kernel_rfl) ((Only.refl none_ W4).drew) ?_; simp only [List.take_succ_cons, List.take_zero, List.drop_succ_cons, List.drop_zero])
                    repeat (first
                      | (refine sd_value (v := ?_) (by rfl) (fun w0 hS => ?_) ?_; rotate_left; (· (skip; go_simp; try (with_reducible rfl))); try simp only [Act.put, List.setIfInBounds_toArray, List.set_cons_zero, List.set_cons_succ])
                      | (refine sd_value (v := ?_) (by rfl) (fun w0 hS => ?_) ?_; rotate_left; (· (have oo := nine_of (X4.out.only hS (fun h => h)); have rr := (R4.out.p.keep hS).bk.cell_ (i := 5) rfl; rw [R4.out.hr] at rr; have b3 := (BO.out _ (R4.out.p.ho.trans hS)).cell_ (i := 3) rfl; (try dsimp only at b3); (try dsimp only at rr); go_simp; try (with_reducible rfl))); try simp only [Act.put, List.setIfInBounds_toArray, List.set_cons_zero, List.set_cons_succ])
                      | (refine sd_call (v := ?_) (f := 58) (args := ?_) (by rfl) (fun w0 hS => ?_) (fun w0 hS => ?_) ?_; rotate_left 2; (· (skip; go_simp; try (with_reducible rfl))); (· (refine (HNOW.out _ hS).mono ?_; rintro E w8 ⟨rfl, rfl⟩; refine ⟨?_, hS⟩; rfl)); try simp only [Act.put, List.setIfInBounds_toArray, List.set_cons_zero, List.set_cons_succ])
                      | (refine sd_call (v := ?_) (f := 26) (args := ?_) (by rfl) (fun w0 hS => ?_) (fun w0 hS => ?_) ?_; rotate_left 2; (· (skip; go_simp; try (with_reducible rfl))); (· (with_reducible refine (en_to ⟨xk, xv, true, ⟨xsc, xss⟩, ⟨xac, xas⟩, xp, xg⟩ _).mono ?_; rintro E w8 ⟨rfl, o8⟩; refine ⟨?_, hS.trans o8⟩; rfl)); try simp only [Act.put, List.setIfInBounds_toArray, List.set_cons_zero, List.set_cons_succ])
                      | (refine sd_call (v := ?_) (f := 37) (args := ?_) (by rfl) (fun w0 hS => ?_) (fun w0 hS => ?_) ?_; rotate_left 2; (· (skip; go_simp; try (with_reducible rfl))); (· (refine (HCHK.out _).mono ?_; rintro E w8 ⟨rfl, o8⟩; refine ⟨?_, hS.trans o8⟩; rfl)); try simp only [Act.put, List.setIfInBounds_toArray, List.set_cons_zero, List.set_cons_succ])
                      | (refine sd_skip (by rfl) ?_; try simp only [Act.put, List.setIfInBounds_toArray, List.set_cons_zero, List.set_cons_succ]))
                    refine sd_nil ?_
                    intro w10 t10
                    have O10 := Lib.hid (O4.out.trans t10)
                    clear t10
                    go_wp2_with fail
                    go_roundw
                    case rel => exact ⟨j + 1, by omega, by go_num, O10.out⟩
                    case measure => simp [intOf]; omega
              · have hMM : ¬ (roRoom o < (M : Int)) := by have := HMl.out.1; omega
                have R5 := Lib.hid (R3.out.keep OJ.out)
                have O5 := Lib.hid (O3.out.trans OJ.out)
                go_upto_region 28 with fail
                (refine wp_region_free (fun X => Only none_ wr X) (Only none_) (F := ?_) (by kernel_rfl) 146 (by rfl) (by kernel_rfl) (fun x => ?_) ((Only.refl none_ wr).drew) ?_; rotate_left; (· (simp only [putsL, Act.put, List.setIfInBounds_toArray, List.set_cons_zero, List.set_cons_succ, Nat.reduceAdd]; exact rfl)))
                repeat (first | ((first | refine fr_value (c := ?_) (by rfl) (fun w => Only.refl none_ w) (fun x w0 hS hk => ?_) ?_ | refine fr_value_if (c := ?_) (by rfl) (by rfl) (by rfl) (fun w => Only.refl none_ w) (fun x w0 hS hk => ?_) ?_); rotate_left; (· (have hk2 := hk; (try simp [knAll, Region.binds] at hk2); skip; go_simp; try (with_reducible rfl))); try simp only [List.nil_append, List.cons_append]))
                ((first | refine fr_some (fun v _ => ∃ A c, v = .slice A M c) (fun _ _ _ _ _ _ h => h) (by rfl) (fun x w0 hS hk => ?_) ?_ | refine fr_some_if (fun v _ => ∃ A c, v = .slice A M c) (fun _ _ _ _ _ _ h => h) (by rfl) (by rfl) (by rfl) (fun x w0 hS hk => ?_) ?_); (· (have hk2 := hk; (try simp [knAll, Region.binds] at hk2); skip; refine got_call (f := 40) (args := ?_) (by go_simp; try (with_reducible rfl)) ?_; refine (HEN.out _ (O5.out.trans hS)).mono ?_; rintro e w8 ⟨v8, rfl, own8, o8⟩; obtain ⟨A8, n8, c8, rfl⟩ := own_shape own8; obtain rfl : M = n8 := (own_count own8).symm; exact ⟨_, rfl, ⟨A8, c8, rfl⟩, hS.trans o8, o8⟩)); try simp only [List.nil_append, List.cons_append])
                ((first | refine fr_value (c := ?_) (by rfl) (fun w => Only.refl none_ w) (fun x w0 hS hk => ?_) ?_ | refine fr_value_if (c := ?_) (by rfl) (by rfl) (by rfl) (fun w => Only.refl none_ w) (fun x w0 hS hk => ?_) ?_); rotate_left; (· (have hk2 := hk; (try simp [knAll, Region.binds] at hk2); obtain ⟨A1, c1, e1⟩ := kn_at (j := 3) (by rfl) hk (by rfl); simp only [e1]; go_simp; try (with_reducible rfl))); try simp only [List.nil_append, List.cons_append])
                repeat (first | ((first | refine fr_value (c := ?_) (by rfl) (fun w => Only.refl none_ w) (fun x w0 hS hk => ?_) ?_ | refine fr_value_if (c := ?_) (by rfl) (by rfl) (by rfl) (fun w => Only.refl none_ w) (fun x w0 hS hk => ?_) ?_); rotate_left; (· (have hk2 := hk; (try simp [knAll, Region.binds] at hk2); have bb := BO.out _ (R5.out.p.ho.trans hS); have b0 := bb.cell_ (i := 0) rfl; have b1 := bb.cell_ (i := 1) rfl; have b2 := bb.cell_ (i := 2) rfl; have b3 := bb.cell_ (i := 3) rfl; have b4 := bb.cell_ (i := 4) rfl; go_simp; try (with_reducible rfl))); try simp only [List.nil_append, List.cons_append]))
                ((first | refine fr_some (fun v _ => v = .int .i64 (roRoom o)) (fun _ _ _ _ _ _ h => h) (by rfl) (fun x w0 hS hk => ?_) ?_ | refine fr_some_if (fun v _ => v = .int .i64 (roRoom o)) (fun _ _ _ _ _ _ h => h) (by rfl) (by rfl) (by rfl) (fun x w0 hS hk => ?_) ?_); (· (have hk2 := hk; (try simp [knAll, Region.binds] at hk2); skip; refine got_call (f := 48) (args := ?_) (by go_simp; try (with_reducible rfl)) ?_; refine (HRM.out _).mono ?_; rintro e w8 ⟨rfl, o8⟩; exact ⟨_, rfl, rfl, hS.trans o8, o8⟩)); try simp only [List.nil_append, List.cons_append])
                repeat (first | ((first | refine fr_value (c := ?_) (by rfl) (fun w => Only.refl none_ w) (fun x w0 hS hk => ?_) ?_ | refine fr_value_if (c := ?_) (by rfl) (by rfl) (by rfl) (fun w => Only.refl none_ w) (fun x w0 hS hk => ?_) ?_); rotate_left; (· (have hk2 := hk; (try simp [knAll, Region.binds] at hk2); skip; go_simp; try (with_reducible rfl))); try simp only [List.nil_append, List.cons_append]))
                (refine fr_end ?_; intro x w9 hS hk)
                have e7 := kn_end_at 7 hk (by rfl)
                rw [Nat.zero_add] at e7
                clear hk
                rw [e7]
                have R9 := Lib.hid (R5.out.keep hS)
                go_wp2_with fail
                go_roundw
                case rel => exact ⟨k + 1, a2, s2, log2, by omega, by go_num, R9.out, HQ2.out⟩
                case measure => simp [intOf]; omega
        · obtain rfl : k = L := by omega
          have P9 := Lib.hid (O0.out.trans HQ.out.p.ho)
          go_wp2_with fail
          go_ret
          exact ⟨rfl, P9.out⟩
    · have hcb : (ck != 0) = true := by simpa using hc0
      as_aux_lemma =>
        clear hck hc0 HX HL
        go_enter Tryz.func11, Tryz.ntmps11
        have tok1 : True := trivial
        go_wp2_with (first
          | (go_at_call 12; have _t := tok1; clear tok1; refine (HSP.out _).mono ?_; rintro E w1 ⟨rfl, o1⟩; have P1 := Lib.hid o1; have O1 := Lib.hid (O0.out.trans o1); clear o1; have tok2 : True := trivial)
          | (go_at_call 13; refine (HFW.out _ O1.out).mono ?_; rintro E w2 ⟨rfl, o2⟩; have P2 := Lib.hid o2; have O2 := Lib.hid (O1.out.trans o2); clear o2)
          | (refine wpl_load_if (by rfl) 23 _ rfl w.heap.size rfl 23 #[.int .i64 o.n, .int .i64 o.q, .int .i64 o.r, .int .i64 o.t1, .int .i64 o.t2] _ (by first | exact BX.out.only (Only.trans P1.out P2.out) (fun h => h)) Tryz.underlying23 rfl (by kernel_rfl) ?_)
          | (go_at_call 19; refine (HCK.out _).mono ?_; rintro E w3 ⟨rfl, o3⟩; have O3 := Lib.hid (O2.out.trans o3); clear o3)
          | (go_at_call 12; have _t := tok2; clear tok2; refine (HSP.out _).mono ?_; rintro E w9 ⟨rfl, o9⟩; have O9 := Lib.hid (O3.out.trans o9); clear o9))
        go_ret
        exact ⟨rfl, O9.out⟩
end Go.Proofs.YtoohpcomnhfgpaaGreat
end
