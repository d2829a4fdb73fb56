/- Texts of mine, one behind the other: RpS, EnF, EnG, TbFe, RpB, RcG, RpC, RpD, GvH. No statement of the seat is proved here. -/
import Derived.Test.YtoohpcomnhfgpaaGreatHs11
import Derived.Test.YtoohpcomnhfgpaaGreatHs1
import Derived.Test.YtoohpcomnhfgpaaGreatHs2
import Derived.Test.YtoohpcomnhfgpaaGreatHs6
import Derived.Test.YtoohpcomnhfgpaaGreatHs7
import Derived.Deep.RegionLaw
import Derived.Test.YtoohpcomnhfgpaaGreatHs8
section
namespace Go.Proofs.YtoohpcomnhfgpaaGreat
open Go.RowKit
set_option maxRecDepth 100000
set_option linter.all false
structure TmI (W : World) (t : TypeId) (g h1 : Nat) (tt : TypeId) (cs : Array Value) (a : En) (w : World) : Prop where
  x : Blk w h1 t #[.string a.k, .string a.v, .bool a.d, .int .i64 a.s.c, .int .i64 a.s.s, .int .i64 a.a.c, .int .i64 a.a.s, .int .i64 a.p, .int .i64 a.g]
  s : Blk w g tt cs
  ho : Only none_ W w
theorem TmI.keep {W w w' : World} {t tt : TypeId} {g h1 : Nat} {cs : Array Value} {a : En} (k : TmI W t g h1 tt cs a w) (o : Only none_ w w') : TmI W t g h1 tt cs a w' := ⟨k.x.only o (fun h => h), k.s.only o (fun h => h), k.ho.trans o⟩
set_option maxHeartbeats 1600000 in
theorem su_drop_in (g i : Nat) (tt : TypeId) (cs : Array Value) (z : Int) (e : En) (w : World) (h : Blk w g tt cs) (hi : cs[i]? = some (.int .u64 (w64 z))) :
    Calls Tryz.prog 160 #[.pointer (some ⟨g, i, none⟩), .agg #[.string e.k, .string e.v, .bool e.d, .int .i64 e.s.c, .int .i64 e.s.s, .int .i64 e.a.c, .int .i64 e.a.s, .int .i64 e.p, .int .i64 e.g]] w fun E w' => E = .returned (.int .u64 (w64 (z - hsh e))) ∧ ∃ w0, Only none_ w w0 ∧ w' = w0.setCell ⟨g, i, none⟩ (.int .u64 (w64 (z - hsh e))) := by
  have T : Hid (TmI w 82 g w.heap.size tt cs e (w.alloc (.cells #[.string e.k, .string e.v, .bool e.d, .int .i64 e.s.c, .int .i64 e.s.s, .int .i64 e.a.c, .int .i64 e.a.s, .int .i64 e.p, .int .i64 e.g] 82))) := ⟨Blk.new w _ _, h.alloc _, (Only.refl none_ w).alloc _⟩
  have hw : Hid (w64 (w64 z + (-(hsh e : Int)) % 18446744073709551616) = w64 (z - hsh e)) := by rw [Hid]; exact (w64_add2 _ _).trans (by rw [w64_add, ← Int.sub_eq_add_neg])
  have hw2 : Hid (w64 (w64 z + IntKind.u64.wrap (-(hsh e : Int))) = w64 (z - hsh e)) := by rw [Hid, IntKind.wrap_u64]; exact hw.out
  have HI := Lib.hid hi
  clear h hi
  go_enter Tryz.func160, Tryz.ntmps160
  go_wp2_with fail
  have t2 := T.out.keep (Only.refl none_ _).drew
  (refine wp_region_steady (fun w' => TmI w 82 g w.heap.size tt cs e w') 6 (by kernel_rfl) (by kernel_rfl) (t2) ?_; simp only [List.take_succ_cons, List.take_zero, List.drop_succ_cons, List.drop_zero])
  repeat (first
    | (refine sd_value (v := ?_) (by rfl) (fun w0 hS => ?_) ?_; rotate_left; (· (skip; go_simp; try (with_reducible rfl))); try simp only [Act.put, List.setIfInBounds_toArray, List.set_cons_zero, List.set_cons_succ])
    | (refine sd_value (v := ?_) (by rfl) (fun w0 hS => ?_) ?_; rotate_left; (· (have hc := nine_of hS.x; go_simp; try (with_reducible rfl))); try simp only [Act.put, List.setIfInBounds_toArray, List.set_cons_zero, List.set_cons_succ])
    | (refine sd_call (v := ?_) (f := 104) (args := ?_) (by rfl) (fun w0 hS => ?_) (fun w0 hS => ?_) ?_; rotate_left 2; (· (skip; go_simp; try (with_reducible rfl))); (· (refine (sm_hash _ _).mono ?_; rintro E w8 ⟨rfl, o8⟩; refine ⟨?_, hS.keep o8⟩; rfl)); try simp only [Act.put, List.setIfInBounds_toArray, List.set_cons_zero, List.set_cons_succ]))
  refine sd_nil ?_
  intro w5 t5
  have S3 := Lib.hid t5.s
  have O3 := Lib.hid t5.ho
  clear t5 t2
  go_wp2_with (first
    | (go_at_call 205; refine (uadd ⟨g, i, none⟩ _ _ (w64 (z - hsh e)) _ (S3.out.cell_ HI.out) (S3.out.frozen i) (by first | exact w64_add _ _ | exact hw.out | exact hw2.out)).mono ?_; rintro E w4 ⟨rfl, rfl⟩))
  go_ret
  exact ⟨rfl, _, O3.out, rfl⟩
structure TnI (W : World) (t u : TypeId) (g h1 h2 : Nat) (tt : TypeId) (cs : Array Value) (a b : En) (w : World) : Prop where
  x : Blk w h1 t #[.string a.k, .string a.v, .bool a.d, .int .i64 a.s.c, .int .i64 a.s.s, .int .i64 a.a.c, .int .i64 a.a.s, .int .i64 a.p, .int .i64 a.g]
  y : Blk w h2 u #[.string b.k, .string b.v, .bool b.d, .int .i64 b.s.c, .int .i64 b.s.s, .int .i64 b.a.c, .int .i64 b.a.s, .int .i64 b.p, .int .i64 b.g]
  s : Blk w g tt cs
  ho : Only none_ W w
theorem TnI.keep {W w w' : World} {t u tt : TypeId} {g h1 h2 : Nat} {cs : Array Value} {a b : En} (k : TnI W t u g h1 h2 tt cs a b w) (o : Only none_ w w') : TnI W t u g h1 h2 tt cs a b w' := ⟨k.x.only o (fun h => h), k.y.only o (fun h => h), k.s.only o (fun h => h), k.ho.trans o⟩
set_option maxHeartbeats 3200000 in
theorem su_turn_in (g i : Nat) (tt : TypeId) (cs : Array Value) (z : Int) (a b : En) (w : World) (h : Blk w g tt cs) (hi : cs[i]? = some (.int .u64 (w64 z))) :
    Calls Tryz.prog 177 #[.pointer (some ⟨g, i, none⟩), .agg #[.string a.k, .string a.v, .bool a.d, .int .i64 a.s.c, .int .i64 a.s.s, .int .i64 a.a.c, .int .i64 a.a.s, .int .i64 a.p, .int .i64 a.g], .agg #[.string b.k, .string b.v, .bool b.d, .int .i64 b.s.c, .int .i64 b.s.s, .int .i64 b.a.c, .int .i64 b.a.s, .int .i64 b.p, .int .i64 b.g]] w fun E w' => E = .returned (.int .u64 (w64 (z + (hsh b - hsh a)))) ∧ ∃ w0, Only none_ w w0 ∧ w' = w0.setCell ⟨g, i, none⟩ (.int .u64 (w64 (z + (hsh b - hsh a)))) := by
  have T : Hid (TnI w 82 82 g w.heap.size (w.heap.size + 1) tt cs a b ((w.alloc (.cells #[.string a.k, .string a.v, .bool a.d, .int .i64 a.s.c, .int .i64 a.s.s, .int .i64 a.a.c, .int .i64 a.a.s, .int .i64 a.p, .int .i64 a.g] 82)).alloc (.cells #[.string b.k, .string b.v, .bool b.d, .int .i64 b.s.c, .int .i64 b.s.s, .int .i64 b.a.c, .int .i64 b.a.s, .int .i64 b.p, .int .i64 b.g] 82))) := by
    have B := Blk.new (w.alloc (.cells #[.string a.k, .string a.v, .bool a.d, .int .i64 a.s.c, .int .i64 a.s.s, .int .i64 a.a.c, .int .i64 a.a.s, .int .i64 a.p, .int .i64 a.g] 82)) 82 #[.string b.k, .string b.v, .bool b.d, .int .i64 b.s.c, .int .i64 b.s.s, .int .i64 b.a.c, .int .i64 b.a.s, .int .i64 b.p, .int .i64 b.g]
    rw [World.size_alloc] at B
    exact ⟨(Blk.new w _ _).alloc _, B, (h.alloc _).alloc _, ((Only.refl none_ w).alloc _).alloc _⟩
  have hw : Hid (w64 (w64 z + ((hsh b : Int) - hsh a) % 18446744073709551616) = w64 (z + (hsh b - hsh a))) := by rw [Hid]; exact (w64_add2 _ _).trans (w64_add _ _)
  have hw2 : Hid (w64 (w64 z + IntKind.u64.wrap ((hsh b : Int) - hsh a)) = w64 (z + (hsh b - hsh a))) := by rw [Hid, IntKind.wrap_u64]; exact hw.out
  have HI := Lib.hid hi
  clear h hi
  go_enter Tryz.func177, Tryz.ntmps177
  go_wp2_with fail
  have t2 := T.out.keep (Only.refl none_ _).drew
  (refine wp_region_steady (fun w' => TnI w 82 82 g w.heap.size (w.heap.size + 1) tt cs a b w') 8 (by kernel_rfl) (by kernel_rfl) (t2) ?_; simp only [List.take_succ_cons, List.take_zero, List.drop_succ_cons, List.drop_zero])
  repeat (first
    | (refine sd_value (v := ?_) (by rfl) (fun w0 hS => ?_) ?_; rotate_left; (· (skip; go_simp; try (with_reducible rfl))); try simp only [Act.put, List.setIfInBounds_toArray, List.set_cons_zero, List.set_cons_succ])
    | (refine sd_value (v := ?_) (by rfl) (fun w0 hS => ?_) ?_; rotate_left; (· (have hc := nine_of hS.x; go_simp; try (with_reducible rfl))); try simp only [Act.put, List.setIfInBounds_toArray, List.set_cons_zero, List.set_cons_succ])
    | (refine sd_value (v := ?_) (by rfl) (fun w0 hS => ?_) ?_; rotate_left; (· (have hc := nine_of hS.y; go_simp; try (with_reducible rfl))); try simp only [Act.put, List.setIfInBounds_toArray, List.set_cons_zero, List.set_cons_succ])
    | (refine sd_call (v := ?_) (f := 104) (args := ?_) (by rfl) (fun w0 hS => ?_) (fun w0 hS => ?_) ?_; rotate_left 2; (· (skip; go_simp; try (with_reducible rfl))); (· (refine (sm_hash _ _).mono ?_; rintro E w8 ⟨rfl, o8⟩; refine ⟨?_, hS.keep o8⟩; rfl)); try simp only [Act.put, List.setIfInBounds_toArray, List.set_cons_zero, List.set_cons_succ]))
  refine sd_nil ?_
  intro w5 t5
  have S3 := Lib.hid t5.s
  have O3 := Lib.hid t5.ho
  clear t5 t2
  go_wp2_with (first
    | (go_at_call 205; refine (uadd ⟨g, i, none⟩ _ _ (w64 (z + (hsh b - hsh a))) _ (S3.out.cell_ HI.out) (S3.out.frozen i) (by first | exact hw.out | exact hw2.out)).mono ?_; rintro E w4 ⟨rfl, rfl⟩))
  go_ret
  exact ⟨rfl, _, O3.out, rfl⟩
theorem su_value_in (g i : Nat) (tt : TypeId) (cs : Array Value) (z : Int) (w : World) (h : Blk w g tt cs) (hi : cs[i]? = some (.int .u64 (w64 z))) :
    Calls Tryz.prog 103 #[.pointer (some ⟨g, i, none⟩)] w fun E w' => E = .returned (.int .u64 (w64 z)) ∧ w = w' := by
  have h0 := h.cell_ hi
  clear h hi
  go_enter Tryz.func103, Tryz.ntmps103
  go_wp2_with (go_at_call 162; refine (uload _ _ _ h0).mono ?_; rintro e w' ⟨rfl, rfl⟩)
  go_ret
  exact ⟨rfl, rfl⟩
end Go.Proofs.YtoohpcomnhfgpaaGreat
end
section
namespace Go.Proofs.YtoohpcomnhfgpaaGreat
open Go.RowKit
set_option linter.all false
set_option maxRecDepth 100000
structure Ob (B : World) (g h : Nat) (t u : TypeId) (cs ds : Array Value) (w : World) : Prop where
  x : Blk w g t cs
  y : Blk w h u ds
  ho : Only none_ B w
theorem Ob.keep {B w w' : World} {g h : Nat} {t u : TypeId} {cs ds : Array Value} (b : Ob B g h t u cs ds w) (o : Only none_ w w') : Ob B g h t u cs ds w' := ⟨b.x.only o (fun h => h), b.y.only o (fun h => h), b.ho.trans o⟩
theorem en_mark (e : En) (w : World) :
    Calls Tryz.prog 179 #[.agg #[.string e.k, .string e.v, .bool e.d, .int .i64 e.s.c, .int .i64 e.s.s, .int .i64 e.a.c, .int .i64 e.a.s, .int .i64 e.p, .int .i64 e.g]] w fun E w' => E = .returned (.agg #[.int .i64 e.a.c, .int .i64 e.a.s, .string e.k]) ∧ Only none_ w w' := by
  go_enter Tryz.func179, Tryz.ntmps179
  go_wp2_with fail
  exact bodyPost_ret (v := .agg #[.int .i64 e.a.c, .int .i64 e.a.s, .string e.k]) (by simp [results, Tryz.results179, go_sem]) rfl ⟨rfl, ((Only.refl none_ w).alloc _).alloc _⟩
def enShort (e : En) : Bool := decide (e.k.size ≤ 300) && decide (e.v.size ≤ 300)
theorem rf_short (e : En) (w : World) :
    Calls Tryz.prog 34 #[.agg #[.string e.k, .string e.v, .bool e.d, .int .i64 e.s.c, .int .i64 e.s.s, .int .i64 e.a.c, .int .i64 e.a.s, .int .i64 e.p, .int .i64 e.g]] w fun E w' => E = .returned (.bool (enShort e)) ∧ Only none_ w w' := by
  by_cases h1 : (e.k.size : Int) ≤ 300
  · by_cases h2 : (e.v.size : Int) ≤ 300
    · have H : Hid (enShort e = true) := by simp [Hid, enShort]; omega
      go_enter Tryz.func34, Tryz.ntmps34
      go_wp2
      go_ret
      rw [H.out]
      exact ⟨rfl, (Only.refl none_ w).alloc _⟩
    · have H : Hid (enShort e = false) := by simp [Hid, enShort]; omega
      go_enter Tryz.func34, Tryz.ntmps34
      go_wp2
      go_ret
      rw [H.out]
      exact ⟨rfl, (Only.refl none_ w).alloc _⟩
  · have H : Hid (enShort e = false) := by simp [Hid, enShort]; omega
    go_enter Tryz.func34, Tryz.ntmps34
    go_wp2
    go_ret
    rw [H.out]
    exact ⟨rfl, (Only.refl none_ w).alloc _⟩
end Go.Proofs.YtoohpcomnhfgpaaGreat
end
section
namespace Go.Proofs.YtoohpcomnhfgpaaGreat
open Go.RowKit
set_option linter.all false
set_option maxRecDepth 100000
theorem ob_cells {B w : World} {g h : Nat} {t u : TypeId} {a0 a1 a2 a3 b0 b1 : Value} (b : Ob B g h t u #[a0, a1, a2, a3] #[b0, b1] w) :
    (w.cell? ⟨g, 0, none⟩ = some a0 ∧ w.cell? ⟨g, 1, none⟩ = some a1 ∧ w.cell? ⟨g, 2, none⟩ = some a2 ∧ w.cell? ⟨g, 3, none⟩ = some a3) ∧ w.cell? ⟨h, 0, none⟩ = some b0 ∧ w.cell? ⟨h, 1, none⟩ = some b1 :=
  ⟨⟨b.x.cell_ rfl, b.x.cell_ rfl, b.x.cell_ rfl, b.x.cell_ rfl⟩, b.y.cell_ rfl, b.y.cell_ rfl⟩
set_option maxHeartbeats 3200000 in
theorem en_newer (x y : En) (w : World) :
    Calls Tryz.prog 145 #[.agg #[.string x.k, .string x.v, .bool x.d, .int .i64 x.s.c, .int .i64 x.s.s, .int .i64 x.a.c, .int .i64 x.a.s, .int .i64 x.p, .int .i64 x.g], .agg #[.string y.k, .string y.v, .bool y.d, .int .i64 y.s.c, .int .i64 y.s.s, .int .i64 y.a.c, .int .i64 y.a.s, .int .i64 y.p, .int .i64 y.g]] w fun E w' => E = .returned (.bool (enNewer x y)) ∧ Only none_ w w' := by
  have ix0 := fun w => (run_index_two _ _ _ _ _ (show #[.int .i64 x.s.c, .int .i64 x.s.s, .int .i64 x.a.c, .int .i64 x.a.s] = _ from rfl) w).1
  have ix1 := fun w => (run_index_two _ _ _ _ _ (show #[.int .i64 x.s.c, .int .i64 x.s.s, .int .i64 x.a.c, .int .i64 x.a.s] = _ from rfl) w).2
  have O := Lib.hid (((Only.refl none_ w).alloc (.cells #[.string x.k, .string x.v, .bool x.d, .int .i64 x.s.c, .int .i64 x.s.s, .int .i64 x.a.c, .int .i64 x.a.s, .int .i64 x.p, .int .i64 x.g] 82)).alloc (.cells #[.string y.k, .string y.v, .bool y.d, .int .i64 y.s.c, .int .i64 y.s.s, .int .i64 y.a.c, .int .i64 y.a.s, .int .i64 y.p, .int .i64 y.g] 82))
  have BX := Lib.hid ((Blk.new w 82 #[.string x.k, .string x.v, .bool x.d, .int .i64 x.s.c, .int .i64 x.s.s, .int .i64 x.a.c, .int .i64 x.a.s, .int .i64 x.p, .int .i64 x.g]).alloc (.cells #[.string y.k, .string y.v, .bool y.d, .int .i64 y.s.c, .int .i64 y.s.s, .int .i64 y.a.c, .int .i64 y.a.s, .int .i64 y.p, .int .i64 y.g] 82))
  have HN : Hid (enNewer x y = if (stCmp ⟨x.s.c, x.s.s⟩ ⟨y.s.c, y.s.s⟩ != 0) = true then decide (0 < stCmp ⟨x.s.c, x.s.s⟩ ⟨y.s.c, y.s.s⟩) else if (stCmp ⟨x.a.c, x.a.s⟩ ⟨y.a.c, y.a.s⟩ != 0) = true then decide (0 < stCmp ⟨x.a.c, x.a.s⟩ ⟨y.a.c, y.a.s⟩) else false) := newer_cmp x y
  obtain ⟨r0, h0⟩ : ∃ r, stCmp ⟨x.s.c, x.s.s⟩ ⟨y.s.c, y.s.s⟩ = r := ⟨_, rfl⟩
  obtain ⟨r1, h1⟩ : ∃ r, stCmp ⟨x.a.c, x.a.s⟩ ⟨y.a.c, y.a.s⟩ = r := ⟨_, rfl⟩
  rw [h0, h1] at HN
  have H0 := Lib.hid h0
  have H1 := Lib.hid h1
  clear h0 h1
  have tok : True := trivial
  go_enter Tryz.func145, Tryz.ntmps145
  go_wp2_with (first
    | (go_at_call 191; have _t := tok; refine (en_stamps y _).mono ?_; rintro E w1 ⟨rfl, o1⟩
       have O1 := Lib.hid ((O.out.trans o1).alloc (.cells #[.int .i64 y.s.c, .int .i64 y.s.s, .int .i64 y.a.c, .int .i64 y.a.s] 297))
       have B1 := Lib.hid (Blk.new w1 297 #[.int .i64 y.s.c, .int .i64 y.s.s, .int .i64 y.a.c, .int .i64 y.a.s])
       have q := nine_of ((BX.out.only o1 (fun h => h)).alloc (.cells #[.int .i64 y.s.c, .int .i64 y.s.s, .int .i64 y.a.c, .int .i64 y.a.s] 297))
       clear o1 tok)
    | (go_at_call 191; refine (en_stamps x _).mono ?_; rintro E w2 ⟨rfl, o2⟩
       have O2 := Lib.hid (O1.out.trans o2)
       have B2 := Lib.hid (B1.out.only o2 (fun h => h))
       clear o2))
  refine wp_loop_rounds 3 ?_
  rw [rounds_succ]
  go_wp2_with fail
  (refine wp_region_steady (fun w' => Ob w w1.heap.size w2.heap.size 297 80 #[.int .i64 y.s.c, .int .i64 y.s.s, .int .i64 y.a.c, .int .i64 y.a.s] #[.int .i64 x.s.c, .int .i64 x.s.s] w') 6 (by kernel_rfl) (by kernel_rfl) (⟨(B2.out.alloc _).drew, (Blk.new w2 _ _).drew, (O2.out.alloc _).drew⟩) ?_; simp only [List.take_succ_cons, List.take_zero, List.drop_succ_cons, List.drop_zero])
  repeat (first
    | (refine sd_value (v := ?_) (by rfl) (fun w0 hS => ?_) ?_; rotate_left; (· (have hc := ob_cells hS; go_simp; try (with_reducible rfl))); try simp only [Act.put, List.setIfInBounds_toArray, List.set_cons_zero, List.set_cons_succ])
    | (refine sd_call (v := ?_) (f := 140) (args := ?_) (by rfl) (fun w0 hS => ?_) (fun w0 hS => ?_) ?_; rotate_left 2; (· (have hc := ob_cells hS; go_simp; try (with_reducible rfl))); (· (refine (st_compare _ _ _ _ _).mono ?_; rintro E w9 ⟨rfl, o9⟩; rw [H0.out]; refine ⟨?_, hS.keep o9⟩; rfl)); try simp only [Act.put, List.setIfInBounds_toArray, List.set_cons_zero, List.set_cons_succ]))
  refine sd_nil ?_
  intro w3 t3
  cases hz0 : r0 != 0
  · go_wp2_with fail
    rw [rounds_succ]
    go_wp2_with fail
    (refine wp_region_steady (fun w' => Ob w w1.heap.size w3.heap.size 297 80 #[.int .i64 y.s.c, .int .i64 y.s.s, .int .i64 y.a.c, .int .i64 y.a.s] #[.int .i64 x.a.c, .int .i64 x.a.s] w') 6 (by kernel_rfl) (by kernel_rfl) (⟨(t3.x.alloc _).drew, (Blk.new w3 _ _).drew, (t3.ho.alloc _).drew⟩) ?_; simp only [List.take_succ_cons, List.take_zero, List.drop_succ_cons, List.drop_zero])
    repeat (first
      | (refine sd_value (v := ?_) (by rfl) (fun w0 hS => ?_) ?_; rotate_left; (· (have hc := ob_cells hS; go_simp; try (with_reducible rfl))); try simp only [Act.put, List.setIfInBounds_toArray, List.set_cons_zero, List.set_cons_succ])
      | (refine sd_call (v := ?_) (f := 140) (args := ?_) (by rfl) (fun w0 hS => ?_) (fun w0 hS => ?_) ?_; rotate_left 2; (· (have hc := ob_cells hS; go_simp; try (with_reducible rfl))); (· (refine (st_compare _ _ _ _ _).mono ?_; rintro E w9 ⟨rfl, o9⟩; rw [H1.out]; refine ⟨?_, hS.keep o9⟩; rfl)); try simp only [Act.put, List.setIfInBounds_toArray, List.set_cons_zero, List.set_cons_succ]))
    refine sd_nil ?_
    intro w4 t4
    cases hz1 : r1 != 0
    · go_wp2_with fail
      rw [rounds_succ]
      go_wp2_with fail
      go_ret
      rw [HN.out, hz0, hz1]
      exact ⟨rfl, t4.ho⟩
    · go_wp2_with fail
      go_ret
      rw [HN.out, hz0, hz1]
      exact ⟨rfl, t4.ho⟩
  · go_wp2_with fail
    go_ret
    rw [HN.out, hz0]
    exact ⟨rfl, t3.ho⟩
end Go.Proofs.YtoohpcomnhfgpaaGreat
end
section
namespace Go.Proofs.YtoohpcomnhfgpaaGreat.Se
open Go.RowKit
set_option maxRecDepth 100000
set_option linter.all false
set_option maxHeartbeats 6400000 in
theorem delI (base g m c i : Nat) (cur xs : List Value) (w : World) (h : Rw_ w base g 240 10 c cur) (hx : cur.take ((m + 1) * 10) = xs) (him : i ≤ m) (hmc : m + 1 ≤ c) (hm : m ≤ 4096) (h1x : ∀ u ∈ xs, u.oneCell' = true) :
    Calls Tryz.prog 204 #[.slice (some ⟨g, 0, none⟩) (m + 1) c, .int .i64 i, .int .i64 ((i : Int) + 1)] w fun e w' => e = .returned (.slice (some ⟨g, 0, none⟩) m c) ∧ w'.ownsRow base 240 10 (.slice (some ⟨g, 0, none⟩) m c) m (xs.take (i * 10) ++ xs.drop ((i + 1) * 10)) ∧ Only (one g) w w' := by
  obtain ⟨i0, hi0, hz0, hz1, hz2⟩ := info_parts pairI_info
  have hxl : xs.length = (m + 1) * 10 := by rw [← hx, List.length_take, h.cs]; omega
  have hxd : ∀ u ∈ xs.drop ((i + 1) * 10), u.oneCell' = true := fun u hu => h1x u (List.mem_of_mem_drop hu)
  have hdl : (xs.drop ((i + 1) * 10)).length = (m - i) * 10 := by rw [List.length_drop, hxl]; omega
  have hcl := h.cs
  have hne : ((i : Int) == (i : Int) + 1) = false := by simp; omega
  have hne2 : ¬ ((i : Int) = (i : Int) + 1) := by omega
  obtain ⟨A', hsl0⟩ := sl_three Tryz.underlying241 hi0 (some ⟨g, 0, none⟩) (m + 1) c i (i + 1) (m + 1) (by omega) (by omega) hmc (i : Int) ((i : Int) + 1) ((m : Int) + 1) rfl (by omega) (by omega)
  have hsl1 := sl_hi Tryz.underlying241 hi0 g 0 (m + 1) c i (by omega) (i : Int) rfl
  obtain ⟨W1, hW1⟩ : ∃ W1, W1 = w.drew.setRow g (putAt cur (i * 10) (xs.drop ((i + 1) * 10))).toArray := ⟨_, rfl⟩
  have hlen1 : (putAt cur (i * 10) (xs.drop ((i + 1) * 10))).length = cur.length := putAt_len (by rw [hdl, hcl]; omega)
  have R1 : Hid (Rw_ W1 base g 240 10 c (putAt cur (i * 10) (xs.drop ((i + 1) * 10)))) := by rw [hW1]; exact h.drew.set hlen1
  have O1 : Hid (Only (one g) w W1) := by rw [hW1]; exact ((Only.refl (one g) w).drew).setRow (.inl rfl) _
  have hrest : ∃ q, (∀ w', (Instr.sliceAt 241 (.slice (some ⟨g, 0, none⟩) (m + 1) c) (some (.int .i64 ((i : Int) + 1))) none none).run Tryz.prog w' = .ok (.slice (some ⟨g, q, none⟩) (m - i) (c - (i + 1))) w') ∧
      ∀ ty, (Builtin.append_ #[241, 241] ty #[.slice (some ⟨g, 0, none⟩) i c, .slice (some ⟨g, q, none⟩) (m - i) (c - (i + 1))]).run Tryz.prog w.drew = .ok (.slice (some ⟨g, 0, none⟩) m c) W1 := by
    have hmm : m + 1 - (i + 1) = m - i := by omega
    have him2 : i + (m - i) = m := by omega
    by_cases hic : i + 1 < c
    · have h5 := sl_lo0 Tryz.underlying241 hi0 hz1 g (m + 1) c (i + 1) (by omega) hic ((i : Int) + 1) (by omega)
      rw [hmm] at h5
      refine ⟨_, h5, fun ty => ?_⟩
      have := run_append_room (P := Tryz.prog) w.drew _ ty _ i0 10 Tryz.underlying241 hi0 hz1 base g i c c cur h.drew ⟨g, (i + 1) * 10, none⟩ (m - i) (c - (i + 1)) (xs.drop ((i + 1) * 10)) hdl (by omega) (fun j v hj => by
        have e1 : (⟨g, (i + 1) * 10, none⟩ : Addr).add j = ⟨g, (i + 1) * 10 + j, none⟩ := by unfold Addr.add; split <;> simp_all
        rw [e1, h.drew.cell]
        rw [List.getElem?_drop, ← hx, List.getElem?_take] at hj
        split at hj
        · exact hj
        · cases hj) (by rw [hdl, hcl]; omega) hxd
      rw [him2, ← hW1] at this
      exact this
    · have h5 := sl_lo_end Tryz.underlying241 hi0 g 0 (m + 1) c (i + 1) (by omega) (by omega) ((i : Int) + 1) (by omega)
      rw [hmm] at h5
      refine ⟨_, h5, fun ty => ?_⟩
      have he : xs.drop ((i + 1) * 10) = [] := List.eq_nil_of_length_eq_zero (by rw [hdl]; omega)
      have := run_append_room (P := Tryz.prog) w.drew _ ty _ i0 10 Tryz.underlying241 hi0 hz1 base g i c c cur h.drew ⟨g, 0, none⟩ (m - i) (c - (i + 1)) (xs.drop ((i + 1) * 10)) hdl (by omega) (by rw [he]; intro j v hj; simp at hj) (by rw [hdl, hcl]; omega) hxd
      rw [him2, ← hW1] at this
      exact this
  obtain ⟨q, hsl2, hap⟩ := hrest
  have hsl3 := sl_mid0 Tryz.underlying241 hi0 hz1 g m c m (m + 1) (by omega) hmc (by omega) (m : Int) ((m : Int) + 1) rfl (by omega)
  rw [Nat.add_sub_cancel_left] at hsl3
  obtain ⟨cs, hcs, hclr⟩ := run_clear_row (P := Tryz.prog) W1 241 241 _ i0 _ 10 Tryz.underlying241 hi0 hz0 rfl (by simp [Value.cells, Value.oneCell']) base g (m * 10) 1 (c - m) c _ R1.out (by omega) (by rw [hlen1, hcl]; omega)
  have hclr2 : ∀ ty, (Builtin.clear_ #[241] ty #[.slice (some ⟨g, m * 10, none⟩) 1 (c - m)]).run Tryz.prog W1 = .ok (.tuple #[]) (W1.setRow g (putAt (putAt cur (i * 10) (xs.drop ((i + 1) * 10))) (m * 10) cs).toArray) := fun ty => hclr
  obtain ⟨W2, hW2⟩ : ∃ W2, W2 = W1.setRow g (putAt (putAt cur (i * 10) (xs.drop ((i + 1) * 10))) (m * 10) cs).toArray := ⟨_, rfl⟩
  rw [← hW2] at hclr2
  have F : Hid (W2.ownsRow base 240 10 (.slice (some ⟨g, 0, none⟩) m c) m (xs.take (i * 10) ++ xs.drop ((i + 1) * 10)) ∧ Only (one g) w W2) := by
    constructor
    · rw [hW2]
      refine (R1.out.set (putAt_len (by rw [hlen1, hcs, hcl]; omega))).own m _ (by omega) ?_
      exact del_shift cur xs cs 10 (m + 1) i (m * 10) (by rw [hcl]; omega) hx (by omega) (by simp) (by rw [hcs, hcl]; omega)
    · rw [hW2]; exact O1.out.setRow (.inl rfl) _
  have HAP := Lib.hid hap
  clear hap hclr h hx hxl hxd hdl hcl hlen1 hW1 hW2 hm h1x hcs
  go_enter Tryz.func204, Tryz.ntmps204
  go_wp2_with fail
  go_region_law (first
    | (refine step_append_run2 rfl (.tmp 22) (.tmp 25) _ _ rfl (.slice (some ⟨g, 0, none⟩) i c) (.slice (some ⟨g, q, none⟩) (m - i) (c - (i + 1))) (by simp [Act.eval, Act.put]) (by simp [Act.eval, Act.put]) (HAP.out _) ?_))
  all_goals go_wp2_with fail
  all_goals go_ret
  all_goals exact ⟨rfl, F.out.1, F.out.2⟩
set_option maxHeartbeats 3200000 in
theorem tb_drop (B : World) (g : Nat) (room : Int) (l : List (Pr En)) (v : Value) (x : ByteArray) (w : World) (h : Tb B g room l v w) :
    Calls Tryz.prog 159 #[.pointer (some ⟨g, 0, none⟩), .string x] w fun e w' => e = .returned (.bool (has l x)) ∧ LeftT B g room v w (dropL l x) w' := by
  have hb := tb_place B g room l v x w h
  have hrl := rnk_le l x
  by_cases hs : has l x = true
  · have et : dropL l x = l.take (rnk l x) ++ l.drop (rnk l x + 1) := by rw [dropL, if_pos hs]
    have hris := ris_drop h.rs x
    have hlen := drop_len l x
    rw [et] at hris hlen ⊢
    rw [hs] at hb ⊢
    have hat := (has_at h.rs x).symm
    rw [hs] at hat
    simp only [Bool.and_eq_true, decide_eq_true_eq] at hat
    obtain ⟨hlt, hx1, hx2⟩ := hat
    clear hx1 hx2
    obtain ⟨A, c, rfl⟩ := h.shape
    obtain ⟨r, hr⟩ : ∃ r, rnk l x = r := ⟨_, rfl⟩
    simp only [hr] at hlt hb hris hlen ⊢
    obtain ⟨m, hm⟩ : ∃ m, l.length = m + 1 := ⟨l.length - 1, by omega⟩
    have HD : Hid (∀ w3 : World, Only none_ w w3 → w3.cell? ⟨g, 1, none⟩ = some (.slice A (m + 1) c) ∧ Calls Tryz.prog 204 #[.slice A (m + 1) c, .int .i64 r, .int .i64 ((r : Int) + 1)] w3
        fun e w' => e = .returned (.slice A m c) ∧ w'.cell? ⟨g, 1, none⟩ = some (.slice A (m + 1) c) ∧ w'.frozen? ⟨g, 1, none⟩ = false ∧ LeftT B g room (.slice A (m + 1) c) w (l.take r ++ l.drop (r + 1)) (w'.setCell ⟨g, 1, none⟩ (.slice A m c))) := by
      intro w3 o3
      have h3 := (h.keep o3)
      have hml := h.ml
      rw [hm] at h3 hml
      have own3 := h3.ow
      rw [hm] at own3
      obtain ⟨b, cur, rfl, hrw, hnc, htk⟩ := own_rw own3 (by omega)
      refine ⟨h3.bk.cell_ (i := 1) rfl, ?_⟩
      refine (delI B.heap.size b m c r cur _ w3 hrw htk (by omega) hnc (by omega) (prI_one l)).mono ?_
      rintro e w5 ⟨rfl, own5, o5⟩
      have hgb : g ≠ b := Blk.ne_ h3.bk (show Blk w3 b 240 _ from hrw.bk) (by decide)
      have b5 := h3.bk.only o5 (fun e => hgb e)
      have hnew : (l.take r ++ l.drop (r + 1)).length = m := by simp; omega
      have hflat : (l.take r ++ l.drop (r + 1)).flatMap prI = (l.flatMap prI).take (r * 10) ++ (l.flatMap prI).drop ((r + 1) * 10) := by
        rw [List.flatMap_append, flat_take prI prI_len l r (by omega), flat_drop prI prI_len l (r + 1) (by omega)]
      have o6 : Only (one g) w5 (w5.setCell ⟨g, 1, none⟩ (.slice (some ⟨b, 0, none⟩) m c)) := (Only.refl (one g) w5).setCell (.inl (show one g g from rfl)) _
      have hlr := h3.lr
      refine ⟨rfl, b5.cell_ (i := 1) rfl, b5.frozen 1, .slice (some ⟨b, 0, none⟩) m c, ⟨b5.set_ 1 _, ?_, ?_, h3.ge, hris, by rw [hnew]; omega, h3.rm⟩, ?_, fun k hk => .inl hk⟩
      · rw [hflat, hnew]
        exact owns_only own5 o6 (fun k hk e => hgb (by have e1 : some b = some k := hk; injection e1 with e1; have e2 : k = g := e; omega))
      · exact (h3.ho.trans' o5 (fun k hk e => by have e' : k = b := e; have := hrw.ge; omega)).trans' o6 (fun k hk e => by have e' : k = g := e; have := h3.ge; omega)
      · exact (o3.of_none.trans' o5 (fun k _ e => .inr (by have e' : k = b := e; rw [e']; rfl))).trans' o6 (fun k _ e => .inl e)
    have hw1 : IntKind.i64.wrap ((r : Int) + 1) = (r : Int) + 1 := IntWalk.i64_in _ (by have := h.ml; omega)
    rw [hm]
    have HB := Lib.hid hb
    clear h hb hs et hrl hris hlen hr hlt hm
    go_enter Tryz.func159, Tryz.ntmps159
    go_wp2_with (first
      | (go_at_call 132; refine HB.out.mono ?_; rintro e w1 ⟨rfl, o1⟩
         obtain ⟨k1, hD⟩ := HD.out _ o1
         have HDD := Lib.hid hD
         clear hD o1)
      | (go_at_call 204; refine HDD.out.mono ?_; rintro e w5 ⟨rfl, hk5, hf5, hL⟩
         have HLL := Lib.hid hL
         clear hL))
    go_ret
    exact ⟨rfl, HLL.out⟩
  · have hs' : has l x = false := by simpa using hs
    have et : dropL l x = l := by rw [dropL, if_neg hs]
    rw [et]
    rw [hs'] at hb ⊢
    have H := Lib.hid h
    generalize rnk l x = r at hb
    have HB := Lib.hid hb
    clear h hb hs et hrl hs'
    go_enter Tryz.func159, Tryz.ntmps159
    go_wp2_with (first
      | (go_at_call 132; refine HB.out.mono ?_; rintro e w1 ⟨rfl, o1⟩
         have O1 := Lib.hid o1
         clear o1))
    go_ret
    exact ⟨rfl, LeftT.after0 O1.out (LeftT.same (H.out.keep O1.out))⟩
end Go.Proofs.YtoohpcomnhfgpaaGreat.Se
end
section
namespace Go.Proofs.YtoohpcomnhfgpaaGreat
open Go.RowKit
set_option maxRecDepth 100000
set_option linter.all false
set_option maxHeartbeats 3200000 in
theorem ct_entry (B : World) (a : Ra) (s : Rs) (k : ByteArray) (w : World) (h : Rp B a s w) :
    Calls Tryz.prog 24 #[.pointer (some ⟨a.r, 6, none⟩), .string k] w fun E w' => E = .returned (.tuple #[.agg #[.string ((lookE s.tab k).getD enZero).k, .string ((lookE s.tab k).getD enZero).v, .bool ((lookE s.tab k).getD enZero).d, .int .i64 ((lookE s.tab k).getD enZero).s.c, .int .i64 ((lookE s.tab k).getD enZero).s.s, .int .i64 ((lookE s.tab k).getD enZero).a.c, .int .i64 ((lookE s.tab k).getD enZero).a.s, .int .i64 ((lookE s.tab k).getD enZero).p, .int .i64 ((lookE s.tab k).getD enZero).g], .bool (hasE s.tab k)]) ∧ Only none_ w w' := by
  have O0 := Lib.hid ((Only.refl none_ w).alloc (.cells #[.string ⟨#[]⟩, .string ⟨#[]⟩, .bool false, .int .i64 0, .int .i64 0, .int .i64 0, .int .i64 0, .int .i64 0, .int .i64 0] 82))
  have B0 := Lib.hid (Blk.new w 82 #[.string ⟨#[]⟩, .string ⟨#[]⟩, .bool false, .int .i64 0, .int .i64 0, .int .i64 0, .int .i64 0, .int .i64 0, .int .i64 0])
  have c6 := (h.keep O0.out).bk.cell_ (i := 6) rfl
  have HG := Se.tb_get B a.tb (roRoom s.o) (prs s.tab) a.vt k _ (h.keep O0.out).tb
  obtain ⟨e, he⟩ : ∃ e, (lookE s.tab k).getD enZero = e := ⟨_, rfl⟩
  rw [get_prs h.tb.rs, he, has_prs] at HG
  rw [he]
  generalize hasE s.tab k = hs at HG ⊢
  have HGG := Lib.hid HG
  obtain ⟨ek, vv, d, ⟨sc, ss⟩, ⟨ac, as_⟩, p, g⟩ := e
  dsimp only at HGG ⊢
  clear h HG he
  go_enter Tryz.func24, Tryz.ntmps24
  go_wp2_with (first
    | (go_at_call 76; refine HGG.out.mono ?_; rintro E w1 ⟨rfl, o1⟩
       have O1 := Lib.hid (O0.out.trans o1)
       have B1 : Hid (Blk w1 w.heap.size 82 #[.string ⟨#[]⟩, .string ⟨#[]⟩, .bool false, .int .i64 0, .int .i64 0, .int .i64 0, .int .i64 0, .int .i64 0, .int .i64 0]) := B0.out.only o1 (fun h => h)
       clear o1)
    | (refine wpList_store_row rfl 82 _ _ rfl w.heap.size #[.string (⟨ek, vv, d, ⟨sc, ss⟩, ⟨ac, as_⟩, p, g⟩ : En).k, .string (⟨ek, vv, d, ⟨sc, ss⟩, ⟨ac, as_⟩, p, g⟩ : En).v, .bool (⟨ek, vv, d, ⟨sc, ss⟩, ⟨ac, as_⟩, p, g⟩ : En).d, .int .i64 (⟨ek, vv, d, ⟨sc, ss⟩, ⟨ac, as_⟩, p, g⟩ : En).s.c, .int .i64 (⟨ek, vv, d, ⟨sc, ss⟩, ⟨ac, as_⟩, p, g⟩ : En).s.s, .int .i64 (⟨ek, vv, d, ⟨sc, ss⟩, ⟨ac, as_⟩, p, g⟩ : En).a.c, .int .i64 (⟨ek, vv, d, ⟨sc, ss⟩, ⟨ac, as_⟩, p, g⟩ : En).a.s, .int .i64 (⟨ek, vv, d, ⟨sc, ss⟩, ⟨ac, as_⟩, p, g⟩ : En).p, .int .i64 (⟨ek, vv, d, ⟨sc, ss⟩, ⟨ac, as_⟩, p, g⟩ : En).g] rfl rfl _ _ B1.out (by kernel_rfl) rfl (en_cells_one _) ?_))
  refine bodyPost_ret (results_cell_tmp rfl _ _ w.heap.size 82 #[.string (⟨ek, vv, d, ⟨sc, ss⟩, ⟨ac, as_⟩, p, g⟩ : En).k, .string (⟨ek, vv, d, ⟨sc, ss⟩, ⟨ac, as_⟩, p, g⟩ : En).v, .bool (⟨ek, vv, d, ⟨sc, ss⟩, ⟨ac, as_⟩, p, g⟩ : En).d, .int .i64 (⟨ek, vv, d, ⟨sc, ss⟩, ⟨ac, as_⟩, p, g⟩ : En).s.c, .int .i64 (⟨ek, vv, d, ⟨sc, ss⟩, ⟨ac, as_⟩, p, g⟩ : En).s.s, .int .i64 (⟨ek, vv, d, ⟨sc, ss⟩, ⟨ac, as_⟩, p, g⟩ : En).a.c, .int .i64 (⟨ek, vv, d, ⟨sc, ss⟩, ⟨ac, as_⟩, p, g⟩ : En).a.s, .int .i64 (⟨ek, vv, d, ⟨sc, ss⟩, ⟨ac, as_⟩, p, g⟩ : En).p, .int .i64 (⟨ek, vv, d, ⟨sc, ss⟩, ⟨ac, as_⟩, p, g⟩ : En).g] _ rfl (B1.out.setRow _) Tryz.underlying82 rfl (by kernel_rfl) (.bool hs) rfl) rfl ?_
  exact ⟨rfl, O1.out.setRow (.inr (Nat.le_refl _)) _⟩
theorem full_not (o : Ro) (l : List En) (k : ByteArray) : (!fullM o l k) = (hasE l k || decide ((l.length : Int) < roRoom o)) := by
  unfold fullM
  cases hasE l k with
  | true => rfl
  | false => simp only [Bool.not_false, Bool.true_and, Bool.false_or]; rw [Bool.eq_iff_iff]; simp
set_option maxHeartbeats 1600000 in
theorem tb_room (B : World) (g : Nat) (room : Int) (l : List (Pr En)) (v : Value) (w : World) (h : Se.Tb B g room l v w) :
    Calls Tryz.prog 148 #[.pointer (some ⟨g, 0, none⟩)] w fun e w' => e = .returned (.int .i64 room) ∧ w = w' := by
  have c1 := h.bk.cell_ (i := 0) rfl
  clear h
  go_enter Tryz.func148, Tryz.ntmps148
  go_wp2_with fail
  go_ret
  exact ⟨rfl, rfl⟩
set_option maxHeartbeats 6400000 in
theorem ct_room (B : World) (a : Ra) (s : Rs) (k : ByteArray) (w : World) (h : Rp B a s w) :
    Calls Tryz.prog 88 #[.pointer (some ⟨a.r, 6, none⟩), .string k] w fun E w' => E = .returned (.bool (!fullM s.o s.tab k)) ∧ Only none_ w w' := by
  rw [full_not]
  have HE := Lib.hid (fun (X : World) (o : Only none_ w X) => ct_entry B a s k X (h.keep o))
  have HL := Lib.hid (fun (X : World) (o : Only none_ w X) => Se.tb_len B a.tb (roRoom s.o) (prs s.tab) a.vt X (h.keep o).tb)
  have HR := Lib.hid (fun (X : World) (o : Only none_ w X) => tb_room B a.tb (roRoom s.o) (prs s.tab) a.vt X (h.keep o).tb)
  have HC := Lib.hid (fun (X : World) (o : Only none_ w X) => (h.keep o).bk.cell_ (i := 6) rfl)
  have O0 := Lib.hid (Only.refl none_ w)
  rw [prs_length] at HL
  obtain ⟨e, he⟩ : ∃ e, (lookE s.tab k).getD enZero = e := ⟨_, rfl⟩
  obtain ⟨hs, hhs⟩ : ∃ b, hasE s.tab k = b := ⟨_, rfl⟩
  obtain ⟨n, hn⟩ : ∃ n, s.tab.length = n := ⟨_, rfl⟩
  obtain ⟨rm, hrm⟩ : ∃ n, roRoom s.o = n := ⟨_, rfl⟩
  rw [he, hhs] at HE
  rw [hn] at HL
  rw [hrm] at HR
  rw [hhs, hn, hrm]
  clear h he hhs hn hrm
  cases hs with
  | true =>
    go_enter Tryz.func88, Tryz.ntmps88
    go_wp2_with (first
      | (go_at_call 24; refine (HE.out _ O0.out).mono ?_; rintro E w1 ⟨rfl, o1⟩
         have O1 := Lib.hid (o1.alloc (.cells #[.string e.k, .string e.v, .bool e.d, .int .i64 e.s.c, .int .i64 e.s.s, .int .i64 e.a.c, .int .i64 e.a.s, .int .i64 e.p, .int .i64 e.g] 82)))
      | (with_reducible refine wpl_new rfl rfl 82 rfl _ _ rfl #[.string e.k, .string e.v, .bool e.d, .int .i64 e.s.c, .int .i64 e.s.s, .int .i64 e.a.c, .int .i64 e.a.s, .int .i64 e.p, .int .i64 e.g] rfl rfl (by kernel_rfl) (en_cells_one e) ?_))
    (refine wp_region_steady (fun X => Only none_ w X) 15 (by kernel_rfl) (by kernel_rfl) (O1.out.drew) ?_; simp only [List.take_succ_cons, List.take_zero, List.drop_succ_cons, List.drop_zero])
    repeat (first
      | (refine sd_value (v := ?_) (by rfl) (fun w0 hS => ?_) ?_; rotate_left; (· (have c6 := HC.out _ hS; go_simp; try (with_reducible rfl))); try simp only [Act.put, List.setIfInBounds_toArray, List.set_cons_zero, List.set_cons_succ])
      | (refine sd_skip (by rfl) ?_; try simp only [Act.put, List.setIfInBounds_toArray, List.set_cons_zero, List.set_cons_succ]))
    refine sd_nil ?_
    intro w5 t5
    have T5 := Lib.hid t5
    clear t5
    go_wp2_with fail
    go_ret
    exact ⟨rfl, T5.out⟩
  | false =>
    go_enter Tryz.func88, Tryz.ntmps88
    go_wp2_with (first
      | (go_at_call 24; refine (HE.out _ O0.out).mono ?_; rintro E w1 ⟨rfl, o1⟩
         have O1 := Lib.hid (o1.alloc (.cells #[.string e.k, .string e.v, .bool e.d, .int .i64 e.s.c, .int .i64 e.s.s, .int .i64 e.a.c, .int .i64 e.a.s, .int .i64 e.p, .int .i64 e.g] 82)))
      | (with_reducible refine wpl_new rfl rfl 82 rfl _ _ rfl #[.string e.k, .string e.v, .bool e.d, .int .i64 e.s.c, .int .i64 e.s.s, .int .i64 e.a.c, .int .i64 e.a.s, .int .i64 e.p, .int .i64 e.g] rfl rfl (by kernel_rfl) (en_cells_one e) ?_))
    (refine wp_region_steady (fun X => Only none_ w X) 15 (by kernel_rfl) (by kernel_rfl) (O1.out.drew) ?_; simp only [List.take_succ_cons, List.take_zero, List.drop_succ_cons, List.drop_zero])
    repeat (first
      | (refine sd_value (v := ?_) (by rfl) (fun w0 hS => ?_) ?_; rotate_left; (· (have c6 := HC.out _ hS; go_simp; try (with_reducible rfl))); try simp only [Act.put, List.setIfInBounds_toArray, List.set_cons_zero, List.set_cons_succ])
      | (refine sd_call (v := ?_) (f := 147) (args := ?_) (by rfl) (fun w0 hS => ?_) (fun w0 hS => ?_) ?_; rotate_left 2; (· (have c6 := HC.out _ hS; go_simp; try (with_reducible rfl))); (· (refine (HL.out _ hS).mono ?_; rintro E w9 ⟨rfl, rfl⟩; refine ⟨?_, hS⟩; rfl)); try simp only [Act.put, List.setIfInBounds_toArray, List.set_cons_zero, List.set_cons_succ])
      | (refine sd_call (v := ?_) (f := 148) (args := ?_) (by rfl) (fun w0 hS => ?_) (fun w0 hS => ?_) ?_; rotate_left 2; (· (have c6 := HC.out _ hS; go_simp; try (with_reducible rfl))); (· (refine (HR.out _ hS).mono ?_; rintro E w9 ⟨rfl, rfl⟩; refine ⟨?_, hS⟩; rfl)); try simp only [Act.put, List.setIfInBounds_toArray, List.set_cons_zero, List.set_cons_succ])
      | (refine sd_skip (by rfl) ?_; try simp only [Act.put, List.setIfInBounds_toArray, List.set_cons_zero, List.set_cons_succ]))
    refine sd_nil ?_
    intro w5 t5
    have T5 := Lib.hid t5
    clear t5
    go_wp2_with fail
    go_ret
    exact ⟨rfl, T5.out⟩
theorem news_has (l : List En) (e : En) : newsM l e = (!hasE l e.k || enNewer e ((lookE l e.k).getD enZero)) := by
  unfold newsM
  rw [hasE_look]
  cases lookE l e.k <;> rfl
set_option maxHeartbeats 6400000 in
theorem ct_news (B : World) (a : Ra) (s : Rs) (x : En) (w : World) (h : Rp B a s w) :
    Calls Tryz.prog 85 #[.pointer (some ⟨a.r, 6, none⟩), .agg #[.string x.k, .string x.v, .bool x.d, .int .i64 x.s.c, .int .i64 x.s.s, .int .i64 x.a.c, .int .i64 x.a.s, .int .i64 x.p, .int .i64 x.g]] w fun E w' => E = .returned (.bool (newsM s.tab x)) ∧ Only none_ w w' := by
  rw [news_has]
  have B0 := Lib.hid (Blk.new w 82 #[.string x.k, .string x.v, .bool x.d, .int .i64 x.s.c, .int .i64 x.s.s, .int .i64 x.a.c, .int .i64 x.a.s, .int .i64 x.p, .int .i64 x.g])
  have O0 := Lib.hid ((Only.refl none_ w).alloc (.cells #[.string x.k, .string x.v, .bool x.d, .int .i64 x.s.c, .int .i64 x.s.s, .int .i64 x.a.c, .int .i64 x.a.s, .int .i64 x.p, .int .i64 x.g] 82))
  have HE := Lib.hid (fun (X : World) (o : Only none_ w X) => ct_entry B a s x.k X (h.keep o))
  have HN := Lib.hid (fun (y : En) (X : World) => en_newer x y X)
  obtain ⟨e, he⟩ : ∃ e, (lookE s.tab x.k).getD enZero = e := ⟨_, rfl⟩
  obtain ⟨hs, hhs⟩ : ∃ b, hasE s.tab x.k = b := ⟨_, rfl⟩
  rw [he, hhs] at HE
  rw [hhs, he]
  clear h he hhs
  have t0 := B0.out.cell_ (i := 0) rfl
  cases hs with
  | false =>
    go_enter Tryz.func85, Tryz.ntmps85
    go_wp2_with (first
      | (go_at_call 24; refine (HE.out _ O0.out).mono ?_; rintro E w1 ⟨rfl, o1⟩
         have O1 := Lib.hid ((O0.out.trans o1).alloc (.cells #[.string e.k, .string e.v, .bool e.d, .int .i64 e.s.c, .int .i64 e.s.s, .int .i64 e.a.c, .int .i64 e.a.s, .int .i64 e.p, .int .i64 e.g] 82)))
      | (with_reducible refine wpl_new rfl rfl 82 rfl _ _ rfl #[.string e.k, .string e.v, .bool e.d, .int .i64 e.s.c, .int .i64 e.s.s, .int .i64 e.a.c, .int .i64 e.a.s, .int .i64 e.p, .int .i64 e.g] rfl rfl (by kernel_rfl) (en_cells_one e) ?_))
    go_ret
    exact ⟨rfl, O1.out⟩
  | true =>
    go_enter Tryz.func85, Tryz.ntmps85
    go_wp2_with (first
      | (go_at_call 24; refine (HE.out _ O0.out).mono ?_; rintro E w1 ⟨rfl, o1⟩
         have O1 := Lib.hid ((O0.out.trans o1).alloc (.cells #[.string e.k, .string e.v, .bool e.d, .int .i64 e.s.c, .int .i64 e.s.s, .int .i64 e.a.c, .int .i64 e.a.s, .int .i64 e.p, .int .i64 e.g] 82))
         have B1 := Lib.hid ((B0.out.only o1 (fun h => h)).alloc (.cells #[.string e.k, .string e.v, .bool e.d, .int .i64 e.s.c, .int .i64 e.s.s, .int .i64 e.a.c, .int .i64 e.a.s, .int .i64 e.p, .int .i64 e.g] 82))
         have q1 := nine_of B1.out
         have B2 := Lib.hid (Blk.new w1 82 #[.string e.k, .string e.v, .bool e.d, .int .i64 e.s.c, .int .i64 e.s.s, .int .i64 e.a.c, .int .i64 e.a.s, .int .i64 e.p, .int .i64 e.g])
         have q2 := nine_of B2.out)
      | (with_reducible refine wpl_new rfl rfl 82 rfl _ _ rfl #[.string e.k, .string e.v, .bool e.d, .int .i64 e.s.c, .int .i64 e.s.s, .int .i64 e.a.c, .int .i64 e.a.s, .int .i64 e.p, .int .i64 e.g] rfl rfl (by kernel_rfl) (en_cells_one e) ?_)
      | (go_at_call 145; refine (HN.out e _).mono ?_; rintro E w2 ⟨rfl, o2⟩
         have O2 := Lib.hid (O1.out.trans o2)
         clear o2))
    go_ret
    exact ⟨rfl, O2.out⟩
end Go.Proofs.YtoohpcomnhfgpaaGreat
end
section
namespace Go.Proofs.YtoohpcomnhfgpaaGreat
open Go.RowKit
set_option maxRecDepth 100000
set_option linter.all false
theorem step_call {P : Program} {ops : Array Oper} {o : Oper} {a : Act} {w : World} {K : Act → World → Prop} {Q : Exit → Act → World → Prop} {E : Prop} (hwd : Region.wanted o (yielded ops a.tmps) = true) (f : FuncId) (args : Array Value)
    (hrun : (execOp a.eval o).run P w = .ok (.enter f args) w) (h : Calls P f args w fun e w' => ∃ v, e = .returned v ∧ K (a.put o.dst v) w') :
    if Region.wanted o (yielded ops a.tmps) = true then Oper.wp P o a w K Q else E := by
  rw [if_pos hwd]
  unfold Oper.wp
  rw [hrun]
  exact h.mono fun e w'' ⟨v, he, hk⟩ => by subst he; exact hk
theorem insW (base : Nat) (A : Option Addr) (n c i vb : Nat) (xs ys : List Value) (w : World) (h : w.ownsRow base 99 3 (.slice A n c) n xs) (hi : i ≤ n) (hn : n ≤ 4096) (hb : base ≤ w.heap.size)
    (hv : Blk w vb 99 ys.toArray) (hne : (Value.slice A n c).ownBlock ≠ some vb) (hy : ys.length = 3) (h1x : ∀ u ∈ xs, u.oneCell' = true) (h1y : ∀ u ∈ ys, u.oneCell' = true) :
    Calls Tryz.prog 223 #[.slice A n c, .int .i64 i, .slice (some ⟨vb, 0, none⟩) 1 1] w fun e w' => ∃ v', e = .returned v' ∧ w'.ownsRow base 99 3 v' (n + 1) (xs.take (i * 3) ++ ys ++ xs.drop (i * 3)) ∧ Only (ownb (.slice A n c)) w w' ∧ Moved w (.slice A n c) v' := by
  have hxl : xs.length = n * 3 := h.1
  by_cases hin : i = n
  · subst hin
    refine (insM_end base A i c vb xs ys w h hn hb hv hy h1y).mono ?_
    rintro e w' ⟨v', rfl, h1, h2, h3⟩
    refine ⟨v', rfl, ?_, h2, h3⟩
    rw [List.take_of_length_le (by omega), List.drop_of_length_le (by omega), List.append_nil]
    exact h1
  · obtain ⟨g, cur, rfl, hr, hnc, hx⟩ := own_rw h (by omega)
    have hvg : vb ≠ g := fun e => hne (by rw [e]; rfl)
    refine (insM_mid base g n c i vb cur xs ys w hr hx (by omega) hnc hn hb hv hvg hy h1x h1y).mono ?_
    rintro e w' ⟨v', rfl, h1, h2, h3⟩
    refine ⟨v', rfl, h1, h2.mono (fun k _ e => by have e' : k = g := e; rw [e']; rfl), fun k hk => (h3 k hk).imp (fun e => by rw [e]; rfl) id⟩
theorem ins_step (N g mb : Nat) (l : List Mk) (A : Option Addr) (c : Nat) (m : Mk) (w4 w' : World) (vb : Nat) (h4 : Rc N g mb l (m :: l) (.slice A l.length c) w4) (hno : ∀ y ∈ l, y.k ≠ m.k) (hl : l.length + 1 ≤ 100)
    (o : Only none_ w4 w') (hv : Blk w' vb 99 #[.int .i64 m.a.c, .int .i64 m.a.s, .string m.k]) (hvb : w4.heap.size ≤ vb) :
    Calls Tryz.prog 223 #[.slice A l.length c, .int .i64 (bh l m), .slice (some ⟨vb, 0, none⟩) 1 1] w'
      fun e w'' => ∃ A' n' c', e = .returned (.slice A' n' c') ∧ w''.cell? ⟨g, 1, none⟩ = some (.slice A l.length c) ∧ w''.frozen? ⟨g, 1, none⟩ = false ∧ Only (ownb (.slice A l.length c)) w4 w'' ∧
        Rc N g mb (insM m l) (insM m l) (.slice A' n' c') (w''.setCell ⟨g, 1, none⟩ (.slice A' n' c')) ∧ Only (Ft g mb (.slice A l.length c)) w4 (w''.setCell ⟨g, 1, none⟩ (.slice A' n' c')) ∧ Moved w4 (.slice A l.length c) (.slice A' n' c') := by
  have h5 := h4.keep o
  have hbl := bh_le l m
  have hne : (Value.slice A l.length c).ownBlock ≠ some vb := fun e => by have := (h4.ow.lt _ e).2; omega
  refine (insW N A l.length c (bh l m) vb _ [.int .i64 m.a.c, .int .i64 m.a.s, .string m.k] w' h5.ow hbl (by have := h4.ml; omega) (by have := h5.gn; have := h5.bk.lt; omega) hv hne rfl (mkI_one l) (by simp [Value.oneCell'])).mono ?_
  rintro e w5 ⟨v5, rfl, own5, o5, m5⟩
  obtain ⟨A5, n5, c5, rfl⟩ := own_shape own5
  have b5 := h5.bk.only o5 (fun e => own_blk_ne h5.ow h5.bk (by decide) e)
  have hmo : ¬ ownb (.slice A l.length c) mb := fun e => by
    obtain ⟨es, clock, hb, _⟩ := h5.mp
    rcases h5.ow.2 with ⟨h2, _⟩ | ⟨b, cap, cur, h2, _, hh, _⟩
    · injection h2 with h2; rw [h2] at e; cases e
    · injection h2 with h2; rw [h2] at e; have e' : some b = some mb := e; injection e' with e'
      rw [e', hb] at hh; cases hh
  have hnew : (insM m l).length = l.length + 1 := ins_len m l
  have hflat : (insM m l).flatMap mkI = (l.flatMap mkI).take (bh l m * 3) ++ [.int .i64 m.a.c, .int .i64 m.a.s, .string m.k] ++ (l.flatMap mkI).drop (bh l m * 3) := by
    rw [ins_at h4.ix.ds, List.flatMap_append, List.flatMap_cons, flat_take mkI mkI_len l _ hbl, flat_drop mkI mkI_len l _ hbl, List.append_assoc]
    rfl
  have o6 : Only (one g) w5 (w5.setCell ⟨g, 1, none⟩ (.slice A5 n5 c5)) := (Only.refl (one g) w5).setCell (.inl (show one g g from rfl)) _
  have hvg : (Value.slice A5 n5 c5).ownBlock ≠ some g := own_blk_ne own5 b5 (by decide)
  have hmg : mb ≠ g := h5.mp.ne_blk h5.bk
  have hpm : (m :: l).Perm (insM m l) := by
    rw [ins_at h4.ix.ds]
    refine List.Perm.trans ?_ List.perm_middle.symm
    rw [List.take_append_drop]
  refine ⟨A5, n5, c5, rfl, b5.cell_ (i := 1) rfl, b5.frozen 1, o.of_none.trans' o5 (fun k _ e => e), ⟨b5.set_ 1 _, ?_, ((h5.mp.only o5 hmo).only o6 (fun e => hmg e)).perm hpm, h4.gn, h4.mn, h4.ix.ins m hno, by rw [hnew]; exact hl⟩, ?_, ?_⟩
  · rw [hflat, hnew]
    exact owns_only own5 o6 (fun k hk e => hvg (by rw [hk, show k = g from e]))
  · exact (o.of_none.trans' o5 (fun k _ e => .inr (.inr e))).trans' o6 (fun k _ e => .inl e)
  · exact fun k hk => (m5 k hk).imp id (fun h => by have := o.size; omega)
set_option maxHeartbeats 12800000 in
theorem rc_put (N g mb : Nat) (l : List Mk) (v : Value) (m : Mk) (w : World) (h : Rc N g mb l l v w) (hk : m.k.size ≤ maxLen) (hl : l.length + 1 ≤ 100) :
    Calls Tryz.prog 178 #[.pointer (some ⟨g, 0, none⟩), .agg #[.int .i64 m.a.c, .int .i64 m.a.s, .string m.k]] w fun e w' => e = .returned (.bool (hasM l m.k)) ∧ LeftR N g mb v w (putM l m) w' := by
  have o0 : Only none_ w (w.alloc (.cells #[.int .i64 m.a.c, .int .i64 m.a.s, .string m.k] 99)) := (Only.refl none_ w).alloc _
  have B0 := Blk.new w 99 #[.int .i64 m.a.c, .int .i64 m.a.s, .string m.k]
  have HD := Lib.hid (rc_drop N g mb l v m.k _ (h.keep o0) hk)
  have hno := drop_gone l m.k
  have hdl := mdrop_len l m.k
  obtain ⟨b0, hb0⟩ : ∃ b0, w.heap.size = b0 := ⟨_, rfl⟩
  have b00 := B0.cell_ (i := 2) rfl
  unfold putM
  obtain ⟨l1, hl1⟩ : ∃ l1, dropM l m.k = l1 := ⟨_, rfl⟩
  rw [hl1] at HD hno hdl ⊢
  -- behind the drop, and the store into the map
  have HW : Hid (∀ (v1 : Value) (w1 : World), Rc N g mb l1 l1 v1 w1 → Only (Ft g mb v) (w.alloc (.cells #[.int .i64 m.a.c, .int .i64 m.a.s, .string m.k] 99)) w1 →
      Blk w1 b0 99 #[.int .i64 m.a.c, .int .i64 m.a.s, .string m.k] ∧ w1.cell? ⟨g, 0, none⟩ = some (.map (some mb))) := fun v1 w1 h1 o1 => by
    refine ⟨?_, h1.bk.cell_ (i := 0) rfl⟩
    rw [hb0] at B0
    exact B0.only o1 (fun e => by have := (h.foot e).2; omega)
  have HU : Hid (∀ (v1 : Value) (w1 w3 : World), Rc N g mb l1 l1 v1 w1 → Only none_ w1 w3 → ∃ w4, (Instr.mapUpdate 279 (.map (some mb)) (.string m.k) (.agg #[.int .i64 m.a.c, .int .i64 m.a.s])).run Tryz.prog w3 = .ok () w4 ∧ Rc N g mb l1 (m :: l1) v1 w4 ∧ Only (one mb) w3 w4) := fun v1 w1 w3 h1 o3 => by
    have h3 := h1.keep o3
    obtain ⟨w4, hr, hmp, o4⟩ := mp_put (P := Tryz.prog) Tryz.underlying9 Tryz.underlying279 h3.mp m hk hno
    refine ⟨w4, hr, ⟨h3.bk.only o4 (fun e => h3.mp.ne_blk h3.bk (show mb = g from (show g = mb from e).symm)), owns_only h3.ow o4 (fun k hk e => ?_), hmp, h3.gn, h3.mn, h3.ix, h3.ml⟩, o4⟩
    have e' : k = mb := e
    obtain ⟨es, clock, hb, _⟩ := h3.mp
    rcases h3.ow.2 with ⟨h2, _⟩ | ⟨b, cap, cur, h2, _, hh, _⟩
    · rw [h2] at hk; cases hk
    · rw [h2] at hk; have hk' : some b = some k := hk; injection hk' with hk'
      rw [hk', e', hb] at hh; cases hh
  have HB : Hid (∀ (v1 : Value) (w4 w5 : World), Rc N g mb l1 (m :: l1) v1 w4 → Only none_ w4 w5 → Calls Tryz.prog 137 #[.pointer (some ⟨g, 0, none⟩), .agg #[.int .i64 m.a.c, .int .i64 m.a.s, .string m.k]] w5 fun e w' => e = .returned (.int .i64 (bh l1 m)) ∧ Only none_ w5 w') := fun v1 w4 w5 h4 o5 => rc_behind N g mb l1 (m :: l1) v1 m w5 (h4.keep o5)
  have HI := Lib.hid (fun (A : Option Addr) (c : Nat) (w4 w' : World) (vb : Nat) (h4 : Rc N g mb l1 (m :: l1) (.slice A l1.length c) w4) => ins_step N g mb l1 A c m w4 w' vb h4 hno (by omega))
  obtain ⟨l2, hl2⟩ : ∃ l2, insM m l1 = l2 := ⟨_, rfl⟩
  obtain ⟨n, hn⟩ : ∃ n, l1.length = n := ⟨_, rfl⟩
  have HN := Lib.hid hn
  rw [hn] at HI
  obtain ⟨r, hr⟩ : ∃ r, bh l1 m = r := ⟨_, rfl⟩
  rw [hl2] at HI ⊢
  rw [hr] at HB HI
  have HF : Hid (∀ (v1 : Value) (w1 w3 w4 w7 : World) (v7 : Value), Only (Ft g mb v) (w.alloc (.cells #[.int .i64 m.a.c, .int .i64 m.a.s, .string m.k] 99)) w1 → Moved (w.alloc (.cells #[.int .i64 m.a.c, .int .i64 m.a.s, .string m.k] 99)) v v1 → Only none_ w1 w3 → Only (one mb) w3 w4 → Only (Ft g mb v1) w4 w7 → Moved w4 v1 v7 → Only (Ft g mb v) w w7 ∧ Moved w v v7) :=
    fun v1 w1 w3 w4 w7 v7 o1 m1 o3 o4 o7 m7 => by
      have s1 := o1.size
      have s0 := o0.size
      have o14 := ((o0.of_none.trans o1).trans' o3 (fun k _ h => h.elim)).trans' o4 (fun k _ e => .inr (.inl e))
      refine ⟨o14.trans' o7 (fun k hk hf => mv_foot m1 k (by omega) hf), fun k hk => ?_⟩
      rcases m7 k hk with h7 | h7
      · rcases m1 k h7 with h1 | h1
        · exact .inl h1
        · exact .inr (by omega)
      · exact .inr (by have := o14.size; omega)
  obtain ⟨hh, hhh⟩ : ∃ hh, hasM l m.k = hh := ⟨_, rfl⟩
  rw [hhh] at HD ⊢
  obtain ⟨⟨mc, ms⟩, k⟩ := m
  simp only [] at HD HW HU HB HI HF b00 ⊢
  have HB0 := Lib.hid hb0
  clear h hk hl o0 B0 hno hdl hl1 hl2 hr hhh hb0 hn
  go_enter Tryz.func178, Tryz.ntmps178
  go_wp2_with (first
    | (go_at_call 161; refine HD.out.mono ?_; rintro E w1 ⟨rfl, v1, h1, o1, m1⟩
       have W1 := HW.out v1 w1 h1 o1
       have BX := Lib.hid W1.1
       have G0 := Lib.hid W1.2
       have R1 := Lib.hid h1
       have OM1 := Lib.hid (And.intro o1 m1)
       clear W1 h1 o1 m1))
  rw [HB0.out]
  (refine wp_region_steady (fun w' => Only none_ w1 w') 8 (by kernel_rfl) (by kernel_rfl) ((Only.refl none_ w1).drew) ?_; simp only [List.take_succ_cons, List.take_zero, List.drop_succ_cons, List.drop_zero])
  repeat (first
    | (refine sd_value (v := ?_) (by rfl) (fun w0 hS => ?_) ?_; rotate_left; (· (have hc := ((R1.out.keep hS).bk.cell_ (i := 0) rfl); have hx0 := ((BX.out.only hS (fun h => h)).cell_ (i := 0) rfl); have hx1 := ((BX.out.only hS (fun h => h)).cell_ (i := 1) rfl); have hx2 := ((BX.out.only hS (fun h => h)).cell_ (i := 2) rfl); go_simp; try (with_reducible rfl))); try simp only [Act.put, List.setIfInBounds_toArray, List.set_cons_zero, List.set_cons_succ]))
  refine sd_nil ?_
  intro w3 t3
  obtain ⟨w4, hup, r4, o4⟩ := HU.out v1 w1 w3 R1.out t3
  have O3 := Lib.hid (And.intro t3 o4)
  have R4 := Lib.hid r4
  have hmbl : mb < w1.heap.size := R1.out.mp.lt
  have BX4 : Hid (Blk w4 b0 99 #[.int .i64 mc, .int .i64 ms, .string k]) := (BX.out.only t3 (fun h => h)).only o4 (fun e => R1.out.mp.ne_blk BX.out (show mb = b0 from (show b0 = mb from e).symm))
  clear t3 r4 o4 hmbl
  go_wp2_with (first
    | (at_mapUpdate; refine wpList_upd _ rfl _ _ _ 279 rfl _ _ _ rfl rfl rfl hup ?_))
  obtain ⟨A, c, hv1⟩ := R4.out.shape
  rw [HN.out] at hv1
  subst hv1
  have X4 : Hid (Blk (w4.alloc (.cells #[.int .i64 mc, .int .i64 ms, .string k] 99)).drew w4.heap.size 99 #[.int .i64 mc, .int .i64 ms, .string k]) := Blk.new w4 _ _
  have p1 : w4.drew.cell? ⟨g, 1, none⟩ = some (.slice A n c) := R4.out.bk.cell_ (i := 1) rfl
  have p2 : w4.drew.cell? ⟨b0, 0, none⟩ = some (.int .i64 mc) := BX4.out.cell_ (i := 0) rfl
  have p3 : w4.drew.cell? ⟨b0, 1, none⟩ = some (.int .i64 ms) := BX4.out.cell_ (i := 1) rfl
  have p4 : w4.drew.cell? ⟨b0, 2, none⟩ = some (.string k) := BX4.out.cell_ (i := 2) rfl
  have q1 : (w4.alloc (.cells #[.int .i64 mc, .int .i64 ms, .string k] 99)).drew.cell? ⟨g, 1, none⟩ = some (.slice A n c) := (R4.out.bk.alloc _).cell_ (i := 1) rfl
  have q2 : (w4.alloc (.cells #[.int .i64 mc, .int .i64 ms, .string k] 99)).drew.cell? ⟨b0, 0, none⟩ = some (.int .i64 mc) := (BX4.out.alloc _).cell_ (i := 0) rfl
  have q3 : (w4.alloc (.cells #[.int .i64 mc, .int .i64 ms, .string k] 99)).drew.cell? ⟨b0, 1, none⟩ = some (.int .i64 ms) := (BX4.out.alloc _).cell_ (i := 1) rfl
  have q4 : (w4.alloc (.cells #[.int .i64 mc, .int .i64 ms, .string k] 99)).drew.cell? ⟨b0, 2, none⟩ = some (.string k) := (BX4.out.alloc _).cell_ (i := 2) rfl
  go_region_law (first
    | (refine step_call (by simp [Region.wanted]) 137 #[.pointer (some ⟨g, 0, none⟩), .agg #[.int .i64 mc, .int .i64 ms, .string k]] (by go_simp; try (with_reducible rfl)) ?_
       refine (HB.out _ w4 _ R4.out (by first | exact (Only.refl none_ w4).drew | exact ((Only.refl none_ w4).alloc _).drew)).mono ?_
       rintro E w5 ⟨rfl, o5⟩
       refine ⟨_, rfl, ?_⟩
       have O5 : Hid (Only none_ w4 w5) := by first | exact ((Only.refl none_ w4).drew).trans o5 | exact (((Only.refl none_ w4).alloc _).drew).trans o5
       try have X5 := Lib.hid (X4.out.only o5 (fun h => h))
       have r1 := (R4.out.keep O5.out).bk.cell_ (i := 1) rfl
       have r2 := (BX4.out.only O5.out (fun h => h)).cell_ (i := 0) rfl
       have r3 := (BX4.out.only O5.out (fun h => h)).cell_ (i := 1) rfl
       have r4 := (BX4.out.only O5.out (fun h => h)).cell_ (i := 2) rfl
       have s1 := ((R4.out.keep O5.out).bk.alloc (.cells #[.int .i64 mc, .int .i64 ms, .string k] 99)).cell_ (i := 1) rfl
       have s2 := ((BX4.out.only O5.out (fun h => h)).alloc (.cells #[.int .i64 mc, .int .i64 ms, .string k] 99)).cell_ (i := 0) rfl
       have s3 := ((BX4.out.only O5.out (fun h => h)).alloc (.cells #[.int .i64 mc, .int .i64 ms, .string k] 99)).cell_ (i := 1) rfl
       have s4 := ((BX4.out.only O5.out (fun h => h)).alloc (.cells #[.int .i64 mc, .int .i64 ms, .string k] 99)).cell_ (i := 2) rfl
       clear o5)
    | (refine step_call (by simp [Region.wanted]) 223 #[.slice A n c, .int .i64 r, .slice (some ⟨w5.heap.size, 0, none⟩) 1 1] (by go_simp; try (with_reducible rfl)) ?_
       refine (HI.out A c w4 _ w5.heap.size R4.out (O5.out.alloc _) (Blk.new w5 _ _) O5.out.size).mono ?_
       rintro E w6 ⟨A6, n6, c6, rfl, hk6, hf6, o6, r6, oo6, m6⟩
       refine ⟨_, rfl, ?_⟩
       have F6 := Lib.hid (And.intro r6 (And.intro oo6 m6))
       clear o6 r6 oo6 m6)
    | (refine step_call (by simp [Region.wanted]) 223 #[.slice A n c, .int .i64 r, .slice (some ⟨w4.heap.size, 0, none⟩) 1 1] (by go_simp; try (with_reducible rfl)) ?_
       refine (HI.out A c w4 _ w4.heap.size R4.out O5.out X5.out (Nat.le_refl _)).mono ?_
       rintro E w6 ⟨A6, n6, c6, rfl, hk6, hf6, o6, r6, oo6, m6⟩
       refine ⟨_, rfl, ?_⟩
       have F6 := Lib.hid (And.intro r6 (And.intro oo6 m6))
       clear o6 r6 oo6 m6))
  all_goals go_wp2_with fail
  all_goals go_ret
  all_goals exact ⟨rfl, _, F6.out.1, HF.out _ w1 w3 w4 _ _ OM1.out.1 OM1.out.2 O3.out.1 O3.out.2 F6.out.2.1 F6.out.2.2⟩
end Go.Proofs.YtoohpcomnhfgpaaGreat
end
section
namespace Go.Proofs.YtoohpcomnhfgpaaGreat
open Go.RowKit
set_option maxRecDepth 100000
set_option linter.all false
structure Cy (B : World) (a0 : Ra) (w0 : World) (a : Ra) (s : Rs) (w : World) : Prop where
  r : Rp B a s w
  o : Only (allF a0) w0 w
  f : ∀ k, allF a k → allF a0 k ∨ w0.heap.size ≤ k
  e : a.r = a0.r
  d : a.dg = a0.dg
  z : B.heap.size ≤ w0.heap.size
structure Bn (a : Ra) (n : Nat) (t : TypeId) (cs : Array Value) (w : World) : Prop where
  b : Blk w n t cs
  n : ¬ allF a n
section
variable {B w w' w0 : World} {a a0 : Ra} {s s' : Rs} {n : Nat} {t : TypeId} {cs : Array Value}
theorem Cy.begin (h : Rp B a s w) : Cy B a w a s w := ⟨h, Only.refl _ _, fun _ h => .inl h, rfl, rfl, h.ho.size⟩
theorem Cy.keep (h : Cy B a0 w0 a s w) (o : Only none_ w w') : Cy B a0 w0 a s w' := ⟨h.r.keep o, h.o.trans' o (fun _ _ h => h.elim), h.f, h.e, h.d, h.z⟩
theorem Cy.step (h : Cy B a0 w0 a s w) (L : LeftP B a w s' w') : ∃ a', Cy B a0 w0 a' s' w' ∧ a'.r = a.r ∧ ∀ n t cs, Bn a n t cs w → Bn a' n t cs w' := by
  obtain ⟨a', r, o, f, e, d⟩ := L
  refine ⟨a', ⟨r, h.o.trans' o (fun k hk hf => ?_), fun k hk => ?_, e.trans h.e, d.trans h.d, h.z⟩, e, fun n t cs b => ⟨b.b.only o b.n, fun hf => ?_⟩⟩
  · rcases h.f k hf with h1 | h1
    · exact h1
    · omega
  · rcases f k hk with h1 | h1
    · exact h.f k h1
    · exact .inr (Nat.le_trans h.o.size h1)
  · rcases f n hf with h1 | h1
    · exact b.n h1
    · have := b.b.lt; omega
theorem Cy.left (h : Cy B a0 w0 a s w) : LeftP B a0 w0 s w := ⟨a, h.r, h.o, h.f, h.e, h.d⟩
theorem Cy.box (h : Cy B a0 w0 a s w) (b : Bn a n t cs w) (hn : w0.heap.size ≤ n) (o : Only (one n) w w') : Cy B a0 w0 a s w' :=
  ⟨h.r.apart o (fun k hk e => b.n (by rw [← (show k = n from e)]; exact hk)) (fun k e => by have e' : k = n := e; have := h.z; omega), h.o.trans' o (fun k hk e => by have e' : k = n := e; omega), h.f, h.e, h.d, h.z⟩
theorem Bn.box {m : Nat} (b : Bn a n t cs w) (hn : n ≠ m) (o : Only (one m) w w') : Bn a n t cs w' := ⟨b.b.only o (fun e => hn e), b.n⟩
theorem Bn.keep (h : Bn a n t cs w) (o : Only none_ w w') : Bn a n t cs w' := ⟨h.b.only o (fun h => h), h.n⟩
theorem Bn.new (h : Rp B a s w) : Bn a w.heap.size t cs (w.alloc (.cells cs t)) := ⟨Blk.new _ _ _, fun hf => by have := (h.all_ge hf).2; omega⟩
theorem Rp.at_ (h : Rp B a s w) {r : Nat} (e : a.r = r) {i : Nat} {u : Value} (hu : (rCells a s.o s.z)[i]? = some u) : w.cell? ⟨r, i, none⟩ = some u := e ▸ h.bk.cell_ hu
end
theorem tb_put_any (B : World) (g : Nat) (room : Int) (l : List En) (v : Value) (e : En) (w : World) (h : Se.Tb B g room (prs l) v w) (hr : hasE l e.k = true ∨ (l.length : Int) < room) :
    Calls Tryz.prog 158 #[.pointer (some ⟨g, 0, none⟩), .string e.k, .agg #[.string e.k, .string e.v, .bool e.d, .int .i64 e.s.c, .int .i64 e.s.s, .int .i64 e.a.c, .int .i64 e.a.s, .int .i64 e.p, .int .i64 e.g]] w fun E w' => E = .returned (.int .i64 0) ∧ Se.LeftT B g room v w (prs (setE e l)) w' := by
  rw [← put_prs e l (ris_prs h.rs)]
  by_cases hs : has (prs l) e.k = true
  · exact Se.tb_put_has B g room (prs l) v e.k e w h hs
  · refine Se.tb_put_new B g room (prs l) v e.k e w h (by simpa using hs) ?_
    rcases hr with h1 | h1
    · rw [has_prs] at hs; exact absurd h1 hs
    · rw [prs_length]; omega
theorem full_ways {o : Ro} {l : List En} {k : ByteArray} (h : fullM o l k = false) : hasE l k = true ∨ (l.length : Int) < roRoom o := by
  have := full_not o l k
  rw [h] at this
  simpa using this.symm
set_option maxHeartbeats 12800000 in
theorem ct_place (B : World) (a : Ra) (s : Rs) (x : En) (w : World) (h : Rp B a s w) (hf : fullM s.o s.tab x.k = false) (hk : x.k.size ≤ maxLen) (hl : s.mks.length + 1 ≤ 100) :
    Calls Tryz.prog 116 #[.pointer (some ⟨a.r, 6, none⟩), .agg #[.string x.k, .string x.v, .bool x.d, .int .i64 x.s.c, .int .i64 x.s.s, .int .i64 x.a.c, .int .i64 x.a.s, .int .i64 x.p, .int .i64 x.g]] w fun E w' => E = .returned (.tuple #[]) ∧ LeftP B a w { s with tab := setE x s.tab, z := s.z + (hsh x - hsh ((lookE s.tab x.k).getD enZero)), mks := putM s.mks (mkOf x) } w' := by
  obtain ⟨r, hr⟩ : ∃ r, a.r = r := ⟨_, rfl⟩
  have O0 := Lib.hid ((Only.refl none_ w).alloc (.cells #[.string x.k, .string x.v, .bool x.d, .int .i64 x.s.c, .int .i64 x.s.s, .int .i64 x.a.c, .int .i64 x.a.s, .int .i64 x.p, .int .i64 x.g] 82))
  have N0 : Hid (Bn a w.heap.size 82 #[.string x.k, .string x.v, .bool x.d, .int .i64 x.s.c, .int .i64 x.s.s, .int .i64 x.a.c, .int .i64 x.a.s, .int .i64 x.p, .int .i64 x.g] (w.alloc (.cells #[.string x.k, .string x.v, .bool x.d, .int .i64 x.s.c, .int .i64 x.s.s, .int .i64 x.a.c, .int .i64 x.a.s, .int .i64 x.p, .int .i64 x.g] 82))) := Bn.new h
  have HE := Lib.hid (fun (X : World) (o : Only none_ w X) => ct_entry B a s x.k X (h.keep o))
  obtain ⟨e, he⟩ : ∃ e, (lookE s.tab x.k).getD enZero = e := ⟨_, rfl⟩
  rw [he] at HE ⊢
  generalize hasE s.tab x.k = hs at HE
  have HCY := Lib.hid (Cy.begin h)
  have HP := Lib.hid (fun (X : World) (hX : Rp B a s X) => tb_put_any B a.tb (roRoom s.o) s.tab a.vt x X hX.tb (full_ways hf))
  have HTU := Lib.hid (fun (a1 : Ra) (s1 : Rs) (X : World) (hX : Rp B a1 s1 X) (e1 : a1.r = r) => by
    have := su_turn_in a1.r 7 78 (rCells a1 s1.o s1.z) s1.z e x X hX.bk rfl
    rw [e1] at this
    exact this)
  have HMK := Lib.hid (fun (X : World) => en_mark x X)
  have HMP := Lib.hid (fun (a1 : Ra) (X : World) (hX : Rc B.heap.size a1.mx a1.mb s.mks s.mks a1.vm X) => rc_put B.heap.size a1.mx a1.mb s.mks a1.vm (mkOf x) X hX hk hl)
  have t0 := N0.out.b.cell_ (i := 0) rfl
  rw [hr] at HE ⊢
  have HR := Lib.hid hr
  clear h he hf hk hl hr
  go_enter Tryz.func116, Tryz.ntmps116
  go_wp2_with (first
    | (go_at_call 24; refine (HE.out _ O0.out).mono ?_; rintro E w1 ⟨rfl, o1⟩
       have C1 := Lib.hid (HCY.out.keep (O0.out.trans o1))
       have N1 := Lib.hid (N0.out.keep o1)
       have C2 := Lib.hid (C1.out.keep ((Only.refl none_ w1).alloc (.cells #[.string e.k, .string e.v, .bool e.d, .int .i64 e.s.c, .int .i64 e.s.s, .int .i64 e.a.c, .int .i64 e.a.s, .int .i64 e.p, .int .i64 e.g] 82)))
       have N2 := Lib.hid (N1.out.keep ((Only.refl none_ w1).alloc (.cells #[.string e.k, .string e.v, .bool e.d, .int .i64 e.s.c, .int .i64 e.s.s, .int .i64 e.a.c, .int .i64 e.a.s, .int .i64 e.p, .int .i64 e.g] 82)))
       have M2 : Hid (Bn a w1.heap.size 82 #[.string e.k, .string e.v, .bool e.d, .int .i64 e.s.c, .int .i64 e.s.s, .int .i64 e.a.c, .int .i64 e.a.s, .int .i64 e.p, .int .i64 e.g] (w1.alloc (.cells #[.string e.k, .string e.v, .bool e.d, .int .i64 e.s.c, .int .i64 e.s.s, .int .i64 e.a.c, .int .i64 e.a.s, .int .i64 e.p, .int .i64 e.g] 82))) := Bn.new C1.out.r
       clear o1)
    | (with_reducible refine wpl_new rfl rfl 82 rfl _ _ rfl #[.string e.k, .string e.v, .bool e.d, .int .i64 e.s.c, .int .i64 e.s.s, .int .i64 e.a.c, .int .i64 e.a.s, .int .i64 e.p, .int .i64 e.g] rfl rfl (by kernel_rfl) (en_cells_one e) ?_))
  generalize w1.alloc (.cells #[.string e.k, .string e.v, .bool e.d, .int .i64 e.s.c, .int .i64 e.s.s, .int .i64 e.a.c, .int .i64 e.a.s, .int .i64 e.p, .int .i64 e.g] 82) = W2 at C2 N2 M2 ⊢
  generalize w1.heap.size = m0 at M2 ⊢
  generalize w.heap.size = n0 at N2 ⊢
  clear C1 N1 HE N0 t0 O0
  (refine wp_region_steady (fun X => Only none_ W2 X) 7 (by kernel_rfl) (by kernel_rfl) ((Only.refl none_ W2).drew) ?_; simp only [List.take_succ_cons, List.take_zero, List.drop_succ_cons, List.drop_zero])
  repeat (first
    | (refine sd_value (v := ?_) (by rfl) (fun w0 hS => ?_) ?_; rotate_left; (· (have c6 := (C2.out.keep hS).r.at_ HR.out (i := 6) rfl; have qq := nine_of (N2.out.keep hS).b; go_simp; try (with_reducible rfl))); try simp only [Act.put, List.setIfInBounds_toArray, List.set_cons_zero, List.set_cons_succ]))
  refine sd_nil ?_
  intro w3 t3
  have C3 := Lib.hid (C2.out.keep t3)
  have N3 := Lib.hid (N2.out.keep t3)
  have M3 := Lib.hid (M2.out.keep t3)
  clear t3
  go_wp2_with (first
    | (go_at_call 158; refine (HP.out _ C3.out.r).mono ?_; rintro E w4 ⟨rfl, hL⟩
       obtain ⟨a4, c4, e4, b4⟩ := C3.out.step (C3.out.r.tb_set hL)
       have C4 := Lib.hid c4
       have N4 := Lib.hid (b4 _ _ _ N3.out)
       have M4 := Lib.hid (b4 _ _ _ M3.out)
       have E4 : Hid (a4.r = r) := e4.trans HR.out
       clear c4 b4 e4 hL))
  (refine wp_region_steady (fun X => Only none_ w4 X) 5 (by kernel_rfl) (by kernel_rfl) ((Only.refl none_ w4).drew) ?_; simp only [List.take_succ_cons, List.take_zero, List.drop_succ_cons, List.drop_zero])
  repeat (first
    | (refine sd_value (v := ?_) (by rfl) (fun w0 hS => ?_) ?_; rotate_left; (· (have qq := nine_of (N4.out.keep hS).b; go_simp; try (with_reducible rfl))); try simp only [Act.put, List.setIfInBounds_toArray, List.set_cons_zero, List.set_cons_succ])
    | (refine sd_value (v := ?_) (by rfl) (fun w0 hS => ?_) ?_; rotate_left; (· (have qq := nine_of (M4.out.keep hS).b; go_simp; try (with_reducible rfl))); try simp only [Act.put, List.setIfInBounds_toArray, List.set_cons_zero, List.set_cons_succ]))
  refine sd_nil ?_
  intro w5 t5
  have C5 := Lib.hid (C4.out.keep t5)
  have N5 := Lib.hid (N4.out.keep t5)
  clear t5
  go_wp2_with (first
    | (go_at_call 177; refine (HTU.out a4 _ _ C5.out.r E4.out).mono ?_; rintro E w6 ⟨rfl, w60, o6, hw6⟩
       have c60 := C5.out.keep o6
       have L6 := c60.r.z_set (s.z + (hsh x - hsh e))
       rw [E4.out, ← hw6] at L6
       obtain ⟨a6, c6, e6, b6⟩ := c60.step L6
       have C6 := Lib.hid c6
       have N6 := Lib.hid (b6 _ _ _ (N5.out.keep o6))
       have E6 : Hid (a6.r = r) := e6.trans E4.out
       clear c60 L6 c6 b6 e6 hw6 o6))
  (refine wp_region_steady (fun X => Only none_ w6 X) 6 (by kernel_rfl) (by kernel_rfl) ((Only.refl none_ w6).drew) ?_; simp only [List.take_succ_cons, List.take_zero, List.drop_succ_cons, List.drop_zero])
  repeat (first
    | (refine sd_value (v := ?_) (by rfl) (fun w0 hS => ?_) ?_; rotate_left; (· (have c8 := (C6.out.keep hS).r.at_ E6.out (i := 8) rfl; have qq := nine_of (N6.out.keep hS).b; go_simp; try (with_reducible rfl))); try simp only [Act.put, List.setIfInBounds_toArray, List.set_cons_zero, List.set_cons_succ])
    | (refine sd_call (v := ?_) (f := 179) (args := ?_) (by rfl) (fun w0 hS => ?_) (fun w0 hS => ?_) ?_; rotate_left 2; (· (skip; go_simp; try (with_reducible rfl))); (· (refine (HMK.out _).mono ?_; rintro E w9 ⟨rfl, o9⟩; refine ⟨?_, hS.trans o9⟩; rfl)); try simp only [Act.put, List.setIfInBounds_toArray, List.set_cons_zero, List.set_cons_succ]))
  refine sd_nil ?_
  intro w7 t7
  have C7 := Lib.hid (C6.out.keep t7)
  clear t7
  go_wp2_with (first
    | (go_at_call 178; refine (HMP.out a6 _ C7.out.r.mx).mono ?_; rintro E w8 ⟨rfl, hL⟩
       obtain ⟨a8, c8, e8, b8⟩ := C7.out.step (C7.out.r.mk_set hL)
       have C8 := Lib.hid c8.left
       clear c8 b8 e8 hL))
  go_end0
  exact ⟨rfl, C8.out⟩
end Go.Proofs.YtoohpcomnhfgpaaGreat
end
section
namespace Go.Proofs.YtoohpcomnhfgpaaGreat
open Go.RowKit
set_option maxRecDepth 100000
set_option linter.all false
theorem drop_prs (k : ByteArray) : ∀ l : List En, RisE l → dropL (prs l) k = prs (dropE l k)
  | [], _ => rfl
  | x :: r, h => by
    have h' := List.pairwise_cons.1 h
    have ih := drop_prs k r h'.2
    have hp : prs (x :: r) = ⟨x.k, x⟩ :: prs r := rfl
    have hr : rnk (prs (x :: r)) k = rnk (prs r) k + if lt_ x.k k = true then 1 else 0 := by rw [hp]; simp [rnk, List.countP_cons]
    have hh : has (prs (x :: r)) k = (decide (x.k = k) || has (prs r) k) := by rw [hp]; simp [has]
    have hab : lt_ x.k k = false → rnk (prs r) k = 0 := fun hx => by
      refine List.countP_eq_zero.2 fun p hp => ?_
      obtain ⟨y, hy, rfl⟩ := List.mem_map.1 hp
      intro h2
      have := lt_tr (h'.1 y hy) h2
      rw [hx] at this; cases this
    by_cases hx : x.k = k
    · have hl : lt_ x.k k = false := by rw [hx]; exact lt_irr k
      have e1 : dropE (x :: r) k = r := by
        unfold dropE
        rw [List.filter_cons_of_neg (by simp [hx])]
        exact List.filter_eq_self.2 fun y hy => by simpa using fun e => lt_ne (h'.1 y hy) (hx.trans e.symm)
      have e2 : has (prs (x :: r)) k = true := by rw [hh, decide_eq_true hx]; rfl
      have e3 : rnk (prs (x :: r)) k = 0 := by rw [hr, hl, hab hl]; rfl
      unfold dropL
      rw [if_pos e2, e3, e1, hp]; rfl
    · have e1 : dropE (x :: r) k = x :: dropE r k := by
        unfold dropE
        rw [List.filter_cons_of_pos (by simp [hx])]
      have e2 : has (prs (x :: r)) k = has (prs r) k := by rw [hh, decide_eq_false hx]; rfl
      have e4 : prs (x :: dropE r k) = ⟨x.k, x⟩ :: prs (dropE r k) := rfl
      rw [e1, e4, ← ih]
      unfold dropL
      rw [e2]
      by_cases h3 : has (prs r) k = true
      · rw [if_pos h3, if_pos h3]
        have hl : lt_ x.k k = true := by
          cases e : lt_ x.k k with
          | true => rfl
          | false =>
            obtain ⟨p, hp1, hp2⟩ := List.any_eq_true.1 h3
            obtain ⟨y, hy, rfl⟩ := List.mem_map.1 hp1
            have hy2 : y.k = k := by simpa using hp2
            have := h'.1 y hy
            rw [hy2, e] at this; cases this
        rw [hr, if_pos hl, hp]
        simp
      · rw [if_neg h3, if_neg h3, hp]
set_option maxHeartbeats 12800000 in
theorem ct_age (B : World) (a : Ra) (s : Rs) (x : En) (age : Int) (w : World) (h : Rp B a s w) (hf : hasE s.tab x.k = true) :
    Calls Tryz.prog 99 #[.pointer (some ⟨a.r, 6, none⟩), .agg #[.string x.k, .string x.v, .bool x.d, .int .i64 x.s.c, .int .i64 x.s.s, .int .i64 x.a.c, .int .i64 x.a.s, .int .i64 x.p, .int .i64 x.g], .int .i64 age] w fun E w' => E = .returned (.tuple #[]) ∧ LeftP B a w { s with tab := setE { x with g := age } s.tab } w' := by
  obtain ⟨r, hr⟩ : ∃ r, a.r = r := ⟨_, rfl⟩
  have O1 : Hid (Only none_ w (w.alloc (.cells #[.string ({ x with g := age } : En).k, .string ({ x with g := age } : En).v, .bool ({ x with g := age } : En).d, .int .i64 ({ x with g := age } : En).s.c, .int .i64 ({ x with g := age } : En).s.s, .int .i64 ({ x with g := age } : En).a.c, .int .i64 ({ x with g := age } : En).a.s, .int .i64 ({ x with g := age } : En).p, .int .i64 ({ x with g := age } : En).g] 82))) := (Only.refl none_ w).alloc _
  have N1 : Hid (Blk (w.alloc (.cells #[.string ({ x with g := age } : En).k, .string ({ x with g := age } : En).v, .bool ({ x with g := age } : En).d, .int .i64 ({ x with g := age } : En).s.c, .int .i64 ({ x with g := age } : En).s.s, .int .i64 ({ x with g := age } : En).a.c, .int .i64 ({ x with g := age } : En).a.s, .int .i64 ({ x with g := age } : En).p, .int .i64 ({ x with g := age } : En).g] 82)) w.heap.size 82 #[.string ({ x with g := age } : En).k, .string ({ x with g := age } : En).v, .bool ({ x with g := age } : En).d, .int .i64 ({ x with g := age } : En).s.c, .int .i64 ({ x with g := age } : En).s.s, .int .i64 ({ x with g := age } : En).a.c, .int .i64 ({ x with g := age } : En).a.s, .int .i64 ({ x with g := age } : En).p, .int .i64 ({ x with g := age } : En).g]) := Blk.new _ _ _
  have HK := Lib.hid (h.keep O1.out)
  have HP := Lib.hid (fun (X : World) (hX : Rp B a s X) => tb_put_any B a.tb (roRoom s.o) s.tab a.vt { x with g := age } X hX.tb (.inl hf))
  rw [hr]
  have HR := Lib.hid hr
  clear h hf hr
  go_enter Tryz.func99, Tryz.ntmps99
  go_wp2_with fail
  try dsimp only at O1 N1 HK
  generalize w.alloc (.cells #[.string x.k, .string x.v, .bool x.d, .int .i64 x.s.c, .int .i64 x.s.s, .int .i64 x.a.c, .int .i64 x.a.s, .int .i64 x.p, .int .i64 age] 82) = W2 at O1 N1 HK ⊢
  generalize w.heap.size = n0 at N1 ⊢
  (refine wp_region_steady (fun X => Only none_ W2 X) 7 (by kernel_rfl) (by kernel_rfl) ((Only.refl none_ W2).drew) ?_; simp only [List.take_succ_cons, List.take_zero, List.drop_succ_cons, List.drop_zero])
  repeat (first
    | (refine sd_value (v := ?_) (by rfl) (fun w0 hS => ?_) ?_; rotate_left; (· (have c6 := (HK.out.keep hS).at_ HR.out (i := 6) rfl; have qq := nine_of (N1.out.only hS (fun h => h)); go_simp; try (with_reducible rfl))); try simp only [Act.put, List.setIfInBounds_toArray, List.set_cons_zero, List.set_cons_succ]))
  refine sd_nil ?_
  intro w3 t3
  have C3 := Lib.hid (HK.out.keep t3)
  have O3 := Lib.hid (O1.out.trans t3)
  clear t3
  go_wp2_with (first
    | (go_at_call 158; refine (HP.out _ C3.out).mono ?_; rintro E w4 ⟨rfl, hL⟩
       have L4 := Lib.hid ((C3.out.tb_set hL).after0 O3.out)
       clear hL))
  go_end0
  exact ⟨rfl, L4.out⟩
set_option maxHeartbeats 12800000 in
theorem ct_drop (B : World) (a : Ra) (s : Rs) (x : En) (w : World) (h : Rp B a s w) (hk : x.k.size ≤ maxLen) :
    Calls Tryz.prog 100 #[.pointer (some ⟨a.r, 6, none⟩), .agg #[.string x.k, .string x.v, .bool x.d, .int .i64 x.s.c, .int .i64 x.s.s, .int .i64 x.a.c, .int .i64 x.a.s, .int .i64 x.p, .int .i64 x.g]] w fun E w' => E = .returned (.tuple #[]) ∧ LeftP B a w { s with tab := dropE s.tab x.k, z := s.z - hsh x, mks := dropM s.mks x.k } w' := by
  obtain ⟨r, hr⟩ : ∃ r, a.r = r := ⟨_, rfl⟩
  have C2 := Lib.hid ((Cy.begin h).keep ((Only.refl none_ w).alloc (.cells #[.string x.k, .string x.v, .bool x.d, .int .i64 x.s.c, .int .i64 x.s.s, .int .i64 x.a.c, .int .i64 x.a.s, .int .i64 x.p, .int .i64 x.g] 82)))
  have N2 : Hid (Bn a w.heap.size 82 #[.string x.k, .string x.v, .bool x.d, .int .i64 x.s.c, .int .i64 x.s.s, .int .i64 x.a.c, .int .i64 x.a.s, .int .i64 x.p, .int .i64 x.g] (w.alloc (.cells #[.string x.k, .string x.v, .bool x.d, .int .i64 x.s.c, .int .i64 x.s.s, .int .i64 x.a.c, .int .i64 x.a.s, .int .i64 x.p, .int .i64 x.g] 82))) := Bn.new h
  have HP := Lib.hid (fun (X : World) (hX : Rp B a s X) => by
    have := Se.tb_drop B a.tb (roRoom s.o) (prs s.tab) a.vt x.k X hX.tb
    rw [drop_prs x.k s.tab (ris_prs h.tb.rs)] at this
    exact this)
  generalize has (prs s.tab) x.k = hs at HP
  have HTU := Lib.hid (fun (a1 : Ra) (s1 : Rs) (X : World) (hX : Rp B a1 s1 X) (e1 : a1.r = r) => by
    have := su_drop_in a1.r 7 78 (rCells a1 s1.o s1.z) s1.z x X hX.bk rfl
    rw [e1] at this
    exact this)
  have HMP := Lib.hid (fun (a1 : Ra) (X : World) (hX : Rc B.heap.size a1.mx a1.mb s.mks s.mks a1.vm X) => rc_drop B.heap.size a1.mx a1.mb s.mks a1.vm x.k X hX hk)
  generalize hasM s.mks x.k = hm at HMP
  rw [hr]
  have HR := Lib.hid hr
  clear h hk hr
  go_enter Tryz.func100, Tryz.ntmps100
  go_wp2_with fail
  generalize w.alloc (.cells #[.string x.k, .string x.v, .bool x.d, .int .i64 x.s.c, .int .i64 x.s.s, .int .i64 x.a.c, .int .i64 x.a.s, .int .i64 x.p, .int .i64 x.g] 82) = W2 at C2 N2 ⊢
  generalize w.heap.size = n0 at N2 ⊢
  (refine wp_region_steady (fun X => Only none_ W2 X) 6 (by kernel_rfl) (by kernel_rfl) ((Only.refl none_ W2).drew) ?_; simp only [List.take_succ_cons, List.take_zero, List.drop_succ_cons, List.drop_zero])
  repeat (first
    | (refine sd_value (v := ?_) (by rfl) (fun w0 hS => ?_) ?_; rotate_left; (· (have c6 := (C2.out.keep hS).r.at_ HR.out (i := 6) rfl; have qq := nine_of (N2.out.keep hS).b; go_simp; try (with_reducible rfl))); try simp only [Act.put, List.setIfInBounds_toArray, List.set_cons_zero, List.set_cons_succ]))
  refine sd_nil ?_
  intro w3 t3
  have C3 := Lib.hid (C2.out.keep t3)
  have N3 := Lib.hid (N2.out.keep t3)
  clear t3
  go_wp2_with (first
    | (go_at_call 159; refine (HP.out _ C3.out.r).mono ?_; rintro E w4 ⟨rfl, hL⟩
       obtain ⟨a4, c4, e4, b4⟩ := C3.out.step (C3.out.r.tb_set hL)
       have C4 := Lib.hid c4
       have N4 := Lib.hid (b4 _ _ _ N3.out)
       have E4 : Hid (a4.r = r) := e4.trans HR.out
       clear c4 b4 e4 hL))
  (refine wp_region_steady (fun X => Only none_ w4 X) 4 (by kernel_rfl) (by kernel_rfl) ((Only.refl none_ w4).drew) ?_; simp only [List.take_succ_cons, List.take_zero, List.drop_succ_cons, List.drop_zero])
  repeat (first
    | (refine sd_value (v := ?_) (by rfl) (fun w0 hS => ?_) ?_; rotate_left; (· (have qq := nine_of (N4.out.keep hS).b; go_simp; try (with_reducible rfl))); try simp only [Act.put, List.setIfInBounds_toArray, List.set_cons_zero, List.set_cons_succ]))
  refine sd_nil ?_
  intro w5 t5
  have C5 := Lib.hid (C4.out.keep t5)
  have N5 := Lib.hid (N4.out.keep t5)
  clear t5
  go_wp2_with (first
    | (go_at_call 160; refine (HTU.out a4 _ _ C5.out.r E4.out).mono ?_; rintro E w6 ⟨rfl, w60, o6, hw6⟩
       have c60 := C5.out.keep o6
       have L6 := c60.r.z_set (s.z - hsh x)
       rw [E4.out, ← hw6] at L6
       obtain ⟨a6, c6, e6, b6⟩ := c60.step L6
       have C6 := Lib.hid c6
       have N6 := Lib.hid (b6 _ _ _ (N5.out.keep o6))
       have E6 : Hid (a6.r = r) := e6.trans E4.out
       clear c60 L6 c6 b6 e6 hw6 o6))
  (refine wp_region_steady (fun X => Only none_ w6 X) 6 (by kernel_rfl) (by kernel_rfl) ((Only.refl none_ w6).drew) ?_; simp only [List.take_succ_cons, List.take_zero, List.drop_succ_cons, List.drop_zero])
  repeat (first
    | (refine sd_value (v := ?_) (by rfl) (fun w0 hS => ?_) ?_; rotate_left; (· (have c8 := (C6.out.keep hS).r.at_ E6.out (i := 8) rfl; have qq := nine_of (N6.out.keep hS).b; go_simp; try (with_reducible rfl))); try simp only [Act.put, List.setIfInBounds_toArray, List.set_cons_zero, List.set_cons_succ]))
  refine sd_nil ?_
  intro w7 t7
  have C7 := Lib.hid (C6.out.keep t7)
  clear t7
  go_wp2_with (first
    | (go_at_call 161; refine (HMP.out a6 _ C7.out.r.mx).mono ?_; rintro E w8 ⟨rfl, hL⟩
       obtain ⟨a8, c8, e8, b8⟩ := C7.out.step (C7.out.r.mk_set hL)
       have C8 := Lib.hid c8.left
       clear c8 b8 e8 hL))
  go_end0
  exact ⟨rfl, C8.out⟩
end Go.Proofs.YtoohpcomnhfgpaaGreat
end
section
namespace Go.Proofs.YtoohpcomnhfgpaaGreat
open Go.RowKit
set_option maxRecDepth 100000
set_option linter.all false
set_option maxHeartbeats 12800000 in
theorem gv_bury_no (B : World) (g tb : Nat) (site t2 : Int) (l : List En) (v : Value) (e : En) (w : World) (h : Gv B g tb site t2 l v w) (ht : takes (enDuty e site) t2 e = false) :
    Calls Tryz.prog 180 #[.pointer (some ⟨g, 0, none⟩), .agg #[.string e.k, .string e.v, .bool e.d, .int .i64 e.s.c, .int .i64 e.s.s, .int .i64 e.a.c, .int .i64 e.a.s, .int .i64 e.p, .int .i64 e.g]] w fun E w' => E = .returned (.bool false) ∧ Only none_ w w' := by
  have O0 := Lib.hid ((Only.refl none_ w).alloc (.cells #[.string e.k, .string e.v, .bool e.d, .int .i64 e.s.c, .int .i64 e.s.s, .int .i64 e.a.c, .int .i64 e.a.s, .int .i64 e.p, .int .i64 e.g] 82))
  have B0 := Lib.hid (Blk.new w 82 #[.string e.k, .string e.v, .bool e.d, .int .i64 e.s.c, .int .i64 e.s.s, .int .i64 e.a.c, .int .i64 e.a.s, .int .i64 e.p, .int .i64 e.g])
  have H0 := Lib.hid (fun (w' : World) (o : Only none_ w w') => (h.keep o).bk)
  have HCK := Lib.hid (fun (w' : World) => en_check e w')
  by_cases hc : enCheck e = 0
  · have hdd : e.d = true → 1 ≤ e.p ∧ e.p ≤ 4095 := fun hd => by have := cert_of hc hd; omega
    have HDU := Lib.hid (fun (w' : World) => en_duty e site w' hdd)
    rw [hc] at HCK
    cases hd : enDuty e site with
    | false =>
      rw [hd] at HDU
      clear h ht hc hdd hd
      go_enter Tryz.func180, Tryz.ntmps180
      go_upto_region 1 with fail
      (refine wp_region_free (fun w' => Only none_ (w.alloc (.cells #[.string e.k, .string e.v, .bool e.d, .int .i64 e.s.c, .int .i64 e.s.s, .int .i64 e.a.c, .int .i64 e.a.s, .int .i64 e.p, .int .i64 e.g] 82)) w') (Only none_) (F := ?_) (by kernel_rfl) 49 (by rfl) (by kernel_rfl) (fun x => ?_) ((Only.refl none_ _).drew) ?_; rotate_left; (· (simp only [putsL, Act.put, List.setIfInBounds_toArray, List.set_cons_zero, List.set_cons_succ, Nat.reduceAdd]; exact rfl)))
      repeat (first
        | ((first | refine fr_value (c := ?_) (by rfl) (fun w => Only.refl none_ w) (fun x w0 hS hk => ?_) ?_ | refine fr_value_if (c := ?_) (by rfl) (by rfl) (by rfl) (fun w => Only.refl none_ w) (fun x w0 hS hk => ?_) ?_); rotate_left; (· (have hk2 := hk; (try simp [knAll, Region.binds] at hk2); obtain ⟨t0, t1, t2, t3, t4, t5, t6, t7, t8⟩ := nine_of (B0.out.only hS (fun h => h)); have g3 := (H0.out _ (O0.out.trans hS)).cell_ (i := 3) rfl; have g4 := (H0.out _ (O0.out.trans hS)).cell_ (i := 4) rfl; go_simp; try (with_reducible rfl))); try simp only [List.nil_append, List.cons_append])
        | ((first | refine fr_skip (by rfl) (by rfl) (by rfl) (fun w => Only.refl none_ w) ?_ | refine fr_skip_too (by rfl) (by rfl) (by rfl) (fun w => Only.refl none_ w) ?_); try simp only [List.nil_append, List.cons_append])
        | ((first | refine fr_some (fun v _ => v = .int .i64 0) (fun _ _ _ _ _ _ h => h) (by rfl) (fun x w0 hS hk => ?_) ?_ | refine fr_some_if (fun v _ => v = .int .i64 0) (fun _ _ _ _ _ _ h => h) (by rfl) (by rfl) (by rfl) (fun x w0 hS hk => ?_) ?_); (· (have hk2 := hk; (try simp [knAll, Region.binds] at hk2); skip; refine got_call (f := 83) (args := ?_) (by go_simp; try (with_reducible rfl)) ?_; refine (HCK.out _).mono ?_; rintro E w9 ⟨rfl, o9⟩; exact ⟨_, rfl, rfl, hS.trans o9, o9⟩)); try simp only [List.nil_append, List.cons_append])
        | ((first | refine fr_some (fun v _ => v = .bool false) (fun _ _ _ _ _ _ h => h) (by rfl) (fun x w0 hS hk => ?_) ?_ | refine fr_some_if (fun v _ => v = .bool false) (fun _ _ _ _ _ _ h => h) (by rfl) (by rfl) (by rfl) (fun x w0 hS hk => ?_) ?_); (· (have hk2 := hk; (try simp [knAll, Region.binds] at hk2); skip; refine got_call (f := 224) (args := ?_) (by go_simp; try (with_reducible rfl)) ?_; refine (HDU.out _).mono ?_; rintro E w9 ⟨rfl, o9⟩; exact ⟨_, rfl, rfl, hS.trans o9, o9⟩)); try simp only [List.nil_append, List.cons_append]))
      (refine fr_end ?_; intro x w9 hS hk)
      have e20 := kn_end_at 20 hk (by rfl)
      rw [Nat.zero_add] at e20
      rw [e20]
      have O9 := Lib.hid hS
      clear hk hS e20
      go_wp2_with fail
      go_ret
      exact ⟨rfl, O0.out.trans O9.out⟩
    | true =>
      have hg : t2 ≤ e.g := by
        rw [takes, hd, hc] at ht
        simpa using ht
      rw [hd] at HDU
      have hg1 : decide (e.g < t2) = false := by simp; omega
      have hg2 : decide (t2 ≤ e.g) = true := by simp; omega
      clear h ht hc hdd hd
      go_enter Tryz.func180, Tryz.ntmps180
      go_upto_region 1 with fail
      (refine wp_region_free (fun w' => Only none_ (w.alloc (.cells #[.string e.k, .string e.v, .bool e.d, .int .i64 e.s.c, .int .i64 e.s.s, .int .i64 e.a.c, .int .i64 e.a.s, .int .i64 e.p, .int .i64 e.g] 82)) w') (Only none_) (F := ?_) (by kernel_rfl) 49 (by rfl) (by kernel_rfl) (fun x => ?_) ((Only.refl none_ _).drew) ?_; rotate_left; (· (simp only [putsL, Act.put, List.setIfInBounds_toArray, List.set_cons_zero, List.set_cons_succ, Nat.reduceAdd]; exact rfl)))
      repeat (first
        | ((first | refine fr_value (c := ?_) (by rfl) (fun w => Only.refl none_ w) (fun x w0 hS hk => ?_) ?_ | refine fr_value_if (c := ?_) (by rfl) (by rfl) (by rfl) (fun w => Only.refl none_ w) (fun x w0 hS hk => ?_) ?_); rotate_left; (· (have hk2 := hk; (try simp [knAll, Region.binds] at hk2); obtain ⟨t0, t1, t2, t3, t4, t5, t6, t7, t8⟩ := nine_of (B0.out.only hS (fun h => h)); have g3 := (H0.out _ (O0.out.trans hS)).cell_ (i := 3) rfl; have g4 := (H0.out _ (O0.out.trans hS)).cell_ (i := 4) rfl; go_simp; try (with_reducible rfl))); try simp only [List.nil_append, List.cons_append])
        | ((first | refine fr_skip (by rfl) (by rfl) (by rfl) (fun w => Only.refl none_ w) ?_ | refine fr_skip_too (by rfl) (by rfl) (by rfl) (fun w => Only.refl none_ w) ?_); try simp only [List.nil_append, List.cons_append])
        | ((first | refine fr_some (fun v _ => v = .int .i64 0) (fun _ _ _ _ _ _ h => h) (by rfl) (fun x w0 hS hk => ?_) ?_ | refine fr_some_if (fun v _ => v = .int .i64 0) (fun _ _ _ _ _ _ h => h) (by rfl) (by rfl) (by rfl) (fun x w0 hS hk => ?_) ?_); (· (have hk2 := hk; (try simp [knAll, Region.binds] at hk2); skip; refine got_call (f := 83) (args := ?_) (by go_simp; try (with_reducible rfl)) ?_; refine (HCK.out _).mono ?_; rintro E w9 ⟨rfl, o9⟩; exact ⟨_, rfl, rfl, hS.trans o9, o9⟩)); try simp only [List.nil_append, List.cons_append])
        | ((first | refine fr_some (fun v _ => v = .bool true) (fun _ _ _ _ _ _ h => h) (by rfl) (fun x w0 hS hk => ?_) ?_ | refine fr_some_if (fun v _ => v = .bool true) (fun _ _ _ _ _ _ h => h) (by rfl) (by rfl) (by rfl) (fun x w0 hS hk => ?_) ?_); (· (have hk2 := hk; (try simp [knAll, Region.binds] at hk2); skip; refine got_call (f := 224) (args := ?_) (by go_simp; try (with_reducible rfl)) ?_; refine (HDU.out _).mono ?_; rintro E w9 ⟨rfl, o9⟩; exact ⟨_, rfl, rfl, hS.trans o9, o9⟩)); try simp only [List.nil_append, List.cons_append]))
      (refine fr_end ?_; intro x w9 hS hk)
      have e20 := kn_end_at 20 hk (by rfl)
      rw [Nat.zero_add] at e20
      rw [e20]
      have O9 := Lib.hid hS
      clear hk hS e20
      go_wp2_with fail
      go_ret
      exact ⟨rfl, O0.out.trans O9.out⟩
  · generalize enCheck e = z at hc HCK
    have hz1 : ((z : Int) == 0) = false := by simpa using hc
    have hz2 : ((z : Int) != 0) = true := by simpa using hc
    clear h ht
    go_enter Tryz.func180, Tryz.ntmps180
    go_upto_region 1 with fail
    (refine wp_region_free (fun w' => Only none_ (w.alloc (.cells #[.string e.k, .string e.v, .bool e.d, .int .i64 e.s.c, .int .i64 e.s.s, .int .i64 e.a.c, .int .i64 e.a.s, .int .i64 e.p, .int .i64 e.g] 82)) w') (Only none_) (F := ?_) (by kernel_rfl) 49 (by rfl) (by kernel_rfl) (fun x => ?_) ((Only.refl none_ _).drew) ?_; rotate_left; (· (simp only [putsL, Act.put, List.setIfInBounds_toArray, List.set_cons_zero, List.set_cons_succ, Nat.reduceAdd]; exact rfl)))
    repeat (first
      | ((first | refine fr_value (c := ?_) (by rfl) (fun w => Only.refl none_ w) (fun x w0 hS hk => ?_) ?_ | refine fr_value_if (c := ?_) (by rfl) (by rfl) (by rfl) (fun w => Only.refl none_ w) (fun x w0 hS hk => ?_) ?_); rotate_left; (· (have hk2 := hk; (try simp [knAll, Region.binds] at hk2); obtain ⟨t0, t1, t2, t3, t4, t5, t6, t7, t8⟩ := nine_of (B0.out.only hS (fun h => h)); have g3 := (H0.out _ (O0.out.trans hS)).cell_ (i := 3) rfl; have g4 := (H0.out _ (O0.out.trans hS)).cell_ (i := 4) rfl; go_simp; try (with_reducible rfl))); try simp only [List.nil_append, List.cons_append])
      | ((first | refine fr_skip (by rfl) (by rfl) (by rfl) (fun w => Only.refl none_ w) ?_ | refine fr_skip_too (by rfl) (by rfl) (by rfl) (fun w => Only.refl none_ w) ?_); try simp only [List.nil_append, List.cons_append])
      | ((first | refine fr_some (fun v _ => v = .int .i64 z) (fun _ _ _ _ _ _ h => h) (by rfl) (fun x w0 hS hk => ?_) ?_ | refine fr_some_if (fun v _ => v = .int .i64 z) (fun _ _ _ _ _ _ h => h) (by rfl) (by rfl) (by rfl) (fun x w0 hS hk => ?_) ?_); (· (have hk2 := hk; (try simp [knAll, Region.binds] at hk2); skip; refine got_call (f := 83) (args := ?_) (by go_simp; try (with_reducible rfl)) ?_; refine (HCK.out _).mono ?_; rintro E w9 ⟨rfl, o9⟩; exact ⟨_, rfl, rfl, hS.trans o9, o9⟩)); try simp only [List.nil_append, List.cons_append]))
    (refine fr_end ?_; intro x w9 hS hk)
    have e20 := kn_end_at 20 hk (by rfl)
    rw [Nat.zero_add] at e20
    rw [e20]
    have O9 := Lib.hid hS
    clear hk hS e20
    go_wp2_with fail
    go_ret
    exact ⟨rfl, O0.out.trans O9.out⟩
end Go.Proofs.YtoohpcomnhfgpaaGreat
end
