/- A sum that entries come to and go from, in one goroutine. No statement of the seat is proved here. -/
import Derived.Test.YtkailngpmodfhaaSmA
import Derived.Laws.LoneSync
import Derived.Test.YtkailngpmodfhaaEnE
namespace Go.Proofs.Ytkailngpmodfhaa
open Go.RowKit
set_option maxRecDepth 100000
set_option linter.all false

theorem add_u64 (a b : Int) (w : World) : (Op.intArith .add .u64 a b).run Try.prog w = .ok (.int .u64 (w64 (a + b))) w := by
  rw [← w64_wrap]; rfl
theorem uadd (a : Addr) (n m s : Int) (w : World) (hc : w.cell? a = some (.int .u64 n)) (hz : w.frozen? a = false) (hs : w64 (n + m) = s) :
    Calls Try.prog 61 #[.pointer (some a), .int .u64 m] w fun e w' => e = .returned (.int .u64 s) ∧ w' = w.setCell a (.int .u64 s) := by
  have hst := run_call_add (P := Try.prog) Try.func80 (by kernel_rfl) (by kernel_rfl) (by kernel_rfl) .u64 (by kernel_rfl) (y := m) (s := s) hc hz (by rw [← hs]; exact add_u64 n m w)
  clear hs
  go_enter Try.func61, Try.ntmps61
  go_wp2
  go_ret
  exact ⟨rfl, rfl⟩
theorem uload (a : Addr) (n : Int) (w : World) (hc : w.cell? a = some (.int .u64 n)) :
    Calls Try.prog 62 #[.pointer (some a)] w fun e w' => e = .returned (.int .u64 n) ∧ w = w' := by
  have hl := run_call_load (P := Try.prog) Try.func81 (by kernel_rfl) (by kernel_rfl) (by kernel_rfl) .u64 (by kernel_rfl) hc
  go_enter Try.func62, Try.ntmps62
  go_wp2
  go_ret
  exact ⟨rfl, rfl⟩

/-- At block g lies a sum of z. -/
def Su (w : World) (g : Nat) (z : Int) : Prop := Blk w g 92 #[.int .u64 (w64 z)]
section
variable {w w' : World} {g : Nat} {z : Int}
theorem Su.cell (h : Su w g z) : w.cell? ⟨g, 0, none⟩ = some (.int .u64 (w64 z)) := Blk.cell_ (t := 92) h rfl
theorem Su.free (h : Su w g z) : w.frozen? ⟨g, 0, none⟩ = false := Blk.frozen (t := 92) h 0
theorem Su.lt (h : Su w g z) : g < w.heap.size := Blk.lt (t := 92) h
theorem Su.only {S : Nat → Prop} (h : Su w g z) (ho : Only S w w') (hn : ¬ S g) : Su w' g z := Blk.only (t := 92) h ho hn
theorem Su.keep (h : Su w g z) (ho : Only none_ w w') : Su w' g z := h.only ho (fun h => h)
theorem Su.drew (h : Su w g z) : Su w.drew g z := h
theorem Su.alloc (h : Su w g z) (o : Obj) : Su (w.alloc o) g z := Blk.alloc (t := 92) h o
theorem Su.set_ (h : Su w g z) (y : Int) : Su (w.setCell ⟨g, 0, none⟩ (.int .u64 (w64 y))) g y := by
  have := Blk.set_ (t := 92) h 0 (.int .u64 (w64 y))
  unfold Su
  simpa using this
theorem Su.new (w : World) : Su (w.alloc (.cells #[.int .u64 0] 92)) w.heap.size 0 := Blk.new w _ _
theorem Su.eq (h : Su w g z) {y : Int} (e : w64 z = w64 y) : Su w g y := by unfold Su at h ⊢; rw [← e]; exact h
end

/-- An entry in a box, and a sum. -/
structure Tm (W : World) (t : TypeId) (g h1 : Nat) (z : Int) (a : En) (w : World) : Prop where
  x : Blk w h1 t #[.string a.k, .string a.v, .bool a.d, .int .i64 a.s.c, .int .i64 a.s.s, .int .i64 a.a.c, .int .i64 a.a.s, .int .i64 a.p, .int .i64 a.g]
  s : Su w g z
  ho : Only none_ W w
theorem Tm.keep {W w w' : World} {t : TypeId} {g h1 : Nat} {z : Int} {a : En} (k : Tm W t g h1 z a w) (o : Only none_ w w') : Tm W t g h1 z a w' := ⟨k.x.only o (fun h => h), k.s.keep o, k.ho.trans o⟩
set_option maxHeartbeats 1600000 in
theorem su_add (g : Nat) (z : Int) (e : En) (w : World) (h : Su w g z) :
    Calls Try.prog 40 #[.pointer (some ⟨g, 0, none⟩), .agg #[.string e.k, .string e.v, .bool e.d, .int .i64 e.s.c, .int .i64 e.s.s, .int .i64 e.a.c, .int .i64 e.a.s, .int .i64 e.p, .int .i64 e.g]] w fun E w' => E = .returned (.int .u64 (w64 (z + hsh e))) ∧ Su w' g (z + hsh e) ∧ Only (one g) w w' := by
  have T : Hid (Tm w 78 g w.heap.size z e (w.alloc (.cells #[.string e.k, .string e.v, .bool e.d, .int .i64 e.s.c, .int .i64 e.s.s, .int .i64 e.a.c, .int .i64 e.a.s, .int .i64 e.p, .int .i64 e.g] 78))) := ⟨Blk.new w _ _, h.alloc _, (Only.refl none_ w).alloc _⟩
  clear h
  go_enter Try.func40, Try.ntmps40
  go_wp2_with fail
  have t2 := T.out.keep (Only.refl none_ _).drew
  (refine wp_region_steady (fun w' => Tm w 78 g w.heap.size z e w') 5 (by kernel_rfl) (by kernel_rfl) (t2) ?_; simp only [List.take_succ_cons, List.take_zero, List.drop_succ_cons, List.drop_zero])
  repeat (first
    | (refine sd_value (v := ?_) (by rfl) (fun w0 hS => ?_) ?_; rotate_left; (· (skip; go_simp; try (with_reducible rfl))); try simp only [Act.put, List.setIfInBounds_toArray, List.set_cons_zero, List.set_cons_succ])
    | (refine sd_value (v := ?_) (by rfl) (fun w0 hS => ?_) ?_; rotate_left; (· (have hc := nine_of hS.x; go_simp; try (with_reducible rfl))); try simp only [Act.put, List.setIfInBounds_toArray, List.set_cons_zero, List.set_cons_succ])
    | (refine sd_call (v := ?_) (f := 31) (args := ?_) (by rfl) (fun w0 hS => ?_) (fun w0 hS => ?_) ?_; rotate_left 2; (· (skip; go_simp; try (with_reducible rfl))); (· (refine (sm_hash _ _).mono ?_; rintro E w8 ⟨rfl, o8⟩; refine ⟨?_, hS.keep o8⟩; rfl)); try simp only [Act.put, List.setIfInBounds_toArray, List.set_cons_zero, List.set_cons_succ]))
  refine sd_nil ?_
  intro w5 t5
  have S3 := Lib.hid t5.s
  have O3 := Lib.hid t5.ho
  clear t5 t2
  go_wp2_with (first
    | (go_at_call 61; refine (uadd ⟨g, 0, none⟩ _ _ (w64 (z + hsh e)) _ S3.out.cell S3.out.free (by first | exact w64_add _ _ | exact hw.out | exact hw2.out)).mono ?_; rintro E w4 ⟨rfl, rfl⟩))
  go_ret
  exact ⟨rfl, S3.out.set_ _, (O3.out.of_none).setCell (p := ⟨g, 0, none⟩) (.inl (show one g g from rfl)) _⟩
set_option maxHeartbeats 1600000 in
theorem su_drop (g : Nat) (z : Int) (e : En) (w : World) (h : Su w g z) :
    Calls Try.prog 38 #[.pointer (some ⟨g, 0, none⟩), .agg #[.string e.k, .string e.v, .bool e.d, .int .i64 e.s.c, .int .i64 e.s.s, .int .i64 e.a.c, .int .i64 e.a.s, .int .i64 e.p, .int .i64 e.g]] w fun E w' => E = .returned (.int .u64 (w64 (z - hsh e))) ∧ Su w' g (z - hsh e) ∧ Only (one g) w w' := by
  have T : Hid (Tm w 78 g w.heap.size z e (w.alloc (.cells #[.string e.k, .string e.v, .bool e.d, .int .i64 e.s.c, .int .i64 e.s.s, .int .i64 e.a.c, .int .i64 e.a.s, .int .i64 e.p, .int .i64 e.g] 78))) := ⟨Blk.new w _ _, h.alloc _, (Only.refl none_ w).alloc _⟩
  have hw : Hid (w64 (w64 z + (-(hsh e : Int)) % 18446744073709551616) = w64 (z - hsh e)) := by rw [Hid]; exact (w64_add2 _ _).trans (by rw [w64_add, ← Int.sub_eq_add_neg])
  have hw2 : Hid (w64 (w64 z + IntKind.u64.wrap (-(hsh e : Int))) = w64 (z - hsh e)) := by rw [Hid, IntKind.wrap_u64]; exact hw.out
  clear h
  go_enter Try.func38, Try.ntmps38
  go_wp2_with fail
  have t2 := T.out.keep (Only.refl none_ _).drew
  (refine wp_region_steady (fun w' => Tm w 78 g w.heap.size z e w') 6 (by kernel_rfl) (by kernel_rfl) (t2) ?_; simp only [List.take_succ_cons, List.take_zero, List.drop_succ_cons, List.drop_zero])
  repeat (first
    | (refine sd_value (v := ?_) (by rfl) (fun w0 hS => ?_) ?_; rotate_left; (· (skip; go_simp; try (with_reducible rfl))); try simp only [Act.put, List.setIfInBounds_toArray, List.set_cons_zero, List.set_cons_succ])
    | (refine sd_value (v := ?_) (by rfl) (fun w0 hS => ?_) ?_; rotate_left; (· (have hc := nine_of hS.x; go_simp; try (with_reducible rfl))); try simp only [Act.put, List.setIfInBounds_toArray, List.set_cons_zero, List.set_cons_succ])
    | (refine sd_call (v := ?_) (f := 31) (args := ?_) (by rfl) (fun w0 hS => ?_) (fun w0 hS => ?_) ?_; rotate_left 2; (· (skip; go_simp; try (with_reducible rfl))); (· (refine (sm_hash _ _).mono ?_; rintro E w8 ⟨rfl, o8⟩; refine ⟨?_, hS.keep o8⟩; rfl)); try simp only [Act.put, List.setIfInBounds_toArray, List.set_cons_zero, List.set_cons_succ]))
  refine sd_nil ?_
  intro w5 t5
  have S3 := Lib.hid t5.s
  have O3 := Lib.hid t5.ho
  clear t5 t2
  go_wp2_with (first
    | (go_at_call 61; refine (uadd ⟨g, 0, none⟩ _ _ (w64 (z - hsh e)) _ S3.out.cell S3.out.free (by first | exact w64_add _ _ | exact hw.out | exact hw2.out)).mono ?_; rintro E w4 ⟨rfl, rfl⟩))
  go_ret
  exact ⟨rfl, S3.out.set_ _, (O3.out.of_none).setCell (p := ⟨g, 0, none⟩) (.inl (show one g g from rfl)) _⟩
theorem su_value (g : Nat) (z : Int) (w : World) (h : Su w g z) :
    Calls Try.prog 41 #[.pointer (some ⟨g, 0, none⟩)] w fun E w' => E = .returned (.int .u64 (w64 z)) ∧ w = w' := by
  have h0 := h.cell
  have H := Lib.hid h
  clear h
  go_enter Try.func41, Try.ntmps41
  go_wp2_with (go_at_call 62; refine (uload _ _ _ h0).mono ?_; rintro e w' ⟨rfl, rfl⟩)
  go_ret
  exact ⟨rfl, rfl⟩

/-- Two entries in boxes, and a sum. -/
structure Tn (W : World) (t u : TypeId) (g h1 h2 : Nat) (z : Int) (a b : En) (w : World) : Prop where
  x : Blk w h1 t #[.string a.k, .string a.v, .bool a.d, .int .i64 a.s.c, .int .i64 a.s.s, .int .i64 a.a.c, .int .i64 a.a.s, .int .i64 a.p, .int .i64 a.g]
  y : Blk w h2 u #[.string b.k, .string b.v, .bool b.d, .int .i64 b.s.c, .int .i64 b.s.s, .int .i64 b.a.c, .int .i64 b.a.s, .int .i64 b.p, .int .i64 b.g]
  s : Su w g z
  ho : Only none_ W w
theorem Tn.keep {W w w' : World} {t u : TypeId} {g h1 h2 : Nat} {z : Int} {a b : En} (k : Tn W t u g h1 h2 z a b w) (o : Only none_ w w') : Tn W t u g h1 h2 z a b w' := ⟨k.x.only o (fun h => h), k.y.only o (fun h => h), k.s.keep o, k.ho.trans o⟩

set_option maxHeartbeats 3200000 in
theorem su_turn (g : Nat) (z : Int) (a b : En) (w : World) (h : Su w g z) :
    Calls Try.prog 39 #[.pointer (some ⟨g, 0, none⟩), .agg #[.string a.k, .string a.v, .bool a.d, .int .i64 a.s.c, .int .i64 a.s.s, .int .i64 a.a.c, .int .i64 a.a.s, .int .i64 a.p, .int .i64 a.g], .agg #[.string b.k, .string b.v, .bool b.d, .int .i64 b.s.c, .int .i64 b.s.s, .int .i64 b.a.c, .int .i64 b.a.s, .int .i64 b.p, .int .i64 b.g]] w fun E w' => E = .returned (.int .u64 (w64 (z + (hsh b - hsh a)))) ∧ Su w' g (z + (hsh b - hsh a)) ∧ Only (one g) w w' := by
  have T : Hid (Tn w 78 78 g w.heap.size (w.heap.size + 1) z a b ((w.alloc (.cells #[.string a.k, .string a.v, .bool a.d, .int .i64 a.s.c, .int .i64 a.s.s, .int .i64 a.a.c, .int .i64 a.a.s, .int .i64 a.p, .int .i64 a.g] 78)).alloc (.cells #[.string b.k, .string b.v, .bool b.d, .int .i64 b.s.c, .int .i64 b.s.s, .int .i64 b.a.c, .int .i64 b.a.s, .int .i64 b.p, .int .i64 b.g] 78))) := by
    have B := Blk.new (w.alloc (.cells #[.string a.k, .string a.v, .bool a.d, .int .i64 a.s.c, .int .i64 a.s.s, .int .i64 a.a.c, .int .i64 a.a.s, .int .i64 a.p, .int .i64 a.g] 78)) 78 #[.string b.k, .string b.v, .bool b.d, .int .i64 b.s.c, .int .i64 b.s.s, .int .i64 b.a.c, .int .i64 b.a.s, .int .i64 b.p, .int .i64 b.g]
    rw [World.size_alloc] at B
    exact ⟨(Blk.new w _ _).alloc _, B, (h.alloc _).alloc _, ((Only.refl none_ w).alloc _).alloc _⟩
  have hw : Hid (w64 (w64 z + ((hsh b : Int) - hsh a) % 18446744073709551616) = w64 (z + (hsh b - hsh a))) := by rw [Hid]; exact (w64_add2 _ _).trans (w64_add _ _)
  have hw2 : Hid (w64 (w64 z + IntKind.u64.wrap ((hsh b : Int) - hsh a)) = w64 (z + (hsh b - hsh a))) := by rw [Hid, IntKind.wrap_u64]; exact hw.out
  clear h
  go_enter Try.func39, Try.ntmps39
  go_wp2_with fail
  have t2 := T.out.keep (Only.refl none_ _).drew
  (refine wp_region_steady (fun w' => Tn w 78 78 g w.heap.size (w.heap.size + 1) z a b w') 8 (by kernel_rfl) (by kernel_rfl) (t2) ?_; simp only [List.take_succ_cons, List.take_zero, List.drop_succ_cons, List.drop_zero])
  repeat (first
    | (refine sd_value (v := ?_) (by rfl) (fun w0 hS => ?_) ?_; rotate_left; (· (skip; go_simp; try (with_reducible rfl))); try simp only [Act.put, List.setIfInBounds_toArray, List.set_cons_zero, List.set_cons_succ])
    | (refine sd_value (v := ?_) (by rfl) (fun w0 hS => ?_) ?_; rotate_left; (· (have hc := nine_of hS.x; go_simp; try (with_reducible rfl))); try simp only [Act.put, List.setIfInBounds_toArray, List.set_cons_zero, List.set_cons_succ])
    | (refine sd_value (v := ?_) (by rfl) (fun w0 hS => ?_) ?_; rotate_left; (· (have hc := nine_of hS.y; go_simp; try (with_reducible rfl))); try simp only [Act.put, List.setIfInBounds_toArray, List.set_cons_zero, List.set_cons_succ])
    | (refine sd_call (v := ?_) (f := 31) (args := ?_) (by rfl) (fun w0 hS => ?_) (fun w0 hS => ?_) ?_; rotate_left 2; (· (skip; go_simp; try (with_reducible rfl))); (· (refine (sm_hash _ _).mono ?_; rintro E w8 ⟨rfl, o8⟩; refine ⟨?_, hS.keep o8⟩; rfl)); try simp only [Act.put, List.setIfInBounds_toArray, List.set_cons_zero, List.set_cons_succ]))
  refine sd_nil ?_
  intro w5 t5
  have S3 := Lib.hid t5.s
  have O3 := Lib.hid t5.ho
  clear t5 t2
  go_wp2_with (first
    | (go_at_call 61; refine (uadd ⟨g, 0, none⟩ _ _ (w64 (z + (hsh b - hsh a))) _ S3.out.cell S3.out.free (by first | exact hw.out | exact hw2.out)).mono ?_; rintro E w4 ⟨rfl, rfl⟩))
  go_ret
  exact ⟨rfl, S3.out.set_ _, (O3.out.of_none).setCell (p := ⟨g, 0, none⟩) (.inl (show one g g from rfl)) _⟩
end Go.Proofs.Ytkailngpmodfhaa
