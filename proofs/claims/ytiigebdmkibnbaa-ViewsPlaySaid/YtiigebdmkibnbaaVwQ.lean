/- What the document's Full and Aside do. No statement of the seat is proved here. -/
import Derived.Test.YtiigebdmkibnbaaVwP
import Derived.Test.YtiigebdmkibnbaaDcE
import Derived.Test.YtiigebdmkibnbaaRes
namespace Go.Proofs.Ytiigebdmkibnbaa
open Go.RowKit
set_option linter.all false
set_option maxRecDepth 100000

theorem vq_load {P : Program} {ops : Array Oper} {rest : List Oper} {o : Oper} {a : Act} {w : World} {Q : Exit → Act → World → Prop} (hgd : o.guard = none) (ty : TypeId) (x : Operand) (ho : o.op = .load ty x)
    (g : Nat) (hx : a.eval x = .pointer (some ⟨g, 0, none⟩)) (t : TypeId) (cs : Array Value) (d : TypeDesc) (hg : Blk w g t cs)
    (hu : P.underlying ty = some d) (hd : (match d with | .struct _ | .array _ _ => true | _ => false) = true) (hi : (P.info? ty).map (·.size) = some cs.size)
    (h : wpList P ops Q rest (a.put o.dst (.agg cs)) w) : wpList P ops Q (o :: rest) a w :=
  wpList_plain hgd fun _ hK => wp_load_row ty x ho g hx t cs (0, 0) d hg hu hd hi (hK _ _ h)
theorem exec_piece {P : Program} {a : Act} {o : Oper} {w : World} (ty : TypeId) (x : Operand) (ho : o.op = .load ty x) (g off : Nat) (hx : a.eval x = .pointer (some ⟨g, off, none⟩)) (cs : Array Value) (d : TypeDesc)
    (hc : ∀ j u, cs.toList[j]? = some u → w.cell? ⟨g, off + j, none⟩ = some u)
    (hu : P.underlying ty = some d) (hd : (match d with | .struct _ | .array _ _ => true | _ => false) = true) (hi : (P.info? ty).map (·.size) = some cs.size) : (execOp a.eval o).run P w = .ok (.value (.agg cs)) w := by
  unfold execOp
  simp only [ho, hx, Instr.loadAt, Instr.sureAddr, Sem.run_bind, Sem.run_pure, Result.andThen_ok, run_load_piece w g off ty cs d hc hu hd hi]
theorem results_cell_tmp2 {P : Program} {fn : Func} {p q r : Tmp} {ty : TypeId} (h : fn.results = #[.cell p ty, .tmp q, .tmp r]) (tmps : Array Value) (w : World) (g : Nat) (t : TypeId) (cs : Array Value) (d : TypeDesc)
    (hp : tmps.getD p undef = .pointer (some ⟨g, 0, none⟩)) (hg : Blk w g t cs)
    (hu : P.underlying ty = some d) (hd : (match d with | .struct _ | .array _ _ => true | _ => false) = true) (hi : (P.info? ty).map (·.size) = some cs.size) (v : Value) (hq : tmps.getD q undef = v) (u : Value) (hr : tmps.getD r undef = u) :
    (results fn tmps).run P w = .ok (.tuple #[.agg cs, v, u]) w := by
  have hp' : tmps[p]?.getD undef = .pointer (some ⟨g, 0, none⟩) := by simpa using hp
  have hq' : tmps[q]?.getD undef = v := by simpa using hq
  have hr' : tmps[r]?.getD undef = u := by simpa using hr
  simp [results, h, hp', hq', hr', asAddr, run_loadVar_row w g t ty cs (0, 0) d hg hu hd hi]
theorem results_cell_tmp3 {P : Program} {fn : Func} {p q r s : Tmp} {ty : TypeId} (h : fn.results = #[.cell p ty, .tmp q, .tmp r, .tmp s]) (tmps : Array Value) (w : World) (g : Nat) (t : TypeId) (cs : Array Value) (d : TypeDesc)
    (hp : tmps.getD p undef = .pointer (some ⟨g, 0, none⟩)) (hg : Blk w g t cs)
    (hu : P.underlying ty = some d) (hd : (match d with | .struct _ | .array _ _ => true | _ => false) = true) (hi : (P.info? ty).map (·.size) = some cs.size) (v : Value) (hq : tmps.getD q undef = v) (u : Value) (hr : tmps.getD r undef = u) (y : Value) (hs : tmps.getD s undef = y) :
    (results fn tmps).run P w = .ok (.tuple #[.agg cs, v, u, y]) w := by
  have hp' : tmps[p]?.getD undef = .pointer (some ⟨g, 0, none⟩) := by simpa using hp
  have hq' : tmps[q]?.getD undef = v := by simpa using hq
  have hr' : tmps[r]?.getD undef = u := by simpa using hr
  have hs' : tmps[s]?.getD undef = y := by simpa using hs
  simp [results, h, hp', hq', hr', hs', asAddr, run_loadVar_row w g t ty cs (0, 0) d hg hu hd hi]
/-- The boxes of a call of the document's: the views, what is told. -/
structure Dz (w : World) (b : Nat) (cs : Array Value) (X : World) : Prop where
  x : Blk X b 31 cs
  z : Blk X (b + 1) 31 #[.int .i64 0, .bool false, .bool false, .bool false, .bool false, .bool false, .bool false, .bool false, .bool false, .bool false, .bool false, .bool false, .bool false, .bool false, .bool false, .bool false, .bool false, .bool false, .bool false, .bool false, .bool false, .bool false, .bool false, .bool false, .bool false, .int .i64 0, .int .i64 0]
  ho : Only none_ w X
  ge : w.heap.size = b
theorem Dz.keep {w X X' : World} {b : Nat} {cs : Array Value} (h : Dz w b cs X) (o : Only none_ X X') : Dz w b cs X' := ⟨h.x.only o (fun h => h), h.z.only o (fun h => h), h.ho.trans o, h.ge⟩
theorem Dz.mk0 (w : World) (cs : Array Value) : Dz w w.heap.size cs ((w.alloc (.cells cs 31)).alloc (.cells #[.int .i64 0, .bool false, .bool false, .bool false, .bool false, .bool false, .bool false, .bool false, .bool false, .bool false, .bool false, .bool false, .bool false, .bool false, .bool false, .bool false, .bool false, .bool false, .bool false, .bool false, .bool false, .bool false, .bool false, .bool false, .bool false, .int .i64 0, .int .i64 0] 31)) := by
  refine ⟨(Blk.new w _ _).alloc _, ?_, ((Only.refl none_ w).alloc _).alloc _, rfl⟩
  have := Blk.new (w.alloc (.cells cs 31)) 31 #[.int .i64 0, .bool false, .bool false, .bool false, .bool false, .bool false, .bool false, .bool false, .bool false, .bool false, .bool false, .bool false, .bool false, .bool false, .bool false, .bool false, .bool false, .bool false, .bool false, .bool false, .bool false, .bool false, .bool false, .bool false, .bool false, .int .i64 0, .int .i64 0]
  rwa [World.size_alloc] at this
theorem Dz.set {w X : World} {b : Nat} {cs : Array Value} (h : Dz w b cs X) (i : Nat) (u : Value) : Dz w b (cs.setIfInBounds i u) (X.setCell ⟨b, i, none⟩ u) := by
  have o : Only (one b) X (X.setCell ⟨b, i, none⟩ u) := (Only.refl (one b) X).setCell (.inl (show one b b from rfl)) u
  exact ⟨h.x.set_ i u, h.z.only o (fun e => by have e' : b + 1 = b := e; omega), h.ho.trans' o (fun k hk e => by have e' : k = b := e; have := h.ge; omega), h.ge⟩
theorem Dz.row {w X : World} {b : Nat} {cs cs' : Array Value} (h : Dz w b cs X) : Dz w b cs' (X.setRow b cs') := by
  have o : Only (one b) X (X.setRow b cs') := (Only.refl (one b) X).setRow (.inl (show one b b from rfl)) cs'
  exact ⟨h.x.setRow cs', h.z.only o (fun e => by have e' : b + 1 = b := e; omega), h.ho.trans' o (fun k hk e => by have e' : k = b := e; have := h.ge; omega), h.ge⟩
theorem Dz.fin {w X : World} {b : Nat} {cs : Array Value} (h : Dz w b cs X) : Blk (X.setRow (b + 1) cs) (b + 1) 31 cs ∧ Only none_ w (X.setRow (b + 1) cs) :=
  ⟨h.z.setRow cs, h.ho.trans' ((Only.refl (one (b + 1)) X).setRow (.inl (show one (b + 1) (b + 1) from rfl)) cs) (fun k hk e => by have e' : k = b + 1 := e; have := h.ge; omega)⟩
theorem rv_list (l : List Int) (h : Rl l) (w : World) :
    Calls Try.prog 30 #[.agg (varr (fb l))] w fun e w' => ∃ A c, e = .returned (.slice A l.length c) ∧ Nm w' (fun b => w.heap.size ≤ b) (.slice A l.length c) l ∧ Only none_ w w' := by
  refine (rv_listN (fb l) w).mono ?_
  rw [lst_fb h]
  rintro e w' ⟨v, rfl, h1, h2⟩
  obtain ⟨A, n, c, rfl⟩ := own_sl h1
  obtain rfl : l.length = n := (own_len h1).symm
  exact ⟨A, c, rfl, (Cel.of_own h1).mono (fun b _ hb => (h1.lt b hb).1), h2⟩

set_option maxHeartbeats 3200000 in
theorem rv_full (self : Int) (l : List Int) (g : Nat → Bool) (a p : Nat) (h : Rl l) (hl : l.length ≤ a) (w : World) :
    Calls Try.prog 32 #[.agg (vrw self (fb l) g a p)] w fun e w' => e = .returned (.bool (decide (l.length = a))) ∧ Only none_ w w' := by
  have BX : Hid (Blk (w.alloc (.cells (vrw self (fb l) g a p) 31)) w.heap.size 31 (vrw self (fb l) g a p)) := Blk.new _ _ _
  have OX : Hid (Only none_ w (w.alloc (.cells (vrw self (fb l) g a p) 31))) := (Only.refl none_ w).alloc _
  have HL := Lib.hid h
  obtain ⟨L, hL⟩ : ∃ y, l.length = y := ⟨_, rfl⟩
  have HN := Lib.hid hL
  obtain ⟨b, hb⟩ : ∃ y, decide (L = a) = y := ⟨_, rfl⟩
  have hge : decide ((a : Int) ≤ (L : Int)) = b := by rw [← hb, decide_eq_decide]; omega
  have hge2 : decide (a ≤ L) = b := by rw [← hb, decide_eq_decide]; omega
  rw [hL, hb]
  clear h hl hL hb
  go_enter Try.func32, Try.ntmps32
  go_wp2_with fail
  generalize w.alloc (.cells (vrw self (fb l) g a p) 31) = W1 at *
  generalize w.heap.size = b0 at *
  (refine wp_region_free_tail (fun X => Only none_ W1 X) (Only none_) (F := ?_) (by kernel_rfl) 7 10 (by rfl) (by kernel_rfl) (fun x => ?_) ((Only.refl none_ W1).drew) ?_; rotate_left; (· (simp only [List.take_succ_cons, List.take_zero, putsL, Act.put, List.setIfInBounds_toArray, List.set_cons_zero, List.set_cons_succ, Nat.reduceAdd]; exact rfl)); simp only [List.take_succ_cons, List.take_zero, List.drop_succ_cons, List.drop_zero])
  ((first | refine fr_value (c := ?_) (by rfl) (fun w => Only.refl none_ w) (fun x w0 hS hk => ?_) ?_ | refine fr_value_if (c := ?_) (by rfl) (by rfl) (by rfl) (fun w => Only.refl none_ w) (fun x w0 hS hk => ?_) ?_); rotate_left; (· (have hk2 := hk; (try simp [knAll, Region.binds] at hk2); skip; go_simp; try (with_reducible rfl))); try simp only [List.nil_append, List.cons_append])
  (refine fr_value (c := .agg (varr (fb l))) (by rfl) (fun w => Only.refl none_ w) (fun x w0 hS hk => exec_piece 29 _ rfl b0 1 (by have hk2 := hk; (try simp [knAll, Region.binds] at hk2); simp [Act.eval, Act.put, hk2]) (varr (fb l)) _ ((BX.out.only hS (fun h => h)).piece 1 (varr (fb l)) vrw_pieceA) Try.underlying29 rfl (by kernel_rfl)) ?_; try simp only [List.nil_append, List.cons_append])
  repeat (first
    | ((first | refine fr_value (c := ?_) (by rfl) (fun w => Only.refl none_ w) (fun x w0 hS hk => ?_) ?_ | refine fr_value_if (c := ?_) (by rfl) (by rfl) (by rfl) (fun w => Only.refl none_ w) (fun x w0 hS hk => ?_) ?_); rotate_left; (· (have hk2 := hk; (try simp [knAll, Region.binds] at hk2); skip; go_simp; try (with_reducible rfl))); try simp only [List.nil_append, List.cons_append])
    | (refine fr_value (c := .agg (varr (fb l))) (by rfl) (fun w => Only.refl none_ w) (fun x w0 hS hk => exec_piece 29 _ rfl b0 1 (by have hk2 := hk; (try simp [knAll, Region.binds] at hk2); simp [Act.eval, Act.put, hk2]) (varr (fb l)) _ ((BX.out.only hS (fun h => h)).piece 1 (varr (fb l)) vrw_pieceA) Try.underlying29 rfl (by kernel_rfl)) ?_; try simp only [List.nil_append, List.cons_append])
    | ((first | refine fr_some (fun v _ => ∃ A c, v = .slice A L c) (fun _ _ _ _ _ _ h => h) (by rfl) (fun x w0 hS hk => ?_) ?_ | refine fr_some_if (fun v _ => ∃ A c, v = .slice A L c) (fun _ _ _ _ _ _ h => h) (by rfl) (by rfl) (by rfl) (fun x w0 hS hk => ?_) ?_); (· (have hk2 := hk; (try simp [knAll, Region.binds] at hk2); skip; refine got_call (f := 30) (args := ?_) (by go_simp; try (with_reducible rfl)) ?_; refine (rv_list l HL.out _).mono ?_; rw [HN.out]; rintro E w8 ⟨A8, c8, rfl, _, o8⟩; exact ⟨_, rfl, ⟨_, _, rfl⟩, hS.trans o8, o8⟩)); try simp only [List.nil_append, List.cons_append])
    | ((first | refine fr_value (c := ?_) (by rfl) (fun w => Only.refl none_ w) (fun x w0 hS hk => ?_) ?_ | refine fr_value_if (c := ?_) (by rfl) (by rfl) (by rfl) (fun w => Only.refl none_ w) (fun x w0 hS hk => ?_) ?_); rotate_left; (· (have hk2 := hk; (try simp [knAll, Region.binds] at hk2); obtain ⟨A1, c1, e1⟩ := kn_at (j := 2) (by rfl) hk (by rfl); simp only [e1]; go_simp; try (with_reducible rfl))); try simp only [List.nil_append, List.cons_append])
    | ((first | refine fr_value (c := ?_) (by rfl) (fun w => Only.refl none_ w) (fun x w0 hS hk => ?_) ?_ | refine fr_value_if (c := ?_) (by rfl) (by rfl) (by rfl) (fun w => Only.refl none_ w) (fun x w0 hS hk => ?_) ?_); rotate_left; (· (have hk2 := hk; (try simp [knAll, Region.binds] at hk2); have q26 : w0.cell? ⟨b0, 25, none⟩ = some (.int .i64 (a : Int)) := (BX.out.only hS (fun h => h)).cell_ (i := 25) rfl; go_simp; try (with_reducible rfl))); try simp only [List.nil_append, List.cons_append])
    | ((first | refine fr_value (c := ?_) (by rfl) (fun w => Only.refl none_ w) (fun x w0 hS hk => ?_) ?_ | refine fr_value_if (c := ?_) (by rfl) (by rfl) (by rfl) (fun w => Only.refl none_ w) (fun x w0 hS hk => ?_) ?_); rotate_left; (· (have hk2 := hk; (try simp [knAll, Region.binds] at hk2); have e1 := hge2; have e2 := hge; go_simp; try (with_reducible rfl))); try simp only [List.nil_append, List.cons_append]))
  (refine fr_end ?_; intro x w9 hS hk)
  have e9 := kn_end_at 6 hk (by rfl)
  have HS := Lib.hid hS
  rw [Nat.zero_add] at e9
  rw [e9]
  clear hk e9 hS
  go_wp2_with fail
  go_ret
  exact ⟨rfl, OX.out.trans HS.out⟩
end Go.Proofs.Ytiigebdmkibnbaa
