/- Texts of mine, one behind the other: EnE, TbEe. No statement of the seat is proved here. -/
import Derived.Test.YtniacolkjdmflaaPg9
import Derived.Test.YtniacolkjdmflaaPg7
import Derived.Test.YtniacolkjdmflaaPg6
import Derived.Test.YtniacolkjdmflaaPg8
section
namespace Go.Proofs.Ytniacolkjdmflaa
open Go.RowKit
set_option maxRecDepth 100000

/-- The nine cells of an entry. -/
abbrev Nine (w : World) (g : Nat) (a0 a1 a2 a3 a4 a5 a6 a7 a8 : Value) : Prop := w.cell? ⟨g, 0, none⟩ = some a0 ∧ w.cell? ⟨g, 1, none⟩ = some a1 ∧ w.cell? ⟨g, 2, none⟩ = some a2 ∧ w.cell? ⟨g, 3, none⟩ = some a3 ∧ w.cell? ⟨g, 4, none⟩ = some a4 ∧ w.cell? ⟨g, 5, none⟩ = some a5 ∧ w.cell? ⟨g, 6, none⟩ = some a6 ∧ w.cell? ⟨g, 7, none⟩ = some a7 ∧ w.cell? ⟨g, 8, none⟩ = some a8
theorem nine_of {w : World} {g : Nat} {t : TypeId} {a0 a1 a2 a3 a4 a5 a6 a7 a8 : Value} (h : Blk w g t #[a0, a1, a2, a3, a4, a5, a6, a7, a8]) : Nine w g a0 a1 a2 a3 a4 a5 a6 a7 a8 :=
  ⟨h.cell_ rfl, h.cell_ rfl, h.cell_ rfl, h.cell_ rfl, h.cell_ rfl, h.cell_ rfl, h.cell_ rfl, h.cell_ rfl, h.cell_ rfl⟩
theorem frozen9 {w : World} {g : Nat} {t : TypeId} {cs : Array Value} (h : Blk w g t cs) : w.frozen? ⟨g, 0, none⟩ = false ∧ w.frozen? ⟨g, 1, none⟩ = false ∧ w.frozen? ⟨g, 2, none⟩ = false ∧ w.frozen? ⟨g, 3, none⟩ = false ∧ w.frozen? ⟨g, 4, none⟩ = false ∧ w.frozen? ⟨g, 5, none⟩ = false ∧ w.frozen? ⟨g, 6, none⟩ = false ∧ w.frozen? ⟨g, 7, none⟩ = false ∧ w.frozen? ⟨g, 8, none⟩ = false :=
  ⟨h.frozen 0, h.frozen 1, h.frozen 2, h.frozen 3, h.frozen 4, h.frozen 5, h.frozen 6, h.frozen 7, h.frozen 8⟩
/-- Nine stores. -/
abbrev fill9 (w : World) (h : Nat) (a0 a1 a2 a3 a4 a5 a6 a7 a8 : Value) : World := ((((((((w.setCell ⟨h, 0, none⟩ a0).setCell ⟨h, 1, none⟩ a1).setCell ⟨h, 2, none⟩ a2).setCell ⟨h, 3, none⟩ a3).setCell ⟨h, 4, none⟩ a4).setCell ⟨h, 5, none⟩ a5).setCell ⟨h, 6, none⟩ a6).setCell ⟨h, 7, none⟩ a7).setCell ⟨h, 8, none⟩ a8
theorem fill9_blk {w : World} {g : Nat} {t : TypeId} {b0 b1 b2 b3 b4 b5 b6 b7 b8 : Value} (hb : Blk w g t #[b0, b1, b2, b3, b4, b5, b6, b7, b8]) (a0 a1 a2 a3 a4 a5 a6 a7 a8 : Value) : Blk (fill9 w g a0 a1 a2 a3 a4 a5 a6 a7 a8) g t #[a0, a1, a2, a3, a4, a5, a6, a7, a8] := by
  have := ((((((((hb.set_ 0 a0).set_ 1 a1).set_ 2 a2).set_ 3 a3).set_ 4 a4).set_ 5 a5).set_ 6 a6).set_ 7 a7).set_ 8 a8
  simpa using this
theorem fill9_far {w : World} {g h : Nat} {t : TypeId} {cs : Array Value} (hb : Blk w g t cs) (hn : g ≠ h) (a0 a1 a2 a3 a4 a5 a6 a7 a8 : Value) : Blk (fill9 w h a0 a1 a2 a3 a4 a5 a6 a7 a8) g t cs :=
  ((((((((hb.far hn a0).far hn a1).far hn a2).far hn a3).far hn a4).far hn a5).far hn a6).far hn a7).far hn a8
theorem fill9_only {w : World} {h : Nat} {S : Nat → Prop} {a : World} (o : Only S a w) (hg : S h ∨ a.heap.size ≤ h) (a0 a1 a2 a3 a4 a5 a6 a7 a8 : Value) : Only S a (fill9 w h a0 a1 a2 a3 a4 a5 a6 a7 a8) :=
  ((((((((o.setCell (p := ⟨h, 0, none⟩) hg a0).setCell (p := ⟨h, 1, none⟩) hg a1).setCell (p := ⟨h, 2, none⟩) hg a2).setCell (p := ⟨h, 3, none⟩) hg a3).setCell (p := ⟨h, 4, none⟩) hg a4).setCell (p := ⟨h, 5, none⟩) hg a5).setCell (p := ⟨h, 6, none⟩) hg a6).setCell (p := ⟨h, 7, none⟩) hg a7).setCell (p := ⟨h, 8, none⟩) hg a8

/-- An entry in block g, another one in block h; all else as in B. -/
structure Bo (B : World) (g h : Nat) (t u : TypeId) (e f : En) (w : World) : Prop where
  x : Blk w g t #[.string e.k, .string e.v, .bool e.d, .int .i64 e.s.c, .int .i64 e.s.s, .int .i64 e.a.c, .int .i64 e.a.s, .int .i64 e.p, .int .i64 e.g]
  y : Blk w h u #[.string f.k, .string f.v, .bool f.d, .int .i64 f.s.c, .int .i64 f.s.s, .int .i64 f.a.c, .int .i64 f.a.s, .int .i64 f.p, .int .i64 f.g]
  ho : Only none_ B w
section
variable {B w w' : World} {g h : Nat} {t u : TypeId} {e f : En}
theorem Bo.keep (b : Bo B g h t u e f w) (o : Only none_ w w') : Bo B g h t u e f w' := ⟨b.x.only o (fun h => h), b.y.only o (fun h => h), b.ho.trans o⟩
theorem Bo.cells (b : Bo B g h t u e f w) : Nine w g (.string e.k) (.string e.v) (.bool e.d) (.int .i64 e.s.c) (.int .i64 e.s.s) (.int .i64 e.a.c) (.int .i64 e.a.s) (.int .i64 e.p) (.int .i64 e.g) := nine_of b.x
theorem Bo.far (b : Bo B g h t u e f w) (hn : g ≠ h) (a0 a1 a2 a3 a4 a5 a6 a7 a8 : Value) : Nine (fill9 w h a0 a1 a2 a3 a4 a5 a6 a7 a8).drew g (.string e.k) (.string e.v) (.bool e.d) (.int .i64 e.s.c) (.int .i64 e.s.s) (.int .i64 e.a.c) (.int .i64 e.a.s) (.int .i64 e.p) (.int .i64 e.g) := nine_of (fill9_far b.x hn a0 a1 a2 a3 a4 a5 a6 a7 a8).drew
end

set_option maxHeartbeats 1600000 in
theorem en_to (e : En) (w : World) :
    Calls Try.prog 22 #[.agg #[.string e.k, .string e.v, .bool e.d, .int .i64 e.s.c, .int .i64 e.s.s, .int .i64 e.a.c, .int .i64 e.a.s, .int .i64 e.p, .int .i64 e.g]] w fun E w' => E = .returned (.agg #[.string e.k, .string e.v, .bool e.d, .int .i64 e.s.c, .int .i64 e.s.s, .int .i64 e.a.c, .int .i64 e.a.s, .int .i64 e.p, .int .i64 e.g]) ∧ Only none_ w w' := by
  have O := Lib.hid (((Only.refl none_ w).alloc (.cells #[.string e.k, .string e.v, .bool e.d, .int .i64 e.s.c, .int .i64 e.s.s, .int .i64 e.a.c, .int .i64 e.a.s, .int .i64 e.p, .int .i64 e.g] 51)).alloc (.cells #[.string enZero.k, .string enZero.v, .bool enZero.d, .int .i64 enZero.s.c, .int .i64 enZero.s.s, .int .i64 enZero.a.c, .int .i64 enZero.a.s, .int .i64 enZero.p, .int .i64 enZero.g] 26))
  have B := Blk.new (w.alloc (.cells #[.string e.k, .string e.v, .bool e.d, .int .i64 e.s.c, .int .i64 e.s.s, .int .i64 e.a.c, .int .i64 e.a.s, .int .i64 e.p, .int .i64 e.g] 51)) 26 #[.string enZero.k, .string enZero.v, .bool enZero.d, .int .i64 enZero.s.c, .int .i64 enZero.s.s, .int .i64 enZero.a.c, .int .i64 enZero.a.s, .int .i64 enZero.p, .int .i64 enZero.g]
  rw [World.size_alloc] at B
  have T : Hid (Bo ((w.alloc (.cells #[.string e.k, .string e.v, .bool e.d, .int .i64 e.s.c, .int .i64 e.s.s, .int .i64 e.a.c, .int .i64 e.a.s, .int .i64 e.p, .int .i64 e.g] 51)).alloc (.cells #[.string enZero.k, .string enZero.v, .bool enZero.d, .int .i64 enZero.s.c, .int .i64 enZero.s.s, .int .i64 enZero.a.c, .int .i64 enZero.a.s, .int .i64 enZero.p, .int .i64 enZero.g] 26)) w.heap.size (w.heap.size + 1) 51 26 e enZero ((w.alloc (.cells #[.string e.k, .string e.v, .bool e.d, .int .i64 e.s.c, .int .i64 e.s.s, .int .i64 e.a.c, .int .i64 e.a.s, .int .i64 e.p, .int .i64 e.g] 51)).alloc (.cells #[.string enZero.k, .string enZero.v, .bool enZero.d, .int .i64 enZero.s.c, .int .i64 enZero.s.s, .int .i64 enZero.a.c, .int .i64 enZero.a.s, .int .i64 enZero.p, .int .i64 enZero.g] 26))) :=
    ⟨(Blk.new w _ _).alloc _, B, Only.refl _ _⟩
  clear B
  simp only [enZero, stZero] at O T
  go_enter Try.func22, Try.ntmps22
  go_wp2_with fail
  have hne : w.heap.size ≠ w.heap.size + 1 := by omega
  have hge : w.heap.size ≤ w.heap.size + 1 := by omega
  have HN := Lib.hid hne
  have HGE := Lib.hid hge
  clear hne hge
  generalize (w.alloc _).alloc _ = W2 at *
  have t2 := T.out.keep (Only.refl none_ W2).drew
  (refine wp_region_steady (fun w' => Bo W2 w.heap.size (w.heap.size + 1) 51 26 e enZero w') 16 (by kernel_rfl) (by kernel_rfl) (t2) ?_; simp only [List.take_succ_cons, List.take_zero, List.drop_succ_cons, List.drop_zero])
  repeat (first
    | (refine sd_value (v := ?_) (by rfl) (fun w0 hS => ?_) ?_; rotate_left; (· (have hc := hS.cells; go_simp; try (with_reducible rfl))); try simp only [Act.put, List.setIfInBounds_toArray, List.set_cons_zero, List.set_cons_succ])
    | (refine sd_call (v := ?_) (f := 56) (args := ?_) (by rfl) (fun w0 hS => ?_) (fun w0 hS => ?_) ?_; rotate_left 2; (· (have hc := hS.cells; go_simp; try (with_reducible rfl))); (· (refine (st_to _ _ _).mono ?_; rintro E w2 ⟨rfl, o2⟩; refine ⟨?_, hS.keep o2⟩; rfl)); try simp only [Act.put, List.setIfInBounds_toArray, List.set_cons_zero, List.set_cons_succ]))
  refine sd_nil ?_
  intro w5 t5
  have q5 := nine_of t5.y
  have z5 := frozen9 t5.y
  simp only [enZero, stZero] at q5
  go_wp2_with fail
  exact bodyPost_ret (results_cell_row rfl _ _ (w.heap.size + 1) 26 _ (0, 0) _ rfl (fill9_blk t5.y _ _ _ _ _ _ _ _ _) Try.underlying26 rfl (by kernel_rfl)) rfl ⟨rfl, fill9_only (O.out.trans t5.ho) (.inr HGE.out) _ _ _ _ _ _ _ _ _⟩
end Go.Proofs.Ytniacolkjdmflaa
end
section
namespace Go.Proofs.Ytniacolkjdmflaa.Se
open Go.RowKit
set_option maxRecDepth 100000
set_option linter.all false

theorem step_call {P : Program} {ops : Array Oper} {o : Oper} {a : Act} {w : World} {K : Act → World → Prop} {Q : Exit → Act → World → Prop} {E : Prop} (hwd : Region.wanted o (yielded ops a.tmps) = true) (f : FuncId) (args : Array Value)
    (hrun : (execOp a.eval o).run P w = .ok (.enter f args) w) (h : Calls P f args w fun e w' => ∃ v, e = .returned v ∧ K (a.put o.dst v) w') :
    if Region.wanted o (yielded ops a.tmps) = true then Oper.wp P o a w K Q else E := by
  rw [if_pos hwd]
  unfold Oper.wp
  rw [hrun]
  exact h.mono fun e w'' ⟨v, he, hk⟩ => by subst he; exact hk

theorem flat_take {α : Type} {k : Nat} (f : α → List Value) (hk : ∀ x, (f x).length = k) : ∀ (l : List α) (n : Nat), n ≤ l.length → (l.flatMap f).take (n * k) = (l.take n).flatMap f
  | _, 0, _ => by simp
  | [], n + 1, h => by simp at h
  | x :: l, n + 1, h => by
    have e : (n + 1) * k = k + n * k := by rw [Nat.succ_mul, Nat.add_comm]
    rw [List.flatMap_cons, List.take_succ_cons, List.flatMap_cons, e, List.take_append, hk, Nat.add_sub_cancel_left, List.take_of_length_le (by rw [hk]; omega), flat_take f hk l n (by simpa using h)]
theorem flat_drop {α : Type} {k : Nat} (f : α → List Value) (hk : ∀ x, (f x).length = k) : ∀ (l : List α) (n : Nat), n ≤ l.length → (l.flatMap f).drop (n * k) = (l.drop n).flatMap f
  | _, 0, _ => by simp
  | [], n + 1, h => by simp at h
  | x :: l, n + 1, h => by
    have e : (n + 1) * k = k + n * k := by rw [Nat.succ_mul, Nat.add_comm]
    rw [List.flatMap_cons, List.drop_succ_cons, e, ← List.drop_drop, List.drop_left' (hk x), flat_drop f hk l n (by simpa using h)]

/-- What a call that works on a table may leave. -/
def LeftT (B : World) (g : Nat) (room : Int) (v : Value) (w : World) (l' : List (Pr En)) (w' : World) : Prop := ∃ v', Tb B g room l' v' w' ∧ Only (foot g v) w w' ∧ Moved w v v'
theorem LeftT.after0 {B w w1 w' : World} {g : Nat} {room : Int} {v : Value} {l' : List (Pr En)} (o : Only none_ w w1) (h : LeftT B g room v w1 l' w') : LeftT B g room v w l' w' := by
  obtain ⟨v', h1, h2, h3⟩ := h
  exact ⟨v', h1, o.of_none.trans' h2 (fun k _ h => h), fun k hk => (h3 k hk).imp id (fun h => Nat.le_trans o.size h)⟩
theorem LeftT.same {B w : World} {g : Nat} {room : Int} {v : Value} {l : List (Pr En)} (h : Tb B g room l v w) : LeftT B g room v w l w := ⟨v, h, Only.refl _ _, Moved.refl _ _⟩

set_option maxHeartbeats 800000 in
theorem tb_new_yes (B : World) (room : Int) (w : World) (hB : Only none_ B w) (h1 : ¬ room < 1) (h2 : ¬ 4096 < room) :
    Calls Try.prog 103 #[.int .i64 room] w fun e w' => ∃ g, e = .returned (.tuple #[.pointer (some ⟨g, 0, none⟩), .int .i64 0]) ∧ w.heap.size ≤ g ∧ Tb B g room [] (.slice none 0 0) w' ∧ Only none_ w w' := by
  have HB := Lib.hid hB
  have HR : Hid (1 ≤ room ∧ room ≤ 4096) := by simp only [Hid]; omega
  clear hB
  go_enter Try.func103, Try.ntmps103
  go_wp2_with fail
  go_ret2
  have o := (Only.refl none_ w).alloc (.cells #[.int .i64 room, .slice none 0 0] 148)
  exact ⟨w.heap.size, rfl, Nat.le_refl _, ⟨Blk.new _ _ _, World.ownsRow_nil _ _ _ _, HB.out.trans o, HB.out.size, ris_nil, by have := HR.out; simp; omega, HR.out.2⟩, o⟩

/-- An insertion, wherever. -/
theorem insI (base : Nat) (A : Option Addr) (n c i vb : Nat) (xs ys : List Value) (w : World) (h : w.ownsRow base 145 10 (.slice A n c) n xs) (hi : i ≤ n) (hn : n ≤ 4096) (hb : base ≤ w.heap.size)
    (hv : Blk w vb 145 ys.toArray) (hne : (Value.slice A n c).ownBlock ≠ some vb) (hy : ys.length = 10) (h1x : ∀ u ∈ xs, u.oneCell' = true) (h1y : ∀ u ∈ ys, u.oneCell' = true) :
    Calls Try.prog 106 #[.slice A n c, .int .i64 i, .slice (some ⟨vb, 0, none⟩) 1 1] w fun e w' => ∃ v', e = .returned v' ∧ w'.ownsRow base 145 10 v' (n + 1) (xs.take (i * 10) ++ ys ++ xs.drop (i * 10)) ∧ Only (ownb (.slice A n c)) w w' ∧ Moved w (.slice A n c) v' := by
  have hxl : xs.length = n * 10 := h.1
  by_cases hin : i = n
  · subst hin
    refine (insI_end base A i c vb xs ys w h hn hb hv hy h1y).mono ?_
    rintro e w' ⟨v', rfl, h1, h2, h3⟩
    refine ⟨v', rfl, ?_, h2, h3⟩
    rw [List.take_of_length_le (by omega), List.drop_of_length_le (by omega), List.append_nil]
    exact h1
  · obtain ⟨g, cur, rfl, hr, hnc, hx⟩ := own_rw h (by omega)
    have hvg : vb ≠ g := fun e => hne (by rw [e]; rfl)
    refine (insI_mid base g n c i vb cur xs ys w hr hx (by omega) hnc hn hb hv hvg hy h1x h1y).mono ?_
    rintro e w' ⟨v', rfl, h1, h2, h3⟩
    refine ⟨v', rfl, h1, h2.mono (fun k _ e => by have e' : k = g := e; rw [e']; rfl), fun k hk => (h3 k hk).imp (fun e => by rw [e]; rfl) id⟩

theorem putAt_cons (x : Value) (l cs : List Value) (o : Nat) : putAt (x :: l) (o + 1) cs = x :: putAt l o cs := by
  unfold putAt
  rw [List.take_succ_cons, show o + 1 + cs.length = (o + cs.length) + 1 by omega, List.drop_succ_cons]
  rfl
theorem putAt_far (r l cs : List Value) (o : Nat) : putAt (r ++ l) (r.length + o) cs = r ++ putAt l o cs := by
  induction r with
  | nil => simp
  | cons x r ih => rw [List.cons_append, List.length_cons, show r.length + 1 + o = (r.length + o) + 1 by omega, putAt_cons, ih]; rfl
/-- A key's value set in a list of pairs. -/
theorem flat_set (l : List (Pr En)) (r : Nat) (x : ByteArray) (v : En) (hr : r < l.length) (hx : l[r].k = x) : (l.set r ⟨x, v⟩).flatMap prI = putAt (l.flatMap prI) (r * 10 + 1) (#[.string v.k, .string v.v, .bool v.d, .int .i64 v.s.c, .int .i64 v.s.s, .int .i64 v.a.c, .int .i64 v.a.s, .int .i64 v.p, .int .i64 v.g] : Array Value).toList := by
  induction l generalizing r with
  | nil => simp at hr
  | cons p l ih =>
    cases r with
    | zero =>
      simp only [List.getElem_cons_zero] at hx
      subst hx
      rfl
    | succ r =>
      have e : (r + 1) * 10 + 1 = (prI p).length + (r * 10 + 1) := by rw [prI_len]; omega
      rw [List.set_cons_succ, List.flatMap_cons, List.flatMap_cons, ih r (by simpa using hr) (by simpa using hx), e, putAt_far]

/-- What a put tells, and leaves. -/
def putC (room : Int) (l : List (Pr En)) (x : ByteArray) : Int := if has l x then 0 else if room ≤ (l.length : Int) then 7 else 0
def putT (room : Int) (l : List (Pr En)) (x : ByteArray) (v : En) : List (Pr En) := if has l x = false ∧ room ≤ (l.length : Int) then l else putL l x v

theorem putAt_in (cur vs : List Value) (o m : Nat) (h : o + vs.length ≤ m) (hm : m ≤ cur.length) : (putAt cur o vs).take m = putAt (cur.take m) o vs := by
  refine List.ext_getElem? fun j => ?_
  rw [List.getElem?_take, putAt_get (by omega), putAt_get (by rw [List.length_take]; omega), List.getElem?_take]
  by_cases h1 : j < m
  · rw [if_pos h1, if_pos h1]
  · rw [if_neg h1, if_neg (by omega), if_neg h1]

set_option maxHeartbeats 6400000 in
theorem tb_put_has (B : World) (g : Nat) (room : Int) (l : List (Pr En)) (v : Value) (x : ByteArray) (y : En) (w : World) (h : Tb B g room l v w) (hs : has l x = true) :
    Calls Try.prog 77 #[.pointer (some ⟨g, 0, none⟩), .string x, .agg #[.string y.k, .string y.v, .bool y.d, .int .i64 y.s.c, .int .i64 y.s.s, .int .i64 y.a.c, .int .i64 y.a.s, .int .i64 y.p, .int .i64 y.g]] w fun e w' => e = .returned (.int .i64 0) ∧ LeftT B g room v w (putL l x y) w' := by
  have O0 := Lib.hid ((Only.refl none_ w).alloc (.cells #[.string y.k, .string y.v, .bool y.d, .int .i64 y.s.c, .int .i64 y.s.s, .int .i64 y.a.c, .int .i64 y.a.s, .int .i64 y.p, .int .i64 y.g] 51))
  have B0 := Lib.hid (Blk.new w 51 #[.string y.k, .string y.v, .bool y.d, .int .i64 y.s.c, .int .i64 y.s.s, .int .i64 y.a.c, .int .i64 y.a.s, .int .i64 y.p, .int .i64 y.g])
  have HB := Lib.hid (fun (w' : World) (o : Only none_ w w') => tb_place B g room l v x w' (h.keep o))
  have hrl := rnk_le l x
  have et : putL l x y = l.set (rnk l x) ⟨x, y⟩ := by rw [putL, if_pos hs]
  rw [et]
  rw [hs] at HB
  have hat := (has_at h.rs x).symm
  rw [hs] at hat
  simp only [Bool.and_eq_true, decide_eq_true_eq] at hat
  obtain ⟨hlt, _, hkx⟩ := hat
  obtain ⟨A, c, rfl⟩ := h.shape
  obtain ⟨r, hr⟩ : ∃ r, rnk l x = r := ⟨_, rfl⟩
  simp only [hr] at hlt HB hkx ⊢
  obtain ⟨b, cur, hA, hrw, hnc, htk⟩ := own_rw h.ow (by omega)
  subst hA
  have hcl : l.length * 10 ≤ cur.length := by rw [hrw.cs]; exact Nat.mul_le_mul_right 10 hnc
  have HF : Hid (∀ (w1 : World), Only none_ w w1 → Blk w1 b 145 cur.toArray ∧ w1.cell? ⟨g, 1, none⟩ = some (.slice (some ⟨b, 0, none⟩) l.length c) ∧
      LeftT B g room (.slice (some ⟨b, 0, none⟩) l.length c) w (l.set r ⟨x, y⟩) (w1.setRow b (putAt cur (r * 10 + 1) (#[.string y.k, .string y.v, .bool y.d, .int .i64 y.s.c, .int .i64 y.s.s, .int .i64 y.a.c, .int .i64 y.a.s, .int .i64 y.p, .int .i64 y.g] : Array Value).toList).toArray)) := by
    intro w1 o1
    have h1 := h.keep o1
    have hrw1 := hrw.only o1 (fun h => h)
    refine ⟨hrw1.bk, h1.bk.cell_ (i := 1) rfl, .slice (some ⟨b, 0, none⟩) l.length c, ?_, ?_, Moved.refl _ _⟩
    · have o2 : Only (one b) w1 (w1.setRow b (putAt cur (r * 10 + 1) (#[.string y.k, .string y.v, .bool y.d, .int .i64 y.s.c, .int .i64 y.s.s, .int .i64 y.a.c, .int .i64 y.a.s, .int .i64 y.p, .int .i64 y.g] : Array Value).toList).toArray) := only_row b _
      have hgb : g ≠ b := Blk.ne_ h1.bk (show Blk w1 b 145 _ from hrw1.bk) (by decide)
      refine ⟨h1.bk.only o2 (fun e => hgb e), ?_, h1.ho.trans' o2 (fun k hk e => by have e' : k = b := e; have := hrw.ge; omega), h1.ge, ris_set h1.rs r _ (fun _ => hkx), by rw [List.length_set]; exact h1.lr, h1.rm⟩
      rw [flat_set l r x y hlt hkx, List.length_set]
      refine (hrw1.set (putAt_len (by simp; omega))).own l.length _ hnc ?_
      rw [putAt_in _ _ _ _ (by simp; omega) hcl, htk]
    · exact o1.of_none.trans' (only_row b _) (fun k _ e => .inr (by have e' : k = b := e; rw [e']; rfl))
  have hrn : (r : Int) < (l.length : Int) := by omega
  have HCR : Hid (r * 10 + 1 + 9 ≤ cur.length) := by simp only [Hid]; omega
  clear h hs et hrl hkx hr hrw hnc htk hcl
  generalize l.length = n at hlt hrn HF ⊢
  go_enter Try.func77, Try.ntmps77
  go_wp2_with (first
    | (go_at_call 84; refine (HB.out _ O0.out).mono ?_; rintro e w1 ⟨rfl, o1⟩
       have O1 := Lib.hid (O0.out.trans o1)
       have B1 : Hid (Blk w1 w.heap.size 51 #[.string y.k, .string y.v, .bool y.d, .int .i64 y.s.c, .int .i64 y.s.s, .int .i64 y.a.c, .int .i64 y.a.s, .int .i64 y.p, .int .i64 y.g]) := B0.out.only o1 (fun h => h)
       clear o1))
  (refine wp_region_free_tail (fun w' => Only none_ w1 w') (Only none_) (F := ?_) (by kernel_rfl) 8 46 (by rfl) (by kernel_rfl) (fun x => ?_) ((Only.refl none_ w1).drew) ?_; rotate_left; (· (simp only [List.take_succ_cons, List.take_zero, putsL, Act.put, List.setIfInBounds_toArray, List.set_cons_zero, List.set_cons_succ, Nat.reduceAdd]; exact rfl)); simp only [List.take_succ_cons, List.take_zero, List.drop_succ_cons, List.drop_zero])
  repeat (first
    | ((first | refine fr_value (c := ?_) (by rfl) (fun w => Only.refl none_ w) (fun x w0 hS hk => ?_) ?_ | refine fr_value_if (c := ?_) (by rfl) (by rfl) (by rfl) (fun w => Only.refl none_ w) (fun x w0 hS hk => ?_) ?_); rotate_left; (· (have hk2 := hk; (try simp [knAll, Region.binds] at hk2); have hc := (HF.out _ (O1.out.trans hS)).2.1; obtain ⟨t0, t1, t2, t3, t4, t5, t6, t7, t8⟩ := nine_of (B1.out.only hS (fun h => h)); go_simp; try (with_reducible rfl))); try simp only [List.nil_append, List.cons_append]))
  (refine fr_end ?_; intro x w9 hS hk)
  have HFF := Lib.hid (HF.out _ (O1.out.trans hS))
  have e5 := kn_end_at 5 hk (by rfl)
  have e7 := kn_end_at 7 hk (by rfl)
  rw [Nat.zero_add] at e5 e7
  rw [e5, e7]
  clear hk hS e5 e7
  refine wpl_store_part rfl 51 _ _ rfl b (r * 10 + 1) #[.string y.k, .string y.v, .bool y.d, .int .i64 y.s.c, .int .i64 y.s.s, .int .i64 y.a.c, .int .i64 y.a.s, .int .i64 y.p, .int .i64 y.g] rfl rfl 145 cur HFF.out.1 (by kernel_rfl) (by simpa using HCR.out) (en_cells_one y) ?_
  go_wp2_with fail
  go_ret
  exact ⟨rfl, HFF.out.2.2⟩

set_option maxHeartbeats 6400000 in
theorem tb_put_new (B : World) (g : Nat) (room : Int) (l : List (Pr En)) (v : Value) (x : ByteArray) (y : En) (w : World) (h : Tb B g room l v w) (hs' : has l x = false) (hful : ¬ room ≤ (l.length : Int)) :
    Calls Try.prog 77 #[.pointer (some ⟨g, 0, none⟩), .string x, .agg #[.string y.k, .string y.v, .bool y.d, .int .i64 y.s.c, .int .i64 y.s.s, .int .i64 y.a.c, .int .i64 y.a.s, .int .i64 y.p, .int .i64 y.g]] w fun e w' => e = .returned (.int .i64 0) ∧ LeftT B g room v w (putL l x y) w' := by
  have O0 := Lib.hid ((Only.refl none_ w).alloc (.cells #[.string y.k, .string y.v, .bool y.d, .int .i64 y.s.c, .int .i64 y.s.s, .int .i64 y.a.c, .int .i64 y.a.s, .int .i64 y.p, .int .i64 y.g] 51))
  have B0 := Lib.hid (Blk.new w 51 #[.string y.k, .string y.v, .bool y.d, .int .i64 y.s.c, .int .i64 y.s.s, .int .i64 y.a.c, .int .i64 y.a.s, .int .i64 y.p, .int .i64 y.g])
  have HB := Lib.hid (fun (w' : World) (o : Only none_ w w') => tb_place B g room l v x w' (h.keep o))
  have hrl := rnk_le l x
  have hris := ris_put h.rs x y
  have et : putL l x y = l.take (rnk l x) ++ ⟨x, y⟩ :: l.drop (rnk l x) := by rw [putL, if_neg (by rw [hs']; simp)]
  rw [et] at hris ⊢
  rw [hs'] at HB
  obtain ⟨A, c, rfl⟩ := h.shape
  have HLN := Lib.hid (fun (w' : World) (o : Only none_ w w') => tb_len B g room l _ w' (h.keep o))
  have HK := Lib.hid (fun (w' : World) (o : Only none_ w w') => (h.keep o).bk.cell_ (i := 0) rfl)
  have HK1 := Lib.hid (fun (w' : World) (o : Only none_ w w') => (h.keep o).bk.cell_ (i := 1) rfl)
  obtain ⟨r, hr⟩ : ∃ r, rnk l x = r := ⟨_, rfl⟩
  simp only [hr] at hrl HB hris ⊢
  have HIN : Hid (∀ w3 : World, Only none_ w w3 → Calls Try.prog 106 #[.slice A l.length c, .int .i64 r, .slice (some ⟨w3.heap.size, 0, none⟩) 1 1] (w3.alloc (.cells (prA ⟨x, y⟩) 145)).drew
      fun e w' => ∃ A' n' c', e = .returned (.slice A' n' c') ∧ w'.cell? ⟨g, 1, none⟩ = some (.slice A l.length c) ∧ w'.frozen? ⟨g, 1, none⟩ = false ∧ LeftT B g room (.slice A l.length c) w (l.take r ++ ⟨x, y⟩ :: l.drop r) (w'.setCell ⟨g, 1, none⟩ (.slice A' n' c'))) := by
    intro w3 o3
    have h3 := (h.keep o3)
    have o4 : Only none_ w3 (w3.alloc (.cells (prA ⟨x, y⟩) 145)).drew := ((Only.refl none_ w3).alloc _).drew
    have h4 := h3.keep o4
    have hsz : B.heap.size ≤ (w3.alloc (.cells (prA ⟨x, y⟩) 145)).drew.heap.size := h4.ho.size
    refine (insI B.heap.size A l.length c r w3.heap.size _ (prI ⟨x, y⟩) _ h4.ow hrl h4.ml hsz (Blk.drew (Blk.new w3 _ _)) (fun e => by have := (h3.ow.lt _ e).2; omega) rfl (prI_one l) (fun u hu => prI_one [⟨x, y⟩] u (by simpa using hu))).mono ?_
    rintro e w5 ⟨v5, rfl, own5, o5, m5⟩
    obtain ⟨A5, n5, c5, rfl⟩ := own_shape own5
    have b5 := h4.bk.only o5 (fun e => by have := own_blk_ne h4.ow h4.bk (by decide); exact this e)
    have hnew : (l.take r ++ (⟨x, y⟩ : Pr En) :: l.drop r).length = l.length + 1 := by simp; omega
    have hflat : (l.take r ++ (⟨x, y⟩ : Pr En) :: l.drop r).flatMap prI = (l.flatMap prI).take (r * 10) ++ prI ⟨x, y⟩ ++ (l.flatMap prI).drop (r * 10) := by
      rw [List.flatMap_append, List.flatMap_cons, flat_take prI prI_len l r hrl, flat_drop prI prI_len l r hrl, List.append_assoc]
    have o6 : Only (one g) w5 (w5.setCell ⟨g, 1, none⟩ (.slice A5 n5 c5)) := (Only.refl (one g) w5).setCell (.inl (show one g g from rfl)) _
    have hvg : (Value.slice A5 n5 c5).ownBlock ≠ some g := own_blk_ne own5 b5 (by decide)
    refine ⟨A5, n5, c5, rfl, b5.cell_ (i := 1) rfl, b5.frozen 1, .slice A5 n5 c5, ⟨b5.set_ 1 _, ?_, ?_, h4.ge, hris, by rw [hnew]; omega, h4.rm⟩, ?_, ?_⟩
    · rw [hflat, hnew]
      exact owns_only own5 o6 (fun k hk e => hvg (by rw [hk, show k = g from e]))
    · exact (h4.ho.trans' o5 (fun k hk e => by have := (h4.ow.lt k e).1; omega)).trans' o6 (fun k hk e => by have e' : k = g := e; have := h4.ge; omega)
    · exact (((o3.trans o4).of_none).trans' o5 (fun k _ e => .inr e)).trans' o6 (fun k _ e => .inl e)
    · exact fun k hk => (m5 k hk).imp id (fun h => by have := (o3.trans o4).size; omega)
  generalize l.length = n at hful HLN HIN HK1
  have hful2 : ¬ ((n : Int) ≥ room) := by omega
  clear h et hs' hris hr hrl
  go_enter Try.func77, Try.ntmps77
  go_wp2_with (first
    | (go_at_call 84; refine (HB.out _ O0.out).mono ?_; rintro e w1 ⟨rfl, o1⟩
       have O1 := Lib.hid (O0.out.trans o1)
       have B1 : Hid (Blk w1 w.heap.size 51 #[.string y.k, .string y.v, .bool y.d, .int .i64 y.s.c, .int .i64 y.s.s, .int .i64 y.a.c, .int .i64 y.a.s, .int .i64 y.p, .int .i64 y.g]) := B0.out.only o1 (fun h => h)
       clear o1))
  (refine wp_region_steady (fun w' => Only none_ w1 w') 7 (by kernel_rfl) (by kernel_rfl) ((Only.refl none_ w1).drew) ?_; simp only [List.take_succ_cons, List.take_zero, List.drop_succ_cons, List.drop_zero])
  repeat (first
    | (refine sd_value (v := ?_) (by rfl) (fun w0 hS => ?_) ?_; rotate_left; (· (have hc := HK.out _ (O1.out.trans hS); go_simp; try (with_reducible rfl))); try simp only [Act.put, List.setIfInBounds_toArray, List.set_cons_zero, List.set_cons_succ])
    | (refine sd_call (v := ?_) (f := 58) (args := ?_) (by rfl) (fun w0 hS => ?_) (fun w0 hS => ?_) ?_; rotate_left 2; (· (have hc := HK.out _ (O1.out.trans hS); go_simp; try (with_reducible rfl))); (· (refine (HLN.out _ (O1.out.trans hS)).mono ?_; rintro E w9 ⟨rfl, rfl⟩; refine ⟨?_, hS⟩; rfl)); try simp only [Act.put, List.setIfInBounds_toArray, List.set_cons_zero, List.set_cons_succ]))
  refine sd_nil ?_
  intro w3 t3
  have T3 := Lib.hid (O1.out.trans t3)
  have B3 : Hid (Blk w3 w.heap.size 51 #[.string y.k, .string y.v, .bool y.d, .int .i64 y.s.c, .int .i64 y.s.s, .int .i64 y.a.c, .int .i64 y.a.s, .int .i64 y.p, .int .i64 y.g]) := B1.out.only t3 (fun h => h)
  clear t3
  go_wp2_with fail
  have k1 : w3.drew.cell? ⟨g, 1, none⟩ = some (.slice A n c) := HK1.out w3 T3.out
  have k2 : (w3.alloc (.cells (prA ⟨x, y⟩) 145)).drew.cell? ⟨g, 1, none⟩ = some (.slice A n c) := HK1.out _ ((T3.out.alloc _).drew)
  obtain ⟨t0, t1, t2, t3, t4, t5, t6, t7, t8⟩ := nine_of (Blk.drew B3.out)
  go_region_law (first
    | (refine step_call (by simp [Region.wanted]) 106 #[.slice A n c, .int .i64 r, .slice (some ⟨w3.heap.size, 0, none⟩) 1 1] (by go_simp; try (with_reducible rfl)) ?_
       refine (HIN.out w3 T3.out).mono ?_
       rintro E w5 ⟨A5, n5, c5, rfl, hk5, hf5, hL⟩
       refine ⟨_, rfl, ?_⟩
       have HLL := Lib.hid hL
       clear hL))
  all_goals go_wp2_with fail
  all_goals go_ret
  all_goals exact ⟨rfl, HLL.out⟩
end Go.Proofs.Ytniacolkjdmflaa.Se
end
