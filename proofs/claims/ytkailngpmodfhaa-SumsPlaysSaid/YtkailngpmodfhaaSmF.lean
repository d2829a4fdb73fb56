/- The call of SumsPlays. The statement itself is proved in another text. -/
import Derived.Test.YtkailngpmodfhaaSmD
import Derived.Test.YtkailngpmodfhaaSmE
import Derived.Test.YtkailngpmodfhaaEnEo
import Derived.Test.YtkailngpmodfhaaOpenM
import Derived.Test.YtkailngpmodfhaaPce
namespace Go.Proofs.Ytkailngpmodfhaa
open Go.RowKit
set_option maxRecDepth 100000
set_option linter.all false

/-- The cells of an act in a list. -/
theorem sa_row {W w : World} {b off : Nat} {l : List Sa} (hc : ∀ j u, (l.flatMap saRow)[j]? = some u → W.cell? ⟨b, off + j, none⟩ = some u) (o : Only none_ W w) (hb : b < W.heap.size) {k : Nat} {a : Sa} (ha : l[k]? = some a) :
    ∀ j u, (saRow a)[j]? = some u → w.cell? ⟨b, off + k * 19 + j, none⟩ = some u := fun j u hu => by
  have hj : j < 19 := by have := (List.getElem?_eq_some_iff.1 hu).1; rwa [saRow_length] at this
  have h := flat_at saRow saRow_length l k a ha j hj
  rw [Nat.add_assoc]
  exact (o.cell (p := ⟨b, off + (k * 19 + j), none⟩) hb (fun h => h)).trans (hc _ _ (h.trans hu))
theorem sa_one (a : Sa) : (#[.int .i64 a.kind, .string a.n.k, .string a.n.v, .bool a.n.d, .int .i64 a.n.s.c, .int .i64 a.n.s.s, .int .i64 a.n.a.c, .int .i64 a.n.a.s, .int .i64 a.n.p, .int .i64 a.n.g, .string a.o.k, .string a.o.v, .bool a.o.d, .int .i64 a.o.s.c, .int .i64 a.o.s.s, .int .i64 a.o.a.c, .int .i64 a.o.a.s, .int .i64 a.o.p, .int .i64 a.o.g] : Array Value).all (·.oneCell') = true := by simp [Value.oneCell']
/-- An act in a box, and a sum. -/
structure Am (W : World) (g h1 : Nat) (z : Int) (a : Sa) (w : World) : Prop where
  x : Blk w h1 94 #[.int .i64 a.kind, .string a.n.k, .string a.n.v, .bool a.n.d, .int .i64 a.n.s.c, .int .i64 a.n.s.s, .int .i64 a.n.a.c, .int .i64 a.n.a.s, .int .i64 a.n.p, .int .i64 a.n.g, .string a.o.k, .string a.o.v, .bool a.o.d, .int .i64 a.o.s.c, .int .i64 a.o.s.s, .int .i64 a.o.a.c, .int .i64 a.o.a.s, .int .i64 a.o.p, .int .i64 a.o.g]
  s : Su w g z
  ho : Only none_ W w
theorem Am.keep {W w w' : World} {g h1 : Nat} {z : Int} {a : Sa} (k : Am W g h1 z a w) (o : Only none_ w w') : Am W g h1 z a w' := ⟨Blk.only (t := 94) k.x o (fun h => h), k.s.keep o, k.ho.trans o⟩
theorem Am.step {W w w' : World} {g h1 : Nat} {z z' : Int} {a : Sa} (k : Am W g h1 z a w) (hs : Su w' g z') (o : Only (one g) w w') (hne : h1 ≠ g) (hg : W.heap.size ≤ g) : Am W g h1 z' a w' :=
  ⟨Blk.only (t := 94) k.x o (fun e => hne e), hs, k.ho.trans' o (fun i hi e => by have e' : i = g := e; omega)⟩
theorem Am.cells {W w : World} {g h1 : Nat} {z : Int} {a : Sa} (k : Am W g h1 z a w) : w.cell? ⟨h1, 0, none⟩ = some (.int .i64 a.kind) ∧ w.cell? ⟨h1, 1, none⟩ = some (.string a.n.k) ∧ w.cell? ⟨h1, 2, none⟩ = some (.string a.n.v) ∧ w.cell? ⟨h1, 3, none⟩ = some (.bool a.n.d) ∧ w.cell? ⟨h1, 4, none⟩ = some (.int .i64 a.n.s.c) ∧ w.cell? ⟨h1, 5, none⟩ = some (.int .i64 a.n.s.s) ∧ w.cell? ⟨h1, 6, none⟩ = some (.int .i64 a.n.a.c) ∧ w.cell? ⟨h1, 7, none⟩ = some (.int .i64 a.n.a.s) ∧ w.cell? ⟨h1, 8, none⟩ = some (.int .i64 a.n.p) ∧ w.cell? ⟨h1, 9, none⟩ = some (.int .i64 a.n.g) ∧ w.cell? ⟨h1, 10, none⟩ = some (.string a.o.k) ∧ w.cell? ⟨h1, 11, none⟩ = some (.string a.o.v) ∧ w.cell? ⟨h1, 12, none⟩ = some (.bool a.o.d) ∧ w.cell? ⟨h1, 13, none⟩ = some (.int .i64 a.o.s.c) ∧ w.cell? ⟨h1, 14, none⟩ = some (.int .i64 a.o.s.s) ∧ w.cell? ⟨h1, 15, none⟩ = some (.int .i64 a.o.a.c) ∧ w.cell? ⟨h1, 16, none⟩ = some (.int .i64 a.o.a.s) ∧ w.cell? ⟨h1, 17, none⟩ = some (.int .i64 a.o.p) ∧ w.cell? ⟨h1, 18, none⟩ = some (.int .i64 a.o.g) :=
  ⟨Blk.cell_ (t := 94) k.x rfl, Blk.cell_ (t := 94) k.x rfl, Blk.cell_ (t := 94) k.x rfl, Blk.cell_ (t := 94) k.x rfl, Blk.cell_ (t := 94) k.x rfl, Blk.cell_ (t := 94) k.x rfl, Blk.cell_ (t := 94) k.x rfl, Blk.cell_ (t := 94) k.x rfl, Blk.cell_ (t := 94) k.x rfl, Blk.cell_ (t := 94) k.x rfl, Blk.cell_ (t := 94) k.x rfl, Blk.cell_ (t := 94) k.x rfl, Blk.cell_ (t := 94) k.x rfl, Blk.cell_ (t := 94) k.x rfl, Blk.cell_ (t := 94) k.x rfl, Blk.cell_ (t := 94) k.x rfl, Blk.cell_ (t := 94) k.x rfl, Blk.cell_ (t := 94) k.x rfl, Blk.cell_ (t := 94) k.x rfl⟩

set_option maxHeartbeats 12800000 in
theorem sums_plays (v : Value) (l : List Sa) (W : World) (hx : Cel W (fun b => b < W.heap.size) v l.length 19 (l.flatMap saRow)) (hl : l.length ≤ 40) :
    Calls Try.prog 7 #[v] W fun e w' => e = .returned (.bool true) ∧ Below W.heap.size W w' := by
  obtain ⟨A, c, rfl, _, h2, h3, _, h4⟩ := hx
  obtain ⟨L, hL⟩ : ∃ L, L = l.length := ⟨_, rfl⟩
  rw [← hL] at h2 h4 hl ⊢
  have HX := Lib.hid h4
  have HL := Lib.hid hL
  have hq : decide ((40 : Int) < (L : Int)) = false := by simp; omega
  clear h4 hL
  go_enter Try.func7, Try.ntmps7
  go_wp2_with (first
    | (go_at_call 29; refine (sm_speaks _).mono ?_; rintro e w1 ⟨rfl, o1⟩; have O1 := Lib.hid o1; clear o1))
  have G0 := Lib.hid (Su.new w1)
  have OG := Lib.hid (O1.out.alloc (.cells #[.int .u64 0] 92))
  have HGW := Lib.hid O1.out.size
  generalize w1.alloc (.cells #[.int .u64 0] 92) = w2 at *
  generalize w1.heap.size = g at *
  clear O1
  go_loopw [4, 18] (fun x i wr => ∃ (k : Nat) (z : Int), k ≤ L ∧ i = .int .i64 (k : Int) ∧ x = .int .u64 (w64 z) ∧ Su wr g z ∧ Only none_ W wr) (fun _ i _ => L - (intOf i).toNat)
  case atStart => exact ⟨0, 0, Nat.zero_le _, rfl, rfl, G0.out, OG.out⟩
  case round =>
    obtain ⟨k, z, hk, rfl, rfl, hs, ho⟩ := hrel
    have HSU := Lib.hid hs
    have HW := Lib.hid ho
    have HNE : Hid (wr.heap.size ≠ g) := by have := hs.lt; rw [Hid]; omega
    clear hs ho G0 OG
    by_cases hlt : k < L
    · obtain ⟨b, off, rfl, hb, _, hc⟩ := HX.out (by omega)
      obtain ⟨a, ha⟩ : ∃ a, l[k]? = some a := ⟨l[k]'(by have := HL.out; omega), List.getElem?_eq_getElem _⟩
      have HC := Lib.hid (sa_row hc HW.out hb ha)
      have T : Hid (Am W g wr.heap.size z a (wr.alloc (.cells #[.int .i64 a.kind, .string a.n.k, .string a.n.v, .bool a.n.d, .int .i64 a.n.s.c, .int .i64 a.n.s.s, .int .i64 a.n.a.c, .int .i64 a.n.a.s, .int .i64 a.n.p, .int .i64 a.n.g, .string a.o.k, .string a.o.v, .bool a.o.d, .int .i64 a.o.s.c, .int .i64 a.o.s.s, .int .i64 a.o.a.c, .int .i64 a.o.a.s, .int .i64 a.o.p, .int .i64 a.o.g] 94))) := ⟨Blk.new wr _ _, HSU.out.alloc _, HW.out.alloc _⟩
      have q0 := T.out.cells
      obtain ⟨x, hx1⟩ : ∃ x, w64 z = x := ⟨_, rfl⟩
      obtain ⟨hn, hhn⟩ : ∃ h, hsh a.n = h := ⟨_, rfl⟩
      obtain ⟨hm, hhm⟩ : ∃ h, hsh a.o = h := ⟨_, rfl⟩
      have hxb := w64_in z
      have hnb := hsh_lt a.n
      have hmb := hsh_lt a.o
      rw [hx1] at hxb ⊢
      rw [hhn] at hnb
      rw [hhm] at hmb
      have HX1 := Lib.hid hx1
      have HHN := Lib.hid hhn
      have HHM := Lib.hid hhm
      clear ha hc hx1 hhn hhm
      have tok1 : True := trivial
      cases hs1 : enShort a.n
      · have HS1 := Lib.hid hs1
        clear hs1
        go_wp2_with (first
          | (refine wpl_piece rfl 94 _ rfl b (off + k * 19) rfl #[.int .i64 a.kind, .string a.n.k, .string a.n.v, .bool a.n.d, .int .i64 a.n.s.c, .int .i64 a.n.s.s, .int .i64 a.n.a.c, .int .i64 a.n.a.s, .int .i64 a.n.p, .int .i64 a.n.g, .string a.o.k, .string a.o.v, .bool a.o.d, .int .i64 a.o.s.c, .int .i64 a.o.s.s, .int .i64 a.o.a.c, .int .i64 a.o.a.s, .int .i64 a.o.p, .int .i64 a.o.g] _ HC.out Try.underlying94 rfl (by kernel_rfl) ?_)
          | (refine wpl_new rfl rfl 94 rfl _ _ rfl #[.int .i64 a.kind, .string a.n.k, .string a.n.v, .bool a.n.d, .int .i64 a.n.s.c, .int .i64 a.n.s.s, .int .i64 a.n.a.c, .int .i64 a.n.a.s, .int .i64 a.n.p, .int .i64 a.n.g, .string a.o.k, .string a.o.v, .bool a.o.d, .int .i64 a.o.s.c, .int .i64 a.o.s.s, .int .i64 a.o.a.c, .int .i64 a.o.a.s, .int .i64 a.o.p, .int .i64 a.o.g] rfl rfl (by kernel_rfl) (sa_one a) ?_)
          | (go_at_call 37; refine (rf_short a.n _).mono ?_; rw [HS1.out]; rintro E w1 ⟨rfl, o1⟩; have t1 := Lib.hid (T.out.keep o1); clear o1))
        go_ret
        exact ⟨rfl, t1.out.ho.below (Nat.le_refl _) (fun k hk => hk.elim)⟩
      have HS1 := Lib.hid hs1
      clear hs1
      cases hs2 : enShort a.o
      · have HS2 := Lib.hid hs2
        clear hs2
        go_wp2_with (first
          | (refine wpl_piece rfl 94 _ rfl b (off + k * 19) rfl #[.int .i64 a.kind, .string a.n.k, .string a.n.v, .bool a.n.d, .int .i64 a.n.s.c, .int .i64 a.n.s.s, .int .i64 a.n.a.c, .int .i64 a.n.a.s, .int .i64 a.n.p, .int .i64 a.n.g, .string a.o.k, .string a.o.v, .bool a.o.d, .int .i64 a.o.s.c, .int .i64 a.o.s.s, .int .i64 a.o.a.c, .int .i64 a.o.a.s, .int .i64 a.o.p, .int .i64 a.o.g] _ HC.out Try.underlying94 rfl (by kernel_rfl) ?_)
          | (refine wpl_new rfl rfl 94 rfl _ _ rfl #[.int .i64 a.kind, .string a.n.k, .string a.n.v, .bool a.n.d, .int .i64 a.n.s.c, .int .i64 a.n.s.s, .int .i64 a.n.a.c, .int .i64 a.n.a.s, .int .i64 a.n.p, .int .i64 a.n.g, .string a.o.k, .string a.o.v, .bool a.o.d, .int .i64 a.o.s.c, .int .i64 a.o.s.s, .int .i64 a.o.a.c, .int .i64 a.o.a.s, .int .i64 a.o.p, .int .i64 a.o.g] rfl rfl (by kernel_rfl) (sa_one a) ?_)
          | (go_at_call 37; have _t := tok1; clear tok1; refine (rf_short a.n _).mono ?_; rw [HS1.out]; rintro E w1 ⟨rfl, o1⟩; have t1 := Lib.hid (T.out.keep o1); have q1 := t1.out.cells; clear o1 q0)
          | (go_at_call 37; refine (rf_short a.o _).mono ?_; rw [HS2.out]; rintro E w2 ⟨rfl, o2⟩; have t2 := Lib.hid (t1.out.keep o2); clear o2))
        go_ret
        exact ⟨rfl, t2.out.ho.below (Nat.le_refl _) (fun k hk => hk.elim)⟩
      have HS2 := Lib.hid hs2
      clear hs2
      by_cases k1 : a.kind = 1
      · have kb : (a.kind == 1) = true := by simp [k1]
        clear k1
        obtain ⟨y, hy⟩ : ∃ y, w64 (z - ((hsh a.n : Nat) : Int)) = y := ⟨_, rfl⟩
        have HY := Lib.hid hy
        have hyb := w64_in (z - ((hsh a.n : Nat) : Int))
        rw [hy] at hyb
        clear hy
        have e1 : IntKind.u64.wrap (x - (hn : Int)) = y := by rw [← HX1.out, ← HHN.out, ← HY.out]; exact wrap_sub _ _
        have HE : Hid (w64 (z - ((hsh a.n : Nat) : Int)) = y) := HY.out
        go_wp2_with (first
          | (refine wpl_piece rfl 94 _ rfl b (off + k * 19) rfl #[.int .i64 a.kind, .string a.n.k, .string a.n.v, .bool a.n.d, .int .i64 a.n.s.c, .int .i64 a.n.s.s, .int .i64 a.n.a.c, .int .i64 a.n.a.s, .int .i64 a.n.p, .int .i64 a.n.g, .string a.o.k, .string a.o.v, .bool a.o.d, .int .i64 a.o.s.c, .int .i64 a.o.s.s, .int .i64 a.o.a.c, .int .i64 a.o.a.s, .int .i64 a.o.p, .int .i64 a.o.g] _ HC.out Try.underlying94 rfl (by kernel_rfl) ?_)
          | (refine wpl_new rfl rfl 94 rfl _ _ rfl #[.int .i64 a.kind, .string a.n.k, .string a.n.v, .bool a.n.d, .int .i64 a.n.s.c, .int .i64 a.n.s.s, .int .i64 a.n.a.c, .int .i64 a.n.a.s, .int .i64 a.n.p, .int .i64 a.n.g, .string a.o.k, .string a.o.v, .bool a.o.d, .int .i64 a.o.s.c, .int .i64 a.o.s.s, .int .i64 a.o.a.c, .int .i64 a.o.a.s, .int .i64 a.o.p, .int .i64 a.o.g] rfl rfl (by kernel_rfl) (sa_one a) ?_)
          | (go_at_call 37; have _t := tok1; clear tok1; refine (rf_short a.n _).mono ?_; rw [HS1.out]; rintro E w1 ⟨rfl, o1⟩; have t1 := Lib.hid (T.out.keep o1); have q1 := t1.out.cells; clear o1 q0; have tok2 : True := trivial)
          | (go_at_call 37; have _t := tok2; clear tok2; refine (rf_short a.o _).mono ?_; rw [HS2.out]; rintro E w2 ⟨rfl, o2⟩; have t2 := Lib.hid (t1.out.keep o2); have q2 := t2.out.cells; clear o2 q1; have tok3 : True := trivial)
          | (go_at_call 33; refine (rf_hash a.n _).mono ?_; rw [HHN.out]; rintro E w3 ⟨rfl, o3⟩; have t3 := Lib.hid (t2.out.keep o3); have q3 := t3.out.cells; clear o3 q2)
          | (go_at_call 32; refine (en_of a.n _).mono ?_; rintro E w4 ⟨rfl, o4⟩; have t4 := Lib.hid (t3.out.keep o4); clear o4 q3)
          | (go_at_call 38; refine (su_drop g z a.n _ t4.out.s).mono ?_; rw [HE.out]; rintro E w9 ⟨rfl, s9, o9⟩; have t9 := Lib.hid (t4.out.step s9 o9 HNE.out HGW.out); clear s9 o9)
          | (go_at_call 41; refine (su_value _ _ _ t9.out.s).mono ?_; rw [HE.out]; rintro E w10 ⟨rfl, e10⟩; have t10 : Hid (Am W g wr.heap.size (z - ((hsh a.n : Nat) : Int)) a w10) := e10 ▸ t9.out; clear e10))
        go_roundw
        case rel => exact ⟨k + 1, z - ((hsh a.n : Nat) : Int), by omega, by go_num, by rw [HY.out], t10.out.s, t10.out.ho⟩
        case measure => simp [intOf]; omega
      by_cases k2 : a.kind = 2
      · have ka : (a.kind == 1) = false := by simp [k1]
        have kb : (a.kind == 2) = true := by simp [k2]
        clear k1 k2
        obtain ⟨y, hy⟩ : ∃ y, w64 (z + (((hsh a.n : Nat) : Int) - ((hsh a.o : Nat) : Int))) = y := ⟨_, rfl⟩
        have HY := Lib.hid hy
        have hyb := w64_in (z + (((hsh a.n : Nat) : Int) - ((hsh a.o : Nat) : Int)))
        rw [hy] at hyb
        clear hy
        have e1 : IntKind.u64.wrap (IntKind.u64.wrap (x - (hm : Int)) + (hn : Int)) = y := by rw [← HX1.out, ← HHN.out, ← HHM.out, ← HY.out]; exact wrap_turn _ _ _
        have HE : Hid (w64 (z + (((hsh a.n : Nat) : Int) - ((hsh a.o : Nat) : Int))) = y) := HY.out
        go_wp2_with (first
          | (refine wpl_piece rfl 94 _ rfl b (off + k * 19) rfl #[.int .i64 a.kind, .string a.n.k, .string a.n.v, .bool a.n.d, .int .i64 a.n.s.c, .int .i64 a.n.s.s, .int .i64 a.n.a.c, .int .i64 a.n.a.s, .int .i64 a.n.p, .int .i64 a.n.g, .string a.o.k, .string a.o.v, .bool a.o.d, .int .i64 a.o.s.c, .int .i64 a.o.s.s, .int .i64 a.o.a.c, .int .i64 a.o.a.s, .int .i64 a.o.p, .int .i64 a.o.g] _ HC.out Try.underlying94 rfl (by kernel_rfl) ?_)
          | (refine wpl_new rfl rfl 94 rfl _ _ rfl #[.int .i64 a.kind, .string a.n.k, .string a.n.v, .bool a.n.d, .int .i64 a.n.s.c, .int .i64 a.n.s.s, .int .i64 a.n.a.c, .int .i64 a.n.a.s, .int .i64 a.n.p, .int .i64 a.n.g, .string a.o.k, .string a.o.v, .bool a.o.d, .int .i64 a.o.s.c, .int .i64 a.o.s.s, .int .i64 a.o.a.c, .int .i64 a.o.a.s, .int .i64 a.o.p, .int .i64 a.o.g] rfl rfl (by kernel_rfl) (sa_one a) ?_)
          | (go_at_call 37; have _t := tok1; clear tok1; refine (rf_short a.n _).mono ?_; rw [HS1.out]; rintro E w1 ⟨rfl, o1⟩; have t1 := Lib.hid (T.out.keep o1); have q1 := t1.out.cells; clear o1 q0; have tok2 : True := trivial)
          | (go_at_call 37; have _t := tok2; clear tok2; refine (rf_short a.o _).mono ?_; rw [HS2.out]; rintro E w2 ⟨rfl, o2⟩; have t2 := Lib.hid (t1.out.keep o2); have q2 := t2.out.cells; clear o2 q1; have tok3 : True := trivial))
        (refine wp_region_steady (fun w' => Am W g wr.heap.size z a w') 10 (by kernel_rfl) (by kernel_rfl) (t2.out.keep (Only.refl none_ _).drew) ?_; simp only [List.take_succ_cons, List.take_zero, List.drop_succ_cons, List.drop_zero])
        repeat (first
          | (refine sd_value (v := ?_) (by rfl) (fun w0 hS => ?_) ?_; rotate_left; (· (skip; go_simp; try (with_reducible rfl))); try simp only [Act.put, List.setIfInBounds_toArray, List.set_cons_zero, List.set_cons_succ])
          | (refine sd_value (v := ?_) (by rfl) (fun w0 hS => ?_) ?_; rotate_left; (· (have hc := hS.cells; go_simp; try (with_reducible rfl))); try simp only [Act.put, List.setIfInBounds_toArray, List.set_cons_zero, List.set_cons_succ])
          | (refine sd_call (v := ?_) (f := 33) (args := ?_) (by rfl) (fun w0 hS => ?_) (fun w0 hS => ?_) ?_; rotate_left 2; (· (skip; go_simp; try (with_reducible rfl))); (· (refine (rf_hash _ _).mono ?_; (first | rw [HHM.out] | rw [HHN.out]); rintro E w8 ⟨rfl, o8⟩; refine ⟨?_, hS.keep o8⟩; rfl)); try simp only [Act.put, List.setIfInBounds_toArray, List.set_cons_zero, List.set_cons_succ]))
        refine sd_nil ?_
        intro w6 t6
        try rw [e1]
        have T6 := Lib.hid t6
        clear t6
        go_wp2_with fail
        (refine wp_region_steady (fun w' => Am W g wr.heap.size z a w') 6 (by kernel_rfl) (by kernel_rfl) (T6.out.keep (Only.refl none_ _).drew) ?_; simp only [List.take_succ_cons, List.take_zero, List.drop_succ_cons, List.drop_zero])
        repeat (first
          | (refine sd_value (v := ?_) (by rfl) (fun w0 hS => ?_) ?_; rotate_left; (· (skip; go_simp; try (with_reducible rfl))); try simp only [Act.put, List.setIfInBounds_toArray, List.set_cons_zero, List.set_cons_succ])
          | (refine sd_value (v := ?_) (by rfl) (fun w0 hS => ?_) ?_; rotate_left; (· (have hc := hS.cells; go_simp; try (with_reducible rfl))); try simp only [Act.put, List.setIfInBounds_toArray, List.set_cons_zero, List.set_cons_succ])
          | (refine sd_call (v := ?_) (f := 32) (args := ?_) (by rfl) (fun w0 hS => ?_) (fun w0 hS => ?_) ?_; rotate_left 2; (· (skip; go_simp; try (with_reducible rfl))); (· (refine (en_of _ _).mono ?_; rintro E w8 ⟨rfl, o8⟩; refine ⟨?_, hS.keep o8⟩; rfl)); try simp only [Act.put, List.setIfInBounds_toArray, List.set_cons_zero, List.set_cons_succ]))
        refine sd_nil ?_
        intro w7 t7
        have T7 := Lib.hid t7
        clear t7
        go_wp2_with (first
          | (go_at_call 39; refine (su_turn g z a.o a.n _ T7.out.s).mono ?_; rw [HE.out]; rintro E w9 ⟨rfl, s9, o9⟩; have t9 := Lib.hid (T7.out.step s9 o9 HNE.out HGW.out); clear s9 o9)
          | (go_at_call 41; refine (su_value _ _ _ t9.out.s).mono ?_; rw [HE.out]; rintro E w10 ⟨rfl, e10⟩; have t10 : Hid (Am W g wr.heap.size (z + (((hsh a.n : Nat) : Int) - ((hsh a.o : Nat) : Int))) a w10) := e10 ▸ t9.out; clear e10))
        go_roundw
        case rel => exact ⟨k + 1, z + (((hsh a.n : Nat) : Int) - ((hsh a.o : Nat) : Int)), by omega, by go_num, by rw [HY.out], t10.out.s, t10.out.ho⟩
        case measure => simp [intOf]; omega
      · have ka : (a.kind == 1) = false := by simp [k1]
        have kb : (a.kind == 2) = false := by simp [k2]
        clear k1 k2
        obtain ⟨y, hy⟩ : ∃ y, w64 (z + ((hsh a.n : Nat) : Int)) = y := ⟨_, rfl⟩
        have HY := Lib.hid hy
        have hyb := w64_in (z + ((hsh a.n : Nat) : Int))
        rw [hy] at hyb
        clear hy
        have e1 : IntKind.u64.wrap (x + (hn : Int)) = y := by rw [← HX1.out, ← HHN.out, ← HY.out]; exact wrap_add _ _
        have HE : Hid (w64 (z + ((hsh a.n : Nat) : Int)) = y) := HY.out
        go_wp2_with (first
          | (refine wpl_piece rfl 94 _ rfl b (off + k * 19) rfl #[.int .i64 a.kind, .string a.n.k, .string a.n.v, .bool a.n.d, .int .i64 a.n.s.c, .int .i64 a.n.s.s, .int .i64 a.n.a.c, .int .i64 a.n.a.s, .int .i64 a.n.p, .int .i64 a.n.g, .string a.o.k, .string a.o.v, .bool a.o.d, .int .i64 a.o.s.c, .int .i64 a.o.s.s, .int .i64 a.o.a.c, .int .i64 a.o.a.s, .int .i64 a.o.p, .int .i64 a.o.g] _ HC.out Try.underlying94 rfl (by kernel_rfl) ?_)
          | (refine wpl_new rfl rfl 94 rfl _ _ rfl #[.int .i64 a.kind, .string a.n.k, .string a.n.v, .bool a.n.d, .int .i64 a.n.s.c, .int .i64 a.n.s.s, .int .i64 a.n.a.c, .int .i64 a.n.a.s, .int .i64 a.n.p, .int .i64 a.n.g, .string a.o.k, .string a.o.v, .bool a.o.d, .int .i64 a.o.s.c, .int .i64 a.o.s.s, .int .i64 a.o.a.c, .int .i64 a.o.a.s, .int .i64 a.o.p, .int .i64 a.o.g] rfl rfl (by kernel_rfl) (sa_one a) ?_)
          | (go_at_call 37; have _t := tok1; clear tok1; refine (rf_short a.n _).mono ?_; rw [HS1.out]; rintro E w1 ⟨rfl, o1⟩; have t1 := Lib.hid (T.out.keep o1); have q1 := t1.out.cells; clear o1 q0; have tok2 : True := trivial)
          | (go_at_call 37; have _t := tok2; clear tok2; refine (rf_short a.o _).mono ?_; rw [HS2.out]; rintro E w2 ⟨rfl, o2⟩; have t2 := Lib.hid (t1.out.keep o2); have q2 := t2.out.cells; clear o2 q1; have tok3 : True := trivial)
          | (go_at_call 33; refine (rf_hash a.n _).mono ?_; rw [HHN.out]; rintro E w3 ⟨rfl, o3⟩; have t3 := Lib.hid (t2.out.keep o3); have q3 := t3.out.cells; clear o3 q2)
          | (go_at_call 32; refine (en_of a.n _).mono ?_; rintro E w4 ⟨rfl, o4⟩; have t4 := Lib.hid (t3.out.keep o4); clear o4 q3)
          | (go_at_call 40; refine (su_add g z a.n _ t4.out.s).mono ?_; rw [HE.out]; rintro E w9 ⟨rfl, s9, o9⟩; have t9 := Lib.hid (t4.out.step s9 o9 HNE.out HGW.out); clear s9 o9)
          | (go_at_call 41; refine (su_value _ _ _ t9.out.s).mono ?_; rw [HE.out]; rintro E w10 ⟨rfl, e10⟩; have t10 : Hid (Am W g wr.heap.size (z + ((hsh a.n : Nat) : Int)) a w10) := e10 ▸ t9.out; clear e10))
        go_roundw
        case rel => exact ⟨k + 1, z + ((hsh a.n : Nat) : Int), by omega, by go_num, by rw [HY.out], t10.out.s, t10.out.ho⟩
        case measure => simp [intOf]; omega
    · obtain rfl : k = L := by omega
      go_wp2_with fail
      go_ret
      exact ⟨rfl, HW.out.below (Nat.le_refl _) (fun k hk => hk.elim)⟩

theorem sums_plays_long (A : Option Addr) (L c : Nat) (W : World) (h : 40 < L) :
    Calls Try.prog 7 #[.slice A L c] W fun e w' => e = .returned (.bool true) ∧ Below W.heap.size W w' := by
  have hl6 : decide ((40 : Int) < (L : Int)) = true := by simp; omega
  have tok : True := trivial
  go_enter Try.func7, Try.ntmps7
  go_wp2_with (first
    | (go_at_call 29; have _t := tok; refine (sm_speaks _).mono ?_; rintro e w1 ⟨rfl, o1⟩; have O1 := Lib.hid o1; clear o1 tok)
    | (go_at_call 29; refine (sm_speaks _).mono ?_; rintro e w2 ⟨rfl, o2⟩; have O2 := Lib.hid (O1.out.trans o2); clear o2))
  go_ret
  exact ⟨rfl, O2.out.below (Nat.le_refl _) (fun k hk => hk.elim)⟩
end Go.Proofs.Ytkailngpmodfhaa
