/- The call of StampClocks answers yes, and changes nothing that was there. The statement itself is proved in another text. -/
import Derived.Test.YtolgjjjclihmkaaStI
import Derived.Test.YtolgjjjclihmkaaStF
import Derived.Test.YtolgjjjclihmkaaOpn
import Derived.Test.YtolgjjjclihmkaaOpenV
import Derived.Deep.RegionHeld3
namespace Go.Proofs.Ytolgjjjclihmkaa
open Go.RowKit
set_option maxRecDepth 100000

/-- The program's clock at g, whose counter is n, and the document's at gm, whose counter is m, are of one site, and were made since W; nothing that was there in W has changed. -/
structure Ck (W : World) (g gm : Nat) (s n m : Int) (w : World) : Prop where
  clk : Clk w g s n
  blk : Blk w gm 42 #[.int .i64 s, .int .i64 m]
  ho : Only none_ W w
  ne : g ≠ gm
  ug : W.heap.size ≤ g
  um : W.heap.size ≤ gm
section
variable {W w w' : World} {g gm : Nat} {s n m n' : Int}
theorem Ck.keep (t : Ck W g gm s n m w) (o : Only none_ w w') : Ck W g gm s n m w' := ⟨t.clk.only o (fun h => h), t.blk.only o (fun h => h), t.ho.trans o, t.ne, t.ug, t.um⟩
theorem Ck.alloc (t : Ck W g gm s n m w) (o : Obj) : Ck W g gm s n m (w.alloc o) := t.keep ((Only.refl none_ w).alloc o)
theorem Ck.drew (t : Ck W g gm s n m w) : Ck W g gm s n m w.drew := t.keep (Only.refl none_ w).drew
theorem Ck.clkTo (t : Ck W g gm s n m w) (k : Clk w' g s n') (o : Only (one g) w w') : Ck W g gm s n' m w' :=
  ⟨k, t.blk.only o (fun h => t.ne h.symm), t.ho.trans' o (fun b hb e => by have e : b = g := e; have := t.ug; omega), t.ne, t.ug, t.um⟩
theorem Ck.set (t : Ck W g gm s n m w) (x : Int) : Ck W g gm s n x ((w.setCell ⟨gm, 0, none⟩ (.int .i64 s)).setCell ⟨gm, 1, none⟩ (.int .i64 x)) := by
  have o : Only (one gm) w ((w.setCell ⟨gm, 0, none⟩ (.int .i64 s)).setCell ⟨gm, 1, none⟩ (.int .i64 x)) := (Only.set_one _ _ _ _).trans (Only.set_one _ _ _ _)
  have hb := (t.blk.set_ 0 (.int .i64 s)).set_ 1 (.int .i64 x)
  exact ⟨t.clk.only o t.ne, by simpa using hb, t.ho.trans' o (fun b hb e => by have e : b = gm := e; have := t.um; omega), t.ne, t.ug, t.um⟩
theorem Ck.m0 (t : Ck W g gm s n m w) : w.cell? ⟨gm, 0, none⟩ = some (.int .i64 s) := t.blk.cell_ rfl
theorem Ck.m1 (t : Ck W g gm s n m w) : w.cell? ⟨gm, 1, none⟩ = some (.int .i64 m) := t.blk.cell_ rfl
theorem Ck.lt (t : Ck W g gm s n m w) : gm < w.heap.size := t.blk.lt
end

/-- Two stamps in the blocks g and h, all else as in B. -/
structure Prs (B : World) (t u : TypeId) (g h : Nat) (a b : St) (w : World) : Prop where
  x : Blk w g t #[.int .i64 a.c, .int .i64 a.s]
  y : Blk w h u #[.int .i64 b.c, .int .i64 b.s]
  ho : Only none_ B w
section
variable {B w w' : World} {t u : TypeId} {g h : Nat} {a b : St}
theorem Prs.keep (k : Prs B t u g h a b w) (o : Only none_ w w') : Prs B t u g h a b w' := ⟨Blk.only (t := t) k.x o (fun h => h), Blk.only (t := u) k.y o (fun h => h), k.ho.trans o⟩
theorem Prs.cells (k : Prs B t u g h a b w) : (w.cell? ⟨g, 0, none⟩ = some (.int .i64 a.c) ∧ w.cell? ⟨g, 1, none⟩ = some (.int .i64 a.s)) ∧ w.cell? ⟨h, 0, none⟩ = some (.int .i64 b.c) ∧ w.cell? ⟨h, 1, none⟩ = some (.int .i64 b.s) := ⟨⟨Blk.cell_ (t := t) k.x rfl, Blk.cell_ (t := t) k.x rfl⟩, Blk.cell_ (t := u) k.y rfl, Blk.cell_ (t := u) k.y rfl⟩
end

/-- The three cells of an act. -/
theorem act_at {W w : World} {b off : Nat} {l : List Ac} (hc : ∀ j u, (l.flatMap acRow)[j]? = some u → W.cell? ⟨b, off + j, none⟩ = some u) (o : Only none_ W w) (hb : b < W.heap.size) {k : Nat} {a : Ac} (ha : l[k]? = some a) :
    w.cell? ⟨b, off + k * 3, none⟩ = some (.bool a.next) ∧ w.cell? ⟨b, off + k * 3 + 1, none⟩ = some (.int .i64 a.see.c) ∧ w.cell? ⟨b, off + k * 3 + 2, none⟩ = some (.int .i64 a.see.s) := by
  have h := flat_at acRow acRow_length l k a ha
  have c0 := (o.cell (p := ⟨b, off + (k * 3 + 0), none⟩) hb (fun h => h)).trans (hc _ _ ((h 0 (by omega)).trans rfl))
  have c1 := (o.cell (p := ⟨b, off + (k * 3 + 1), none⟩) hb (fun h => h)).trans (hc _ _ ((h 1 (by omega)).trans rfl))
  have c2 := (o.cell (p := ⟨b, off + (k * 3 + 2), none⟩) hb (fun h => h)).trans (hc _ _ ((h 2 (by omega)).trans rfl))
  exact ⟨c0, c1, c2⟩

set_option maxHeartbeats 6400000 in
theorem clocks_any (s n : Int) (v : Value) (l : List Ac) (W : World) (hx : Cel W (fun b => b < W.heap.size) v l.length 3 (l.flatMap acRow)) (hl : l.length ≤ 60) (hs : stSite s = true) (h0 : 0 ≤ n) (h1 : n ≤ 4294967295) :
    Calls Try.prog 5 #[.int .i64 s, .int .i64 n, v] W fun e w' => e = .returned (.bool true) ∧ Below W.heap.size W w' := by
  obtain ⟨A, c, rfl, _, h2, h3, _, h4⟩ := hx
  have HX := Lib.hid h4
  have hl6 : decide ((60 : Int) < (l.length : Int)) = false := by simp; omega
  obtain ⟨L, hL⟩ : ∃ L, L = l.length := ⟨_, rfl⟩
  rw [← hL] at h2 hl hl6 ⊢
  have HL := Lib.hid hL
  clear h4 hL
  go_enter Try.func5, Try.ntmps5
  go_wp2_with (first
    | (go_at_call 9; refine (st_speaks _).mono ?_; rintro e w1 ⟨rfl, o1⟩; have O1 := Lib.hid o1; clear o1)
    | (go_at_call 16; refine (clk_new s n _ hs h0 h1).mono ?_; rintro e w2 ⟨rfl, k2, o2⟩
       have K2 := Lib.hid k2
       have O2 := Lib.hid o2
       clear k2 o2)
    | (go_at_call 17; refine (rf_new s n _ hs h0 h1).mono ?_; rintro e w3 ⟨rfl, o3⟩
       have O3 := Lib.hid o3
       clear o3))
  have T0 : Hid (Ck W w1.heap.size w3.heap.size s n n (w3.alloc (.cells #[.int .i64 s, .int .i64 n] 42))) := by
    have k3 := K2.out.only O3.out (fun h => h)
    have hne : w1.heap.size ≠ w3.heap.size := Nat.ne_of_lt k3.lt
    exact ⟨k3.alloc _, Blk.new _ _ _, ((O1.out.trans O2.out).trans O3.out).alloc _, hne, O1.out.size, Nat.le_trans O1.out.size (Nat.le_of_lt k3.lt)⟩
  clear O1 O2 O3 K2
  generalize w3.alloc (.cells #[.int .i64 s, .int .i64 n] 42) = W4 at *
  generalize w3.heap.size = gm at *
  generalize w1.heap.size = g at *
  go_loopw [54] (fun i wr => ∃ (k : Nat) (n : Int), k ≤ L ∧ i = .int .i64 (k : Int) ∧ 0 ≤ n ∧ n ≤ 4294967295 ∧ Ck W g gm s n n wr) (fun i _ => L - (intOf i).toNat)
  case atStart => exact ⟨0, n, Nat.zero_le _, rfl, h0, h1, T0.out⟩
  case round =>
    clear T0 h0 h1
    obtain ⟨k, n, hk, rfl, h0, h1, ht⟩ := hrel
    have T1 := Lib.hid ht
    clear ht
    by_cases hlt : k < L
    · have hkL : decide ((k : Int) < (L : Int)) = true := by simp; omega
      have hkI : (k : Int) < (L : Int) := by omega
      obtain ⟨b, off, rfl, hb, _, hc⟩ := HX.out (by have := HL.out; omega)
      obtain ⟨a, ha⟩ : ∃ a, l[k]? = some a := ⟨l[k]'(by have := HL.out; omega), List.getElem?_eq_getElem _⟩
      obtain ⟨a0, a1, a2⟩ := act_at hc T1.out.ho hb ha
      clear ha hc
      rcases a with ⟨nx, ⟨c', s'⟩⟩
      simp only at a0 a1 a2
      have T2 := Lib.hid (T1.out.alloc (.cells #[.bool nx, .int .i64 c', .int .i64 s'] 46))
      cases nx
      · have A2 := Lib.hid (Blk.new wr 46 #[.bool false, .int .i64 c', .int .i64 s'])
        have GA : Hid (¬ wr.heap.size = gm) := fun e => by have := T1.out.lt; omega
        have m0 := T2.out.m0
        have m1 := T2.out.m1
        by_cases hg : stGood ⟨c', s'⟩ = true
        · have HGd := Lib.hid hg
          have hc4 : c' ≤ 4294967295 := by
            simp only [stGood, Bool.and_eq_true, decide_eq_true_eq] at hg
            exact hg.1.2
          clear hg
          by_cases hn : n < c'
          · skip
            go_wp2_with (first
              | (go_at_call 20; refine (rf_see s n c' s' _ HGd.out hn).mono ?_; rintro e w6 ⟨rfl, o6⟩
                 have T6 := Lib.hid ((T2.out.keep o6).alloc (.cells #[.int .i64 s, .int .i64 (c')] 42))
                 have A6 := Lib.hid ((A2.out.only o6 (fun h => h)).alloc (.cells #[.int .i64 s, .int .i64 (c')] 42))
                 have oS : Only (one gm) _ (((w6.alloc (.cells #[.int .i64 s, .int .i64 (c')] 42)).setCell ⟨gm, 0, none⟩ (.int .i64 s)).setCell ⟨gm, 1, none⟩ (.int .i64 (c'))) := (Only.set_one _ _ _ _).trans (Only.set_one _ _ _ _)
                 have A7 := Lib.hid (A6.out.only oS (fun e => GA.out e))
                 clear m0 m1
                 have m0 := T6.out.m0
                 have m1 := T6.out.m1
                 have z0 := T6.out.blk.frozen 0
                 have z1 := T6.out.blk.frozen 1
                 have d1 := A7.out.cell_ (i := 1) rfl
                 have d2 := A7.out.cell_ (i := 2) rfl
                 have d3 := A6.out.cell_ (i := 1) rfl
                 have d4 := A6.out.cell_ (i := 2) rfl
                 clear o6 oS)
              | (go_at_call 11; refine (st_of _ _ _).mono ?_; rintro e w7 ⟨rfl, o7⟩
                 have T7 := Lib.hid ((T6.out.set (c')).keep o7)
                 clear o7)
              | (go_at_call 21; refine (clk_see g s n c' s' _ T7.out.clk HGd.out hn).mono ?_; rintro e w8 ⟨rfl, k8, o8⟩
                 have T9 := Lib.hid (T7.out.clkTo k8 o8)
                 clear k8 o8))
            clear m0 m1 z0 z1 a0 a1 a2 d1 d2 d3 d4
            have t9 := T9.out.drew
            go_region_held3 (fun w' => w'.cell? ⟨gm, 1, none⟩ = some (.int .i64 (c')))
              (with_reducible exact Ck.m1 (by assumption))
              (first
                | (go_at_call 22; refine (clk_now g s (c') _ (Ck.clk t9)).mono ?_; rintro e w' ⟨rfl, rfl⟩)
                | (go_at_call 23; refine (clk_site g s (c') _ (Ck.clk t9)).mono ?_; rintro e w' ⟨rfl, rfl⟩))
            go_wp2_with fail
            go_roundw
            case rel => exact ⟨k + 1, c', by omega, by go_num, by omega, by omega, t9⟩
            case measure => simp [intOf]; omega
          · have hn' : c' ≤ n := by omega
            clear hn
            go_wp2_with (first
              | (go_at_call 20; refine (rf_see_low s n c' s' _ HGd.out hn').mono ?_; rintro e w6 ⟨rfl, o6⟩
                 have T6 := Lib.hid ((T2.out.keep o6).alloc (.cells #[.int .i64 s, .int .i64 (n)] 42))
                 have A6 := Lib.hid ((A2.out.only o6 (fun h => h)).alloc (.cells #[.int .i64 s, .int .i64 (n)] 42))
                 have oS : Only (one gm) _ (((w6.alloc (.cells #[.int .i64 s, .int .i64 (n)] 42)).setCell ⟨gm, 0, none⟩ (.int .i64 s)).setCell ⟨gm, 1, none⟩ (.int .i64 (n))) := (Only.set_one _ _ _ _).trans (Only.set_one _ _ _ _)
                 have A7 := Lib.hid (A6.out.only oS (fun e => GA.out e))
                 clear m0 m1
                 have m0 := T6.out.m0
                 have m1 := T6.out.m1
                 have z0 := T6.out.blk.frozen 0
                 have z1 := T6.out.blk.frozen 1
                 have d1 := A7.out.cell_ (i := 1) rfl
                 have d2 := A7.out.cell_ (i := 2) rfl
                 have d3 := A6.out.cell_ (i := 1) rfl
                 have d4 := A6.out.cell_ (i := 2) rfl
                 clear o6 oS)
              | (go_at_call 11; refine (st_of _ _ _).mono ?_; rintro e w7 ⟨rfl, o7⟩
                 have T7 := Lib.hid ((T6.out.set (n)).keep o7)
                 clear o7)
              | (go_at_call 21; refine (clk_see_low g s n c' s' _ T7.out.clk HGd.out hn').mono ?_; rintro e w8 ⟨rfl, k8, o8⟩
                 have T9 := Lib.hid (T7.out.keep o8)
                 clear k8 o8))
            clear m0 m1 z0 z1 a0 a1 a2 d1 d2 d3 d4
            have t9 := T9.out.drew
            go_region_held3 (fun w' => w'.cell? ⟨gm, 1, none⟩ = some (.int .i64 (n)))
              (with_reducible exact Ck.m1 (by assumption))
              (first
                | (go_at_call 22; refine (clk_now g s (n) _ (Ck.clk t9)).mono ?_; rintro e w' ⟨rfl, rfl⟩)
                | (go_at_call 23; refine (clk_site g s (n) _ (Ck.clk t9)).mono ?_; rintro e w' ⟨rfl, rfl⟩))
            go_wp2_with fail
            go_roundw
            case rel => exact ⟨k + 1, n, by omega, by go_num, by omega, by omega, t9⟩
            case measure => simp [intOf]; omega
        · have hg' : stGood ⟨c', s'⟩ = false := by simpa using hg
          have HGd := Lib.hid hg'
          clear hg hg'
          go_wp2_with (first
            | (go_at_call 20; refine (rf_see_bad s n c' s' _ HGd.out).mono ?_; rintro e w6 ⟨rfl, o6⟩
               have T6 := Lib.hid ((T2.out.keep o6).alloc (.cells #[.int .i64 s, .int .i64 (n)] 42))
               have A6 := Lib.hid ((A2.out.only o6 (fun h => h)).alloc (.cells #[.int .i64 s, .int .i64 (n)] 42))
               have oS : Only (one gm) _ (((w6.alloc (.cells #[.int .i64 s, .int .i64 (n)] 42)).setCell ⟨gm, 0, none⟩ (.int .i64 s)).setCell ⟨gm, 1, none⟩ (.int .i64 (n))) := (Only.set_one _ _ _ _).trans (Only.set_one _ _ _ _)
               have A7 := Lib.hid (A6.out.only oS (fun e => GA.out e))
               clear m0 m1
               have m0 := T6.out.m0
               have m1 := T6.out.m1
               have z0 := T6.out.blk.frozen 0
               have z1 := T6.out.blk.frozen 1
               have d1 := A7.out.cell_ (i := 1) rfl
               have d2 := A7.out.cell_ (i := 2) rfl
               have d3 := A6.out.cell_ (i := 1) rfl
               have d4 := A6.out.cell_ (i := 2) rfl
               clear o6 oS)
            | (go_at_call 11; refine (st_of _ _ _).mono ?_; rintro e w7 ⟨rfl, o7⟩
               have T7 := Lib.hid ((T6.out.set (n)).keep o7)
               clear o7)
            | (go_at_call 21; refine (clk_see_bad g s n c' s' _ T7.out.clk HGd.out).mono ?_; rintro e w8 ⟨rfl, k8, o8⟩
               have T9 := Lib.hid (T7.out.keep o8)
               clear k8 o8))
          clear m0 m1 z0 z1 a0 a1 a2 d1 d2 d3 d4
          have t9 := T9.out.drew
          go_region_held3 (fun w' => w'.cell? ⟨gm, 1, none⟩ = some (.int .i64 (n)))
            (with_reducible exact Ck.m1 (by assumption))
            (first
              | (go_at_call 22; refine (clk_now g s (n) _ (Ck.clk t9)).mono ?_; rintro e w' ⟨rfl, rfl⟩)
              | (go_at_call 23; refine (clk_site g s (n) _ (Ck.clk t9)).mono ?_; rintro e w' ⟨rfl, rfl⟩))
          go_wp2_with fail
          go_roundw
          case rel => exact ⟨k + 1, n, by omega, by go_num, by omega, by omega, t9⟩
          case measure => simp [intOf]; omega
      · by_cases hn : n < 4294967295
        · go_wp2_with (first
            | (go_at_call 18; refine (clk_next g s n _ T2.out.clk h0 hn).mono ?_; rintro e w6 ⟨rfl, k6, o6⟩
               have T6 := Lib.hid ((T2.out.clkTo k6 o6).alloc (.cells #[.int .i64 (n + 1), .int .i64 s] 27))
               have S6 := Lib.hid (Blk.new w6 27 #[.int .i64 (n + 1), .int .i64 s])
               have G6 := Lib.hid (T2.out.clkTo k6 o6).lt
               have m0 := T6.out.m0
               have m1 := T6.out.m1
               clear k6 o6)
            | (go_at_call 19; refine (rf_next s n _ h0 hn).mono ?_; rintro e w7 ⟨rfl, o7⟩
               have T7 := Lib.hid (((T6.out.keep o7).alloc (.cells #[.int .i64 s, .int .i64 (n + 1)] 42)).alloc (.cells #[.int .i64 (n + 1), .int .i64 s] 23))
               have S7 := Lib.hid (((S6.out.only o7 (fun h => h)).alloc (.cells #[.int .i64 s, .int .i64 (n + 1)] 42)).alloc (.cells #[.int .i64 (n + 1), .int .i64 s] 23))
               have R7 := Lib.hid (Blk.new (w7.alloc (.cells #[.int .i64 s, .int .i64 (n + 1)] 42)) 23 #[.int .i64 (n + 1), .int .i64 s])
               clear m0 m1
               have m0 := T7.out.m0
               have m1 := T7.out.m1
               have z0 := T7.out.blk.frozen 0
               have z1 := T7.out.blk.frozen 1
               have G7 := Lib.hid (T6.out.keep o7).lt
               clear o7))
          clear m0 m1 z0 z1 a0 a1 a2
          have e7 : (w7.alloc (.cells #[.int .i64 s, .int .i64 (n + 1)] 42)).heap.size = w7.heap.size + 1 := by simp
          rw [e7] at R7
          have T8 := Lib.hid (T7.out.set (n + 1))
          have oS : Only (one gm) _ ((((w7.alloc (.cells #[.int .i64 s, .int .i64 (n + 1)] 42)).alloc (.cells #[.int .i64 (n + 1), .int .i64 s] 23)).setCell ⟨gm, 0, none⟩ (.int .i64 s)).setCell ⟨gm, 1, none⟩ (.int .i64 (n + 1))) := (Only.set_one _ _ _ _).trans (Only.set_one _ _ _ _)
          have S8 := S7.out.only oS (fun e => by have e : w6.heap.size = gm := e; have := G6.out; omega)
          have R8 := R7.out.only oS (fun e => by have e : w7.heap.size + 1 = gm := e; have := G7.out; omega)
          clear oS S7 R7 e7 G6 G7 T7 S6 T6
          generalize (((w7.alloc (.cells #[.int .i64 s, .int .i64 (n + 1)] 42)).alloc (.cells #[.int .i64 (n + 1), .int .i64 s] 23)).setCell ⟨gm, 0, none⟩ (.int .i64 s)).setCell ⟨gm, 1, none⟩ (.int .i64 (n + 1)) = w8 at *
          have t8 : Prs w8 27 23 w6.heap.size (w7.heap.size + 1) ⟨n + 1, s⟩ ⟨n + 1, s⟩ w8.drew := ⟨S8, R8, (Only.refl none_ w8).drew⟩
          clear S8 R8
          go_region_held3 (fun w' => (w'.cell? ⟨w6.heap.size, 0, none⟩ = some (.int .i64 (n + 1)) ∧ w'.cell? ⟨w6.heap.size, 1, none⟩ = some (.int .i64 s)) ∧ w'.cell? ⟨w7.heap.size + 1, 0, none⟩ = some (.int .i64 (n + 1)) ∧ w'.cell? ⟨w7.heap.size + 1, 1, none⟩ = some (.int .i64 s))
            (with_reducible exact Prs.cells (by assumption))
            (first
              | (go_at_call 14; refine (st_to _ _ _).mono ?_; rintro e w9 ⟨rfl, o9⟩; have t9 := Prs.keep (by assumption) o9; clear o9))
          have T9 := Lib.hid (T8.out.keep t9.ho)
          clear t8 t9
          go_wp2_with fail
          have t9 := T9.out.drew
          go_region_held3 (fun w' => w'.cell? ⟨gm, 1, none⟩ = some (.int .i64 (n + 1)))
            (with_reducible exact Ck.m1 (by assumption))
            (first
              | (go_at_call 22; refine (clk_now g s (n + 1) _ (Ck.clk t9)).mono ?_; rintro e w' ⟨rfl, rfl⟩)
              | (go_at_call 23; refine (clk_site g s (n + 1) _ (Ck.clk t9)).mono ?_; rintro e w' ⟨rfl, rfl⟩))
          go_wp2_with fail
          go_roundw
          case rel => exact ⟨k + 1, n + 1, by omega, by go_num, by omega, by omega, t9⟩
          case measure => simp [intOf]; omega
        · obtain rfl : n = 4294967295 := by omega
          clear hn h0 h1
          go_wp2_with (first
            | (go_at_call 18; refine (clk_next_spent g s _ T2.out.clk).mono ?_; rintro e w6 ⟨rfl, _, o6⟩
               have T6 := Lib.hid ((T2.out.keep o6).alloc (.cells #[.int .i64 0, .int .i64 0] 27))
               have S6 := Lib.hid (Blk.new w6 27 #[.int .i64 0, .int .i64 0])
               have G6 := Lib.hid (T2.out.keep o6).lt
               have m0 := T6.out.m0
               have m1 := T6.out.m1
               clear o6)
            | (go_at_call 19; refine (rf_next_spent s _).mono ?_; rintro e w7 ⟨rfl, o7⟩
               have T7 := Lib.hid (((T6.out.keep o7).alloc (.cells #[.int .i64 s, .int .i64 4294967295] 42)).alloc (.cells #[.int .i64 0, .int .i64 0] 23))
               have S7 := Lib.hid (((S6.out.only o7 (fun h => h)).alloc (.cells #[.int .i64 s, .int .i64 4294967295] 42)).alloc (.cells #[.int .i64 0, .int .i64 0] 23))
               have R7 := Lib.hid (Blk.new (w7.alloc (.cells #[.int .i64 s, .int .i64 4294967295] 42)) 23 #[.int .i64 0, .int .i64 0])
               clear m0 m1
               have m0 := T7.out.m0
               have m1 := T7.out.m1
               have z0 := T7.out.blk.frozen 0
               have z1 := T7.out.blk.frozen 1
               have G7 := Lib.hid (T6.out.keep o7).lt
               clear o7))
          clear m0 m1 z0 z1 a0 a1 a2
          have e7 : (w7.alloc (.cells #[.int .i64 s, .int .i64 4294967295] 42)).heap.size = w7.heap.size + 1 := by simp
          rw [e7] at R7
          have T8 := Lib.hid (T7.out.set 4294967295)
          have oS : Only (one gm) _ ((((w7.alloc (.cells #[.int .i64 s, .int .i64 4294967295] 42)).alloc (.cells #[.int .i64 0, .int .i64 0] 23)).setCell ⟨gm, 0, none⟩ (.int .i64 s)).setCell ⟨gm, 1, none⟩ (.int .i64 4294967295)) := (Only.set_one _ _ _ _).trans (Only.set_one _ _ _ _)
          have S8 := S7.out.only oS (fun e => by have e : w6.heap.size = gm := e; have := G6.out; omega)
          have R8 := R7.out.only oS (fun e => by have e : w7.heap.size + 1 = gm := e; have := G7.out; omega)
          clear oS S7 R7 e7 G6 G7 T7 S6 T6
          generalize (((w7.alloc (.cells #[.int .i64 s, .int .i64 4294967295] 42)).alloc (.cells #[.int .i64 0, .int .i64 0] 23)).setCell ⟨gm, 0, none⟩ (.int .i64 s)).setCell ⟨gm, 1, none⟩ (.int .i64 4294967295) = w8 at *
          have t8 : Prs w8 27 23 w6.heap.size (w7.heap.size + 1) ⟨0, 0⟩ ⟨0, 0⟩ w8.drew := ⟨S8, R8, (Only.refl none_ w8).drew⟩
          clear S8 R8
          go_region_held3 (fun w' => (w'.cell? ⟨w6.heap.size, 0, none⟩ = some (.int .i64 0) ∧ w'.cell? ⟨w6.heap.size, 1, none⟩ = some (.int .i64 0)) ∧ w'.cell? ⟨w7.heap.size + 1, 0, none⟩ = some (.int .i64 0) ∧ w'.cell? ⟨w7.heap.size + 1, 1, none⟩ = some (.int .i64 0))
            (with_reducible exact Prs.cells (by assumption))
            (first
              | (go_at_call 14; refine (st_to _ _ _).mono ?_; rintro e w9 ⟨rfl, o9⟩; have t9 := Prs.keep (by assumption) o9; clear o9))
          have T9 := Lib.hid (T8.out.keep t9.ho)
          clear t8 t9
          go_wp2_with fail
          have t9 := T9.out.drew
          go_region_held3 (fun w' => w'.cell? ⟨gm, 1, none⟩ = some (.int .i64 (4294967295)))
            (with_reducible exact Ck.m1 (by assumption))
            (first
              | (go_at_call 22; refine (clk_now g s (4294967295) _ (Ck.clk t9)).mono ?_; rintro e w' ⟨rfl, rfl⟩)
              | (go_at_call 23; refine (clk_site g s (4294967295) _ (Ck.clk t9)).mono ?_; rintro e w' ⟨rfl, rfl⟩))
          go_wp2_with fail
          go_roundw
          case rel => exact ⟨k + 1, 4294967295, by omega, by go_num, by omega, by omega, t9⟩
          case measure => simp [intOf]; omega
    · have hkL : decide ((k : Int) < (L : Int)) = false := by simp; omega
      go_wp2_with fail
      go_ret
      exact ⟨rfl, T1.out.ho.below (Nat.le_refl _) (fun k hk => hk.elim)⟩

theorem clocks_long (s n : Int) (A : Option Addr) (L c : Nat) (W : World) (h : 60 < L) :
    Calls Try.prog 5 #[.int .i64 s, .int .i64 n, .slice A L c] W fun e w' => e = .returned (.bool true) ∧ Below W.heap.size W w' := by
  have hl6 : decide ((60 : Int) < (L : Int)) = true := by simp; omega
  have tok : True := trivial
  go_enter Try.func5, Try.ntmps5
  go_wp2_with (first
    | (go_at_call 9; have _t := tok; refine (st_speaks _).mono ?_; rintro e w1 ⟨rfl, o1⟩; have O1 := Lib.hid o1; clear o1 tok)
    | (go_at_call 9; refine (st_speaks _).mono ?_; rintro e w2 ⟨rfl, o2⟩; have O2 := Lib.hid (O1.out.trans o2); clear o2))
  go_ret
  exact ⟨rfl, O2.out.below (Nat.le_refl _) (fun k hk => hk.elim)⟩

theorem clocks_none (s n : Int) (A : Option Addr) (L c : Nat) (W : World) (h : L ≤ 60) (hs : stSite s = false ∨ (stSite s = true ∧ (n < 0 ∨ 4294967295 < n))) :
    Calls Try.prog 5 #[.int .i64 s, .int .i64 n, .slice A L c] W fun e w' => e = .returned (.bool true) ∧ Below W.heap.size W w' := by
  have hl6 : decide ((60 : Int) < (L : Int)) = false := by simp; omega
  rcases hs with hs | ⟨hs, hn⟩
  · have HS := Lib.hid hs
    clear hs
    go_enter Try.func5, Try.ntmps5
    go_wp2_with (first
      | (go_at_call 9; refine (st_speaks _).mono ?_; rintro e w1 ⟨rfl, o1⟩; have O1 := Lib.hid o1; clear o1)
      | (go_at_call 16; refine (clk_new_arg s n _ HS.out).mono ?_; rintro e w2 ⟨rfl, rfl⟩)
      | (go_at_call 17; refine (rf_new_arg s n _ HS.out).mono ?_; rintro e w3 ⟨rfl, o3⟩
         have O3 := Lib.hid (O1.out.trans o3)
         clear o3))
    go_ret
    exact ⟨rfl, (O3.out.alloc _).below (Nat.le_refl _) (fun k hk => hk.elim)⟩
  · have HS := Lib.hid hs
    have HN := Lib.hid hn
    clear hs hn
    go_enter Try.func5, Try.ntmps5
    go_wp2_with (first
      | (go_at_call 9; refine (st_speaks _).mono ?_; rintro e w1 ⟨rfl, o1⟩; have O1 := Lib.hid o1; clear o1)
      | (go_at_call 16; refine (clk_new_range s n _ HS.out HN.out).mono ?_; rintro e w2 ⟨rfl, rfl⟩)
      | (go_at_call 17; refine (rf_new_range s n _ HS.out HN.out).mono ?_; rintro e w3 ⟨rfl, o3⟩
         have O3 := Lib.hid (O1.out.trans o3)
         clear o3))
    go_ret
    exact ⟨rfl, (O3.out.alloc _).below (Nat.le_refl _) (fun k hk => hk.elim)⟩
end Go.Proofs.Ytolgjjjclihmkaa
