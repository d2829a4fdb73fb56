/- The call of StampRises answers yes, and changes nothing that was there. The statement itself is proved in another text. -/
import Derived.Test.YtolgjjjclihmkaaStI
import Derived.Test.YtolgjjjclihmkaaStE
import Derived.Test.YtolgjjjclihmkaaStP
import Derived.Deep.RegionHeld3
namespace Go.Proofs.Ytolgjjjclihmkaa
open Go.RowKit
set_option maxRecDepth 100000

/-- The program's clock at g, whose counter is n, and the last stamp at gm, were made since W; nothing that was there in W has changed. -/
structure Cr (W : World) (g gm : Nat) (s n : Int) (x : St) (w : World) : Prop where
  clk : Clk w g s n
  blk : Blk w gm 23 #[.int .i64 x.c, .int .i64 x.s]
  ho : Only none_ W w
  ne : g ≠ gm
  ug : W.heap.size ≤ g
  um : W.heap.size ≤ gm
section
variable {W w w' : World} {g gm : Nat} {s n n' : Int} {x : St}
theorem Cr.keep (t : Cr W g gm s n x w) (o : Only none_ w w') : Cr W g gm s n x w' := ⟨t.clk.only o (fun h => h), t.blk.only o (fun h => h), t.ho.trans o, t.ne, t.ug, t.um⟩
theorem Cr.alloc (t : Cr W g gm s n x w) (o : Obj) : Cr W g gm s n x (w.alloc o) := t.keep ((Only.refl none_ w).alloc o)
theorem Cr.drew (t : Cr W g gm s n x w) : Cr W g gm s n x w.drew := t.keep (Only.refl none_ w).drew
theorem Cr.clkTo (t : Cr W g gm s n x w) (k : Clk w' g s n') (o : Only (one g) w w') : Cr W g gm s n' x w' :=
  ⟨k, t.blk.only o (fun h => t.ne h.symm), t.ho.trans' o (fun b hb e => by have e : b = g := e; have := t.ug; omega), t.ne, t.ug, t.um⟩
theorem Cr.set (t : Cr W g gm s n x w) (y : St) : Cr W g gm s n y ((w.setCell ⟨gm, 0, none⟩ (.int .i64 y.c)).setCell ⟨gm, 1, none⟩ (.int .i64 y.s)) := by
  have o : Only (one gm) w ((w.setCell ⟨gm, 0, none⟩ (.int .i64 y.c)).setCell ⟨gm, 1, none⟩ (.int .i64 y.s)) := (Only.set_one _ _ _ _).trans (Only.set_one _ _ _ _)
  have hb := (t.blk.set_ 0 (.int .i64 y.c)).set_ 1 (.int .i64 y.s)
  exact ⟨t.clk.only o t.ne, by simpa using hb, t.ho.trans' o (fun b hb e => by have e : b = gm := e; have := t.um; omega), t.ne, t.ug, t.um⟩
theorem Cr.m0 (t : Cr W g gm s n x w) : w.cell? ⟨gm, 0, none⟩ = some (.int .i64 x.c) := t.blk.cell_ rfl
theorem Cr.m1 (t : Cr W g gm s n x w) : w.cell? ⟨gm, 1, none⟩ = some (.int .i64 x.s) := t.blk.cell_ rfl
theorem Cr.lt (t : Cr W g gm s n x w) : gm < w.heap.size := t.blk.lt
end

/-- What holds of the clock's counter and of the last stamp. -/
structure Up (n : Int) (x : St) : Prop where
  lo : 0 ≤ x.c
  le : x.c ≤ n
  hi : n ≤ 4294967295
  eq : x.c = n ∨ n ≤ 65535

set_option maxHeartbeats 6400000 in
theorem rises_any (a0 a1 : Int) (v : Value) (l : List Ac) (W : World) (hx : Cel W (fun b => b < W.heap.size) v l.length 3 (l.flatMap acRow)) (hl : l.length ≤ 60) (h0 : 0 ≤ a0) (h0' : a0 ≤ 65535) (h1 : 0 ≤ a1) (h1' : a1 ≤ 65535) :
    Calls Try.prog 6 #[.int .u16 a0, .int .u16 a1, v] W fun e w' => e = .returned (.bool true) ∧ Below W.heap.size W w' := by
  obtain ⟨A, c, rfl, _, h2, h3, _, h4⟩ := hx
  have HX := Lib.hid h4
  have hl6 : decide ((60 : Int) < (l.length : Int)) = false := by simp; omega
  obtain ⟨L, hL⟩ : ∃ L, L = l.length := ⟨_, rfl⟩
  rw [← hL] at h2 hl hl6 ⊢
  have HL := Lib.hid hL
  have hs : stSite (a0 % 12) = true := by simp only [stSite, decide_eq_true_eq]; omega
  have HS := Lib.hid hs
  clear h4 hL hs
  go_enter Try.func6, Try.ntmps6
  go_wp2_with (first
    | (go_at_call 9; refine (st_speaks _).mono ?_; rintro e w1 ⟨rfl, o1⟩; have O1 := Lib.hid o1; clear o1)
    | (go_at_call 16; refine (clk_new (a0 % 12) a1 _ HS.out h1 (by omega)).mono ?_; rintro e w2 ⟨rfl, k2, o2⟩
       have K2 := Lib.hid k2
       have O2 := Lib.hid o2
       clear k2 o2))
  have T0 : Hid (Cr W w1.heap.size w2.heap.size (a0 % 12) a1 ⟨0, 0⟩ (w2.alloc (.cells #[.int .i64 0, .int .i64 0] 23))) := by
    have k3 := K2.out
    have hne : w1.heap.size ≠ w2.heap.size := Nat.ne_of_lt k3.lt
    exact ⟨k3.alloc _, Blk.new _ _ _, (O1.out.trans O2.out).alloc _, hne, O1.out.size, Nat.le_trans O1.out.size (Nat.le_of_lt k3.lt)⟩
  have HG9 : Hid (∀ n : Int, 0 ≤ n → n < 4294967295 → stGood ⟨n + 1, a0 % 12⟩ = true) := by
    intro n g0 g1
    simp only [stGood, HS.out, Bool.and_true, decide_eq_true_eq]
    omega
  clear O1 O2 K2
  generalize a0 % 12 = s at *
  generalize w2.alloc (.cells #[.int .i64 0, .int .i64 0] 23) = W4 at *
  generalize w2.heap.size = gm at *
  generalize w1.heap.size = g at *
  go_loopw [40] (fun i wr => ∃ (k : Nat) (n : Int) (x : St), k ≤ L ∧ i = .int .i64 (k : Int) ∧ Up n x ∧ Cr W g gm s n x wr) (fun i _ => L - (intOf i).toNat)
  case atStart => exact ⟨0, a1, ⟨0, 0⟩, Nat.zero_le _, rfl, ⟨by simp, by simpa using h1, by omega, .inr h1'⟩, T0.out⟩
  case round =>
    clear T0
    obtain ⟨k, n, ⟨xc, xs⟩, hk, rfl, hu, ht⟩ := hrel
    obtain ⟨u0, u1, u2, u3⟩ := hu
    simp only at u0 u1 u2 u3
    have T1 := Lib.hid ht
    clear ht
    by_cases hlt : k < L
    · have hkL : decide ((k : Int) < (L : Int)) = true := by simp; omega
      have hkI : (k : Int) < (L : Int) := by omega
      obtain ⟨b, off, rfl, hb, _, hc⟩ := HX.out (by have := HL.out; omega)
      obtain ⟨a, ha⟩ : ∃ a, l[k]? = some a := ⟨l[k]'(by have := HL.out; omega), List.getElem?_eq_getElem _⟩
      obtain ⟨c0, c1, c2⟩ := act_at hc T1.out.ho hb ha
      clear ha hc
      rcases a with ⟨nx, ⟨c', s'⟩⟩
      simp only at c0 c1 c2
      have T2 := Lib.hid (T1.out.alloc (.cells #[.bool nx, .int .i64 c', .int .i64 s'] 46))
      have hn0 : 0 ≤ n := by omega
      cases nx
      · have A2 := Lib.hid (Blk.new wr 46 #[.bool false, .int .i64 c', .int .i64 s'])
        have GA : Hid (¬ wr.heap.size = g) := fun e => by have := T1.out.clk.lt; omega
        by_cases hg : stGood ⟨c', s'⟩ = true
        · have HGd := Lib.hid hg
          have hc4 : c' ≤ 4294967295 := by
            simp only [stGood, Bool.and_eq_true, decide_eq_true_eq] at hg
            exact hg.1.2
          clear hg
          by_cases hn : n < c'
          · have HLt : Hid (stLater ⟨c', s'⟩ ⟨xc, xs⟩ = true) := (later_def _ _).2 (.inl (by simp only; omega))
            go_wp2_with (first
              | (go_at_call 11; refine (st_of _ _ _).mono ?_; rintro e w5 ⟨rfl, o5⟩
                 have T5 := Lib.hid (T2.out.keep o5)
                 have A5 := Lib.hid (A2.out.only o5 (fun h => h))
                 clear o5)
              | (go_at_call 21; refine (clk_see g s n c' s' _ T5.out.clk HGd.out hn).mono ?_; rintro e w6 ⟨rfl, k6, o6⟩
                 have T6 := Lib.hid (T5.out.clkTo k6 o6)
                 have A6 := Lib.hid (A5.out.only o6 (fun e => GA.out e))
                 have d1 := A6.out.cell_ (i := 1) rfl
                 have d2 := A6.out.cell_ (i := 2) rfl
                 clear k6 o6)
              | (go_at_call 13; refine (rf_good _ _ _).mono ?_; rintro e w7 ⟨rfl, o7⟩; rw [HGd.out]
                 have T7 := Lib.hid (T6.out.keep o7)
                 have A7 := Lib.hid (A6.out.only o7 (fun h => h))
                 clear d1 d2
                 have d1 := A7.out.cell_ (i := 1) rfl
                 have d2 := A7.out.cell_ (i := 2) rfl
                 have m0 := T7.out.m0
                 have m1 := T7.out.m1
                 clear o7)
              | (go_at_call 8; refine (rf_later _ _ _ _ _).mono ?_; rintro e w8 ⟨rfl, o8⟩; rw [HLt.out]
                 have T8 := Lib.hid (T7.out.keep o8)
                 have A8 := Lib.hid (A7.out.only o8 (fun h => h))
                 clear d1 d2 m0 m1
                 have d1 := A8.out.cell_ (i := 1) rfl
                 have d2 := A8.out.cell_ (i := 2) rfl
                 have m0 := T8.out.m0
                 have m1 := T8.out.m1
                 have z0 := T8.out.blk.frozen 0
                 have z1 := T8.out.blk.frozen 1
                 clear o8))
            go_roundw
            case rel => exact ⟨k + 1, c', ⟨c', s'⟩, by omega, by go_num, ⟨by simp only; omega, by simp, by omega, .inl rfl⟩, T8.out.set ⟨c', s'⟩⟩
            case measure => simp [intOf]; omega
          · have hn' : c' ≤ n := by omega
            clear hn
            by_cases hlr : stLater ⟨c', s'⟩ ⟨xc, xs⟩ = true
            · have HLt := Lib.hid hlr
              have hcx : xc ≤ c' := by
                have := (later_def _ _).1 hlr
                simp only at this
                omega
              clear hlr
              go_wp2_with (first
                | (go_at_call 11; refine (st_of _ _ _).mono ?_; rintro e w5 ⟨rfl, o5⟩
                   have T5 := Lib.hid (T2.out.keep o5)
                   have A5 := Lib.hid (A2.out.only o5 (fun h => h))
                   clear o5)
                | (go_at_call 21; refine (clk_see_low g s n c' s' _ T5.out.clk HGd.out hn').mono ?_; rintro e w6 ⟨rfl, k6, o6⟩
                   have T6 := Lib.hid (T5.out.keep o6)
                   have A6 := Lib.hid (A5.out.only o6 (fun h => h))
                   have d1 := A6.out.cell_ (i := 1) rfl
                   have d2 := A6.out.cell_ (i := 2) rfl
                   clear k6 o6)
                | (go_at_call 13; refine (rf_good _ _ _).mono ?_; rintro e w7 ⟨rfl, o7⟩; rw [HGd.out]
                   have T7 := Lib.hid (T6.out.keep o7)
                   have A7 := Lib.hid (A6.out.only o7 (fun h => h))
                   clear d1 d2
                   have d1 := A7.out.cell_ (i := 1) rfl
                   have d2 := A7.out.cell_ (i := 2) rfl
                   have m0 := T7.out.m0
                   have m1 := T7.out.m1
                   clear o7)
                | (go_at_call 8; refine (rf_later _ _ _ _ _).mono ?_; rintro e w8 ⟨rfl, o8⟩; rw [HLt.out]
                   have T8 := Lib.hid (T7.out.keep o8)
                   have A8 := Lib.hid (A7.out.only o8 (fun h => h))
                   clear d1 d2 m0 m1
                   have d1 := A8.out.cell_ (i := 1) rfl
                   have d2 := A8.out.cell_ (i := 2) rfl
                   have m0 := T8.out.m0
                   have m1 := T8.out.m1
                   have z0 := T8.out.blk.frozen 0
                   have z1 := T8.out.blk.frozen 1
                   clear o8))
              go_roundw
              case rel => exact ⟨k + 1, n, ⟨c', s'⟩, by omega, by go_num, ⟨by simp only; omega, by simpa using hn', by omega, by simp only; omega⟩, T8.out.set ⟨c', s'⟩⟩
              case measure => simp [intOf]; omega
            · have hlr' : stLater ⟨c', s'⟩ ⟨xc, xs⟩ = false := by simpa using hlr
              have HLt := Lib.hid hlr'
              clear hlr hlr'
              go_wp2_with (first
                | (go_at_call 11; refine (st_of _ _ _).mono ?_; rintro e w5 ⟨rfl, o5⟩
                   have T5 := Lib.hid (T2.out.keep o5)
                   have A5 := Lib.hid (A2.out.only o5 (fun h => h))
                   clear o5)
                | (go_at_call 21; refine (clk_see_low g s n c' s' _ T5.out.clk HGd.out hn').mono ?_; rintro e w6 ⟨rfl, k6, o6⟩
                   have T6 := Lib.hid (T5.out.keep o6)
                   have A6 := Lib.hid (A5.out.only o6 (fun h => h))
                   have d1 := A6.out.cell_ (i := 1) rfl
                   have d2 := A6.out.cell_ (i := 2) rfl
                   clear k6 o6)
                | (go_at_call 13; refine (rf_good _ _ _).mono ?_; rintro e w7 ⟨rfl, o7⟩; rw [HGd.out]
                   have T7 := Lib.hid (T6.out.keep o7)
                   have A7 := Lib.hid (A6.out.only o7 (fun h => h))
                   clear d1 d2
                   have d1 := A7.out.cell_ (i := 1) rfl
                   have d2 := A7.out.cell_ (i := 2) rfl
                   have m0 := T7.out.m0
                   have m1 := T7.out.m1
                   clear o7)
                | (go_at_call 8; refine (rf_later _ _ _ _ _).mono ?_; rintro e w8 ⟨rfl, o8⟩; rw [HLt.out]
                   have T8 := Lib.hid (T7.out.keep o8)
                   have A8 := Lib.hid (A7.out.only o8 (fun h => h))
                   clear d1 d2 m0 m1
                   have d1 := A8.out.cell_ (i := 1) rfl
                   have d2 := A8.out.cell_ (i := 2) rfl
                   have m0 := T8.out.m0
                   have m1 := T8.out.m1
                   have z0 := T8.out.blk.frozen 0
                   have z1 := T8.out.blk.frozen 1
                   clear o8))
              go_roundw
              case rel => exact ⟨k + 1, n, ⟨xc, xs⟩, by omega, by go_num, ⟨u0, u1, u2, u3⟩, T8.out⟩
              case measure => simp [intOf]; omega
        · have hg' : stGood ⟨c', s'⟩ = false := by simpa using hg
          have HGd := Lib.hid hg'
          clear hg hg'
          go_wp2_with (first
            | (go_at_call 11; refine (st_of _ _ _).mono ?_; rintro e w5 ⟨rfl, o5⟩
               have T5 := Lib.hid (T2.out.keep o5)
               have A5 := Lib.hid (A2.out.only o5 (fun h => h))
               clear o5)
            | (go_at_call 21; refine (clk_see_bad g s n c' s' _ T5.out.clk HGd.out).mono ?_; rintro e w6 ⟨rfl, k6, o6⟩
               have T6 := Lib.hid (T5.out.keep o6)
               have A6 := Lib.hid (A5.out.only o6 (fun h => h))
               have d1 := A6.out.cell_ (i := 1) rfl
               have d2 := A6.out.cell_ (i := 2) rfl
               clear k6 o6)
            | (go_at_call 13; refine (rf_good _ _ _).mono ?_; rintro e w7 ⟨rfl, o7⟩; rw [HGd.out]
               have T7 := Lib.hid (T6.out.keep o7)
               have A7 := Lib.hid (A6.out.only o7 (fun h => h))
               clear d1 d2
               have d1 := A7.out.cell_ (i := 1) rfl
               have d2 := A7.out.cell_ (i := 2) rfl
               have m0 := T7.out.m0
               have m1 := T7.out.m1
               clear o7))
          go_roundw
          case rel => exact ⟨k + 1, n, ⟨xc, xs⟩, by omega, by go_num, ⟨u0, u1, u2, u3⟩, T7.out⟩
          case measure => simp [intOf]; omega
      · by_cases hn : n < 4294967295
        · have HG := Lib.hid (HG9.out n hn0 hn)
          have HLt : Hid (stLater ⟨n + 1, s⟩ ⟨xc, xs⟩ = true) := (later_def _ _).2 (.inl (by simp only; omega))
          have hle : decide (n + 1 ≤ xc) = false := by simp; omega
          go_wp2_with (first
            | (go_at_call 18; refine (clk_next g s n _ T2.out.clk hn0 hn).mono ?_; rintro e w6 ⟨rfl, k6, o6⟩
               have T6 := Lib.hid ((T2.out.clkTo k6 o6).alloc (.cells #[.int .i64 (n + 1), .int .i64 s] 27))
               have S6 := Lib.hid (Blk.new w6 27 #[.int .i64 (n + 1), .int .i64 s])
               have G6 := Lib.hid (T2.out.clkTo k6 o6).lt
               clear k6 o6))
          clear c0 c1 c2
          have t8 : Prs (w6.alloc (.cells #[.int .i64 (n + 1), .int .i64 s] 27)) 27 23 w6.heap.size gm ⟨n + 1, s⟩ ⟨xc, xs⟩ (w6.alloc (.cells #[.int .i64 (n + 1), .int .i64 s] 27)).drew := ⟨S6.out, T6.out.blk, (Only.refl none_ _).drew⟩
          have T7 : Hid (Cr W g gm s (n + 1) ⟨xc, xs⟩ (w6.alloc (.cells #[.int .i64 (n + 1), .int .i64 s] 27)).drew) := T6.out.drew
          generalize w6.alloc (.cells #[.int .i64 (n + 1), .int .i64 s] 27) = w7 at *
          generalize w6.heap.size = p at *
          go_region_held3 (fun w' => (w'.cell? ⟨p, 0, none⟩ = some (.int .i64 (n + 1)) ∧ w'.cell? ⟨p, 1, none⟩ = some (.int .i64 s)) ∧ w'.cell? ⟨gm, 0, none⟩ = some (.int .i64 xc) ∧ w'.cell? ⟨gm, 1, none⟩ = some (.int .i64 xs))
            (with_reducible exact Prs.cells (by assumption))
            (first
              | (go_at_call 14; refine (st_to _ _ _).mono ?_; rintro e w9 ⟨rfl, o9⟩; have t9 := Prs.keep (by assumption) o9; clear o9)
              | (go_at_call 13; refine (rf_good _ _ _).mono ?_; rintro e w9 ⟨rfl, o9⟩; rw [HG.out]; have t9 := Prs.keep (by assumption) o9; clear o9)
              | (go_at_call 8; refine (rf_later _ _ _ _ _).mono ?_; rintro e w9 ⟨rfl, o9⟩; rw [HLt.out]; have t9 := Prs.keep (by assumption) o9; clear o9))
          have T9 := Lib.hid (T6.out.keep t9.ho)
          have P9 := Lib.hid t9
          obtain ⟨⟨p0, p1⟩, _, _⟩ := t9.cells
          clear t8 t9
          go_wp2_with (first
            | (go_at_call 14; refine (st_to _ _ _).mono ?_; rintro e w10 ⟨rfl, o10⟩
               have T10 := Lib.hid (T9.out.keep o10)
               have m0 := T10.out.m0
               have m1 := T10.out.m1
               have z0 := T10.out.blk.frozen 0
               have z1 := T10.out.blk.frozen 1
               clear o10))
          go_roundw
          case rel => exact ⟨k + 1, n + 1, ⟨n + 1, s⟩, by omega, by go_num, ⟨by simp only; omega, by simp, by omega, .inl rfl⟩, T10.out.set ⟨n + 1, s⟩⟩
          case measure => simp [intOf]; omega
        · obtain rfl : n = 4294967295 := by omega
          obtain rfl : xc = 4294967295 := by omega
          clear hn u0 u1 u2 u3 hn0
          go_wp2_with (first
            | (go_at_call 18; refine (clk_next_spent g s _ T2.out.clk).mono ?_; rintro e w6 ⟨rfl, _, o6⟩
               have T6 := Lib.hid ((T2.out.keep o6).alloc (.cells #[.int .i64 0, .int .i64 0] 27))
               have m0 := T6.out.m0
               have m1 := T6.out.m1
               clear o6)
            | (go_at_call 22; refine (clk_now g s 4294967295 _ T6.out.clk).mono ?_; rintro e w' ⟨rfl, rfl⟩))
          go_ret
          exact ⟨rfl, T6.out.ho.below (Nat.le_refl _) (fun k hk => hk.elim)⟩
    · have hkL : decide ((k : Int) < (L : Int)) = false := by simp; omega
      go_wp2_with fail
      go_ret
      exact ⟨rfl, T1.out.ho.below (Nat.le_refl _) (fun k hk => hk.elim)⟩

theorem rises_long (a0 a1 : Int) (A : Option Addr) (L c : Nat) (W : World) (h : 60 < L) :
    Calls Try.prog 6 #[.int .u16 a0, .int .u16 a1, .slice A L c] W fun e w' => e = .returned (.bool true) ∧ Below W.heap.size W w' := by
  have hl6 : decide ((60 : Int) < (L : Int)) = true := by simp; omega
  have tok : True := trivial
  go_enter Try.func6, Try.ntmps6
  go_wp2_with (first
    | (go_at_call 9; have _t := tok; refine (st_speaks _).mono ?_; rintro e w1 ⟨rfl, o1⟩; have O1 := Lib.hid o1; clear o1 tok)
    | (go_at_call 9; refine (st_speaks _).mono ?_; rintro e w2 ⟨rfl, o2⟩; have O2 := Lib.hid (O1.out.trans o2); clear o2))
  go_ret
  exact ⟨rfl, O2.out.below (Nat.le_refl _) (fun k hk => hk.elim)⟩
end Go.Proofs.Ytolgjjjclihmkaa
