/- Texts of mine, one behind the other: RpU, RpV, EnV, EnW. No statement of the seat is proved here. -/
import Derived.Test.YtoohpcomnhfgpaaGreatHs3
import Derived.Test.YtoohpcomnhfgpaaGreatChecked
import Derived.Test.YtoohpcomnhfgpaaGreatHs15
import Derived.Test.YtoohpcomnhfgpaaGreatHs7
import Derived.Test.YtoohpcomnhfgpaaGreatHs8
import Derived.Test.YtoohpcomnhfgpaaGreatHs1
import Derived.Test.YtoohpcomnhfgpaaGreatHs13
import Derived.Test.YtoohpcomnhfgpaaGreatHs2
import Derived.Laws.Tables
section
namespace Go.Proofs.YtoohpcomnhfgpaaGreat
open Go.RowKit
set_option maxRecDepth 100000
set_option linter.all false
theorem rp_within (n a b : Int) (w : World) :
    Calls Tryz.prog 62 #[.int .i64 n, .int .i64 a, .int .i64 b] w fun E w' => E = .returned (.bool (decide (a ≤ n ∧ n ≤ b))) ∧ w = w' := by
  by_cases h1 : a ≤ n
  · have d1 : decide (a ≤ n) = true := decide_eq_true h1
    have e : decide (a ≤ n ∧ n ≤ b) = decide (n ≤ b) := by simp [h1]
    rw [e]
    clear h1 e
    go_enter Tryz.func62, Tryz.ntmps62
    go_wp2_with fail
    go_ret
    exact ⟨by simp, rfl⟩
  · have d1 : decide (a ≤ n) = false := decide_eq_false h1
    have e : decide (a ≤ n ∧ n ≤ b) = false := by simp [h1]
    rw [e]
    clear h1 e
    go_enter Tryz.func62, Tryz.ntmps62
    go_wp2_with fail
    go_ret
    exact ⟨rfl, rfl⟩
set_option maxHeartbeats 25600000 in
theorem rp_check (o : Ro) (w : World) :
    Calls Tryz.prog 18 #[.agg #[.int .i64 o.n, .int .i64 o.q, .int .i64 o.r, .int .i64 o.t1, .int .i64 o.t2]] w fun E w' => E = .returned (.int .i64 (roCheck o)) ∧ Only none_ w w' := by
  obtain ⟨n, q, r, t1, t2⟩ := o
  have O0 := Lib.hid ((Only.refl none_ w).alloc (.cells #[.int .i64 n, .int .i64 q, .int .i64 r, .int .i64 t1, .int .i64 t2] 33))
  have hr : roCheck ⟨n, q, r, t1, t2⟩ = if (!(decide (1 ≤ n ∧ n ≤ 12) && decide (1 ≤ q ∧ q ≤ 64) && decide (1 ≤ r ∧ r ≤ n) && decide (0 ≤ t1 ∧ t1 ≤ 2147483647) && decide (t1 ≤ t2 ∧ t2 ≤ (if t1 = 0 then 0 else 2147483647)))) = true then 14 else 0 := rfl
  rw [hr]
  clear hr
  have H1 := Lib.hid (fun X => rp_within n 1 12 X)
  have H2 := Lib.hid (fun X => rp_within q 1 64 X)
  have H3 := Lib.hid (fun X => rp_within r 1 n X)
  have H4 := Lib.hid (fun X => rp_within t1 0 2147483647 X)
  have H5 := Lib.hid (fun X => rp_within t2 t1 (if t1 = 0 then 0 else 2147483647) X)
  obtain ⟨b1, h1⟩ : ∃ b, decide (1 ≤ n ∧ n ≤ 12) = b := ⟨_, rfl⟩
  obtain ⟨b2, h2⟩ : ∃ b, decide (1 ≤ q ∧ q ≤ 64) = b := ⟨_, rfl⟩
  obtain ⟨b3, h3⟩ : ∃ b, decide (1 ≤ r ∧ r ≤ n) = b := ⟨_, rfl⟩
  obtain ⟨b4, h4⟩ : ∃ b, decide (0 ≤ t1 ∧ t1 ≤ 2147483647) = b := ⟨_, rfl⟩
  obtain ⟨b5, h5⟩ : ∃ b, decide (t1 ≤ t2 ∧ t2 ≤ (if t1 = 0 then 0 else 2147483647)) = b := ⟨_, rfl⟩
  rw [h1] at H1 ⊢
  rw [h2] at H2 ⊢
  rw [h3] at H3 ⊢
  rw [h4] at H4 ⊢
  rw [h5] at H5 ⊢
  clear h1 h2 h3 h4 h5
  by_cases ht : t1 = 0
  · have hz : (t1 == 0) = true := by simp [ht]
    rw [if_pos ht] at H5
    clear ht
    cases b1 with
    | false =>
      go_enter Tryz.func18, Tryz.ntmps18
      go_wp2_with (first
        | (go_at_call 62; with_reducible refine (H1.out _).mono ?_; rintro E w1 ⟨rfl, rfl⟩)
        | (go_at_call 62; with_reducible refine (H2.out _).mono ?_; rintro E w2 ⟨rfl, rfl⟩)
        | (go_at_call 62; with_reducible refine (H3.out _).mono ?_; rintro E w3 ⟨rfl, rfl⟩)
        | (go_at_call 62; with_reducible refine (H4.out _).mono ?_; rintro E w4 ⟨rfl, rfl⟩)
        | (go_at_call 62; with_reducible refine (H5.out _).mono ?_; rintro E w5 ⟨rfl, rfl⟩))
      go_ret
      exact ⟨rfl, O0.out⟩
    | true =>
      cases b2 with
      | false =>
        go_enter Tryz.func18, Tryz.ntmps18
        go_wp2_with (first
          | (go_at_call 62; with_reducible refine (H1.out _).mono ?_; rintro E w1 ⟨rfl, rfl⟩)
          | (go_at_call 62; with_reducible refine (H2.out _).mono ?_; rintro E w2 ⟨rfl, rfl⟩)
          | (go_at_call 62; with_reducible refine (H3.out _).mono ?_; rintro E w3 ⟨rfl, rfl⟩)
          | (go_at_call 62; with_reducible refine (H4.out _).mono ?_; rintro E w4 ⟨rfl, rfl⟩)
          | (go_at_call 62; with_reducible refine (H5.out _).mono ?_; rintro E w5 ⟨rfl, rfl⟩))
        go_ret
        exact ⟨rfl, O0.out⟩
      | true =>
        cases b3 with
        | false =>
          go_enter Tryz.func18, Tryz.ntmps18
          go_wp2_with (first
            | (go_at_call 62; with_reducible refine (H1.out _).mono ?_; rintro E w1 ⟨rfl, rfl⟩)
            | (go_at_call 62; with_reducible refine (H2.out _).mono ?_; rintro E w2 ⟨rfl, rfl⟩)
            | (go_at_call 62; with_reducible refine (H3.out _).mono ?_; rintro E w3 ⟨rfl, rfl⟩)
            | (go_at_call 62; with_reducible refine (H4.out _).mono ?_; rintro E w4 ⟨rfl, rfl⟩)
            | (go_at_call 62; with_reducible refine (H5.out _).mono ?_; rintro E w5 ⟨rfl, rfl⟩))
          go_ret
          exact ⟨rfl, O0.out⟩
        | true =>
          cases b4 with
          | false =>
            go_enter Tryz.func18, Tryz.ntmps18
            go_wp2_with (first
              | (go_at_call 62; with_reducible refine (H1.out _).mono ?_; rintro E w1 ⟨rfl, rfl⟩)
              | (go_at_call 62; with_reducible refine (H2.out _).mono ?_; rintro E w2 ⟨rfl, rfl⟩)
              | (go_at_call 62; with_reducible refine (H3.out _).mono ?_; rintro E w3 ⟨rfl, rfl⟩)
              | (go_at_call 62; with_reducible refine (H4.out _).mono ?_; rintro E w4 ⟨rfl, rfl⟩)
              | (go_at_call 62; with_reducible refine (H5.out _).mono ?_; rintro E w5 ⟨rfl, rfl⟩))
            go_ret
            exact ⟨rfl, O0.out⟩
          | true =>
            cases b5 with
            | false =>
              go_enter Tryz.func18, Tryz.ntmps18
              go_wp2_with (first
                | (go_at_call 62; with_reducible refine (H1.out _).mono ?_; rintro E w1 ⟨rfl, rfl⟩)
                | (go_at_call 62; with_reducible refine (H2.out _).mono ?_; rintro E w2 ⟨rfl, rfl⟩)
                | (go_at_call 62; with_reducible refine (H3.out _).mono ?_; rintro E w3 ⟨rfl, rfl⟩)
                | (go_at_call 62; with_reducible refine (H4.out _).mono ?_; rintro E w4 ⟨rfl, rfl⟩)
                | (go_at_call 62; with_reducible refine (H5.out _).mono ?_; rintro E w5 ⟨rfl, rfl⟩))
              go_ret
              exact ⟨rfl, O0.out⟩
            | true =>
              go_enter Tryz.func18, Tryz.ntmps18
              go_wp2_with (first
                | (go_at_call 62; with_reducible refine (H1.out _).mono ?_; rintro E w1 ⟨rfl, rfl⟩)
                | (go_at_call 62; with_reducible refine (H2.out _).mono ?_; rintro E w2 ⟨rfl, rfl⟩)
                | (go_at_call 62; with_reducible refine (H3.out _).mono ?_; rintro E w3 ⟨rfl, rfl⟩)
                | (go_at_call 62; with_reducible refine (H4.out _).mono ?_; rintro E w4 ⟨rfl, rfl⟩)
                | (go_at_call 62; with_reducible refine (H5.out _).mono ?_; rintro E w5 ⟨rfl, rfl⟩))
              go_ret
              exact ⟨rfl, O0.out⟩
  · have hz : (t1 == 0) = false := by simpa using ht
    rw [if_neg ht] at H5
    clear ht
    cases b1 with
    | false =>
      go_enter Tryz.func18, Tryz.ntmps18
      go_wp2_with (first
        | (go_at_call 62; with_reducible refine (H1.out _).mono ?_; rintro E w1 ⟨rfl, rfl⟩)
        | (go_at_call 62; with_reducible refine (H2.out _).mono ?_; rintro E w2 ⟨rfl, rfl⟩)
        | (go_at_call 62; with_reducible refine (H3.out _).mono ?_; rintro E w3 ⟨rfl, rfl⟩)
        | (go_at_call 62; with_reducible refine (H4.out _).mono ?_; rintro E w4 ⟨rfl, rfl⟩)
        | (go_at_call 62; with_reducible refine (H5.out _).mono ?_; rintro E w5 ⟨rfl, rfl⟩))
      go_ret
      exact ⟨rfl, O0.out⟩
    | true =>
      cases b2 with
      | false =>
        go_enter Tryz.func18, Tryz.ntmps18
        go_wp2_with (first
          | (go_at_call 62; with_reducible refine (H1.out _).mono ?_; rintro E w1 ⟨rfl, rfl⟩)
          | (go_at_call 62; with_reducible refine (H2.out _).mono ?_; rintro E w2 ⟨rfl, rfl⟩)
          | (go_at_call 62; with_reducible refine (H3.out _).mono ?_; rintro E w3 ⟨rfl, rfl⟩)
          | (go_at_call 62; with_reducible refine (H4.out _).mono ?_; rintro E w4 ⟨rfl, rfl⟩)
          | (go_at_call 62; with_reducible refine (H5.out _).mono ?_; rintro E w5 ⟨rfl, rfl⟩))
        go_ret
        exact ⟨rfl, O0.out⟩
      | true =>
        cases b3 with
        | false =>
          go_enter Tryz.func18, Tryz.ntmps18
          go_wp2_with (first
            | (go_at_call 62; with_reducible refine (H1.out _).mono ?_; rintro E w1 ⟨rfl, rfl⟩)
            | (go_at_call 62; with_reducible refine (H2.out _).mono ?_; rintro E w2 ⟨rfl, rfl⟩)
            | (go_at_call 62; with_reducible refine (H3.out _).mono ?_; rintro E w3 ⟨rfl, rfl⟩)
            | (go_at_call 62; with_reducible refine (H4.out _).mono ?_; rintro E w4 ⟨rfl, rfl⟩)
            | (go_at_call 62; with_reducible refine (H5.out _).mono ?_; rintro E w5 ⟨rfl, rfl⟩))
          go_ret
          exact ⟨rfl, O0.out⟩
        | true =>
          cases b4 with
          | false =>
            go_enter Tryz.func18, Tryz.ntmps18
            go_wp2_with (first
              | (go_at_call 62; with_reducible refine (H1.out _).mono ?_; rintro E w1 ⟨rfl, rfl⟩)
              | (go_at_call 62; with_reducible refine (H2.out _).mono ?_; rintro E w2 ⟨rfl, rfl⟩)
              | (go_at_call 62; with_reducible refine (H3.out _).mono ?_; rintro E w3 ⟨rfl, rfl⟩)
              | (go_at_call 62; with_reducible refine (H4.out _).mono ?_; rintro E w4 ⟨rfl, rfl⟩)
              | (go_at_call 62; with_reducible refine (H5.out _).mono ?_; rintro E w5 ⟨rfl, rfl⟩))
            go_ret
            exact ⟨rfl, O0.out⟩
          | true =>
            cases b5 with
            | false =>
              go_enter Tryz.func18, Tryz.ntmps18
              go_wp2_with (first
                | (go_at_call 62; with_reducible refine (H1.out _).mono ?_; rintro E w1 ⟨rfl, rfl⟩)
                | (go_at_call 62; with_reducible refine (H2.out _).mono ?_; rintro E w2 ⟨rfl, rfl⟩)
                | (go_at_call 62; with_reducible refine (H3.out _).mono ?_; rintro E w3 ⟨rfl, rfl⟩)
                | (go_at_call 62; with_reducible refine (H4.out _).mono ?_; rintro E w4 ⟨rfl, rfl⟩)
                | (go_at_call 62; with_reducible refine (H5.out _).mono ?_; rintro E w5 ⟨rfl, rfl⟩))
              go_ret
              exact ⟨rfl, O0.out⟩
            | true =>
              go_enter Tryz.func18, Tryz.ntmps18
              go_wp2_with (first
                | (go_at_call 62; with_reducible refine (H1.out _).mono ?_; rintro E w1 ⟨rfl, rfl⟩)
                | (go_at_call 62; with_reducible refine (H2.out _).mono ?_; rintro E w2 ⟨rfl, rfl⟩)
                | (go_at_call 62; with_reducible refine (H3.out _).mono ?_; rintro E w3 ⟨rfl, rfl⟩)
                | (go_at_call 62; with_reducible refine (H4.out _).mono ?_; rintro E w4 ⟨rfl, rfl⟩)
                | (go_at_call 62; with_reducible refine (H5.out _).mono ?_; rintro E w5 ⟨rfl, rfl⟩))
              go_ret
              exact ⟨rfl, O0.out⟩
end Go.Proofs.YtoohpcomnhfgpaaGreat
end
section
namespace Go.Proofs.YtoohpcomnhfgpaaGreat
open Go.RowKit
set_option maxRecDepth 100000
set_option linter.all false
abbrev nilV : Value := .slice none 0 0
structure Bk (B : World) (a : Ra) (o : Ro) (site : Int) (w0 w : World) : Prop where
  bk : Blk w a.r 78 #[.int .i64 o.n, .int .i64 o.q, .int .i64 o.r, .int .i64 o.t1, .int .i64 o.t2, .pointer (some ⟨a.ck, 0, none⟩), .pointer (some ⟨a.tb, 0, none⟩), .int .u64 0, .pointer (some ⟨a.mx, 0, none⟩), .pointer (some ⟨a.gv, 0, none⟩), .map (some a.ob), .pointer none, .pointer none]
  ck : Clk w a.ck site 0
  tb : Se.Tb B a.tb (roRoom o) (prs []) nilV w
  mx : Rc B.heap.size a.mx a.mb [] [] nilV w
  gv : Gv B a.gv a.gt site o.t2 [] nilV w
  ob : Mq w a.ob []
  o : Only none_ w0 w
  v : a.vt = nilV ∧ a.vm = nilV ∧ a.vg = nilV
  ge : ∀ i k, i < 6 → ft a i k → w0.heap.size ≤ k ∧ k < w.heap.size
  dj : ∀ i j k, i < 6 → j < 6 → i ≠ j → ft a i k → ¬ ft a j k
theorem foot_nil {g k : Nat} (h : foot g nilV k) : k = g := by
  rcases h with h | h
  · exact h
  · cases h
theorem Ft_nil {g mb k : Nat} (h : Ft g mb nilV k) : k = g ∨ k = mb := by
  rcases h with h | h | h
  · exact .inl h
  · exact .inr h
  · cases h
theorem gfoot_nil {g tb k : Nat} (h : gfoot g tb nilV k) : k = g ∨ k = tb := by
  rcases h with h | h
  · exact .inl h
  · exact .inr (foot_nil h)
theorem blank_ft {a : Ra} (hv : a.vt = nilV ∧ a.vm = nilV ∧ a.vg = nilV) : ∀ i k, i < 6 → ft a i k → (i = 0 ∧ k = a.r) ∨ (i = 1 ∧ k = a.ck) ∨ (i = 2 ∧ k = a.tb) ∨ (i = 3 ∧ (k = a.mx ∨ k = a.mb)) ∨ (i = 4 ∧ (k = a.gv ∨ k = a.gt)) ∨ (i = 5 ∧ k = a.ob)
  | 0, k, _, h => .inl ⟨rfl, h⟩
  | 1, k, _, h => .inr (.inl ⟨rfl, h⟩)
  | 2, k, _, h => .inr (.inr (.inl ⟨rfl, foot_nil (by have h' : foot a.tb a.vt k := h; rwa [hv.1] at h')⟩))
  | 3, k, _, h => .inr (.inr (.inr (.inl ⟨rfl, Ft_nil (by have h' : Ft a.mx a.mb a.vm k := h; rwa [hv.2.1] at h')⟩)))
  | 4, k, _, h => .inr (.inr (.inr (.inr (.inl ⟨rfl, gfoot_nil (by have h' : gfoot a.gv a.gt a.vg k := h; rwa [hv.2.2] at h')⟩))))
  | 5, k, _, h => .inr (.inr (.inr (.inr (.inr ⟨rfl, h⟩))))
  | _ + 6, _, h, _ => absurd h (by omega)
theorem blank_dj {a : Ra} {w0 w : World} (hv : a.vt = nilV ∧ a.vm = nilV ∧ a.vg = nilV) (n1 n2 n3 : Nat) (h1 : w0.heap.size ≤ a.ck ∧ a.ck < n1) (h2 : n1 ≤ a.tb ∧ a.tb < n2) (h3 : (n2 ≤ a.gv ∧ a.gv < n3) ∧ (n2 ≤ a.gt ∧ a.gt < n3)) (h4 : (n3 ≤ a.mx ∧ a.mx < a.r) ∧ (n3 ≤ a.mb ∧ a.mb < a.r) ∧ (n3 ≤ a.ob ∧ a.ob < a.r)) (h5 : a.ob ≠ a.mx ∧ a.ob ≠ a.mb) (h6 : a.r < w.heap.size) :
    (∀ i k, i < 6 → ft a i k → w0.heap.size ≤ k ∧ k < w.heap.size) ∧ ∀ i j k, i < 6 → j < 6 → i ≠ j → ft a i k → ¬ ft a j k := by
  refine ⟨fun i k hi h => ?_, fun i j k hi hj hij h h' => ?_⟩
  · have := blank_ft hv i k hi h
    omega
  · have e1 := blank_ft hv i k hi h
    have e2 := blank_ft hv j k hj h'
    omega
theorem Rc.low {N M g mb : Nat} {l q : List Mk} {v : Value} {w : World} (h : Rc N g mb l q v w) (hN : M ≤ N) : Rc M g mb l q v w :=
  ⟨h.bk, owns_base h.ow hN, h.mp, Nat.le_trans hN h.gn, Nat.le_trans hN h.mn, h.ix, h.ml⟩
theorem Bk.of {B w0 w1 w2 w3 W : World} {o : Ro} {site : Int} {ck tb gv gt mg mb ob r : Nat} (hr : W.heap.size = r) (hB : Only none_ B w0) (O1 : Only none_ w0 w1) (O2 : Only none_ w0 w2) (O3 : Only none_ w0 w3) (O5 : Only none_ w3 W)
    (k1 : w0.heap.size ≤ ck ∧ ck < w1.heap.size) (k3 : Clk w3 ck site 0) (t2 : w1.heap.size ≤ tb ∧ tb < w2.heap.size) (t3 : Se.Tb B tb (roRoom o) [] nilV w3) (g3 : w2.heap.size ≤ gv ∧ w2.heap.size ≤ gt ∧ Gv B gv gt site o.t2 [] nilV w3)
    (hR : Rc w3.heap.size mg mb [] [] nilV W) (hM : Mq W ob []) (h4 : w3.heap.size ≤ ob) (h5 : ob ≠ mg ∧ ob ≠ mb) :
    Bk B ⟨r, ck, tb, nilV, mg, mb, nilV, gv, gt, nilV, ob, 0, nilV, 0⟩ o site w0 (W.alloc (.cells #[.int .i64 o.n, .int .i64 o.q, .int .i64 o.r, .int .i64 o.t1, .int .i64 o.t2, .pointer (some ⟨ck, 0, none⟩), .pointer (some ⟨tb, 0, none⟩), .int .u64 0, .pointer (some ⟨mg, 0, none⟩), .pointer (some ⟨gv, 0, none⟩), .map (some ob), .pointer none, .pointer none] 78)) := by
  subst hr
  have oA : Only none_ W (W.alloc (.cells #[.int .i64 o.n, .int .i64 o.q, .int .i64 o.r, .int .i64 o.t1, .int .i64 o.t2, .pointer (some ⟨ck, 0, none⟩), .pointer (some ⟨tb, 0, none⟩), .int .u64 0, .pointer (some ⟨mg, 0, none⟩), .pointer (some ⟨gv, 0, none⟩), .map (some ob), .pointer none, .pointer none] 78)) := (Only.refl none_ W).alloc _
  have hg := (g3.2.2.foot_ge (k := gv) (.inl rfl)).2
  have hgt := (g3.2.2.foot_ge (k := gt) (.inr (.inl rfl))).2
  have hm := (hR.foot (k := mg) (.inl rfl))
  have hmb := (hR.foot (k := mb) (.inr (.inl rfl)))
  have hob := hM.lt
  have hd := blank_dj (a := ⟨W.heap.size, ck, tb, nilV, mg, mb, nilV, gv, gt, nilV, ob, 0, nilV, 0⟩) (w0 := w0) (w := W.alloc (.cells #[.int .i64 o.n, .int .i64 o.q, .int .i64 o.r, .int .i64 o.t1, .int .i64 o.t2, .pointer (some ⟨ck, 0, none⟩), .pointer (some ⟨tb, 0, none⟩), .int .u64 0, .pointer (some ⟨mg, 0, none⟩), .pointer (some ⟨gv, 0, none⟩), .map (some ob), .pointer none, .pointer none] 78))
    ⟨rfl, rfl, rfl⟩ w1.heap.size w2.heap.size w3.heap.size k1 t2 ⟨⟨g3.1, hg⟩, ⟨g3.2.1, hgt⟩⟩ ⟨hm, hmb, ⟨h4, hob⟩⟩ h5 (by show W.heap.size < _; rw [World.size_alloc]; omega)
  exact ⟨Blk.new _ _ _, Clk.only (Clk.only k3 O5 (fun h => h)) oA (fun h => h), (t3.keep O5).keep oA, (hR.low (Nat.le_trans hB.size O3.size)).keep oA, (g3.2.2.keep O5).keep oA, hM.only oA (fun h => h), (O3.trans O5).trans oA, ⟨rfl, rfl, rfl⟩, hd.1, hd.2⟩
theorem five_of {w : World} {g : Nat} {t : TypeId} {a0 a1 a2 a3 a4 : Value} (h : Blk w g t #[a0, a1, a2, a3, a4]) : w.cell? ⟨g, 0, none⟩ = some a0 ∧ w.cell? ⟨g, 1, none⟩ = some a1 ∧ w.cell? ⟨g, 2, none⟩ = some a2 ∧ w.cell? ⟨g, 3, none⟩ = some a3 ∧ w.cell? ⟨g, 4, none⟩ = some a4 :=
  ⟨h.cell_ rfl, h.cell_ rfl, h.cell_ rfl, h.cell_ rfl, h.cell_ rfl⟩
set_option maxHeartbeats 25600000 in
theorem rp_blank (B : World) (site : Int) (o : Ro) (w : World) (hB : Only none_ B w) (ho : roBad o = false) (hs : stSite site = true) :
    Calls Tryz.prog 64 #[.int .i64 site, .agg #[.int .i64 o.n, .int .i64 o.q, .int .i64 o.r, .int .i64 o.t1, .int .i64 o.t2]] w fun E w' => ∃ a, E = .returned (.pointer (some ⟨a.r, 0, none⟩)) ∧ Bk B a o site w w' := by
  have hok := ro_ok ho
  have hrm := ro_room ho
  have HNC := Lib.hid (fun (X : World) => clk_new site 0 X hs (by decide) (by decide))
  have HNT := Lib.hid (fun (X : World) (oX : Only none_ B X) => Se.tb_new_yes B (roRoom o) X oX (by omega) (by omega))
  have HNG := Lib.hid (fun (X : World) (oX : Only none_ B X) => gv_new B site o.t2 X oX hs (by omega))
  have hmk := fun (w : World) => run_makeMap (P := Tryz.prog) 75 w
  have hw : IntKind.i64.wrap (o.n * o.q) = roRoom o := IntWalk.i64_in _ (by unfold roRoom at hrm; omega)
  have O0 := Lib.hid ((Only.refl none_ w).alloc (.cells #[.int .i64 o.n, .int .i64 o.q, .int .i64 o.r, .int .i64 o.t1, .int .i64 o.t2] 33))
  have B0 := Lib.hid (Blk.new w 33 #[.int .i64 o.n, .int .i64 o.q, .int .i64 o.r, .int .i64 o.t1, .int .i64 o.t2])
  have HBW := Lib.hid hB
  obtain ⟨rm, hrr⟩ : ∃ rm, roRoom o = rm := ⟨_, rfl⟩
  rw [hrr] at HNT hw
  have HRR := Lib.hid hrr
  obtain ⟨on, oq, or, ot1, ot2⟩ := o
  dsimp only at HNT HNG hw O0 B0 ⊢
  have q0 := B0.out.cell_ (i := 0) rfl
  have q1 := B0.out.cell_ (i := 1) rfl
  clear hok hrm ho hs hB hrr
  go_enter Tryz.func64, Tryz.ntmps64
  go_wp2_with (first
    | (go_at_call 111; refine (HNC.out _).mono ?_; rintro E w1 ⟨rfl, k1, o1⟩
       have O1 := Lib.hid (O0.out.trans o1)
       have B1 := Lib.hid (B0.out.only o1 (fun h => h))
       rw [World.size_alloc] at k1
       have K1 := Lib.hid k1
       have KL : Hid (w.heap.size ≤ w.heap.size + 1 ∧ w.heap.size + 1 < w1.heap.size) := ⟨by omega, by have := Clk.lt k1; simpa using this⟩
       have q01 := B1.out.cell_ (i := 0) rfl
       have q11 := B1.out.cell_ (i := 1) rfl
       clear k1 o1)
    | (go_at_call 112; refine (HNT.out _ (HBW.out.trans O1.out)).mono ?_; rintro E w2 ⟨tb, rfl, g2, t2, o2⟩
       have O2 := Lib.hid (O1.out.trans o2)
       have B2 := Lib.hid (B1.out.only o2 (fun h => h))
       have K2 : Hid (Clk w2 _ _ _) := K1.out.only o2 (fun h => h)
       have T2 := Lib.hid (And.intro g2 t2)
       have q42 := B2.out.cell_ (i := 4) rfl
       clear g2 t2 o2)
    | (go_at_call 113; refine (HNG.out _ (HBW.out.trans O2.out)).mono ?_; rintro E w3 ⟨gv, gt, rfl, g3, gt3, t3, o3⟩
       have O3 := Lib.hid (O2.out.trans o3)
       have B3 := Lib.hid (B2.out.only o3 (fun h => h))
       have K3 : Hid (Clk w3 _ _ _) := K2.out.only o3 (fun h => h)
       have T3 := Lib.hid (And.intro T2.out.1 (T2.out.2.keep o3))
       have G3 := Lib.hid (And.intro g3 (And.intro gt3 t3))
       have SZ := Lib.hid (And.intro O1.out.size (And.intro O2.out.size O3.out.size))
       clear g3 gt3 t3 o3))
  clear q0 q1 q01 q11 q42
  have p := five_of (Blk.drew B3.out)
  have pm := five_of (Blk.drew (B3.out.alloc (.map #[] 0)))
  go_region_law (first
    | (refine Se.step_call (by simp [Region.wanted]) 114 #[] (by go_simp; try (with_reducible rfl)) ?_
       refine (rc_new _).mono ?_
       rintro E w5 ⟨mg, mb, rfl, r5, o5⟩
       refine ⟨_, rfl, ?_⟩
       have R5 := Lib.hid r5
       have O5 : Hid (Only none_ w3 w5) := by first | exact ((Only.refl none_ w3).drew).trans o5 | exact (((Only.refl none_ w3).alloc _).drew).trans o5
       try (have M5 : Hid (Mq w5 w3.heap.size []) := (((Mq.made w3).only (Only.refl none_ _).drew (fun h => h)).only o5 (fun h => h)))
       have B5 := Lib.hid (B3.out.only O5.out (fun h => h))
       have p5 := five_of B5.out
       have p5m := five_of (B5.out.alloc (.map #[] 0))
       clear o5))
  all_goals go_wp2_with fail
  all_goals try dsimp only [Act.put, List.getElem_toArray, List.getElem_cons_succ, List.getElem_cons_zero]
  all_goals try go_simp
  all_goals go_ret
  all_goals have rr := HRR.out
  all_goals subst rr
  all_goals first
    | (refine ⟨⟨w5.heap.size + 1, w.heap.size + 1, tb, nilV, mg, mb, nilV, gv, gt, nilV, w5.heap.size, 0, nilV, 0⟩, rfl, ?_⟩
       exact Bk.of (by simp) HBW.out O1.out O2.out O3.out (O5.out.alloc (.map #[] 0)) KL.out K3.out ⟨T2.out.1, T2.out.2.bk.lt⟩ T3.out.2 G3.out (R5.out.keep ((Only.refl none_ _).alloc _)) (Mq.made _) O5.out.size ⟨Nat.ne_of_gt (R5.out.foot (.inl rfl)).2, Nat.ne_of_gt (R5.out.foot (.inr (.inl rfl))).2⟩)
    | (refine ⟨⟨w5.heap.size, w.heap.size + 1, tb, nilV, mg, mb, nilV, gv, gt, nilV, w3.heap.size, 0, nilV, 0⟩, rfl, ?_⟩
       exact Bk.of rfl HBW.out O1.out O2.out O3.out O5.out KL.out K3.out ⟨T2.out.1, T2.out.2.bk.lt⟩ T3.out.2 G3.out (R5.out.low (by simp)) M5.out (Nat.le_refl _) (by
        have e1 := (R5.out.foot (.inl rfl)).1
        have e2 := (R5.out.foot (.inr (.inl rfl))).1
        simp at e1 e2
        omega))
end Go.Proofs.YtoohpcomnhfgpaaGreat
end
section
namespace Go.Proofs.YtoohpcomnhfgpaaGreat
open Go.RowKit
set_option maxRecDepth 100000
set_option linter.all false
theorem numR_lt (code : Int) (bs : List UInt8) (m : Nat) : (numR code bs (m : Int)).2.2 < 256 ^ m := by
  have h0 : 0 < 256 ^ m := Nat.pow_pos (by omega)
  unfold numR
  split
  · split
    · rename_i h
      rw [Int.toNat_natCast] at h ⊢
      exact le_take_lt bs m h.2
    · exact h0
  · exact h0
theorem numR_len (code : Int) (bs : List UInt8) (width : Int) : (numR code bs width).2.1.length ≤ bs.length := by
  unfold numR
  split
  · split
    · simp only [List.length_drop]; omega
    · exact Nat.le_refl _
  · exact Nat.le_refl _
structure Tk (B : World) (g : Nat) (S : Nat → Prop) (h : Nat) (t : TypeId) (cs : Array Value) (code : Int) (bs : List UInt8) (w : World) : Prop where
  rd : Rd w g S code bs
  bx : Blk w h t cs
  ho : Only (one g) B w
  gl : g < B.heap.size
  fr : ∀ b, S b → b < B.heap.size
  ge : B.heap.size ≤ h
section
variable {B w w' : World} {g h : Nat} {S : Nat → Prop} {t : TypeId} {cs : Array Value} {code code' : Int} {bs bs' : List UInt8}
theorem Tk.new (hr : Rd B g S code bs) (fr : ∀ b, S b → b < B.heap.size) : Tk B g S B.heap.size t cs code bs (B.alloc (.cells cs t)) :=
  ⟨hr.only ((Only.refl none_ _).alloc _) (fun h => h) (fun _ _ h => h), Blk.new _ _ _, (Only.refl _ _).alloc _, hr.lt, fr, Nat.le_refl _⟩
theorem Tk.step (s : Tk B g S h t cs code bs w) (hr : Rd w' g S code' bs') (o : Only (one g) w w') : Tk B g S h t cs code' bs' w' :=
  ⟨hr, s.bx.only o (fun e => by have e' : h = g := e; have := s.gl; have := s.ge; omega), s.ho.trans o, s.gl, s.fr, s.ge⟩
theorem Tk.keep (s : Tk B g S h t cs code bs w) (o : Only none_ w w') : Tk B g S h t cs code bs w' :=
  s.step (s.rd.only o (fun h => h) (fun _ _ h => h)) o.of_none
theorem Tk.set (s : Tk B g S h t cs code bs w) (i : Nat) (u : Value) : Tk B g S h t (cs.setIfInBounds i u) code bs (w.setCell ⟨h, i, none⟩ u) :=
  ⟨s.rd.only ((Only.refl (one h) w).setCell (p := ⟨h, i, none⟩) (.inl rfl) u) (fun e => by have e' : g = h := e; have := s.gl; have := s.ge; omega)
      (fun b hb e => by have e' : b = h := e; have := s.fr b hb; have := s.ge; omega),
    s.bx.set_ i u, s.ho.setCell (p := ⟨h, i, none⟩) (.inr s.ge) u, s.gl, s.fr, s.ge⟩
end
def stampR (code : Int) (bs : List UInt8) : Int × List UInt8 × St :=
  ((numR (numR code bs 4).1 (numR code bs 4).2.1 1).1, (numR (numR code bs 4).1 (numR code bs 4).2.1 1).2.1, ⟨(numR code bs 4).2.2, (numR (numR code bs 4).1 (numR code bs 4).2.1 1).2.2⟩)
set_option maxHeartbeats 800000 in
theorem take_stamp (g : Nat) (S : Nat → Prop) (code : Int) (bs : List UInt8) (w : World) (hr : Rd w g S code bs) (fr : ∀ b, S b → b < w.heap.size) (hm : bs.length ≤ 140737488355328) :
    Calls Tryz.prog 257 #[.pointer (some ⟨g, 0, none⟩)] w fun e w' =>
      e = .returned (.agg #[.int .i64 (stampR code bs).2.2.c, .int .i64 (stampR code bs).2.2.s]) ∧ Rd w' g S (stampR code bs).1 (stampR code bs).2.1 ∧ Only (one g) w w' := by
  have hg := hr.lt
  have HG := Lib.hid hg
  clear hg
  have R0 := Lib.hid (Blk.new w 80 #[.int .i64 0, .int .i64 0])
  have O0 := Lib.hid ((Only.refl (one g) w).alloc (.cells #[.int .i64 0, .int .i64 0] 80))
  have T0 := Tk.new (t := 80) (cs := #[.int .i64 0, .int .i64 0]) (hr.only ((Only.refl none_ _).alloc (.cells #[.int .i64 0, .int .i64 0] 80)) (fun h => h) (fun _ _ h => h)) (fun b hb => by rw [World.size_alloc]; have := fr b hb; omega)
  rw [World.size_alloc] at T0
  have T := Lib.hid T0
  clear T0
  obtain ⟨a, ha⟩ : ∃ a, numR code bs 4 = a := ⟨_, rfl⟩
  obtain ⟨b, hb⟩ : ∃ b, numR a.1 a.2.1 1 = b := ⟨_, rfl⟩
  have la : a.2.2 < 256 ^ 4 := ha ▸ numR_lt code bs 4
  have lb : b.2.2 < 256 ^ 1 := hb ▸ numR_lt a.1 a.2.1 1
  have l2 : a.2.1.length ≤ bs.length := ha ▸ numR_len code bs 4
  have HS : Hid (stampR code bs = (b.1, b.2.1, ⟨(a.2.2 : Nat), (b.2.2 : Nat)⟩)) := by rw [Hid, stampR, ha, hb]
  have A1 : IntKind.i64.wrap (a.2.2 : Int) = (a.2.2 : Int) := IntWalk.i64_in _ (by omega)
  have B1 : IntKind.i64.wrap (b.2.2 : Int) = (b.2.2 : Int) := IntWalk.i64_in _ (by omega)
  have HB := Lib.hid hb
  have HM : Hid (a.2.1.length ≤ 140737488355328) := Nat.le_trans l2 hm
  have C1 := reader_number g S code bs 4 _ T.out.rd hm
  rw [ha] at C1
  have FR := Lib.hid fr
  clear ha hb la lb l2 hr fr hm
  have tok1 : True := trivial
  go_enter Tryz.func257, Tryz.ntmps257
  go_wp2_with (first
    | (go_at_call 251; have _t := tok1; clear tok1; refine C1.mono ?_; clear C1; rintro e w1 ⟨rfl, h1, o1⟩
       have T1 := Lib.hid (T.out.step h1 o1)
       have z1 := T1.out.bx.frozen 0
       have v1 := T1.out.bx.cell_ (i := 0) rfl
       have T2 := Lib.hid (T1.out.set 0 (.int .i64 a.2.2))
       clear h1 o1
       have tok2 : True := trivial)
    | (go_at_call 251; have _t := tok2; clear tok2; refine (reader_number g S _ _ 1 _ T2.out.rd HM.out).mono ?_; rw [HB.out]; rintro e w2 ⟨rfl, h2, o2⟩
       have T3 := Lib.hid (T2.out.step h2 o2)
       have z2 := T3.out.bx.frozen 1
       have v2 := T3.out.bx.cell_ (i := 1) rfl
       have T4 := Lib.hid (T3.out.set 1 (.int .i64 b.2.2))
       have c0 := T4.out.bx.cell_ (i := 0) rfl
       have c1 := T4.out.bx.cell_ (i := 1) rfl
       have R4 := Lib.hid (R0.out.only T4.out.ho (fun e => by have e' : w.heap.size = g := e; have := HG.out; omega))
       have y0 := R4.out.frozen 0
       have y1 := (R4.out.set_ 0 (.int .i64 a.2.2)).frozen 1
       have x0 := R4.out.cell_ (i := 0) rfl
       have x1 := (R4.out.set_ 0 (.int .i64 a.2.2)).cell_ (i := 1) rfl
       clear h2 o2))
  have hF : Blk (((w2.setCell ⟨w.heap.size + 1, 1, none⟩ (.int .i64 b.2.2)).setCell ⟨w.heap.size, 0, none⟩ (.int .i64 a.2.2)).setCell ⟨w.heap.size, 1, none⟩ (.int .i64 b.2.2)) w.heap.size 80 #[.int .i64 a.2.2, .int .i64 b.2.2] := by
    have := (R4.out.set_ 0 (.int .i64 a.2.2)).set_ 1 (.int .i64 b.2.2)
    simpa using this
  have oF := ((Only.refl (one w.heap.size) (w2.setCell ⟨w.heap.size + 1, 1, none⟩ (.int .i64 b.2.2))).setCell (p := ⟨w.heap.size, 0, none⟩) (.inl rfl) (.int .i64 a.2.2)).setCell (p := ⟨w.heap.size, 1, none⟩) (.inl rfl) (.int .i64 b.2.2)
  exact bodyPost_ret (results_cell_row rfl _ _ w.heap.size 80 _ (0, 0) _ rfl hF Tryz.underlying80 rfl (by kernel_rfl)) rfl
    (by rw [HS.out]; exact ⟨rfl, T4.out.rd.only oF (fun e => by have e' : g = w.heap.size := e; have := HG.out; omega) (fun b hb e => by have e' : b = w.heap.size := e; have := FR.out b hb; omega),
      ((O0.out.trans T4.out.ho).setCell (p := ⟨w.heap.size, 0, none⟩) (.inr (Nat.le_refl _)) _).setCell (p := ⟨w.heap.size, 1, none⟩) (.inr (Nat.le_refl _)) _⟩)
end Go.Proofs.YtoohpcomnhfgpaaGreat
end
section
namespace Go.Proofs.YtoohpcomnhfgpaaGreat
open Go.RowKit
set_option maxRecDepth 100000
set_option linter.all false
theorem textR_len (code : Int) (bs : List UInt8) (most : Int) : (textR code bs most).2.1.length ≤ bs.length := by
  unfold textR
  split
  · simp
  · split
    · exact Nat.le_refl _
    · split
      · exact Nat.le_refl _
      · split
        · exact Nat.le_refl _
        · simp only [List.length_drop, List.length_cons]; omega
theorem flagR_len (code : Int) (bs : List UInt8) : (flagR code bs).2.1.length ≤ bs.length := by
  unfold flagR
  split
  · simp
  · split
    · exact Nat.le_refl _
    · split
      · exact Nat.le_refl _
      · simp
theorem stampR_len (code : Int) (bs : List UInt8) : (stampR code bs).2.1.length ≤ bs.length :=
  Nat.le_trans (numR_len _ _ 1) (numR_len _ _ 4)
theorem Tk.new2 {w : World} {g : Nat} {S : Nat → Prop} {t : TypeId} {cs : Array Value} {code : Int} {bs : List UInt8} (o : Obj) (hr : Rd w g S code bs) (fr : ∀ b, S b → b < w.heap.size) :
    Tk (w.alloc o) g S (w.heap.size + 1) t cs code bs ((w.alloc o).alloc (.cells cs t)) := by
  have := Tk.new (t := t) (cs := cs) (hr.only ((Only.refl none_ _).alloc o) (fun h => h) (fun _ _ h => h)) (fun b hb => by rw [World.size_alloc]; have := fr b hb; omega)
  rwa [World.size_alloc] at this
theorem size_le_alloc (w : World) (o : Obj) : w.heap.size ≤ (w.alloc o).heap.size := by rw [World.size_alloc]; omega
structure Fr7 where
  a1 : Int × List UInt8 × List UInt8
  a2 : Int × List UInt8 × Bool
  a3 : Int × List UInt8 × List UInt8
  a4 : Int × List UInt8 × St
  a5 : Int × List UInt8 × St
  a6 : Int × List UInt8 × Nat
  a7 : Int × List UInt8 × Nat
def fieldsF (code : Int) (bs : List UInt8) : Fr7 :=
  let a1 := textR code bs 16
  let a2 := flagR a1.1 a1.2.1
  let a3 := textR a2.1 a2.2.1 32
  let a4 := stampR a3.1 a3.2.1
  let a5 := stampR a4.1 a4.2.1
  let a6 := numR a5.1 a5.2.1 2
  let a7 := numR a6.1 a6.2.1 4
  ⟨a1, a2, a3, a4, a5, a6, a7⟩
def Fr7.en (f : Fr7) : En := ⟨⟨f.a1.2.2.toArray⟩, ⟨f.a3.2.2.toArray⟩, f.a2.2.2, f.a4.2.2, f.a5.2.2, f.a6.2.2, f.a7.2.2⟩
set_option maxHeartbeats 1600000 in
theorem take_fields (g : Nat) (S : Nat → Prop) (code : Int) (bs : List UInt8) (w : World) (hr : Rd w g S code bs) (fr : ∀ b, S b → b < w.heap.size) (hm : bs.length ≤ 140737488355328) :
    Calls Tryz.prog 219 #[.pointer (some ⟨g, 0, none⟩)] w fun e w' =>
      e = .returned (.agg #[.string (fieldsF code bs).en.k, .string (fieldsF code bs).en.v, .bool (fieldsF code bs).en.d, .int .i64 (fieldsF code bs).en.s.c, .int .i64 (fieldsF code bs).en.s.s, .int .i64 (fieldsF code bs).en.a.c, .int .i64 (fieldsF code bs).en.a.s, .int .i64 (fieldsF code bs).en.p, .int .i64 (fieldsF code bs).en.g]) ∧ Rd w' g S (fieldsF code bs).a7.1 (fieldsF code bs).a7.2.1 ∧ Only (one g) w w' := by
  have hg := hr.lt
  have HG := Lib.hid hg
  clear hg
  have R0 := Lib.hid (Blk.new w 82 #[.string ⟨#[]⟩, .string ⟨#[]⟩, .bool false, .int .i64 0, .int .i64 0, .int .i64 0, .int .i64 0, .int .i64 0, .int .i64 0])
  have O0 := Lib.hid ((Only.refl (one g) w).alloc (.cells #[.string ⟨#[]⟩, .string ⟨#[]⟩, .bool false, .int .i64 0, .int .i64 0, .int .i64 0, .int .i64 0, .int .i64 0, .int .i64 0] 82))
  have T0 := Tk.new2 (t := 82) (cs := #[.string ⟨#[]⟩, .string ⟨#[]⟩, .bool false, .int .i64 0, .int .i64 0, .int .i64 0, .int .i64 0, .int .i64 0, .int .i64 0]) (.cells #[.string ⟨#[]⟩, .string ⟨#[]⟩, .bool false, .int .i64 0, .int .i64 0, .int .i64 0, .int .i64 0, .int .i64 0, .int .i64 0] 82) hr fr
  have T := Lib.hid T0
  clear T0
  obtain ⟨a1, h1⟩ : ∃ a, textR code bs 16 = a := ⟨_, rfl⟩
  obtain ⟨a2, h2⟩ : ∃ a, flagR a1.1 a1.2.1 = a := ⟨_, rfl⟩
  obtain ⟨a3, h3⟩ : ∃ a, textR a2.1 a2.2.1 32 = a := ⟨_, rfl⟩
  obtain ⟨a4, h4⟩ : ∃ a, stampR a3.1 a3.2.1 = a := ⟨_, rfl⟩
  obtain ⟨a5, h5⟩ : ∃ a, stampR a4.1 a4.2.1 = a := ⟨_, rfl⟩
  obtain ⟨a6, h6⟩ : ∃ a, numR a5.1 a5.2.1 2 = a := ⟨_, rfl⟩
  obtain ⟨a7, h7⟩ : ∃ a, numR a6.1 a6.2.1 4 = a := ⟨_, rfl⟩
  have l6 : a6.2.2 < 256 ^ 2 := h6 ▸ numR_lt a5.1 a5.2.1 2
  have l7 : a7.2.2 < 256 ^ 4 := h7 ▸ numR_lt a6.1 a6.2.1 4
  have m1 : a1.2.1.length ≤ 140737488355328 := Nat.le_trans (h1 ▸ textR_len code bs 16) hm
  have m2 : a2.2.1.length ≤ 140737488355328 := Nat.le_trans (h2 ▸ flagR_len a1.1 a1.2.1) m1
  have m3 : a3.2.1.length ≤ 140737488355328 := Nat.le_trans (h3 ▸ textR_len a2.1 a2.2.1 32) m2
  have m4 : a4.2.1.length ≤ 140737488355328 := Nat.le_trans (h4 ▸ stampR_len a3.1 a3.2.1) m3
  have m5 : a5.2.1.length ≤ 140737488355328 := Nat.le_trans (h5 ▸ stampR_len a4.1 a4.2.1) m4
  have m6 : a6.2.1.length ≤ 140737488355328 := Nat.le_trans (h6 ▸ numR_len a5.1 a5.2.1 2) m5
  have HS : Hid (fieldsF code bs = ⟨a1, a2, a3, a4, a5, a6, a7⟩) := by rw [Hid, fieldsF]; simp only [h1, h2, h3, h4, h5, h6, h7]
  have A6 : IntKind.i64.wrap (a6.2.2 : Int) = (a6.2.2 : Int) := IntWalk.i64_in _ (by omega)
  have A7 : IntKind.i64.wrap (a7.2.2 : Int) = (a7.2.2 : Int) := IntWalk.i64_in _ (by omega)
  have M1 := Lib.hid m1
  have M2 := Lib.hid m2
  have M3 := Lib.hid m3
  have M4 := Lib.hid m4
  have M5 := Lib.hid m5
  have M6 := Lib.hid m6
  have H1 := Lib.hid h1
  have H2 := Lib.hid h2
  have H3 := Lib.hid h3
  have H4 := Lib.hid h4
  have H5 := Lib.hid h5
  have H6 := Lib.hid h6
  have H7 := Lib.hid h7
  have HM := Lib.hid hm
  have FR := Lib.hid fr
  have FR2 : Hid (∀ (w' : World), w.heap.size ≤ w'.heap.size → ∀ b, S b → b < w'.heap.size) := fun w' h b hb => Nat.lt_of_lt_of_le (fr b hb) h
  have hle := size_le_alloc w (.cells #[.string ⟨#[]⟩, .string ⟨#[]⟩, .bool false, .int .i64 0, .int .i64 0, .int .i64 0, .int .i64 0, .int .i64 0, .int .i64 0] 82)
  have HLE := Lib.hid hle
  clear h1 h2 h3 h4 h5 h6 h7 l6 l7 m1 m2 m3 m4 m5 m6 hr fr hm hle
  have tok1 : True := trivial
  go_enter Tryz.func219, Tryz.ntmps219
  go_wp2_with (first
    | (go_at_call 255; have _t := tok1; clear tok1; refine (reader_text g S _ _ 16 _ T.out.rd HM.out).mono ?_; rw [H1.out]; rintro e w1 ⟨rfl, k, o⟩
       have T1 : Hid (Tk (w.alloc (.cells #[.string ⟨#[]⟩, .string ⟨#[]⟩, .bool false, .int .i64 0, .int .i64 0, .int .i64 0, .int .i64 0, .int .i64 0, .int .i64 0] 82)) g S (w.heap.size + 1) 82 #[.string ⟨#[]⟩, .string ⟨#[]⟩, .bool false, .int .i64 0, .int .i64 0, .int .i64 0, .int .i64 0, .int .i64 0, .int .i64 0] a1.1 a1.2.1 (w1)) := T.out.step k o
       have z1 := T1.out.bx.frozen 0
       have v1 := T1.out.bx.cell_ (i := 0) rfl
       have U1 : Hid (Tk (w.alloc (.cells #[.string ⟨#[]⟩, .string ⟨#[]⟩, .bool false, .int .i64 0, .int .i64 0, .int .i64 0, .int .i64 0, .int .i64 0, .int .i64 0] 82)) g S (w.heap.size + 1) 82 #[.string ⟨a1.2.2.toArray⟩, .string ⟨#[]⟩, .bool false, .int .i64 0, .int .i64 0, .int .i64 0, .int .i64 0, .int .i64 0, .int .i64 0] a1.1 a1.2.1 (w1.setCell ⟨w.heap.size + 1, 0, none⟩ (.string ⟨a1.2.2.toArray⟩))) := T1.out.set 0 _
       clear k o
       have tok2 : True := trivial)
    | (go_at_call 256; have _t := tok2; clear tok2; refine (reader_flag g S _ _ _ U1.out.rd M1.out).mono ?_; rw [H2.out]; rintro e w2 ⟨rfl, k, o⟩
       have T2 : Hid (Tk (w.alloc (.cells #[.string ⟨#[]⟩, .string ⟨#[]⟩, .bool false, .int .i64 0, .int .i64 0, .int .i64 0, .int .i64 0, .int .i64 0, .int .i64 0] 82)) g S (w.heap.size + 1) 82 #[.string ⟨a1.2.2.toArray⟩, .string ⟨#[]⟩, .bool false, .int .i64 0, .int .i64 0, .int .i64 0, .int .i64 0, .int .i64 0, .int .i64 0] a2.1 a2.2.1 (w2)) := U1.out.step k o
       have z2 := T2.out.bx.frozen 2
       have v2 := T2.out.bx.cell_ (i := 2) rfl
       have U2 : Hid (Tk (w.alloc (.cells #[.string ⟨#[]⟩, .string ⟨#[]⟩, .bool false, .int .i64 0, .int .i64 0, .int .i64 0, .int .i64 0, .int .i64 0, .int .i64 0] 82)) g S (w.heap.size + 1) 82 #[.string ⟨a1.2.2.toArray⟩, .string ⟨#[]⟩, .bool a2.2.2, .int .i64 0, .int .i64 0, .int .i64 0, .int .i64 0, .int .i64 0, .int .i64 0] a2.1 a2.2.1 (w2.setCell ⟨w.heap.size + 1, 2, none⟩ (.bool a2.2.2))) := T2.out.set 2 _
       clear k o
       have tok3 : True := trivial)
    | (go_at_call 255; have _t := tok3; clear tok3; refine (reader_text g S _ _ 32 _ U2.out.rd M2.out).mono ?_; rw [H3.out]; rintro e w3 ⟨rfl, k, o⟩
       have T3 : Hid (Tk (w.alloc (.cells #[.string ⟨#[]⟩, .string ⟨#[]⟩, .bool false, .int .i64 0, .int .i64 0, .int .i64 0, .int .i64 0, .int .i64 0, .int .i64 0] 82)) g S (w.heap.size + 1) 82 #[.string ⟨a1.2.2.toArray⟩, .string ⟨#[]⟩, .bool a2.2.2, .int .i64 0, .int .i64 0, .int .i64 0, .int .i64 0, .int .i64 0, .int .i64 0] a3.1 a3.2.1 (w3)) := U2.out.step k o
       have z3 := T3.out.bx.frozen 1
       have v3 := T3.out.bx.cell_ (i := 1) rfl
       have U3 : Hid (Tk (w.alloc (.cells #[.string ⟨#[]⟩, .string ⟨#[]⟩, .bool false, .int .i64 0, .int .i64 0, .int .i64 0, .int .i64 0, .int .i64 0, .int .i64 0] 82)) g S (w.heap.size + 1) 82 #[.string ⟨a1.2.2.toArray⟩, .string ⟨a3.2.2.toArray⟩, .bool a2.2.2, .int .i64 0, .int .i64 0, .int .i64 0, .int .i64 0, .int .i64 0, .int .i64 0] a3.1 a3.2.1 (w3.setCell ⟨w.heap.size + 1, 1, none⟩ (.string ⟨a3.2.2.toArray⟩))) := T3.out.set 1 _
       clear k o
       have tok4 : True := trivial)
    | (go_at_call 257; have _t := tok4; clear tok4; refine (take_stamp g S _ _ _ U3.out.rd (FR2.out _ (Nat.le_trans HLE.out U3.out.ho.size)) M3.out).mono ?_; rw [H4.out]; rintro e w4 ⟨rfl, k, o⟩
       have T4 : Hid (Tk (w.alloc (.cells #[.string ⟨#[]⟩, .string ⟨#[]⟩, .bool false, .int .i64 0, .int .i64 0, .int .i64 0, .int .i64 0, .int .i64 0, .int .i64 0] 82)) g S (w.heap.size + 1) 82 #[.string ⟨a1.2.2.toArray⟩, .string ⟨a3.2.2.toArray⟩, .bool a2.2.2, .int .i64 0, .int .i64 0, .int .i64 0, .int .i64 0, .int .i64 0, .int .i64 0] a4.1 a4.2.1 (w4)) := U3.out.step k o
       have z4 := T4.out.bx.frozen 3
       have v4 := T4.out.bx.cell_ (i := 3) rfl
       have U4 : Hid (Tk (w.alloc (.cells #[.string ⟨#[]⟩, .string ⟨#[]⟩, .bool false, .int .i64 0, .int .i64 0, .int .i64 0, .int .i64 0, .int .i64 0, .int .i64 0] 82)) g S (w.heap.size + 1) 82 #[.string ⟨a1.2.2.toArray⟩, .string ⟨a3.2.2.toArray⟩, .bool a2.2.2, .int .i64 a4.2.2.c, .int .i64 0, .int .i64 0, .int .i64 0, .int .i64 0, .int .i64 0] a4.1 a4.2.1 (w4.setCell ⟨w.heap.size + 1, 3, none⟩ (.int .i64 a4.2.2.c))) := T4.out.set 3 _
       have y4 := U4.out.bx.frozen 4
       have x4 := U4.out.bx.cell_ (i := 4) rfl
       have V4 : Hid (Tk (w.alloc (.cells #[.string ⟨#[]⟩, .string ⟨#[]⟩, .bool false, .int .i64 0, .int .i64 0, .int .i64 0, .int .i64 0, .int .i64 0, .int .i64 0] 82)) g S (w.heap.size + 1) 82 #[.string ⟨a1.2.2.toArray⟩, .string ⟨a3.2.2.toArray⟩, .bool a2.2.2, .int .i64 a4.2.2.c, .int .i64 a4.2.2.s, .int .i64 0, .int .i64 0, .int .i64 0, .int .i64 0] a4.1 a4.2.1 ((w4.setCell ⟨w.heap.size + 1, 3, none⟩ (.int .i64 a4.2.2.c)).setCell ⟨w.heap.size + 1, 4, none⟩ (.int .i64 a4.2.2.s))) := U4.out.set 4 _
       clear k o
       have tok5 : True := trivial)
    | (go_at_call 257; have _t := tok5; clear tok5; refine (take_stamp g S _ _ _ V4.out.rd (FR2.out _ (Nat.le_trans HLE.out V4.out.ho.size)) M4.out).mono ?_; rw [H5.out]; rintro e w5 ⟨rfl, k, o⟩
       have T5 : Hid (Tk (w.alloc (.cells #[.string ⟨#[]⟩, .string ⟨#[]⟩, .bool false, .int .i64 0, .int .i64 0, .int .i64 0, .int .i64 0, .int .i64 0, .int .i64 0] 82)) g S (w.heap.size + 1) 82 #[.string ⟨a1.2.2.toArray⟩, .string ⟨a3.2.2.toArray⟩, .bool a2.2.2, .int .i64 a4.2.2.c, .int .i64 a4.2.2.s, .int .i64 0, .int .i64 0, .int .i64 0, .int .i64 0] a5.1 a5.2.1 (w5)) := V4.out.step k o
       have z5 := T5.out.bx.frozen 5
       have v5 := T5.out.bx.cell_ (i := 5) rfl
       have U5 : Hid (Tk (w.alloc (.cells #[.string ⟨#[]⟩, .string ⟨#[]⟩, .bool false, .int .i64 0, .int .i64 0, .int .i64 0, .int .i64 0, .int .i64 0, .int .i64 0] 82)) g S (w.heap.size + 1) 82 #[.string ⟨a1.2.2.toArray⟩, .string ⟨a3.2.2.toArray⟩, .bool a2.2.2, .int .i64 a4.2.2.c, .int .i64 a4.2.2.s, .int .i64 a5.2.2.c, .int .i64 0, .int .i64 0, .int .i64 0] a5.1 a5.2.1 (w5.setCell ⟨w.heap.size + 1, 5, none⟩ (.int .i64 a5.2.2.c))) := T5.out.set 5 _
       have y5 := U5.out.bx.frozen 6
       have x5 := U5.out.bx.cell_ (i := 6) rfl
       have V5 : Hid (Tk (w.alloc (.cells #[.string ⟨#[]⟩, .string ⟨#[]⟩, .bool false, .int .i64 0, .int .i64 0, .int .i64 0, .int .i64 0, .int .i64 0, .int .i64 0] 82)) g S (w.heap.size + 1) 82 #[.string ⟨a1.2.2.toArray⟩, .string ⟨a3.2.2.toArray⟩, .bool a2.2.2, .int .i64 a4.2.2.c, .int .i64 a4.2.2.s, .int .i64 a5.2.2.c, .int .i64 a5.2.2.s, .int .i64 0, .int .i64 0] a5.1 a5.2.1 ((w5.setCell ⟨w.heap.size + 1, 5, none⟩ (.int .i64 a5.2.2.c)).setCell ⟨w.heap.size + 1, 6, none⟩ (.int .i64 a5.2.2.s))) := U5.out.set 6 _
       clear k o
       have tok6 : True := trivial)
    | (go_at_call 251; have _t := tok6; clear tok6; refine (reader_number g S _ _ 2 _ V5.out.rd M5.out).mono ?_; rw [H6.out]; rintro e w6 ⟨rfl, k, o⟩
       have T6 : Hid (Tk (w.alloc (.cells #[.string ⟨#[]⟩, .string ⟨#[]⟩, .bool false, .int .i64 0, .int .i64 0, .int .i64 0, .int .i64 0, .int .i64 0, .int .i64 0] 82)) g S (w.heap.size + 1) 82 #[.string ⟨a1.2.2.toArray⟩, .string ⟨a3.2.2.toArray⟩, .bool a2.2.2, .int .i64 a4.2.2.c, .int .i64 a4.2.2.s, .int .i64 a5.2.2.c, .int .i64 a5.2.2.s, .int .i64 0, .int .i64 0] a6.1 a6.2.1 (w6)) := V5.out.step k o
       have z6 := T6.out.bx.frozen 7
       have v6 := T6.out.bx.cell_ (i := 7) rfl
       have U6 : Hid (Tk (w.alloc (.cells #[.string ⟨#[]⟩, .string ⟨#[]⟩, .bool false, .int .i64 0, .int .i64 0, .int .i64 0, .int .i64 0, .int .i64 0, .int .i64 0] 82)) g S (w.heap.size + 1) 82 #[.string ⟨a1.2.2.toArray⟩, .string ⟨a3.2.2.toArray⟩, .bool a2.2.2, .int .i64 a4.2.2.c, .int .i64 a4.2.2.s, .int .i64 a5.2.2.c, .int .i64 a5.2.2.s, .int .i64 (a6.2.2 : Int), .int .i64 0] a6.1 a6.2.1 (w6.setCell ⟨w.heap.size + 1, 7, none⟩ (.int .i64 (a6.2.2 : Int)))) := T6.out.set 7 _
       clear k o
       have tok7 : True := trivial)
    | (go_at_call 251; have _t := tok7; clear tok7; refine (reader_number g S _ _ 4 _ U6.out.rd M6.out).mono ?_; rw [H7.out]; rintro e w7 ⟨rfl, k, o⟩
       have T7 : Hid (Tk (w.alloc (.cells #[.string ⟨#[]⟩, .string ⟨#[]⟩, .bool false, .int .i64 0, .int .i64 0, .int .i64 0, .int .i64 0, .int .i64 0, .int .i64 0] 82)) g S (w.heap.size + 1) 82 #[.string ⟨a1.2.2.toArray⟩, .string ⟨a3.2.2.toArray⟩, .bool a2.2.2, .int .i64 a4.2.2.c, .int .i64 a4.2.2.s, .int .i64 a5.2.2.c, .int .i64 a5.2.2.s, .int .i64 (a6.2.2 : Int), .int .i64 0] a7.1 a7.2.1 (w7)) := U6.out.step k o
       have z7 := T7.out.bx.frozen 8
       have v7 := T7.out.bx.cell_ (i := 8) rfl
       have U7 : Hid (Tk (w.alloc (.cells #[.string ⟨#[]⟩, .string ⟨#[]⟩, .bool false, .int .i64 0, .int .i64 0, .int .i64 0, .int .i64 0, .int .i64 0, .int .i64 0] 82)) g S (w.heap.size + 1) 82 #[.string ⟨a1.2.2.toArray⟩, .string ⟨a3.2.2.toArray⟩, .bool a2.2.2, .int .i64 a4.2.2.c, .int .i64 a4.2.2.s, .int .i64 a5.2.2.c, .int .i64 a5.2.2.s, .int .i64 (a6.2.2 : Int), .int .i64 (a7.2.2 : Int)] a7.1 a7.2.1 (w7.setCell ⟨w.heap.size + 1, 8, none⟩ (.int .i64 (a7.2.2 : Int)))) := T7.out.set 8 _
       clear k o
       have tok8 : True := trivial)
    | (refine wpl_load rfl 82 _ rfl (w.heap.size + 1) rfl 82 #[.string ⟨a1.2.2.toArray⟩, .string ⟨a3.2.2.toArray⟩, .bool a2.2.2, .int .i64 a4.2.2.c, .int .i64 a4.2.2.s, .int .i64 a5.2.2.c, .int .i64 a5.2.2.s, .int .i64 (a6.2.2 : Int), .int .i64 (a7.2.2 : Int)] _ U7.out.bx Tryz.underlying82 rfl (by kernel_rfl) ?_
       have R7 := Lib.hid (R0.out.only U7.out.ho (fun e => by have e' : w.heap.size = g := e; have := HG.out; omega)))
    | (refine wpList_store_row rfl 82 _ _ rfl w.heap.size #[.string ⟨a1.2.2.toArray⟩, .string ⟨a3.2.2.toArray⟩, .bool a2.2.2, .int .i64 a4.2.2.c, .int .i64 a4.2.2.s, .int .i64 a5.2.2.c, .int .i64 a5.2.2.s, .int .i64 (a6.2.2 : Int), .int .i64 (a7.2.2 : Int)] rfl rfl 82 _ R7.out (by kernel_rfl) rfl (by simp [Value.oneCell']) ?_
       have R8 := Lib.hid (R7.out.setRow #[.string ⟨a1.2.2.toArray⟩, .string ⟨a3.2.2.toArray⟩, .bool a2.2.2, .int .i64 a4.2.2.c, .int .i64 a4.2.2.s, .int .i64 a5.2.2.c, .int .i64 a5.2.2.s, .int .i64 (a6.2.2 : Int), .int .i64 (a7.2.2 : Int)])))
  refine bodyPost_ret (results_cell_row rfl _ _ w.heap.size 82 _ (0, 0) _ rfl R8.out Tryz.underlying82 rfl (by kernel_rfl)) rfl ?_
  have oF := (Only.refl (one w.heap.size) (w7.setCell ⟨w.heap.size + 1, 8, none⟩ (.int .i64 (a7.2.2 : Int)))).setRow (g := w.heap.size) (.inl (show one w.heap.size w.heap.size from rfl)) #[.string ⟨a1.2.2.toArray⟩, .string ⟨a3.2.2.toArray⟩, .bool a2.2.2, .int .i64 a4.2.2.c, .int .i64 a4.2.2.s, .int .i64 a5.2.2.c, .int .i64 a5.2.2.s, .int .i64 (a6.2.2 : Int), .int .i64 (a7.2.2 : Int)]
  rw [HS.out]
  exact ⟨rfl, U7.out.rd.only oF (fun e => by have e' : g = w.heap.size := e; have := HG.out; omega) (fun b hb e => by have e' : b = w.heap.size := e; have := FR.out b hb; omega),
    (O0.out.trans U7.out.ho).setRow (g := w.heap.size) (.inr (Nat.le_refl _)) _⟩
end Go.Proofs.YtoohpcomnhfgpaaGreat
end
