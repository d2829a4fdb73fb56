/- Texts of mine, one behind the other: RpDc, RpLp, Lif, StEo, EnEo, RpPy, RpBw, SmOf, OpenO, OpenRp. No statement of the seat is proved here. -/
import Derived.Test.YtoohpcomnhfgpaaGreatHs3
import Derived.Test.YtoohpcomnhfgpaaGreatHs19
import Derived.Test.YtoohpcomnhfgpaaGreatHs15
import Derived.Test.YtoohpcomnhfgpaaGreatHs1
import Derived.Laws.Tables
import Derived.Test.YtoohpcomnhfgpaaGreatHs2
import Derived.Test.YtoohpcomnhfgpaaGreatHs12
import Derived.LoopTactic
import Derived.Deep.DeepCutAuto
import Derived.Deep.CutBlock
import Derived.Test.YtoohpcomnhfgpaaGreatHs7
import Derived.Test.YtoohpcomnhfgpaaGreatHs5
import Derived.Test.YtoohpcomnhfgpaaGreatHs8
import Derived.Test.YtoohpcomnhfgpaaGreatHs4
import Derived.Test.YtoohpcomnhfgpaaGreatHs11
import Derived.Deep.RegionHeld3
section
namespace Go.Proofs.YtoohpcomnhfgpaaGreat
open Go.RowKit
set_option maxRecDepth 100000
set_option linter.all false
theorem rd_bad {n q r t1 t2 : Int} (h : ¬ ((1 ≤ n ∧ n ≤ 12) ∧ (1 ≤ q ∧ q ≤ 64) ∧ (1 ≤ r ∧ r ≤ n) ∧ (0 ≤ t1 ∧ t1 ≤ 2147483647) ∧ (t1 ≤ t2 ∧ t2 ≤ 2147483647) ∧ (t1 = 0 → t2 = 0))) : roCheck ⟨n, q, r, t1, t2⟩ = 14 := by
  unfold roCheck
  rw [if_pos]
  cases hb : roBad ⟨n, q, r, t1, t2⟩ with
  | true => rfl
  | false => exact absurd (ro_ok hb) h
theorem rd_good {n q r t1 t2 : Int} (h1 : 1 ≤ n ∧ n ≤ 12) (h2 : 1 ≤ q ∧ q ≤ 64) (h3 : 1 ≤ r ∧ r ≤ n) (h4 : 0 ≤ t1 ∧ t1 ≤ 2147483647) (h5 : t1 ≤ t2 ∧ t2 ≤ 2147483647) (h6 : t1 = 0 → t2 = 0) : roCheck ⟨n, q, r, t1, t2⟩ = 0 := by
  unfold roCheck
  rw [if_neg]
  simp only [roBad, Bool.not_eq_true', Bool.not_eq_false, Bool.and_eq_true, decide_eq_true_eq]
  refine ⟨⟨⟨⟨h1, h2⟩, h3⟩, h4⟩, h5.1, ?_⟩
  split
  · next h => have := h6 h; omega
  · exact h5.2
set_option maxHeartbeats 12800000 in
theorem rd_check (o : Ro) (w : World) :
    Calls Tryz.prog 19 #[.agg #[.int .i64 o.n, .int .i64 o.q, .int .i64 o.r, .int .i64 o.t1, .int .i64 o.t2]] w fun E w' => E = .returned (.int .i64 (roCheck o)) ∧ Only none_ w w' := by
  obtain ⟨n, q, r, t1, t2⟩ := o
  dsimp only
  by_cases h0 : n < 1
  · have d0 : decide (n < 1) = true := decide_eq_true h0
    have hv : Hid (roCheck ⟨n, q, r, t1, t2⟩ = 14) := rd_bad (by omega)
    try clear hz2
    try clear hz
    go_enter Tryz.func19, Tryz.ntmps19
    go_wp2_with fail
    go_ret
    exact ⟨by rw [hv.out]; rfl, (Only.refl none_ w).alloc _⟩
  · have d0 : decide (n < 1) = false := decide_eq_false h0
    by_cases h1 : 12 < n
    · have d1 : decide (12 < n) = true := decide_eq_true h1
      have hv : Hid (roCheck ⟨n, q, r, t1, t2⟩ = 14) := rd_bad (by omega)
      try clear hz2
      try clear hz
      go_enter Tryz.func19, Tryz.ntmps19
      go_wp2_with fail
      go_ret
      exact ⟨by rw [hv.out]; rfl, (Only.refl none_ w).alloc _⟩
    · have d1 : decide (12 < n) = false := decide_eq_false h1
      by_cases h2 : q < 1
      · have d2 : decide (q < 1) = true := decide_eq_true h2
        have hv : Hid (roCheck ⟨n, q, r, t1, t2⟩ = 14) := rd_bad (by omega)
        try clear hz2
        try clear hz
        go_enter Tryz.func19, Tryz.ntmps19
        go_wp2_with fail
        go_ret
        exact ⟨by rw [hv.out]; rfl, (Only.refl none_ w).alloc _⟩
      · have d2 : decide (q < 1) = false := decide_eq_false h2
        by_cases h3 : 64 < q
        · have d3 : decide (64 < q) = true := decide_eq_true h3
          have hv : Hid (roCheck ⟨n, q, r, t1, t2⟩ = 14) := rd_bad (by omega)
          try clear hz2
          try clear hz
          go_enter Tryz.func19, Tryz.ntmps19
          go_wp2_with fail
          go_ret
          exact ⟨by rw [hv.out]; rfl, (Only.refl none_ w).alloc _⟩
        · have d3 : decide (64 < q) = false := decide_eq_false h3
          by_cases h4 : r < 1
          · have d4 : decide (r < 1) = true := decide_eq_true h4
            have hv : Hid (roCheck ⟨n, q, r, t1, t2⟩ = 14) := rd_bad (by omega)
            try clear hz2
            try clear hz
            go_enter Tryz.func19, Tryz.ntmps19
            go_wp2_with fail
            go_ret
            exact ⟨by rw [hv.out]; rfl, (Only.refl none_ w).alloc _⟩
          · have d4 : decide (r < 1) = false := decide_eq_false h4
            by_cases h5 : n < r
            · have d5 : decide (n < r) = true := decide_eq_true h5
              have hv : Hid (roCheck ⟨n, q, r, t1, t2⟩ = 14) := rd_bad (by omega)
              try clear hz2
              try clear hz
              go_enter Tryz.func19, Tryz.ntmps19
              go_wp2_with fail
              go_ret
              exact ⟨by rw [hv.out]; rfl, (Only.refl none_ w).alloc _⟩
            · have d5 : decide (n < r) = false := decide_eq_false h5
              by_cases h6 : t1 < 0
              · have d6 : decide (t1 < 0) = true := decide_eq_true h6
                have hv : Hid (roCheck ⟨n, q, r, t1, t2⟩ = 14) := rd_bad (by omega)
                try clear hz2
                try clear hz
                go_enter Tryz.func19, Tryz.ntmps19
                go_wp2_with fail
                go_ret
                exact ⟨by rw [hv.out]; rfl, (Only.refl none_ w).alloc _⟩
              · have d6 : decide (t1 < 0) = false := decide_eq_false h6
                by_cases h7 : 2147483647 < t1
                · have d7 : decide (2147483647 < t1) = true := decide_eq_true h7
                  have hv : Hid (roCheck ⟨n, q, r, t1, t2⟩ = 14) := rd_bad (by omega)
                  try clear hz2
                  try clear hz
                  go_enter Tryz.func19, Tryz.ntmps19
                  go_wp2_with fail
                  go_ret
                  exact ⟨by rw [hv.out]; rfl, (Only.refl none_ w).alloc _⟩
                · have d7 : decide (2147483647 < t1) = false := decide_eq_false h7
                  by_cases hz : t1 = 0
                  · have zb : (t1 == 0) = true := by simpa using hz
                    by_cases hz2 : t2 = 0
                    · have zc : (t2 != 0) = false := by simp [hz2]
                      by_cases k1 : t2 < t1
                      · have e1 : decide (t2 < t1) = true := decide_eq_true k1
                        have hv : Hid (roCheck ⟨n, q, r, t1, t2⟩ = 14) := rd_bad (by omega)
                        try clear hz2
                        try clear hz
                        go_enter Tryz.func19, Tryz.ntmps19
                        go_wp2_with fail
                        go_ret
                        exact ⟨by rw [hv.out]; rfl, (Only.refl none_ w).alloc _⟩
                      · have e1 : decide (t2 < t1) = false := decide_eq_false k1
                        by_cases k2 : 2147483647 < t2
                        · have e2 : decide (2147483647 < t2) = true := decide_eq_true k2
                          have hv : Hid (roCheck ⟨n, q, r, t1, t2⟩ = 14) := rd_bad (by omega)
                          try clear hz2
                          try clear hz
                          go_enter Tryz.func19, Tryz.ntmps19
                          go_wp2_with fail
                          go_ret
                          exact ⟨by rw [hv.out]; rfl, (Only.refl none_ w).alloc _⟩
                        · have e2 : decide (2147483647 < t2) = false := decide_eq_false k2
                          have hv : Hid (roCheck ⟨n, q, r, t1, t2⟩ = 0) := rd_good (by omega) (by omega) (by omega) (by omega) (by omega) (fun _ => hz2)
                          try clear hz2
                          try clear hz
                          go_enter Tryz.func19, Tryz.ntmps19
                          go_wp2_with fail
                          go_ret
                          exact ⟨by rw [hv.out]; rfl, (Only.refl none_ w).alloc _⟩
                    · have zc : (t2 != 0) = true := by simpa using hz2
                      have hv : Hid (roCheck ⟨n, q, r, t1, t2⟩ = 14) := rd_bad (fun e => hz2 (e.2.2.2.2.2 hz))
                      try clear hz2
                      try clear hz
                      go_enter Tryz.func19, Tryz.ntmps19
                      go_wp2_with fail
                      go_ret
                      exact ⟨by rw [hv.out]; rfl, (Only.refl none_ w).alloc _⟩
                  · have zb : (t1 == 0) = false := by simpa using hz
                    by_cases k1 : t2 < t1
                    · have e1 : decide (t2 < t1) = true := decide_eq_true k1
                      have hv : Hid (roCheck ⟨n, q, r, t1, t2⟩ = 14) := rd_bad (by omega)
                      try clear hz2
                      try clear hz
                      go_enter Tryz.func19, Tryz.ntmps19
                      go_wp2_with fail
                      go_ret
                      exact ⟨by rw [hv.out]; rfl, (Only.refl none_ w).alloc _⟩
                    · have e1 : decide (t2 < t1) = false := decide_eq_false k1
                      by_cases k2 : 2147483647 < t2
                      · have e2 : decide (2147483647 < t2) = true := decide_eq_true k2
                        have hv : Hid (roCheck ⟨n, q, r, t1, t2⟩ = 14) := rd_bad (by omega)
                        try clear hz2
                        try clear hz
                        go_enter Tryz.func19, Tryz.ntmps19
                        go_wp2_with fail
                        go_ret
                        exact ⟨by rw [hv.out]; rfl, (Only.refl none_ w).alloc _⟩
                      · have e2 : decide (2147483647 < t2) = false := decide_eq_false k2
                        have hv : Hid (roCheck ⟨n, q, r, t1, t2⟩ = 0) := rd_good (by omega) (by omega) (by omega) (by omega) (by omega) (fun e => absurd e hz)
                        try clear hz2
                        try clear hz
                        go_enter Tryz.func19, Tryz.ntmps19
                        go_wp2_with fail
                        go_ret
                        exact ⟨by rw [hv.out]; rfl, (Only.refl none_ w).alloc _⟩
end Go.Proofs.YtoohpcomnhfgpaaGreat
end
section
namespace Go.Proofs.YtoohpcomnhfgpaaGreat
open Go.RowKit
set_option maxRecDepth 100000
set_option linter.all false
structure Rq (B : World) (o : Ro) (dg : Nat) (a : Ra) (s : Rs) (log : List En) (r m : Nat) (X : World) : Prop where
  p : Rp B a s X
  hr : a.r = r
  hd : a.dg = dg
  wf : Wf log s
  n : log.length ≤ m
  ho : s.o = o
  hs : s.site = 0
structure Ol (a a' : Ra) (X X' : World) : Prop where
  o : Only (allF a) X X'
  f : ∀ k, allF a' k → allF a k ∨ X.heap.size ≤ k
structure Ks (B : World) (a : Ra) (v : Value) (keys : List ByteArray) (X : World) : Prop where
  own : X.ownsRow B.heap.size 9 1 v keys.length (keys.map .string)
  ap : ∀ b, v.ownBlock = some b → ¬ allF a b
section
variable {B X X' : World} {o : Ro} {dg r m m' n : Nat} {a a' : Ra} {s s' : Rs} {log log' : List En} {v v' : Value} {keys keys' : List ByteArray} {t : TypeId} {cs : Array Value} {x : En} {z kd : Int}
theorem Rq.keep (h : Rq B o dg a s log r m X) (k : Only none_ X X') : Rq B o dg a s log r m X' := ⟨h.p.keep k, h.hr, h.hd, h.wf, h.n, h.ho, h.hs⟩
theorem Rq.left (h : Rq B o dg a s log r m X) (L : LeftP B a X s' X') (wf : Wf log' s') (hn : log'.length ≤ m') (e1 : s'.o = s.o) (e2 : s'.site = s.site) : ∃ a', Rq B o dg a' s' log' r m' X' ∧ Ol a a' X X' := by
  obtain ⟨a', r1, o1, f1, g1, g2⟩ := L
  exact ⟨a', ⟨r1, g1.trans h.hr, g2.trans h.hd, wf, hn, e1.trans h.ho, e2.trans h.hs⟩, ⟨o1, f1⟩⟩
theorem Ol.ks (h : Ol a a' X X') (k : Ks B a v keys X) : Ks B a' v keys X' := ⟨owns_only k.own h.o (fun b hb => k.ap b hb), fun b hb hf => by
  rcases h.f b hf with h1 | h1
  · exact k.ap b hb h1
  · have := (k.own.lt b hb).2; omega⟩
theorem Ks.keep (k : Ks B a v keys X) (o : Only none_ X X') : Ks B a v keys X' := ⟨owns_only k.own o (fun _ _ h => h), k.ap⟩
theorem Ks.nil (B : World) (a : Ra) (X : World) : Ks B a (.slice none 0 0) [] X := ⟨World.ownsRow_nil _ _ _ _, fun b hb => by cases hb⟩
theorem Rq.put (h : Rq B o dg a s log r m X) (hm : m ≤ 60) {k u : ByteArray} (hp : putRs s k u = (s', x, z)) (wf : Wf log' s') (hn : log'.length ≤ m') :
    Calls Tryz.prog 44 #[.pointer (some ⟨r, 0, none⟩), .string k, .string u] X fun E X' => E = .returned (.tuple #[.agg #[.string x.k, .string x.v, .bool x.d, .int .i64 x.s.c, .int .i64 x.s.s, .int .i64 x.a.c, .int .i64 x.a.s, .int .i64 x.p, .int .i64 x.g], .int .i64 z]) ∧ ∃ a', Rq B o dg a' s' log' r m' X' ∧ Ol a a' X X' := by
  have := rp_put B a s k u X h.p h.wf.c h.wf.site (h.wf.rky (Nat.le_trans h.n hm))
  have po := put_o (s := s) (k := k) (v := u)
  rw [hp] at this po
  rw [h.hr] at this
  refine this.mono ?_
  rintro E X' ⟨rfl, L⟩
  exact ⟨rfl, h.left L wf hn po.1 po.2⟩
theorem Rq.del (h : Rq B o dg a s log r m X) (hm : m ≤ 60) {k : ByteArray} (hp : delRs s k = (s', x, z)) (wf : Wf log' s') (hn : log'.length ≤ m') :
    Calls Tryz.prog 46 #[.pointer (some ⟨r, 0, none⟩), .string k] X fun E X' => E = .returned (.tuple #[.agg #[.string x.k, .string x.v, .bool x.d, .int .i64 x.s.c, .int .i64 x.s.s, .int .i64 x.a.c, .int .i64 x.a.s, .int .i64 x.p, .int .i64 x.g], .int .i64 z]) ∧ ∃ a', Rq B o dg a' s' log' r m' X' ∧ Ol a a' X X' := by
  have := rp_delete B a s k X h.p h.wf.c h.wf.site (h.wf.rky (Nat.le_trans h.n hm))
  have po := del_o (s := s) (k := k)
  rw [hp] at this po
  rw [h.hr] at this
  refine this.mono ?_
  rintro E X' ⟨rfl, L⟩
  exact ⟨rfl, h.left L wf hn po.1 po.2⟩
theorem Rq.mrg (h : Rq B o dg a s log r m X) (hm : m ≤ 60) {e : En} (hp : mgR s e = (s', kd, x, z)) (wf : Wf log' s') (hn : log'.length ≤ m') :
    Calls Tryz.prog 35 #[.pointer (some ⟨r, 0, none⟩), .agg #[.string e.k, .string e.v, .bool e.d, .int .i64 e.s.c, .int .i64 e.s.s, .int .i64 e.a.c, .int .i64 e.a.s, .int .i64 e.p, .int .i64 e.g]] X fun E X' => E = .returned (.tuple #[.int .i64 kd, .agg #[.string x.k, .string x.v, .bool x.d, .int .i64 x.s.c, .int .i64 x.s.s, .int .i64 x.a.c, .int .i64 x.a.s, .int .i64 x.p, .int .i64 x.g], .int .i64 z]) ∧ ∃ a', Rq B o dg a' s' log' r m' X' ∧ Ol a a' X X' := by
  have := rp_merge B a s e X h.p (h.wf.rky (Nat.le_trans h.n hm)) h.wf.gok h.wf.tabok
  have po := mg_o (s := s) (x := e)
  rw [hp] at this po
  rw [h.hr] at this
  refine this.mono ?_
  rintro E X' ⟨rfl, L⟩
  exact ⟨rfl, h.left L wf hn po.1 po.2⟩
theorem Rq.tick (h : Rq B o dg a s log r m X) :
    Calls Tryz.prog 47 #[.pointer (some ⟨r, 0, none⟩)] X fun E X' => ∃ vs, E = .returned vs ∧ ∃ a', Rq B o dg a' (tickS s) log r m X' ∧ Ol a a' X X' := by
  have ht := h.wf.tick
  by_cases h1 : s.o.t1 = 0
  · have := rp_tick_off B a s X h.p h1
    rw [h.hr] at this
    have e : tickS s = s := if_pos h1
    refine this.mono ?_
    rintro E X' ⟨rfl, L⟩
    exact ⟨_, rfl, h.left (by rw [e]; exact L) ht.1 h.n ht.2.2.2.1 ht.2.2.2.2⟩
  · have hro := ro_ok h.wf.o
    have := rp_tick_on B a s X h.p h.wf.ris h.wf.tabok (fun y hy => ⟨((check_of (h.wf.g y hy).1).2.2.2.2.2.2.2 (h.wf.g y hy).2.1).2.2.1, h.wf.gt y hy⟩) hro.2.2.2.2.1.2 h1
    rw [h.hr] at this
    have e : tickS s = s.tab.foldl tkS { s with gr := (tickE s.o.t2 s.gr).1 } := if_neg h1
    refine this.mono ?_
    rintro E X' ⟨vs, rfl, _, L⟩
    exact ⟨vs, rfl, h.left (by rw [e]; exact L) ht.1 h.n ht.2.2.2.1 ht.2.2.2.2⟩
theorem Rq.dsk (h : Rq B o dg a s log r m X) : Dsk B dg (dvOf (log.map encB)) a.vd X := by
  have := h.p.dk
  rw [h.hd, h.wf.D] at this
  exact this
theorem ft_dg (h : a.dg = dg) {k : Nat} (hk : foot dg a.vd k) : allF a k := ⟨6, by rw [← h] at hk; exact hk⟩
theorem Rq.reopen (h : Rq B o dg a s log r m X) (hm : m ≤ 60) (hop : opF log (blankS o 0 (dvOf (log.map encB)) log.length) = some s') :
    Calls Tryz.prog 15 #[.int .i64 0, .agg #[.int .i64 o.n, .int .i64 o.q, .int .i64 o.r, .int .i64 o.t1, .int .i64 o.t2], .pointer (some ⟨dg, 0, none⟩)] X fun E X' => ∃ a' r', E = .returned (.tuple #[.pointer (some ⟨r', 0, none⟩), .int .i64 0]) ∧ Rq B o dg a' s' log r' m X' ∧ Ol a a' X X' := by
  have hob : roBad o = false := by rw [← h.ho]; exact h.wf.o
  have hsi : (0 : Int) ≤ 0 ∧ 0 < o.n := ⟨Int.le_refl _, by have := (ro_ok hob).1; omega⟩
  have := rp_reopen B dg a.vd log 0 o X h.dsk h.wf.lg (Nat.le_trans h.n hm) hob hsi
  rw [hop] at this
  have hw := Wf.open hob hsi h.wf.lg
  rw [hop] at hw
  refine this.mono ?_
  rintro E X' ⟨a', rfl, hR, hdg, hO, hf⟩
  exact ⟨a', a'.r, rfl, ⟨hR, rfl, hdg, hw.1, h.n, hw.2.2.1, hw.2.2.2⟩, ⟨hO.mono (fun k _ hk => ft_dg h.hd hk), fun k hk => (hf k hk).imp (ft_dg h.hd) id⟩⟩
theorem Rq.box (h : Rq B o dg a s log r m X) (b : Bn a n t cs X) (hB : B.heap.size ≤ n) (hO : Only (one n) X X') : Rq B o dg a s log r m X' :=
  ⟨h.p.apart hO (fun k hf e => b.n (by rw [← (show k = n from e)]; exact hf)) (fun k e => by rw [show k = n from e]; exact hB), h.hr, h.hd, h.wf, h.n, h.ho, h.hs⟩
theorem Ks.box (k : Ks B a v keys X) (b : Blk X n t cs) (ht : 9 ≠ t) (hO : Only (one n) X X') : Ks B a v keys X' :=
  ⟨owns_only k.own hO (fun g hg e => own_blk_ne k.own b ht (by rw [← (show g = n from e)]; exact hg)), k.ap⟩
theorem rq_first {w : World} {g : Nat} (hob : roBad o = false) (hd : Dsk w g ⟨true, -1, [], 0⟩ (.slice none 0 0) X) :
    Calls Tryz.prog 15 #[.int .i64 0, .agg #[.int .i64 o.n, .int .i64 o.q, .int .i64 o.r, .int .i64 o.t1, .int .i64 o.t2], .pointer (some ⟨g, 0, none⟩)] X fun E X' => ∃ a' r', E = .returned (.tuple #[.pointer (some ⟨r', 0, none⟩), .int .i64 0]) ∧ Rq w o g a' (blankS o 0 (dvOf []) 0) [] r' 0 X' ∧ Only (foot g (.slice none 0 0)) X X' ∧ ∀ k, allF a' k → foot g (.slice none 0 0) k ∨ X.heap.size ≤ k := by
  have hsi : (0 : Int) ≤ 0 ∧ 0 < o.n := ⟨Int.le_refl _, by have := (ro_ok hob).1; omega⟩
  have := rp_reopen w g (.slice none 0 0) [] 0 o X hd (fun e he => by cases he) (by decide) hob hsi
  refine this.mono ?_
  rintro E X' ⟨a', rfl, hR, hdg, hO, hf⟩
  exact ⟨a', a'.r, rfl, ⟨hR, rfl, hdg, wf_blank hob hsi, Nat.le_refl _, rfl, rfl⟩, hO, hf⟩
end
end Go.Proofs.YtoohpcomnhfgpaaGreat
end
section
namespace Go.Proofs.YtoohpcomnhfgpaaGreat
open Go.RowKit
set_option maxRecDepth 100000
set_option linter.all false
theorem wpl_load_if {P : Program} {ops : Array Oper} {Q : Exit → Act → World → Prop} {rest : List Oper} {o : Oper} {a : Act} {w : World} (hw : Region.wanted o (yielded ops a.tmps) = true) (ty : TypeId) (x : Operand) (ho : o.op = .load ty x)
    (g : Nat) (hx : a.eval x = .pointer (some ⟨g, 0, none⟩)) (t : TypeId) (cs : Array Value) (d : TypeDesc) (hg : Blk w g t cs)
    (hu : P.underlying ty = some d) (hd : (match d with | .struct _ | .array _ _ => true | _ => false) = true) (hi : (P.info? ty).map (·.size) = some cs.size)
    (h : wpList P ops Q rest (a.put o.dst (.agg cs)) w) : wpList P ops Q (o :: rest) a w := by
  show (if Region.wanted o (yielded ops a.tmps) then o.wp P a w (wpList P ops Q rest) Q ∨ _ else _)
  rw [if_pos hw]
  exact .inl (wp_load_row ty x ho g hx t cs (0, 0) d hg hu hd hi h)
end Go.Proofs.YtoohpcomnhfgpaaGreat
end
section
namespace Go.Proofs.YtoohpcomnhfgpaaGreat
open Go.RowKit
set_option maxRecDepth 100000
theorem st_of (c s : Int) (w : World) :
    Calls Tryz.prog 80 #[.agg #[.int .i64 c, .int .i64 s]] w fun e w' => e = .returned (.agg #[.int .i64 c, .int .i64 s]) ∧ Only none_ w w' := by
  have O := Lib.hid (((Only.refl none_ w).alloc (.cells #[.int .i64 c, .int .i64 s] 48)).alloc (.cells #[.int .i64 c, .int .i64 s] 80))
  go_enter Tryz.func80, Tryz.ntmps80
  go_wp2_with fail
  exact bodyPost_ret (v := .agg #[.int .i64 c, .int .i64 s]) (by simp [results, Tryz.results80, go_sem]) rfl ⟨rfl, O.out⟩
end Go.Proofs.YtoohpcomnhfgpaaGreat
end
section
namespace Go.Proofs.YtoohpcomnhfgpaaGreat
open Go.RowKit
set_option linter.all false
set_option maxRecDepth 100000
set_option maxHeartbeats 1600000 in
theorem en_of (e : En) (w : World) :
    Calls Tryz.prog 36 #[.agg #[.string e.k, .string e.v, .bool e.d, .int .i64 e.s.c, .int .i64 e.s.s, .int .i64 e.a.c, .int .i64 e.a.s, .int .i64 e.p, .int .i64 e.g]] w fun E w' => E = .returned (.agg #[.string e.k, .string e.v, .bool e.d, .int .i64 e.s.c, .int .i64 e.s.s, .int .i64 e.a.c, .int .i64 e.a.s, .int .i64 e.p, .int .i64 e.g]) ∧ Only none_ w w' := by
  have O := Lib.hid (((Only.refl none_ w).alloc (.cells #[.string e.k, .string e.v, .bool e.d, .int .i64 e.s.c, .int .i64 e.s.s, .int .i64 e.a.c, .int .i64 e.a.s, .int .i64 e.p, .int .i64 e.g] 50)).alloc (.cells #[.string enZero.k, .string enZero.v, .bool enZero.d, .int .i64 enZero.s.c, .int .i64 enZero.s.s, .int .i64 enZero.a.c, .int .i64 enZero.a.s, .int .i64 enZero.p, .int .i64 enZero.g] 82))
  have B := Blk.new (w.alloc (.cells #[.string e.k, .string e.v, .bool e.d, .int .i64 e.s.c, .int .i64 e.s.s, .int .i64 e.a.c, .int .i64 e.a.s, .int .i64 e.p, .int .i64 e.g] 50)) 82 #[.string enZero.k, .string enZero.v, .bool enZero.d, .int .i64 enZero.s.c, .int .i64 enZero.s.s, .int .i64 enZero.a.c, .int .i64 enZero.a.s, .int .i64 enZero.p, .int .i64 enZero.g]
  rw [World.size_alloc] at B
  have T : Hid (Bo ((w.alloc (.cells #[.string e.k, .string e.v, .bool e.d, .int .i64 e.s.c, .int .i64 e.s.s, .int .i64 e.a.c, .int .i64 e.a.s, .int .i64 e.p, .int .i64 e.g] 50)).alloc (.cells #[.string enZero.k, .string enZero.v, .bool enZero.d, .int .i64 enZero.s.c, .int .i64 enZero.s.s, .int .i64 enZero.a.c, .int .i64 enZero.a.s, .int .i64 enZero.p, .int .i64 enZero.g] 82)) w.heap.size (w.heap.size + 1) 50 82 e enZero ((w.alloc (.cells #[.string e.k, .string e.v, .bool e.d, .int .i64 e.s.c, .int .i64 e.s.s, .int .i64 e.a.c, .int .i64 e.a.s, .int .i64 e.p, .int .i64 e.g] 50)).alloc (.cells #[.string enZero.k, .string enZero.v, .bool enZero.d, .int .i64 enZero.s.c, .int .i64 enZero.s.s, .int .i64 enZero.a.c, .int .i64 enZero.a.s, .int .i64 enZero.p, .int .i64 enZero.g] 82))) :=
    ⟨(Blk.new w _ _).alloc _, B, Only.refl _ _⟩
  clear B
  simp only [enZero, stZero] at O T
  go_enter Tryz.func36, Tryz.ntmps36
  go_wp2_with fail
  have hne : w.heap.size ≠ w.heap.size + 1 := by omega
  have hge : w.heap.size ≤ w.heap.size + 1 := by omega
  have HN := Lib.hid hne
  have HGE := Lib.hid hge
  clear hne hge
  generalize (w.alloc _).alloc _ = W2 at *
  have t2 := T.out.keep (Only.refl none_ W2).drew
  (refine wp_region_steady (fun w' => Bo W2 w.heap.size (w.heap.size + 1) 50 82 e enZero w') 16 (by kernel_rfl) (by kernel_rfl) (t2) ?_; simp only [List.take_succ_cons, List.take_zero, List.drop_succ_cons, List.drop_zero])
  repeat (first
    | (refine sd_value (v := ?_) (by rfl) (fun w0 hS => ?_) ?_; rotate_left; (· (have hc := hS.cells; go_simp; try (with_reducible rfl))); try simp only [Act.put, List.setIfInBounds_toArray, List.set_cons_zero, List.set_cons_succ])
    | (refine sd_call (v := ?_) (f := 80) (args := ?_) (by rfl) (fun w0 hS => ?_) (fun w0 hS => ?_) ?_; rotate_left 2; (· (have hc := hS.cells; go_simp; try (with_reducible rfl))); (· (refine (st_of _ _ _).mono ?_; rintro E w2 ⟨rfl, o2⟩; refine ⟨?_, hS.keep o2⟩; rfl)); try simp only [Act.put, List.setIfInBounds_toArray, List.set_cons_zero, List.set_cons_succ]))
  refine sd_nil ?_
  intro w5 t5
  have q5 := nine_of t5.y
  have z5 := frozen9 t5.y
  simp only [enZero, stZero] at q5
  go_wp2_with fail
  exact bodyPost_ret (results_cell_row rfl _ _ (w.heap.size + 1) 82 _ (0, 0) _ rfl (fill9_blk t5.y _ _ _ _ _ _ _ _ _) Tryz.underlying82 rfl (by kernel_rfl)) rfl ⟨rfl, fill9_only (O.out.trans t5.ho) (.inr HGE.out) _ _ _ _ _ _ _ _ _⟩
end Go.Proofs.YtoohpcomnhfgpaaGreat
end
section
namespace Go.Proofs.YtoohpcomnhfgpaaGreat
open Go.RowKit
set_option maxRecDepth 100000
set_option linter.all false
theorem withK_le1 (k : ByteArray) : ∀ l : List ByteArray, (withK k l).length ≤ l.length + 1
  | [] => by simp [withK]
  | x :: r => by
    unfold withK
    have := withK_le1 k r
    split
    · simp only [List.length_cons]; omega
    · split
      · exact Nat.le_succ _
      · exact Nat.le_refl _
theorem rc_own (s : Rs) (x : En) : (rcS s x).own.length ≤ s.own.length + 1 := by
  have h : (rcS s x).own = if x.s.s = s.site then withK x.k s.own else s.own := by
    cases hw : newsM s.tab x with
    | true => rw [rcS_new hw]
    | false => rw [rcS_old hw]
  rw [h]
  split
  · exact withK_le1 _ _
  · exact Nat.le_succ _
theorem opF_own : ∀ (l : List En) (s s' : Rs), opF l s = some s' → s'.own.length ≤ s.own.length + l.length
  | [], s, s', h => by
    have : s = s' := by simpa [opF] using h
    subst this
    exact Nat.le_refl _
  | x :: l, s, s', h => by
    unfold opF at h
    split at h
    · cases h
    · have h1 := opF_own l _ _ h
      have h2 := rc_own s x
      simp only [List.length_cons]; omega
def Ow (log : List En) (s : Rs) : Prop := s.own.length ≤ log.length
section
variable {log : List En} {s s1 s' : Rs} {x : En}
theorem Ow.dn (h : Ow log s) (d : Dn log s1 x s') (hw : s1.own = s.own) : Ow (log ++ [x]) s' := by
  have h1 : s.own.length ≤ log.length := h
  have h2 : s'.own.length ≤ s.own.length + 1 := by
    rw [d.own, hw]
    split
    · exact withK_le1 _ _
    · exact Nat.le_succ _
  unfold Ow
  rw [List.length_append, List.length_singleton]
  omega
theorem Ow.mg (h : Ow log s) (wf : Wf log s) (hl : log.length ≤ 60) (x : En) : ∃ log', Ow log' (mgR s x).1 ∧ Wf log' (mgR s x).1 ∧ log'.length ≤ log.length + 1 := by
  cases wf.mgw hl x with
  | bad z hz e hc => rw [e]; exact ⟨log, h, wf, Nat.le_succ _⟩
  | old hc hn e w => rw [e]; exact ⟨log, h, w, Nat.le_succ _⟩
  | not z hc e w => rw [e]; exact ⟨log, h, w, Nat.le_succ _⟩
  | woken hc hn y q hy hov hcl e hq2 d => rw [e]; exact ⟨_, h.dn d rfl, d.wf, by simp⟩
  | taken hc hn hlt hov e d => rw [e]; exact ⟨_, h.dn d rfl, d.wf, by simp⟩
theorem Ow.tick (h : Ow log s) (wf : Wf log s) : Ow log (tickS s) := by
  have e1 : (tickS s).own = (tickR s.o (toM s log)).1.own := congrArg Rm.own wf.tick.2.1
  have e2 : (tickR s.o (toM s log)).1.own = s.own := by unfold tickR; split <;> rfl
  unfold Ow
  rw [e1, e2]; exact h
theorem Ow.open {o : Ro} {site : Int} {D : Dv} {n : Int} (ho : opF log (blankS o site D n) = some s') : Ow log s' := by
  have h := opF_own log _ _ ho
  have h2 : (blankS o site D n).own.length = 0 := rfl
  unfold Ow
  omega
end
theorem Rp.dk_same {B w w' : World} {a : Ra} {s : Rs} {v' : Value} (h : Rp B a s w) (hd : Dsk B a.dg s.D v' w') (o : Only (foot a.dg a.vd) w w') (m : ∀ k, foot a.dg v' k → foot a.dg a.vd k ∨ w.heap.size ≤ k) : LeftP B a w s w' := by
  have o6 : Only (ft a 6) w w' := o
  have r := h.rest (fun i => i = 6) (is_of o6)
  have heq : ∀ j, j ≠ 6 → ft { a with vd := v' } j = ft a j := fun j hj => by
    match j, hj with
    | 0, _ => rfl
    | 1, _ => rfl
    | 2, _ => rfl
    | 3, _ => rfl
    | 4, _ => rfl
    | 5, _ => rfl
    | 6, e => exact absurd rfl e
    | 7, _ => rfl
    | _ + 8, _ => rfl
  have hm : ∀ k, ft { a with vd := v' } 6 k → ft a 6 k ∨ w.heap.size ≤ k := fun k hk => m k hk
  exact ⟨{ a with vd := v' }, ⟨r.bk (by decide), r.ck (by decide), r.tb (by decide), r.mx (by decide), r.gv (by decide), r.ob (by decide), hd, r.jn (by decide), h.ho.trans' o (fun k hk e => by have := (h.ft_ge 6 k e).1; omega), h.ge, dj_one h.dj (fun j k hk => (h.ft_ge j k hk).2) heq hm⟩, all_of o6, all_one heq hm, rfl, rfl⟩
theorem Rq.reopen_same {B X : World} {o : Ro} {dg r m : Nat} {a : Ra} {s : Rs} {log : List En} (h : Rq B o dg a s log r m X) (hm : m ≤ 60) (hop : opF log (blankS o 0 (dvOf (log.map encB)) log.length) = none) :
    Calls Tryz.prog 15 #[.int .i64 0, .agg #[.int .i64 o.n, .int .i64 o.q, .int .i64 o.r, .int .i64 o.t1, .int .i64 o.t2], .pointer (some ⟨dg, 0, none⟩)] X fun E X' => E = .returned (.tuple #[.pointer none, .int .i64 12]) ∧ ∃ a', Rq B o dg a' s log r m X' ∧ Ol a a' X X' := by
  have hob : roBad o = false := by rw [← h.ho]; exact h.wf.o
  have hsi : (0 : Int) ≤ 0 ∧ 0 < o.n := ⟨Int.le_refl _, by have := (ro_ok hob).1; omega⟩
  have := rp_reopen B dg a.vd log 0 o X h.dsk h.wf.lg (Nat.le_trans h.n hm) hob hsi
  rw [hop] at this
  refine this.mono ?_
  rintro E X' ⟨rfl, v', hd, hO, hf⟩
  refine ⟨rfl, h.left (h.p.dk_same (v' := v') ?_ ?_ ?_) h.wf h.n rfl rfl⟩
  · rw [h.hd, h.wf.D]; exact hd
  · rw [h.hd]; exact hO
  · rw [h.hd]; exact hf
set_option maxHeartbeats 51200000 in
theorem rp_play (o : Ro) (hob : roBad o = false) (A : Option Addr) (L c : Nat) (l : List Pa) (S : Nat → Prop) (w : World) (hx : Cel w S (.slice A L c) L 12 (l.flatMap paRow)) (hL : l.length = L) (hL50 : L ≤ 50) :
    Calls Tryz.prog 52 #[.agg #[.int .i64 o.n, .int .i64 o.q, .int .i64 o.r, .int .i64 o.t1, .int .i64 o.t2], .slice A L c] w fun E w' => ∃ (B : World) (dg r : Nat) (a : Ra) (s : Rs) (log : List En), E = .returned (.pointer (some ⟨r, 0, none⟩)) ∧ Rq B o dg a s log r L w' ∧ Ow log s ∧ Only none_ w B := by
  have BX := Lib.hid (Blk.new w 23 #[.int .i64 o.n, .int .i64 o.q, .int .i64 o.r, .int .i64 o.t1, .int .i64 o.t2])
  have O0 := Lib.hid ((Only.refl none_ w).alloc (.cells #[.int .i64 o.n, .int .i64 o.q, .int .i64 o.r, .int .i64 o.t1, .int .i64 o.t2] 23))
  have HX := Lib.hid hx
  have HL := Lib.hid hL
  have HOB := Lib.hid hob
  have HDN := Lib.hid (fun (B X : World) (ho : Only none_ B X) => disk_new B X ho)
  have HRO := Lib.hid (fun (X : World) => rp_of o X)
  clear hx hL hob
  go_enter Tryz.func52, Tryz.ntmps52
  go_upto_region 1 with fail
  obtain ⟨B, hB⟩ : ∃ B, w.alloc (.cells #[.int .i64 o.n, .int .i64 o.q, .int .i64 o.r, .int .i64 o.t1, .int .i64 o.t2] 23) = B := ⟨_, rfl⟩
  rw [hB] at BX O0 ⊢
  clear hB
  generalize hg2 : w.heap.size = g2 at *
  go_upto_region 5 with (first
    | (go_at_call 14; refine (HDN.out B _ (Only.refl _ _)).mono ?_; rintro E w4 ⟨dg, rfl, hdg, hd, o4⟩
       have B4 := Lib.hid (BX.out.only o4 (fun h => h))
       have D4 := Lib.hid hd
       clear hdg hd o4)
    | (refine wpl_load rfl 23 _ rfl g2 rfl 23 #[.int .i64 o.n, .int .i64 o.q, .int .i64 o.r, .int .i64 o.t1, .int .i64 o.t2] _ B4.out Tryz.underlying23 rfl (by kernel_rfl) ?_)
    | (go_at_call 16; refine (HRO.out _).mono ?_; rintro E w5 ⟨rfl, o5⟩
       have D5 := Lib.hid (D4.out.keep o5)
       clear o5)
    | (go_at_call 15; refine (rq_first HOB.out D5.out).mono ?_; rintro E w6 ⟨a0, r0, rfl, q6, _, _⟩
       have Q6 := Lib.hid q6
       clear q6))
  clear B4 D4 D5 HDN
  have BO : Hid (∀ X, Only none_ B X → Blk X g2 23 #[.int .i64 o.n, .int .i64 o.q, .int .i64 o.r, .int .i64 o.t1, .int .i64 o.t2]) := fun X ho => BX.out.only ho (fun h => h)
  clear BX
  go_wp2_with fail
  go_loopw [6, 24] (fun v6 i X => ∃ (k r : Nat) (a : Ra) (s : Rs) (log : List En), k ≤ L ∧ i = .int .i64 (k : Int) ∧ v6 = .pointer (some ⟨r, 0, none⟩) ∧ Rq B o dg a s log r k X ∧ Ow log s) (fun _ i _ => L - (intOf i).toNat)
  case atStart => exact ⟨0, r0, a0, _, [], Nat.zero_le _, rfl, rfl, Q6.out, Nat.le_refl _⟩
  case round =>
    obtain ⟨k, r, a, s, log, hk, rfl, rfl, hq, how⟩ := hrel
    have HQ := Lib.hid hq
    have HOW := Lib.hid how
    clear hq how Q6
    by_cases hlt : k < L
    · obtain ⟨p, hp⟩ : ∃ p, l[k]? = some p := ⟨l[k]'(by have := HL.out; omega), List.getElem?_eq_getElem _⟩
      obtain ⟨b, off, hA, _, hbb, hc⟩ := in_elem paRow_length (by decide) HX.out HL.out hp
      subst hA
      have HC : Hid (∀ j u, (paA p).toList[j]? = some u → wr.cell? ⟨b, off + k * 12 + j, none⟩ = some u) := fun j u hu => hc _ (O0.out.trans HQ.out.p.ho) j u hu
      have hki : (k : Int) < (L : Int) := by omega
      clear hc hp hbb
      go_upto_region 8 with (first
        | (refine wpl_piece rfl 52 _ rfl b (off + k * 12) rfl (paA p) _ HC.out Tryz.underlying52 rfl (by kernel_rfl) ?_)
        | (refine wpl_new rfl rfl 52 rfl _ _ rfl (paA p) rfl rfl (by kernel_rfl) (pa_one p) ?_))
      try simp only [Act.put, List.setIfInBounds_toArray, List.set_cons_succ, List.set_cons_zero, World.size_alloc]
      have oa := (Only.refl none_ wr).alloc (.cells (paA p) 52)
      have R1 := Lib.hid (HQ.out.keep oa)
      have A1 : Hid (Bn a wr.heap.size 52 (paA p) (wr.alloc (.cells (paA p) 52))) := Bn.new HQ.out.p
      generalize wr.alloc (.cells (paA p) 52) = W1 at *
      generalize wr.heap.size = n1 at *
      clear oa HQ HC
      have hm60 : k ≤ 60 := by omega
      obtain ⟨pk, pu, pv, pe⟩ := p
      have q0 := A1.out.b.cell_ (i := 0) rfl
      have q1 := A1.out.b.cell_ (i := 1) rfl
      have q2 := A1.out.b.cell_ (i := 2) rfl
      try dsimp only at q0 q1 q2
      by_cases hk0 : pk = 0
      · skip
        have k0b : (pk == 0) = true := by simp [hk0]
        clear hk0
        rcases R1.out.wf.ptw (by have := R1.out.n; omega) pu pv with ⟨z, hz, hpe⟩ | ⟨hcl, hpe, d, _⟩
        · have HP := Lib.hid (R1.out.put hm60 hpe R1.out.wf (Nat.le_trans R1.out.n (Nat.le_succ k)))
          clear hpe hz
          go_wp2_with (first
            | (go_at_call 44; refine (HP.out).mono ?_; rintro E w5 ⟨rfl, a5, r5, ol5⟩
               have R5 := Lib.hid r5
               clear r5 ol5))
          go_roundw
          case rel => exact ⟨k + 1, r, a5, _, _, by omega, by go_num, rfl, R5.out, HOW.out⟩
          case measure => simp [intOf]; omega
        · have HOW2 := Lib.hid (HOW.out.dn d rfl)
          have HP := Lib.hid (R1.out.put hm60 hpe d.wf (m' := k + 1) (by have := R1.out.n; rw [List.length_append]; simp only [List.length_cons, List.length_nil]; omega))
          clear hpe hcl d
          go_wp2_with (first
            | (go_at_call 44; refine (HP.out).mono ?_; rintro E w5 ⟨rfl, a5, r5, ol5⟩
               have R5 := Lib.hid r5
               clear r5 ol5))
          go_roundw
          case rel => exact ⟨k + 1, r, a5, _, _, by omega, by go_num, rfl, R5.out, HOW2.out⟩
          case measure => simp [intOf]; omega
      · by_cases hk1 : pk = 1
        · skip
          have k0b : (pk == 0) = false := by simp [hk0]
          have k1b : (pk == 1) = true := by simp [hk1]
          clear hk0 hk1
          rcases R1.out.wf.dlw (by have := R1.out.n; omega) pu with ⟨z, hz, hpe⟩ | ⟨hcl, hlive, x, hxx, hpe, d, _⟩
          · have HP := Lib.hid (R1.out.del hm60 hpe R1.out.wf (Nat.le_trans R1.out.n (Nat.le_succ k)))
            clear hpe hz
            go_wp2_with (first
              | (go_at_call 46; refine (HP.out).mono ?_; rintro E w5 ⟨rfl, a5, r5, ol5⟩
                 have R5 := Lib.hid r5
                 clear r5 ol5))
            go_roundw
            case rel => exact ⟨k + 1, r, a5, _, _, by omega, by go_num, rfl, R5.out, HOW.out⟩
            case measure => simp [intOf]; omega
          · have HOW2 := Lib.hid (HOW.out.dn d rfl)
            have HP := Lib.hid (R1.out.del hm60 hpe d.wf (m' := k + 1) (by have := R1.out.n; rw [List.length_append]; simp only [List.length_cons, List.length_nil]; omega))
            clear hpe hxx hcl d hlive
            go_wp2_with (first
              | (go_at_call 46; refine (HP.out).mono ?_; rintro E w5 ⟨rfl, a5, r5, ol5⟩
                 have R5 := Lib.hid r5
                 clear r5 ol5))
            go_roundw
            case rel => exact ⟨k + 1, r, a5, _, _, by omega, by go_num, rfl, R5.out, HOW2.out⟩
            case measure => simp [intOf]; omega
        · by_cases hk2 : pk = 2
          · skip
            have k0b : (pk == 0) = false := by simp [hk0]
            have k1b : (pk == 1) = false := by simp [hk1]
            have k2b : (pk == 2) = true := by simp [hk2]
            clear hk0 hk1 hk2
            obtain ⟨log', hqx, hwf, hnl⟩ := HOW.out.mg R1.out.wf (by have := R1.out.n; omega) pe
            obtain ⟨s', kd, x, z, hmg⟩ : ∃ s' kd x z, mgR s pe = (s', kd, x, z) := ⟨_, _, _, _, rfl⟩
            rw [hmg] at hqx hwf
            have HE := Lib.hid hmg
            have HWF := Lib.hid hwf
            have HOW2 := Lib.hid hqx
            have HNL : Hid (log'.length ≤ k + 1) := by have := R1.out.n; simp only [Hid]; omega
            clear hmg hqx hwf hnl
            go_wp2_with (first
              | (with_reducible refine wpl_piece rfl 50 _ rfl n1 3 rfl #[.string pe.k, .string pe.v, .bool pe.d, .int .i64 pe.s.c, .int .i64 pe.s.s, .int .i64 pe.a.c, .int .i64 pe.a.s, .int .i64 pe.p, .int .i64 pe.g] _ (pa_entry (a := ⟨pk, pu, pv, pe⟩) A1.out.b) Tryz.underlying50 rfl (by kernel_rfl) ?_)
              | (go_at_call 36; refine (en_of pe _).mono ?_; rintro E w4 ⟨rfl, o4⟩
                 have R4 := Lib.hid (R1.out.keep o4)
                 clear o4)
              | (go_at_call 35; refine (R4.out.mrg hm60 HE.out HWF.out HNL.out).mono ?_; rintro E w5 ⟨rfl, a5, r5, ol5⟩
                 have R5 := Lib.hid r5
                 clear r5 ol5))
            go_roundw
            case rel => exact ⟨k + 1, r, a5, _, _, by omega, by go_num, rfl, R5.out, HOW2.out⟩
            case measure => simp [intOf]; omega
          · by_cases hk3 : pk = 3
            · skip
              have k0b : (pk == 0) = false := by simp [hk0]
              have k1b : (pk == 1) = false := by simp [hk1]
              have k2b : (pk == 2) = false := by simp [hk2]
              have k3b : (pk == 3) = true := by simp [hk3]
              clear hk0 hk1 hk2 hk3
              have HOW2 := Lib.hid (HOW.out.tick R1.out.wf)
              go_wp2_with (first
                | (go_at_call 47; refine R1.out.tick.mono ?_; rintro E w5 ⟨vs, rfl, a5, r5, ol5⟩
                   have R5 : Hid (Rq B o dg a5 (tickS s) log r (k + 1) w5) := ⟨r5.p, r5.hr, r5.hd, r5.wf, Nat.le_trans r5.n (Nat.le_succ k), r5.ho, r5.hs⟩
                   clear r5 ol5))
              go_roundw
              case rel => exact ⟨k + 1, r, a5, _, _, by omega, by go_num, rfl, R5.out, HOW2.out⟩
              case measure => simp [intOf]; omega
            · by_cases hk4 : pk = 4
              · skip
                have k0b : (pk == 0) = false := by simp [hk0]
                have k1b : (pk == 1) = false := by simp [hk1]
                have k2b : (pk == 2) = false := by simp [hk2]
                have k3b : (pk == 3) = false := by simp [hk3]
                have k4b : (pk == 4) = true := by simp [hk4]
                clear hk0 hk1 hk2 hk3 hk4
                cases hop : opF log (blankS o 0 (dvOf (log.map encB)) log.length) with
                | some s' =>
                  have HOW2 : Hid (Ow log s') := Ow.open hop
                  have HRE := Lib.hid (fun (X : World) (oX : Only none_ W1 X) => (R1.out.keep oX).reopen hm60 hop)
                  have b2 := BO.out _ R1.out.p.ho
                  have B2 := Lib.hid b2
                  clear hop b2
                  go_wp2_with (first
                    | (refine wpl_load rfl 23 _ rfl g2 rfl 23 #[.int .i64 o.n, .int .i64 o.q, .int .i64 o.r, .int .i64 o.t1, .int .i64 o.t2] _ B2.out Tryz.underlying23 rfl (by kernel_rfl) ?_)
                    | (go_at_call 16; refine (HRO.out _).mono ?_; rintro E w4 ⟨rfl, o4⟩; have O4 := Lib.hid o4; clear o4)
                    | (go_at_call 15; refine (HRE.out _ O4.out).mono ?_; rintro E w5 ⟨a5, r5, rfl, q5, ol5⟩
                       have R5 : Hid (Rq B o dg a5 s' log r5 (k + 1) w5) := ⟨q5.p, q5.hr, q5.hd, q5.wf, Nat.le_trans q5.n (Nat.le_succ k), q5.ho, q5.hs⟩
                       clear q5 ol5))
                  go_roundw
                  case rel => exact ⟨k + 1, r5, a5, _, _, by omega, by go_num, rfl, R5.out, HOW2.out⟩
                  case measure => simp [intOf]; omega
                | none =>
                  have HRE := Lib.hid (fun (X : World) (oX : Only none_ W1 X) => (R1.out.keep oX).reopen_same hm60 hop)
                  have b2 := BO.out _ R1.out.p.ho
                  have B2 := Lib.hid b2
                  clear hop b2
                  go_wp2_with (first
                    | (refine wpl_load rfl 23 _ rfl g2 rfl 23 #[.int .i64 o.n, .int .i64 o.q, .int .i64 o.r, .int .i64 o.t1, .int .i64 o.t2] _ B2.out Tryz.underlying23 rfl (by kernel_rfl) ?_)
                    | (go_at_call 16; refine (HRO.out _).mono ?_; rintro E w4 ⟨rfl, o4⟩; have O4 := Lib.hid o4; clear o4)
                    | (go_at_call 15; refine (HRE.out _ O4.out).mono ?_; rintro E w5 ⟨rfl, a5, q5, ol5⟩
                       have R5 : Hid (Rq B o dg a5 s log r (k + 1) w5) := ⟨q5.p, q5.hr, q5.hd, q5.wf, Nat.le_trans q5.n (Nat.le_succ k), q5.ho, q5.hs⟩
                       clear q5 ol5))
                  go_roundw
                  case rel => exact ⟨k + 1, r, a5, _, _, by omega, by go_num, rfl, R5.out, HOW.out⟩
                  case measure => simp [intOf]; omega
              · skip
                have k0b : (pk == 0) = false := by simp [hk0]
                have k1b : (pk == 1) = false := by simp [hk1]
                have k2b : (pk == 2) = false := by simp [hk2]
                have k3b : (pk == 3) = false := by simp [hk3]
                have k4b : (pk == 4) = false := by simp [hk4]
                clear hk0 hk1 hk2 hk3 hk4
                have R5 : Hid (Rq B o dg a s log r (k + 1) W1) := ⟨R1.out.p, R1.out.hr, R1.out.hd, R1.out.wf, Nat.le_trans R1.out.n (Nat.le_succ k), R1.out.ho, R1.out.hs⟩
                go_wp2_with fail
                go_roundw
                case rel => exact ⟨k + 1, r, a, _, _, by omega, by go_num, rfl, R5.out, HOW.out⟩
                case measure => simp [intOf]; omega
    · obtain rfl : k = L := by omega
      go_wp2_with fail
      go_ret
      exact ⟨B, dg, r, a, s, log, rfl, HQ.out, HOW.out, O0.out⟩
end Go.Proofs.YtoohpcomnhfgpaaGreat
end
section
namespace Go.Proofs.YtoohpcomnhfgpaaGreat
open Go.RowKit
set_option maxRecDepth 100000
set_option linter.all false
theorem bw_str (a b : ByteArray) : (!Op.bytesLess a.toList b.toList && !a.toList == b.toList) = lt_ b a := by
  rw [str_same, Lib.toList_data, Lib.toList_data]
  have e : Op.bytesLess a.data.toList b.data.toList = lt_ a b := rfl
  rw [e]
  by_cases h : a = b
  · subst h; simp [lt_irr]
  · cases h1 : lt_ a b with
    | true =>
      cases h2 : lt_ b a with
      | true => have := lt_tr h1 h2; rw [lt_irr] at this; cases this
      | false => rfl
    | false =>
      cases h2 : lt_ b a with
      | true => simp [h]
      | false => exact absurd (lt_tri h1 h2) h
set_option maxHeartbeats 1600000 in
theorem bw_later (x y : Mk) (w : World) :
    Calls Tryz.prog 55 #[.agg #[.int .i64 x.a.c, .int .i64 x.a.s, .string x.k], .agg #[.int .i64 y.a.c, .int .i64 y.a.s, .string y.k]] w fun e w' => e = .returned (.bool (mkLater x y)) ∧ Only none_ w w' := by
  have O := Lib.hid (((Only.refl none_ w).alloc (.cells #[.int .i64 x.a.c, .int .i64 x.a.s, .string x.k] 58)).alloc (.cells #[.int .i64 y.a.c, .int .i64 y.a.s, .string y.k] 58))
  have hne := fun w => neqS w x.a y.a
  by_cases h : stSame x.a y.a = true
  · have H : Hid (mkLater x y = lt_ y.k x.k) := by rw [Hid, mkLater, if_pos h]
    rw [h] at hne
    have G := Lib.hid (bw_str x.k y.k)
    go_enter Tryz.func55, Tryz.ntmps55
    go_wp2_with fail
    go_ret
    rw [H.out, ← G.out]
    exact ⟨rfl, O.out⟩
  · have H : Hid (mkLater x y = stLater x.a y.a) := by rw [Hid, mkLater, if_neg h]
    have h' : stSame x.a y.a = false := by simpa using h
    rw [h'] at hne
    have hl := rf_later x.a.c x.a.s y.a.c y.a.s
    have HL := Lib.hid hl
    clear hl h h'
    go_enter Tryz.func55, Tryz.ntmps55
    go_wp2_with (first
      | (go_at_call 51; refine (HL.out _).mono ?_; rintro E w3 ⟨rfl, o3⟩
         have O3 := Lib.hid (O.out.trans o3)
         clear o3))
    go_ret
    rw [H.out]
    exact ⟨rfl, O3.out⟩
set_option maxHeartbeats 1600000 in
theorem bw_to (m : Mk) (w : World) :
    Calls Tryz.prog 56 #[.agg #[.int .i64 m.a.c, .int .i64 m.a.s, .string m.k]] w fun e w' => e = .returned (.agg #[.int .i64 m.a.c, .int .i64 m.a.s, .string m.k]) ∧ Only none_ w w' := by
  have HST := Lib.hid (st_to m.a.c m.a.s)
  have B0 := Blk.new w 99 #[.int .i64 m.a.c, .int .i64 m.a.s, .string m.k]
  obtain ⟨b0, hb0⟩ : ∃ b0, w.heap.size = b0 := ⟨_, rfl⟩
  have HB0 := Lib.hid hb0
  have B1 := Blk.new (w.alloc (.cells #[.int .i64 m.a.c, .int .i64 m.a.s, .string m.k] 99)) 58 #[.int .i64 0, .int .i64 0, .string ⟨#[]⟩]
  rw [World.size_alloc, hb0] at B1
  rw [hb0] at B0
  have B0' := Lib.hid (B0.alloc (.cells #[.int .i64 0, .int .i64 0, .string ⟨#[]⟩] 58))
  have B1' := Lib.hid B1
  have O := Lib.hid (((Only.refl none_ w).alloc (.cells #[.int .i64 m.a.c, .int .i64 m.a.s, .string m.k] 99)).alloc (.cells #[.int .i64 0, .int .i64 0, .string ⟨#[]⟩] 58))
  obtain ⟨w2, hw2⟩ : ∃ w2, (w.alloc (.cells #[.int .i64 m.a.c, .int .i64 m.a.s, .string m.k] 99)).alloc (.cells #[.int .i64 0, .int .i64 0, .string ⟨#[]⟩] 58) = w2 := ⟨_, rfl⟩
  have HW := Lib.hid hw2
  rw [hw2] at B0' B1' O
  obtain ⟨⟨mc, ms⟩, k⟩ := m
  simp only [] at HST B0' B1' O HW
  clear hb0 B0 B1 hw2
  go_enter Tryz.func56, Tryz.ntmps56
  go_wp2_with fail
  rw [HW.out, HB0.out]
  (refine wp_region_steady (fun w' => Only none_ w2 w') 6 (by kernel_rfl) (by kernel_rfl) ((Only.refl none_ w2).drew) ?_; simp only [List.take_succ_cons, List.take_zero, List.drop_succ_cons, List.drop_zero])
  repeat (first
    | (refine sd_value (v := ?_) (by rfl) (fun w0 hS => ?_) ?_; rotate_left; (· (have hb := B0'.out.only hS (fun h => h); have k0 := hb.cell_ (i := 0) rfl; have k1 := hb.cell_ (i := 1) rfl; have k2 := hb.cell_ (i := 2) rfl; go_simp; try (with_reducible rfl))); try simp only [Act.put, List.setIfInBounds_toArray, List.set_cons_zero, List.set_cons_succ])
    | (refine sd_call (v := ?_) (f := 77) (args := ?_) (by rfl) (fun w0 hS => ?_) (fun w0 hS => ?_) ?_; rotate_left 2; (· (skip; go_simp; try (with_reducible rfl))); (· (refine (HST.out _).mono ?_; rintro E w9 ⟨rfl, o9⟩; refine ⟨?_, hS.trans o9⟩; rfl)); try simp only [Act.put, List.setIfInBounds_toArray, List.set_cons_zero, List.set_cons_succ]))
  refine sd_nil ?_
  intro w3 t3
  have X := B1'.out.only t3 (fun h => h)
  have c0 := X.cell_ (i := 0) rfl
  have f0 := X.frozen 0
  have c1 := (X.set_ 0 (.int .i64 mc)).cell_ (i := 1) rfl
  have f1 := (X.set_ 0 (.int .i64 mc)).frozen 1
  have c2 := ((X.set_ 0 (.int .i64 mc)).set_ 1 (.int .i64 ms)).cell_ (i := 2) rfl
  have f2 := ((X.set_ 0 (.int .i64 mc)).set_ 1 (.int .i64 ms)).frozen 2
  have F : Hid (Blk (((w3.setCell ⟨b0 + 1, 0, none⟩ (.int .i64 mc)).setCell ⟨b0 + 1, 1, none⟩ (.int .i64 ms)).setCell ⟨b0 + 1, 2, none⟩ (.string k)) (b0 + 1) 58 #[.int .i64 mc, .int .i64 ms, .string k]) := ((X.set_ 0 (.int .i64 mc)).set_ 1 (.int .i64 ms)).set_ 2 (.string k)
  have OF : Hid (Only none_ w (((w3.setCell ⟨b0 + 1, 0, none⟩ (.int .i64 mc)).setCell ⟨b0 + 1, 1, none⟩ (.int .i64 ms)).setCell ⟨b0 + 1, 2, none⟩ (.string k))) := (O.out.trans t3).trans' ((((Only.refl (one (b0 + 1)) w3).setCell (p := ⟨b0 + 1, 0, none⟩) (.inl (show one (b0 + 1) (b0 + 1) from rfl)) _).setCell (p := ⟨b0 + 1, 1, none⟩) (.inl (show one (b0 + 1) (b0 + 1) from rfl)) _).setCell (p := ⟨b0 + 1, 2, none⟩) (.inl (show one (b0 + 1) (b0 + 1) from rfl)) _) (fun k hk e => by have e' : k = b0 + 1 := e; have := HB0.out; omega)
  clear t3 X
  go_wp2_with fail
  exact bodyPost_ret (results_cell_row rfl _ _ (b0 + 1) 58 _ (0, 0) _ rfl F.out Tryz.underlying58 rfl (by kernel_rfl)) rfl ⟨rfl, OF.out⟩
theorem mk_cells_one (m : Mk) : ∀ u ∈ (#[.int .i64 m.a.c, .int .i64 m.a.s, .string m.k] : Array Value), u.oneCell' = true := by
  intro u hu
  simp only [List.mem_toArray, List.mem_cons, List.not_mem_nil, or_false] at hu
  rcases hu with rfl | rfl | rfl <;> rfl
set_option maxHeartbeats 3200000 in
theorem bw_mark (x : En) (w : World) :
    Calls Tryz.prog 57 #[.agg #[.string x.k, .string x.v, .bool x.d, .int .i64 x.s.c, .int .i64 x.s.s, .int .i64 x.a.c, .int .i64 x.a.s, .int .i64 x.p, .int .i64 x.g]] w fun e w' => e = .returned (.agg #[.int .i64 x.a.c, .int .i64 x.a.s, .string x.k]) ∧ Only none_ w w' := by
  have B0 := (Blk.new w 50 #[.string x.k, .string x.v, .bool x.d, .int .i64 x.s.c, .int .i64 x.s.s, .int .i64 x.a.c, .int .i64 x.a.s, .int .i64 x.p, .int .i64 x.g]).alloc (.cells #[.int .i64 0, .int .i64 0, .string ⟨#[]⟩] 58)
  have B1 := Blk.new (w.alloc (.cells #[.string x.k, .string x.v, .bool x.d, .int .i64 x.s.c, .int .i64 x.s.s, .int .i64 x.a.c, .int .i64 x.a.s, .int .i64 x.p, .int .i64 x.g] 50)) 58 #[.int .i64 x.a.c, .int .i64 x.a.s, .string x.k]
  rw [World.size_alloc] at B1
  have O := Lib.hid (((Only.refl none_ w).alloc (.cells #[.string x.k, .string x.v, .bool x.d, .int .i64 x.s.c, .int .i64 x.s.s, .int .i64 x.a.c, .int .i64 x.a.s, .int .i64 x.p, .int .i64 x.g] 50)).alloc (.cells #[.int .i64 x.a.c, .int .i64 x.a.s, .string x.k] 58))
  have k0 := B0.cell_ (i := 0) rfl
  have k5 := B0.cell_ (i := 5) rfl
  have k6 := B0.cell_ (i := 6) rfl
  have BB := Lib.hid B1
  clear B0 B1
  go_enter Tryz.func57, Tryz.ntmps57
  go_wp2_with fail
  exact bodyPost_ret (results_cell_row rfl _ _ (w.heap.size + 1) 58 _ (0, 0) _ rfl BB.out Tryz.underlying58 rfl (by kernel_rfl)) rfl ⟨rfl, O.out⟩
def entO (s : Rs) (x : Mk) : En := (lookE s.tab x.k).getD enZero
theorem bel_len {s : Rs} (m : Mk) (n : Int) : (belM s.mks m n).length ≤ s.mks.length := by
  unfold belM
  rw [List.length_take]
  have := List.length_filter_le (belF m) s.mks
  omega
theorem rowsM_next {l : List Mk} (g : Mk → En) {k : Nat} {x : Mk} (h : l[k]? = some x) : ((l.take (k + 1)).map g).flatMap enRow = ((l.take k).map g).flatMap enRow ++ enRow (g x) := by
  obtain ⟨hk, hb⟩ := List.getElem?_eq_some_iff.1 h
  rw [List.take_succ_eq_append_getElem hk, List.map_append, List.flatMap_append, hb]
  simp
theorem own_lenB {w : World} {base : Nat} {e : TypeId} {k n n' c : Nat} {A : Option Addr} {xs : List Value} (h : w.ownsRow base e k (.slice A n' c) n xs) : n' = n := by
  rcases h.2 with ⟨e1, h0⟩ | ⟨g, cap, cur, e1, _⟩
  · injection e1 with _ e2 _; omega
  · injection e1 with _ e2 _
set_option maxHeartbeats 12800000 in
theorem ct_below (B : World) (a : Ra) (s : Rs) (m : Mk) (n : Int) (w : World) (h : Rp B a s w) :
    Calls Tryz.prog 31 #[.pointer (some ⟨a.r, 6, none⟩), .agg #[.int .i64 m.a.c, .int .i64 m.a.s, .string m.k], .int .i64 n] w fun E w' => ∃ v', E = .returned v' ∧ w'.ownsRow w.heap.size 82 9 v' ((belM s.mks m n).map (entO s)).length (((belM s.mks m n).map (entO s)).flatMap enRow) ∧ Only none_ w w' := by
  obtain ⟨i0, hi0, hz0, hz1, hz2⟩ := info_parts api_info
  have hN100 := Nat.le_trans (bel_len (s := s) m n) h.mx.ml
  rw [List.length_map]
  have HB : ∀ X, Only none_ w X → Calls Tryz.prog 79 #[.pointer (some ⟨a.mx, 0, none⟩), .agg #[.int .i64 m.a.c, .int .i64 m.a.s, .string m.k], .int .i64 n] X fun e w' => ∃ v', e = .returned v' ∧ w'.ownsRow X.heap.size 99 3 v' (belM s.mks m n).length ((belM s.mks m n).flatMap mkI) ∧ Only none_ X w' :=
    fun X oX => rc_below B.heap.size a.mx a.mb s.mks s.mks a.vm m n X (h.keep oX).mx
  obtain ⟨p, hp⟩ : ∃ p, belM s.mks m n = p := ⟨_, rfl⟩
  obtain ⟨N, hN⟩ : ∃ N, p.length = N := ⟨_, rfl⟩
  obtain ⟨g, hg⟩ : ∃ g, entO s = g := ⟨_, rfl⟩
  rw [hp, hN] at HB hN100
  rw [hp, hN, hg]
  have HN := Lib.hid hN
  have HBL := Lib.hid HB
  have HP := Lib.hid (fun (X : World) (oX : Only none_ w X) => h.keep oX)
  have HCE : Hid (∀ X, Only none_ w X → ∀ x : Mk, Calls Tryz.prog 24 #[.pointer (some ⟨a.r, 6, none⟩), .string x.k] X fun E w' => ∃ ok, E = .returned (.tuple #[.agg #[.string (g x).k, .string (g x).v, .bool (g x).d, .int .i64 (g x).s.c, .int .i64 (g x).s.s, .int .i64 (g x).a.c, .int .i64 (g x).a.s, .int .i64 (g x).p, .int .i64 (g x).g], .bool ok]) ∧ Only none_ X w') := fun X oX x => by
    have := ct_entry B a s x.k X (h.keep oX)
    rw [← hg]
    exact this.mono fun E w' ⟨h1, h2⟩ => ⟨_, h1, h2⟩
  have B1 := Lib.hid (Blk.new w 99 #[.int .i64 m.a.c, .int .i64 m.a.s, .string m.k])
  have O1 := Lib.hid ((Only.refl none_ w).alloc (.cells #[.int .i64 m.a.c, .int .i64 m.a.s, .string m.k] 99))
  obtain ⟨w1, hw1⟩ : ∃ w1, w.alloc (.cells #[.int .i64 m.a.c, .int .i64 m.a.s, .string m.k] 99) = w1 := ⟨_, rfl⟩
  have HW := Lib.hid hw1
  rw [hw1] at B1 O1
  clear h hN hp hg HB hw1
  go_enter Tryz.func31, Tryz.ntmps31
  go_wp2_with fail
  rw [HW.out]
  (refine wp_region_free (fun X => Only none_ w1 X) (Only none_) (F := ?_) (by kernel_rfl) 37 (by rfl) (by kernel_rfl) (fun x => ?_) ((Only.refl none_ w1).drew) ?_; rotate_left; (· (simp only [putsL, Act.put, List.setIfInBounds_toArray, List.set_cons_zero, List.set_cons_succ, Nat.reduceAdd]; exact rfl)))
  repeat (first | ((first | refine fr_value (c := ?_) (by rfl) (fun w => Only.refl none_ w) (fun x w0 hS hk => ?_) ?_ | refine fr_value_if (c := ?_) (by rfl) (by rfl) (by rfl) (fun w => Only.refl none_ w) (fun x w0 hS hk => ?_) ?_); rotate_left; (· (have hk2 := hk; (try simp [knAll, Region.binds] at hk2); have rr := (HP.out _ (O1.out.trans hS)).bk.cell_ (i := 8) rfl; have bb := B1.out.only hS (fun h => h); have b0 := bb.cell_ (i := 0) rfl; have b1 := bb.cell_ (i := 1) rfl; have b2 := bb.cell_ (i := 2) rfl; go_simp; try (with_reducible rfl))); try simp only [List.nil_append, List.cons_append]))
  ((first | refine fr_some (SlO mkI 3 w.heap.size 99 N p) (fun _ _ _ _ _ r h => h.keep r) (by rfl) (fun x w0 hS hk => ?_) ?_ | refine fr_some_if (SlO mkI 3 w.heap.size 99 N p) (fun _ _ _ _ _ r h => h.keep r) (by rfl) (by rfl) (by rfl) (fun x w0 hS hk => ?_) ?_); (· (have hk2 := hk; (try simp [knAll, Region.binds] at hk2); skip; refine got_call (f := 79) (args := ?_) (by go_simp; try (with_reducible rfl)) ?_; refine (HBL.out _ (O1.out.trans hS)).mono ?_; rintro e w8 ⟨v8, rfl, own8, o8⟩; exact ⟨v8, rfl, SlO.of (by rw [HN.out]; exact own8) HN.out (O1.out.trans hS).size, hS.trans o8, o8⟩)); try simp only [List.nil_append, List.cons_append])
  ((first | refine fr_value (c := ?_) (by rfl) (fun w => Only.refl none_ w) (fun x w0 hS hk => ?_) ?_ | refine fr_value_if (c := ?_) (by rfl) (by rfl) (by rfl) (fun w => Only.refl none_ w) (fun x w0 hS hk => ?_) ?_); rotate_left; (· (have hk2 := hk; (try simp [knAll, Region.binds] at hk2); obtain ⟨A1, c1, e1, own1⟩ := kn_at (j := 6) (by rfl) hk (by rfl); simp only [e1]; go_simp; try (with_reducible rfl))); try simp only [List.nil_append, List.cons_append])
  repeat (first | ((first | refine fr_value (c := ?_) (by rfl) (fun w => Only.refl none_ w) (fun x w0 hS hk => ?_) ?_ | refine fr_value_if (c := ?_) (by rfl) (by rfl) (by rfl) (fun w => Only.refl none_ w) (fun x w0 hS hk => ?_) ?_); rotate_left; (· (have hk2 := hk; (try simp [knAll, Region.binds] at hk2); skip; go_simp; try (with_reducible rfl))); try simp only [List.nil_append, List.cons_append]))
  (refine fr_end ?_; intro x w9 hS hk)
  obtain ⟨A1, c1, e6, own1⟩ := kn_end_at 6 hk (by rfl)
  have e7 := kn_end_at 7 hk (by rfl)
  have e8 := kn_end_at 8 hk (by rfl)
  rw [Nat.zero_add] at e6 e7 e8
  rw [e6, e7, e8]
  have X1 := Lib.hid (Cel.of_own own1)
  have O9 := Lib.hid (O1.out.trans hS)
  clear hk e6 e7 e8 own1 hS HBL B1 HW
  go_wp2_with fail
  go_loopw [20, 7] (fun i q X => ∃ (k : Nat) (B2 : Option Addr) (m2 d : Nat), k ≤ N ∧ i = .int .i64 (k : Int) ∧ q = .slice B2 m2 d ∧ m2 = k ∧ X.ownsRow w9.heap.size 82 9 (.slice B2 m2 d) k (((p.take k).map g).flatMap enRow) ∧ Only none_ w9 X) (fun i _ _ => N - (intOf i).toNat)
  case atStart => exact ⟨0, _, _, _, Nat.zero_le _, rfl, rfl, rfl, World.ownsRow_nil _ _ _ _, Only.refl _ _⟩
  case round =>
    obtain ⟨k, B2, m2, d, hk, rfl, rfl, hm, hown, ho⟩ := hrel
    have HR := Lib.hid ho
    have OW := Lib.hid hown
    have HM := Lib.hid hm
    clear ho hown hm
    by_cases hlt : k < N
    · obtain ⟨x, hx⟩ : ∃ x, p[k]? = some x := ⟨p[k]'(by have := HN.out; omega), List.getElem?_eq_getElem _⟩
      obtain ⟨b, off, hA, _, hb, hc⟩ := in_elem mkI_len (by decide) X1.out HN.out hx
      subst hA
      have HC : Hid (∀ j u, (#[.int .i64 x.a.c, .int .i64 x.a.s, .string x.k] : Array Value).toList[j]? = some u → wr.cell? ⟨b, off + k * 3 + j, none⟩ = some u) := fun j u hu => hc _ HR.out j u hu
      have HS := Lib.hid (rowsM_next g hx)
      obtain ⟨e, he⟩ : ∃ e, g x = e := ⟨_, rfl⟩
      have HEE : Hid (∀ X, Only none_ w X → Calls Tryz.prog 24 #[.pointer (some ⟨a.r, 6, none⟩), .string x.k] X fun E w' => ∃ ok, E = .returned (.tuple #[.agg #[.string e.k, .string e.v, .bool e.d, .int .i64 e.s.c, .int .i64 e.s.s, .int .i64 e.a.c, .int .i64 e.a.s, .int .i64 e.p, .int .i64 e.g], .bool ok]) ∧ Only none_ X w') := fun X oX => by
        have := HCE.out X oX x
        rwa [he] at this
      rw [he] at HS
      have Y10 := Blk.new wr 99 #[.int .i64 x.a.c, .int .i64 x.a.s, .string x.k]
      have y2 := Y10.cell_ (i := 2) rfl
      have O10 := Lib.hid ((Only.refl none_ wr).alloc (.cells #[.int .i64 x.a.c, .int .i64 x.a.s, .string x.k] 99))
      have MX : Hid (k + 1 ≤ maxLen ∧ (k + 1) * 88 ≤ 140737488355328) := by simp only [Hid, maxLen]; omega
      have hki : (k : Int) < (N : Int) := by omega
      clear hx hc hb he Y10
      go_upto_region 6 with (first
        | (with_reducible refine wpl_piece rfl 99 _ rfl b (off + k * 3) rfl #[.int .i64 x.a.c, .int .i64 x.a.s, .string x.k] _ HC.out Tryz.underlying99 rfl (by kernel_rfl) ?_)
        | (with_reducible refine wpl_new rfl rfl 99 rfl _ _ rfl #[.int .i64 x.a.c, .int .i64 x.a.s, .string x.k] rfl rfl (by kernel_rfl) (mk_cells_one x) ?_)
        | (go_at_call 24; refine (HEE.out _ ((O9.out.trans HR.out).trans O10.out)).mono ?_; rintro E w12 ⟨ok, rfl, o12⟩
           have O12 := Lib.hid (O10.out.trans o12)
           have Y12 := Lib.hid (Blk.new w12 82 #[.string e.k, .string e.v, .bool e.d, .int .i64 e.s.c, .int .i64 e.s.s, .int .i64 e.a.c, .int .i64 e.a.s, .int .i64 e.p, .int .i64 e.g])
           have O14 := Lib.hid (((O10.out.trans o12).alloc (.cells #[.string e.k, .string e.v, .bool e.d, .int .i64 e.s.c, .int .i64 e.s.s, .int .i64 e.a.c, .int .i64 e.a.s, .int .i64 e.p, .int .i64 e.g] 82)).alloc (.cells #[.string e.k, .string e.v, .bool e.d, .int .i64 e.s.c, .int .i64 e.s.s, .int .i64 e.a.c, .int .i64 e.a.s, .int .i64 e.p, .int .i64 e.g] 82))
           have OW14 := Lib.hid (owns_only OW.out O14.out (fun _ _ h => h))
           have CM := Lib.hid (cel_made (w12.alloc (.cells #[.string e.k, .string e.v, .bool e.d, .int .i64 e.s.c, .int .i64 e.s.s, .int .i64 e.a.c, .int .i64 e.a.s, .int .i64 e.p, .int .i64 e.g] 82)) 82 9 1 #[.string e.k, .string e.v, .bool e.d, .int .i64 e.s.c, .int .i64 e.s.s, .int .i64 e.a.c, .int .i64 e.a.s, .int .i64 e.p, .int .i64 e.g] rfl (by simp [maxLen]))
           have ONE : Hid (∀ u ∈ (#[.string e.k, .string e.v, .bool e.d, .int .i64 e.s.c, .int .i64 e.s.s, .int .i64 e.a.c, .int .i64 e.a.s, .int .i64 e.p, .int .i64 e.g] : Array Value).toList, u.oneCell' = true) := row_one e
           have SZ : Hid (w9.heap.size ≤ ((w12.alloc (.cells #[.string e.k, .string e.v, .bool e.d, .int .i64 e.s.c, .int .i64 e.s.s, .int .i64 e.a.c, .int .i64 e.a.s, .int .i64 e.p, .int .i64 e.g] 82)).alloc (.cells #[.string e.k, .string e.v, .bool e.d, .int .i64 e.s.c, .int .i64 e.s.s, .int .i64 e.a.c, .int .i64 e.a.s, .int .i64 e.p, .int .i64 e.g] 82)).heap.size) := (HR.out.trans O14.out).size
           clear o12)
        | (with_reducible refine wpl_new rfl rfl 82 rfl _ _ rfl #[.string e.k, .string e.v, .bool e.d, .int .i64 e.s.c, .int .i64 e.s.s, .int .i64 e.a.c, .int .i64 e.a.s, .int .i64 e.p, .int .i64 e.g] rfl rfl (by kernel_rfl) (en_cells_one e) ?_))
      generalize w12.alloc (.cells #[.string e.k, .string e.v, .bool e.d, .int .i64 e.s.c, .int .i64 e.s.s, .int .i64 e.a.c, .int .i64 e.a.s, .int .i64 e.p, .int .i64 e.g] 82) = W13 at *
      go_wp2_with (first
        | (with_reducible refine wpl_load rfl 82 _ rfl w12.heap.size rfl _ #[.string e.k, .string e.v, .bool e.d, .int .i64 e.s.c, .int .i64 e.s.s, .int .i64 e.a.c, .int .i64 e.a.s, .int .i64 e.p, .int .i64 e.g] _ Y12.out Tryz.underlying82 rfl (by kernel_rfl) ?_)
        | (at_builtin; refine wpList_append_cel _ rfl (.tmp 31) (.tmp 33) 96 rfl w9.heap.size 82 i0 _ 9 88 Tryz.underlying96 hi0 hz0 hz1 hz2 rfl (by omega) (.slice B2 m2 d) k _ rfl OW14.out _ _ 1 _ rfl CM.out ONE.out MX.out.1 MX.out.2 SZ.out ?_
           intro A7 n7 c7 w7 hown7 hgrow7 hmv7
           have O7 : Hid (Only none_ w9 w7) := (HR.out.trans O14.out).grown hgrow7 (fun k hk => .inr (OW14.out.lt k hk).1)
           have H7 := Lib.hid hown7
           have HN7 : Hid (n7 = k + 1) := own_lenB hown7
           clear hown7 hgrow7 hmv7))
      go_roundw
      case rel => exact ⟨k + 1, A7, n7, c7, by omega, by go_num, rfl, HN7.out, by rw [HS.out]; exact H7.out, O7.out⟩
      case measure => simp [intOf]; omega
    · obtain rfl : N = k := by omega
      have HT : Hid (p.take N = p) := by rw [Hid, ← HN.out, List.take_length]
      have F : Hid (wr.ownsRow w.heap.size 82 9 (.slice B2 m2 d) N ((p.map g).flatMap enRow)) := by have := OW.out; rw [HT.out] at this; exact owns_base this O9.out.size
      have O15 := Lib.hid (O9.out.trans HR.out)
      clear HT OW
      go_wp2_with fail
      go_ret
      exact ⟨_, rfl, F.out, O15.out⟩
end Go.Proofs.YtoohpcomnhfgpaaGreat
end
section
namespace Go.Proofs.YtoohpcomnhfgpaaGreat
open Go.RowKit
set_option maxRecDepth 100000
set_option linter.all false
theorem smo_at {W w : World} {b off : Nat} {l : List En} (hc : ∀ j u, (l.flatMap enRow)[j]? = some u → W.cell? ⟨b, off + j, none⟩ = some u) (o : Only none_ W w) (hb : b < W.heap.size) {k : Nat} {a : En} (ha : l[k]? = some a) :
    w.cell? ⟨b, off + k * 9, none⟩ = some (.string a.k) ∧ w.cell? ⟨b, off + k * 9 + 1, none⟩ = some (.string a.v) ∧ w.cell? ⟨b, off + k * 9 + 2, none⟩ = some (.bool a.d) ∧ w.cell? ⟨b, off + k * 9 + 3, none⟩ = some (.int .i64 a.s.c) ∧ w.cell? ⟨b, off + k * 9 + 4, none⟩ = some (.int .i64 a.s.s) ∧ w.cell? ⟨b, off + k * 9 + 5, none⟩ = some (.int .i64 a.a.c) ∧ w.cell? ⟨b, off + k * 9 + 6, none⟩ = some (.int .i64 a.a.s) ∧ w.cell? ⟨b, off + k * 9 + 7, none⟩ = some (.int .i64 a.p) ∧ w.cell? ⟨b, off + k * 9 + 8, none⟩ = some (.int .i64 a.g) := by
  have h := flat_at enRow enRow_length l k a ha
  have c : ∀ j u, j < 9 → (enRow a)[j]? = some u → w.cell? ⟨b, off + (k * 9 + j), none⟩ = some u := fun j u hj hu => (o.cell (p := ⟨b, off + (k * 9 + j), none⟩) hb (fun h => h)).trans (hc _ _ ((h j hj).trans hu))
  exact ⟨c 0 _ (by omega) rfl, c 1 _ (by omega) rfl, c 2 _ (by omega) rfl, c 3 _ (by omega) rfl, c 4 _ (by omega) rfl, c 5 _ (by omega) rfl, c 6 _ (by omega) rfl, c 7 _ (by omega) rfl, c 8 _ (by omega) rfl⟩
set_option maxHeartbeats 3200000 in
theorem smo_of (v : Value) (l : List En) (w : World) (S : Nat → Prop) (hx : Cel w S v l.length 9 (l.flatMap enRow)) :
    Calls Tryz.prog 54 #[v] w fun E w' => E = .returned (.int .u64 (w64 (sumH l))) ∧ Only none_ w w' := by
  obtain ⟨A, c, rfl, _, h2, h3, _, h4⟩ := hx
  obtain ⟨L, hL⟩ : ∃ L, L = l.length := ⟨_, rfl⟩
  rw [← hL] at h2 h4 ⊢
  have HX := Lib.hid h4
  have HL := Lib.hid hL
  have hLm : L ≤ 9223372036854775807 := by simp only [maxLen] at h3; omega
  have O0 := Lib.hid (Only.refl none_ w)
  clear h4 hL
  go_enter Tryz.func54, Tryz.ntmps54
  go_wp2_with fail
  go_loopw [3, 8] (fun x i wr => ∃ k : Nat, k ≤ L ∧ i = .int .i64 (k : Int) ∧ x = .int .u64 (w64 (sumH (l.take k))) ∧ Only none_ w wr) (fun _ i _ => L - (intOf i).toNat)
  case atStart => exact ⟨0, Nat.zero_le _, rfl, rfl, O0.out⟩
  case round =>
    obtain ⟨k, hk, rfl, rfl, ho⟩ := hrel
    have HW := Lib.hid ho
    clear ho
    by_cases hlt : k < L
    · obtain ⟨b, off, rfl, _, hb, hc⟩ := HX.out (by omega)
      obtain ⟨a, ha⟩ : ∃ a, l[k]? = some a := ⟨l[k]'(by have := HL.out; omega), List.getElem?_eq_getElem _⟩
      have q := smo_at hc HW.out hb ha
      have hs := sumH_succ ha
      have hadd : IntKind.u64.wrap (w64 (sumH (l.take k)) + (hsh a : Int)) = w64 (sumH (l.take (k + 1))) := by rw [w64_wrap, w64_add, hs]
      have hx1 := w64_in (sumH (l.take k))
      have hx2 := hsh_lt a
      obtain ⟨x, hxe⟩ : ∃ x, w64 (sumH (l.take k)) = x := ⟨_, rfl⟩
      obtain ⟨y, hye⟩ : ∃ y, w64 (sumH (l.take (k + 1))) = y := ⟨_, rfl⟩
      obtain ⟨h, hhe⟩ : ∃ h, hsh a = h := ⟨_, rfl⟩
      rw [hxe, hye, hhe] at hadd
      rw [hxe] at hx1 ⊢
      rw [hhe] at hx2
      have HY := Lib.hid hye
      have HH := Lib.hid hhe
      have hy := hadd.symm
      have B5 := Lib.hid (Blk.new wr 82 #[.string a.k, .string a.v, .bool a.d, .int .i64 a.s.c, .int .i64 a.s.s, .int .i64 a.a.c, .int .i64 a.a.s, .int .i64 a.p, .int .i64 a.g])
      clear ha hc hs hxe hye hhe hy
      go_wp2_with (first
        | (refine wpl_load rfl 82 _ rfl wr.heap.size rfl 82 #[.string a.k, .string a.v, .bool a.d, .int .i64 a.s.c, .int .i64 a.s.s, .int .i64 a.a.c, .int .i64 a.a.s, .int .i64 a.p, .int .i64 a.g] _ B5.out Tryz.underlying82 rfl (by kernel_rfl) ?_)
        | (go_at_call 104; refine (sm_hash a _).mono ?_; rw [HH.out]; rintro E w5 ⟨rfl, o5⟩; have O5 := Lib.hid ((HW.out.alloc _).trans o5); clear o5))
      go_roundw
      case rel => exact ⟨k + 1, by omega, by go_num, by rw [HY.out], O5.out⟩
      case measure => simp [intOf]; omega
    · obtain rfl : k = L := by omega
      have HT : Hid (l.take k = l) := by rw [Hid, HL.out, List.take_length]
      rw [HT.out]
      go_wp2_with fail
      go_ret
      exact ⟨rfl, HW.out⟩
end Go.Proofs.YtoohpcomnhfgpaaGreat
end
section
namespace Go.Proofs.YtoohpcomnhfgpaaGreat
open Go.Joins Go.ChangeShapes Go.WideShapes Go.RowKit Go.Deep
set_option maxRecDepth 100000
set_option linter.all false
theorem opts_arg {H : Type} {enc : TypeId × Value → H} {W : World} {cs : Array Value} {d : DataW H} {p : List MemPlace} (hs : cs.size = Tryz.prog.cellsOf 23) (h : DataW.Trod enc Tryz.prog W 0 (fun _ => true) true 23 (.agg cs) d p) :
    ∃ o : Ro, cs = #[.int .i64 o.n, .int .i64 o.q, .int .i64 o.r, .int .i64 o.t1, .int .i64 o.t2] := by
  have c5 : Tryz.prog.cellsOf 23 = 5 := by kernel_rfl
  have c1 : Tryz.prog.cellsOf 3 = 1 := by kernel_rfl
  rw [c5] at hs
  obtain ⟨fuel, hf⟩ := h
  obtain ⟨xs, n, _, _, _, hlen, hfx⟩ := DataW.trod_struct Tryz.underlying23 hf
  obtain ⟨l⟩ := cs
  match l, hs with
  | [e0, e1, e2, e3, e4], _ =>
    match xs, hlen with
    | [y0, y1, y2, y3, y4], _ =>
      have g0 := hfx 0 _ rfl
      have g1 := hfx 1 _ rfl
      have g2 := hfx 2 _ rfl
      have g3 := hfx 3 _ rfl
      have g4 := hfx 4 _ rfl
      simp [Value.cells, c1] at g0 g1 g2 g3 g4
      obtain ⟨n0, r0, _, _⟩ := DataW.trod_int Tryz.underlying3 g0
      obtain ⟨n1, r1, _, _⟩ := DataW.trod_int Tryz.underlying3 g1
      obtain ⟨n2, r2, _, _⟩ := DataW.trod_int Tryz.underlying3 g2
      obtain ⟨n3, r3, _, _⟩ := DataW.trod_int Tryz.underlying3 g3
      obtain ⟨n4, r4, _, _⟩ := DataW.trod_int Tryz.underlying3 g4
      simp only [List.cons.injEq, and_true] at r0 r1 r2 r3 r4
      subst r0 r1 r2 r3 r4
      exact ⟨⟨n0, n1, n2, n3, n4⟩, rfl⟩
end Go.Proofs.YtoohpcomnhfgpaaGreat
end
section
namespace Go.Proofs.YtoohpcomnhfgpaaGreat
open Go.Joins Go.ChangeShapes Go.WideShapes Go.RowKit Go.Deep
set_option maxRecDepth 100000
set_option linter.all false
theorem trod_struct4r {H : Type} {enc : TypeId × Value → H} {P : Program} {w : World} {base : Nat} {spare : Nat → Bool} {held : Bool} {t : TypeId} {f0 f1 f2 f3 : Field} {fuel : Nat} {cs : List Value} {x : DataW H × List MemPlace} (ht : P.underlying t = some (.struct #[f0, f1, f2, f3])) (h : DataW.trod enc P w base spare held fuel t cs = some x) :
    ∃ y0 y1 y2 y3 n, DataW.trod enc P w base spare held n f0.type ((cs.drop f0.offset).take (P.cellsOf f0.type)) = some y0 ∧ DataW.trod enc P w base spare held n f1.type ((cs.drop f1.offset).take (P.cellsOf f1.type)) = some y1 ∧ DataW.trod enc P w base spare held n f2.type ((cs.drop f2.offset).take (P.cellsOf f2.type)) = some y2 ∧ DataW.trod enc P w base spare held n f3.type ((cs.drop f3.offset).take (P.cellsOf f3.type)) = some y3 := by
  obtain ⟨xs, n, _, _, _, hlen, hf⟩ := DataW.trod_struct ht h
  match xs, hlen with
  | [y0, y1, y2, y3], _ => exact ⟨y0, y1, y2, y3, n, by simpa using hf 0 f0 rfl, by simpa using hf 1 f1 rfl, by simpa using hf 2 f2 rfl, by simpa using hf 3 f3 rfl⟩
theorem pa_cells {H : Type} {enc : TypeId × Value → H} {W : World} (n : Nat) (r : List Value) (y : DataW H × List MemPlace) (hr : r.length = 12) (h : DataW.trod enc Tryz.prog W 0 (fun _ => true) true n 52 r = some y) :
    ∃ x : Pa, r = paRow x ∧ True := by
  obtain ⟨y0, y1, y2, y3, n, g0, g1, g2, g3⟩ := trod_struct4r Tryz.underlying52 h
  match r, hr with
  | [c0, c1, c2, c3, c4, c5, c6, c7, c8, c9, c10, c11], _ =>
    have e1 : Tryz.prog.cellsOf 3 = 1 := by kernel_rfl
    have e2 : Tryz.prog.cellsOf 9 = 1 := by kernel_rfl
    have e9 : Tryz.prog.cellsOf 50 = 9 := by kernel_rfl
    simp only [e1, e2, e9, List.drop_zero, List.drop_succ_cons, List.take_succ_cons, List.take_zero] at g0 g1 g2 g3
    obtain ⟨k, q0, _, _⟩ := DataW.trod_int Tryz.underlying3 g0
    obtain ⟨s1, q1, _, _⟩ := DataW.trod_string Tryz.underlying9 g1
    obtain ⟨s2, q2, _, _⟩ := DataW.trod_string Tryz.underlying9 g2
    obtain ⟨a, q3, _⟩ := en_cells n _ _ rfl g3
    refine ⟨⟨k, s1, s2, a⟩, ?_, trivial⟩
    simp only [List.cons.injEq, and_true] at q0 q1 q2
    rw [paRow, ← q3, ← q0, ← q1, ← q2]
theorem pacts_arg {H : Type} {enc : TypeId × Value → H} {W : World} {a : Option Addr} {len cap : Nat} {d : DataW H} {p : List MemPlace} (h : DataW.Trod enc Tryz.prog W 0 (fun _ => true) true 24 (.slice a len cap) d p) :
    ∃ l : List Pa, len = l.length ∧ Cel W (fun b => b < W.heap.size) (.slice a len cap) len 12 (l.flatMap paRow) := by
  obtain ⟨l, h1, h2, _⟩ := cel_in paRow _ Tryz.underlying24 (by kernel_rfl) paRow_length (by omega) (fun n r y hr ht => pa_cells n r y hr ht) h
  exact ⟨l, h1, h2⟩
end Go.Proofs.YtoohpcomnhfgpaaGreat
end
