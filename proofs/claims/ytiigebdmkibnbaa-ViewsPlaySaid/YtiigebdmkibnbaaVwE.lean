/- What the methods of Views that ask do; Raise, Lower, Learn. No statement of the seat is proved here. -/
import Derived.Test.YtiigebdmkibnbaaVwD
import Derived.Test.YtiigebdmkibnbaaVwN
namespace Go.Proofs.Ytiigebdmkibnbaa
open Go.RowKit
set_option maxRecDepth 100000
set_option linter.all false

/-- The cells of views. -/
@[reducible] def vcs (s : Vm) (vA vP : Value) : Array Value := #[.int .i64 s.self, vA, .int .i64 s.a, vP, .int .i64 s.p]
/-- Views lie in block d, dice in block dd. -/
structure Vs (w : World) (B d : Nat) (s : Vm) (vA vP : Value) (dd : Nat) (vd : Value) (zs : List Int) : Prop where
  bk : Blk w d 52 (vcs s vA vP)
  oa : w.ownsRow B 3 1 vA s.act.length (nums s.act)
  op : w.ownsRow B 3 1 vP s.pas.length (nums s.pas)
  dc : Dc w B dd vd zs
  ok : Vok s
  dj : ∀ k, vA.ownBlock = some k → vP.ownBlock ≠ some k
  da : ∀ k, vA.ownBlock = some k → vd.ownBlock ≠ some k
  dp : ∀ k, vP.ownBlock = some k → vd.ownBlock ≠ some k
  ge : B ≤ d
/-- What calls may change. -/
def vsb (d : Nat) (vA vP : Value) (dd : Nat) (vd : Value) : Nat → Prop := fun k => k = d ∨ vA.ownBlock = some k ∨ vP.ownBlock = some k ∨ dcb dd vd k
section
variable {w w' : World} {S : Nat → Prop} {B d : Nat} {s : Vm} {vA vP : Value} {dd : Nat} {vd : Value} {zs : List Int}
theorem Vs.only (h : Vs w B d s vA vP dd vd zs) (o : Only S w w') (hn : ∀ k, vsb d vA vP dd vd k → ¬ S k) : Vs w' B d s vA vP dd vd zs :=
  ⟨h.bk.only o (hn d (.inl rfl)), owns_only h.oa o (fun g hg => hn g (.inr (.inl hg))), owns_only h.op o (fun g hg => hn g (.inr (.inr (.inl hg)))), h.dc.only o (fun k hk => hn k (.inr (.inr (.inr hk)))), h.ok, h.dj, h.da, h.dp, h.ge⟩
theorem Vs.keep (h : Vs w B d s vA vP dd vd zs) (o : Only none_ w w') : Vs w' B d s vA vP dd vd zs := h.only o (fun _ _ e => e)
theorem Vs.nwA (h : Vs w B d s vA vP dd vd zs) : Nw w B d 1 (vcs s vA vP) vA s.act s.a := ⟨h.bk, rfl, rfl, h.oa, h.ok.ua⟩
theorem Vs.nwP (h : Vs w B d s vA vP dd vd zs) : Nw w B d 3 (vcs s vA vP) vP s.pas s.p := ⟨h.bk, rfl, rfl, h.op, h.ok.up⟩
theorem Vs.foot (h : Vs w B d s vA vP dd vd zs) {k : Nat} (hk : vsb d vA vP dd vd k) : B ≤ k ∧ k < w.heap.size := by
  rcases hk with rfl | hk | hk | hk
  · exact ⟨h.ge, h.bk.lt⟩
  · exact h.oa.lt k hk
  · exact h.op.lt k hk
  · exact h.dc.foot hk
/-- A block of another type is none of these. -/
theorem Vs.far (h : Vs w B d s vA vP dd vd zs) {g : Nat} {t : TypeId} {cs : Array Value} (hg : Blk w g t cs) (h1 : t ≠ 52) (h2 : t ≠ 3) (h3 : t ≠ 54) : ¬ vsb d vA vP dd vd g := by
  rintro (e | e | e | e | e)
  · exact Blk.ne_ hg h.bk h1 e
  · exact own_blk_ne h.oa hg (Ne.symm h2) e
  · exact own_blk_ne h.op hg (Ne.symm h2) e
  · exact Blk.ne_ hg h.dc.bk h3 e
  · exact h.dc.nn.blk_ne hg (Ne.symm h2) e
end
/-- What an act leaves. -/
def VsR (B d : Nat) (vA vP : Value) (dd : Nat) (vd : Value) (s' : Vm) (zs' : List Int) (w w' : World) : Prop :=
  ∃ vA' vP' vd', Vs w' B d s' vA' vP' dd vd' zs' ∧ Only (vsb d vA vP dd vd) w w' ∧ ∀ k, vsb d vA' vP' dd vd' k → vsb d vA vP dd vd k ∨ w.heap.size ≤ k

set_option maxHeartbeats 1600000 in
theorem vs_isA (B d : Nat) (s : Vm) (vA vP : Value) (dd : Nat) (vd : Value) (zs : List Int) (p : Int) (w : World) (h : Vs w B d s vA vP dd vd zs) :
    Calls Try.prog 14 #[.pointer (some ⟨d, 0, none⟩), .int .i64 p] w fun e w' => e = .returned (.bool (decide (p ∈ s.act))) ∧ Only none_ w w' := by
  have HH := Lib.hid (vw_has B d 1 _ vA s.act s.a p w h.nwA)
  generalize decide (p ∈ s.act) = b at HH ⊢
  clear h
  go_enter Try.func14, Try.ntmps14
  go_wp2_with (first
    | (go_at_call 34; refine HH.out.mono ?_; rintro E w1 ⟨rfl, o1⟩; have O1 := Lib.hid o1; clear o1))
  go_ret
  exact ⟨rfl, O1.out⟩
set_option maxHeartbeats 1600000 in
theorem vs_isP (B d : Nat) (s : Vm) (vA vP : Value) (dd : Nat) (vd : Value) (zs : List Int) (p : Int) (w : World) (h : Vs w B d s vA vP dd vd zs) :
    Calls Try.prog 15 #[.pointer (some ⟨d, 0, none⟩), .int .i64 p] w fun e w' => e = .returned (.bool (decide (p ∈ s.pas))) ∧ Only none_ w w' := by
  have HH := Lib.hid (vw_has B d 3 _ vP s.pas s.p p w h.nwP)
  generalize decide (p ∈ s.pas) = b at HH ⊢
  clear h
  go_enter Try.func15, Try.ntmps15
  go_wp2_with (first
    | (go_at_call 34; refine HH.out.mono ?_; rintro E w1 ⟨rfl, o1⟩; have O1 := Lib.hid o1; clear o1))
  go_ret
  exact ⟨rfl, O1.out⟩
set_option maxHeartbeats 1600000 in
theorem vs_full (B d : Nat) (s : Vm) (vA vP : Value) (dd : Nat) (vd : Value) (zs : List Int) (w : World) (h : Vs w B d s vA vP dd vd zs) :
    Calls Try.prog 22 #[.pointer (some ⟨d, 0, none⟩)] w fun e w' => e = .returned (.bool (decide (s.act.length = s.a))) ∧ Only none_ w w' := by
  have HH := Lib.hid (vw_full B d 1 _ vA s.act s.a w h.nwA)
  generalize decide (s.act.length = s.a) = b at HH ⊢
  clear h
  go_enter Try.func22, Try.ntmps22
  go_wp2_with (first
    | (go_at_call 41; refine HH.out.mono ?_; rintro E w1 ⟨rfl, o1⟩; have O1 := Lib.hid o1; clear o1))
  go_ret
  exact ⟨rfl, O1.out⟩
set_option maxHeartbeats 1600000 in
theorem vs_active (B d : Nat) (s : Vm) (vA vP : Value) (dd : Nat) (vd : Value) (zs : List Int) (w : World) (h : Vs w B d s vA vP dd vd zs) :
    Calls Try.prog 20 #[.pointer (some ⟨d, 0, none⟩)] w fun e w' => ∃ v', e = .returned v' ∧ w'.ownsRow w.heap.size 3 1 v' s.act.length (nums s.act) ∧ Only none_ w w' := by
  have c1 := h.bk.cell_ (i := 1) rfl
  have hl := rl_le h.ok.ua
  obtain ⟨A, c, e⟩ := h.nwA.nm.shape
  have hc := h.nwA.nm
  subst e
  have HC := Lib.hid (cloZ A _ c _ s.act w hc (by omega))
  generalize s.act.length = L at c1 HC ⊢
  clear h hl hc
  go_enter Try.func20, Try.ntmps20
  go_wp2_with (first
    | (go_at_call 40; refine HC.out.mono ?_; rintro E w1 ⟨v1, rfl, n1, o1⟩; obtain ⟨A1, m1, c1, e1⟩ := own_sl n1; subst e1; have O1 := Lib.hid n1; have O2 := Lib.hid o1; clear o1 n1))
  go_ret
  exact ⟨_, rfl, O1.out, O2.out⟩
set_option maxHeartbeats 1600000 in
theorem vs_passive (B d : Nat) (s : Vm) (vA vP : Value) (dd : Nat) (vd : Value) (zs : List Int) (w : World) (h : Vs w B d s vA vP dd vd zs) :
    Calls Try.prog 21 #[.pointer (some ⟨d, 0, none⟩)] w fun e w' => ∃ v', e = .returned v' ∧ w'.ownsRow w.heap.size 3 1 v' s.pas.length (nums s.pas) ∧ Only none_ w w' := by
  have c1 := h.bk.cell_ (i := 3) rfl
  have hl := rl_le h.ok.up
  obtain ⟨A, c, e⟩ := h.nwP.nm.shape
  have hc := h.nwP.nm
  subst e
  have HC := Lib.hid (cloZ A _ c _ s.pas w hc (by omega))
  generalize s.pas.length = L at c1 HC ⊢
  clear h hl hc
  go_enter Try.func21, Try.ntmps21
  go_wp2_with (first
    | (go_at_call 40; refine HC.out.mono ?_; rintro E w1 ⟨v1, rfl, n1, o1⟩; obtain ⟨A1, m1, c1, e1⟩ := own_sl n1; subst e1; have O1 := Lib.hid n1; have O2 := Lib.hid o1; clear o1 n1))
  go_ret
  exact ⟨_, rfl, O1.out, O2.out⟩
set_option maxHeartbeats 1600000 in
theorem vw_site (p : Int) (w : World) :
    Calls Try.prog 23 #[.int .i64 p] w fun e w' => e = .returned (.bool (nodeB p)) ∧ w = w' := by
  by_cases h1 : 0 ≤ p
  · have e1 : decide (0 ≤ p) = true := by simpa using h1
    have e2 : nodeB p = decide (p < 12) := by simp [nodeB, h1]
    rw [e2]
    go_enter Try.func23, Try.ntmps23
    go_wp2_with fail
    go_ret
    exact ⟨rfl, rfl⟩
  · have e1 : decide (0 ≤ p) = false := by simpa using h1
    have e2 : nodeB p = false := by simp [nodeB, h1]
    rw [e2]
    go_enter Try.func23, Try.ntmps23
    go_wp2_with fail
    go_ret
    exact ⟨rfl, rfl⟩
set_option maxHeartbeats 1600000 in
theorem vs_other (B d : Nat) (s : Vm) (vA vP : Value) (dd : Nat) (vd : Value) (zs : List Int) (p : Int) (w : World) (h : Vs w B d s vA vP dd vd zs) :
    Calls Try.prog 35 #[.pointer (some ⟨d, 0, none⟩), .int .i64 p] w fun e w' => e = .returned (.bool (oth s p)) ∧ w = w' := by
  have c0 : w.cell? ⟨d, 0, none⟩ = some (.int .i64 s.self) := h.bk.cell_ (i := 0) rfl
  have HS := Lib.hid (vw_site p)
  have hu : oth s p = (nodeB p && decide (p ≠ s.self)) := rfl
  generalize s.self = q at c0 hu
  rw [hu]
  have hq : (!(p == q)) = decide (p ≠ q) := by by_cases e : p = q <;> simp [e]
  clear h hu
  cases hb : nodeB p with
  | true =>
    rw [Bool.true_and]
    rw [hb] at HS
    clear hb
    go_enter Try.func35, Try.ntmps35
    go_wp2_with (first
      | (go_at_call 23; refine (HS.out _).mono ?_; rintro E w1 ⟨rfl, rfl⟩))
    go_ret
    refine ⟨?_, rfl⟩
    by_cases e : p = q <;> simp [e]
  | false =>
    rw [Bool.false_and]
    rw [hb] at HS
    clear hb
    go_enter Try.func35, Try.ntmps35
    go_wp2_with (first
      | (go_at_call 23; refine (HS.out _).mono ?_; rintro E w1 ⟨rfl, rfl⟩))
    go_ret
    exact ⟨rfl, rfl⟩
set_option maxHeartbeats 1600000 in
theorem vs_self (B d : Nat) (s : Vm) (vA vP : Value) (dd : Nat) (vd : Value) (zs : List Int) (w : World) (h : Vs w B d s vA vP dd vd zs) :
    Calls Try.prog 33 #[.pointer (some ⟨d, 0, none⟩)] w fun e w' => e = .returned (.int .i64 s.self) ∧ w = w' := by
  have c0 : w.cell? ⟨d, 0, none⟩ = some (.int .i64 s.self) := h.bk.cell_ (i := 0) rfl
  generalize s.self = q at c0 ⊢
  clear h
  go_enter Try.func33, Try.ntmps33
  go_wp2_with fail
  go_ret
  exact ⟨rfl, rfl⟩
end Go.Proofs.Ytiigebdmkibnbaa
