/- What the calls of a disk's power do. No statement of the seat is proved here. -/
import Derived.Test.YtbhdnhnkiibaaaaDkA
namespace Go.Proofs.Ytbhdnhnkiibaaaa
open Go.RowKit
set_option maxRecDepth 100000

theorem power_on (B : World) (g : Nat) (d : Dv) (v : Value) (w : World) (h : Dsk B g d v w) :
    Calls Try.prog 36 #[.pointer (some ⟨g, 0, none⟩)] w fun e w' => e = .returned (.bool d.on) ∧ w = w' := by
  have c0 := h.bk.cell_ (i := 0) rfl
  clear h
  go_enter Try.func36, Try.ntmps36
  go_wp2
  go_ret
  exact ⟨rfl, rfl⟩
theorem power_fuse (B : World) (g : Nat) (n : Int) (d : Dv) (v : Value) (w : World) (h : Dsk B g d v w) (hn : -9223372036854775808 ≤ n) (hh : n < 9223372036854775808) :
    Calls Try.prog 33 #[.pointer (some ⟨g, 0, none⟩), .int .i64 n] w fun e w' => e = .returned (.tuple #[]) ∧ Dsk B g { d with fuse := n } v w' ∧ Only (one g) w w' := by
  have c1 := h.bk.cell_ (i := 1) rfl
  have f1 := h.bk.frozen 1
  have H := Lib.hid h
  have HN := Lib.hid (And.intro hn hh)
  clear h hn hh
  go_enter Try.func33, Try.ntmps33
  go_wp2
  go_end0
  exact ⟨rfl, H.out.put 1 (.int .i64 n) { d with fuse := n } rfl rfl H.out.sl HN.out.1 HN.out.2, only_put g 1 _ w⟩

/-- What a change that may be made leaves of the power. -/
def burnt (d : Dv) : Dv := if d.fuse = 0 then { d with on := false } else if 0 < d.fuse then { d with fuse := d.fuse - 1 } else d
theorem burnt_bs (d : Dv) : (burnt d).bs = d.bs ∧ (burnt d).safe = d.safe := by unfold burnt; split <;> (try split) <;> exact ⟨rfl, rfl⟩
theorem power_burn (B : World) (g : Nat) (d : Dv) (v : Value) (w : World) (h : Dsk B g d v w) (hon : d.on = true) :
    Calls Try.prog 93 #[.pointer (some ⟨g, 0, none⟩)] w fun e w' => e = .returned (.bool (decide (d.fuse ≠ 0))) ∧ Dsk B g (burnt d) v w' ∧ Only (one g) w w' := by
  obtain ⟨on, fuse, bs, safe⟩ := d
  cases hon
  have c0 := h.bk.cell_ (i := 0) rfl
  have c1 := h.bk.cell_ (i := 1) rfl
  have f0 := h.bk.frozen 0
  have f1 := h.bk.frozen 1
  have H := Lib.hid h
  have hl := h.fl
  have hh := h.fh
  dsimp only at c0 c1 hl hh
  clear h
  have W1 : IntKind.i64.wrap (fuse - 1) = fuse - 1 ∨ fuse = -9223372036854775808 := by
    by_cases e : fuse = -9223372036854775808
    · exact .inr e
    · exact .inl (IntWalk.i64_in _ (by omega))
  rcases Int.lt_trichotomy fuse 0 with hz | rfl | hz
  · go_enter Try.func93, Try.ntmps93
    go_wp2
    go_ret
    refine ⟨by simp; omega, ?_, Only.refl _ _⟩
    have : burnt ⟨true, fuse, bs, safe⟩ = ⟨true, fuse, bs, safe⟩ := by
      unfold burnt; rw [if_neg (by show ¬ fuse = 0; omega), if_neg (by show ¬ 0 < fuse; omega)]
    rw [this]; exact H.out
  · go_enter Try.func93, Try.ntmps93
    go_wp2
    go_ret
    exact ⟨rfl, H.out.put 0 (.bool false) ⟨false, 0, bs, safe⟩ rfl rfl H.out.sl (by show _ ≤ (0 : Int); decide) (by show (0 : Int) < _; decide), only_put g 0 _ w⟩
  · have W2 := W1.resolve_right (by omega)
    clear W1
    go_enter Try.func93, Try.ntmps93
    go_wp2
    go_ret
    refine ⟨by simp; omega, ?_, only_put g 1 _ w⟩
    have e : burnt ⟨true, fuse, bs, safe⟩ = ⟨true, fuse - 1, bs, safe⟩ := by
      unfold burnt; rw [if_neg (by show ¬ fuse = 0; omega), if_pos (by show 0 < fuse; omega)]
    rw [e]
    exact H.out.put 1 (.int .i64 (fuse - 1)) ⟨true, fuse - 1, bs, safe⟩ rfl rfl H.out.sl (by show _ ≤ fuse - 1; omega) (by show fuse - 1 < _; omega)
/-- What a change tells, and what it leaves; d' is what its deed makes of it. -/
def chCode (d : Dv) (fault : Int) : Int := if d.on = false then 11 else if fault ≠ 0 then fault else if d.fuse = 0 then 11 else 0
def chD (d : Dv) (fault : Int) (d' : Dv) : Dv := if d.on = false then d else if fault ≠ 0 then d else if d.fuse = 0 then { d with on := false } else d'
/-- What a call that works on a disk may leave. -/
def Left_ (B : World) (g : Nat) (v : Value) (w : World) (d' : Dv) (w' : World) : Prop := ∃ v', Dsk B g d' v' w' ∧ Only (foot g v) w w' ∧ Moved w v v'
theorem Left_.same {B w : World} {g : Nat} {d : Dv} {v : Value} (h : Dsk B g d v w) : Left_ B g v w d w := ⟨v, h, Only.refl _ _, Moved.refl _ _⟩
theorem Left_.one_ {B w w' : World} {g : Nat} {d : Dv} {v : Value} (h : Dsk B g d v w') (o : Only (one g) w w') : Left_ B g v w d w' := ⟨v, h, only_foot o, Moved.refl _ _⟩
theorem Left_.after {B w w1 w' : World} {g : Nat} {d : Dv} {v : Value} (o : Only (one g) w w1) (l : Left_ B g v w1 d w') : Left_ B g v w d w' := by
  obtain ⟨v', h, o', m⟩ := l
  exact ⟨v', h, (only_foot o).trans o', fun k hk => (m k hk).imp id (fun h => Nat.le_trans o.size h)⟩
theorem Left_.after0 {B w w1 w' : World} {g : Nat} {d : Dv} {v : Value} (o : Only none_ w w1) (l : Left_ B g v w1 d w') : Left_ B g v w d w' := Left_.after (o.mono fun _ _ x => x.elim) l
theorem enters_ {P : Program} {f : FuncId} {fn : Func} {c : Code} (hf : P.funcs[f]? = some fn) (hname : (fn.name == "runtime.NumGoroutine") = false) (hb : fn.body = some c) (args : Array Value) (w : World) :
    (callFunc f args).run P w = .ok (.enter f args) w := by
  have h1 : fn.name ≠ "runtime.NumGoroutine" := by simpa using hname
  simp [callFunc, hf, h1, hb]
theorem power_change (B : World) (g : Nat) (d d' : Dv) (fault : Int) (v : Value) (F : FuncId) (cap : Array Value) (w : World) (h : Dsk B g d v w) (hr : ∀ w1, (callFunc F cap).run Try.prog w1 = .ok (.enter F cap) w1)
    (hc : fault = 0 → ∀ w1, Dsk B g (burnt d) v w1 → Only (one g) w w1 → Calls Try.prog F cap w1 fun e w' => e = .returned (.tuple #[]) ∧ Left_ B g v w1 d' w') :
    Calls Try.prog 78 #[.pointer (some ⟨g, 0, none⟩), .int .i64 fault, .func (.func F) #[] cap] w fun e w' => e = .returned (.int .i64 (chCode d fault)) ∧ Left_ B g v w (chD d fault d') w' := by
  have c0 := h.bk.cell_ (i := 0) rfl
  have H := Lib.hid h
  by_cases hon : d.on = false
  · rw [hon] at c0
    have e1 : Hid (chCode d fault = 11) := by rw [Hid, chCode, if_pos hon]
    have e2 : Hid (chD d fault d' = d) := by rw [Hid, chD, if_pos hon]
    clear h hc hon
    go_enter Try.func78, Try.ntmps78
    go_wp2
    go_ret
    rw [e1.out, e2.out]
    exact ⟨rfl, Left_.same H.out⟩
  · have hon1 : d.on = true := by cases hd : d.on <;> simp_all
    rw [hon1] at c0
    by_cases hf : fault = 0
    · subst hf
      have hc := hc rfl
      by_cases hz : d.fuse = 0
      · have e1 : Hid (chCode d 0 = 11) := by simp [Hid, chCode, hon1, hz]
        have e2 : Hid (chD d 0 d' = { d with on := false }) := by simp [Hid, chD, hon1, hz]
        have C := power_burn B g d v w h hon1
        have e3 : Hid (burnt d = { d with on := false }) := by simp [Hid, burnt, hz]
        rw [show decide (d.fuse ≠ 0) = false by simp [hz]] at C
        clear h hc hon hon1 hz
        go_enter Try.func78, Try.ntmps78
        go_wp2_with (go_at_call 93; refine C.mono ?_; rintro e w1 ⟨rfl, h1, o1⟩)
        go_ret
        rw [e1.out, e2.out, ← e3.out]
        exact ⟨rfl, Left_.one_ h1 o1⟩
      · have e1 : Hid (chCode d 0 = 0) := by simp [Hid, chCode, hon1, hz]
        have e2 : Hid (chD d 0 d' = d') := by simp [Hid, chD, hon1, hz]
        have C := power_burn B g d v w h hon1
        rw [show decide (d.fuse ≠ 0) = true by simp [hz]] at C
        have HC := Lib.hid hc
        clear h hc hon hon1 hz
        have tok : True := trivial
        go_enter Try.func78, Try.ntmps78
        go_wp2_with (first
          | (go_at_call 93; have _t := tok; clear tok; refine C.mono ?_; rintro e w1 ⟨rfl, h1, o1⟩)
          | (refine (HC.out w1 h1 o1).mono ?_; rintro e w2 ⟨rfl, l2⟩))
        go_ret
        rw [e1.out, e2.out]
        exact ⟨rfl, l2.after o1⟩
    · have e1 : Hid (chCode d fault = fault) := by simp [Hid, chCode, hon1, hf]
      have e2 : Hid (chD d fault d' = d) := by simp [Hid, chD, hon1, hf]
      clear h hc hon hon1
      go_enter Try.func78, Try.ntmps78
      go_wp2
      go_ret
      rw [e1.out, e2.out]
      exact ⟨rfl, Left_.same H.out⟩
end Go.Proofs.Ytbhdnhnkiibaaaa
