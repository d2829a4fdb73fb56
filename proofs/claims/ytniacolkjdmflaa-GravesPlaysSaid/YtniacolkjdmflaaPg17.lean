/- Texts of mine, one behind the other: GvE, GvF, EnC, GvG. No statement of the seat is proved here. -/
import Derived.Test.YtniacolkjdmflaaPg14
import Derived.Test.YtniacolkjdmflaaPg15
import Derived.Test.YtniacolkjdmflaaPg16
import Derived.Deep.DeepCutAuto
section
namespace Go.Proofs.Ytniacolkjdmflaa
open Go.RowKit
set_option maxRecDepth 100000
set_option linter.all false

def gvJoin (was e : En) : En := if stLater e.s was.s = true then e else if stEq was.s e.s = true then gvTurn was e else was
theorem gvTurn_is (was e : En) : gvTurn was e = { was with a := stLatest [was.a, e.a], g := min was.g e.g } := by
  have h1 : stLatest [was.a, e.a] = if stLater e.a was.a = true then e.a else was.a := by
    show stMax was.a e.a = _
    unfold stMax
    by_cases h : stLater e.a was.a = true
    · rw [if_pos h, if_pos ((stCmp_pos _ _).2 h)]
    · rw [if_neg h, if_neg (fun h2 => h ((stCmp_pos _ _).1 h2))]
  have h2 : min was.g e.g = if e.g < was.g then e.g else was.g := by
    split <;> omega
  rw [h1, h2]
  rfl

/-- The three variables of joined: the grave, what comes, what is told. -/
structure Jv (B : World) (b : Nat) (was e r : En) (w : World) : Prop where
  x : Blk w b 51 #[.string was.k, .string was.v, .bool was.d, .int .i64 was.s.c, .int .i64 was.s.s, .int .i64 was.a.c, .int .i64 was.a.s, .int .i64 was.p, .int .i64 was.g]
  y : Blk w (b + 1) 51 #[.string e.k, .string e.v, .bool e.d, .int .i64 e.s.c, .int .i64 e.s.s, .int .i64 e.a.c, .int .i64 e.a.s, .int .i64 e.p, .int .i64 e.g]
  z : Blk w (b + 1 + 1) 51 #[.string r.k, .string r.v, .bool r.d, .int .i64 r.s.c, .int .i64 r.s.s, .int .i64 r.a.c, .int .i64 r.a.s, .int .i64 r.p, .int .i64 r.g]
  ho : Only none_ B w
  ge : B.heap.size ≤ b
theorem Jv.keep {B w w' : World} {b : Nat} {was e r : En} (h : Jv B b was e r w) (o : Only none_ w w') : Jv B b was e r w' := ⟨h.x.only o (fun h => h), h.y.only o (fun h => h), h.z.only o (fun h => h), h.ho.trans o, h.ge⟩

set_option maxHeartbeats 6400000 in
theorem gv_joined (was e : En) (w : World) :
    Calls Try.prog 52 #[.agg #[.string was.k, .string was.v, .bool was.d, .int .i64 was.s.c, .int .i64 was.s.s, .int .i64 was.a.c, .int .i64 was.a.s, .int .i64 was.p, .int .i64 was.g], .agg #[.string e.k, .string e.v, .bool e.d, .int .i64 e.s.c, .int .i64 e.s.s, .int .i64 e.a.c, .int .i64 e.a.s, .int .i64 e.p, .int .i64 e.g]] w fun E w' => E = .returned (.agg #[.string (gvJoin was e).k, .string (gvJoin was e).v, .bool (gvJoin was e).d, .int .i64 (gvJoin was e).s.c, .int .i64 (gvJoin was e).s.s, .int .i64 (gvJoin was e).a.c, .int .i64 (gvJoin was e).a.s, .int .i64 (gvJoin was e).p, .int .i64 (gvJoin was e).g]) ∧ Only none_ w w' := by
  have J0 : Jv w w.heap.size was e enZero (((w.alloc (.cells #[.string was.k, .string was.v, .bool was.d, .int .i64 was.s.c, .int .i64 was.s.s, .int .i64 was.a.c, .int .i64 was.a.s, .int .i64 was.p, .int .i64 was.g] 51)).alloc (.cells #[.string e.k, .string e.v, .bool e.d, .int .i64 e.s.c, .int .i64 e.s.s, .int .i64 e.a.c, .int .i64 e.a.s, .int .i64 e.p, .int .i64 e.g] 51)).alloc (.cells #[.string ⟨#[]⟩, .string ⟨#[]⟩, .bool false, .int .i64 0, .int .i64 0, .int .i64 0, .int .i64 0, .int .i64 0, .int .i64 0] 51)) := by
    refine ⟨((Blk.new w _ _).alloc _).alloc _, ?_, ?_, (((Only.refl none_ w).alloc _).alloc _).alloc _, Nat.le_refl _⟩
    · have := (Blk.new (w.alloc (.cells #[.string was.k, .string was.v, .bool was.d, .int .i64 was.s.c, .int .i64 was.s.s, .int .i64 was.a.c, .int .i64 was.a.s, .int .i64 was.p, .int .i64 was.g] 51)) 51 #[.string e.k, .string e.v, .bool e.d, .int .i64 e.s.c, .int .i64 e.s.s, .int .i64 e.a.c, .int .i64 e.a.s, .int .i64 e.p, .int .i64 e.g]).alloc (.cells #[.string ⟨#[]⟩, .string ⟨#[]⟩, .bool false, .int .i64 0, .int .i64 0, .int .i64 0, .int .i64 0, .int .i64 0, .int .i64 0] 51)
      rwa [World.size_alloc] at this
    · have := Blk.new ((w.alloc (.cells #[.string was.k, .string was.v, .bool was.d, .int .i64 was.s.c, .int .i64 was.s.s, .int .i64 was.a.c, .int .i64 was.a.s, .int .i64 was.p, .int .i64 was.g] 51)).alloc (.cells #[.string e.k, .string e.v, .bool e.d, .int .i64 e.s.c, .int .i64 e.s.s, .int .i64 e.a.c, .int .i64 e.a.s, .int .i64 e.p, .int .i64 e.g] 51)) 51 #[.string ⟨#[]⟩, .string ⟨#[]⟩, .bool false, .int .i64 0, .int .i64 0, .int .i64 0, .int .i64 0, .int .i64 0, .int .i64 0]
      rwa [World.size_alloc, World.size_alloc] at this
  obtain ⟨y0, y1, y2, y3, y4, y5, y6, y7, y8⟩ := nine_of J0.y
  obtain ⟨x0, x1, x2, x3, x4, x5, x6, x7, x8⟩ := nine_of J0.x
  have HJ0 := Lib.hid J0
  have HC := Lib.hid (st_compare e.s.c e.s.s was.s.c was.s.s)
  have hcs : stCmp ⟨e.s.c, e.s.s⟩ ⟨was.s.c, was.s.s⟩ = stCmp e.s was.s := rfl
  rw [hcs] at HC
  clear hcs J0
  by_cases h1 : stLater e.s was.s = true
  · have hr : gvJoin was e = e := by rw [gvJoin, if_pos h1]
    rw [hr]
    have hp := (stCmp_pos _ _).2 h1
    generalize stCmp e.s was.s = z at hp HC
    clear h1 hr
    go_enter Try.func52, Try.ntmps52
    go_wp2_with (first
      | (go_at_call 57; refine (HC.out _).mono ?_; rintro E w1 ⟨rfl, o1⟩
         have J1 := Lib.hid (HJ0.out.keep o1)
         clear o1)
      | (refine wpl_load rfl 51 _ rfl (w.heap.size + 1) rfl _ #[.string e.k, .string e.v, .bool e.d, .int .i64 e.s.c, .int .i64 e.s.s, .int .i64 e.a.c, .int .i64 e.a.s, .int .i64 e.p, .int .i64 e.g] _ J1.out.y Try.underlying51 rfl (by kernel_rfl) ?_)
      | (refine wpList_store_row rfl 51 _ _ rfl (w.heap.size + 1 + 1) #[.string e.k, .string e.v, .bool e.d, .int .i64 e.s.c, .int .i64 e.s.s, .int .i64 e.a.c, .int .i64 e.a.s, .int .i64 e.p, .int .i64 e.g] rfl rfl _ _ J1.out.z (by kernel_rfl) rfl (en_cells_one e) ?_))
    refine bodyPost_ret (results_cell_row rfl _ _ (w.heap.size + 1 + 1) 51 #[.string e.k, .string e.v, .bool e.d, .int .i64 e.s.c, .int .i64 e.s.s, .int .i64 e.a.c, .int .i64 e.a.s, .int .i64 e.p, .int .i64 e.g] (0, 0) _ rfl (J1.out.z.setRow _) Try.underlying51 rfl (by kernel_rfl)) rfl ?_
    exact ⟨rfl, J1.out.ho.setRow (.inr (by omega)) _⟩
  · by_cases h2 : stEq was.s e.s = true
    · have hr : gvJoin was e = gvTurn was e := by rw [gvJoin, if_neg h1, if_pos h2]
      rw [hr, gvTurn_is]
      have hp : stCmp e.s was.s = 0 := (stCmp_zero _ _).2 ((stEq_iff _ _).1 h2).symm
      obtain ⟨ac, hac⟩ : ∃ a, stLatest [was.a, e.a] = a := ⟨_, rfl⟩
      obtain ⟨mg, hmg⟩ : ∃ m, min was.g e.g = m := ⟨_, rfl⟩
      rw [hac, hmg]
      have hmn : ∀ ts t w, (Builtin.min_ ts t #[.int .i64 was.g, .int .i64 e.g]).run Try.prog w = .ok (.int .i64 mg) w := fun ts t w => by
        rw [run_min_int2, ← hmg]
        by_cases hk : e.g < was.g
        · rw [if_pos hk, Int.min_eq_right (by omega)]
        · rw [if_neg hk, Int.min_eq_left (by omega)]
      rw [hp] at HC
      have HLT := Lib.hid (fun (X : World) => st_latest [was.a, e.a] (.slice (some ⟨X.heap.size, 0, none⟩) 2 2) (fun b => b = X.heap.size) (X.alloc (.cells #[.int .i64 was.a.c, .int .i64 was.a.s, .int .i64 e.a.c, .int .i64 e.a.s] 49)) (cel_made X 49 2 2 #[.int .i64 was.a.c, .int .i64 was.a.s, .int .i64 e.a.c, .int .i64 e.a.s] rfl (by simp [maxLen])) (fun b hb => by subst hb; rw [World.size_alloc]; omega) (by simp))
      rw [hac] at HLT
      clear h1 h2 hr hp hac hmg
      go_enter Try.func52, Try.ntmps52
      go_wp2_with (first
        | (go_at_call 57; refine (HC.out _).mono ?_; rintro E w1 ⟨rfl, o1⟩
           have J1 := Lib.hid (HJ0.out.keep o1)
           obtain ⟨s0, s1, s2, s3, s4, s5, s6, s7, s8⟩ := nine_of J1.out.x
           obtain ⟨t0, t1, t2, t3, t4, t5, t6, t7, t8⟩ := nine_of J1.out.y
           clear o1)
        | (go_at_call 83; refine (HLT.out w1).mono ?_; rintro E w2 ⟨rfl, o2⟩
           have J2 := Lib.hid (J1.out.keep (((Only.refl none_ w1).alloc _).trans o2))
           have J3 : Hid (Jv w w.heap.size { was with a := ac } e enZero (w2.setRow w.heap.size (putAt [.string was.k, .string was.v, .bool was.d, .int .i64 was.s.c, .int .i64 was.s.s, .int .i64 was.a.c, .int .i64 was.a.s, .int .i64 was.p, .int .i64 was.g] 5 [.int .i64 ac.c, .int .i64 ac.s]).toArray)) :=
             ⟨J2.out.x.setRow _, J2.out.y.setRow_far (by omega) _, J2.out.z.setRow_far (by omega) _, J2.out.ho.setRow (.inr (Nat.le_refl _)) _, J2.out.ge⟩
           have k8 := J3.out.x.cell_ (i := 8) rfl
           have f8 := J3.out.x.frozen 8
           have g8 := J3.out.y.cell_ (i := 8) rfl
           have J4 : Hid (Jv w w.heap.size { was with a := ac, g := mg } e enZero ((w2.setRow w.heap.size (putAt [.string was.k, .string was.v, .bool was.d, .int .i64 was.s.c, .int .i64 was.s.s, .int .i64 was.a.c, .int .i64 was.a.s, .int .i64 was.p, .int .i64 was.g] 5 [.int .i64 ac.c, .int .i64 ac.s]).toArray).setCell ⟨w.heap.size, 8, none⟩ (.int .i64 mg))) :=
             ⟨J3.out.x.set_ 8 _, J3.out.y.far (show w.heap.size + 1 ≠ w.heap.size by omega) _, J3.out.z.far (show w.heap.size + 1 + 1 ≠ w.heap.size by omega) _, J3.out.ho.setCell (p := ⟨w.heap.size, 8, none⟩) (.inr (Nat.le_refl _)) _, J3.out.ge⟩
           clear o2)
        | (refine wpl_store_part rfl 49 _ _ rfl w.heap.size 5 #[.int .i64 ac.c, .int .i64 ac.s] rfl rfl 51 [.string was.k, .string was.v, .bool was.d, .int .i64 was.s.c, .int .i64 was.s.s, .int .i64 was.a.c, .int .i64 was.a.s, .int .i64 was.p, .int .i64 was.g] J2.out.x (by kernel_rfl) (by simp) (by simp [Value.oneCell']) ?_)
        | (refine wpl_load rfl 51 _ rfl w.heap.size rfl _ #[.string ({ was with a := ac, g := mg } : En).k, .string ({ was with a := ac, g := mg } : En).v, .bool ({ was with a := ac, g := mg } : En).d, .int .i64 ({ was with a := ac, g := mg } : En).s.c, .int .i64 ({ was with a := ac, g := mg } : En).s.s, .int .i64 ({ was with a := ac, g := mg } : En).a.c, .int .i64 ({ was with a := ac, g := mg } : En).a.s, .int .i64 ({ was with a := ac, g := mg } : En).p, .int .i64 ({ was with a := ac, g := mg } : En).g] _ J4.out.x Try.underlying51 rfl (by kernel_rfl) ?_)
        | (refine wpList_store_row rfl 51 _ _ rfl (w.heap.size + 1 + 1) #[.string ({ was with a := ac, g := mg } : En).k, .string ({ was with a := ac, g := mg } : En).v, .bool ({ was with a := ac, g := mg } : En).d, .int .i64 ({ was with a := ac, g := mg } : En).s.c, .int .i64 ({ was with a := ac, g := mg } : En).s.s, .int .i64 ({ was with a := ac, g := mg } : En).a.c, .int .i64 ({ was with a := ac, g := mg } : En).a.s, .int .i64 ({ was with a := ac, g := mg } : En).p, .int .i64 ({ was with a := ac, g := mg } : En).g] rfl rfl _ _ J4.out.z (by kernel_rfl) rfl (en_cells_one _) ?_))
      refine bodyPost_ret (results_cell_row rfl _ _ (w.heap.size + 1 + 1) 51 #[.string ({ was with a := ac, g := mg } : En).k, .string ({ was with a := ac, g := mg } : En).v, .bool ({ was with a := ac, g := mg } : En).d, .int .i64 ({ was with a := ac, g := mg } : En).s.c, .int .i64 ({ was with a := ac, g := mg } : En).s.s, .int .i64 ({ was with a := ac, g := mg } : En).a.c, .int .i64 ({ was with a := ac, g := mg } : En).a.s, .int .i64 ({ was with a := ac, g := mg } : En).p, .int .i64 ({ was with a := ac, g := mg } : En).g] (0, 0) _ rfl (J4.out.z.setRow _) Try.underlying51 rfl (by kernel_rfl)) rfl ?_
      exact ⟨rfl, J4.out.ho.setRow (.inr (by omega)) _⟩
    · have hr : gvJoin was e = was := by rw [gvJoin, if_neg h1, if_neg h2]
      rw [hr]
      have hp1 : ¬ 0 < stCmp e.s was.s := fun h => h1 ((stCmp_pos _ _).1 h)
      have hp2 : stCmp e.s was.s ≠ 0 := fun h => h2 ((stEq_iff _ _).2 ((stCmp_zero _ _).1 h).symm)
      have hp : stCmp e.s was.s < 0 := by omega
      generalize stCmp e.s was.s = z at hp HC
      clear h1 h2 hr hp1 hp2
      go_enter Try.func52, Try.ntmps52
      go_wp2_with (first
        | (go_at_call 57; refine (HC.out _).mono ?_; rintro E w1 ⟨rfl, o1⟩
           have J1 := Lib.hid (HJ0.out.keep o1)
           have hz1 : ((z : Int) == 0) = false := by simp; omega
           have hz2 : ¬ (z = 0) := by omega
           have hz3 : ¬ (0 < z) := by omega
           clear o1)
        | (refine wpl_load rfl 51 _ rfl w.heap.size rfl _ #[.string was.k, .string was.v, .bool was.d, .int .i64 was.s.c, .int .i64 was.s.s, .int .i64 was.a.c, .int .i64 was.a.s, .int .i64 was.p, .int .i64 was.g] _ J1.out.x Try.underlying51 rfl (by kernel_rfl) ?_)
        | (refine wpList_store_row rfl 51 _ _ rfl (w.heap.size + 1 + 1) #[.string was.k, .string was.v, .bool was.d, .int .i64 was.s.c, .int .i64 was.s.s, .int .i64 was.a.c, .int .i64 was.a.s, .int .i64 was.p, .int .i64 was.g] rfl rfl _ _ J1.out.z (by kernel_rfl) rfl (en_cells_one was) ?_))
      refine bodyPost_ret (results_cell_row rfl _ _ (w.heap.size + 1 + 1) 51 #[.string was.k, .string was.v, .bool was.d, .int .i64 was.s.c, .int .i64 was.s.s, .int .i64 was.a.c, .int .i64 was.a.s, .int .i64 was.p, .int .i64 was.g] (0, 0) _ rfl (J1.out.z.setRow _) Try.underlying51 rfl (by kernel_rfl)) rfl ?_
      exact ⟨rfl, J1.out.ho.setRow (.inr (by omega)) _⟩
end Go.Proofs.Ytniacolkjdmflaa
end
section
namespace Go.Proofs.Ytniacolkjdmflaa
open Go.RowKit
set_option maxRecDepth 100000
set_option linter.all false

theorem hasE_look (l : List En) (k : ByteArray) : hasE l k = (lookE l k).isSome := by
  unfold hasE lookE
  rw [Bool.eq_iff_iff, List.any_eq_true, List.find?_isSome]
theorem overE_look (l : List En) (e : En) : overE l e = match lookE l e.k with | none => false | some was => stLater was.s e.s := rfl

/-- What behind the look at a key's grave is known: the grave in a variable of its own, whether there is one. -/
def Gk (wa : World) (e : En) (hs : Bool) (s5 s6 : Value) (w' : World) : Prop := ∃ b, s5 = .pointer (some ⟨b, 0, none⟩) ∧ s6 = .bool hs ∧ wa.heap.size ≤ b ∧ Blk w' b 51 #[.string e.k, .string e.v, .bool e.d, .int .i64 e.s.c, .int .i64 e.s.s, .int .i64 e.a.c, .int .i64 e.a.s, .int .i64 e.p, .int .i64 e.g] ∧ Only none_ wa w'
theorem Gk.of {wa w1 : World} {e x : En} {hs : Bool} {b : Nat} (o : Only none_ wa w1) (h : Blk w1 b 51 #[.string x.k, .string x.v, .bool x.d, .int .i64 x.s.c, .int .i64 x.s.s, .int .i64 x.a.c, .int .i64 x.a.s, .int .i64 x.p, .int .i64 x.g]) (hb : wa.heap.size ≤ b) : Gk wa e hs (.pointer (some ⟨b, 0, none⟩)) (.bool hs) (fill9 w1 b (.string e.k) (.string e.v) (.bool e.d) (.int .i64 e.s.c) (.int .i64 e.s.s) (.int .i64 e.a.c) (.int .i64 e.a.s) (.int .i64 e.p) (.int .i64 e.g)) :=
  ⟨b, rfl, rfl, hb, fill9_blk h _ _ _ _ _ _ _ _ _, fill9_only o (.inr hb) _ _ _ _ _ _ _ _ _⟩

set_option maxHeartbeats 6400000 in
theorem gv_over (B : World) (g tb : Nat) (site t2 : Int) (l : List En) (v : Value) (e : En) (w : World) (h : Gv B g tb site t2 l v w) :
    Calls Try.prog 23 #[.pointer (some ⟨g, 0, none⟩), .agg #[.string e.k, .string e.v, .bool e.d, .int .i64 e.s.c, .int .i64 e.s.s, .int .i64 e.a.c, .int .i64 e.a.s, .int .i64 e.p, .int .i64 e.g]] w fun E w' => E = .returned (.bool (overE l e)) ∧ Only none_ w w' := by
  have O0 := Lib.hid ((Only.refl none_ w).alloc (.cells #[.string e.k, .string e.v, .bool e.d, .int .i64 e.s.c, .int .i64 e.s.s, .int .i64 e.a.c, .int .i64 e.a.s, .int .i64 e.p, .int .i64 e.g] 51))
  have B0 := Lib.hid (Blk.new w 51 #[.string e.k, .string e.v, .bool e.d, .int .i64 e.s.c, .int .i64 e.s.s, .int .i64 e.a.c, .int .i64 e.a.s, .int .i64 e.p, .int .i64 e.g])
  obtain ⟨e', he'⟩ : ∃ x, (lookE l e.k).getD enZero = x := ⟨_, rfl⟩
  have HG := Lib.hid (fun (w' : World) (o : Only none_ (w.alloc (.cells #[.string e.k, .string e.v, .bool e.d, .int .i64 e.s.c, .int .i64 e.s.s, .int .i64 e.a.c, .int .i64 e.a.s, .int .i64 e.p, .int .i64 e.g] 51)) w') => sh_get B g tb l v e.k e' he' w' ((h.keep (O0.out.trans o)).sh) ((h.keep (O0.out.trans o)).t))
  obtain ⟨hs, hhs⟩ : ∃ x, hasE l e.k = x := ⟨_, rfl⟩
  rw [hhs] at HG
  have HZ : stLater e'.s e.s = decide (0 < stCmp e'.s e.s) := by
    rw [Bool.eq_iff_iff, decide_eq_true_eq]; exact (stCmp_pos _ _).symm
  have HR : Hid (overE l e = (hs && decide (0 < stCmp e'.s e.s))) := by
    have hl := hasE_look l e.k
    rw [Hid, ← HZ, overE_look, ← hhs, ← he', hl]
    cases lookE l e.k <;> rfl
  have HC := Lib.hid (st_compare e'.s.c e'.s.s e.s.c e.s.s)
  have hcs : stCmp ⟨e'.s.c, e'.s.s⟩ ⟨e.s.c, e.s.s⟩ = stCmp e'.s e.s := rfl
  rw [hcs] at HC
  rw [HR.out]
  generalize stCmp e'.s e.s = z at HC ⊢
  clear h he' hhs HR HZ hcs
  go_enter Try.func23, Try.ntmps23
  go_upto_region 1 with fail
  obtain ⟨wa, hwa⟩ : ∃ wa, w.alloc (.cells #[.string e.k, .string e.v, .bool e.d, .int .i64 e.s.c, .int .i64 e.s.s, .int .i64 e.a.c, .int .i64 e.a.s, .int .i64 e.p, .int .i64 e.g] 51) = wa := ⟨_, rfl⟩
  rw [hwa] at HG B0 O0 ⊢
  go_cut [5, 6] (fun s5 s6 w' => Gk wa e' hs s5 s6 w')
  case rest =>
    obtain ⟨b, rfl, rfl, hb, B6, o6⟩ := hcut
    obtain ⟨t0, t1, t2, t3, t4, t5, t6, t7, t8⟩ := nine_of B6
    obtain ⟨u0, u1, u2, u3, u4, u5, u6, u7, u8⟩ := nine_of (B0.out.only o6 (fun h => h))
    have O6 := Lib.hid (O0.out.trans o6)
    clear o6 B6
    cases hs with
    | false =>
      go_wp2_with fail
      go_ret
      exact ⟨rfl, O6.out⟩
    | true =>
      go_wp2_with (first
        | (go_at_call 57; refine (HC.out _).mono ?_; rintro E w7 ⟨rfl, o7⟩
           have O7 := Lib.hid (O6.out.trans o7)
           clear o7))
      go_ret
      exact ⟨by simp, O7.out⟩
  case first =>
    obtain ⟨t0, t1, t2, t3, t4, t5, t6, t7, t8⟩ := nine_of (Blk.drew B0.out)
    obtain ⟨u0, u1, u2, u3, u4, u5, u6, u7, u8⟩ := nine_of (Blk.drew (B0.out.alloc (.cells #[.string ⟨#[]⟩, .string ⟨#[]⟩, .bool false, .int .i64 0, .int .i64 0, .int .i64 0, .int .i64 0, .int .i64 0, .int .i64 0] 51)))
    have BN := Lib.hid (Blk.drew (Blk.new wa 51 #[.string ⟨#[]⟩, .string ⟨#[]⟩, .bool false, .int .i64 0, .int .i64 0, .int .i64 0, .int .i64 0, .int .i64 0, .int .i64 0]))
    go_region_law (first
      | (refine Se.step_call (by simp [Region.wanted]) 20 #[.pointer (some ⟨g, 0, none⟩), .string e.k] (by go_simp; try (with_reducible rfl)) ?_
         refine (HG.out _ (by first | exact (Only.refl none_ wa).drew | exact ((Only.refl none_ wa).alloc _).drew)).mono ?_
         rintro E w1 ⟨rfl, o1⟩
         refine ⟨_, rfl, ?_⟩
         have O1 : Hid (Only none_ wa w1) := by first | exact ((Only.refl none_ wa).drew).trans o1 | exact (((Only.refl none_ wa).alloc _).drew).trans o1
         try (have B1 := Lib.hid (BN.out.only o1 (fun h => h)); have q1 := nine_of B1.out; have z1 := frozen9 B1.out)
         have B2 := Lib.hid (Blk.new w1 51 #[.string ⟨#[]⟩, .string ⟨#[]⟩, .bool false, .int .i64 0, .int .i64 0, .int .i64 0, .int .i64 0, .int .i64 0, .int .i64 0])
         have q2 := nine_of B2.out
         have z2 := frozen9 B2.out
         clear o1))
    all_goals go_wp2_with fail
    all_goals go_meet
    all_goals first
      | exact ⟨_, rfl, rfl, O1.out.size, Blk.new _ _ _, O1.out.alloc _⟩
      | exact Gk.of (x := enZero) O1.out B1.out (Nat.le_refl _)
end Go.Proofs.Ytniacolkjdmflaa
end
section
namespace Go.Proofs.Ytniacolkjdmflaa
open Go.RowKit
set_option maxRecDepth 100000
set_option linter.unusedSimpArgs false

set_option maxHeartbeats 6400000 in
theorem en_check (e : En) (w : World) :
    Calls Try.prog 50 #[.agg #[.string e.k, .string e.v, .bool e.d, .int .i64 e.s.c, .int .i64 e.s.s, .int .i64 e.a.c, .int .i64 e.a.s, .int .i64 e.p, .int .i64 e.g]] w fun E w' => E = .returned (.int .i64 (enCheck e)) ∧ Only none_ w w' := by
  have O := Lib.hid ((Only.refl none_ w).alloc (.cells #[.string e.k, .string e.v, .bool e.d, .int .i64 e.s.c, .int .i64 e.s.s, .int .i64 e.a.c, .int .i64 e.a.s, .int .i64 e.p, .int .i64 e.g] 51))
  have B := Lib.hid (Blk.new w 51 #[.string e.k, .string e.v, .bool e.d, .int .i64 e.s.c, .int .i64 e.s.s, .int .i64 e.a.c, .int .i64 e.a.s, .int .i64 e.p, .int .i64 e.g])
  obtain ⟨gb, hg⟩ : ∃ b, (stGood e.s && stGood e.a) = b := ⟨_, rfl⟩
  obtain ⟨cb, hc⟩ : ∃ b, enCert e = b := ⟨_, rfl⟩
  obtain ⟨lb, hl⟩ : ∃ b, enLive e = b := ⟨_, rfl⟩
  obtain ⟨r, hr⟩ : ∃ b, stCmp e.a e.s = b := ⟨_, rfl⟩
  have hlt : stLater e.s e.a = decide (r < 0) := by
    have h1 := stCmp_pos e.s e.a
    rw [stCmp_neg, hr] at h1
    rw [Bool.eq_iff_iff, ← h1, decide_eq_true_eq]
    omega
  have HC : Hid (enCheck e = if e.k.toList = [] ∨ 16 < e.k.size then 9 else if 32 < e.v.size ∨ e.d = true ∧ ¬ e.v.toList = [] then 10 else if gb = false ∨ r < 0 then 1 else
      if (if e.d = true then cb else lb) = true then 0 else 1) := by
    rw [Hid, enCheck, enKeyBad, enValBad, enStBad, enRestBad, hg, hc, hl, hlt]
    have e0 : ∀ s : ByteArray, s.toList = [] ↔ s.size = 0 := fun s => by
      have := str_empty s
      rw [Bool.eq_iff_iff, decide_eq_true_eq, beq_iff_eq, show ByteArray.toList ⟨#[]⟩ = [] from by rw [ByteArray.toList_eq]] at this
      exact this
    have e1 : (e.k.size < 1) ↔ e.k.size = 0 := by omega
    have e2 : (0 < e.v.size) ↔ ¬ e.v.size = 0 := by omega
    simp only [Bool.or_eq_true, Bool.and_eq_true, decide_eq_true_eq, e0, e1, e2, Bool.not_eq_true', Bool.not_eq_true]
    cases (if e.d = true then cb else lb) <;> simp
  have HG := Lib.hid hg
  have HT := Lib.hid hc
  have HL := Lib.hid hl
  have HR : Hid (stCmp ⟨e.a.c, e.a.s⟩ ⟨e.s.c, e.s.s⟩ = r) := hr
  have hlb : Hid (gb = gb) := rfl
  clear hg hc hl hr hlt
  obtain ⟨k, v, d, s, a, p, g⟩ := e
  have e5 := fun w => en_stampsGood ⟨k, v, d, s, a, p, g⟩ w
  have e6 := fun w => en_isCert ⟨k, v, d, s, a, p, g⟩ w
  have e7 := fun w => en_isLive ⟨k, v, d, s, a, p, g⟩ w
  have E5 := Lib.hid e5
  have E6 := Lib.hid e6
  have E7 := Lib.hid e7
  clear e5 e6 e7
  simp only at *
  cases d
  all_goals
    go_enter Try.func50, Try.ntmps50
    go_wp2_with (first
      | (go_at_call 79; refine (E5.out _).mono ?_; rintro E w1 ⟨rfl, o1⟩; rw [HG.out]
         have O1 := Lib.hid (O.out.trans o1)
         have B1 := Lib.hid (B.out.only o1 (fun h => h))
         have c0 := B1.out.cell_ (i := 0) rfl
         have c1 := B1.out.cell_ (i := 1) rfl
         have c2 := B1.out.cell_ (i := 2) rfl
         have c3 := B1.out.cell_ (i := 3) rfl
         have c4 := B1.out.cell_ (i := 4) rfl
         have c5 := B1.out.cell_ (i := 5) rfl
         have c6 := B1.out.cell_ (i := 6) rfl
         have c7 := B1.out.cell_ (i := 7) rfl
         have c8 := B1.out.cell_ (i := 8) rfl
         clear o1)
      | (go_at_call 57; refine (st_compare _ _ _ _ _).mono ?_; rintro E w2 ⟨rfl, o2⟩; rw [HR.out]
         have O2 := Lib.hid (O1.out.trans o2)
         have B2 := Lib.hid (B1.out.only o2 (fun h => h))
         have d0 := B2.out.cell_ (i := 0) rfl
         have d1 := B2.out.cell_ (i := 1) rfl
         have d2 := B2.out.cell_ (i := 2) rfl
         have d3 := B2.out.cell_ (i := 3) rfl
         have d4 := B2.out.cell_ (i := 4) rfl
         have d5 := B2.out.cell_ (i := 5) rfl
         have d6 := B2.out.cell_ (i := 6) rfl
         have d7 := B2.out.cell_ (i := 7) rfl
         have d8 := B2.out.cell_ (i := 8) rfl
         clear o2)
      | (go_at_call 80; refine (E6.out _).mono ?_; rintro E w3 ⟨rfl, o3⟩; rw [HT.out]; have O3 := Lib.hid (O2.out.trans o3); have f2 := (B2.out.only o3 (fun h => h)).cell_ (i := 2) rfl; clear o3)
      | (go_at_call 81; refine (E7.out _).mono ?_; rintro E w3 ⟨rfl, o3⟩; rw [HL.out]; have O3 := Lib.hid (O2.out.trans o3); clear o3))
    all_goals
      go_ret
      refine ⟨congrArg (fun z => Ending.returned (.int .i64 z)) (Eq.symm ?_), ?_⟩
      · rw [HC.out]
        clear HC O B HG HT HL HR E5 E6 E7
        try clear c0 c1 c2 c3 c4 c5 c6 c7 c8 O1 B1
        try clear d0 d1 d2 d3 d4 d5 d6 d7 d8 O2 B2
        try clear O3
        try clear f2
        simp only [Bool.or_eq_true, Bool.and_eq_true, Bool.not_eq_true', Bool.not_eq_false', Bool.or_eq_false_iff, Bool.and_eq_false_iff, decide_eq_true_eq, decide_eq_false_iff_not, Bool.false_eq_true, if_true, if_false, beq_iff_eq, beq_eq_false_iff_ne, bne_iff_ne, ne_eq, Bool.not_eq_true, bne_eq_false_iff_eq, false_and, true_and, and_true, and_false, or_false, false_or, or_true, true_or, not_true_eq_false, not_false_eq_true, List.isEmpty_iff, List.isEmpty_eq_false_iff] at *
        (repeat' split) <;> first | rfl | omega | (exfalso; simp_all; done) | (exfalso; simp_all; omega)
      · first
          | exact O3.out
          | exact O2.out
          | exact O1.out
          | exact O.out
end Go.Proofs.Ytniacolkjdmflaa
end
section
namespace Go.Proofs.Ytniacolkjdmflaa
open Go.RowKit
set_option maxRecDepth 100000
set_option linter.all false

/-- What a call that works on graves may leave. -/
def LeftG (B : World) (g tb : Nat) (site t2 : Int) (v : Value) (w : World) (l' : List En) (w' : World) : Prop := ∃ tb' v', Gv B g tb' site t2 l' v' w' ∧ Only (gfoot g tb v) w w' ∧ ∀ k, gfoot g tb' v' k → gfoot g tb v k ∨ w.heap.size ≤ k
theorem LeftG.after0 {B w w1 w' : World} {g tb : Nat} {site t2 : Int} {v : Value} {l' : List En} (o : Only none_ w w1) (h : LeftG B g tb site t2 v w1 l' w') : LeftG B g tb site t2 v w l' w' := by
  obtain ⟨tb', v', h1, h2, h3⟩ := h
  exact ⟨tb', v', h1, o.of_none.trans' h2 (fun k _ h => h), fun k hk => (h3 k hk).imp id (fun h => Nat.le_trans o.size h)⟩
theorem LeftG.same {B w : World} {g tb : Nat} {site t2 : Int} {v : Value} {l : List En} (h : Gv B g tb site t2 l v w) : LeftG B g tb site t2 v w l w := ⟨tb, v, h, Only.refl _ _, fun _ h => .inl h⟩
theorem LeftG.of_put {B w w' : World} {g tb : Nat} {site t2 : Int} {v : Value} {l l' : List En} (h : Gv B g tb site t2 l v w) (hL : Se.LeftT B tb 4096 v w (prs l') w') : LeftG B g tb site t2 v w l' w' := by
  obtain ⟨v', h1, h2, h3⟩ := hL
  have hgt : ¬ foot tb v g := by
    rintro (e | e)
    · exact Blk.ne_ h.bk h.t.bk (by decide) e
    · exact own_blk_ne h.t.ow h.bk (by decide) e
  refine ⟨tb, v', ⟨h.bk.only h2 hgt, h.ge, h1⟩, h2.mono (fun k _ hk => .inr hk), fun k hk => ?_⟩
  rcases hk with rfl | rfl | hk
  · exact .inl (.inl rfl)
  · exact .inl (.inr (.inl rfl))
  · exact (h3 k hk).imp (fun e => .inr (.inr e)) id

theorem bury_is {duty : Bool} {t2 : Int} {l : List En} {e : En} (h : takes duty t2 e = true) :
    buryE duty t2 l e = if enEq (gvJoin ((lookE l e.k).getD enZero) e) ((lookE l e.k).getD enZero) = true then (l, false) else (setE (gvJoin ((lookE l e.k).getD enZero) e) l, true) := by
  have ht : (decide (enCheck e = 0) && duty && decide (e.g < t2)) = true := h
  have hl : l.find? (fun x => decide (x.k = e.k)) = lookE l e.k := rfl
  have i : ∀ a : St, stLater a a = false := fun a => (later_false _ _).2 (by omega)
  unfold buryE
  rw [if_pos ht, hl]
  simp only [Bool.and_eq_true, decide_eq_true_eq] at ht
  have hc := ht.1.1
  cases hw : lookE l e.k with
  | none =>
    have hk : 1 ≤ e.s.c := by
      unfold enCheck at hc
      split at hc
      · cases hc
      · next hk =>
        split at hc
        · cases hc
        · split at hc
          · cases hc
          · next hs =>
            simp [enStBad, stGood] at hs
            omega
    have h1 : stLater e.s enZero.s = true := (later_def _ _).2 (.inl (by show (0 : Int) < e.s.c; omega))
    have h2 : gvJoin enZero e = e := by rw [gvJoin, if_pos h1]
    have h3 : enEq e enZero = false := by
      cases h3 : enEq e enZero with
      | false => rfl
      | true =>
        have := (enEq_iff _ _).1 h3
        have h4 := hk
        rw [this] at h4
        exact absurd h4 (by decide)
    simp only [Option.getD_none, h2, h3]
    simp
  | some was =>
    simp only [Option.getD_some]
    cases h1 : stLater was.s e.s with
    | true =>
      have h2 : stLater e.s was.s = false := (later_false _ _).2 (by rw [later_def] at h1; omega)
      have h3 : stEq was.s e.s = false := by
        cases h3 : stEq was.s e.s with
        | false => rfl
        | true => rw [(stEq_iff _ _).1 h3, i] at h1; cases h1
      simp [gvJoin, h2, h3, enEq_refl]
    | false =>
      cases h2 : stEq was.s e.s with
      | true =>
        have h3 : stLater e.s was.s = false := by rw [(stEq_iff _ _).1 h2]; exact i _
        have h4 : enEq was (gvTurn was e) = enEq (gvTurn was e) was := by
          rw [Bool.eq_iff_iff, enEq_iff, enEq_iff]
          exact ⟨Eq.symm, Eq.symm⟩
        simp [gvJoin, h2, h3, h4]
      | false =>
        have h3 := stEq_false h2 h1
        have h4 : enEq e was = false := by
          cases h4 : enEq e was with
          | false => rfl
          | true =>
            have := (enEq_iff _ _).1 h4
            rw [this, (stEq_iff _ _).2 rfl] at h2
            cases h2
        simp [gvJoin, h3, h4]
theorem join_key {l : List En} {e : En} {was : En} (h : lookE l e.k = some was) : (gvJoin was e).k = e.k := by
  unfold gvJoin
  split
  · rfl
  · split
    · exact (look_some h).2
    · exact (look_some h).2

set_option maxHeartbeats 1600000 in
theorem gv_new (B : World) (site t2 : Int) (w : World) (hB : Only none_ B w) (h1 : stSite site = true) (h2 : 0 ≤ t2 ∧ t2 ≤ 2147483647) :
    Calls Try.prog 12 #[.int .i64 site, .int .i64 t2] w fun E w' => ∃ g tb, E = .returned (.tuple #[.pointer (some ⟨g, 0, none⟩), .int .i64 0]) ∧ w.heap.size ≤ g ∧ w.heap.size ≤ tb ∧ Gv B g tb site t2 [] (.slice none 0 0) w' ∧ Only none_ w w' := by
  have HN := Lib.hid (sh_new B w hB)
  have HB := Lib.hid hB.size
  simp only [stSite, decide_eq_true_eq] at h1
  have k1 : ¬ site < 0 := by omega
  have k2 : ¬ 12 ≤ site := by omega
  have k3 : ¬ t2 < 0 := by omega
  have k4 : ¬ 2147483647 < t2 := by omega
  clear hB h1 h2
  go_enter Try.func12, Try.ntmps12
  go_wp2_with (first
    | (go_at_call 45; refine HN.out.mono ?_; rintro E w1 ⟨tb, rfl, hg, ht, o1⟩
       have F := Lib.hid (And.intro hg (And.intro ht o1))
       clear hg ht o1))
  go_ret2
  have o2 := F.out.2.2.alloc (.cells #[.pointer (some ⟨tb, 0, none⟩), .string ⟨#[]⟩, .pointer none, .int .i64 site, .int .i64 t2] 60)
  have hs := F.out.2.2.size
  have hb := HB.out
  exact ⟨w1.heap.size, tb, rfl, hs, F.out.1, ⟨Blk.new _ _ _, by omega, F.out.2.1.keep ((Only.refl none_ w1).alloc _)⟩, o2⟩
end Go.Proofs.Ytniacolkjdmflaa
end
