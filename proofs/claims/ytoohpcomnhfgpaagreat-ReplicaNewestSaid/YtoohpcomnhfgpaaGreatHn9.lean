/- Texts of mine, one behind the other: GvE, GvF, GvG, CrcM, CrcX, OctR, OctD, OctE, OctU, JnM, JnA, Phase, CrcR, CrcA. No statement of the seat is proved here. -/
import Derived.Test.YtoohpcomnhfgpaaGreatHn8
import Derived.Test.YtoohpcomnhfgpaaGreatHn2
import Derived.Deep.DeepCutAuto
import Derived.WalkKit
import Derived.Test.YtoohpcomnhfgpaaGreatHn3
import Derived.Test.YtoohpcomnhfgpaaGreatHn5
import Derived.Lib.AppendZeros
import Derived.Deep.LoopGhost
import Derived.Deep.DrawnRows
import Derived.Deep.RegionHeld3
import Derived.Test.YtoohpcomnhfgpaaGreatChecked
import Derived.Laws.BitsAllLaws
import Derived.Deep.QuietTactic
import Derived.BigQuiet
section
namespace Go.Proofs.YtoohpcomnhfgpaaGreat
open Go.RowKit
set_option maxRecDepth 100000
set_option linter.all false
def gvJoin (was e : En) : En := if stLater e.s was.s = true then e else if stEq was.s e.s = true then gvTurn was e else was
theorem gvTurn_is (was e : En) : gvTurn was e = { was with a := stLatest [was.a, e.a], g := min was.g e.g } := by
  have h1 : stLatest [was.a, e.a] = if stLater e.a was.a = true then e.a else was.a := by
    show stMax was.a e.a = _
    unfold stMax
    by_cases h : stLater e.a was.a = true
    · rw [if_pos h, if_pos ((stCmp_pos _ _).2 h)]
    · rw [if_neg h, if_neg (fun h2 => h ((stCmp_pos _ _).1 h2))]
  have h2 : min was.g e.g = if e.g < was.g then e.g else was.g := by
    split <;> omega
  rw [h1, h2]
  rfl
structure Jv (B : World) (b : Nat) (was e r : En) (w : World) : Prop where
  x : Blk w b 82 #[.string was.k, .string was.v, .bool was.d, .int .i64 was.s.c, .int .i64 was.s.s, .int .i64 was.a.c, .int .i64 was.a.s, .int .i64 was.p, .int .i64 was.g]
  y : Blk w (b + 1) 82 #[.string e.k, .string e.v, .bool e.d, .int .i64 e.s.c, .int .i64 e.s.s, .int .i64 e.a.c, .int .i64 e.a.s, .int .i64 e.p, .int .i64 e.g]
  z : Blk w (b + 1 + 1) 82 #[.string r.k, .string r.v, .bool r.d, .int .i64 r.s.c, .int .i64 r.s.s, .int .i64 r.a.c, .int .i64 r.a.s, .int .i64 r.p, .int .i64 r.g]
  ho : Only none_ B w
  ge : B.heap.size ≤ b
theorem Jv.keep {B w w' : World} {b : Nat} {was e r : En} (h : Jv B b was e r w) (o : Only none_ w w') : Jv B b was e r w' := ⟨h.x.only o (fun h => h), h.y.only o (fun h => h), h.z.only o (fun h => h), h.ho.trans o, h.ge⟩
set_option maxHeartbeats 6400000 in
theorem gv_joined (was e : En) (w : World) :
    Calls Tryz.prog 225 #[.agg #[.string was.k, .string was.v, .bool was.d, .int .i64 was.s.c, .int .i64 was.s.s, .int .i64 was.a.c, .int .i64 was.a.s, .int .i64 was.p, .int .i64 was.g], .agg #[.string e.k, .string e.v, .bool e.d, .int .i64 e.s.c, .int .i64 e.s.s, .int .i64 e.a.c, .int .i64 e.a.s, .int .i64 e.p, .int .i64 e.g]] w fun E w' => E = .returned (.agg #[.string (gvJoin was e).k, .string (gvJoin was e).v, .bool (gvJoin was e).d, .int .i64 (gvJoin was e).s.c, .int .i64 (gvJoin was e).s.s, .int .i64 (gvJoin was e).a.c, .int .i64 (gvJoin was e).a.s, .int .i64 (gvJoin was e).p, .int .i64 (gvJoin was e).g]) ∧ Only none_ w w' := by
  have J0 : Jv w w.heap.size was e enZero (((w.alloc (.cells #[.string was.k, .string was.v, .bool was.d, .int .i64 was.s.c, .int .i64 was.s.s, .int .i64 was.a.c, .int .i64 was.a.s, .int .i64 was.p, .int .i64 was.g] 82)).alloc (.cells #[.string e.k, .string e.v, .bool e.d, .int .i64 e.s.c, .int .i64 e.s.s, .int .i64 e.a.c, .int .i64 e.a.s, .int .i64 e.p, .int .i64 e.g] 82)).alloc (.cells #[.string ⟨#[]⟩, .string ⟨#[]⟩, .bool false, .int .i64 0, .int .i64 0, .int .i64 0, .int .i64 0, .int .i64 0, .int .i64 0] 82)) := by
    refine ⟨((Blk.new w _ _).alloc _).alloc _, ?_, ?_, (((Only.refl none_ w).alloc _).alloc _).alloc _, Nat.le_refl _⟩
    · have := (Blk.new (w.alloc (.cells #[.string was.k, .string was.v, .bool was.d, .int .i64 was.s.c, .int .i64 was.s.s, .int .i64 was.a.c, .int .i64 was.a.s, .int .i64 was.p, .int .i64 was.g] 82)) 82 #[.string e.k, .string e.v, .bool e.d, .int .i64 e.s.c, .int .i64 e.s.s, .int .i64 e.a.c, .int .i64 e.a.s, .int .i64 e.p, .int .i64 e.g]).alloc (.cells #[.string ⟨#[]⟩, .string ⟨#[]⟩, .bool false, .int .i64 0, .int .i64 0, .int .i64 0, .int .i64 0, .int .i64 0, .int .i64 0] 82)
      rwa [World.size_alloc] at this
    · have := Blk.new ((w.alloc (.cells #[.string was.k, .string was.v, .bool was.d, .int .i64 was.s.c, .int .i64 was.s.s, .int .i64 was.a.c, .int .i64 was.a.s, .int .i64 was.p, .int .i64 was.g] 82)).alloc (.cells #[.string e.k, .string e.v, .bool e.d, .int .i64 e.s.c, .int .i64 e.s.s, .int .i64 e.a.c, .int .i64 e.a.s, .int .i64 e.p, .int .i64 e.g] 82)) 82 #[.string ⟨#[]⟩, .string ⟨#[]⟩, .bool false, .int .i64 0, .int .i64 0, .int .i64 0, .int .i64 0, .int .i64 0, .int .i64 0]
      rwa [World.size_alloc, World.size_alloc] at this
  obtain ⟨y0, y1, y2, y3, y4, y5, y6, y7, y8⟩ := nine_of J0.y
  obtain ⟨x0, x1, x2, x3, x4, x5, x6, x7, x8⟩ := nine_of J0.x
  have HJ0 := Lib.hid J0
  have HC := Lib.hid (st_compare e.s.c e.s.s was.s.c was.s.s)
  have hcs : stCmp ⟨e.s.c, e.s.s⟩ ⟨was.s.c, was.s.s⟩ = stCmp e.s was.s := rfl
  rw [hcs] at HC
  clear hcs J0
  by_cases h1 : stLater e.s was.s = true
  · have hr : gvJoin was e = e := by rw [gvJoin, if_pos h1]
    rw [hr]
    have hp := (stCmp_pos _ _).2 h1
    generalize stCmp e.s was.s = z at hp HC
    clear h1 hr
    go_enter Tryz.func225, Tryz.ntmps225
    go_wp2_with (first
      | (go_at_call 140; refine (HC.out _).mono ?_; rintro E w1 ⟨rfl, o1⟩
         have J1 := Lib.hid (HJ0.out.keep o1)
         clear o1)
      | (refine wpl_load rfl 82 _ rfl (w.heap.size + 1) rfl _ #[.string e.k, .string e.v, .bool e.d, .int .i64 e.s.c, .int .i64 e.s.s, .int .i64 e.a.c, .int .i64 e.a.s, .int .i64 e.p, .int .i64 e.g] _ J1.out.y Tryz.underlying82 rfl (by kernel_rfl) ?_)
      | (refine wpList_store_row rfl 82 _ _ rfl (w.heap.size + 1 + 1) #[.string e.k, .string e.v, .bool e.d, .int .i64 e.s.c, .int .i64 e.s.s, .int .i64 e.a.c, .int .i64 e.a.s, .int .i64 e.p, .int .i64 e.g] rfl rfl _ _ J1.out.z (by kernel_rfl) rfl (en_cells_one e) ?_))
    refine bodyPost_ret (results_cell_row rfl _ _ (w.heap.size + 1 + 1) 82 #[.string e.k, .string e.v, .bool e.d, .int .i64 e.s.c, .int .i64 e.s.s, .int .i64 e.a.c, .int .i64 e.a.s, .int .i64 e.p, .int .i64 e.g] (0, 0) _ rfl (J1.out.z.setRow _) Tryz.underlying82 rfl (by kernel_rfl)) rfl ?_
    exact ⟨rfl, J1.out.ho.setRow (.inr (by omega)) _⟩
  · by_cases h2 : stEq was.s e.s = true
    · have hr : gvJoin was e = gvTurn was e := by rw [gvJoin, if_neg h1, if_pos h2]
      rw [hr, gvTurn_is]
      have hp : stCmp e.s was.s = 0 := (stCmp_zero _ _).2 ((stEq_iff _ _).1 h2).symm
      obtain ⟨ac, hac⟩ : ∃ a, stLatest [was.a, e.a] = a := ⟨_, rfl⟩
      obtain ⟨mg, hmg⟩ : ∃ m, min was.g e.g = m := ⟨_, rfl⟩
      rw [hac, hmg]
      have hmn : ∀ ts t w, (Builtin.min_ ts t #[.int .i64 was.g, .int .i64 e.g]).run Tryz.prog w = .ok (.int .i64 mg) w := fun ts t w => by
        rw [run_min_int2, ← hmg]
        by_cases hk : e.g < was.g
        · rw [if_pos hk, Int.min_eq_right (by omega)]
        · rw [if_neg hk, Int.min_eq_left (by omega)]
      rw [hp] at HC
      have HLT := Lib.hid (fun (X : World) => st_latest [was.a, e.a] (.slice (some ⟨X.heap.size, 0, none⟩) 2 2) (fun b => b = X.heap.size) (X.alloc (.cells #[.int .i64 was.a.c, .int .i64 was.a.s, .int .i64 e.a.c, .int .i64 e.a.s] 80)) (cel_made X 80 2 2 #[.int .i64 was.a.c, .int .i64 was.a.s, .int .i64 e.a.c, .int .i64 e.a.s] rfl (by simp [maxLen])) (fun b hb => by subst hb; rw [World.size_alloc]; omega) (by simp))
      rw [hac] at HLT
      clear h1 h2 hr hp hac hmg
      go_enter Tryz.func225, Tryz.ntmps225
      go_wp2_with (first
        | (go_at_call 140; refine (HC.out _).mono ?_; rintro E w1 ⟨rfl, o1⟩
           have J1 := Lib.hid (HJ0.out.keep o1)
           obtain ⟨s0, s1, s2, s3, s4, s5, s6, s7, s8⟩ := nine_of J1.out.x
           obtain ⟨t0, t1, t2, t3, t4, t5, t6, t7, t8⟩ := nine_of J1.out.y
           clear o1)
        | (go_at_call 260; refine (HLT.out w1).mono ?_; rintro E w2 ⟨rfl, o2⟩
           have J2 := Lib.hid (J1.out.keep (((Only.refl none_ w1).alloc _).trans o2))
           have J3 : Hid (Jv w w.heap.size { was with a := ac } e enZero (w2.setRow w.heap.size (putAt [.string was.k, .string was.v, .bool was.d, .int .i64 was.s.c, .int .i64 was.s.s, .int .i64 was.a.c, .int .i64 was.a.s, .int .i64 was.p, .int .i64 was.g] 5 [.int .i64 ac.c, .int .i64 ac.s]).toArray)) :=
             ⟨J2.out.x.setRow _, J2.out.y.setRow_far (by omega) _, J2.out.z.setRow_far (by omega) _, J2.out.ho.setRow (.inr (Nat.le_refl _)) _, J2.out.ge⟩
           have k8 := J3.out.x.cell_ (i := 8) rfl
           have f8 := J3.out.x.frozen 8
           have g8 := J3.out.y.cell_ (i := 8) rfl
           have J4 : Hid (Jv w w.heap.size { was with a := ac, g := mg } e enZero ((w2.setRow w.heap.size (putAt [.string was.k, .string was.v, .bool was.d, .int .i64 was.s.c, .int .i64 was.s.s, .int .i64 was.a.c, .int .i64 was.a.s, .int .i64 was.p, .int .i64 was.g] 5 [.int .i64 ac.c, .int .i64 ac.s]).toArray).setCell ⟨w.heap.size, 8, none⟩ (.int .i64 mg))) :=
             ⟨J3.out.x.set_ 8 _, J3.out.y.far (show w.heap.size + 1 ≠ w.heap.size by omega) _, J3.out.z.far (show w.heap.size + 1 + 1 ≠ w.heap.size by omega) _, J3.out.ho.setCell (p := ⟨w.heap.size, 8, none⟩) (.inr (Nat.le_refl _)) _, J3.out.ge⟩
           clear o2)
        | (refine wpl_store_part rfl 80 _ _ rfl w.heap.size 5 #[.int .i64 ac.c, .int .i64 ac.s] rfl rfl 82 [.string was.k, .string was.v, .bool was.d, .int .i64 was.s.c, .int .i64 was.s.s, .int .i64 was.a.c, .int .i64 was.a.s, .int .i64 was.p, .int .i64 was.g] J2.out.x (by kernel_rfl) (by simp) (by simp [Value.oneCell']) ?_)
        | (refine wpl_load rfl 82 _ rfl w.heap.size rfl _ #[.string ({ was with a := ac, g := mg } : En).k, .string ({ was with a := ac, g := mg } : En).v, .bool ({ was with a := ac, g := mg } : En).d, .int .i64 ({ was with a := ac, g := mg } : En).s.c, .int .i64 ({ was with a := ac, g := mg } : En).s.s, .int .i64 ({ was with a := ac, g := mg } : En).a.c, .int .i64 ({ was with a := ac, g := mg } : En).a.s, .int .i64 ({ was with a := ac, g := mg } : En).p, .int .i64 ({ was with a := ac, g := mg } : En).g] _ J4.out.x Tryz.underlying82 rfl (by kernel_rfl) ?_)
        | (refine wpList_store_row rfl 82 _ _ rfl (w.heap.size + 1 + 1) #[.string ({ was with a := ac, g := mg } : En).k, .string ({ was with a := ac, g := mg } : En).v, .bool ({ was with a := ac, g := mg } : En).d, .int .i64 ({ was with a := ac, g := mg } : En).s.c, .int .i64 ({ was with a := ac, g := mg } : En).s.s, .int .i64 ({ was with a := ac, g := mg } : En).a.c, .int .i64 ({ was with a := ac, g := mg } : En).a.s, .int .i64 ({ was with a := ac, g := mg } : En).p, .int .i64 ({ was with a := ac, g := mg } : En).g] rfl rfl _ _ J4.out.z (by kernel_rfl) rfl (en_cells_one _) ?_))
      refine bodyPost_ret (results_cell_row rfl _ _ (w.heap.size + 1 + 1) 82 #[.string ({ was with a := ac, g := mg } : En).k, .string ({ was with a := ac, g := mg } : En).v, .bool ({ was with a := ac, g := mg } : En).d, .int .i64 ({ was with a := ac, g := mg } : En).s.c, .int .i64 ({ was with a := ac, g := mg } : En).s.s, .int .i64 ({ was with a := ac, g := mg } : En).a.c, .int .i64 ({ was with a := ac, g := mg } : En).a.s, .int .i64 ({ was with a := ac, g := mg } : En).p, .int .i64 ({ was with a := ac, g := mg } : En).g] (0, 0) _ rfl (J4.out.z.setRow _) Tryz.underlying82 rfl (by kernel_rfl)) rfl ?_
      exact ⟨rfl, J4.out.ho.setRow (.inr (by omega)) _⟩
    · have hr : gvJoin was e = was := by rw [gvJoin, if_neg h1, if_neg h2]
      rw [hr]
      have hp1 : ¬ 0 < stCmp e.s was.s := fun h => h1 ((stCmp_pos _ _).1 h)
      have hp2 : stCmp e.s was.s ≠ 0 := fun h => h2 ((stEq_iff _ _).2 ((stCmp_zero _ _).1 h).symm)
      have hp : stCmp e.s was.s < 0 := by omega
      generalize stCmp e.s was.s = z at hp HC
      clear h1 h2 hr hp1 hp2
      go_enter Tryz.func225, Tryz.ntmps225
      go_wp2_with (first
        | (go_at_call 140; refine (HC.out _).mono ?_; rintro E w1 ⟨rfl, o1⟩
           have J1 := Lib.hid (HJ0.out.keep o1)
           have hz1 : ((z : Int) == 0) = false := by simp; omega
           have hz2 : ¬ (z = 0) := by omega
           have hz3 : ¬ (0 < z) := by omega
           clear o1)
        | (refine wpl_load rfl 82 _ rfl w.heap.size rfl _ #[.string was.k, .string was.v, .bool was.d, .int .i64 was.s.c, .int .i64 was.s.s, .int .i64 was.a.c, .int .i64 was.a.s, .int .i64 was.p, .int .i64 was.g] _ J1.out.x Tryz.underlying82 rfl (by kernel_rfl) ?_)
        | (refine wpList_store_row rfl 82 _ _ rfl (w.heap.size + 1 + 1) #[.string was.k, .string was.v, .bool was.d, .int .i64 was.s.c, .int .i64 was.s.s, .int .i64 was.a.c, .int .i64 was.a.s, .int .i64 was.p, .int .i64 was.g] rfl rfl _ _ J1.out.z (by kernel_rfl) rfl (en_cells_one was) ?_))
      refine bodyPost_ret (results_cell_row rfl _ _ (w.heap.size + 1 + 1) 82 #[.string was.k, .string was.v, .bool was.d, .int .i64 was.s.c, .int .i64 was.s.s, .int .i64 was.a.c, .int .i64 was.a.s, .int .i64 was.p, .int .i64 was.g] (0, 0) _ rfl (J1.out.z.setRow _) Tryz.underlying82 rfl (by kernel_rfl)) rfl ?_
      exact ⟨rfl, J1.out.ho.setRow (.inr (by omega)) _⟩
end Go.Proofs.YtoohpcomnhfgpaaGreat
end
section
namespace Go.Proofs.YtoohpcomnhfgpaaGreat
open Go.RowKit
set_option maxRecDepth 100000
set_option linter.all false
theorem hasE_look (l : List En) (k : ByteArray) : hasE l k = (lookE l k).isSome := by
  unfold hasE lookE
  rw [Bool.eq_iff_iff, List.any_eq_true, List.find?_isSome]
theorem overE_look (l : List En) (e : En) : overE l e = match lookE l e.k with | none => false | some was => stLater was.s e.s := rfl
def Gk (wa : World) (e : En) (hs : Bool) (s5 s6 : Value) (w' : World) : Prop := ∃ b, s5 = .pointer (some ⟨b, 0, none⟩) ∧ s6 = .bool hs ∧ wa.heap.size ≤ b ∧ Blk w' b 82 #[.string e.k, .string e.v, .bool e.d, .int .i64 e.s.c, .int .i64 e.s.s, .int .i64 e.a.c, .int .i64 e.a.s, .int .i64 e.p, .int .i64 e.g] ∧ Only none_ wa w'
theorem Gk.of {wa w1 : World} {e x : En} {hs : Bool} {b : Nat} (o : Only none_ wa w1) (h : Blk w1 b 82 #[.string x.k, .string x.v, .bool x.d, .int .i64 x.s.c, .int .i64 x.s.s, .int .i64 x.a.c, .int .i64 x.a.s, .int .i64 x.p, .int .i64 x.g]) (hb : wa.heap.size ≤ b) : Gk wa e hs (.pointer (some ⟨b, 0, none⟩)) (.bool hs) (fill9 w1 b (.string e.k) (.string e.v) (.bool e.d) (.int .i64 e.s.c) (.int .i64 e.s.s) (.int .i64 e.a.c) (.int .i64 e.a.s) (.int .i64 e.p) (.int .i64 e.g)) :=
  ⟨b, rfl, rfl, hb, fill9_blk h _ _ _ _ _ _ _ _ _, fill9_only o (.inr hb) _ _ _ _ _ _ _ _ _⟩
set_option maxHeartbeats 6400000 in
theorem gv_over (B : World) (g tb : Nat) (site t2 : Int) (l : List En) (v : Value) (e : En) (w : World) (h : Gv B g tb site t2 l v w) :
    Calls Tryz.prog 150 #[.pointer (some ⟨g, 0, none⟩), .agg #[.string e.k, .string e.v, .bool e.d, .int .i64 e.s.c, .int .i64 e.s.s, .int .i64 e.a.c, .int .i64 e.a.s, .int .i64 e.p, .int .i64 e.g]] w fun E w' => E = .returned (.bool (overE l e)) ∧ Only none_ w w' := by
  have O0 := Lib.hid ((Only.refl none_ w).alloc (.cells #[.string e.k, .string e.v, .bool e.d, .int .i64 e.s.c, .int .i64 e.s.s, .int .i64 e.a.c, .int .i64 e.a.s, .int .i64 e.p, .int .i64 e.g] 82))
  have B0 := Lib.hid (Blk.new w 82 #[.string e.k, .string e.v, .bool e.d, .int .i64 e.s.c, .int .i64 e.s.s, .int .i64 e.a.c, .int .i64 e.a.s, .int .i64 e.p, .int .i64 e.g])
  obtain ⟨e', he'⟩ : ∃ x, (lookE l e.k).getD enZero = x := ⟨_, rfl⟩
  have HG := Lib.hid (fun (w' : World) (o : Only none_ (w.alloc (.cells #[.string e.k, .string e.v, .bool e.d, .int .i64 e.s.c, .int .i64 e.s.s, .int .i64 e.a.c, .int .i64 e.a.s, .int .i64 e.p, .int .i64 e.g] 82)) w') => sh_get B g tb l v e.k e' he' w' ((h.keep (O0.out.trans o)).sh) ((h.keep (O0.out.trans o)).t))
  obtain ⟨hs, hhs⟩ : ∃ x, hasE l e.k = x := ⟨_, rfl⟩
  rw [hhs] at HG
  have HZ : stLater e'.s e.s = decide (0 < stCmp e'.s e.s) := by
    rw [Bool.eq_iff_iff, decide_eq_true_eq]; exact (stCmp_pos _ _).symm
  have HR : Hid (overE l e = (hs && decide (0 < stCmp e'.s e.s))) := by
    have hl := hasE_look l e.k
    rw [Hid, ← HZ, overE_look, ← hhs, ← he', hl]
    cases lookE l e.k <;> rfl
  have HC := Lib.hid (st_compare e'.s.c e'.s.s e.s.c e.s.s)
  have hcs : stCmp ⟨e'.s.c, e'.s.s⟩ ⟨e.s.c, e.s.s⟩ = stCmp e'.s e.s := rfl
  rw [hcs] at HC
  rw [HR.out]
  generalize stCmp e'.s e.s = z at HC ⊢
  clear h he' hhs HR HZ hcs
  go_enter Tryz.func150, Tryz.ntmps150
  go_upto_region 1 with fail
  obtain ⟨wa, hwa⟩ : ∃ wa, w.alloc (.cells #[.string e.k, .string e.v, .bool e.d, .int .i64 e.s.c, .int .i64 e.s.s, .int .i64 e.a.c, .int .i64 e.a.s, .int .i64 e.p, .int .i64 e.g] 82) = wa := ⟨_, rfl⟩
  rw [hwa] at HG B0 O0 ⊢
  go_cut [5, 6] (fun s5 s6 w' => Gk wa e' hs s5 s6 w')
  case rest =>
    obtain ⟨b, rfl, rfl, hb, B6, o6⟩ := hcut
    obtain ⟨t0, t1, t2, t3, t4, t5, t6, t7, t8⟩ := nine_of B6
    obtain ⟨u0, u1, u2, u3, u4, u5, u6, u7, u8⟩ := nine_of (B0.out.only o6 (fun h => h))
    have O6 := Lib.hid (O0.out.trans o6)
    clear o6 B6
    cases hs with
    | false =>
      go_wp2_with fail
      go_ret
      exact ⟨rfl, O6.out⟩
    | true =>
      go_wp2_with (first
        | (go_at_call 140; refine (HC.out _).mono ?_; rintro E w7 ⟨rfl, o7⟩
           have O7 := Lib.hid (O6.out.trans o7)
           clear o7))
      go_ret
      exact ⟨by simp, O7.out⟩
  case first =>
    obtain ⟨t0, t1, t2, t3, t4, t5, t6, t7, t8⟩ := nine_of (Blk.drew B0.out)
    obtain ⟨u0, u1, u2, u3, u4, u5, u6, u7, u8⟩ := nine_of (Blk.drew (B0.out.alloc (.cells #[.string ⟨#[]⟩, .string ⟨#[]⟩, .bool false, .int .i64 0, .int .i64 0, .int .i64 0, .int .i64 0, .int .i64 0, .int .i64 0] 82)))
    have BN := Lib.hid (Blk.drew (Blk.new wa 82 #[.string ⟨#[]⟩, .string ⟨#[]⟩, .bool false, .int .i64 0, .int .i64 0, .int .i64 0, .int .i64 0, .int .i64 0, .int .i64 0]))
    go_region_law (first
      | (refine Se.step_call (by simp [Region.wanted]) 195 #[.pointer (some ⟨g, 0, none⟩), .string e.k] (by go_simp; try (with_reducible rfl)) ?_
         refine (HG.out _ (by first | exact (Only.refl none_ wa).drew | exact ((Only.refl none_ wa).alloc _).drew)).mono ?_
         rintro E w1 ⟨rfl, o1⟩
         refine ⟨_, rfl, ?_⟩
         have O1 : Hid (Only none_ wa w1) := by first | exact ((Only.refl none_ wa).drew).trans o1 | exact (((Only.refl none_ wa).alloc _).drew).trans o1
         try (have B1 := Lib.hid (BN.out.only o1 (fun h => h)); have q1 := nine_of B1.out; have z1 := frozen9 B1.out)
         have B2 := Lib.hid (Blk.new w1 82 #[.string ⟨#[]⟩, .string ⟨#[]⟩, .bool false, .int .i64 0, .int .i64 0, .int .i64 0, .int .i64 0, .int .i64 0, .int .i64 0])
         have q2 := nine_of B2.out
         have z2 := frozen9 B2.out
         clear o1))
    all_goals go_wp2_with fail
    all_goals go_meet
    all_goals first
      | exact ⟨_, rfl, rfl, O1.out.size, Blk.new _ _ _, O1.out.alloc _⟩
      | exact Gk.of (x := enZero) O1.out B1.out (Nat.le_refl _)
end Go.Proofs.YtoohpcomnhfgpaaGreat
end
section
namespace Go.Proofs.YtoohpcomnhfgpaaGreat
open Go.RowKit
set_option maxRecDepth 100000
set_option linter.all false
def LeftG (B : World) (g tb : Nat) (site t2 : Int) (v : Value) (w : World) (l' : List En) (w' : World) : Prop := ∃ tb' v', Gv B g tb' site t2 l' v' w' ∧ Only (gfoot g tb v) w w' ∧ ∀ k, gfoot g tb' v' k → gfoot g tb v k ∨ w.heap.size ≤ k
theorem LeftG.after0 {B w w1 w' : World} {g tb : Nat} {site t2 : Int} {v : Value} {l' : List En} (o : Only none_ w w1) (h : LeftG B g tb site t2 v w1 l' w') : LeftG B g tb site t2 v w l' w' := by
  obtain ⟨tb', v', h1, h2, h3⟩ := h
  exact ⟨tb', v', h1, o.of_none.trans' h2 (fun k _ h => h), fun k hk => (h3 k hk).imp id (fun h => Nat.le_trans o.size h)⟩
theorem LeftG.same {B w : World} {g tb : Nat} {site t2 : Int} {v : Value} {l : List En} (h : Gv B g tb site t2 l v w) : LeftG B g tb site t2 v w l w := ⟨tb, v, h, Only.refl _ _, fun _ h => .inl h⟩
theorem LeftG.of_put {B w w' : World} {g tb : Nat} {site t2 : Int} {v : Value} {l l' : List En} (h : Gv B g tb site t2 l v w) (hL : Se.LeftT B tb 4096 v w (prs l') w') : LeftG B g tb site t2 v w l' w' := by
  obtain ⟨v', h1, h2, h3⟩ := hL
  have hgt : ¬ foot tb v g := by
    rintro (e | e)
    · exact Blk.ne_ h.bk h.t.bk (by decide) e
    · exact own_blk_ne h.t.ow h.bk (by decide) e
  refine ⟨tb, v', ⟨h.bk.only h2 hgt, h.ge, h1⟩, h2.mono (fun k _ hk => .inr hk), fun k hk => ?_⟩
  rcases hk with rfl | rfl | hk
  · exact .inl (.inl rfl)
  · exact .inl (.inr (.inl rfl))
  · exact (h3 k hk).imp (fun e => .inr (.inr e)) id
theorem bury_is {duty : Bool} {t2 : Int} {l : List En} {e : En} (h : takes duty t2 e = true) :
    buryE duty t2 l e = if enEq (gvJoin ((lookE l e.k).getD enZero) e) ((lookE l e.k).getD enZero) = true then (l, false) else (setE (gvJoin ((lookE l e.k).getD enZero) e) l, true) := by
  have ht : (decide (enCheck e = 0) && duty && decide (e.g < t2)) = true := h
  have hl : l.find? (fun x => decide (x.k = e.k)) = lookE l e.k := rfl
  have i : ∀ a : St, stLater a a = false := fun a => (later_false _ _).2 (by omega)
  unfold buryE
  rw [if_pos ht, hl]
  simp only [Bool.and_eq_true, decide_eq_true_eq] at ht
  have hc := ht.1.1
  cases hw : lookE l e.k with
  | none =>
    have hk : 1 ≤ e.s.c := by
      unfold enCheck at hc
      split at hc
      · cases hc
      · next hk =>
        split at hc
        · cases hc
        · split at hc
          · cases hc
          · next hs =>
            simp [enStBad, stGood] at hs
            omega
    have h1 : stLater e.s enZero.s = true := (later_def _ _).2 (.inl (by show (0 : Int) < e.s.c; omega))
    have h2 : gvJoin enZero e = e := by rw [gvJoin, if_pos h1]
    have h3 : enEq e enZero = false := by
      cases h3 : enEq e enZero with
      | false => rfl
      | true =>
        have := (enEq_iff _ _).1 h3
        have h4 := hk
        rw [this] at h4
        exact absurd h4 (by decide)
    simp only [Option.getD_none, h2, h3]
    simp
  | some was =>
    simp only [Option.getD_some]
    cases h1 : stLater was.s e.s with
    | true =>
      have h2 : stLater e.s was.s = false := (later_false _ _).2 (by rw [later_def] at h1; omega)
      have h3 : stEq was.s e.s = false := by
        cases h3 : stEq was.s e.s with
        | false => rfl
        | true => rw [(stEq_iff _ _).1 h3, i] at h1; cases h1
      simp [gvJoin, h2, h3, enEq_refl]
    | false =>
      cases h2 : stEq was.s e.s with
      | true =>
        have h3 : stLater e.s was.s = false := by rw [(stEq_iff _ _).1 h2]; exact i _
        have h4 : enEq was (gvTurn was e) = enEq (gvTurn was e) was := by
          rw [Bool.eq_iff_iff, enEq_iff, enEq_iff]
          exact ⟨Eq.symm, Eq.symm⟩
        simp [gvJoin, h2, h3, h4]
      | false =>
        have h3 := stEq_false h2 h1
        have h4 : enEq e was = false := by
          cases h4 : enEq e was with
          | false => rfl
          | true =>
            have := (enEq_iff _ _).1 h4
            rw [this, (stEq_iff _ _).2 rfl] at h2
            cases h2
        simp [gvJoin, h3, h4]
set_option maxHeartbeats 1600000 in
theorem gv_new (B : World) (site t2 : Int) (w : World) (hB : Only none_ B w) (h1 : stSite site = true) (h2 : 0 ≤ t2 ∧ t2 ≤ 2147483647) :
    Calls Tryz.prog 113 #[.int .i64 site, .int .i64 t2] w fun E w' => ∃ g tb, E = .returned (.tuple #[.pointer (some ⟨g, 0, none⟩), .int .i64 0]) ∧ w.heap.size ≤ g ∧ w.heap.size ≤ tb ∧ Gv B g tb site t2 [] (.slice none 0 0) w' ∧ Only none_ w w' := by
  have HN := Lib.hid (sh_new B w hB)
  have HB := Lib.hid hB.size
  simp only [stSite, decide_eq_true_eq] at h1
  have k1 : ¬ site < 0 := by omega
  have k2 : ¬ 12 ≤ site := by omega
  have k3 : ¬ t2 < 0 := by omega
  have k4 : ¬ 2147483647 < t2 := by omega
  clear hB h1 h2
  go_enter Tryz.func113, Tryz.ntmps113
  go_wp2_with (first
    | (go_at_call 155; refine HN.out.mono ?_; rintro E w1 ⟨tb, rfl, hg, ht, o1⟩
       have F := Lib.hid (And.intro hg (And.intro ht o1))
       clear hg ht o1))
  go_ret2
  have o2 := F.out.2.2.alloc (.cells #[.pointer (some ⟨tb, 0, none⟩), .string ⟨#[]⟩, .pointer none, .int .i64 site, .int .i64 t2] 263)
  have hs := F.out.2.2.size
  have hb := HB.out
  exact ⟨w1.heap.size, tb, rfl, hs, F.out.1, ⟨Blk.new _ _ _, by omega, F.out.2.1.keep ((Only.refl none_ w1).alloc _)⟩, o2⟩
end Go.Proofs.YtoohpcomnhfgpaaGreat
end
section
namespace Go.Proofs.YtoohpcomnhfgpaaGreat
def cst (v : Nat) : Nat := if v % 2 = 1 then v / 2 ^^^ 3988292384 else v / 2
def cstN : Nat → Nat → Nat
  | 0, v => v
  | n + 1, v => cstN n (cst v)
def crcRun (v : Nat) : List UInt8 → Nat
  | [] => v
  | b :: r => crcRun (cstN 8 (v ^^^ b.toNat)) r
def crcMore (s : Nat) (bs : List UInt8) : Nat := 4294967295 ^^^ crcRun (4294967295 ^^^ s) bs
def crcSum (bs : List UInt8) : Nat := crcMore 0 bs
def lowB (s : Nat) : List UInt8 := [UInt8.ofNat (s % 256), UInt8.ofNat (s / 256 % 256), UInt8.ofNat (s / 65536 % 256), UInt8.ofNat (s / 16777216)]
def crcMark (bs : List UInt8) : List UInt8 := bs ++ lowB (crcSum bs)
def crcHolds (bs : List UInt8) : Bool := decide (4 ≤ bs.length) && (crcMark (bs.take (bs.length - 4)) == bs)
theorem xor_same (x y p : Nat) : x ^^^ p ^^^ (y ^^^ p) = x ^^^ y := by
  rw [Nat.xor_assoc, Nat.xor_comm y p, ← Nat.xor_assoc p p y, Nat.xor_self, Nat.zero_xor]
theorem xor_back (x p : Nat) : p ^^^ (p ^^^ x) = x := by
  rw [← Nat.xor_assoc, Nat.xor_self, Nat.zero_xor]
theorem xor_move (x y p : Nat) : x ^^^ p ^^^ y = x ^^^ y ^^^ p := by
  rw [Nat.xor_assoc, Nat.xor_comm p y, ← Nat.xor_assoc]
theorem xor_div256 (x y : Nat) : (x ^^^ y) / 256 = x / 256 ^^^ y / 256 := by
  have := @Nat.xor_div_two_pow x y 8
  simpa using this
theorem xor_mod256 (x y : Nat) : (x ^^^ y) % 256 = x % 256 ^^^ y % 256 := by
  have := @Nat.xor_mod_two_pow x y 8
  simpa using this
theorem xor_add256 (x y : Nat) (h : x < 256) : x ^^^ 256 * y = x + 256 * y := by
  have h1 := xor_div256 x (256 * y)
  have h2 := xor_mod256 x (256 * y)
  rw [show x / 256 = 0 from by omega, show 256 * y / 256 = y from by omega, Nat.zero_xor] at h1
  rw [show x % 256 = x from by omega, show 256 * y % 256 = 0 from by omega, Nat.xor_zero] at h2
  omega
theorem cst_xor (a b : Nat) : cst (a ^^^ b) = cst a ^^^ cst b := by
  have h1 : (a ^^^ b) / 2 = a / 2 ^^^ b / 2 := Nat.xor_div_two
  have h2 := @Nat.xor_mod_two_pow a b 1
  simp only [Nat.pow_one] at h2
  unfold cst
  rw [h1]
  rcases Nat.mod_two_eq_zero_or_one a with ha | ha <;> rcases Nat.mod_two_eq_zero_or_one b with hb | hb <;> rw [ha, hb] at h2 <;> rw [h2] <;> simp [ha, hb]
  · rw [Nat.xor_assoc]
  · exact xor_move _ _ _
  · exact (xor_same _ _ _).symm
theorem cst_lt {v : Nat} (h : v < 4294967296) : cst v < 4294967296 := by
  unfold cst
  split
  · exact Nat.xor_lt_two_pow (n := 32) (by omega) (by omega)
  · omega
theorem cst_two (y : Nat) : cst (2 * y) = y := by
  unfold cst
  rw [if_neg (by omega)]
  omega
theorem cstN_xor : ∀ n a b, cstN n (a ^^^ b) = cstN n a ^^^ cstN n b
  | 0, _, _ => rfl
  | n + 1, a, b => by rw [cstN, cst_xor, cstN_xor n]; rfl
theorem cstN_lt : ∀ n {v}, v < 4294967296 → cstN n v < 4294967296
  | 0, _, h => h
  | n + 1, _, h => cstN_lt n (cst_lt h)
theorem cstN_pow : ∀ k y, cstN k (2 ^ k * y) = y
  | 0, y => by simp [cstN]
  | k + 1, y => by
    rw [cstN, Nat.pow_succ, Nat.mul_assoc, Nat.mul_left_comm, cst_two, cstN_pow k]
theorem cstN_256 (y : Nat) : cstN 8 (256 * y) = y := cstN_pow 8 y
theorem cstN_row (v : Nat) : cstN 8 v = v / 256 ^^^ cstN 8 (v % 256) := by
  have h : v = v % 256 ^^^ 256 * (v / 256) := by rw [xor_add256 _ _ (by omega)]; omega
  conv => lhs; rw [h, cstN_xor, cstN_256, Nat.xor_comm]
theorem run_cons (v : Nat) (b : UInt8) (r : List UInt8) : crcRun v (b :: r) = crcRun (cstN 8 (v ^^^ b.toNat)) r := rfl
theorem run_append : ∀ (a b : List UInt8) (v : Nat), crcRun v (a ++ b) = crcRun (crcRun v a) b
  | [], _, _ => rfl
  | x :: a, b, v => by rw [List.cons_append, run_cons, run_cons, run_append a b]
theorem run_snoc (a : List UInt8) (b : UInt8) (v : Nat) : crcRun v (a ++ [b]) = cstN 8 (crcRun v a ^^^ b.toNat) := by rw [run_append]; rfl
theorem run_lt : ∀ (bs : List UInt8) {v : Nat}, v < 4294967296 → crcRun v bs < 4294967296
  | [], _, h => h
  | b :: r, v, h => by
    rw [run_cons]
    exact run_lt r (cstN_lt 8 (Nat.xor_lt_two_pow (n := 32) h (by have := b.toNat_lt; omega)))
theorem more_lt {s : Nat} (h : s < 4294967296) (bs : List UInt8) : crcMore s bs < 4294967296 :=
  Nat.xor_lt_two_pow (n := 32) (by omega) (run_lt bs (Nat.xor_lt_two_pow (n := 32) (by omega) h))
theorem sum_lt (bs : List UInt8) : crcSum bs < 4294967296 := more_lt (by omega) bs
theorem more_append (s : Nat) (a b : List UInt8) : crcMore s (a ++ b) = crcMore (crcMore s a) b := by
  unfold crcMore
  rw [run_append, xor_back]
theorem more_nil (s : Nat) : crcMore s [] = s := by
  unfold crcMore
  exact xor_back _ _
theorem sum_append (a b : List UInt8) : crcSum (a ++ b) = crcMore (crcSum a) b := more_append 0 a b
theorem sum_nil : crcSum [] = 0 := more_nil 0
end Go.Proofs.YtoohpcomnhfgpaaGreat
end
section
namespace Go.Proofs.YtoohpcomnhfgpaaGreat
theorem cstN_next : ∀ n v, cstN (n + 1) v = cst (cstN n v)
  | 0, _ => rfl
  | n + 1, v => cstN_next n (cst v)
end Go.Proofs.YtoohpcomnhfgpaaGreat
end
section
namespace Go.Proofs.YtoohpcomnhfgpaaGreat
open Go.RowKit
set_option linter.all false
def Rd (w : World) (g : Nat) (S : Nat → Prop) (code : Int) (bs : List UInt8) : Prop :=
  ∃ A c, Blk w g 331 #[.int .i64 code, .slice A bs.length c] ∧ Byt w S (.slice A bs.length c) bs ∧ ¬ S g
theorem Rd.only {w w' : World} {g : Nat} {S T : Nat → Prop} {code : Int} {bs : List UInt8} (h : Rd w g S code bs) (ho : Only T w w') (hg : ¬ T g) (hn : ∀ b, S b → ¬ T b) : Rd w' g S code bs := by
  obtain ⟨A, c, hb, hy, hs⟩ := h
  exact ⟨A, c, hb.only ho hg, hy.only ho hn, hs⟩
theorem Rd.lt {w : World} {g : Nat} {S : Nat → Prop} {code : Int} {bs : List UInt8} (h : Rd w g S code bs) : g < w.heap.size := by
  obtain ⟨A, c, hb, _⟩ := h
  exact hb.lt
theorem reader_err (g : Nat) (S : Nat → Prop) (code : Int) (bs : List UInt8) (w : World) (h : Rd w g S code bs) :
    Calls Tryz.prog 221 #[.pointer (some ⟨g, 0, none⟩)] w fun e w' => e = .returned (.int .i64 code) ∧ w = w' := by
  obtain ⟨A, c, hb, hy⟩ := h
  exact fault_err _ _ _ _ _ hb rfl
theorem reader_fail (g : Nat) (S : Nat → Prop) (code k : Int) (bs : List UInt8) (w : World) (h : Rd w g S code bs) :
    Calls Tryz.prog 220 #[.pointer (some ⟨g, 0, none⟩), .int .i64 k] w fun e w' => e = .returned (.tuple #[]) ∧ Rd w' g S (first_ code k) bs ∧ Only (one g) w w' := by
  obtain ⟨A, c, hb, hy, hs⟩ := h
  refine (fault_fail _ _ _ _ k _ hb rfl).mono ?_
  rintro e w' ⟨rfl, h1, h2⟩
  exact ⟨rfl, ⟨A, c, by simpa using h1, hy.only h2 (fun b hb e => hs (e ▸ hb)), hs⟩, h2⟩
theorem reader_left (g : Nat) (S : Nat → Prop) (code : Int) (bs : List UInt8) (w : World) (h : Rd w g S code bs) :
    Calls Tryz.prog 222 #[.pointer (some ⟨g, 0, none⟩)] w fun e w' => e = .returned (.int .i64 (bs.length : Int)) ∧ w = w' := by
  obtain ⟨A, c, hb, hy, hs⟩ := h
  have h1 : w.cell? ⟨g, 1, none⟩ = some (.slice A bs.length c) := hb.cell_ rfl
  clear hb hy
  go_enter Tryz.func222, Tryz.ntmps222
  go_wp2
  go_ret
  exact ⟨rfl, rfl⟩
def doneCode (code : Int) (bs : List UInt8) : Int := if 0 < bs.length then first_ code 4 else code
theorem reader_done (g : Nat) (S : Nat → Prop) (code : Int) (bs : List UInt8) (w : World) (h : Rd w g S code bs) :
    Calls Tryz.prog 176 #[.pointer (some ⟨g, 0, none⟩)] w fun e w' => e = .returned (.int .i64 (doneCode code bs)) ∧ Rd w' g S (doneCode code bs) bs ∧ Only (one g) w w' := by
  have H := Lib.hid h
  clear h
  by_cases h0 : 0 < bs.length
  · have HD : Hid (doneCode code bs = first_ code 4) := by simp only [Hid, doneCode, if_pos h0]
    go_enter Tryz.func176, Tryz.ntmps176
    go_wp2_with (first
      | (go_at_call 222; refine (reader_left _ _ _ _ _ H.out).mono ?_; rintro e w' ⟨rfl, rfl⟩)
      | (go_at_call 220; refine (reader_fail _ _ _ _ _ _ H.out).mono ?_; rintro e w1 ⟨rfl, h1, o1⟩; have H1 := Lib.hid h1; clear h1)
      | (go_at_call 221; refine (reader_err _ _ _ _ _ H1.out).mono ?_; rintro e w' ⟨rfl, rfl⟩))
    go_ret
    rw [HD.out]
    exact ⟨rfl, H1.out, o1⟩
  · have HD : Hid (doneCode code bs = code) := by simp only [Hid, doneCode, if_neg h0]
    go_enter Tryz.func176, Tryz.ntmps176
    go_wp2_with (first
      | (go_at_call 222; refine (reader_left _ _ _ _ _ H.out).mono ?_; rintro e w' ⟨rfl, rfl⟩)
      | (go_at_call 221; refine (reader_err _ _ _ _ _ H.out).mono ?_; rintro e w' ⟨rfl, rfl⟩))
    go_ret
    rw [HD.out]
    exact ⟨rfl, H.out, Only.refl _ _⟩
end Go.Proofs.YtoohpcomnhfgpaaGreat
end
section
namespace Go.Proofs.YtoohpcomnhfgpaaGreat
open Go.RowKit
set_option linter.all false
theorem take_ok (g : Nat) (S : Nat → Prop) (bs : List UInt8) (n : Nat) (w : World) (h : Rd w g S 0 bs) (hn : n ≤ bs.length) (_hm : bs.length ≤ 9223372036854775807) :
    Calls Tryz.prog 277 #[.pointer (some ⟨g, 0, none⟩), .int .i64 (n : Int)] w fun e w' =>
      ∃ A c, e = .returned (.tuple #[.slice A n c, .bool true]) ∧ Byt w' S (.slice A n c) (bs.take n) ∧ Rd w' g S 0 (bs.drop n) ∧ Only (one g) w w' := by
  obtain ⟨A, c, hb, hy, hs⟩ := h
  have h1 : w.cell? ⟨g, 1, none⟩ = some (.slice A bs.length c) := hb.cell_ rfl
  have h0 := hb.frozen 1
  obtain ⟨i0, hi0, _, hz1, _⟩ := info_parts u8_info
  obtain ⟨A1, r1, b1⟩ := byt_hi Tryz.underlying114 hi0 hy n hn _ rfl
  obtain ⟨A2, L2, c2, r2, b2⟩ := byt_lo Tryz.underlying114 hi0 hz1 hy n hn _ rfl
  have HB := Lib.hid hb
  have HE : ∀ w', w = w' → Rd w' g S 0 bs := by rintro w' rfl; exact ⟨A, c, hb, hy, hs⟩
  have HH := Lib.hid HE
  have B1 := Lib.hid b1
  have B2 := Lib.hid b2
  clear hb hy HE b1 b2 hi0 hz1
  go_enter Tryz.func277, Tryz.ntmps277
  go_wp2_with (first
      | (go_at_call 221; refine (reader_err _ _ _ _ _ (HH.out _ rfl)).mono ?_; rintro e w' ⟨rfl, rfl⟩))
  go_ret2
  have o1 : Only (one g) w (w.setCell ⟨g, 1, none⟩ (.slice A2 L2 c2)) := (Only.refl (one g) w).setCell (.inl (show one g g from rfl)) _
  have hL : L2 = (bs.drop n).length := by
    obtain ⟨_, _, he, _⟩ := B2.out
    injection he
  refine ⟨A1, c, rfl, B1.out.only o1 (fun b hb e => hs (e ▸ hb)), ⟨A2, c2, ?_, ?_, hs⟩, o1⟩
  · rw [← hL]
    exact HB.out.set_ 1 (.slice A2 L2 c2)
  · rw [← hL]
    exact B2.out.only o1 (fun b hb e => hs (e ▸ hb))
def takeCode (code : Int) (bs : List UInt8) (n : Nat) : Int := if bs.length < n then first_ code 6 else code
theorem take_no (g : Nat) (S : Nat → Prop) (code : Int) (bs : List UInt8) (n : Nat) (w : World) (h : Rd w g S code bs) (hn : code ≠ 0 ∨ bs.length < n) (_hm : bs.length ≤ 9223372036854775807) :
    Calls Tryz.prog 277 #[.pointer (some ⟨g, 0, none⟩), .int .i64 (n : Int)] w fun e w' =>
      e = .returned (.tuple #[.slice none 0 0, .bool false]) ∧ Rd w' g S (takeCode code bs n) bs ∧ Only (one g) w w' := by
  have H := Lib.hid h
  obtain ⟨A, c, hb, hy, hs⟩ := h
  have h1 : w.cell? ⟨g, 1, none⟩ = some (.slice A bs.length c) := hb.cell_ rfl
  clear hb hy
  by_cases h0 : bs.length < n
  · have HT : Hid (takeCode code bs n = first_ code 6) := by simp only [Hid, takeCode, if_pos h0]
    have hf : (first_ code 6 != 0) = true := by unfold first_; split <;> simp_all
    clear hn
    go_enter Tryz.func277, Tryz.ntmps277
    go_wp2_with (first
      | (go_at_call 220; refine (reader_fail _ _ _ _ _ _ H.out).mono ?_; rintro e w1 ⟨rfl, h2, o2⟩; have H2 := Lib.hid h2; clear h2)
      | (go_at_call 221; refine (reader_err _ _ _ _ _ H2.out).mono ?_; rintro e w' ⟨rfl, rfl⟩))
    go_ret2
    rw [HT.out]
    exact ⟨rfl, H2.out, o2⟩
  · have HT : Hid (takeCode code bs n = code) := by simp only [Hid, takeCode, if_neg h0]
    have hf : (code != 0) = true := by rcases hn with h | h <;> simp_all
    clear hn
    go_enter Tryz.func277, Tryz.ntmps277
    go_wp2_with (first
      | (go_at_call 221; refine (reader_err _ _ _ _ _ H.out).mono ?_; rintro e w' ⟨rfl, rfl⟩))
    go_ret2
    rw [HT.out]
    exact ⟨rfl, H.out, Only.refl _ _⟩
end Go.Proofs.YtoohpcomnhfgpaaGreat
end
section
namespace Go.Proofs.YtoohpcomnhfgpaaGreat
open Go.RowKit
set_option linter.all false
theorem read_any (x : Value) (bs : List UInt8) (S : Nat → Prop) (w : World) (h : Byt w S x bs) (hb : bs.length ≤ 140737488355328) :
    Calls Tryz.prog 174 #[x] w fun e w' => ∃ g S, e = .returned (.pointer (some ⟨g, 0, none⟩)) ∧ w.heap.size ≤ g ∧ Rd w' g S 0 bs ∧ (∀ b, S b → w.heap.size ≤ b ∧ b < w'.heap.size) ∧ Only none_ w w' := by
  have H := Lib.hid h
  clear h
  go_enter Tryz.func174, Tryz.ntmps174
  go_wp2_with (first
      | (go_at_call 168; refine (bytes_clone _ _ _ _ H.out hb).mono ?_; rintro e w2 ⟨A3, n3, c3, rfl, hw3, o3⟩))
  go_ret
  have h5 : Byt w2 (fun b => w.heap.size ≤ b ∧ b < w2.heap.size) (.slice A3 n3 c3) bs := by
    refine (Byt.of_own hw3).mono fun b hb hk => ?_
    have := hw3.lt b hk
    exact ⟨this.1, by omega⟩
  refine ⟨_, (fun b => w.heap.size ≤ b ∧ b < w2.heap.size), rfl, o3.size, ?_, fun b hb => ⟨hb.1, by simp only [World.size_alloc]; omega⟩, o3.alloc _⟩
  have h6 := h5
  obtain ⟨_, _, he, _⟩ := h6
  injection he with e1 e2 e3
  subst e2
  exact ⟨A3, c3, Blk.new _ _ _, h5.alloc _, fun h => absurd h.2 (Nat.lt_irrefl _)⟩
end Go.Proofs.YtoohpcomnhfgpaaGreat
end
section
namespace Go.Proofs.YtoohpcomnhfgpaaGreat
open Go.RowKit
set_option linter.all false
def leVal : List UInt8 → Nat
  | [] => 0
  | b :: r => b.toNat + 256 * leVal r
theorem leVal_lt : ∀ bs : List UInt8, leVal bs < 256 ^ bs.length
  | [] => by simp [leVal]
  | b :: r => by
    have h1 := leVal_lt r
    have h2 := b.toNat_lt
    simp only [leVal, List.length_cons, Nat.pow_succ]
    omega
theorem leVal_snoc : ∀ (bs : List UInt8) (b : UInt8), leVal (bs ++ [b]) = leVal bs + 256 ^ bs.length * b.toNat
  | [], b => by simp [leVal]
  | x :: r, b => by
    simp only [List.cons_append, leVal, leVal_snoc r b, List.length_cons, Nat.pow_succ]
    rw [Nat.mul_add, Nat.mul_comm (256 ^ r.length) 256, Nat.mul_assoc]
    omega
def numR (code : Int) (bs : List UInt8) (width : Int) : Int × List UInt8 × Nat :=
  if isW width = true then (if code = 0 ∧ width.toNat ≤ bs.length then (0, bs.drop width.toNat, leVal (bs.take width.toNat)) else (takeCode code bs width.toNat, bs, 0)) else (first_ code 1, bs, 0)
theorem or_step (v z k : Nat) (hk : k < 8) (hv : v < 256 ^ k) (hz : z < 256) :
    bits .or .u64 (v : Int) (IntKind.u64.wrap ((z : Int) * 2 ^ (8 * k))) = ((v + 256 ^ k * z : Nat) : Int) := by
  have e1 : (256 : Nat) ^ k = 2 ^ (8 * k) := by rw [Nat.pow_mul]
  rw [e1] at hv ⊢
  have h1 : 2 ^ (8 * k) * 256 ≤ 18446744073709551616 := by
    have : 2 ^ (8 * k) ≤ 2 ^ 56 := Nat.pow_le_pow_right (by omega) (by omega)
    omega
  have h2 : z * 2 ^ (8 * k) < 18446744073709551616 := by
    have : z * 2 ^ (8 * k) < 256 * 2 ^ (8 * k) := Nat.mul_lt_mul_of_pos_right hz (Nat.two_pow_pos _)
    rw [Nat.mul_comm 256] at this
    omega
  have e2 : ((z : Int) * 2 ^ (8 * k)) = ((z * 2 ^ (8 * k) : Nat) : Int) := by push_cast; rfl
  have e3 : IntKind.u64.wrap ((z * 2 ^ (8 * k) : Nat) : Int) = ((z * 2 ^ (8 * k) : Nat) : Int) := IntWalk.u64_in _ (by omega)
  rw [e2, e3, u64_or_nat _ _ (by omega) h2, Nat.or_comm, nat_join (8 * k) (z * 2 ^ (8 * k)) v (by simp) hv, Nat.mul_comm z, Nat.add_comm]
theorem le_take (xs : List UInt8) (k : Nat) (hk : k < xs.length) : leVal (xs.take (k + 1)) = leVal (xs.take k) + 256 ^ k * xs[k].toNat := by
  rw [List.take_succ_eq_append_getElem hk, leVal_snoc]
  congr 2
  rw [List.length_take, Nat.min_eq_left (by omega)]
theorem le_take_lt (xs : List UInt8) (k : Nat) (hk : k ≤ xs.length) : leVal (xs.take k) < 256 ^ k := by
  have := leVal_lt (xs.take k)
  rwa [List.length_take, Nat.min_eq_left hk] at this
set_option maxHeartbeats 400000 in
theorem reader_number (g : Nat) (S : Nat → Prop) (code : Int) (bs : List UInt8) (width : Int) (w : World) (h : Rd w g S code bs) (hm : bs.length ≤ 140737488355328) :
    Calls Tryz.prog 251 #[.pointer (some ⟨g, 0, none⟩), .int .i64 width] w fun e w' =>
      e = .returned (.int .u64 ((numR code bs width).2.2 : Int)) ∧ Rd w' g S (numR code bs width).1 (numR code bs width).2.1 ∧ Only (one g) w w' := by
  have H := Lib.hid h
  clear h
  by_cases hw : isW width = true
  · have hr : 1 ≤ width ∧ width ≤ 8 := by simpa [isW] using hw
    obtain ⟨m, rfl⟩ : ∃ m : Nat, width = m := ⟨width.toNat, by omega⟩
    obtain ⟨hm1, hm2⟩ : 1 ≤ m ∧ m ≤ 8 := by omega
    clear hr
    have HW := Lib.hid hw
    by_cases h1 : code = 0 ∧ m ≤ bs.length
    · obtain ⟨rfl, h1⟩ := h1
      have HR : Hid (numR 0 bs (m : Int) = (0, bs.drop m, leVal (bs.take m))) := by simp only [Hid, numR, hw, Int.toNat_natCast, h1, true_and, if_true]
      clear hw
      obtain ⟨xs, hxs⟩ : ∃ xs, xs = bs.take m := ⟨_, rfl⟩
      have hxl : Hid (xs.length = m) := by rw [hxs]; simp only [Hid, List.length_take]; omega
      rw [← hxs] at HR
      have HT := take_ok g S bs m w H.out h1 (by omega)
      rw [← hxs] at HT
      clear hxs
      go_enter Tryz.func251, Tryz.ntmps251
      go_wp2_with (first
        | (go_at_call 269; refine (isWidth_any _ _).mono ?_; rintro e w' ⟨rfl, rfl⟩; rw [HW.out])
        | (go_at_call 277; refine HT.mono ?_; rintro e w1 ⟨A, c, rfl, hb2, h2, o2⟩; have H2 := Lib.hid h2; clear h2))
      obtain ⟨A', c', he, _, _, _, hcs⟩ := hb2
      injection he with e1 e2 e3
      subst e1 e3
      obtain ⟨b, off, rfl, _, _, hc⟩ := hcs (by rw [hxl.out]; omega)
      have HC := Lib.hid hc
      clear hcs hc e2
      go_loop [7, 25] (fun v i => ∃ k : Nat, k ≤ m ∧ i = .int .i64 k ∧ v = .int .u64 (leVal (xs.take k))) (fun _ i => m - (intOf i).toNat)
      case atStart => exact ⟨0, by omega, rfl, by simp [leVal]⟩
      case round =>
        obtain ⟨k, hk, rfl, rfl⟩ := hrel
        by_cases hlt : k < m
        · have hz : w1.cell? ⟨b, off + k, none⟩ = some (.int .u8 ((xs[k]'(by rw [hxl.out]; exact hlt)).toNat : Int)) := HC.out k _
          obtain ⟨z, hzz⟩ : ∃ z, z = xs[k]'(by rw [hxl.out]; exact hlt) := ⟨_, rfl⟩
          rw [← hzz] at hz
          have hz8 := z.toNat_lt
          have HS : Hid (bits .or .u64 (leVal (xs.take k) : Int) (IntKind.u64.wrap ((z.toNat : Int) * 2 ^ (8 * k))) = (leVal (xs.take (k + 1)) : Int)) := by
            have h5 := le_take xs k (by rw [hxl.out]; exact hlt)
            rw [← hzz] at h5
            rw [Hid, h5]
            exact or_step _ _ k (by omega) (le_take_lt xs k (by rw [hxl.out]; exact hk)) hz8
          clear hzz
          go_wp2
          go_round
          case rel => exact ⟨k + 1, by omega, by go_num, by rw [HS.out]⟩
          case measure => simp [intOf]; omega
        · have HK : Hid (xs.take k = xs) := List.take_of_length_le (by rw [hxl.out]; omega)
          go_wp2
          go_ret
          rw [HR.out, HK.out]
          exact ⟨rfl, H2.out, o2⟩
    · have HR : Hid (numR code bs (m : Int) = (takeCode code bs m, bs, 0)) := by simp only [Hid, numR, hw, Int.toNat_natCast, h1, if_true, if_false]
      have h2 : code ≠ 0 ∨ bs.length < m := by
        by_cases hc : code = 0
        · exact .inr (by have : ¬ m ≤ bs.length := fun h => h1 ⟨hc, h⟩; omega)
        · exact .inl hc
      clear h1 hw
      have HC := Lib.hid h2
      clear h2
      go_enter Tryz.func251, Tryz.ntmps251
      go_wp2_with (first
        | (go_at_call 269; refine (isWidth_any _ _).mono ?_; rintro e w' ⟨rfl, rfl⟩; rw [HW.out])
        | (go_at_call 277; refine (take_no _ _ _ _ _ _ H.out HC.out (by omega)).mono ?_; rintro e w1 ⟨rfl, h2, o2⟩; have H2 := Lib.hid h2; clear h2))
      refine wp_loop_rounds 1 ?_
      rw [rounds_succ]
      go_wp2
      go_ret
      rw [HR.out]
      exact ⟨rfl, H2.out, o2⟩
  · have hw' : isW width = false := by simpa using hw
    have HR : Hid (numR code bs width = (first_ code 1, bs, 0)) := by simp [Hid, numR, hw']
    have HW := Lib.hid hw'
    clear hw hw'
    go_enter Tryz.func251, Tryz.ntmps251
    go_wp2_with (first
      | (go_at_call 269; refine (isWidth_any _ _).mono ?_; rintro e w' ⟨rfl, rfl⟩; rw [HW.out])
      | (go_at_call 220; refine (reader_fail _ _ _ _ _ _ H.out).mono ?_; rintro e w1 ⟨rfl, h2, o2⟩; have H2 := Lib.hid h2; clear h2))
    go_ret
    rw [HR.out]
    exact ⟨rfl, H2.out, o2⟩
end Go.Proofs.YtoohpcomnhfgpaaGreat
end
section
namespace Go.Proofs.YtoohpcomnhfgpaaGreat
open Go.RowKit
set_option linter.all false
set_option maxRecDepth 100000
theorem two_put (n : Nat) (hn : n < 65536) (bs : List UInt8) : numCode 0 n 2 = 0 ∧ numBs 0 bs n 2 = bs ++ leBytes n 2 := by
  have h : n / 65536 = 0 := by omega
  constructor
  · simp [numCode, isW, h]
  · simp [numBs, isW, putS, h]
def recCode (n : Nat) : Int := if n = 0 then 1 else if 512 < n then 7 else 0
def hdB (n : Nat) : List UInt8 := crcMark (leBytes n 2)
def recB (bs : List UInt8) : List UInt8 := hdB bs.length ++ crcMark bs
theorem mark_len7 (bs : List UInt8) : (crcMark bs).length = bs.length + 4 := by simp [crcMark, lowB]
theorem hdB_len (n : Nat) : (hdB n).length = 6 := by rw [hdB, mark_len7, leBytes_length]
theorem recB_len (bs : List UInt8) : (recB bs).length = bs.length + 10 := by rw [recB, List.length_append, hdB_len, mark_len7]; omega
def jnN (bs : List UInt8) : Nat := leVal (bs.take 2)
def jnK (bs : List UInt8) : Nat :=
  if bs.length < 6 then 1
  else if crcHolds (bs.take 6) = false ∨ jnN bs < 1 ∨ 512 < jnN bs then 2
  else if bs.length < 10 + jnN bs then 1
  else if crcHolds ((bs.drop 6).take (jnN bs + 4)) = false then 2
  else 0
def jnB (bs : List UInt8) : List UInt8 := (bs.drop 6).take (jnN bs)
def jnR : Nat → List (List UInt8) → Nat → List UInt8 → List (List UInt8) × Nat × Int
  | 0, acc, at_, _ => (acc, at_, 0)
  | f + 1, acc, at_, bs => if jnK bs = 2 then ([], 0, 12) else if jnK bs = 1 then (acc, at_, 0) else jnR f (acc ++ [jnB bs]) (at_ + (10 + jnN bs)) (bs.drop (10 + jnN bs))
def jnRead (bs : List UInt8) : List (List UInt8) × Nat × Int := jnR (bs.length + 1) [] 0 bs
theorem jnK_zero {bs : List UInt8} (h : jnK bs = 0) : 6 ≤ bs.length ∧ crcHolds (bs.take 6) = true ∧ 1 ≤ jnN bs ∧ jnN bs ≤ 512 ∧ 10 + jnN bs ≤ bs.length ∧ crcHolds ((bs.drop 6).take (jnN bs + 4)) = true := by
  unfold jnK at h
  split at h
  · cases h
  · next h1 =>
    split at h
    · cases h
    · next h2 =>
      split at h
      · cases h
      · next h3 =>
        split at h
        · cases h
        · next h4 =>
          refine ⟨by omega, ?_, by omega, by omega, by omega, by simpa using h4⟩
          cases hc : crcHolds (bs.take 6)
          · exact absurd (.inl hc) h2
          · rfl
theorem jnK_cases (bs : List UInt8) : jnK bs = 0 ∨ jnK bs = 1 ∨ jnK bs = 2 := by
  unfold jnK
  split
  · exact .inr (.inl rfl)
  · split
    · exact .inr (.inr rfl)
    · split
      · exact .inr (.inl rfl)
      · split
        · exact .inr (.inr rfl)
        · exact .inl rfl
theorem jnR_step (f : Nat) (acc : List (List UInt8)) (n : Nat) (bs : List UInt8) : jnR (f + 1) acc n bs = if jnK bs = 2 then ([], 0, 12) else if jnK bs = 1 then (acc, n, 0) else jnR f (acc ++ [jnB bs]) (n + (10 + jnN bs)) (bs.drop (10 + jnN bs)) := rfl
end Go.Proofs.YtoohpcomnhfgpaaGreat
end
section
namespace Go.Proofs.YtoohpcomnhfgpaaGreat
open Go.RowKit
set_option maxRecDepth 100000
set_option linter.all false
attribute [local go_sem ↓] Go.wp_at_zero Go.wp_at_succ
theorem grow_nil (n : Nat) (h0 : 0 < n) (hn : n ≤ 1000000) (w : World) :
    Calls Tryz.prog 296 #[.slice none 0 0, .int .i64 (n : Int)] w fun e w' => ∃ A m c, e = .returned (.slice A m c) ∧ w'.ownsRow w.heap.size 5 1 (.slice A m c) ([] : List UInt8).length (byts []) ∧ Only none_ w w' := by
  obtain ⟨i0, hi0, hz0, hz1, hz2⟩ := info_parts u8_info
  have hr := fun ty => Lib.run_append_nil_zeros (P := Tryz.prog) w 114 3 ty 5 i0 (.int .u8 0) .i64 .i64 Tryz.underlying114 Tryz.underlying3 hi0 hz0 n h0 (by omega) (by omega) (by rw [hz2]; omega)
  obtain ⟨cap, hcap⟩ : ∃ c, grownCap w n 0 5 = c := ⟨_, rfl⟩
  have hge := grownCap_ge w n 0 5
  have hle := grownCap_le_maxLen w n 0 5 (by simp only [maxLen]; omega)
  rw [hcap] at hge hle hr
  obtain ⟨M, hM⟩ : ∃ M, Builtin.zeroCells (Value.int .u8 0).cells n ++ Builtin.zeroCells (Value.int .u8 0).cells (cap - n) = M := ⟨_, rfl⟩
  have hMs : M.size = cap := by
    rw [← hM, Array.size_append, size_zeroCells, size_zeroCells]
    simp [Value.cells]
    try omega
  rw [hM] at hr
  have HM := Lib.hid hMs
  have HL := Lib.hid hle
  have hc0 : (0 : Int) ≤ (cap : Int) := by omega
  have hn0 : decide ((n : Int) < 0) = false := by rw [decide_eq_false_iff_not]; omega
  have hnp : decide ((0 : Int) < (n : Int)) = true := by simp; omega
  clear hM hMs hle hge hcap
  go_enter Tryz.func296, Tryz.ntmps296
  go_wp2_with (first
    | (at_builtin; refine Lib.wpList_append_run _ rfl _ _ _ _ rfl _ _ rfl rfl _ _ (hr _) ?_))
  go_ret
  exact ⟨_, _, _, rfl, World.ownsRow_made w.drew M cap (Nat.le_refl _) HL.out (by have := HM.out; omega), ((Only.refl none_ w).drew).alloc _⟩
theorem rows_cell {w : World} {S : Nat → Prop} {A : Option Addr} {L c : Nat} {pss : List (List UInt8)} (h : Rows_ w S (.slice A L c) pss) (j : Nat) (hj : j < L) : ∃ b off A1 L1 c1, A = some ⟨b, off, none⟩ ∧ S b ∧ b < w.heap.size ∧ w.cell? ⟨b, off + j, none⟩ = some (.slice A1 L1 c1) ∧ ∃ hp : j < pss.length, L1 = pss[j].length ∧ Byt w S (.slice A1 L1 c1) pss[j] := by
  obtain ⟨A0, c0, e0, _, h4⟩ := h
  injection e0 with e1 e2 e3
  have hp : j < pss.length := by omega
  obtain ⟨b, off, rfl, hs, hb, hc⟩ := h4 (by omega)
  obtain ⟨x, hcx, hbx⟩ := hc j hp
  obtain ⟨A1, c1, hx1, _⟩ := id hbx
  subst hx1
  exact ⟨b, off, A1, _, c1, e1, hs, hb, hcx, hp, rfl, hbx⟩
theorem flat_snoc' (pss : List (List UInt8)) (k : Nat) (hk : k < pss.length) : (pss.take (k + 1)).flatten = (pss.take k).flatten ++ pss[k] := by
  rw [List.take_succ_eq_append_getElem hk, List.flatten_append]; rw [List.flatten_singleton]
theorem flat_le' (pss : List (List UInt8)) (k : Nat) : (pss.take k).flatten.length ≤ pss.flatten.length := by
  conv => rhs; rw [← List.take_append_drop k pss]
  rw [List.flatten_append, List.length_append]; omega
set_option maxHeartbeats 1600000 in
theorem concat_any (pv : Value) (pss : List (List UInt8)) (S : Nat → Prop) (w : World) (hp : Rows_ w S pv pss) (h0 : 0 < pss.flatten.length) (hm : pss.flatten.length ≤ 1000000) :
    Calls Tryz.prog 290 #[pv] w fun e w' => ∃ A n c, e = .returned (.slice A n c) ∧ w'.ownsRow w.heap.size 5 1 (.slice A n c) pss.flatten.length (byts pss.flatten) ∧ Only none_ w w' := by
  obtain ⟨i0, hi0, hz0, hz1, hz2⟩ := info_parts u8_info
  have hv : ∃ A c, pv = .slice A pss.length c ∧ pss.length ≤ maxLen := by obtain ⟨A, c, h, h1, _⟩ := hp; exact ⟨A, c, h, h1⟩
  obtain ⟨A, c, rfl, hmx⟩ := hv
  obtain ⟨L, hL⟩ : ∃ L, L = pss.length := ⟨_, rfl⟩
  rw [← hL] at hp hmx ⊢
  have hLm : L ≤ 9223372036854775807 := by simp only [maxLen] at hmx; omega
  obtain ⟨N, hN⟩ : ∃ N, pss.flatten.length = N := ⟨_, rfl⟩
  have HN := Lib.hid hN
  rw [hN] at h0 hm
  have hG := grow_nil N h0 hm
  have HP := Lib.hid hp
  have HL := Lib.hid hL
  clear hp hL hmx hN
  go_enter Tryz.func290, Tryz.ntmps290
  go_wp2
  go_loop [3, 11] (fun x k => ∃ j : Nat, j ≤ L ∧ k = .int .i64 j ∧ x = .int .i64 ((pss.take j).flatten.length : Int)) (fun _ k => L - (intOf k).toNat)
  case atStart => exact ⟨0, by omega, rfl, by simp⟩
  case round =>
    obtain ⟨j, hj, rfl, rfl⟩ := hrel
    by_cases hlb : j < L
    · obtain ⟨b, off, A1, L1, c1, rfl, hq1, hq2, hc, hp, hL1, hq3⟩ := rows_cell HP.out j hlb
      have hs := flat_snoc' pss j hp
      have hle := flat_le' pss (j + 1)
      rw [HN.out, hs, List.length_append] at hle
      obtain ⟨s, hse⟩ : ∃ s, (pss.take j).flatten.length = s := ⟨_, rfl⟩
      rw [hse, ← hL1] at hle
      have hs2 : (pss.take (j + 1)).flatten.length = s + L1 := by rw [hs, List.length_append, hse, hL1]
      rw [hse]
      have HS2 := Lib.hid hs2
      have hw : IntKind.i64.wrap ((s : Int) + (L1 : Int)) = (s : Int) + (L1 : Int) := IntWalk.i64_in _ (by omega)
      have hneg : decide ((s : Int) + (L1 : Int) < 0) = false := by rw [decide_eq_false_iff_not]; omega
      clear hs hs2 hse hL1 hq3 hp hq1 hq2
      go_wp2
      go_round
      case rel => exact ⟨j + 1, by omega, by go_num, by rw [HS2.out]; push_cast; rfl⟩
      case measure => simp [intOf]; omega
    · have hjL : (pss.take j).flatten.length = N := by rw [List.take_of_length_le (by have := HL.out; omega)]; exact HN.out
      rw [hjL]
      clear hjL
      go_wp2_with (first
        | (go_at_call 296; refine (hG _).mono ?_; rintro e w1 ⟨A1, m1, c1, rfl, own, o⟩
           have OW := Lib.hid own
           have OO := Lib.hid o
           clear own o))
      go_loopw [6, 27] (fun v k wr => ∃ j : Nat, j ≤ L ∧ k = .int .i64 j ∧ ∃ A' n' c', v = .slice A' n' c' ∧ wr.ownsRow w.heap.size 5 1 (.slice A' n' c') (pss.take j).flatten.length (byts (pss.take j).flatten) ∧ Only none_ w wr) (fun _ k _ => L - (intOf k).toNat)
      case atStart => exact ⟨0, by omega, rfl, _, _, _, rfl, by simpa using OW.out, OO.out⟩
      case round =>
        obtain ⟨k, hk, rfl, A2, n2, c2, rfl, hown, ho⟩ := hrel
        by_cases hlt : k < L
        · obtain ⟨b, off, A3, L3, c3, rfl, hSb, hbw, hc, hp, hL3, hb3⟩ := rows_cell HP.out k hlt
          have hc' := (ho.cell (p := ⟨b, off + k, none⟩) hbw (fun h => h)).trans hc
          have hs := Lib.hid (flat_snoc' pss k hp)
          have hle := flat_le' pss (k + 1)
          rw [HN.out, hs.out, List.length_append] at hle
          have hsum : (pss.take k).flatten.length + pss[k].length ≤ 140737488355328 := by omega
          have HB := Lib.hid (hb3.only ho (fun _ _ h => h))
          have HO := Lib.hid ho
          have HW := Lib.hid hown
          clear hc hb3 ho hown hle hL3
          go_wp2_with (first
            | (at_builtin; refine wpList_append_byt _ rfl (.tmp 31) (.tmp 32) _ rfl w.heap.size 5 i0 (.int .u8 0) Tryz.underlying114 hi0 hz0 hz1 hz2 rfl _ _ rfl HW.out S _ _ rfl HB.out hsum HO.out.size ?_; intro A5 n5 c5 w5 hown5 hgrow5 hmv5))
          have hO : Only none_ w w5 := HO.out.grown hgrow5 (fun k hk => .inr (HW.out.lt k hk).1)
          go_roundw
          case rel => exact ⟨k + 1, by omega, by go_num, _, _, _, rfl, by rw [hs.out]; exact hown5, hO⟩
          case measure => simp [intOf]; omega
        · have hkk : Hid (pss.take k = pss) := List.take_of_length_le (by have := HL.out; omega)
          have HO := Lib.hid ho
          have HW := Lib.hid hown
          clear ho hown
          go_wp2
          go_ret
          have := HW.out
          rw [hkk.out] at this
          exact ⟨_, _, _, rfl, this, HO.out⟩
end Go.Proofs.YtoohpcomnhfgpaaGreat
end
section
namespace Go.Proofs.YtoohpcomnhfgpaaGreat
open Go.RowKit
set_option linter.all false
attribute [local go_sem ↓] Go.wp_at_zero Go.wp_at_succ
theorem cst_odd {u : Nat} (hu : u < 4294967296) (h : u % 2 = 1) : bits .xor .u32 ((u : Int) / 2) 3988292384 = ((cst u : Nat) : Int) := by
  have := u32_xor_nat (u / 2) 3988292384 (by omega) (by omega)
  rw [cst, if_pos h, ← this]
  rfl
theorem cst_even {u : Nat} (h : ¬ u % 2 = 1) : (u : Int) / 2 = ((cst u : Nat) : Int) := by
  rw [cst, if_neg h]
  rfl
end Go.Proofs.YtoohpcomnhfgpaaGreat
end
section
namespace Go.Proofs.YtoohpcomnhfgpaaGreat
open Go.RowKit
set_option linter.all false
attribute [local go_sem ↓] Go.wp_at_zero Go.wp_at_succ
theorem low_bit (u : Nat) (hu : u < 4294967296) : bits .and .u32 (u : Int) 1 = ((u % 2 : Nat) : Int) := by
  have := u32_and_nat u 1 hu (by omega)
  rw [Nat.and_one_is_mod] at this
  exact this
theorem move_any (v : Nat) (hv : v < 4294967296) (w : World) :
    Calls Tryz.prog 299 #[.int .u32 (v : Int)] w fun e w' => e = .returned (.int .u32 (cst v : Nat)) ∧ w = w' := by
  have hb := low_bit v hv
  by_cases h : v % 2 = 1
  · have hq : (((v % 2 : Nat) : Int) == 0) = false := by rw [h]; rfl
    have hx := cst_odd hv h
    clear h
    go_enter Tryz.func299, Tryz.ntmps299
    go_wp2
    go_ret
    exact ⟨rfl, rfl⟩
  · have hq : (((v % 2 : Nat) : Int) == 0) = true := by rw [show v % 2 = 0 from by omega]; rfl
    have hx := cst_even h
    clear h
    go_enter Tryz.func299, Tryz.ntmps299
    go_wp2
    go_ret
    exact ⟨rfl, rfl⟩
end Go.Proofs.YtoohpcomnhfgpaaGreat
end
