/- Texts of mine, one behind the other: RpG, EnI, RpH, RpI, RpJ, RpK, RpL, RpO, RpP. No statement of the seat is proved here. -/
import Derived.Test.YtoohpcomnhfgpaaGreatHn14
import Derived.Test.YtoohpcomnhfgpaaGreatHn6
import Derived.Test.YtoohpcomnhfgpaaGreatHn9
import Derived.Deep.DeepCutAuto
section
namespace Go.Proofs.YtoohpcomnhfgpaaGreat
open Go.RowKit
set_option maxRecDepth 100000
set_option linter.all false
def Bx (a : Ra) (bx : List (Nat × TypeId × Array Value)) (w : World) : Prop := ∀ p ∈ bx, Bn a p.1 p.2.1 p.2.2 w
theorem Bx.keep {a : Ra} {bx : List (Nat × TypeId × Array Value)} {w w' : World} (h : Bx a bx w) (o : Only none_ w w') : Bx a bx w' := fun p hp => (h p hp).keep o
structure Ver (F : FuncId) (cap : Array Value) (bx : List (Nat × TypeId × Array Value)) (f : St → En × Int) : Prop where
  run : ∀ (args : Array Value) (w : World), (callFunc F args).run Tryz.prog w = .ok (.enter F args) w
  clo : ∀ (X : World) (st : St), (∀ p ∈ bx, Blk X p.1 p.2.1 p.2.2) → Calls Tryz.prog F (#[.agg #[.int .i64 st.c, .int .i64 st.s]] ++ cap) X fun E w' => E = .returned (.tuple #[.agg #[.string (f st).1.k, .string (f st).1.v, .bool (f st).1.d, .int .i64 (f st).1.s.c, .int .i64 (f st).1.s.s, .int .i64 (f st).1.a.c, .int .i64 (f st).1.a.s, .int .i64 (f st).1.p, .int .i64 (f st).1.g], .int .i64 (f st).2]) ∧ Only none_ X w'
set_option maxHeartbeats 6400000 in
theorem rp_fault (B : World) (a : Ra) (s : Rs) (F : FuncId) (cap : Array Value) (bx : List (Nat × TypeId × Array Value)) (f : St → En × Int) (hv : Ver F cap bx f) (w : World) (h : Rp B a s w) (hb : Bx a bx w) :
    Calls Tryz.prog 93 #[.pointer (some ⟨a.r, 0, none⟩), .func (.func F) #[] cap] w fun E w' => E = .returned (.int .i64 (f ⟨1, s.site⟩).2) ∧ Only none_ w w' := by
  have c5 := h.bk.cell_ (i := 5) rfl
  have HSI := Lib.hid (clk_site a.ck s.site s.c w h.ck)
  have hrun := hv.run
  have HV := Lib.hid (fun (X : World) (o : Only none_ w X) => hv.clo X ⟨1, s.site⟩ (fun p hp => (hb p hp).b.only o (fun h => h)))
  obtain ⟨⟨e, z⟩, hf⟩ : ∃ q, f ⟨1, s.site⟩ = q := ⟨_, rfl⟩
  rw [hf] at HV ⊢
  obtain ⟨ek, vv, d, ⟨sc, ss⟩, ⟨ac, as_⟩, p, g⟩ := e
  dsimp only at HV ⊢
  clear h hb hv hf
  go_enter Tryz.func93, Tryz.ntmps93
  go_wp2_with (first
    | (go_at_call 75; refine HSI.out.mono ?_; rintro E w1 ⟨rfl, rfl⟩)
    | (refine (HV.out _ (Only.refl none_ _)).mono ?_; rintro E w2 ⟨rfl, o2⟩
       have O2 := Lib.hid o2
       clear o2)
    | (with_reducible refine wpl_new rfl rfl 82 rfl _ _ rfl #[.string (⟨ek, vv, d, ⟨sc, ss⟩, ⟨ac, as_⟩, p, g⟩ : En).k, .string (⟨ek, vv, d, ⟨sc, ss⟩, ⟨ac, as_⟩, p, g⟩ : En).v, .bool (⟨ek, vv, d, ⟨sc, ss⟩, ⟨ac, as_⟩, p, g⟩ : En).d, .int .i64 (⟨ek, vv, d, ⟨sc, ss⟩, ⟨ac, as_⟩, p, g⟩ : En).s.c, .int .i64 (⟨ek, vv, d, ⟨sc, ss⟩, ⟨ac, as_⟩, p, g⟩ : En).s.s, .int .i64 (⟨ek, vv, d, ⟨sc, ss⟩, ⟨ac, as_⟩, p, g⟩ : En).a.c, .int .i64 (⟨ek, vv, d, ⟨sc, ss⟩, ⟨ac, as_⟩, p, g⟩ : En).a.s, .int .i64 (⟨ek, vv, d, ⟨sc, ss⟩, ⟨ac, as_⟩, p, g⟩ : En).p, .int .i64 (⟨ek, vv, d, ⟨sc, ss⟩, ⟨ac, as_⟩, p, g⟩ : En).g] rfl rfl (by kernel_rfl) (en_cells_one (⟨ek, vv, d, ⟨sc, ss⟩, ⟨ac, as_⟩, p, g⟩ : En)) ?_))
  go_ret
  exact ⟨rfl, O2.out.alloc _⟩
end Go.Proofs.YtoohpcomnhfgpaaGreat
end
section
namespace Go.Proofs.YtoohpcomnhfgpaaGreat
open Go.RowKit
set_option linter.all false
set_option maxRecDepth 100000
theorem two_of {w : World} {g : Nat} {t : TypeId} {a b : Value} (h : Blk w g t #[a, b]) : w.cell? ⟨g, 0, none⟩ = some a ∧ w.cell? ⟨g, 1, none⟩ = some b := ⟨h.cell_ rfl, h.cell_ rfl⟩
set_option maxHeartbeats 6400000 in
theorem en_wake (e : En) (a : St) (w : World) :
    Calls Tryz.prog 197 #[.agg #[.string e.k, .string e.v, .bool e.d, .int .i64 e.s.c, .int .i64 e.s.s, .int .i64 e.a.c, .int .i64 e.a.s, .int .i64 e.p, .int .i64 e.g], .agg #[.int .i64 a.c, .int .i64 a.s]] w fun E w' => E = .returned (.tuple #[.agg #[.string (enWake e a).1.k, .string (enWake e a).1.v, .bool (enWake e a).1.d, .int .i64 (enWake e a).1.s.c, .int .i64 (enWake e a).1.s.s, .int .i64 (enWake e a).1.a.c, .int .i64 (enWake e a).1.a.s, .int .i64 (enWake e a).1.p, .int .i64 (enWake e a).1.g], .int .i64 (enWake e a).2]) ∧ Only none_ w w' := by
  have O := Lib.hid ((((Only.refl none_ w).alloc (.cells #[.string e.k, .string e.v, .bool e.d, .int .i64 e.s.c, .int .i64 e.s.s, .int .i64 e.a.c, .int .i64 e.a.s, .int .i64 e.p, .int .i64 e.g] 82)).alloc (.cells #[.int .i64 a.c, .int .i64 a.s] 80)).alloc (.cells #[.string enZero.k, .string enZero.v, .bool enZero.d, .int .i64 enZero.s.c, .int .i64 enZero.s.s, .int .i64 enZero.a.c, .int .i64 enZero.a.s, .int .i64 enZero.p, .int .i64 enZero.g] 82))
  have BX := Lib.hid (((Blk.new w 82 #[.string e.k, .string e.v, .bool e.d, .int .i64 e.s.c, .int .i64 e.s.s, .int .i64 e.a.c, .int .i64 e.a.s, .int .i64 e.p, .int .i64 e.g]).alloc (.cells #[.int .i64 a.c, .int .i64 a.s] 80)).alloc (.cells #[.string enZero.k, .string enZero.v, .bool enZero.d, .int .i64 enZero.s.c, .int .i64 enZero.s.s, .int .i64 enZero.a.c, .int .i64 enZero.a.s, .int .i64 enZero.p, .int .i64 enZero.g] 82))
  have BY := Lib.hid ((blk_more (w := w) (t := 82) (u := 80) #[.string e.k, .string e.v, .bool e.d, .int .i64 e.s.c, .int .i64 e.s.s, .int .i64 e.a.c, .int .i64 e.a.s, .int .i64 e.p, .int .i64 e.g] #[.int .i64 a.c, .int .i64 a.s]).alloc (.cells #[.string enZero.k, .string enZero.v, .bool enZero.d, .int .i64 enZero.s.c, .int .i64 enZero.s.s, .int .i64 enZero.a.c, .int .i64 enZero.a.s, .int .i64 enZero.p, .int .i64 enZero.g] 82))
  have BZ := Blk.new ((w.alloc (.cells #[.string e.k, .string e.v, .bool e.d, .int .i64 e.s.c, .int .i64 e.s.s, .int .i64 e.a.c, .int .i64 e.a.s, .int .i64 e.p, .int .i64 e.g] 82)).alloc (.cells #[.int .i64 a.c, .int .i64 a.s] 80)) 82 #[.string enZero.k, .string enZero.v, .bool enZero.d, .int .i64 enZero.s.c, .int .i64 enZero.s.s, .int .i64 enZero.a.c, .int .i64 enZero.a.s, .int .i64 enZero.p, .int .i64 enZero.g]
  simp only [World.size_alloc] at BZ
  have BZ := Lib.hid BZ
  simp only [enZero, stZero] at O BX BY BZ
  obtain ⟨z, hz⟩ : ∃ z, enCheck e = z := ⟨_, rfl⟩
  obtain ⟨gb, hg⟩ : ∃ b, stGood ⟨a.c, a.s⟩ = b := ⟨_, rfl⟩
  obtain ⟨lt, hl⟩ : ∃ b, stLater ⟨a.c, a.s⟩ ⟨e.a.c, e.a.s⟩ = b := ⟨_, rfl⟩
  obtain ⟨r, hr⟩ : ∃ b, stCmp ⟨a.c, a.s⟩ ⟨e.a.c, e.a.s⟩ = b := ⟨_, rfl⟩
  have ways := wake_ways e a z gb lt r hz hg hl hr
  have HZ0 := fun w => en_check e w
  rw [hz] at HZ0
  have HZ := Lib.hid HZ0
  have HG := Lib.hid hg
  have HL := Lib.hid hl
  have HR := Lib.hid hr
  clear hz hg hl hr HZ0
  obtain ⟨x, hx⟩ : ∃ x, enWake e a = x := ⟨_, rfl⟩
  rw [hx] at ways ⊢
  clear hx
  obtain ⟨k, v, d, s, b, p, g⟩ := e
  simp only at *
  rcases ways with ⟨h0, rfl⟩ | ⟨h0, rfl, rfl⟩ | ⟨h0, rfl, rfl, rfl⟩ | ⟨h0, rfl, rfl, rfl, h4, rfl⟩ | ⟨h0, rfl, rfl, rfl, h4, rfl⟩
  all_goals
    go_enter Tryz.func197, Tryz.ntmps197
    go_wp2_with (first
      | (go_at_call 83; refine (HZ.out _).mono ?_; rintro E w1 ⟨rfl, o1⟩
         have O1 := Lib.hid (O.out.trans o1)
         have X1 := Lib.hid (BX.out.only o1 (fun h => h))
         have Y1 := Lib.hid (BY.out.only o1 (fun h => h))
         have Z1 := Lib.hid (BZ.out.only o1 (fun h => h))
         have x1 := nine_of X1.out
         have y1 := two_of Y1.out
         have z1 := nine_of Z1.out
         have f1 := frozen9 Z1.out
         clear o1)
      | (go_at_call 143; refine (st_good _ _ _).mono ?_; rintro E w2 ⟨rfl, o2⟩; rw [HG.out]
         have O2 := Lib.hid (O1.out.trans o2)
         have X2 := Lib.hid (X1.out.only o2 (fun h => h))
         have Y2 := Lib.hid (Y1.out.only o2 (fun h => h))
         have Z2 := Lib.hid (Z1.out.only o2 (fun h => h))
         have x2 := nine_of X2.out
         have y2 := two_of Y2.out
         have z2 := nine_of Z2.out
         have f2 := frozen9 Z2.out
         clear o2)
      | (go_at_call 140; refine (st_compare _ _ _ _ _).mono ?_; rintro E w3 ⟨rfl, o3⟩; rw [HR.out]
         have O3 := Lib.hid (O2.out.trans o3)
         have X3 := Lib.hid (X2.out.only o3 (fun h => h))
         have Z3 := Lib.hid (Z2.out.only o3 (fun h => h))
         have y3 := two_of (Y2.out.only o3 (fun h => h))
         have x3 := nine_of X3.out
         have z3 := nine_of Z3.out
         have f3 := frozen9 Z3.out
         have u3 := frozen9 X3.out
         clear o3))
  · exact bodyPost_ret (results_cell_tmp rfl _ _ (w.heap.size + 1 + 1) 82 _ _ rfl (fill9_blk Z1.out _ _ _ _ _ _ _ _ _) Tryz.underlying82 rfl (by kernel_rfl) _ rfl) rfl ⟨rfl, fill9_only O1.out (.inr (by show w.heap.size ≤ w.heap.size + 1 + 1; omega)) _ _ _ _ _ _ _ _ _⟩
  · exact bodyPost_ret (results_cell_tmp rfl _ _ (w.heap.size + 1 + 1) 82 _ _ rfl (fill9_blk Z1.out _ _ _ _ _ _ _ _ _) Tryz.underlying82 rfl (by kernel_rfl) _ rfl) rfl ⟨rfl, fill9_only O1.out (.inr (by show w.heap.size ≤ w.heap.size + 1 + 1; omega)) _ _ _ _ _ _ _ _ _⟩
  · exact bodyPost_ret (results_cell_tmp rfl _ _ (w.heap.size + 1 + 1) 82 _ _ rfl (fill9_blk Z2.out _ _ _ _ _ _ _ _ _) Tryz.underlying82 rfl (by kernel_rfl) _ rfl) rfl ⟨rfl, fill9_only O2.out (.inr (by show w.heap.size ≤ w.heap.size + 1 + 1; omega)) _ _ _ _ _ _ _ _ _⟩
  · exact bodyPost_ret (results_cell_tmp rfl _ _ (w.heap.size + 1 + 1) 82 _ _ rfl (fill9_blk Z3.out _ _ _ _ _ _ _ _ _) Tryz.underlying82 rfl (by kernel_rfl) _ rfl) rfl ⟨rfl, fill9_only O3.out (.inr (by show w.heap.size ≤ w.heap.size + 1 + 1; omega)) _ _ _ _ _ _ _ _ _⟩
  · have hne : w.heap.size + 1 + 1 ≠ w.heap.size := by omega
    have Z4 := ((Z3.out.far (p := ⟨w.heap.size, 5, none⟩) hne (.int .i64 a.c)).far (p := ⟨w.heap.size, 6, none⟩) hne (.int .i64 a.s)).far (p := ⟨w.heap.size, 8, none⟩) hne (.int .i64 0)
    have O4 := ((O3.out.setCell (p := ⟨w.heap.size, 5, none⟩) (.inr (Nat.le_refl _)) (.int .i64 a.c)).setCell (p := ⟨w.heap.size, 6, none⟩) (.inr (Nat.le_refl _)) (.int .i64 a.s)).setCell (p := ⟨w.heap.size, 8, none⟩) (.inr (Nat.le_refl _)) (.int .i64 0)
    exact bodyPost_ret (results_cell_tmp rfl _ _ (w.heap.size + 1 + 1) 82 _ _ rfl (fill9_blk Z4 _ _ _ _ _ _ _ _ _) Tryz.underlying82 rfl (by kernel_rfl) _ rfl) rfl ⟨rfl, fill9_only O4 (.inr (by show w.heap.size ≤ w.heap.size + 1 + 1; omega)) _ _ _ _ _ _ _ _ _⟩
end Go.Proofs.YtoohpcomnhfgpaaGreat
end
section
namespace Go.Proofs.YtoohpcomnhfgpaaGreat
open Go.RowKit
set_option maxRecDepth 100000
set_option linter.all false
theorem Bx.step {a a' : Ra} {bx : List (Nat × TypeId × Array Value)} {w w' : World} (h : Bx a bx w) (b : ∀ n t cs, Bn a n t cs w → Bn a' n t cs w') : Bx a' bx w' := fun p hp => b _ _ _ (h p hp)
def nxR (s : Rs) (x : En) : Rs × En × Int := if s.c = 4294967295 then (s, enZero, 8) else dnR { s with c := s.c + 1 } x
set_option maxHeartbeats 12800000 in
theorem rp_next_spent (B : World) (a : Ra) (s : Rs) (F : FuncId) (cap : Array Value) (w : World) (h : Rp B a s w) (hc : s.c = 4294967295) :
    Calls Tryz.prog 153 #[.pointer (some ⟨a.r, 0, none⟩), .func (.func F) #[] cap] w fun E w' => E = .returned (.tuple #[.agg #[.string ⟨#[]⟩, .string ⟨#[]⟩, .bool false, .int .i64 0, .int .i64 0, .int .i64 0, .int .i64 0, .int .i64 0, .int .i64 0], .int .i64 8]) ∧ LeftP B a w s w' := by
  have C2 := Lib.hid ((Cy.begin h).keep ((Only.refl none_ w).alloc (.cells #[.string ⟨#[]⟩, .string ⟨#[]⟩, .bool false, .int .i64 0, .int .i64 0, .int .i64 0, .int .i64 0, .int .i64 0, .int .i64 0] 82)))
  have M2 : Hid (Bn a w.heap.size 82 #[.string ⟨#[]⟩, .string ⟨#[]⟩, .bool false, .int .i64 0, .int .i64 0, .int .i64 0, .int .i64 0, .int .i64 0, .int .i64 0] (w.alloc (.cells #[.string ⟨#[]⟩, .string ⟨#[]⟩, .bool false, .int .i64 0, .int .i64 0, .int .i64 0, .int .i64 0, .int .i64 0, .int .i64 0] 82))) := Bn.new h
  have HNX := Lib.hid (fun (X : World) (hX : Rp B a s X) => clk_next_spent a.ck s.site X (by have := hX.ck; rw [hc] at this; exact this))
  have c5 := C2.out.r.bk.cell_ (i := 5) rfl
  clear h hc
  go_enter Tryz.func153, Tryz.ntmps153
  go_wp2_with (first
    | (go_at_call 198; refine (HNX.out _ C2.out.r).mono ?_; rintro E w3 ⟨rfl, _, o3⟩
       have C3 := Lib.hid ((C2.out.keep o3).keep ((Only.refl none_ _).alloc (.cells #[.int .i64 0, .int .i64 0] 80)))
       have M3 := Lib.hid ((M2.out.keep o3).keep ((Only.refl none_ _).alloc (.cells #[.int .i64 0, .int .i64 0] 80)))
       clear o3)
    | (with_reducible refine wpl_new rfl rfl 80 rfl _ _ rfl #[.int .i64 0, .int .i64 0] rfl rfl (by kernel_rfl) (by kernel_rfl) ?_)
    | (refine wpList_store_row rfl 82 _ _ rfl w.heap.size #[.string ⟨#[]⟩, .string ⟨#[]⟩, .bool false, .int .i64 0, .int .i64 0, .int .i64 0, .int .i64 0, .int .i64 0, .int .i64 0] rfl rfl _ _ M3.out.b (by kernel_rfl) (by kernel_rfl) (by kernel_rfl) ?_))
  refine bodyPost_ret (results_cell_tmp rfl _ _ w.heap.size 82 #[.string ⟨#[]⟩, .string ⟨#[]⟩, .bool false, .int .i64 0, .int .i64 0, .int .i64 0, .int .i64 0, .int .i64 0, .int .i64 0] _ rfl (M3.out.b.setRow _) Tryz.underlying82 rfl (by kernel_rfl) (.int .i64 8) rfl) rfl ?_
  exact ⟨rfl, (C3.out.box M3.out (Nat.le_refl _) (only_row _ _)).left⟩
set_option maxHeartbeats 25600000 in
theorem rp_next_ok (B : World) (a : Ra) (s : Rs) (F : FuncId) (cap : Array Value) (bx : List (Nat × TypeId × Array Value)) (f : St → En × Int) (hv : Ver F cap bx f) (x : En) (w : World) (h : Rp B a s w) (hb : Bx a bx w) (hc0 : 0 ≤ s.c) (hc1 : s.c < 4294967295)
    (hx : f ⟨s.c + 1, s.site⟩ = (x, 0)) (ok : Rky s) (hc : enCheck x = 0) (hf : fullM s.o s.tab x.k = false) :
    Calls Tryz.prog 153 #[.pointer (some ⟨a.r, 0, none⟩), .func (.func F) #[] cap] w fun E w' => E = .returned (.tuple #[.agg #[.string (dnR { s with c := s.c + 1 } x).2.1.k, .string (dnR { s with c := s.c + 1 } x).2.1.v, .bool (dnR { s with c := s.c + 1 } x).2.1.d, .int .i64 (dnR { s with c := s.c + 1 } x).2.1.s.c, .int .i64 (dnR { s with c := s.c + 1 } x).2.1.s.s, .int .i64 (dnR { s with c := s.c + 1 } x).2.1.a.c, .int .i64 (dnR { s with c := s.c + 1 } x).2.1.a.s, .int .i64 (dnR { s with c := s.c + 1 } x).2.1.p, .int .i64 (dnR { s with c := s.c + 1 } x).2.1.g], .int .i64 (dnR { s with c := s.c + 1 } x).2.2]) ∧ LeftP B a w (dnR { s with c := s.c + 1 } x).1 w' := by
  obtain ⟨r, hr⟩ : ∃ r, a.r = r := ⟨_, rfl⟩
  have C2 := Lib.hid ((Cy.begin h).keep ((Only.refl none_ w).alloc (.cells #[.string ⟨#[]⟩, .string ⟨#[]⟩, .bool false, .int .i64 0, .int .i64 0, .int .i64 0, .int .i64 0, .int .i64 0, .int .i64 0] 82)))
  have M2 : Hid (Bn a w.heap.size 82 #[.string ⟨#[]⟩, .string ⟨#[]⟩, .bool false, .int .i64 0, .int .i64 0, .int .i64 0, .int .i64 0, .int .i64 0, .int .i64 0] (w.alloc (.cells #[.string ⟨#[]⟩, .string ⟨#[]⟩, .bool false, .int .i64 0, .int .i64 0, .int .i64 0, .int .i64 0, .int .i64 0, .int .i64 0] 82))) := Bn.new h
  have B2 := Lib.hid (hb.keep ((Only.refl none_ w).alloc (.cells #[.string ⟨#[]⟩, .string ⟨#[]⟩, .bool false, .int .i64 0, .int .i64 0, .int .i64 0, .int .i64 0, .int .i64 0, .int .i64 0] 82)))
  have HNX := Lib.hid (fun (X : World) (hX : Rp B a s X) => clk_next a.ck s.site s.c X hX.ck hc0 hc1)
  obtain ⟨s1, hs1⟩ : ∃ s1, ({ s with c := s.c + 1 } : Rs) = s1 := ⟨_, rfl⟩
  have HCK : Hid (∀ (X X' : World) (hX : Rp B a s X), Clk X' a.ck s.site (s.c + 1) → Only (one a.ck) X X' → LeftP B a X s1 X') := fun X X' hX hk o => by rw [← hs1]; exact hX.ck_set hk o
  have HDN := Lib.hid (fun (a1 : Ra) (X : World) (hX : Rp B a1 s1 X) (e1 : a1.r = r) => by
    have := rp_down B a1 s1 x X hX (by rw [← hs1]; exact ⟨ok.m, ok.g, ok.w, ok.d, ok.n⟩) hc (by rw [← hs1]; exact hf)
    rw [e1] at this
    exact this)
  rw [hs1]
  obtain ⟨⟨s2, e2, z2⟩, hq⟩ : ∃ q, dnR s1 x = q := ⟨_, rfl⟩
  rw [hq] at HDN ⊢
  have hrun := hv.run
  have HV := Lib.hid (fun (X : World) (hB : ∀ p ∈ bx, Blk X p.1 p.2.1 p.2.2) => hv.clo X ⟨s.c + 1, s.site⟩ hB)
  rw [hx] at HV
  obtain ⟨cn, hcn⟩ : ∃ n, s.c + 1 = n := ⟨_, rfl⟩
  rw [hcn] at HV HCK HNX
  have c5 := C2.out.r.at_ hr (i := 5) rfl
  dsimp only at HDN HV ⊢
  rw [hr]
  have HR := Lib.hid hr
  clear h hr hb hv hc0 hc1 hx ok hc hf hs1 hq hcn
  go_enter Tryz.func153, Tryz.ntmps153
  go_wp2_with (first
    | (go_at_call 198; refine (HNX.out _ C2.out.r).mono ?_; rintro E w3 ⟨rfl, k3, o3⟩
       obtain ⟨a3, c3, e3, b3⟩ := C2.out.step (HCK.out _ _ C2.out.r k3 o3)
       have C30 := Lib.hid c3
       have C3 := Lib.hid (c3.keep ((Only.refl none_ _).alloc (.cells #[.int .i64 cn, .int .i64 s.site] 80)))
       have M3 := Lib.hid ((b3 _ _ _ M2.out).keep ((Only.refl none_ _).alloc (.cells #[.int .i64 cn, .int .i64 s.site] 80)))
       have B3 : Hid (Bx a3 bx _) := (B2.out.step b3).keep ((Only.refl none_ _).alloc (.cells #[.int .i64 cn, .int .i64 s.site] 80))
       have BS := Lib.hid (Blk.new w3 80 #[.int .i64 cn, .int .i64 s.site])
       have p3 := two_of BS.out
       have E3 : Hid (a3.r = r) := e3.trans HR.out
       clear k3 o3 c3 e3 b3)
    | (with_reducible refine wpl_new rfl rfl 80 rfl _ _ rfl #[.int .i64 cn, .int .i64 s.site] rfl rfl (by kernel_rfl) (by kernel_rfl) ?_)
    | (refine (HV.out _ (fun p hp => (B3.out p hp).b)).mono ?_; rintro E w4 ⟨rfl, o4⟩
       have C4 := Lib.hid ((C3.out.keep o4).keep ((Only.refl none_ _).alloc (.cells #[.string x.k, .string x.v, .bool x.d, .int .i64 x.s.c, .int .i64 x.s.s, .int .i64 x.a.c, .int .i64 x.a.s, .int .i64 x.p, .int .i64 x.g] 82)))
       have M4 := Lib.hid ((M3.out.keep o4).keep ((Only.refl none_ _).alloc (.cells #[.string x.k, .string x.v, .bool x.d, .int .i64 x.s.c, .int .i64 x.s.s, .int .i64 x.a.c, .int .i64 x.a.s, .int .i64 x.p, .int .i64 x.g] 82)))
       have BE := Lib.hid (Blk.new w4 82 #[.string x.k, .string x.v, .bool x.d, .int .i64 x.s.c, .int .i64 x.s.s, .int .i64 x.a.c, .int .i64 x.a.s, .int .i64 x.p, .int .i64 x.g])
       have q4 := nine_of BE.out
       clear o4)
    | (with_reducible refine wpl_new rfl rfl 82 rfl _ _ rfl #[.string x.k, .string x.v, .bool x.d, .int .i64 x.s.c, .int .i64 x.s.s, .int .i64 x.a.c, .int .i64 x.a.s, .int .i64 x.p, .int .i64 x.g] rfl rfl (by kernel_rfl) (en_cells_one x) ?_)
    | (go_at_call 194; refine (HDN.out a3 _ C4.out.r E3.out).mono ?_; rintro E w5 ⟨rfl, L5⟩
       obtain ⟨a5, c5', e5, b5⟩ := C4.out.step L5
       have C5 := Lib.hid c5'
       have M5 := Lib.hid (b5 _ _ _ M4.out)
       clear c5' e5 b5 L5)
    | (refine wpList_store_row rfl 82 _ _ rfl w.heap.size #[.string e2.k, .string e2.v, .bool e2.d, .int .i64 e2.s.c, .int .i64 e2.s.s, .int .i64 e2.a.c, .int .i64 e2.a.s, .int .i64 e2.p, .int .i64 e2.g] rfl rfl _ _ M5.out.b (by kernel_rfl) (by kernel_rfl) (en_cells_one _) ?_))
  refine bodyPost_ret (results_cell_tmp rfl _ _ w.heap.size 82 #[.string e2.k, .string e2.v, .bool e2.d, .int .i64 e2.s.c, .int .i64 e2.s.s, .int .i64 e2.a.c, .int .i64 e2.a.s, .int .i64 e2.p, .int .i64 e2.g] _ rfl (M5.out.b.setRow _) Tryz.underlying82 rfl (by kernel_rfl) (.int .i64 z2) rfl) rfl ?_
  exact ⟨rfl, (C5.out.box M5.out (Nat.le_refl _) (only_row _ _)).left⟩
theorem rp_next (B : World) (a : Ra) (s : Rs) (F : FuncId) (cap : Array Value) (bx : List (Nat × TypeId × Array Value)) (f : St → En × Int) (hv : Ver F cap bx f) (x : En) (w : World) (h : Rp B a s w) (hb : Bx a bx w) (hc0 : 0 ≤ s.c ∧ s.c ≤ 4294967295)
    (hx : s.c < 4294967295 → f ⟨s.c + 1, s.site⟩ = (x, 0) ∧ enCheck x = 0 ∧ fullM s.o s.tab x.k = false) (ok : Rky s) :
    Calls Tryz.prog 153 #[.pointer (some ⟨a.r, 0, none⟩), .func (.func F) #[] cap] w fun E w' => E = .returned (.tuple #[.agg #[.string (nxR s x).2.1.k, .string (nxR s x).2.1.v, .bool (nxR s x).2.1.d, .int .i64 (nxR s x).2.1.s.c, .int .i64 (nxR s x).2.1.s.s, .int .i64 (nxR s x).2.1.a.c, .int .i64 (nxR s x).2.1.a.s, .int .i64 (nxR s x).2.1.p, .int .i64 (nxR s x).2.1.g], .int .i64 (nxR s x).2.2]) ∧ LeftP B a w (nxR s x).1 w' := by
  by_cases hm : s.c = 4294967295
  · rw [nxR, if_pos hm]
    exact rp_next_spent B a s F cap w h hm
  · rw [nxR, if_neg hm]
    obtain ⟨h1, h2, h3⟩ := hx (by omega)
    exact rp_next_ok B a s F cap bx f hv x w h hb hc0.1 (by omega) h1 ok h2 h3
end Go.Proofs.YtoohpcomnhfgpaaGreat
end
section
namespace Go.Proofs.YtoohpcomnhfgpaaGreat
open Go.RowKit
set_option maxRecDepth 100000
set_option linter.all false
theorem mq_len {P : Program} {t k e : TypeId} {w : World} {b : Nat} {l : List ByteArray} (ht : P.underlying t = some (.map k e)) (h : Mq w b l) (ty : TypeId) :
    (Builtin.len_ #[t] ty #[.map (some b)]).run P w = .ok (.int .i64 l.length) w := by
  obtain ⟨es, clock, hb, h1, h2⟩ := h
  have hl : es.size = l.length := by have := h1.length_eq; simpa using this
  simp [Builtin.len_, run_underlying ht, MapKept.run_getObj_map hb, Result.andThen, goInt, hl]
def wrR (s : Rs) (k : ByteArray) (x : En) : Rs × En × Int := if ((!hasK s.own k && decide (s.o.q ≤ (s.own.length : Int))) || fullM s.o s.tab k) = true then (s, enZero, 7) else nxR s x
set_option maxHeartbeats 51200000 in
theorem rp_write (B : World) (a : Ra) (s : Rs) (F : FuncId) (cap : Array Value) (bx : List (Nat × TypeId × Array Value)) (f : St → En × Int) (hv : Ver F cap bx f) (k : ByteArray) (x : En) (w : World) (h : Rp B a s w) (hb : Bx a bx w) (hc0 : 0 ≤ s.c ∧ s.c ≤ 4294967295)
    (hx : s.c < 4294967295 → f ⟨s.c + 1, s.site⟩ = (x, 0) ∧ enCheck x = 0) (hk : x.k = k) (hks : k.size ≤ maxLen) (ok : Rky s) :
    Calls Tryz.prog 94 #[.pointer (some ⟨a.r, 0, none⟩), .string k, .func (.func F) #[] cap] w fun E w' => E = .returned (.tuple #[.agg #[.string (wrR s k x).2.1.k, .string (wrR s k x).2.1.v, .bool (wrR s k x).2.1.d, .int .i64 (wrR s k x).2.1.s.c, .int .i64 (wrR s k x).2.1.s.s, .int .i64 (wrR s k x).2.1.a.c, .int .i64 (wrR s k x).2.1.a.s, .int .i64 (wrR s k x).2.1.p, .int .i64 (wrR s k x).2.1.g], .int .i64 (wrR s k x).2.2]) ∧ LeftP B a w (wrR s k x).1 w' := by
  obtain ⟨r, hr⟩ : ∃ r, a.r = r := ⟨_, rfl⟩
  have C1 := Lib.hid ((Cy.begin h).keep ((Only.refl none_ w).alloc (.cells #[.string ⟨#[]⟩, .string ⟨#[]⟩, .bool false, .int .i64 0, .int .i64 0, .int .i64 0, .int .i64 0, .int .i64 0, .int .i64 0] 82)))
  have M1 : Hid (Bn a w.heap.size 82 #[.string ⟨#[]⟩, .string ⟨#[]⟩, .bool false, .int .i64 0, .int .i64 0, .int .i64 0, .int .i64 0, .int .i64 0, .int .i64 0] (w.alloc (.cells #[.string ⟨#[]⟩, .string ⟨#[]⟩, .bool false, .int .i64 0, .int .i64 0, .int .i64 0, .int .i64 0, .int .i64 0, .int .i64 0] 82))) := Bn.new h
  have C2 := Lib.hid (C1.out.keep ((Only.refl none_ _).alloc (.cells #[] 63)))
  have M2 := Lib.hid (M1.out.keep ((Only.refl none_ _).alloc (.cells #[] 63)))
  have B2 := Lib.hid ((hb.keep ((Only.refl none_ w).alloc (.cells #[.string ⟨#[]⟩, .string ⟨#[]⟩, .bool false, .int .i64 0, .int .i64 0, .int .i64 0, .int .i64 0, .int .i64 0, .int .i64 0] 82))).keep ((Only.refl none_ _).alloc (.cells #[] 63)))
  have c10 := C1.out.r.at_ hr (i := 10) rfl
  have hlk := mq_look (t := 75) (k := 9) (P := Tryz.prog) Tryz.underlying9 Tryz.underlying75 (unit_zero _) C1.out.r.ob hks
  have HLN := Lib.hid (fun (X : World) (hX : Rp B a s X) => mq_len (P := Tryz.prog) Tryz.underlying75 hX.ob 3)
  have HRM := Lib.hid (fun (X : World) (hX : Rp B a s X) => by
    have := ct_room B a s k X hX
    rw [hr] at this
    exact this)
  have HNX := Lib.hid (fun (X : World) (hX : Rp B a s X) (hB : Bx a bx X) (hf : fullM s.o s.tab k = false) => by
    have := rp_next B a s F cap bx f hv x X hX hB hc0 (fun h => ⟨(hx h).1, (hx h).2, by rw [hk]; exact hf⟩) ok
    rw [hr] at this
    exact this)
  have hwr : wrR s k x = if ((!hasK s.own k && decide (s.o.q ≤ (s.own.length : Int))) || fullM s.o s.tab k) = true then (s, enZero, 7) else nxR s x := rfl
  rw [hwr]
  obtain ⟨b1, hb1⟩ : ∃ b, hasK s.own k = b := ⟨_, rfl⟩
  obtain ⟨b3, hb3⟩ : ∃ b, fullM s.o s.tab k = b := ⟨_, rfl⟩
  obtain ⟨L, hL⟩ : ∃ L, s.own.length = L := ⟨_, rfl⟩
  obtain ⟨⟨s2, e2, z2⟩, hq⟩ : ∃ q, nxR s x = q := ⟨_, rfl⟩
  rw [hq] at HNX
  rw [hb3] at HNX HRM
  rw [hL] at HLN
  rw [hb1] at hlk
  rw [hb1, hb3, hL, hq]
  have HQ : Hid (∀ X, Rp B a s X → X.cell? ⟨r, 1, none⟩ = some (.int .i64 s.o.q)) := fun X hX => hX.at_ hr rfl
  generalize s.o.q = Q at HQ ⊢
  have hrun := hv.run
  rw [hr]
  have HR := Lib.hid hr
  clear h hb hv hc0 hx hk hks ok hwr hb1 hb3 hL hq hr
  dsimp only at HNX
  cases b1 with
  | true =>
    cases b3 with
    | true =>
      rw [if_pos (by simp)]
      go_enter Tryz.func94, Tryz.ntmps94
      go_wp2_with (first
        | (with_reducible refine wpl_new rfl rfl 63 rfl _ _ rfl #[] rfl rfl (by kernel_rfl) (by kernel_rfl) ?_))
      clear c10 hlk
      generalize (w.alloc (.cells #[.string ⟨#[]⟩, .string ⟨#[]⟩, .bool false, .int .i64 0, .int .i64 0, .int .i64 0, .int .i64 0, .int .i64 0, .int .i64 0] 82)).alloc (.cells #[] 63) = W2 at C2 M2 B2 ⊢
      (refine wp_region_steady (fun X => Only none_ W2 X) 23 (by kernel_rfl) (by kernel_rfl) ((Only.refl none_ W2).drew) ?_; simp only [List.take_succ_cons, List.take_zero, List.drop_succ_cons, List.drop_zero])
      repeat (first
        | (refine sd_value (v := ?_) (by rfl) (fun w0 hS => ?_) ?_; rotate_left; (· (have c10 := (C2.out.keep hS).r.at_ HR.out (i := 10) rfl; have cq := HQ.out _ (C2.out.keep hS).r; have ln := HLN.out _ (C2.out.keep hS).r; go_simp; try (with_reducible rfl))); try simp only [Act.put, List.setIfInBounds_toArray, List.set_cons_zero, List.set_cons_succ])
        | (refine sd_call (v := ?_) (f := 88) (args := ?_) (by rfl) (fun w0 hS => ?_) (fun w0 hS => ?_) ?_; rotate_left 2; (· (skip; go_simp; try (with_reducible rfl))); (· (refine (HRM.out _ (C2.out.keep hS).r).mono ?_; rintro E w9 ⟨rfl, o9⟩; refine ⟨?_, hS.trans o9⟩; rfl)); try simp only [Act.put, List.setIfInBounds_toArray, List.set_cons_zero, List.set_cons_succ])
        | (refine sd_skip (by rfl) ?_; try simp only [Act.put, List.setIfInBounds_toArray, List.set_cons_zero, List.set_cons_succ]))
      refine sd_nil ?_
      intro w5 t5
      have C5 := Lib.hid (C2.out.keep t5)
      have M5 := Lib.hid (M2.out.keep t5)
      have B5 := Lib.hid (B2.out.keep t5)
      clear t5
      go_wp2_with (first
        | (refine wpList_store_row rfl 82 _ _ rfl w.heap.size #[.string ⟨#[]⟩, .string ⟨#[]⟩, .bool false, .int .i64 0, .int .i64 0, .int .i64 0, .int .i64 0, .int .i64 0, .int .i64 0] rfl rfl _ _ M5.out.b (by kernel_rfl) (by kernel_rfl) (by kernel_rfl) ?_))
      refine bodyPost_ret (results_cell_tmp rfl _ _ w.heap.size 82 #[.string ⟨#[]⟩, .string ⟨#[]⟩, .bool false, .int .i64 0, .int .i64 0, .int .i64 0, .int .i64 0, .int .i64 0, .int .i64 0] _ rfl (M5.out.b.setRow _) Tryz.underlying82 rfl (by kernel_rfl) (.int .i64 7) rfl) rfl ?_
      refine ⟨?_, ?_⟩
      · rfl
      · exact (C5.out.box M5.out (Nat.le_refl _) (only_row _ _)).left
    | false =>
      rw [if_neg (by simp)]
      go_enter Tryz.func94, Tryz.ntmps94
      go_wp2_with (first
        | (with_reducible refine wpl_new rfl rfl 63 rfl _ _ rfl #[] rfl rfl (by kernel_rfl) (by kernel_rfl) ?_))
      clear c10 hlk
      generalize (w.alloc (.cells #[.string ⟨#[]⟩, .string ⟨#[]⟩, .bool false, .int .i64 0, .int .i64 0, .int .i64 0, .int .i64 0, .int .i64 0, .int .i64 0] 82)).alloc (.cells #[] 63) = W2 at C2 M2 B2 ⊢
      (refine wp_region_steady (fun X => Only none_ W2 X) 23 (by kernel_rfl) (by kernel_rfl) ((Only.refl none_ W2).drew) ?_; simp only [List.take_succ_cons, List.take_zero, List.drop_succ_cons, List.drop_zero])
      repeat (first
        | (refine sd_value (v := ?_) (by rfl) (fun w0 hS => ?_) ?_; rotate_left; (· (have c10 := (C2.out.keep hS).r.at_ HR.out (i := 10) rfl; have cq := HQ.out _ (C2.out.keep hS).r; have ln := HLN.out _ (C2.out.keep hS).r; go_simp; try (with_reducible rfl))); try simp only [Act.put, List.setIfInBounds_toArray, List.set_cons_zero, List.set_cons_succ])
        | (refine sd_call (v := ?_) (f := 88) (args := ?_) (by rfl) (fun w0 hS => ?_) (fun w0 hS => ?_) ?_; rotate_left 2; (· (skip; go_simp; try (with_reducible rfl))); (· (refine (HRM.out _ (C2.out.keep hS).r).mono ?_; rintro E w9 ⟨rfl, o9⟩; refine ⟨?_, hS.trans o9⟩; rfl)); try simp only [Act.put, List.setIfInBounds_toArray, List.set_cons_zero, List.set_cons_succ])
        | (refine sd_skip (by rfl) ?_; try simp only [Act.put, List.setIfInBounds_toArray, List.set_cons_zero, List.set_cons_succ]))
      refine sd_nil ?_
      intro w5 t5
      have C5 := Lib.hid (C2.out.keep t5)
      have M5 := Lib.hid (M2.out.keep t5)
      have B5 := Lib.hid (B2.out.keep t5)
      clear t5
      have HNY := Lib.hid (HNX.out _ C5.out.r B5.out (by first | trivial | rfl))
      go_wp2_with (first
        | (go_at_call 153; refine HNY.out.mono ?_; rintro E w6 ⟨rfl, L6⟩
           obtain ⟨a6, c6, e6, b6⟩ := C5.out.step L6
           have C6 := Lib.hid c6
           have M6 := Lib.hid (b6 _ _ _ M5.out)
           clear c6 e6 b6 L6)
        | (refine wpList_store_row rfl 82 _ _ rfl w.heap.size #[.string e2.k, .string e2.v, .bool e2.d, .int .i64 e2.s.c, .int .i64 e2.s.s, .int .i64 e2.a.c, .int .i64 e2.a.s, .int .i64 e2.p, .int .i64 e2.g] rfl rfl _ _ M6.out.b (by kernel_rfl) (by kernel_rfl) (en_cells_one _) ?_))
      refine bodyPost_ret (results_cell_tmp rfl _ _ w.heap.size 82 #[.string e2.k, .string e2.v, .bool e2.d, .int .i64 e2.s.c, .int .i64 e2.s.s, .int .i64 e2.a.c, .int .i64 e2.a.s, .int .i64 e2.p, .int .i64 e2.g] _ rfl (M6.out.b.setRow _) Tryz.underlying82 rfl (by kernel_rfl) (.int .i64 z2) rfl) rfl ?_
      refine ⟨?_, ?_⟩
      · rfl
      · exact (C6.out.box M6.out (Nat.le_refl _) (only_row _ _)).left
  | false =>
    by_cases hq2 : Q ≤ (L : Int)
    · have hd : decide (Q ≤ (L : Int)) = true := decide_eq_true hq2
      clear hq2
      rw [if_pos (by rw [hd]; simp)]
      go_enter Tryz.func94, Tryz.ntmps94
      go_wp2_with (first
        | (with_reducible refine wpl_new rfl rfl 63 rfl _ _ rfl #[] rfl rfl (by kernel_rfl) (by kernel_rfl) ?_))
      clear c10 hlk
      generalize (w.alloc (.cells #[.string ⟨#[]⟩, .string ⟨#[]⟩, .bool false, .int .i64 0, .int .i64 0, .int .i64 0, .int .i64 0, .int .i64 0, .int .i64 0] 82)).alloc (.cells #[] 63) = W2 at C2 M2 B2 ⊢
      (refine wp_region_steady (fun X => Only none_ W2 X) 23 (by kernel_rfl) (by kernel_rfl) ((Only.refl none_ W2).drew) ?_; simp only [List.take_succ_cons, List.take_zero, List.drop_succ_cons, List.drop_zero])
      repeat (first
        | (refine sd_value (v := ?_) (by rfl) (fun w0 hS => ?_) ?_; rotate_left; (· (have c10 := (C2.out.keep hS).r.at_ HR.out (i := 10) rfl; have cq := HQ.out _ (C2.out.keep hS).r; have ln := HLN.out _ (C2.out.keep hS).r; go_simp; try (with_reducible rfl))); try simp only [Act.put, List.setIfInBounds_toArray, List.set_cons_zero, List.set_cons_succ])
        | (refine sd_call (v := ?_) (f := 88) (args := ?_) (by rfl) (fun w0 hS => ?_) (fun w0 hS => ?_) ?_; rotate_left 2; (· (skip; go_simp; try (with_reducible rfl))); (· (refine (HRM.out _ (C2.out.keep hS).r).mono ?_; rintro E w9 ⟨rfl, o9⟩; refine ⟨?_, hS.trans o9⟩; rfl)); try simp only [Act.put, List.setIfInBounds_toArray, List.set_cons_zero, List.set_cons_succ])
        | (refine sd_skip (by rfl) ?_; try simp only [Act.put, List.setIfInBounds_toArray, List.set_cons_zero, List.set_cons_succ]))
      refine sd_nil ?_
      intro w5 t5
      have C5 := Lib.hid (C2.out.keep t5)
      have M5 := Lib.hid (M2.out.keep t5)
      have B5 := Lib.hid (B2.out.keep t5)
      clear t5
      go_wp2_with (first
        | (refine wpList_store_row rfl 82 _ _ rfl w.heap.size #[.string ⟨#[]⟩, .string ⟨#[]⟩, .bool false, .int .i64 0, .int .i64 0, .int .i64 0, .int .i64 0, .int .i64 0, .int .i64 0] rfl rfl _ _ M5.out.b (by kernel_rfl) (by kernel_rfl) (by kernel_rfl) ?_))
      refine bodyPost_ret (results_cell_tmp rfl _ _ w.heap.size 82 #[.string ⟨#[]⟩, .string ⟨#[]⟩, .bool false, .int .i64 0, .int .i64 0, .int .i64 0, .int .i64 0, .int .i64 0, .int .i64 0] _ rfl (M5.out.b.setRow _) Tryz.underlying82 rfl (by kernel_rfl) (.int .i64 7) rfl) rfl ?_
      refine ⟨?_, ?_⟩
      · rfl
      · exact (C5.out.box M5.out (Nat.le_refl _) (only_row _ _)).left
    · have hd : decide (Q ≤ (L : Int)) = false := decide_eq_false hq2
      clear hq2
      cases b3 with
      | true =>
        rw [if_pos (by simp)]
        go_enter Tryz.func94, Tryz.ntmps94
        go_wp2_with (first
          | (with_reducible refine wpl_new rfl rfl 63 rfl _ _ rfl #[] rfl rfl (by kernel_rfl) (by kernel_rfl) ?_))
        clear c10 hlk
        generalize (w.alloc (.cells #[.string ⟨#[]⟩, .string ⟨#[]⟩, .bool false, .int .i64 0, .int .i64 0, .int .i64 0, .int .i64 0, .int .i64 0, .int .i64 0] 82)).alloc (.cells #[] 63) = W2 at C2 M2 B2 ⊢
        (refine wp_region_steady (fun X => Only none_ W2 X) 23 (by kernel_rfl) (by kernel_rfl) ((Only.refl none_ W2).drew) ?_; simp only [List.take_succ_cons, List.take_zero, List.drop_succ_cons, List.drop_zero])
        repeat (first
          | (refine sd_value (v := ?_) (by rfl) (fun w0 hS => ?_) ?_; rotate_left; (· (have c10 := (C2.out.keep hS).r.at_ HR.out (i := 10) rfl; have cq := HQ.out _ (C2.out.keep hS).r; have ln := HLN.out _ (C2.out.keep hS).r; go_simp; try (with_reducible rfl))); try simp only [Act.put, List.setIfInBounds_toArray, List.set_cons_zero, List.set_cons_succ])
          | (refine sd_call (v := ?_) (f := 88) (args := ?_) (by rfl) (fun w0 hS => ?_) (fun w0 hS => ?_) ?_; rotate_left 2; (· (skip; go_simp; try (with_reducible rfl))); (· (refine (HRM.out _ (C2.out.keep hS).r).mono ?_; rintro E w9 ⟨rfl, o9⟩; refine ⟨?_, hS.trans o9⟩; rfl)); try simp only [Act.put, List.setIfInBounds_toArray, List.set_cons_zero, List.set_cons_succ])
          | (refine sd_skip (by rfl) ?_; try simp only [Act.put, List.setIfInBounds_toArray, List.set_cons_zero, List.set_cons_succ]))
        refine sd_nil ?_
        intro w5 t5
        have C5 := Lib.hid (C2.out.keep t5)
        have M5 := Lib.hid (M2.out.keep t5)
        have B5 := Lib.hid (B2.out.keep t5)
        clear t5
        go_wp2_with (first
          | (refine wpList_store_row rfl 82 _ _ rfl w.heap.size #[.string ⟨#[]⟩, .string ⟨#[]⟩, .bool false, .int .i64 0, .int .i64 0, .int .i64 0, .int .i64 0, .int .i64 0, .int .i64 0] rfl rfl _ _ M5.out.b (by kernel_rfl) (by kernel_rfl) (by kernel_rfl) ?_))
        refine bodyPost_ret (results_cell_tmp rfl _ _ w.heap.size 82 #[.string ⟨#[]⟩, .string ⟨#[]⟩, .bool false, .int .i64 0, .int .i64 0, .int .i64 0, .int .i64 0, .int .i64 0, .int .i64 0] _ rfl (M5.out.b.setRow _) Tryz.underlying82 rfl (by kernel_rfl) (.int .i64 7) rfl) rfl ?_
        refine ⟨?_, ?_⟩
        · rfl
        · exact (C5.out.box M5.out (Nat.le_refl _) (only_row _ _)).left
      | false =>
        rw [if_neg (by rw [hd]; simp)]
        go_enter Tryz.func94, Tryz.ntmps94
        go_wp2_with (first
          | (with_reducible refine wpl_new rfl rfl 63 rfl _ _ rfl #[] rfl rfl (by kernel_rfl) (by kernel_rfl) ?_))
        clear c10 hlk
        generalize (w.alloc (.cells #[.string ⟨#[]⟩, .string ⟨#[]⟩, .bool false, .int .i64 0, .int .i64 0, .int .i64 0, .int .i64 0, .int .i64 0, .int .i64 0] 82)).alloc (.cells #[] 63) = W2 at C2 M2 B2 ⊢
        (refine wp_region_steady (fun X => Only none_ W2 X) 23 (by kernel_rfl) (by kernel_rfl) ((Only.refl none_ W2).drew) ?_; simp only [List.take_succ_cons, List.take_zero, List.drop_succ_cons, List.drop_zero])
        repeat (first
          | (refine sd_value (v := ?_) (by rfl) (fun w0 hS => ?_) ?_; rotate_left; (· (have c10 := (C2.out.keep hS).r.at_ HR.out (i := 10) rfl; have cq := HQ.out _ (C2.out.keep hS).r; have ln := HLN.out _ (C2.out.keep hS).r; go_simp; try (with_reducible rfl))); try simp only [Act.put, List.setIfInBounds_toArray, List.set_cons_zero, List.set_cons_succ])
          | (refine sd_call (v := ?_) (f := 88) (args := ?_) (by rfl) (fun w0 hS => ?_) (fun w0 hS => ?_) ?_; rotate_left 2; (· (skip; go_simp; try (with_reducible rfl))); (· (refine (HRM.out _ (C2.out.keep hS).r).mono ?_; rintro E w9 ⟨rfl, o9⟩; refine ⟨?_, hS.trans o9⟩; rfl)); try simp only [Act.put, List.setIfInBounds_toArray, List.set_cons_zero, List.set_cons_succ])
          | (refine sd_skip (by rfl) ?_; try simp only [Act.put, List.setIfInBounds_toArray, List.set_cons_zero, List.set_cons_succ]))
        refine sd_nil ?_
        intro w5 t5
        have C5 := Lib.hid (C2.out.keep t5)
        have M5 := Lib.hid (M2.out.keep t5)
        have B5 := Lib.hid (B2.out.keep t5)
        clear t5
        have HNY := Lib.hid (HNX.out _ C5.out.r B5.out (by first | trivial | rfl))
        go_wp2_with (first
          | (go_at_call 153; refine HNY.out.mono ?_; rintro E w6 ⟨rfl, L6⟩
             obtain ⟨a6, c6, e6, b6⟩ := C5.out.step L6
             have C6 := Lib.hid c6
             have M6 := Lib.hid (b6 _ _ _ M5.out)
             clear c6 e6 b6 L6)
          | (refine wpList_store_row rfl 82 _ _ rfl w.heap.size #[.string e2.k, .string e2.v, .bool e2.d, .int .i64 e2.s.c, .int .i64 e2.s.s, .int .i64 e2.a.c, .int .i64 e2.a.s, .int .i64 e2.p, .int .i64 e2.g] rfl rfl _ _ M6.out.b (by kernel_rfl) (by kernel_rfl) (en_cells_one _) ?_))
        refine bodyPost_ret (results_cell_tmp rfl _ _ w.heap.size 82 #[.string e2.k, .string e2.v, .bool e2.d, .int .i64 e2.s.c, .int .i64 e2.s.s, .int .i64 e2.a.c, .int .i64 e2.a.s, .int .i64 e2.p, .int .i64 e2.g] _ rfl (M6.out.b.setRow _) Tryz.underlying82 rfl (by kernel_rfl) (.int .i64 z2) rfl) rfl ?_
        refine ⟨?_, ?_⟩
        · rfl
        · exact (C6.out.box M6.out (Nat.le_refl _) (only_row _ _)).left
end Go.Proofs.YtoohpcomnhfgpaaGreat
end
section
namespace Go.Proofs.YtoohpcomnhfgpaaGreat
open Go.RowKit
set_option maxRecDepth 100000
set_option linter.all false
theorem later_self (x : St) : stLater x x = false := (later_false x x).2 (by omega)
theorem stEq_refl (x : St) : stEq x x = true := (stEq_iff x x).2 rfl
theorem put_check (k v : ByteArray) {a b : St} (ha : stGood a = true) (hb : stGood b = true) : enCheck (putE k v a) = enCheck (putE k v b) := by
  simp only [enCheck, enKeyBad, enValBad, enStBad, enRestBad, enLive, putE, later_self, ha, hb, stEq_refl]
  rfl
theorem good_next {site c : Int} (h : stSite site = true) (h0 : 0 ≤ c) (h1 : c < 4294967295) : stGood ⟨c + 1, site⟩ = true := by
  simp only [stGood, h, Bool.and_true, decide_eq_true_eq]; omega
theorem good_one {site : Int} (h : stSite site = true) : stGood ⟨1, site⟩ = true := by
  simp [stGood, h]
set_option maxHeartbeats 3200000 in
theorem put_clo (n1 n2 : Nat) (k v : ByteArray) (st : St) (w : World) (h1 : Blk w n1 9 #[.string k]) (h2 : Blk w n2 9 #[.string v]) :
    Calls Tryz.prog 91 #[.agg #[.int .i64 st.c, .int .i64 st.s], .pointer (some ⟨n1, 0, none⟩), .pointer (some ⟨n2, 0, none⟩)] w fun E w' => E = .returned (.tuple #[.agg #[.string (enChecked (putE k v st)).1.k, .string (enChecked (putE k v st)).1.v, .bool (enChecked (putE k v st)).1.d, .int .i64 (enChecked (putE k v st)).1.s.c, .int .i64 (enChecked (putE k v st)).1.s.s, .int .i64 (enChecked (putE k v st)).1.a.c, .int .i64 (enChecked (putE k v st)).1.a.s, .int .i64 (enChecked (putE k v st)).1.p, .int .i64 (enChecked (putE k v st)).1.g], .int .i64 (enChecked (putE k v st)).2]) ∧ Only none_ w w' := by
  have O := Lib.hid (((Only.refl none_ w).alloc (.cells #[.int .i64 st.c, .int .i64 st.s] 80)).alloc (.cells #[.string ⟨#[]⟩, .string ⟨#[]⟩, .bool false, .int .i64 0, .int .i64 0, .int .i64 0, .int .i64 0, .int .i64 0, .int .i64 0] 82))
  have BZ := Lib.hid (blk_more (w := w) (t := 80) (u := 82) #[.int .i64 st.c, .int .i64 st.s] #[.string ⟨#[]⟩, .string ⟨#[]⟩, .bool false, .int .i64 0, .int .i64 0, .int .i64 0, .int .i64 0, .int .i64 0, .int .i64 0])
  have B1 := Lib.hid ((Blk.new w 80 #[.int .i64 st.c, .int .i64 st.s]).alloc (.cells #[.string ⟨#[]⟩, .string ⟨#[]⟩, .bool false, .int .i64 0, .int .i64 0, .int .i64 0, .int .i64 0, .int .i64 0, .int .i64 0] 82))
  have c1 := (h1.only O.out (fun h => h)).cell_ (i := 0) rfl
  have c2 := (h2.only O.out (fun h => h)).cell_ (i := 0) rfl
  have c3 := two_of B1.out
  have HC := Lib.hid (fun w => en_put k v st w)
  obtain ⟨⟨e, z⟩, hr⟩ : ∃ r, enChecked (putE k v st) = r := ⟨_, rfl⟩
  have hr' : enChecked ⟨k, v, false, st, st, 0, 0⟩ = (e, z) := hr
  rw [hr'] at HC
  rw [hr]
  clear hr hr' h1 h2
  dsimp only at HC ⊢
  go_enter Tryz.func91, Tryz.ntmps91
  go_wp2_with (first
    | (go_at_call 92; refine (HC.out _).mono ?_; rintro E w1 ⟨rfl, o1⟩
       have O1 := Lib.hid (O.out.trans o1)
       have B4 := Lib.hid (BZ.out.only o1 (fun h => h))
       clear o1)
    | (refine wpList_store_row rfl 82 _ _ rfl (w.heap.size + 1) #[.string e.k, .string e.v, .bool e.d, .int .i64 e.s.c, .int .i64 e.s.s, .int .i64 e.a.c, .int .i64 e.a.s, .int .i64 e.p, .int .i64 e.g] rfl rfl _ _ B4.out (by kernel_rfl) (by kernel_rfl) (en_cells_one _) ?_))
  refine bodyPost_ret (results_cell_tmp rfl _ _ (w.heap.size + 1) 82 #[.string e.k, .string e.v, .bool e.d, .int .i64 e.s.c, .int .i64 e.s.s, .int .i64 e.a.c, .int .i64 e.a.s, .int .i64 e.p, .int .i64 e.g] _ rfl (B4.out.setRow _) Tryz.underlying82 rfl (by kernel_rfl) (.int .i64 z) rfl) rfl ?_
  exact ⟨rfl, O1.out.setRow (.inr (by omega)) _⟩
theorem put_ver (n1 n2 : Nat) (k v : ByteArray) : Ver 91 #[.pointer (some ⟨n1, 0, none⟩), .pointer (some ⟨n2, 0, none⟩)] [(n1, 9, #[.string k]), (n2, 9, #[.string v])] (fun st => enChecked (putE k v st)) :=
  ⟨fun args w => enters_ Tryz.func91 rfl rfl args w, fun X st hb => put_clo n1 n2 k v st X (hb _ List.mem_cons_self) (hb _ (List.mem_cons_of_mem _ List.mem_cons_self))⟩
def putRs (s : Rs) (k v : ByteArray) : Rs × En × Int := if enCheck (putE k v ⟨1, s.site⟩) ≠ 0 then (s, enZero, enCheck (putE k v ⟨1, s.site⟩)) else wrR s k (putE k v ⟨s.c + 1, s.site⟩)
set_option maxHeartbeats 25600000 in
theorem rp_put (B : World) (a : Ra) (s : Rs) (k v : ByteArray) (w : World) (h : Rp B a s w) (hc0 : 0 ≤ s.c ∧ s.c ≤ 4294967295) (hsi : stSite s.site = true) (ok : Rky s) :
    Calls Tryz.prog 44 #[.pointer (some ⟨a.r, 0, none⟩), .string k, .string v] w fun E w' => E = .returned (.tuple #[.agg #[.string (putRs s k v).2.1.k, .string (putRs s k v).2.1.v, .bool (putRs s k v).2.1.d, .int .i64 (putRs s k v).2.1.s.c, .int .i64 (putRs s k v).2.1.s.s, .int .i64 (putRs s k v).2.1.a.c, .int .i64 (putRs s k v).2.1.a.s, .int .i64 (putRs s k v).2.1.p, .int .i64 (putRs s k v).2.1.g], .int .i64 (putRs s k v).2.2]) ∧ LeftP B a w (putRs s k v).1 w' := by
  obtain ⟨r, hr⟩ : ∃ r, a.r = r := ⟨_, rfl⟩
  have hmf : ∀ (fn : Fn) (first cap : Array Value) (w : World), (Instr.makeFunc fn first cap).run Tryz.prog w = .ok (.func fn first cap) w := fun _ _ _ _ => rfl
  have h1 := h.keep ((Only.refl none_ w).alloc (.cells #[.string k] 9))
  have h2 := h1.keep ((Only.refl none_ _).alloc (.cells #[.string v] 9))
  have C2 := Lib.hid (((Cy.begin h).keep ((Only.refl none_ w).alloc (.cells #[.string k] 9))).keep ((Only.refl none_ _).alloc (.cells #[.string v] 9)) |>.keep ((Only.refl none_ _).alloc (.cells #[.string ⟨#[]⟩, .string ⟨#[]⟩, .bool false, .int .i64 0, .int .i64 0, .int .i64 0, .int .i64 0, .int .i64 0, .int .i64 0] 82)))
  have K2 : Hid (Bn a w.heap.size 9 #[.string k] (((w.alloc (.cells #[.string k] 9)).alloc (.cells #[.string v] 9)).alloc (.cells #[.string ⟨#[]⟩, .string ⟨#[]⟩, .bool false, .int .i64 0, .int .i64 0, .int .i64 0, .int .i64 0, .int .i64 0, .int .i64 0] 82))) := ((Bn.new h).keep ((Only.refl none_ _).alloc _)).keep ((Only.refl none_ _).alloc _)
  have V2 : Hid (Bn a (w.heap.size + 1) 9 #[.string v] (((w.alloc (.cells #[.string k] 9)).alloc (.cells #[.string v] 9)).alloc (.cells #[.string ⟨#[]⟩, .string ⟨#[]⟩, .bool false, .int .i64 0, .int .i64 0, .int .i64 0, .int .i64 0, .int .i64 0, .int .i64 0] 82))) := by
    have := (Bn.new (t := 9) (cs := #[.string v]) h1).keep ((Only.refl none_ _).alloc (.cells #[.string ⟨#[]⟩, .string ⟨#[]⟩, .bool false, .int .i64 0, .int .i64 0, .int .i64 0, .int .i64 0, .int .i64 0, .int .i64 0] 82))
    rwa [World.size_alloc] at this
  have M2 : Hid (Bn a (w.heap.size + 2) 82 #[.string ⟨#[]⟩, .string ⟨#[]⟩, .bool false, .int .i64 0, .int .i64 0, .int .i64 0, .int .i64 0, .int .i64 0, .int .i64 0] (((w.alloc (.cells #[.string k] 9)).alloc (.cells #[.string v] 9)).alloc (.cells #[.string ⟨#[]⟩, .string ⟨#[]⟩, .bool false, .int .i64 0, .int .i64 0, .int .i64 0, .int .i64 0, .int .i64 0, .int .i64 0] 82))) := by
    have := Bn.new (t := 82) (cs := #[.string ⟨#[]⟩, .string ⟨#[]⟩, .bool false, .int .i64 0, .int .i64 0, .int .i64 0, .int .i64 0, .int .i64 0, .int .i64 0]) h2
    rwa [World.size_alloc, World.size_alloc] at this
  have HBX : Hid (∀ (a1 : Ra) (X : World), Bn a1 w.heap.size 9 #[.string k] X → Bn a1 (w.heap.size + 1) 9 #[.string v] X → Bx a1 [(w.heap.size, 9, #[.string k]), (w.heap.size + 1, 9, #[.string v])] X) := fun a1 X b1 b2 p hp => by
    simp only [List.mem_cons, List.not_mem_nil, or_false] at hp
    rcases hp with rfl | rfl
    · exact b1
    · exact b2
  have HF := Lib.hid (fun (X : World) (hX : Rp B a s X) (hB : Bx a [(w.heap.size, 9, #[.string k]), (w.heap.size + 1, 9, #[.string v])] X) => by
    have := rp_fault B a s _ _ _ _ (put_ver w.heap.size (w.heap.size + 1) k v) X hX hB
    rw [hr] at this
    exact this)
  have q0 := K2.out.b.cell_ (i := 0) rfl
  obtain ⟨z, hz⟩ : ∃ z, enCheck (putE k v ⟨1, s.site⟩) = z := ⟨_, rfl⟩
  by_cases hz0 : z = 0
  · have hck : (enChecked (putE k v ⟨1, s.site⟩)).2 = 0 := by unfold enChecked; rw [if_pos (hz.trans hz0)]
    have hpr : putRs s k v = wrR s k (putE k v ⟨s.c + 1, s.site⟩) := by unfold putRs; rw [if_neg (by rw [hz, hz0]; simp)]
    rw [hpr]
    simp only [hck] at HF
    have HW := Lib.hid (fun (X : World) (hX : Rp B a s X) (hB : Bx a [(w.heap.size, 9, #[.string k]), (w.heap.size + 1, 9, #[.string v])] X) => by
      have hks : k.size ≤ maxLen := key_small (e := putE k v ⟨1, s.site⟩) (hz.trans hz0)
      have := rp_write B a s _ _ _ _ (put_ver w.heap.size (w.heap.size + 1) k v) k (putE k v ⟨s.c + 1, s.site⟩) X hX hB hc0 (fun hl => by
        have hg := good_next hsi hc0.1 hl
        have hc : enCheck (putE k v ⟨s.c + 1, s.site⟩) = 0 := by rw [put_check k v hg (good_one hsi)]; exact hz.trans hz0
        refine ⟨?_, hc⟩
        unfold enChecked
        rw [if_pos hc]) rfl hks ok
      rw [hr] at this
      exact this)
    obtain ⟨⟨s2, e2, z2⟩, hq⟩ : ∃ q, wrR s k (putE k v ⟨s.c + 1, s.site⟩) = q := ⟨_, rfl⟩
    rw [hq] at HW ⊢
    dsimp only at HW ⊢
    rw [hr]
    clear h h1 h2 hr hc0 hsi ok hz hz0 hck hpr hq
    go_enter Tryz.func44, Tryz.ntmps44
    go_wp2_with (first
      | (go_at_call 93; refine (HF.out _ C2.out.r (HBX.out _ _ K2.out V2.out)).mono ?_; rintro E w3 ⟨rfl, o3⟩
         have C3 := Lib.hid (C2.out.keep o3)
         have K3 := Lib.hid (K2.out.keep o3)
         have V3 := Lib.hid (V2.out.keep o3)
         have M3 := Lib.hid (M2.out.keep o3)
         have q3 := K3.out.b.cell_ (i := 0) rfl
         clear o3)
      | (go_at_call 94; refine (HW.out _ C3.out.r (HBX.out _ _ K3.out V3.out)).mono ?_; rintro E w4 ⟨rfl, L4⟩
         obtain ⟨a4, c4, e4, b4⟩ := C3.out.step L4
         have C4 := Lib.hid c4
         have M4 := Lib.hid (b4 _ _ _ M3.out)
         clear c4 e4 b4 L4)
      | (refine wpList_store_row rfl 82 _ _ rfl (w.heap.size + 2) #[.string e2.k, .string e2.v, .bool e2.d, .int .i64 e2.s.c, .int .i64 e2.s.s, .int .i64 e2.a.c, .int .i64 e2.a.s, .int .i64 e2.p, .int .i64 e2.g] rfl rfl _ _ M4.out.b (by kernel_rfl) (by kernel_rfl) (en_cells_one _) ?_))
    refine bodyPost_ret (results_cell_tmp rfl _ _ (w.heap.size + 2) 82 #[.string e2.k, .string e2.v, .bool e2.d, .int .i64 e2.s.c, .int .i64 e2.s.s, .int .i64 e2.a.c, .int .i64 e2.a.s, .int .i64 e2.p, .int .i64 e2.g] _ rfl (M4.out.b.setRow _) Tryz.underlying82 rfl (by kernel_rfl) (.int .i64 z2) rfl) rfl ?_
    exact ⟨rfl, (C4.out.box M4.out (by omega) (only_row _ _)).left⟩
  · have hck : (enChecked (putE k v ⟨1, s.site⟩)).2 = z := by unfold enChecked; rw [if_neg (by rw [hz]; exact hz0), hz]
    have hpr : putRs s k v = (s, enZero, z) := by unfold putRs; rw [if_pos (by rw [hz]; exact hz0), hz]
    rw [hpr]
    simp only [hck] at HF
    have hzb : (z != 0) = true := by simpa using hz0
    rw [hr]
    clear h h1 h2 hr hc0 hsi ok hz hz0 hck hpr
    go_enter Tryz.func44, Tryz.ntmps44
    go_wp2_with (first
      | (go_at_call 93; refine (HF.out _ C2.out.r (HBX.out _ _ K2.out V2.out)).mono ?_; rintro E w3 ⟨rfl, o3⟩
         have C3 := Lib.hid (C2.out.keep o3)
         have M3 := Lib.hid (M2.out.keep o3)
         clear o3)
      | (refine wpList_store_row rfl 82 _ _ rfl (w.heap.size + 2) #[.string ⟨#[]⟩, .string ⟨#[]⟩, .bool false, .int .i64 0, .int .i64 0, .int .i64 0, .int .i64 0, .int .i64 0, .int .i64 0] rfl rfl _ _ M3.out.b (by kernel_rfl) (by kernel_rfl) (by kernel_rfl) ?_))
    refine bodyPost_ret (results_cell_tmp rfl _ _ (w.heap.size + 2) 82 #[.string ⟨#[]⟩, .string ⟨#[]⟩, .bool false, .int .i64 0, .int .i64 0, .int .i64 0, .int .i64 0, .int .i64 0, .int .i64 0] _ rfl (M3.out.b.setRow _) Tryz.underlying82 rfl (by kernel_rfl) (.int .i64 z) rfl) rfl ?_
    exact ⟨rfl, (C3.out.box M3.out (by omega) (only_row _ _)).left⟩
end Go.Proofs.YtoohpcomnhfgpaaGreat
end
section
namespace Go.Proofs.YtoohpcomnhfgpaaGreat
open Go.RowKit
set_option maxRecDepth 100000
set_option linter.all false
attribute [local go_sem] Oper.semAt_some
structure Dl (B : World) (a0 : Ra) (w0 : World) (a : Ra) (s : Rs) (k : ByteArray) (p : Int) (n0 n1 nb : Nat) (X : World) : Prop where
  c : Cy B a0 w0 a s X
  k : Bn a n0 9 #[.string k] X
  m : Bn a n1 82 #[.string ⟨#[]⟩, .string ⟨#[]⟩, .bool false, .int .i64 0, .int .i64 0, .int .i64 0, .int .i64 0, .int .i64 0, .int .i64 0] X
  p : Bn a nb 3 #[.int .i64 p] X
theorem Dl.keep {B w0 X Y : World} {a0 a : Ra} {s : Rs} {k : ByteArray} {p : Int} {n0 n1 nb : Nat} (h : Dl B a0 w0 a s k p n0 n1 nb X) (o : Only none_ X Y) : Dl B a0 w0 a s k p n0 n1 nb Y := ⟨h.c.keep o, h.k.keep o, h.m.keep o, h.p.keep o⟩
end Go.Proofs.YtoohpcomnhfgpaaGreat
end
section
namespace Go.Proofs.YtoohpcomnhfgpaaGreat
open Go.RowKit
set_option maxRecDepth 100000
set_option linter.all false
theorem min_two (a b : Int) : ∀ ts t w, (Builtin.min_ ts t #[.int .i64 a, .int .i64 b]).run Tryz.prog w = .ok (.int .i64 (if b < a then b else a)) w := fun ts t w => by
  rw [run_min_int2]
set_option maxHeartbeats 6400000 in
theorem rp_see (B : World) (a : Ra) (s : Rs) (x : St) (w : World) (h : Rp B a s w) :
    Calls Tryz.prog 84 #[.pointer (some ⟨a.ck, 0, none⟩), .agg #[.int .i64 x.c, .int .i64 x.s]] w fun E w' => (∃ b, E = .returned (.bool b)) ∧ LeftP B a w { s with c := seeC s.c x } w' := by
  by_cases hg : stGood x = true
  · by_cases hl : s.c < x.c
    · refine (clk_see a.ck s.site s.c x.c x.s w h.ck hg hl).mono fun E w' ⟨he, hc, o⟩ => ⟨⟨_, he⟩, ?_⟩
      rw [seeC, if_pos ⟨hg, hl⟩]
      exact h.ck_set hc o
    · refine (clk_see_low a.ck s.site s.c x.c x.s w h.ck hg (by omega)).mono fun E w' ⟨he, hc, o⟩ => ⟨⟨_, he⟩, ?_⟩
      rw [seeC, if_neg (fun e => hl e.2)]
      exact LeftP.kept h o
  · refine (clk_see_bad a.ck s.site s.c x.c x.s w h.ck (by simpa using hg)).mono fun E w' ⟨he, hc, o⟩ => ⟨⟨_, he⟩, ?_⟩
    rw [seeC, if_neg (fun e => hg e.1)]
    exact LeftP.kept h o
set_option maxHeartbeats 25600000 in
theorem rp_expired (B : World) (a : Ra) (s : Rs) (x : En) (w : World) (h : Rp B a s w) (hx : x.d = true → 0 ≤ x.g ∧ x.g ≤ 2147483647) :
    Calls Tryz.prog 87 #[.pointer (some ⟨a.r, 0, none⟩), .agg #[.string x.k, .string x.v, .bool x.d, .int .i64 x.s.c, .int .i64 x.s.s, .int .i64 x.a.c, .int .i64 x.a.s, .int .i64 x.p, .int .i64 x.g]] w fun E w' => E = .returned (.bool (lateM s.o x)) ∧ Only none_ w w' := by
  have HC : Hid (∀ X, Only none_ w X → X.cell? ⟨a.r, 3, none⟩ = some (.int .i64 s.o.t1)) := fun X o => (h.keep o).bk.cell_ (i := 3) rfl
  have hlm : lateM s.o x = (x.d && !decide (s.o.t1 = 0) && decide (s.o.t1 ≤ x.g + 1)) := rfl
  rw [hlm]
  generalize s.o.t1 = t1 at HC ⊢
  obtain ⟨k, v, d, ⟨sc, ss⟩, ⟨ac, as_⟩, p, g⟩ := x
  dsimp only at hx ⊢
  have O2 := Lib.hid ((Only.refl none_ w).alloc (.cells #[.string k, .string v, .bool d, .int .i64 sc, .int .i64 ss, .int .i64 ac, .int .i64 as_, .int .i64 p, .int .i64 g] 82))
  have HB := Lib.hid (Blk.new w 82 #[.string k, .string v, .bool d, .int .i64 sc, .int .i64 ss, .int .i64 ac, .int .i64 as_, .int .i64 p, .int .i64 g])
  clear h hlm
  cases d with
  | false =>
    clear hx
    go_enter Tryz.func87, Tryz.ntmps87
    go_wp2_with fail
    generalize w.alloc (.cells #[.string k, .string v, .bool false, .int .i64 sc, .int .i64 ss, .int .i64 ac, .int .i64 as_, .int .i64 p, .int .i64 g] 82) = W2 at O2 HB ⊢
    (refine wp_region_steady (fun X => Only none_ W2 X) 22 (by kernel_rfl) (by kernel_rfl) ((Only.refl none_ W2).drew) ?_; simp only [List.take_succ_cons, List.take_zero, List.drop_succ_cons, List.drop_zero])
    repeat (first
      | (refine sd_value (v := ?_) (by rfl) (fun w0 hS => ?_) ?_; rotate_left; (· (have qq := nine_of (HB.out.only hS (fun h => h)); have c3 := HC.out _ (O2.out.trans hS); go_simp; try (with_reducible rfl))); try simp only [Act.put, List.setIfInBounds_toArray, List.set_cons_zero, List.set_cons_succ])
      | (refine sd_skip (by rfl) ?_; try simp only [Act.put, List.setIfInBounds_toArray, List.set_cons_zero, List.set_cons_succ]))
    refine sd_nil ?_
    intro w5 t5
    have T5 := Lib.hid (O2.out.trans t5)
    clear t5
    go_wp2_with fail
    go_ret
    exact ⟨rfl, T5.out⟩
  | true =>
    have hg := hx rfl
    obtain ⟨g1, hg1⟩ : ∃ y, g + 1 = y := ⟨_, rfl⟩
    have hw : IntKind.i64.wrap (g + 1) = g1 := (IntWalk.i64_in _ (by omega)).trans hg1
    rw [hg1]
    clear hx hg hg1
    by_cases ht : t1 = 0
    · have hd0 : (t1 != 0) = false := by simp [ht]
      have HT : Hid (decide (t1 = 0) = true) := by simp [Hid, ht]
      clear ht
      go_enter Tryz.func87, Tryz.ntmps87
      go_wp2_with fail
      generalize w.alloc (.cells #[.string k, .string v, .bool true, .int .i64 sc, .int .i64 ss, .int .i64 ac, .int .i64 as_, .int .i64 p, .int .i64 g] 82) = W2 at O2 HB ⊢
      (refine wp_region_steady (fun X => Only none_ W2 X) 22 (by kernel_rfl) (by kernel_rfl) ((Only.refl none_ W2).drew) ?_; simp only [List.take_succ_cons, List.take_zero, List.drop_succ_cons, List.drop_zero])
      repeat (first
        | (refine sd_value (v := ?_) (by rfl) (fun w0 hS => ?_) ?_; rotate_left; (· (have qq := nine_of (HB.out.only hS (fun h => h)); have c3 := HC.out _ (O2.out.trans hS); go_simp; try (with_reducible rfl))); try simp only [Act.put, List.setIfInBounds_toArray, List.set_cons_zero, List.set_cons_succ])
        | (refine sd_skip (by rfl) ?_; try simp only [Act.put, List.setIfInBounds_toArray, List.set_cons_zero, List.set_cons_succ]))
      refine sd_nil ?_
      intro w5 t5
      have T5 := Lib.hid (O2.out.trans t5)
      clear t5
      go_wp2_with fail
      go_ret
      exact ⟨by rw [HT.out]; rfl, T5.out⟩
    · have hd0 : (t1 != 0) = true := by simpa using ht
      have HT : Hid (decide (t1 = 0) = false) := by simp [Hid, ht]
      obtain ⟨b, hb⟩ : ∃ b, decide (t1 ≤ g1) = b := ⟨_, rfl⟩
      rw [hb]
      clear ht
      go_enter Tryz.func87, Tryz.ntmps87
      go_wp2_with fail
      generalize w.alloc (.cells #[.string k, .string v, .bool true, .int .i64 sc, .int .i64 ss, .int .i64 ac, .int .i64 as_, .int .i64 p, .int .i64 g] 82) = W2 at O2 HB ⊢
      (refine wp_region_steady (fun X => Only none_ W2 X) 22 (by kernel_rfl) (by kernel_rfl) ((Only.refl none_ W2).drew) ?_; simp only [List.take_succ_cons, List.take_zero, List.drop_succ_cons, List.drop_zero])
      repeat (first
        | (refine sd_value (v := ?_) (by rfl) (fun w0 hS => ?_) ?_; rotate_left; (· (have qq := nine_of (HB.out.only hS (fun h => h)); have c3 := HC.out _ (O2.out.trans hS); go_simp; try (with_reducible rfl))); try simp only [Act.put, List.setIfInBounds_toArray, List.set_cons_zero, List.set_cons_succ])
        | (refine sd_skip (by rfl) ?_; try simp only [Act.put, List.setIfInBounds_toArray, List.set_cons_zero, List.set_cons_succ]))
      refine sd_nil ?_
      intro w5 t5
      have T5 := Lib.hid (O2.out.trans t5)
      clear t5
      go_wp2_with fail
      go_ret
      exact ⟨by rw [HT.out]; rfl, T5.out⟩
theorem age_look (o : Ro) (l : List En) (x : En) : ageM o l x = if x.d = false ∨ o.t1 = 0 then 0 else if ((lookE l x.k).getD enZero).d = true ∧ ((lookE l x.k).getD enZero).g < x.g + 1 then ((lookE l x.k).getD enZero).g else x.g + 1 := by
  unfold ageM
  split
  · rfl
  · cases lookE l x.k with
    | none => rw [if_neg (by simp [enZero])]
    | some was => rfl
set_option maxHeartbeats 25600000 in
theorem rp_age (B : World) (a : Ra) (s : Rs) (x : En) (w : World) (h : Rp B a s w) (hx : x.d = true → 0 ≤ x.g ∧ x.g ≤ 2147483647) :
    Calls Tryz.prog 146 #[.pointer (some ⟨a.r, 0, none⟩), .agg #[.string x.k, .string x.v, .bool x.d, .int .i64 x.s.c, .int .i64 x.s.s, .int .i64 x.a.c, .int .i64 x.a.s, .int .i64 x.p, .int .i64 x.g]] w fun E w' => E = .returned (.int .i64 (ageM s.o s.tab x)) ∧ Only none_ w w' := by
  rw [age_look]
  have HE := Lib.hid (fun (X : World) (o : Only none_ w X) => ct_entry B a s x.k X (h.keep o))
  have HC : Hid (∀ X, Only none_ w X → X.cell? ⟨a.r, 3, none⟩ = some (.int .i64 s.o.t1)) := fun X o => (h.keep o).bk.cell_ (i := 3) rfl
  obtain ⟨e, he⟩ : ∃ e, (lookE s.tab x.k).getD enZero = e := ⟨_, rfl⟩
  rw [he] at HE ⊢
  generalize hasE s.tab x.k = hs at HE
  generalize s.o.t1 = t1 at HC ⊢
  obtain ⟨k, v, d, ⟨sc, ss⟩, ⟨ac, as_⟩, p, g⟩ := x
  dsimp only at hx HE ⊢
  have O2 := Lib.hid ((Only.refl none_ w).alloc (.cells #[.string k, .string v, .bool d, .int .i64 sc, .int .i64 ss, .int .i64 ac, .int .i64 as_, .int .i64 p, .int .i64 g] 82))
  have HB := Lib.hid (Blk.new w 82 #[.string k, .string v, .bool d, .int .i64 sc, .int .i64 ss, .int .i64 ac, .int .i64 as_, .int .i64 p, .int .i64 g])
  have qq := nine_of HB.out
  clear h he
  cases d with
  | false =>
    rw [if_pos (.inl rfl)]
    clear hx
    go_enter Tryz.func146, Tryz.ntmps146
    go_wp2_with fail
    go_ret
    exact ⟨rfl, O2.out⟩
  | true =>
    have hg := hx rfl
    obtain ⟨g1, hg1⟩ : ∃ y, g + 1 = y := ⟨_, rfl⟩
    have hw : IntKind.i64.wrap (g + 1) = g1 := (IntWalk.i64_in _ (by omega)).trans hg1
    rw [hg1]
    clear hx hg hg1
    have c3 := HC.out _ O2.out
    by_cases ht : t1 = 0
    · rw [if_pos (.inr ht)]
      have hd0 : (t1 == 0) = true := by simp [ht]
      clear ht
      go_enter Tryz.func146, Tryz.ntmps146
      go_wp2_with fail
      go_ret
      exact ⟨rfl, O2.out⟩
    · rw [if_neg (by simp [ht])]
      have hd0 : (t1 == 0) = false := by simpa using ht
      clear ht
      obtain ⟨ek, vv, d, ⟨esc, ess⟩, ⟨eac, eas⟩, ep, eg⟩ := e
      dsimp only at HE ⊢
      obtain ⟨R, hR⟩ : ∃ R, (if d = true ∧ eg < g1 then eg else g1) = R := ⟨_, rfl⟩
      rw [hR]
      have HRR := Lib.hid hR
      clear hR
      go_enter Tryz.func146, Tryz.ntmps146
      go_upto_region 4 with fail
      obtain ⟨wa, hwa⟩ : ∃ wa, w.alloc (.cells #[.string k, .string v, .bool true, .int .i64 sc, .int .i64 ss, .int .i64 ac, .int .i64 as_, .int .i64 p, .int .i64 g] 82) = wa := ⟨_, rfl⟩
      rw [hwa] at HB O2 ⊢
      clear hwa c3 qq
      go_cut [6, 7] (fun s5 s6 w' => Gk wa ⟨ek, vv, d, ⟨esc, ess⟩, ⟨eac, eas⟩, ep, eg⟩ hs s5 s6 w')
      case rest =>
        obtain ⟨b, rfl, rfl, hb, B6, o6⟩ := hcut
        obtain ⟨t0, t1_, t2, t3, t4, t5, t6, t7, t8⟩ := nine_of B6
        have O6 := Lib.hid (O2.out.trans o6)
        clear o6 B6 hb
        cases d with
        | false =>
          have hR := HRR.out
          rw [if_neg (by simp)] at hR
          subst hR
          go_wp2_with fail
          go_ret
          exact ⟨rfl, O6.out⟩
        | true =>
          have hmin := min_two g1 eg
          have hR := HRR.out
          have hif : (if true = true ∧ eg < g1 then eg else g1) = (if eg < g1 then eg else g1) := by simp
          rw [hif] at hR
          rw [hR] at hmin
          clear hif hR
          go_wp2_with fail
          go_ret
          exact ⟨rfl, O6.out⟩
      case first =>
        have q0 := (Blk.drew HB.out).cell_ (i := 0) rfl
        have u0 := (Blk.drew (HB.out.alloc (.cells #[.string ⟨#[]⟩, .string ⟨#[]⟩, .bool false, .int .i64 0, .int .i64 0, .int .i64 0, .int .i64 0, .int .i64 0, .int .i64 0] 82))).cell_ (i := 0) rfl
        have BN := Lib.hid (Blk.drew (Blk.new wa 82 #[.string ⟨#[]⟩, .string ⟨#[]⟩, .bool false, .int .i64 0, .int .i64 0, .int .i64 0, .int .i64 0, .int .i64 0, .int .i64 0]))
        go_region_law (first
          | (refine Se.step_call (by simp [Region.wanted]) 24 #[.pointer (some ⟨a.r, 6, none⟩), .string k] (by go_simp; try (with_reducible rfl)) ?_
             refine (HE.out _ (by first | exact O2.out.drew | exact (O2.out.alloc _).drew)).mono ?_
             rintro E w1 ⟨rfl, o1⟩
             refine ⟨_, rfl, ?_⟩
             have O1 : Hid (Only none_ wa w1) := by first | exact ((Only.refl none_ wa).drew).trans o1 | exact (((Only.refl none_ wa).alloc _).drew).trans o1
             try (have B1 := Lib.hid (BN.out.only o1 (fun h => h)); have q1 := nine_of B1.out; have z1 := frozen9 B1.out)
             have B2 := Lib.hid (Blk.new w1 82 #[.string ⟨#[]⟩, .string ⟨#[]⟩, .bool false, .int .i64 0, .int .i64 0, .int .i64 0, .int .i64 0, .int .i64 0, .int .i64 0])
             have q2 := nine_of B2.out
             have z2 := frozen9 B2.out
             clear o1))
        all_goals go_wp2_with fail
        all_goals go_meet
        all_goals first
          | exact ⟨_, rfl, rfl, O1.out.size, Blk.new _ _ _, O1.out.alloc _⟩
          | exact Gk.of (x := enZero) (e := ⟨ek, vv, d, ⟨esc, ess⟩, ⟨eac, eas⟩, ep, eg⟩) O1.out B1.out (Nat.le_refl _)
end Go.Proofs.YtoohpcomnhfgpaaGreat
end
section
namespace Go.Proofs.YtoohpcomnhfgpaaGreat
open Go.RowKit
set_option maxRecDepth 100000
set_option linter.all false
theorem young_look (o : Ro) (l : List En) (x : En) : youngM o l x = if (((lookE l x.k).getD enZero).d && x.d) = true then setE { ((lookE l x.k).getD enZero) with g := ageM o l x } l else l := by
  unfold youngM
  cases lookE l x.k <;> rfl
set_option maxHeartbeats 25600000 in
theorem rp_younger (B : World) (a : Ra) (s : Rs) (x : En) (w : World) (h : Rp B a s w) (hx : x.d = true → 0 ≤ x.g ∧ x.g ≤ 2147483647) :
    Calls Tryz.prog 86 #[.pointer (some ⟨a.r, 0, none⟩), .agg #[.string x.k, .string x.v, .bool x.d, .int .i64 x.s.c, .int .i64 x.s.s, .int .i64 x.a.c, .int .i64 x.a.s, .int .i64 x.p, .int .i64 x.g]] w fun E w' => E = .returned (.tuple #[]) ∧ LeftP B a w { s with tab := youngM s.o s.tab x } w' := by
  rw [young_look]
  have HE := Lib.hid (fun (X : World) (o : Only none_ w X) => ct_entry B a s x.k X (h.keep o))
  have HAG := Lib.hid (fun (X : World) (o : Only none_ w X) => rp_age B a s x X (h.keep o) hx)
  obtain ⟨e, he⟩ : ∃ e, (lookE s.tab x.k).getD enZero = e := ⟨_, rfl⟩
  have HSA : Hid (e.d = true → ∀ (X : World) (o : Only none_ w X), Calls Tryz.prog 99 #[.pointer (some ⟨a.r, 6, none⟩), .agg #[.string e.k, .string e.v, .bool e.d, .int .i64 e.s.c, .int .i64 e.s.s, .int .i64 e.a.c, .int .i64 e.a.s, .int .i64 e.p, .int .i64 e.g], .int .i64 (ageM s.o s.tab x)] X fun E w' => E = .returned (.tuple #[]) ∧ LeftP B a w { s with tab := setE { e with g := ageM s.o s.tab x } s.tab } w') := fun hd X o => by
    refine (ct_age B a s e (ageM s.o s.tab x) X (h.keep o) ?_).mono fun E w' h2 => ⟨h2.1, h2.2.after0 o⟩
    cases hl : lookE s.tab x.k with
    | none => rw [hl] at he; rw [← he] at hd; cases hd
    | some was =>
      rw [hl] at he
      obtain rfl : was = e := he
      exact hasE_mem (look_some hl).1
  have HKE := Lib.hid (fun (X : World) (o : Only none_ w X) => LeftP.kept h o)
  rw [he] at HE ⊢
  generalize hasE s.tab x.k = hs at HE
  generalize ageM s.o s.tab x = age at HAG HSA ⊢
  obtain ⟨s2, hs2⟩ : ∃ s2, ({ s with tab := if (e.d && x.d) = true then setE { e with g := age } s.tab else s.tab } : Rs) = s2 := ⟨_, rfl⟩
  have HS2 := Lib.hid hs2
  rw [hs2]
  obtain ⟨k, v, d, ⟨sc, ss⟩, ⟨ac, as_⟩, p, g⟩ := x
  obtain ⟨ek, vv, ed, ⟨esc, ess⟩, ⟨eac, eas⟩, ep, eg⟩ := e
  dsimp only at HE HAG HSA HS2 ⊢
  have O2 := Lib.hid ((Only.refl none_ w).alloc (.cells #[.string k, .string v, .bool d, .int .i64 sc, .int .i64 ss, .int .i64 ac, .int .i64 as_, .int .i64 p, .int .i64 g] 82))
  have HB := Lib.hid (Blk.new w 82 #[.string k, .string v, .bool d, .int .i64 sc, .int .i64 ss, .int .i64 ac, .int .i64 as_, .int .i64 p, .int .i64 g])
  clear h he hx hs2
  go_enter Tryz.func86, Tryz.ntmps86
  go_upto_region 1 with fail
  obtain ⟨wa, hwa⟩ : ∃ wa, w.alloc (.cells #[.string k, .string v, .bool d, .int .i64 sc, .int .i64 ss, .int .i64 ac, .int .i64 as_, .int .i64 p, .int .i64 g] 82) = wa := ⟨_, rfl⟩
  rw [hwa] at HB O2 ⊢
  clear hwa
  go_cut [4, 5] (fun s5 s6 w' => Gk wa ⟨ek, vv, ed, ⟨esc, ess⟩, ⟨eac, eas⟩, ep, eg⟩ hs s5 s6 w')
  case rest =>
    obtain ⟨b, rfl, rfl, hb, B6, o6⟩ := hcut
    have q6 := nine_of B6
    have qb := nine_of (HB.out.only o6 (fun h => h))
    have HB6 := Lib.hid (HB.out.only o6 (fun h => h))
    have BE6 := Lib.hid B6
    have O6 := Lib.hid (O2.out.trans o6)
    clear o6 B6 hb
    cases ed with
    | false =>
      have hs2 := HS2.out
      rw [if_neg (by simp)] at hs2
      subst hs2
      go_wp2_with fail
      go_end0
      exact ⟨rfl, HKE.out _ O6.out⟩
    | true =>
      cases d with
      | false =>
        have hs2 := HS2.out
        rw [if_neg (by simp)] at hs2
        subst hs2
        go_wp2_with fail
        go_end0
        exact ⟨rfl, HKE.out _ O6.out⟩
      | true =>
        have hs2 := HS2.out
        rw [if_pos (by simp)] at hs2
        subst hs2
        have HSB := Lib.hid (HSA.out rfl)
        clear HSA HS2
        go_wp2_with fail
        (refine wp_region_steady (fun X => Only none_ wc X) 7 (by kernel_rfl) (by kernel_rfl) ((Only.refl none_ wc).drew) ?_; simp only [List.take_succ_cons, List.take_zero, List.drop_succ_cons, List.drop_zero])
        repeat (first
          | (refine sd_value (v := ?_) (by rfl) (fun w0 hS => ?_) ?_; rotate_left; (· (skip; go_simp; try (with_reducible rfl))); try simp only [Act.put, List.setIfInBounds_toArray, List.set_cons_zero, List.set_cons_succ])
          | (refine sd_value (v := ?_) (by rfl) (fun w0 hS => ?_) ?_; rotate_left; (· (have qq := nine_of (BE6.out.only hS (fun h => h)); go_simp; try (with_reducible rfl))); try simp only [Act.put, List.setIfInBounds_toArray, List.set_cons_zero, List.set_cons_succ])
          | (refine sd_value (v := ?_) (by rfl) (fun w0 hS => ?_) ?_; rotate_left; (· (have qq := nine_of (HB6.out.only hS (fun h => h)); go_simp; try (with_reducible rfl))); try simp only [Act.put, List.setIfInBounds_toArray, List.set_cons_zero, List.set_cons_succ])
          | (refine sd_call (v := ?_) (f := 146) (args := ?_) (by rfl) (fun w0 hS => ?_) (fun w0 hS => ?_) ?_; rotate_left 2; (· (skip; go_simp; try (with_reducible rfl))); (· (refine (HAG.out _ (O6.out.trans hS)).mono ?_; rintro E w8 ⟨rfl, o8⟩; refine ⟨?_, hS.trans o8⟩; rfl)); try simp only [Act.put, List.setIfInBounds_toArray, List.set_cons_zero, List.set_cons_succ]))
        refine sd_nil ?_
        intro w7 t7
        have O7 := Lib.hid (O6.out.trans t7)
        clear t7 q6 qb
        go_wp2_with (first
          | (go_at_call 99; refine (HSB.out _ O7.out).mono ?_; rintro E w8 ⟨rfl, L8⟩
             have L := Lib.hid L8
             clear L8))
        go_end0
        exact ⟨rfl, L.out⟩
  case first =>
    have q0 := (Blk.drew HB.out).cell_ (i := 0) rfl
    have u0 := (Blk.drew (HB.out.alloc (.cells #[.string ⟨#[]⟩, .string ⟨#[]⟩, .bool false, .int .i64 0, .int .i64 0, .int .i64 0, .int .i64 0, .int .i64 0, .int .i64 0] 82))).cell_ (i := 0) rfl
    have BN := Lib.hid (Blk.drew (Blk.new wa 82 #[.string ⟨#[]⟩, .string ⟨#[]⟩, .bool false, .int .i64 0, .int .i64 0, .int .i64 0, .int .i64 0, .int .i64 0, .int .i64 0]))
    go_region_law (first
      | (refine Se.step_call (by simp [Region.wanted]) 24 #[.pointer (some ⟨a.r, 6, none⟩), .string k] (by go_simp; try (with_reducible rfl)) ?_
         refine (HE.out _ (by first | exact O2.out.drew | exact (O2.out.alloc _).drew)).mono ?_
         rintro E w1 ⟨rfl, o1⟩
         refine ⟨_, rfl, ?_⟩
         have O1 : Hid (Only none_ wa w1) := by first | exact ((Only.refl none_ wa).drew).trans o1 | exact (((Only.refl none_ wa).alloc _).drew).trans o1
         try (have B1 := Lib.hid (BN.out.only o1 (fun h => h)); have q1 := nine_of B1.out; have z1 := frozen9 B1.out)
         have B2 := Lib.hid (Blk.new w1 82 #[.string ⟨#[]⟩, .string ⟨#[]⟩, .bool false, .int .i64 0, .int .i64 0, .int .i64 0, .int .i64 0, .int .i64 0, .int .i64 0])
         have q2 := nine_of B2.out
         have z2 := frozen9 B2.out
         clear o1))
    all_goals go_wp2_with fail
    all_goals go_meet
    all_goals first
      | exact ⟨_, rfl, rfl, O1.out.size, Blk.new _ _ _, O1.out.alloc _⟩
      | exact Gk.of (x := enZero) (e := ⟨ek, vv, ed, ⟨esc, ess⟩, ⟨eac, eas⟩, ep, eg⟩) O1.out B1.out (Nat.le_refl _)
end Go.Proofs.YtoohpcomnhfgpaaGreat
end
