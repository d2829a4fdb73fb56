/- What the document's Decode of a configuration does. No statement of the seat is proved here. -/
import Derived.Test.YthhfpjecgdedgaaSuN
import Derived.Test.YthhfpjecgdedgaaRefV
namespace Go.Proofs.Ythhfpjecgdedgaa
open Go.RowKit
set_option maxRecDepth 100000
set_option linter.all false

/-- A cursor, numbers under way and a result. -/
structure Sy (W : World) (g l r : Nat) (cu : Array Value) (c : Nat → Int) (w : World) : Prop where
  fc : Blk w g 79 cu
  fl : Blk w l 23 #[.int .i64 (c 0), .int .i64 (c 1), .int .i64 (c 2), .int .i64 (c 3), .int .i64 (c 4), .int .i64 (c 5), .int .i64 (c 6), .int .i64 (c 7), .int .i64 (c 8), .int .i64 (c 9), .int .i64 (c 10), .int .i64 (c 11), .int .i64 (c 12), .int .i64 (c 13), .int .i64 (c 14), .int .i64 (c 15), .int .i64 (c 16), .int .i64 (c 17), .int .i64 (c 18), .int .i64 (c 19)]
  fz : Blk w r 23 #[.int .i64 0, .int .i64 0, .int .i64 0, .int .i64 0, .int .i64 0, .int .i64 0, .int .i64 0, .int .i64 0, .int .i64 0, .int .i64 0, .int .i64 0, .int .i64 0, .int .i64 0, .int .i64 0, .int .i64 0, .int .i64 0, .int .i64 0, .int .i64 0, .int .i64 0, .int .i64 0]
  ho : Only none_ W w
  n0 : W.heap.size ≤ r
  n1 : r < g
  n2 : g < l
section
variable {P : Program} {md : Region.Mode} {ops : Array Oper} {Q : Exit → Act → World → Prop} {fuel : Nat} {listed : Array Bool} {a : Act} {w : World} {oi : Oper} {v : Value}
theorem wpAny_comes2 (i d : Nat) (hi : ops[i]? = some oi) (hd : oi.dst = some d) (hg : oi.guard = none)
    (hs : Region.noSelect ops = true) (hf : Region.free md ops listed i = true) (hr : (Region.ready md ops listed).contains i = true)
    (hv : ∀ w, (execOp a.eval oi).run P w = .ok (.value v) w) (hQ : ∀ c a v w, Q (.panic c) (a.put (some d) v) w → Q (.panic c) a w)
    (h : wpAny P md ops Q fuel (listed.setIfInBounds i true) (a.put (some d) v) w) : wpAny P md ops Q (fuel + 1) listed a w :=
  wpAny_take hi hs hf hr (by rw [hd]; exact fun c a w => hQ c a _ w) (.inl ⟨by rw [Region.wanted, hg], hv⟩) (by rw [hd]; exact h)
theorem step_store_row2 {o : Oper} {K : Act → World → Prop} {E : Prop} (hwd : Region.wanted o (yielded ops a.tmps) = true) (ty : TypeId) (x y : Operand) (ho : o.op = .store ty x y)
    (g : Nat) (cells : Array Value) (hx : a.eval x = .pointer (some ⟨g, 0, none⟩)) (hy : a.eval y = .agg cells) (t : TypeId) (old : Array Value) (hg : Blk w g t old) (hi : (P.info? ty).map (·.size) = some cells.size)
    (hold : old.size = cells.size) (h1 : cells.all (·.oneCell') = true) (h : K (a.put o.dst undef) (w.setRow g cells)) : if Region.wanted o (yielded ops a.tmps) = true then Oper.wp P o a w K Q else E := by
  rw [if_pos hwd]
  exact wp_store_row ty x y ho g cells hx hy t old hg hi hold h1 h
end
section
variable {W w w' : World} {g l r : Nat} {cu cu' : Array Value} {c : Nat → Int}
theorem Sy.keep (s : Sy W g l r cu c w) (o : Only none_ w w') : Sy W g l r cu c w' :=
  ⟨s.fc.only o (fun h => h), s.fl.only o (fun h => h), s.fz.only o (fun h => h), s.ho.trans o, s.n0, s.n1, s.n2⟩
theorem Sy.cur (s : Sy W g l r cu c w) (cu' : Array Value) : Sy W g l r cu' c (w.setRow g cu') := by
  have h0 := s.n0
  have h1 := s.n1
  have h2 := s.n2
  exact ⟨s.fc.setRow _, s.fl.setRow_far (by omega) _, s.fz.setRow_far (by omega) _, s.ho.setRow (.inr (by omega)) _, h0, h1, h2⟩
theorem Sy.put (s : Sy W g l r cu c w) (i : Nat) (hi : i < 20) (x : Int) : Sy W g l r cu (up c i x) (w.setCell ⟨l, i, none⟩ (.int .i64 x)) := by
  have h0 := s.n0
  have h1 := s.n1
  have h2 := s.n2
  have b := s.fl.set_ i (.int .i64 x)
  rw [cf_set c i hi x] at b
  exact ⟨s.fc.far (p := ⟨l, i, none⟩) (by show g ≠ l; omega) _, b, s.fz.far (p := ⟨l, i, none⟩) (by show r ≠ l; omega) _, s.ho.setCell (p := ⟨l, i, none⟩) (.inr (by show W.heap.size ≤ l; omega)) _, h0, h1, h2⟩
end

set_option maxHeartbeats 12800000 in
theorem rf_decode13 (A : Option Addr) (L q : Nat) (bs : List UInt8) (S : Nat → Prop) (w : World) (h : Byt w S (.slice A L q) bs) (hS : ∀ b, S b → b < w.heap.size) (hL : L ≤ 100000) :
    Calls Try.prog 29 #[.slice A L q] w fun E w' => E = .returned (.tuple #[.agg #[.int .i64 ((sdVal bs) 0), .int .i64 ((sdVal bs) 1), .int .i64 ((sdVal bs) 2), .int .i64 ((sdVal bs) 3), .int .i64 ((sdVal bs) 4), .int .i64 ((sdVal bs) 5), .int .i64 ((sdVal bs) 6), .int .i64 ((sdVal bs) 7), .int .i64 ((sdVal bs) 8), .int .i64 ((sdVal bs) 9), .int .i64 ((sdVal bs) 10), .int .i64 ((sdVal bs) 11), .int .i64 ((sdVal bs) 12), .int .i64 ((sdVal bs) 13), .int .i64 ((sdVal bs) 14), .int .i64 ((sdVal bs) 15), .int .i64 ((sdVal bs) 16), .int .i64 ((sdVal bs) 17), .int .i64 ((sdVal bs) 18), .int .i64 ((sdVal bs) 19)], .int .i64 (sdCode bs)]) ∧ Only none_ w w' := by
  have hLb : L = bs.length := by obtain ⟨_, _, he, _⟩ := h; injection he
  have HLB := Lib.hid hLb
  have HT : Hid (∀ (k : Nat) (err : Int) w', Only none_ w w' → k ≤ L → Calls Try.prog 43 #[.agg #[.slice A L q, .int .i64 (k : Int), .int .i64 err], .int .i64 4] w' fun E w'' =>
      ∃ d : Nat, E = .returned (.tuple #[.agg #[.slice A L q, .int .i64 ((k + d : Nat) : Int), .int .i64 (numR err (bs.drop k) 4).1], .int .u64 ((numR err (bs.drop k) 4).2.2 : Int)]) ∧
        (numR err (bs.drop k) 4).2.1 = bs.drop (k + d) ∧ k + d ≤ L ∧ Only none_ w' w'') :=
    fun k err w' o hk => ref_take A L q bs k err 4 S w' (h.only o (fun _ _ h => h)) (fun b hb => Nat.lt_of_lt_of_le (hS b hb) o.size) hk hL (by omega)
  have HL := Lib.hid hL
  clear h hS hL hLb
  go_enter Try.func29, Try.ntmps29
  have SX : Hid (Sy w (w.heap.size + 1) (w.heap.size + 2) w.heap.size #[.slice A L q, .int .i64 0, .int .i64 0] (nuR bs 0).2.2 (((w.alloc (.cells #[.int .i64 0, .int .i64 0, .int .i64 0, .int .i64 0, .int .i64 0, .int .i64 0, .int .i64 0, .int .i64 0, .int .i64 0, .int .i64 0, .int .i64 0, .int .i64 0, .int .i64 0, .int .i64 0, .int .i64 0, .int .i64 0, .int .i64 0, .int .i64 0, .int .i64 0, .int .i64 0] 23)).alloc (.cells #[.slice A L q, .int .i64 0, .int .i64 0] 79)).alloc (.cells #[.int .i64 0, .int .i64 0, .int .i64 0, .int .i64 0, .int .i64 0, .int .i64 0, .int .i64 0, .int .i64 0, .int .i64 0, .int .i64 0, .int .i64 0, .int .i64 0, .int .i64 0, .int .i64 0, .int .i64 0, .int .i64 0, .int .i64 0, .int .i64 0, .int .i64 0, .int .i64 0] 23))) := by
    have b0 := ((Blk.new w 23 #[.int .i64 0, .int .i64 0, .int .i64 0, .int .i64 0, .int .i64 0, .int .i64 0, .int .i64 0, .int .i64 0, .int .i64 0, .int .i64 0, .int .i64 0, .int .i64 0, .int .i64 0, .int .i64 0, .int .i64 0, .int .i64 0, .int .i64 0, .int .i64 0, .int .i64 0, .int .i64 0]).alloc (.cells #[.slice A L q, .int .i64 0, .int .i64 0] 79)).alloc (.cells #[.int .i64 0, .int .i64 0, .int .i64 0, .int .i64 0, .int .i64 0, .int .i64 0, .int .i64 0, .int .i64 0, .int .i64 0, .int .i64 0, .int .i64 0, .int .i64 0, .int .i64 0, .int .i64 0, .int .i64 0, .int .i64 0, .int .i64 0, .int .i64 0, .int .i64 0, .int .i64 0] 23)
    have b1 := (Blk.new (w.alloc (.cells #[.int .i64 0, .int .i64 0, .int .i64 0, .int .i64 0, .int .i64 0, .int .i64 0, .int .i64 0, .int .i64 0, .int .i64 0, .int .i64 0, .int .i64 0, .int .i64 0, .int .i64 0, .int .i64 0, .int .i64 0, .int .i64 0, .int .i64 0, .int .i64 0, .int .i64 0, .int .i64 0] 23)) 79 #[.slice A L q, .int .i64 0, .int .i64 0]).alloc (.cells #[.int .i64 0, .int .i64 0, .int .i64 0, .int .i64 0, .int .i64 0, .int .i64 0, .int .i64 0, .int .i64 0, .int .i64 0, .int .i64 0, .int .i64 0, .int .i64 0, .int .i64 0, .int .i64 0, .int .i64 0, .int .i64 0, .int .i64 0, .int .i64 0, .int .i64 0, .int .i64 0] 23)
    have b2 := Blk.new ((w.alloc (.cells #[.int .i64 0, .int .i64 0, .int .i64 0, .int .i64 0, .int .i64 0, .int .i64 0, .int .i64 0, .int .i64 0, .int .i64 0, .int .i64 0, .int .i64 0, .int .i64 0, .int .i64 0, .int .i64 0, .int .i64 0, .int .i64 0, .int .i64 0, .int .i64 0, .int .i64 0, .int .i64 0] 23)).alloc (.cells #[.slice A L q, .int .i64 0, .int .i64 0] 79)) 23 #[.int .i64 0, .int .i64 0, .int .i64 0, .int .i64 0, .int .i64 0, .int .i64 0, .int .i64 0, .int .i64 0, .int .i64 0, .int .i64 0, .int .i64 0, .int .i64 0, .int .i64 0, .int .i64 0, .int .i64 0, .int .i64 0, .int .i64 0, .int .i64 0, .int .i64 0, .int .i64 0]
    rw [World.size_alloc] at b1
    rw [World.size_alloc, World.size_alloc] at b2
    exact ⟨b1, b2, b0, (((Only.refl none_ w).alloc _).alloc _).alloc _, Nat.le_refl _, Nat.lt_succ_self _, Nat.lt_succ_self _⟩
  go_wp2_with (first
    | (refine wpl_new rfl rfl 79 rfl _ _ rfl #[.slice A L q, .int .i64 0, .int .i64 0] rfl rfl (by kernel_rfl) (by simp [Value.oneCell']) ?_)
    | (refine wpl_new rfl rfl 23 rfl _ _ rfl #[.int .i64 0, .int .i64 0, .int .i64 0, .int .i64 0, .int .i64 0, .int .i64 0, .int .i64 0, .int .i64 0, .int .i64 0, .int .i64 0, .int .i64 0, .int .i64 0, .int .i64 0, .int .i64 0, .int .i64 0, .int .i64 0, .int .i64 0, .int .i64 0, .int .i64 0, .int .i64 0] rfl rfl (by kernel_rfl) (by simp [Value.oneCell']) ?_))
  generalize hW3 : ((w.alloc _).alloc _).alloc _ = W3 at *
  clear hW3
  generalize hl : w.heap.size + 2 = l at *
  generalize hg : w.heap.size + 1 = g at *
  generalize hr : w.heap.size = r at *
  go_loopw [6] (fun i wr => ∃ k m : Nat, k ≤ 20 ∧ m ≤ L ∧ i = .int .i64 (k : Int) ∧ bs.drop m = (nuR bs k).2.1 ∧ Sy w g l r #[.slice A L q, .int .i64 (m : Int), .int .i64 (nuR bs k).1] (nuR bs k).2.2 wr) (fun i _ => 20 - (intOf i).toNat)
  case atStart => exact ⟨0, 0, by omega, by omega, rfl, rfl, SX.out⟩
  case round =>
    obtain ⟨k, m, hk, hm, rfl, hdr, hs⟩ := hrel
    have HS := Lib.hid hs
    have HDR := Lib.hid hdr
    have HMm := Lib.hid hm
    clear hs hdr hm
    by_cases hlt : k < 20
    · have HE : Hid ((nuR bs (k + 1)).1 = (numR (nuR bs k).1 (bs.drop m) 4).1 ∧ (nuR bs (k + 1)).2.1 = (numR (nuR bs k).1 (bs.drop m) 4).2.1 ∧ (nuR bs (k + 1)).2.2 = up (nuR bs k).2.2 k ((numR (nuR bs k).1 (bs.drop m) 4).2.2 : Int)) := by
        rw [HDR.out]; exact ⟨rfl, rfl, rfl⟩
      have hlt4 := numR_lt (nuR bs k).1 (bs.drop m)
      have HN := Lib.hid (HT.out m (nuR bs k).1)
      generalize (numR (nuR bs k).1 (bs.drop m) 4).2.2 = v at *
      generalize (numR (nuR bs k).1 (bs.drop m) 4).2.1 = b1 at *
      generalize (numR (nuR bs k).1 (bs.drop m) 4).1 = c1 at *
      generalize (nuR bs k).2.2 = cc at *
      generalize (nuR bs k).1 = c0 at *
      have hki : (k : Int) < 20 := by omega
      have u1 : IntKind.i64.wrap (v : Int) = (v : Int) := IntWalk.i64_in _ (by omega)
      go_wp2_with (first
        | (refine wpl_load rfl 79 _ rfl g rfl _ #[.slice A L q, .int .i64 (m : Int), .int .i64 c0] _ HS.out.fc Try.underlying79 rfl (by kernel_rfl) ?_)
        | (go_at_call 43; refine (HN.out _ HS.out.ho HMm.out).mono ?_; rintro E w3 ⟨d, rfl, hd1, hd2, o3⟩
           have HD1 := Lib.hid hd1
           have HD2 := Lib.hid hd2
           obtain ⟨md, hmd⟩ : ∃ md, m + d = md := ⟨_, rfl⟩
           rw [hmd] at HD1 HD2 ⊢
           clear hd1 hd2 hmd
           have S3 := Lib.hid ((HS.out.keep o3).keep ((Only.refl none_ w3).alloc (.cells #[.slice A L q, .int .i64 (md : Int), .int .i64 c1] 79)))
           have B3 := Lib.hid (Blk.new w3 79 #[.slice A L q, .int .i64 (md : Int), .int .i64 c1])
           clear o3)
        | (refine wpl_new rfl rfl 79 rfl _ _ rfl #[.slice A L q, .int .i64 (md : Int), .int .i64 c1] rfl rfl (by kernel_rfl) (by simp [Value.oneCell']) ?_)
        | (refine wpl_load rfl 79 _ rfl w3.heap.size rfl _ #[.slice A L q, .int .i64 (md : Int), .int .i64 c1] _ B3.out Try.underlying79 rfl (by kernel_rfl) ?_)
        | (refine wpList_store_row rfl 79 _ _ rfl g #[.slice A L q, .int .i64 (md : Int), .int .i64 c1] rfl rfl 79 _ S3.out.fc (by kernel_rfl) rfl (by simp [Value.oneCell']) ?_
           have S4 := Lib.hid (S3.out.cur #[.slice A L q, .int .i64 (md : Int), .int .i64 c1])
           have x4 := S4.out.fl.cell_ (cf_at cc k hlt)
           have z4 := S4.out.fl.frozen k
           have S5 := Lib.hid (S4.out.put k hlt (v : Int))))
      go_roundw
      case rel => exact ⟨k + 1, md, by omega, HD2.out, by go_num, by rw [HE.out.2.1]; exact HD1.out.symm, by rw [HE.out.1, HE.out.2.2]; exact S5.out⟩
      case measure => simp [intOf]; omega
    · obtain rfl : k = 20 := by omega
      have hk20 : ¬ ((20 : Nat) : Int) < 20 := by omega
      clear hlt hk SX HT
      have HD : Hid (doneCode (nuR bs 20).1 (bs.drop m) = sdC bs) := by rw [HDR.out]; rfl
      have HC : Hid (sdCode bs = if sdC bs = 0 then suCode (nuR bs 20).2.2 else sdC bs) := rfl
      have HV : Hid (sdVal bs = if sdCode bs = 0 then (nuR bs 20).2.2 else fun _ => 0) := rfl
      have HDN := Lib.hid (fun w => ref_done A L q bs m (nuR bs 20).1 w HLB.out HMm.out HL.out)
      obtain ⟨d, hd⟩ : ∃ d, sdC bs = d := ⟨_, rfl⟩
      rw [hd] at HD HC
      rw [HD.out] at HDN
      clear hd HD HDR
      generalize (nuR bs 20).2.2 = cc at *
      generalize (nuR bs 20).1 = c1 at *
      have H1 := Lib.hid (fun w => rf_right cc w)
      have hq := (suCode_iff cc)
      by_cases hd0 : d = 0
      · subst hd0
        have HC2 : Hid (sdCode bs = suCode cc) := by rw [Hid, HC.out, if_pos rfl]
        cases hz : suRight cc with
        | true =>
          have hz0 := hq.1.2 hz
          have HV2 : Hid (sdVal bs = cc ∧ sdCode bs = 0) := ⟨by rw [HV.out, if_pos (HC2.out.trans hz0)], HC2.out.trans hz0⟩
          rw [hz] at H1
          clear hq hz hz0 HC HC2 HV
          go_wp2_with (first
            | (refine wpl_load rfl 79 _ rfl g rfl _ #[.slice A L q, .int .i64 (m : Int), .int .i64 c1] _ HS.out.fc Try.underlying79 rfl (by kernel_rfl) ?_)
            | (go_at_call 44; refine (HDN.out _).mono ?_; rintro E w3 ⟨rfl, o3⟩
               have S3 := Lib.hid (HS.out.keep o3)
               clear o3)
            | (refine wpList_store_row rfl 79 _ _ rfl g #[.slice A L q, .int .i64 (m : Int), .int .i64 0] rfl rfl 79 _ S3.out.fc (by kernel_rfl) rfl (by simp [Value.oneCell']) ?_
               have S4 := Lib.hid (S3.out.cur #[.slice A L q, .int .i64 (m : Int), .int .i64 0])
               have y2 := S4.out.fc.cell_ (i := 2) rfl)
            | (refine wpl_load rfl 23 _ rfl l rfl _ #[.int .i64 (cc 0), .int .i64 (cc 1), .int .i64 (cc 2), .int .i64 (cc 3), .int .i64 (cc 4), .int .i64 (cc 5), .int .i64 (cc 6), .int .i64 (cc 7), .int .i64 (cc 8), .int .i64 (cc 9), .int .i64 (cc 10), .int .i64 (cc 11), .int .i64 (cc 12), .int .i64 (cc 13), .int .i64 (cc 14), .int .i64 (cc 15), .int .i64 (cc 16), .int .i64 (cc 17), .int .i64 (cc 18), .int .i64 (cc 19)] _ (by first | exact S5.out.fl | exact S4.out.fl) Try.underlying23 rfl (by kernel_rfl) ?_)
            | (go_at_call 26; refine (H1.out _).mono ?_; rintro E w4 ⟨rfl, o4⟩
               have S5 := Lib.hid (S4.out.keep o4)
               clear o4)
            | (refine wpList_store_row rfl 23 _ _ rfl r #[.int .i64 (cc 0), .int .i64 (cc 1), .int .i64 (cc 2), .int .i64 (cc 3), .int .i64 (cc 4), .int .i64 (cc 5), .int .i64 (cc 6), .int .i64 (cc 7), .int .i64 (cc 8), .int .i64 (cc 9), .int .i64 (cc 10), .int .i64 (cc 11), .int .i64 (cc 12), .int .i64 (cc 13), .int .i64 (cc 14), .int .i64 (cc 15), .int .i64 (cc 16), .int .i64 (cc 17), .int .i64 (cc 18), .int .i64 (cc 19)] rfl rfl 23 _ S5.out.fz (by kernel_rfl) rfl (cf_one cc) ?_
               have R6 := Lib.hid (S5.out.fz.setRow #[.int .i64 (cc 0), .int .i64 (cc 1), .int .i64 (cc 2), .int .i64 (cc 3), .int .i64 (cc 4), .int .i64 (cc 5), .int .i64 (cc 6), .int .i64 (cc 7), .int .i64 (cc 8), .int .i64 (cc 9), .int .i64 (cc 10), .int .i64 (cc 11), .int .i64 (cc 12), .int .i64 (cc 13), .int .i64 (cc 14), .int .i64 (cc 15), .int .i64 (cc 16), .int .i64 (cc 17), .int .i64 (cc 18), .int .i64 (cc 19)])
               have O6 := Lib.hid (S5.out.ho.setRow (g := r) (.inr S5.out.n0) #[.int .i64 (cc 0), .int .i64 (cc 1), .int .i64 (cc 2), .int .i64 (cc 3), .int .i64 (cc 4), .int .i64 (cc 5), .int .i64 (cc 6), .int .i64 (cc 7), .int .i64 (cc 8), .int .i64 (cc 9), .int .i64 (cc 10), .int .i64 (cc 11), .int .i64 (cc 12), .int .i64 (cc 13), .int .i64 (cc 14), .int .i64 (cc 15), .int .i64 (cc 16), .int .i64 (cc 17), .int .i64 (cc 18), .int .i64 (cc 19)])))
          refine bodyPost_ret (results_cell_tmp rfl _ _ r 23 _ _ rfl R6.out Try.underlying23 rfl (by kernel_rfl) (.int .i64 0) rfl) rfl ?_
          rw [HV2.out.1, HV2.out.2]
          exact ⟨rfl, O6.out⟩
        | false =>
          have hz0 := hq.2.2 hz
          have HV2 : Hid (sdVal bs = (fun _ => 0) ∧ sdCode bs = 14) := ⟨by rw [HV.out, if_neg (by rw [HC2.out, hz0]; decide)], HC2.out.trans hz0⟩
          rw [hz] at H1
          clear hq hz hz0 HC HC2 HV
          go_wp2_with (first
            | (refine wpl_load rfl 79 _ rfl g rfl _ #[.slice A L q, .int .i64 (m : Int), .int .i64 c1] _ HS.out.fc Try.underlying79 rfl (by kernel_rfl) ?_)
            | (go_at_call 44; refine (HDN.out _).mono ?_; rintro E w3 ⟨rfl, o3⟩
               have S3 := Lib.hid (HS.out.keep o3)
               clear o3)
            | (refine wpList_store_row rfl 79 _ _ rfl g #[.slice A L q, .int .i64 (m : Int), .int .i64 0] rfl rfl 79 _ S3.out.fc (by kernel_rfl) rfl (by simp [Value.oneCell']) ?_
               have S4 := Lib.hid (S3.out.cur #[.slice A L q, .int .i64 (m : Int), .int .i64 0])
               have y2 := S4.out.fc.cell_ (i := 2) rfl)
            | (refine wpl_load rfl 23 _ rfl l rfl _ #[.int .i64 (cc 0), .int .i64 (cc 1), .int .i64 (cc 2), .int .i64 (cc 3), .int .i64 (cc 4), .int .i64 (cc 5), .int .i64 (cc 6), .int .i64 (cc 7), .int .i64 (cc 8), .int .i64 (cc 9), .int .i64 (cc 10), .int .i64 (cc 11), .int .i64 (cc 12), .int .i64 (cc 13), .int .i64 (cc 14), .int .i64 (cc 15), .int .i64 (cc 16), .int .i64 (cc 17), .int .i64 (cc 18), .int .i64 (cc 19)] _ (by first | exact S5.out.fl | exact S4.out.fl) Try.underlying23 rfl (by kernel_rfl) ?_)
            | (go_at_call 26; refine (H1.out _).mono ?_; rintro E w4 ⟨rfl, o4⟩
               have S5 := Lib.hid (S4.out.keep o4)
               clear o4)
            | (refine wpList_store_row rfl 23 _ _ rfl r #[.int .i64 0, .int .i64 0, .int .i64 0, .int .i64 0, .int .i64 0, .int .i64 0, .int .i64 0, .int .i64 0, .int .i64 0, .int .i64 0, .int .i64 0, .int .i64 0, .int .i64 0, .int .i64 0, .int .i64 0, .int .i64 0, .int .i64 0, .int .i64 0, .int .i64 0, .int .i64 0] rfl rfl 23 _ S5.out.fz (by kernel_rfl) rfl (by simp [Value.oneCell']) ?_
               have R6 := Lib.hid (S5.out.fz.setRow #[.int .i64 0, .int .i64 0, .int .i64 0, .int .i64 0, .int .i64 0, .int .i64 0, .int .i64 0, .int .i64 0, .int .i64 0, .int .i64 0, .int .i64 0, .int .i64 0, .int .i64 0, .int .i64 0, .int .i64 0, .int .i64 0, .int .i64 0, .int .i64 0, .int .i64 0, .int .i64 0])
               have O6 := Lib.hid (S5.out.ho.setRow (g := r) (.inr S5.out.n0) #[.int .i64 0, .int .i64 0, .int .i64 0, .int .i64 0, .int .i64 0, .int .i64 0, .int .i64 0, .int .i64 0, .int .i64 0, .int .i64 0, .int .i64 0, .int .i64 0, .int .i64 0, .int .i64 0, .int .i64 0, .int .i64 0, .int .i64 0, .int .i64 0, .int .i64 0, .int .i64 0])))
          refine bodyPost_ret (results_cell_tmp rfl _ _ r 23 _ _ rfl R6.out Try.underlying23 rfl (by kernel_rfl) (.int .i64 14) rfl) rfl ?_
          rw [HV2.out.1, HV2.out.2]
          exact ⟨rfl, O6.out⟩
      · have HC2 : Hid (sdCode bs = d) := by rw [Hid, HC.out, if_neg hd0]
        have HV2 : Hid (sdVal bs = (fun _ => 0) ∧ sdCode bs = d) := ⟨by rw [HV.out, if_neg (by rw [HC2.out]; exact hd0)], HC2.out⟩
        have hzb : (d != 0) = true := by simpa using hd0
        clear hq hd0 HC HC2 HV
        go_wp2_with (first
          | (refine wpl_load rfl 79 _ rfl g rfl _ #[.slice A L q, .int .i64 (m : Int), .int .i64 c1] _ HS.out.fc Try.underlying79 rfl (by kernel_rfl) ?_)
          | (go_at_call 44; refine (HDN.out _).mono ?_; rintro E w3 ⟨rfl, o3⟩
             have S3 := Lib.hid (HS.out.keep o3)
             clear o3)
          | (refine wpList_store_row rfl 79 _ _ rfl g #[.slice A L q, .int .i64 (m : Int), .int .i64 d] rfl rfl 79 _ S3.out.fc (by kernel_rfl) rfl (by simp [Value.oneCell']) ?_
             have S5 := Lib.hid (S3.out.cur #[.slice A L q, .int .i64 (m : Int), .int .i64 d])
             have y2 := S5.out.fc.cell_ (i := 2) rfl))
        generalize hW5 : w3.setRow g _ = W5 at *
        clear hW5
        have D5 := Lib.hid (S5.out.keep (Only.refl none_ W5).drew)
        refine wp_region_any (by kernel_rfl) ?_
        try (change wpAny _ _ _ _ _ _ _ (World.drew _))
        refine wpAny_comes2 (v := .agg #[.int .i64 0, .int .i64 0, .int .i64 0, .int .i64 0, .int .i64 0, .int .i64 0, .int .i64 0, .int .i64 0, .int .i64 0, .int .i64 0, .int .i64 0, .int .i64 0, .int .i64 0, .int .i64 0, .int .i64 0, .int .i64 0, .int .i64 0, .int .i64 0, .int .i64 0, .int .i64 0]) 0 31 rfl rfl rfl (by kernel_rfl) (by kernel_rfl) (by kernel_rfl) (fun w => by go_simp) (fun _ _ _ _ h => h) ?_
        simp only [Act.put, List.setIfInBounds_toArray, List.set_cons_zero, List.set_cons_succ]
        refine wpAny_comes2 (v := .pointer (some ⟨g, 2, none⟩)) 1 32 rfl rfl rfl (by kernel_rfl) (by kernel_rfl) (by kernel_rfl) (fun w => by go_simp) (fun _ _ _ _ h => h) ?_
        simp only [Act.put, List.setIfInBounds_toArray, List.set_cons_zero, List.set_cons_succ]
        refine wpAny_ready (rs := [2, 3]) (by kernel_rfl) (by simp) ?_
        refine AllReady.cons rfl (fun K hK => ?_) ?_
        · have y5 := D5.out.fc.cell_ (i := 2) rfl
          go_simp
          refine hK _ _ ?_
          clear hK K
          refine wpAny_ready (rs := [3]) (by kernel_rfl) (by simp) ?_
          refine AllReady.cons rfl (fun K hK => ?_) AllReady.nil
          refine step_store_row2 (by simp [Region.wanted]) 23 _ _ rfl r #[.int .i64 0, .int .i64 0, .int .i64 0, .int .i64 0, .int .i64 0, .int .i64 0, .int .i64 0, .int .i64 0, .int .i64 0, .int .i64 0, .int .i64 0, .int .i64 0, .int .i64 0, .int .i64 0, .int .i64 0, .int .i64 0, .int .i64 0, .int .i64 0, .int .i64 0, .int .i64 0] rfl rfl 23 _ D5.out.fz (by kernel_rfl) rfl (by simp [Value.oneCell']) ?_
          refine hK _ _ ?_
          clear hK K
          have R6 := Lib.hid (D5.out.fz.setRow #[.int .i64 0, .int .i64 0, .int .i64 0, .int .i64 0, .int .i64 0, .int .i64 0, .int .i64 0, .int .i64 0, .int .i64 0, .int .i64 0, .int .i64 0, .int .i64 0, .int .i64 0, .int .i64 0, .int .i64 0, .int .i64 0, .int .i64 0, .int .i64 0, .int .i64 0, .int .i64 0])
          have O6 := Lib.hid (D5.out.ho.setRow (g := r) (.inr D5.out.n0) #[.int .i64 0, .int .i64 0, .int .i64 0, .int .i64 0, .int .i64 0, .int .i64 0, .int .i64 0, .int .i64 0, .int .i64 0, .int .i64 0, .int .i64 0, .int .i64 0, .int .i64 0, .int .i64 0, .int .i64 0, .int .i64 0, .int .i64 0, .int .i64 0, .int .i64 0, .int .i64 0])
          refine wpAny_ready (rs := [4]) (by kernel_rfl) (by simp) ?_
          refine AllReady.cons rfl (fun K hK => ?_) AllReady.nil
          go_simp
          refine hK _ _ ?_
          clear hK K
          refine wpAny_done (by kernel_rfl) ?_ _
          go_wp2_with fail
          refine bodyPost_ret (results_cell_tmp rfl _ _ r 23 _ _ rfl R6.out Try.underlying23 rfl (by kernel_rfl) (.int .i64 d) rfl) rfl ?_
          rw [HV2.out.1, HV2.out.2]
          exact ⟨rfl, O6.out⟩
        · refine AllReady.cons rfl (fun K hK => ?_) AllReady.nil
          refine step_store_row2 (by simp [Region.wanted]) 23 _ _ rfl r #[.int .i64 0, .int .i64 0, .int .i64 0, .int .i64 0, .int .i64 0, .int .i64 0, .int .i64 0, .int .i64 0, .int .i64 0, .int .i64 0, .int .i64 0, .int .i64 0, .int .i64 0, .int .i64 0, .int .i64 0, .int .i64 0, .int .i64 0, .int .i64 0, .int .i64 0, .int .i64 0] rfl rfl 23 _ D5.out.fz (by kernel_rfl) rfl (by simp [Value.oneCell']) ?_
          refine hK _ _ ?_
          clear hK K
          have R6 := Lib.hid (D5.out.fz.setRow #[.int .i64 0, .int .i64 0, .int .i64 0, .int .i64 0, .int .i64 0, .int .i64 0, .int .i64 0, .int .i64 0, .int .i64 0, .int .i64 0, .int .i64 0, .int .i64 0, .int .i64 0, .int .i64 0, .int .i64 0, .int .i64 0, .int .i64 0, .int .i64 0, .int .i64 0, .int .i64 0])
          have O6 := Lib.hid (D5.out.ho.setRow (g := r) (.inr D5.out.n0) #[.int .i64 0, .int .i64 0, .int .i64 0, .int .i64 0, .int .i64 0, .int .i64 0, .int .i64 0, .int .i64 0, .int .i64 0, .int .i64 0, .int .i64 0, .int .i64 0, .int .i64 0, .int .i64 0, .int .i64 0, .int .i64 0, .int .i64 0, .int .i64 0, .int .i64 0, .int .i64 0])
          have n1 := D5.out.n1
          have y5 := (D5.out.fc.setRow_far (g' := r) (by omega) #[.int .i64 0, .int .i64 0, .int .i64 0, .int .i64 0, .int .i64 0, .int .i64 0, .int .i64 0, .int .i64 0, .int .i64 0, .int .i64 0, .int .i64 0, .int .i64 0, .int .i64 0, .int .i64 0, .int .i64 0, .int .i64 0, .int .i64 0, .int .i64 0, .int .i64 0, .int .i64 0]).cell_ (i := 2) rfl
          refine wpAny_ready (rs := [2]) (by kernel_rfl) (by simp) ?_
          refine AllReady.cons rfl (fun K hK => ?_) AllReady.nil
          go_simp
          refine hK _ _ ?_
          clear hK K
          refine wpAny_ready (rs := [4]) (by kernel_rfl) (by simp) ?_
          refine AllReady.cons rfl (fun K hK => ?_) AllReady.nil
          go_simp
          refine hK _ _ ?_
          clear hK K
          refine wpAny_done (by kernel_rfl) ?_ _
          go_wp2_with fail
          refine bodyPost_ret (results_cell_tmp rfl _ _ r 23 _ _ rfl R6.out Try.underlying23 rfl (by kernel_rfl) (.int .i64 d) rfl) rfl ?_
          rw [HV2.out.1, HV2.out.2]
          exact ⟨rfl, O6.out⟩
end Go.Proofs.Ythhfpjecgdedgaa
