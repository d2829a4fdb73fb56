/- What Decode of package setup does. No statement of the seat is proved here. -/
import Derived.Test.YthhfpjecgdedgaaSuN
import Derived.Test.YthhfpjecgdedgaaRes
namespace Go.Proofs.Ythhfpjecgdedgaa
open Go.RowKit
set_option maxRecDepth 100000
set_option linter.all false

/-- A reader, numbers under way and a result. -/
structure Sx (W : World) (g l r : Nat) (S : Nat → Prop) (code : Int) (bs : List UInt8) (c : Nat → Int) (w : World) : Prop where
  rd : Rd w g S code bs
  fl : Blk w l 22 #[.int .i64 (c 0), .int .i64 (c 1), .int .i64 (c 2), .int .i64 (c 3), .int .i64 (c 4), .int .i64 (c 5), .int .i64 (c 6), .int .i64 (c 7), .int .i64 (c 8), .int .i64 (c 9), .int .i64 (c 10), .int .i64 (c 11), .int .i64 (c 12), .int .i64 (c 13), .int .i64 (c 14), .int .i64 (c 15), .int .i64 (c 16), .int .i64 (c 17), .int .i64 (c 18), .int .i64 (c 19)]
  fz : Blk w r 26 #[.int .i64 0, .int .i64 0, .int .i64 0, .int .i64 0, .int .i64 0, .int .i64 0, .int .i64 0, .int .i64 0, .int .i64 0, .int .i64 0, .int .i64 0, .int .i64 0, .int .i64 0, .int .i64 0, .int .i64 0, .int .i64 0, .int .i64 0, .int .i64 0, .int .i64 0, .int .i64 0]
  ho : Only none_ W w
  hS : ∀ b, S b → W.heap.size ≤ b ∧ b < l ∧ b ≠ r
  n0 : W.heap.size ≤ r
  n1 : r < g
  n2 : g < l
section
variable {W w w' : World} {g l r : Nat} {S : Nat → Prop} {code code' : Int} {bs bs' : List UInt8} {c : Nat → Int}
theorem Sx.num (s : Sx W g l r S code bs c w) (h : Rd w' g S code' bs') (o : Only (one g) w w') : Sx W g l r S code' bs' c w' := by
  have h0 := s.n0
  have h1 := s.n1
  have h2 := s.n2
  exact ⟨h, s.fl.only o (fun e => by have e' : l = g := e; omega), s.fz.only o (fun e => by have e' : r = g := e; omega), s.ho.trans' o (fun k hk e => by have e' : k = g := e; omega), s.hS, h0, h1, h2⟩
theorem Sx.put (s : Sx W g l r S code bs c w) (i : Nat) (hi : i < 20) (x : Int) : Sx W g l r S code bs (up c i x) (w.setCell ⟨l, i, none⟩ (.int .i64 x)) := by
  have h0 := s.n0
  have h1 := s.n1
  have h2 := s.n2
  have b := s.fl.set_ i (.int .i64 x)
  rw [cf_set c i hi x] at b
  have o : Only (one l) w (w.setCell ⟨l, i, none⟩ (.int .i64 x)) := (Only.refl (one l) w).setCell (p := ⟨l, i, none⟩) (.inl (show l = l from rfl)) _
  exact ⟨s.rd.only o (fun e => by have e' : g = l := e; omega) (fun b hb e => by have e' : b = l := e; have := (s.hS b hb).2.1; omega), b, s.fz.far (p := ⟨l, i, none⟩) (by show r ≠ l; omega) _, s.ho.setCell (p := ⟨l, i, none⟩) (.inr (by show W.heap.size ≤ l; omega)) _, s.hS, h0, h1, h2⟩
theorem Sx.keep (s : Sx W g l r S code bs c w) (o : Only none_ w w') : Sx W g l r S code bs c w' :=
  ⟨s.rd.only o (fun h => h) (fun _ _ h => h), s.fl.only o (fun h => h), s.fz.only o (fun h => h), s.ho.trans o, s.hS, s.n0, s.n1, s.n2⟩
end

set_option maxHeartbeats 12800000 in
theorem su_decode (A : Option Addr) (L q : Nat) (bs : List UInt8) (S0 : Nat → Prop) (w : World) (hx : Byt w S0 (.slice A L q) bs) (hm : bs.length ≤ 140737488355328) :
    Calls Try.prog 27 #[.slice A L q] w fun E w' => E = .returned (.tuple #[.agg #[.int .i64 ((sdVal bs) 0), .int .i64 ((sdVal bs) 1), .int .i64 ((sdVal bs) 2), .int .i64 ((sdVal bs) 3), .int .i64 ((sdVal bs) 4), .int .i64 ((sdVal bs) 5), .int .i64 ((sdVal bs) 6), .int .i64 ((sdVal bs) 7), .int .i64 ((sdVal bs) 8), .int .i64 ((sdVal bs) 9), .int .i64 ((sdVal bs) 10), .int .i64 ((sdVal bs) 11), .int .i64 ((sdVal bs) 12), .int .i64 ((sdVal bs) 13), .int .i64 ((sdVal bs) 14), .int .i64 ((sdVal bs) 15), .int .i64 ((sdVal bs) 16), .int .i64 ((sdVal bs) 17), .int .i64 ((sdVal bs) 18), .int .i64 ((sdVal bs) 19)], .int .i64 (sdCode bs)]) ∧ Only none_ w w' := by
  have R0 := Lib.hid (Blk.new w 26 #[.int .i64 0, .int .i64 0, .int .i64 0, .int .i64 0, .int .i64 0, .int .i64 0, .int .i64 0, .int .i64 0, .int .i64 0, .int .i64 0, .int .i64 0, .int .i64 0, .int .i64 0, .int .i64 0, .int .i64 0, .int .i64 0, .int .i64 0, .int .i64 0, .int .i64 0, .int .i64 0])
  have O0 := Lib.hid ((Only.refl none_ w).alloc (.cells #[.int .i64 0, .int .i64 0, .int .i64 0, .int .i64 0, .int .i64 0, .int .i64 0, .int .i64 0, .int .i64 0, .int .i64 0, .int .i64 0, .int .i64 0, .int .i64 0, .int .i64 0, .int .i64 0, .int .i64 0, .int .i64 0, .int .i64 0, .int .i64 0, .int .i64 0, .int .i64 0] 26))
  have X0 := Lib.hid (hx.alloc (.cells #[.int .i64 0, .int .i64 0, .int .i64 0, .int .i64 0, .int .i64 0, .int .i64 0, .int .i64 0, .int .i64 0, .int .i64 0, .int .i64 0, .int .i64 0, .int .i64 0, .int .i64 0, .int .i64 0, .int .i64 0, .int .i64 0, .int .i64 0, .int .i64 0, .int .i64 0, .int .i64 0] 26))
  have Z0 : Hid (w.heap.size + 1 ≤ (w.alloc (.cells #[.int .i64 0, .int .i64 0, .int .i64 0, .int .i64 0, .int .i64 0, .int .i64 0, .int .i64 0, .int .i64 0, .int .i64 0, .int .i64 0, .int .i64 0, .int .i64 0, .int .i64 0, .int .i64 0, .int .i64 0, .int .i64 0, .int .i64 0, .int .i64 0, .int .i64 0, .int .i64 0] 26)).heap.size) := by simp [Hid]
  have HM := Lib.hid hm
  clear hx hm
  go_enter Try.func27, Try.ntmps27
  go_wp2_with (first
    | (go_at_call 39; refine (read_any _ bs S0 _ X0.out HM.out).mono ?_; rintro e w1 ⟨g, S, rfl, hg, r1, hS1, o1⟩
       have SX : Hid (Sx w g w1.heap.size w.heap.size S (nuR bs 0).1 (nuR bs 0).2.1 (nuR bs 0).2.2 (w1.alloc (.cells #[.int .i64 0, .int .i64 0, .int .i64 0, .int .i64 0, .int .i64 0, .int .i64 0, .int .i64 0, .int .i64 0, .int .i64 0, .int .i64 0, .int .i64 0, .int .i64 0, .int .i64 0, .int .i64 0, .int .i64 0, .int .i64 0, .int .i64 0, .int .i64 0, .int .i64 0, .int .i64 0] 22))) := by
         have z := Z0.out
         have oa := (Only.refl none_ w1).alloc (.cells #[.int .i64 0, .int .i64 0, .int .i64 0, .int .i64 0, .int .i64 0, .int .i64 0, .int .i64 0, .int .i64 0, .int .i64 0, .int .i64 0, .int .i64 0, .int .i64 0, .int .i64 0, .int .i64 0, .int .i64 0, .int .i64 0, .int .i64 0, .int .i64 0, .int .i64 0, .int .i64 0] 22)
         exact ⟨r1.only oa (fun h => h) (fun _ _ h => h), Blk.new w1 _ _, (R0.out.only o1 (fun h => h)).alloc _, (O0.out.trans o1).trans oa, fun b hb => by have := hS1 b hb; refine ⟨by omega, this.2, by omega⟩, Nat.le_refl _, by omega, r1.lt⟩
       clear r1 o1 hg hS1))
  clear R0 O0 X0 Z0
  generalize w1.heap.size = l at *
  generalize hr : w.heap.size = r at *
  go_loopw [13] (fun i wr => ∃ k : Nat, k ≤ 20 ∧ i = .int .i64 (k : Int) ∧ Sx w g l r S (nuR bs k).1 (nuR bs k).2.1 (nuR bs k).2.2 wr) (fun i _ => 20 - (intOf i).toNat)
  case atStart => exact ⟨0, by omega, rfl, SX.out⟩
  case round =>
    obtain ⟨k, hk, rfl, hs⟩ := hrel
    by_cases hlt : k < 20
    · have HS := Lib.hid hs
      have HE : Hid ((nuR bs (k + 1)).1 = (numR (nuR bs k).1 (nuR bs k).2.1 4).1 ∧ (nuR bs (k + 1)).2.1 = (numR (nuR bs k).1 (nuR bs k).2.1 4).2.1 ∧ (nuR bs (k + 1)).2.2 = up (nuR bs k).2.2 k ((numR (nuR bs k).1 (nuR bs k).2.1 4).2.2 : Int)) := ⟨rfl, rfl, rfl⟩
      have HLn : Hid ((nuR bs k).2.1.length ≤ 140737488355328) := Nat.le_trans (nuR_le bs k) HM.out
      have hlt4 := numR_lt (nuR bs k).1 (nuR bs k).2.1
      have HN := Lib.hid (fun w h => reader_number g S (nuR bs k).1 (nuR bs k).2.1 4 w h HLn.out)
      generalize (numR (nuR bs k).1 (nuR bs k).2.1 4).2.2 = v at *
      generalize (numR (nuR bs k).1 (nuR bs k).2.1 4).2.1 = b1 at *
      generalize (numR (nuR bs k).1 (nuR bs k).2.1 4).1 = c1 at *
      generalize (nuR bs k).2.2 = cc at *
      have hki : (k : Int) < 20 := by omega
      have u1 : IntKind.i64.wrap (v : Int) = (v : Int) := IntWalk.i64_in _ (by omega)
      clear hs
      go_wp2_with (first
        | (go_at_call 40; refine (HN.out _ HS.out.rd).mono ?_; rintro E w3 ⟨rfl, r3, o3⟩
           have S3 := Lib.hid (HS.out.num r3 o3)
           have x3 := S3.out.fl.cell_ (cf_at cc k hlt)
           have z3 := S3.out.fl.frozen k
           have S4 := Lib.hid (S3.out.put k hlt (v : Int))
           clear r3 o3))
      go_roundw
      case rel => exact ⟨k + 1, by omega, by go_num, by rw [HE.out.1, HE.out.2.1, HE.out.2.2]; exact S4.out⟩
      case measure => simp [intOf]; omega
    · obtain rfl : k = 20 := by omega
      have HS := Lib.hid hs
      have hk20 : ¬ ((20 : Nat) : Int) < 20 := by omega
      clear hs hlt hk
      have HD : Hid (doneCode (nuR bs 20).1 (nuR bs 20).2.1 = sdC bs) := rfl
      have HC : Hid (sdCode bs = if sdC bs = 0 then suCode (nuR bs 20).2.2 else sdC bs) := rfl
      have HV : Hid (sdVal bs = if sdCode bs = 0 then (nuR bs 20).2.2 else fun _ => 0) := rfl
      obtain ⟨d, hd⟩ : ∃ d, sdC bs = d := ⟨_, rfl⟩
      rw [hd] at HD HC
      clear hd
      generalize (nuR bs 20).2.2 = cc at *
      generalize (nuR bs 20).2.1 = b1 at *
      generalize (nuR bs 20).1 = c1 at *
      have H1 := Lib.hid (fun w => su_check cc w)
      have hq := (suCode_iff cc)
      generalize suPlace cc = p at *
      by_cases hd0 : d = 0
      · subst hd0
        have HC2 : Hid (sdCode bs = suCode cc) := by rw [Hid, HC.out, if_pos rfl]
        by_cases hz : suCode cc = 0
        · have HV2 : Hid (sdVal bs = cc ∧ sdCode bs = 0) := ⟨by rw [HV.out, if_pos (HC2.out.trans hz)], HC2.out.trans hz⟩
          rw [hz] at H1
          clear hq hz HC HC2 HV
          go_wp2_with (first
            | (go_at_call 41; refine (reader_done g S c1 b1 _ HS.out.rd).mono ?_; rw [HD.out]; rintro E w3 ⟨rfl, r3, o3⟩
               have S3 := Lib.hid (HS.out.num r3 o3)
               clear r3 o3)
            | (refine wpl_load rfl 22 _ rfl l rfl _ #[.int .i64 (cc 0), .int .i64 (cc 1), .int .i64 (cc 2), .int .i64 (cc 3), .int .i64 (cc 4), .int .i64 (cc 5), .int .i64 (cc 6), .int .i64 (cc 7), .int .i64 (cc 8), .int .i64 (cc 9), .int .i64 (cc 10), .int .i64 (cc 11), .int .i64 (cc 12), .int .i64 (cc 13), .int .i64 (cc 14), .int .i64 (cc 15), .int .i64 (cc 16), .int .i64 (cc 17), .int .i64 (cc 18), .int .i64 (cc 19)] _ S3.out.fl Try.underlying22 rfl (by kernel_rfl) ?_)
            | (go_at_call 13; refine (su_of cc _).mono ?_; rintro E w4 ⟨rfl, o4⟩
               have S4 := Lib.hid ((S3.out.keep o4).keep ((Only.refl none_ w4).alloc (.cells #[.int .i64 (cc 0), .int .i64 (cc 1), .int .i64 (cc 2), .int .i64 (cc 3), .int .i64 (cc 4), .int .i64 (cc 5), .int .i64 (cc 6), .int .i64 (cc 7), .int .i64 (cc 8), .int .i64 (cc 9), .int .i64 (cc 10), .int .i64 (cc 11), .int .i64 (cc 12), .int .i64 (cc 13), .int .i64 (cc 14), .int .i64 (cc 15), .int .i64 (cc 16), .int .i64 (cc 17), .int .i64 (cc 18), .int .i64 (cc 19)] 26)))
               have B4 := Lib.hid (Blk.new w4 26 #[.int .i64 (cc 0), .int .i64 (cc 1), .int .i64 (cc 2), .int .i64 (cc 3), .int .i64 (cc 4), .int .i64 (cc 5), .int .i64 (cc 6), .int .i64 (cc 7), .int .i64 (cc 8), .int .i64 (cc 9), .int .i64 (cc 10), .int .i64 (cc 11), .int .i64 (cc 12), .int .i64 (cc 13), .int .i64 (cc 14), .int .i64 (cc 15), .int .i64 (cc 16), .int .i64 (cc 17), .int .i64 (cc 18), .int .i64 (cc 19)])
               clear o4)
            | (refine wpl_new rfl rfl 26 rfl _ _ rfl #[.int .i64 (cc 0), .int .i64 (cc 1), .int .i64 (cc 2), .int .i64 (cc 3), .int .i64 (cc 4), .int .i64 (cc 5), .int .i64 (cc 6), .int .i64 (cc 7), .int .i64 (cc 8), .int .i64 (cc 9), .int .i64 (cc 10), .int .i64 (cc 11), .int .i64 (cc 12), .int .i64 (cc 13), .int .i64 (cc 14), .int .i64 (cc 15), .int .i64 (cc 16), .int .i64 (cc 17), .int .i64 (cc 18), .int .i64 (cc 19)] rfl rfl (by kernel_rfl) (cf_one cc) ?_)
            | (refine wpl_load rfl 26 _ rfl w4.heap.size rfl _ #[.int .i64 (cc 0), .int .i64 (cc 1), .int .i64 (cc 2), .int .i64 (cc 3), .int .i64 (cc 4), .int .i64 (cc 5), .int .i64 (cc 6), .int .i64 (cc 7), .int .i64 (cc 8), .int .i64 (cc 9), .int .i64 (cc 10), .int .i64 (cc 11), .int .i64 (cc 12), .int .i64 (cc 13), .int .i64 (cc 14), .int .i64 (cc 15), .int .i64 (cc 16), .int .i64 (cc 17), .int .i64 (cc 18), .int .i64 (cc 19)] _ (by first | exact B5.out | exact B4.out) Try.underlying26 rfl (by kernel_rfl) ?_)
            | (go_at_call 10; refine (H1.out _).mono ?_; rintro E w5 ⟨rfl, o5⟩
               have S5 := Lib.hid (S4.out.keep o5)
               have B5 := Lib.hid (B4.out.only o5 (fun h => h))
               clear o5)
            | (refine wpList_store_row rfl 26 _ _ rfl r #[.int .i64 (cc 0), .int .i64 (cc 1), .int .i64 (cc 2), .int .i64 (cc 3), .int .i64 (cc 4), .int .i64 (cc 5), .int .i64 (cc 6), .int .i64 (cc 7), .int .i64 (cc 8), .int .i64 (cc 9), .int .i64 (cc 10), .int .i64 (cc 11), .int .i64 (cc 12), .int .i64 (cc 13), .int .i64 (cc 14), .int .i64 (cc 15), .int .i64 (cc 16), .int .i64 (cc 17), .int .i64 (cc 18), .int .i64 (cc 19)] rfl rfl 26 _ S5.out.fz (by kernel_rfl) rfl (cf_one cc) ?_
               have R6 := Lib.hid (S5.out.fz.setRow #[.int .i64 (cc 0), .int .i64 (cc 1), .int .i64 (cc 2), .int .i64 (cc 3), .int .i64 (cc 4), .int .i64 (cc 5), .int .i64 (cc 6), .int .i64 (cc 7), .int .i64 (cc 8), .int .i64 (cc 9), .int .i64 (cc 10), .int .i64 (cc 11), .int .i64 (cc 12), .int .i64 (cc 13), .int .i64 (cc 14), .int .i64 (cc 15), .int .i64 (cc 16), .int .i64 (cc 17), .int .i64 (cc 18), .int .i64 (cc 19)])
               have O6 := Lib.hid (S5.out.ho.setRow (g := r) (.inr S5.out.n0) #[.int .i64 (cc 0), .int .i64 (cc 1), .int .i64 (cc 2), .int .i64 (cc 3), .int .i64 (cc 4), .int .i64 (cc 5), .int .i64 (cc 6), .int .i64 (cc 7), .int .i64 (cc 8), .int .i64 (cc 9), .int .i64 (cc 10), .int .i64 (cc 11), .int .i64 (cc 12), .int .i64 (cc 13), .int .i64 (cc 14), .int .i64 (cc 15), .int .i64 (cc 16), .int .i64 (cc 17), .int .i64 (cc 18), .int .i64 (cc 19)])))
          refine bodyPost_ret (results_cell_tmp rfl _ _ r 26 _ _ rfl R6.out Try.underlying26 rfl (by kernel_rfl) (.int .i64 0) rfl) rfl ?_
          rw [HV2.out.1, HV2.out.2]
          exact ⟨rfl, O6.out⟩
        · have HV2 : Hid (sdVal bs = (fun _ => 0) ∧ sdCode bs = suCode cc) := ⟨by rw [HV.out, if_neg (by rw [HC2.out]; exact hz)], HC2.out⟩
          have hzb : (suCode cc != 0) = true := by simpa using hz
          generalize suCode cc = z at *
          clear hq hz HC HC2 HV
          go_wp2_with (first
            | (go_at_call 41; refine (reader_done g S c1 b1 _ HS.out.rd).mono ?_; rw [HD.out]; rintro E w3 ⟨rfl, r3, o3⟩
               have S3 := Lib.hid (HS.out.num r3 o3)
               clear r3 o3)
            | (refine wpl_load rfl 22 _ rfl l rfl _ #[.int .i64 (cc 0), .int .i64 (cc 1), .int .i64 (cc 2), .int .i64 (cc 3), .int .i64 (cc 4), .int .i64 (cc 5), .int .i64 (cc 6), .int .i64 (cc 7), .int .i64 (cc 8), .int .i64 (cc 9), .int .i64 (cc 10), .int .i64 (cc 11), .int .i64 (cc 12), .int .i64 (cc 13), .int .i64 (cc 14), .int .i64 (cc 15), .int .i64 (cc 16), .int .i64 (cc 17), .int .i64 (cc 18), .int .i64 (cc 19)] _ S3.out.fl Try.underlying22 rfl (by kernel_rfl) ?_)
            | (go_at_call 13; refine (su_of cc _).mono ?_; rintro E w4 ⟨rfl, o4⟩
               have S4 := Lib.hid ((S3.out.keep o4).keep ((Only.refl none_ w4).alloc (.cells #[.int .i64 (cc 0), .int .i64 (cc 1), .int .i64 (cc 2), .int .i64 (cc 3), .int .i64 (cc 4), .int .i64 (cc 5), .int .i64 (cc 6), .int .i64 (cc 7), .int .i64 (cc 8), .int .i64 (cc 9), .int .i64 (cc 10), .int .i64 (cc 11), .int .i64 (cc 12), .int .i64 (cc 13), .int .i64 (cc 14), .int .i64 (cc 15), .int .i64 (cc 16), .int .i64 (cc 17), .int .i64 (cc 18), .int .i64 (cc 19)] 26)))
               have B4 := Lib.hid (Blk.new w4 26 #[.int .i64 (cc 0), .int .i64 (cc 1), .int .i64 (cc 2), .int .i64 (cc 3), .int .i64 (cc 4), .int .i64 (cc 5), .int .i64 (cc 6), .int .i64 (cc 7), .int .i64 (cc 8), .int .i64 (cc 9), .int .i64 (cc 10), .int .i64 (cc 11), .int .i64 (cc 12), .int .i64 (cc 13), .int .i64 (cc 14), .int .i64 (cc 15), .int .i64 (cc 16), .int .i64 (cc 17), .int .i64 (cc 18), .int .i64 (cc 19)])
               clear o4)
            | (refine wpl_new rfl rfl 26 rfl _ _ rfl #[.int .i64 (cc 0), .int .i64 (cc 1), .int .i64 (cc 2), .int .i64 (cc 3), .int .i64 (cc 4), .int .i64 (cc 5), .int .i64 (cc 6), .int .i64 (cc 7), .int .i64 (cc 8), .int .i64 (cc 9), .int .i64 (cc 10), .int .i64 (cc 11), .int .i64 (cc 12), .int .i64 (cc 13), .int .i64 (cc 14), .int .i64 (cc 15), .int .i64 (cc 16), .int .i64 (cc 17), .int .i64 (cc 18), .int .i64 (cc 19)] rfl rfl (by kernel_rfl) (cf_one cc) ?_)
            | (refine wpl_load rfl 26 _ rfl w4.heap.size rfl _ #[.int .i64 (cc 0), .int .i64 (cc 1), .int .i64 (cc 2), .int .i64 (cc 3), .int .i64 (cc 4), .int .i64 (cc 5), .int .i64 (cc 6), .int .i64 (cc 7), .int .i64 (cc 8), .int .i64 (cc 9), .int .i64 (cc 10), .int .i64 (cc 11), .int .i64 (cc 12), .int .i64 (cc 13), .int .i64 (cc 14), .int .i64 (cc 15), .int .i64 (cc 16), .int .i64 (cc 17), .int .i64 (cc 18), .int .i64 (cc 19)] _ (by first | exact B5.out | exact B4.out) Try.underlying26 rfl (by kernel_rfl) ?_)
            | (go_at_call 10; refine (H1.out _).mono ?_; rintro E w5 ⟨rfl, o5⟩
               have S5 := Lib.hid (S4.out.keep o5)
               have B5 := Lib.hid (B4.out.only o5 (fun h => h))
               clear o5)
            | (refine wpList_store_row rfl 26 _ _ rfl r #[.int .i64 0, .int .i64 0, .int .i64 0, .int .i64 0, .int .i64 0, .int .i64 0, .int .i64 0, .int .i64 0, .int .i64 0, .int .i64 0, .int .i64 0, .int .i64 0, .int .i64 0, .int .i64 0, .int .i64 0, .int .i64 0, .int .i64 0, .int .i64 0, .int .i64 0, .int .i64 0] rfl rfl 26 _ S5.out.fz (by kernel_rfl) rfl (by simp [Value.oneCell']) ?_
               have R6 := Lib.hid (S5.out.fz.setRow #[.int .i64 0, .int .i64 0, .int .i64 0, .int .i64 0, .int .i64 0, .int .i64 0, .int .i64 0, .int .i64 0, .int .i64 0, .int .i64 0, .int .i64 0, .int .i64 0, .int .i64 0, .int .i64 0, .int .i64 0, .int .i64 0, .int .i64 0, .int .i64 0, .int .i64 0, .int .i64 0])
               have O6 := Lib.hid (S5.out.ho.setRow (g := r) (.inr S5.out.n0) #[.int .i64 0, .int .i64 0, .int .i64 0, .int .i64 0, .int .i64 0, .int .i64 0, .int .i64 0, .int .i64 0, .int .i64 0, .int .i64 0, .int .i64 0, .int .i64 0, .int .i64 0, .int .i64 0, .int .i64 0, .int .i64 0, .int .i64 0, .int .i64 0, .int .i64 0, .int .i64 0])))
          refine bodyPost_ret (results_cell_tmp rfl _ _ r 26 _ _ rfl R6.out Try.underlying26 rfl (by kernel_rfl) (.int .i64 z) rfl) rfl ?_
          rw [HV2.out.1, HV2.out.2]
          exact ⟨rfl, O6.out⟩
      · have HC2 : Hid (sdCode bs = d) := by rw [Hid, HC.out, if_neg hd0]
        have HV2 : Hid (sdVal bs = (fun _ => 0) ∧ sdCode bs = d) := ⟨by rw [HV.out, if_neg (by rw [HC2.out]; exact hd0)], HC2.out⟩
        have hzb : (d != 0) = true := by simpa using hd0
        clear hq hd0 HC HC2 HV
        go_wp2_with (first
          | (go_at_call 41; refine (reader_done g S c1 b1 _ HS.out.rd).mono ?_; rw [HD.out]; rintro E w3 ⟨rfl, r3, o3⟩
             have S5 := Lib.hid (HS.out.num r3 o3)
             clear r3 o3)
          | (refine wpList_store_row rfl 26 _ _ rfl r #[.int .i64 0, .int .i64 0, .int .i64 0, .int .i64 0, .int .i64 0, .int .i64 0, .int .i64 0, .int .i64 0, .int .i64 0, .int .i64 0, .int .i64 0, .int .i64 0, .int .i64 0, .int .i64 0, .int .i64 0, .int .i64 0, .int .i64 0, .int .i64 0, .int .i64 0, .int .i64 0] rfl rfl 26 _ S5.out.fz (by kernel_rfl) rfl (by simp [Value.oneCell']) ?_
             have R6 := Lib.hid (S5.out.fz.setRow #[.int .i64 0, .int .i64 0, .int .i64 0, .int .i64 0, .int .i64 0, .int .i64 0, .int .i64 0, .int .i64 0, .int .i64 0, .int .i64 0, .int .i64 0, .int .i64 0, .int .i64 0, .int .i64 0, .int .i64 0, .int .i64 0, .int .i64 0, .int .i64 0, .int .i64 0, .int .i64 0])
             have O6 := Lib.hid (S5.out.ho.setRow (g := r) (.inr S5.out.n0) #[.int .i64 0, .int .i64 0, .int .i64 0, .int .i64 0, .int .i64 0, .int .i64 0, .int .i64 0, .int .i64 0, .int .i64 0, .int .i64 0, .int .i64 0, .int .i64 0, .int .i64 0, .int .i64 0, .int .i64 0, .int .i64 0, .int .i64 0, .int .i64 0, .int .i64 0, .int .i64 0])))
        refine bodyPost_ret (results_cell_tmp rfl _ _ r 26 _ _ rfl R6.out Try.underlying26 rfl (by kernel_rfl) (.int .i64 d) rfl) rfl ?_
        rw [HV2.out.1, HV2.out.2]
        exact ⟨rfl, O6.out⟩
end Go.Proofs.Ythhfpjecgdedgaa
