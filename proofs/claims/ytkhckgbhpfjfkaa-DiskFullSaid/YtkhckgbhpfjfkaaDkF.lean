/- The call of DiskFull. The statement itself is proved in another text. -/
import Derived.Test.YtkhckgbhpfjfkaaDkE
namespace Go.Proofs.Ytkhckgbhpfjfkaa
open Go.RowKit
set_option maxRecDepth 100000

theorem make_zero (L : Nat) (hL : L ≤ 1048576) : ∃ zs : List UInt8, zs.length = L ∧ ∃ M : Array Value, (∀ w, (Instr.makeSlice 29 (.int .i64 (L : Int)) (.int .i64 (L : Int))).run Try.prog w = .ok (.slice (some ⟨w.heap.size, 0, none⟩) L L) (w.alloc (.cells M 5))) ∧
    ∀ w : World, Byt (w.alloc (.cells M 5)) (fun k => k = w.heap.size) (.slice (some ⟨w.heap.size, 0, none⟩) L L) zs := by
  obtain ⟨i0, hi0, hz0, hz1, hz2⟩ := info_parts u8_info
  refine ⟨List.replicate L 0, by simp, madeCells (Value.int .u8 0).cells L, fun w => ?_, fun w => ?_⟩
  · rw [run_makeSlice w 29 5 i0 (.int .u8 0) Try.underlying29 hi0 hz0 .i64 .i64 L L (by omega) (by omega) (by rw [hz1]; omega) (by rw [hz2]; omega) (by omega)]
    rw [show ((L : Int)).toNat = L from rfl, hz1, Nat.mul_one]
  · refine byt_lit w (List.replicate L 0) (by simp [maxLen]; omega) _ _ ?_ L (by simp)
    apply Array.ext_getElem?
    intro i
    by_cases hi : i < L
    · simp [madeCells, Value.cells, hi, Nat.mod_one, byts, byt]
    · rw [Array.getElem?_eq_none (by simp [madeCells, Value.cells]; omega), Array.getElem?_eq_none (by simp; omega)]

theorem full_call (x : Value) (ys : List UInt8) (S : Nat → Prop) (W : World) (hx : Byt W S x ys) (hS : ∀ b, S b → b < W.heap.size) (over : Int) (h0 : 0 ≤ over) (h1 : over < 256) :
    Calls Try.prog 7 #[.int .u8 over, x] W fun e w' => e = .returned (.bool true) ∧ Below W.heap.size W w' := by
  obtain ⟨X, c, hv, _⟩ := id hx
  subst hv
  have HX := Lib.hid hx
  have HS := Lib.hid hS
  have tok1 : True := trivial
  by_cases hl : 100 < ys.length
  · have hl' : (100 : Int) < ys.length := by omega
    clear hx hS
    go_enter Try.func7, Try.ntmps7
    go_wp2_with (first
      | (go_at_call 32; have _t := tok1; clear tok1; refine (dk_speaks W).mono ?_; rintro e w1 ⟨rfl, o1⟩; have O1 := Lib.hid o1; clear o1; have tok2 : True := trivial)
      | (go_at_call 32; have _t := tok2; clear tok2; refine (dk_speaks w1).mono ?_; rintro e w2 ⟨rfl, o2⟩; have O2 := Lib.hid (O1.out.trans o2); clear o2))
    go_ret
    exact ⟨rfl, O2.out.below (Nat.le_refl _) (fun _ h => h.elim)⟩
  · have hl' : ¬ (100 : Int) < ys.length := by omega
    obtain ⟨q, hq, hmn⟩ : ∃ q : Nat, q ≤ 200 ∧ ∀ ts t w, (Builtin.min_ ts t #[.int .i64 over, .int .i64 200]).run Try.prog w = .ok (.int .i64 (q : Int)) w := by
      by_cases h : (200 : Int) < over
      · exact ⟨200, Nat.le_refl _, fun ts t w => by rw [run_min_int2, if_pos h]; rfl⟩
      · exact ⟨over.toNat, by omega, fun ts t w => by rw [run_min_int2, if_neg h, show ((over.toNat : Nat) : Int) = over from by omega]⟩
    obtain ⟨L, hL⟩ : ∃ L : Nat, 1048576 - q = L := ⟨_, rfl⟩
    have hw : IntKind.i64.wrap (1048576 - (q : Int)) = (L : Int) := by rw [IntWalk.i64_in _ (by omega)]; omega
    have hw2 : IntKind.i64.wrap (1048576 - (L : Int)) = (q : Int) := by rw [IntWalk.i64_in _ (by omega)]; omega
    have hcv : IntKind.i64.wrap over = over := IntWalk.i64_in _ (by omega)
    obtain ⟨zs, hzs, M, hmk, hmb⟩ := make_zero L (by omega)
    have HM := Lib.hid hmb
    have HZ := Lib.hid hzs
    by_cases hf : q < ys.length
    · have hf' : (q : Int) < ys.length := by omega
      have F : Hid (1048576 < ([] ++ zs).length + ys.length) := by simp only [Hid, List.nil_append]; omega
      have Z : Hid (([] : List UInt8).length + zs.length ≤ 1048576) := by simp only [Hid, List.length_nil]; omega
      clear hx hS hmb hzs hL
      go_enter Try.func7, Try.ntmps7
      go_wp2_with (first
        | (go_at_call 32; refine (dk_speaks W).mono ?_; rintro e w1 ⟨rfl, o1⟩; have O1 := Lib.hid o1; clear o1)
        | (go_at_call 34; refine (disk_new W w1 O1.out).mono ?_; rintro e w2 ⟨g, rfl, hg, h2, o2⟩
           have hg1 := h2.bk.lt
           have N2 : Hid (∀ b, b = w2.heap.size → b ≠ g) := fun b hb e => by omega
           have B2 := Lib.hid (HM.out w2)
           have HG : Hid (W.heap.size ≤ g) := h2.ge
           have H2 := Lib.hid (h2.keep ((Only.refl none_ w2).alloc (.cells M 5)))
           clear h2 o2 hg hg1)
        | (go_at_call 42; have _t := tok1; clear tok1; refine (fre_append (bs := []) (s := 0) H2.out _ zs _ B2.out N2.out Z.out).mono ?_; rintro e w3 ⟨rfl, v3, h3, o3, m3⟩
           have H3 := Lib.hid h3
           have X3 := Lib.hid (HX.out.only h3.ho (fun _ _ h => h))
           have N3 : Hid (∀ b, S b → b ≠ g) := fun b hb e => by have := HS.out b hb; have := HG.out; omega
           clear h3 o3 m3
           have tok2 : True := trivial)
        | (go_at_call 38; have _t := tok2; clear tok2; refine (disk_len W g _ _ w3 H3.out).mono ?_; rintro e w4 ⟨rfl, rfl⟩
           rw [show ((fre ([] ++ zs) 0).bs.length : Int) = L from by show ((zs.length : Nat) : Int) = L; rw [HZ.out]]
           have tok3 : True := trivial)
        | (go_at_call 42; have _t := tok3; clear tok3; refine (fre_full H3.out _ ys S X3.out N3.out F.out).mono ?_; rintro e w5 ⟨rfl, v5, h5, o5, m5⟩
           have H5 := Lib.hid h5
           clear h5 o5 m5
           have tok4 : True := trivial)
        | (go_at_call 38; have _t := tok4; clear tok4; refine (disk_len W g _ _ w5 H5.out).mono ?_; rintro e w6 ⟨rfl, rfl⟩
           rw [show ((fre ([] ++ zs) 0).bs.length : Int) = L from by show ((zs.length : Nat) : Int) = L; rw [HZ.out]]))
      go_ret
      exact ⟨rfl, H5.out.ho.below (Nat.le_refl _) (fun _ h => h.elim)⟩
    · have hf' : ¬ (q : Int) < ys.length := by omega
      have F : Hid (([] ++ zs).length + ys.length ≤ 1048576) := by simp only [Hid, List.nil_append]; omega
      have Z : Hid (([] : List UInt8).length + zs.length ≤ 1048576) := by simp only [Hid, List.length_nil]; omega
      have hw3 : IntKind.i64.wrap ((L : Int) + ys.length) = (L : Int) + ys.length := IntWalk.i64_in _ (by omega)
      have E5 : Hid ((([] ++ zs ++ ys).length : Int) = (L : Int) + ys.length) := by simp only [Hid, List.nil_append, List.length_append]; omega
      clear hx hS hmb hzs hL
      go_enter Try.func7, Try.ntmps7
      go_wp2_with (first
        | (go_at_call 32; refine (dk_speaks W).mono ?_; rintro e w1 ⟨rfl, o1⟩; have O1 := Lib.hid o1; clear o1)
        | (go_at_call 34; refine (disk_new W w1 O1.out).mono ?_; rintro e w2 ⟨g, rfl, hg, h2, o2⟩
           have hg1 := h2.bk.lt
           have N2 : Hid (∀ b, b = w2.heap.size → b ≠ g) := fun b hb e => by omega
           have B2 := Lib.hid (HM.out w2)
           have HG : Hid (W.heap.size ≤ g) := h2.ge
           have H2 := Lib.hid (h2.keep ((Only.refl none_ w2).alloc (.cells M 5)))
           clear h2 o2 hg hg1)
        | (go_at_call 42; have _t := tok1; clear tok1; refine (fre_append (bs := []) (s := 0) H2.out _ zs _ B2.out N2.out Z.out).mono ?_; rintro e w3 ⟨rfl, v3, h3, o3, m3⟩
           have H3 := Lib.hid h3
           have X3 := Lib.hid (HX.out.only h3.ho (fun _ _ h => h))
           have N3 : Hid (∀ b, S b → b ≠ g) := fun b hb e => by have := HS.out b hb; have := HG.out; omega
           clear h3 o3 m3
           have tok2 : True := trivial)
        | (go_at_call 38; have _t := tok2; clear tok2; refine (disk_len W g _ _ w3 H3.out).mono ?_; rintro e w4 ⟨rfl, rfl⟩
           rw [show ((fre ([] ++ zs) 0).bs.length : Int) = L from by show ((zs.length : Nat) : Int) = L; rw [HZ.out]]
           have tok3 : True := trivial)
        | (go_at_call 42; have _t := tok3; clear tok3; refine (fre_append H3.out _ ys S X3.out N3.out F.out).mono ?_; rintro e w5 ⟨rfl, v5, h5, o5, m5⟩
           have H5 := Lib.hid h5
           clear h5 o5 m5
           have tok4 : True := trivial)
        | (go_at_call 38; have _t := tok4; clear tok4; refine (disk_len W g _ _ w5 H5.out).mono ?_; rintro e w6 ⟨rfl, rfl⟩
           rw [show ((fre ([] ++ zs ++ ys) 0).bs.length : Int) = (L : Int) + ys.length from E5.out])
        | (go_at_call 43; refine (fre_sync H5.out).mono ?_; rintro e w7 ⟨rfl, v7, h7, o7, m7⟩
           have H7 := Lib.hid h7
           clear h7 o7 m7)
        | (go_at_call 39; refine (disk_safe W g _ _ w7 H7.out).mono ?_; rintro e w8 ⟨rfl, rfl⟩
           rw [show ((fre ([] ++ zs ++ ys) ([] ++ zs ++ ys : List UInt8).length).safe : Int) = (L : Int) + ys.length from E5.out]))
      go_ret
      exact ⟨rfl, H7.out.ho.below (Nat.le_refl _) (fun _ h => h.elim)⟩
end Go.Proofs.Ytkhckgbhpfjfkaa
