/- The call of FrameOnly answers yes, and changes nothing that was there. The statement itself is proved in another text. -/
import Derived.Test.YthbjnpkdbkcpfaaFrK
import Derived.Test.YthbjnpkdbkcpfaaCrcY
namespace Go.Proofs.Ythbjnpkdbkcpfaa
open Go.RowKit
attribute [local go_sem ↓] Go.wp_at_zero Go.wp_at_succ

theorem enc_same {x y : Fr} (hx : frCode x = 0) (hy : frCode y = 0) : (frEnc x == frEnc y) = frSame x y := by
  rw [Bool.eq_iff_iff, beq_iff_eq, frSame_iff]
  exact ⟨enc_inj hx hy, fun h => by rw [h]⟩

set_option maxRecDepth 100000 in
set_option maxHeartbeats 3200000 in
theorem only_short (x y : Fr) (A A' : Option Addr) (c c' : Nat) (W : World) (hx : Byt W (fun b => b < W.heap.size) (.slice A x.b.length c) x.b) (hy : Byt W (fun b => b < W.heap.size) (.slice A' y.b.length c') y.b) (hl : x.b.length ≤ 200) (hl' : y.b.length ≤ 200) (hc : frCode x = 0) (hc' : frCode y = 0) :
    Calls Try.prog 6 #[.agg #[.int .i64 x.f, .int .i64 x.t, .int .i64 x.k, .slice A x.b.length c], .agg #[.int .i64 y.f, .int .i64 y.t, .int .i64 y.k, .slice A' y.b.length c']] W fun e w' => e = .returned (.bool true) ∧ Below W.heap.size W w' := by
  have hz := run_zero_codec
  obtain ⟨sv, hsv⟩ : ∃ sv, frSame x y = sv := ⟨_, rfl⟩
  have HSV := Lib.hid hsv
  have hbb : ((frEnc x == frEnc y)) = sv := by rw [enc_same hc hc', hsv]
  have O0 := Lib.hid (((Only.refl none_ W).alloc (.cells #[.int .i64 x.f, .int .i64 x.t, .int .i64 x.k, .slice A x.b.length c] 24)).alloc (.cells #[.int .i64 y.f, .int .i64 y.t, .int .i64 y.k, .slice A' y.b.length c'] 24))
  have HX := Lib.hid hx
  have HY := Lib.hid hy
  have HC := Lib.hid hc
  have HCy := Lib.hid hc'
  have HZ : Hid (frCode ⟨x.f, x.t, x.k, x.b⟩ = 0) := hc
  have HZy : Hid (frCode ⟨y.f, y.t, y.k, y.b⟩ = 0) := hc'
  have HDE := Lib.hid (dec_enc hc)
  have HSS := Lib.hid (frSame_self x)
  obtain ⟨M, hM⟩ : ∃ M, (frEnc x).length = M := ⟨_, rfl⟩
  have HM := Lib.hid hM
  obtain ⟨M', hM'⟩ : ∃ M, (frEnc y).length = M := ⟨_, rfl⟩
  have HM' := Lib.hid hM'
  have hM4 : (frEnc x).length ≤ 10000 := by rw [enc_len]; omega
  have hM3 : M ≤ 209 := by rw [← hM, enc_len]; omega
  have tok : True := trivial
  clear hx hy hsv hc hc' hM hM'
  go_enter Try.func6, Try.ntmps6
  go_wp2_with (first
    | (go_at_call 7; refine (speaks_any _).mono ?_; rintro e W1 ⟨rfl, o1⟩
       have O1 := Lib.hid o1
       obtain ⟨⟨r0, r1, r2, r3⟩, s0, s1, s2, s3⟩ := two_cells W x y A A' c c' _ o1
       clear o1)
    | (go_at_call 8; have _t := tok; refine (refCheck_any _ _ _ _ x.b _ _).mono ?_; rintro e w2 ⟨rfl, o2⟩; rw [HZ.out]
       have O2 := Lib.hid (O1.out.trans o2)
       clear r0 r1 r2 r3 s0 s1 s2 s3
       obtain ⟨⟨r0, r1, r2, r3⟩, s0, s1, s2, s3⟩ := two_cells W x y A A' c c' _ O2.out
       clear o2 tok
       have tok2 : True := trivial)
    | (go_at_call 8; have _t := tok2; refine (refCheck_any _ _ _ _ y.b _ _).mono ?_; rintro e w3 ⟨rfl, o3⟩; rw [HZy.out]
       have T3 := Lib.hid (two_boxes W x y A A' c c' _ HX.out HY.out (O2.out.trans o3))
       have OB : Hid (Only none_ W (w3.alloc (.cells tabZero 42))) := ((O0.out.trans O2.out).trans o3).alloc _
       have hWg : Hid (W.heap.size ≤ w3.heap.size) := ((O0.out.trans O2.out).trans o3).size
       clear r0 r1 r2 r3 s0 s1 s2 s3
       obtain ⟨⟨r0, r1, r2, r3⟩, s0, s1, s2, s3⟩ := T3.out.cells
       clear o3 tok2
       have tok3 : True := trivial)
    | (go_at_call 10; have _t := tok3; refine (of_any _ _ _ _ _ _ _).mono ?_; rintro e w4 ⟨rfl, o4⟩
       have T4 := Lib.hid (T3.out.keep o4)
       clear o4 tok3
       have tok4 : True := trivial)
    | (go_at_call 9; have _t := tok4; refine (pf_encodeM T4.out.pf T4.out.frx HC.out M HM.out).mono ?_; rintro e w5 ⟨A5, c5, rfl, own5, p5, o5⟩
       have T5 := Lib.hid (T4.out.step p5.cod o5)
       have N5 := Lib.hid own5
       have hs4 := Lib.hid T4.out.pf.ho.size
       have hlt4 := Lib.hid T4.out.pf.cod.lt
       clear r0 r1 r2 r3 s0 s1 s2 s3
       obtain ⟨⟨r0, r1, r2, r3⟩, s0, s1, s2, s3⟩ := T5.out.cells
       clear own5 p5 o5 tok4
       have tok5 : True := trivial)
    | (go_at_call 10; have _t := tok5; refine (of_any _ _ _ _ _ _ _).mono ?_; rintro e w6 ⟨rfl, o6⟩
       have T6 := Lib.hid (T5.out.keep o6)
       have N6 := Lib.hid (owns_only N5.out o6 (fun _ _ h => h))
       clear o6 tok5
       have tok6 : True := trivial)
    | (go_at_call 9; have _t := tok6; refine (pf_encodeM T6.out.pf T6.out.fry HCy.out M' HM'.out).mono ?_; rintro e w7 ⟨A7, c7, rfl, own7, p7, o7⟩
       have T7 := Lib.hid (T6.out.step p7.cod o7)
       have N7 := Lib.hid (owns_only N6.out o7 (fun b hb e => by have := (N5.out.lt b hb).1; have := hlt4.out; simp only [one] at e; omega))
       have B7 := Lib.hid (Byt.of_own own7)
       have k0 := run_bytes_string w7.drew _ _ _ (Byt.of_own N7.out).drew
       have k1 := run_bytes_string w7.drew _ _ _ B7.out.drew
       clear r0 r1 r2 r3 s0 s1 s2 s3
       have t7 := T7.out.drew.cells
       clear own7 p7 o7 tok6))
  go_region_held3 (fun w' => (Four w' W.heap.size (.int .i64 x.f) (.int .i64 x.t) (.int .i64 x.k) (.slice A x.b.length c) ∧ Four w' (W.heap.size + 1) (.int .i64 y.f) (.int .i64 y.t) (.int .i64 y.k) (.slice A' y.b.length c')) ∧
      (convert 22 9 (.slice A5 M c5)).run Try.prog w' = .ok (.string ⟨(frEnc x).toArray⟩) w' ∧ (convert 22 9 (.slice A7 M' c7)).run Try.prog w' = .ok (.string ⟨(frEnc y).toArray⟩) w')
    (first | with_reducible exact ⟨t7, k0, k1⟩ | with_reducible exact ⟨t8, k2, k3⟩)
    (first
      | (go_at_call 13; refine (refSame_any x y _ _ _ _ w7.drew T7.out.drew.frx T7.out.drew.fry).mono ?_; rintro e w8 ⟨rfl, o8⟩; rw [HSV.out]
         have T8 := Lib.hid (T7.out.drew.keep o8)
         have t8 := T8.out.cells
         have N8 := Lib.hid (owns_only (w' := w8) N7.out ((Only.refl none_ w7).drew.trans o8) (fun _ _ h => h))
         have k2 := run_bytes_string w8 _ _ _ (Byt.of_own N8.out)
         have k3 := run_bytes_string w8 _ _ _ (B7.out.only ((Only.refl none_ w7).drew.trans o8) (fun _ _ h => h))
         clear o8))
  clear t7 t8 k0 k1 k2 k3
  go_wp2_with (first
    | (go_at_call 14; refine (pf_decode T8.out.pf ((Byt.of_own N8.out).mono (fun b _ hb => by have := (N8.out.lt b hb).1; have := hlt4.out; simp only [far]; omega)) hM4 0 x HDE.out).mono ?_; rintro e w9 ⟨A9, c9, rfl, fx9, p9, o9⟩
       have T10 := Lib.hid ((T8.out.step p9.cod o9).alloc (.cells #[.int .i64 x.f, .int .i64 x.t, .int .i64 x.k, .slice A9 x.b.length c9] 47))
       have X10 := Lib.hid (fx9.alloc (.cells #[.int .i64 x.f, .int .i64 x.t, .int .i64 x.k, .slice A9 x.b.length c9] 47))
       have F10 := Lib.hid (four_of_blk (Blk.new w9 47 #[.int .i64 x.f, .int .i64 x.t, .int .i64 x.k, .slice A9 x.b.length c9]))
       have N10 : Hid ((w9.alloc (.cells #[.int .i64 x.f, .int .i64 x.t, .int .i64 x.k, .slice A9 x.b.length c9] 47)).ownsRow w4.heap.size 5 1 (.slice A5 M c5) M (byts (frEnc x))) :=
         owns_only (owns_only N8.out o9 (fun b hb e => by have := (N8.out.lt b hb).1; have := hlt4.out; simp only [one] at e; omega)) ((Only.refl none_ _).alloc _) (fun _ _ h => h)
       have hv : Hid (∀ b, ownb (.slice A5 M c5) b → w4.heap.size ≤ b ∧ b < w8.heap.size) := fun b hb => N8.out.lt b hb
       have h89 : Hid (w8.heap.size ≤ w9.heap.size) := o9.size
       clear fx9 p9 o9))
  have own10 := N10.out
  rw [byts_ints] at own10
  generalize w9.alloc (.cells #[.int .i64 x.f, .int .i64 x.t, .int .i64 x.k, .slice A9 x.b.length c9] 47) = w10 at *
  generalize w9.heap.size = g9 at *
  go_loopw [74] (fun i wr => ∃ (k : Nat) (zs : List Int), k ≤ M ∧ i = .int .i64 k ∧ wr.ownsRow w4.heap.size 5 1 (.slice A5 M c5) M (ints zs) ∧ Only (ownb (.slice A5 M c5)) w10 wr) (fun i _ => M - (intOf i).toNat)
  case atStart => exact ⟨0, _, by omega, rfl, own10, Only.refl _ _⟩
  case round =>
    obtain ⟨k, zs, hk, rfl, hown, ho⟩ := hrel
    by_cases hlt : k < M
    · obtain ⟨ga, z, hA, hc, hf, hst⟩ := own_step hown hlt
      subst hA
      have HS := Lib.hid hst
      have HO := Lib.hid ho
      clear hown hst ho own10
      go_wp2
      go_roundw
      case rel => exact ⟨k + 1, _, by omega, by go_num, (HS.out _).1, HO.out.trans (HS.out _).2⟩
      case measure => simp [intOf]; omega
    · have TW := Lib.hid (T10.out.write (G := ownb (.slice A5 M c5)) (fun b hb => by have := (hv.out b hb).1; have := hlt4.out; have := hs4.out; exact ⟨by omega, by omega⟩) ho)
      have XW := Lib.hid (X10.out.only ho (fun b hb h => by have := (hv.out b h).2; omega))
      have FW := F10.out.only ho (fun h => by have := (hv.out _ h).2; have := h89.out; omega)
      obtain ⟨f0, f1, f2, f3⟩ := FW
      obtain ⟨⟨r0, r1, r2, r3⟩, _⟩ := TW.out.cells
      clear hown ho own10
      go_wp2_with (first
        | (go_at_call 16; refine (is_any x x _ _ _ _ _ XW.out TW.out.frx).mono ?_; rintro e w12 ⟨rfl, o12⟩; rw [HSS.out]
           have P12 := Lib.hid (TW.out.pf.keep o12)
           clear o12))
      go_ret
      exact ⟨rfl, P12.out.below OB.out hWg.out⟩

theorem only_long (x y : Fr) (A A' : Option Addr) (c c' : Nat) (W : World) (h : 200 < x.b.length ∨ (x.b.length ≤ 200 ∧ 200 < y.b.length)) :
    Calls Try.prog 6 #[.agg #[.int .i64 x.f, .int .i64 x.t, .int .i64 x.k, .slice A x.b.length c], .agg #[.int .i64 y.f, .int .i64 y.t, .int .i64 y.k, .slice A' y.b.length c']] W fun e w' => e = .returned (.bool true) ∧ Below W.heap.size W w' := by
  have O0 := Lib.hid (((Only.refl none_ W).alloc (.cells #[.int .i64 x.f, .int .i64 x.t, .int .i64 x.k, .slice A x.b.length c] 24)).alloc (.cells #[.int .i64 y.f, .int .i64 y.t, .int .i64 y.k, .slice A' y.b.length c'] 24))
  rcases h with h1 | ⟨h1, h2⟩
  all_goals
    have tok : True := trivial
    go_enter Try.func6, Try.ntmps6
    go_wp2_with (first
      | (go_at_call 7; have _t := tok; refine (speaks_any _).mono ?_; rintro e W1 ⟨rfl, o1⟩
         obtain ⟨⟨r0, r1, r2, r3⟩, s0, s1, s2, s3⟩ := two_cells W x y A A' c c' _ o1
         clear tok)
      | (go_at_call 7; refine (speaks_any _).mono ?_; rintro e W2 ⟨rfl, o2⟩))
    go_ret
    exact ⟨rfl, ((O0.out.trans o1).trans o2).below (Nat.le_refl _) (fun k hk => hk.elim)⟩
set_option maxHeartbeats 800000 in
theorem only_none (x y : Fr) (A A' : Option Addr) (c c' : Nat) (W : World) (hl : x.b.length ≤ 200) (hl' : y.b.length ≤ 200) (h : frCode x ≠ 0 ∨ (frCode x = 0 ∧ frCode y ≠ 0)) :
    Calls Try.prog 6 #[.agg #[.int .i64 x.f, .int .i64 x.t, .int .i64 x.k, .slice A x.b.length c], .agg #[.int .i64 y.f, .int .i64 y.t, .int .i64 y.k, .slice A' y.b.length c']] W fun e w' => e = .returned (.bool true) ∧ Below W.heap.size W w' := by
  have O0 := Lib.hid (((Only.refl none_ W).alloc (.cells #[.int .i64 x.f, .int .i64 x.t, .int .i64 x.k, .slice A x.b.length c] 24)).alloc (.cells #[.int .i64 y.f, .int .i64 y.t, .int .i64 y.k, .slice A' y.b.length c'] 24))
  have tok : True := trivial
  rcases h with h1 | ⟨h1, h2⟩
  · obtain ⟨z, hz⟩ : ∃ z, frCode x = z := ⟨_, rfl⟩
    have HZ : Hid (frCode ⟨x.f, x.t, x.k, x.b⟩ = z) := hz
    have hzn : (z != 0) = true := by rw [← hz]; simpa using h1
    clear h1 hz
    go_enter Try.func6, Try.ntmps6
    go_wp2_with (first
      | (go_at_call 7; have _t := tok; refine (speaks_any _).mono ?_; rintro e W1 ⟨rfl, o1⟩
         obtain ⟨⟨r0, r1, r2, r3⟩, s0, s1, s2, s3⟩ := two_cells W x y A A' c c' _ o1
         clear tok)
      | (go_at_call 8; refine (refCheck_any _ _ _ _ x.b _ _).mono ?_; rintro e w2 ⟨rfl, o2⟩; rw [HZ.out])
      | (go_at_call 7; refine (speaks_any _).mono ?_; rintro e W3 ⟨rfl, o3⟩))
    go_ret
    exact ⟨rfl, (((O0.out.trans o1).trans o2).trans o3).below (Nat.le_refl _) (fun k hk => hk.elim)⟩
  · obtain ⟨z, hz⟩ : ∃ z, frCode y = z := ⟨_, rfl⟩
    have HZ : Hid (frCode ⟨x.f, x.t, x.k, x.b⟩ = 0) := h1
    have HZy : Hid (frCode ⟨y.f, y.t, y.k, y.b⟩ = z) := hz
    have hzn : (z != 0) = true := by rw [← hz]; simpa using h2
    clear h1 h2 hz
    go_enter Try.func6, Try.ntmps6
    go_wp2_with (first
      | (go_at_call 7; have _t := tok; refine (speaks_any _).mono ?_; rintro e W1 ⟨rfl, o1⟩
         obtain ⟨⟨r0, r1, r2, r3⟩, s0, s1, s2, s3⟩ := two_cells W x y A A' c c' _ o1
         have O1 := Lib.hid o1
         clear tok
         have tok2 : True := trivial)
      | (go_at_call 8; have _t := tok2; refine (refCheck_any _ _ _ _ x.b _ _).mono ?_; rintro e w2 ⟨rfl, o2⟩; rw [HZ.out]
         clear r0 r1 r2 r3 s0 s1 s2 s3 tok2
         have O2 := Lib.hid (O1.out.trans o2)
         obtain ⟨⟨r0, r1, r2, r3⟩, s0, s1, s2, s3⟩ := two_cells W x y A A' c c' _ O2.out)
      | (go_at_call 8; refine (refCheck_any _ _ _ _ y.b _ _).mono ?_; rintro e w3 ⟨rfl, o3⟩; rw [HZy.out])
      | (go_at_call 7; refine (speaks_any _).mono ?_; rintro e W4 ⟨rfl, o4⟩))
    go_ret
    exact ⟨rfl, (((O0.out.trans O2.out).trans o3).trans o4).below (Nat.le_refl _) (fun k hk => hk.elim)⟩
end Go.Proofs.Ythbjnpkdbkcpfaa
