/- The call of FrameTells answers yes, and changes nothing that was there. The statement itself is proved in another text. -/
import Derived.Test.YthbjnpkdbkcpfaaFrJ
namespace Go.Proofs.Ythbjnpkdbkcpfaa
open Go.RowKit
attribute [local go_sem ↓] Go.wp_at_zero Go.wp_at_succ

/-- A codec at gc, and two frames of the document's that were handed in, in the blocks bf and bg. -/
structure Tl (B : World) (gc bf bg : Nat) (x y : Fr) (A A' : Option Addr) (c c' : Nat) (w : World) : Prop where
  pf : Pf B gc w
  f : Four w bf (.int .i64 x.f) (.int .i64 x.t) (.int .i64 x.k) (.slice A x.b.length c)
  g : Four w bg (.int .i64 y.f) (.int .i64 y.t) (.int .i64 y.k) (.slice A' y.b.length c')
  fx : FrV B (fun b => b < gc) (.agg #[.int .i64 x.f, .int .i64 x.t, .int .i64 x.k, .slice A x.b.length c]) x
  fy : FrV B (fun b => b < gc) (.agg #[.int .i64 y.f, .int .i64 y.t, .int .i64 y.k, .slice A' y.b.length c']) y
  nf : bf < gc
  ng : bg < gc
section
variable {B w w' : World} {gc bf bg : Nat} {x y : Fr} {A A' : Option Addr} {c c' : Nat}
theorem Tl.keep (t : Tl B gc bf bg x y A A' c c' w) (o : Only none_ w w') : Tl B gc bf bg x y A A' c c' w' := ⟨t.pf.keep o, t.f.only o (fun h => h), t.g.only o (fun h => h), t.fx, t.fy, t.nf, t.ng⟩
theorem Tl.step (t : Tl B gc bf bg x y A A' c c' w) (h : Cod w' gc) (o : Only (one gc) w w') : Tl B gc bf bg x y A A' c c' w' := ⟨t.pf.step h o, t.f.only o (Nat.ne_of_lt t.nf), t.g.only o (Nat.ne_of_lt t.ng), t.fx, t.fy, t.nf, t.ng⟩
theorem Tl.alloc (t : Tl B gc bf bg x y A A' c c' w) (o : Obj) : Tl B gc bf bg x y A A' c c' (w.alloc o) := t.keep ((Only.refl none_ w).alloc o)
theorem Tl.drew (t : Tl B gc bf bg x y A A' c c' w) : Tl B gc bf bg x y A A' c c' w.drew := t.keep (Only.refl none_ w).drew
theorem Tl.frx (t : Tl B gc bf bg x y A A' c c' w) : FrV w (far gc) (.agg #[.int .i64 x.f, .int .i64 x.t, .int .i64 x.k, .slice A x.b.length c]) x := t.pf.frv (t.fx.mono (fun _ _ h => Nat.ne_of_lt h))
theorem Tl.fry (t : Tl B gc bf bg x y A A' c c' w) : FrV w (far gc) (.agg #[.int .i64 y.f, .int .i64 y.t, .int .i64 y.k, .slice A' y.b.length c']) y := t.pf.frv (t.fy.mono (fun _ _ h => Nat.ne_of_lt h))
/-- Bytes in later blocks are written. -/
theorem Tl.write (t : Tl B gc bf bg x y A A' c c' w) {G : Nat → Prop} (hg : ∀ k, G k → gc < k ∧ B.heap.size ≤ k) (o : Only G w w') : Tl B gc bf bg x y A A' c c' w' :=
  ⟨⟨t.pf.cod.only o (fun h => by have := hg _ h; omega), t.pf.ho.trans' o (fun k hk e => by have := hg k e; omega)⟩, t.f.only o (fun h => by have := hg _ h; have := t.nf; omega), t.g.only o (fun h => by have := hg _ h; have := t.ng; omega), t.fx, t.fy, t.nf, t.ng⟩
theorem Tl.rebase (t : Tl B gc bf bg x y A A' c c' w) : Tl w gc bf bg x y A A' c c' w :=
  ⟨⟨t.pf.cod, Only.refl _ _⟩, t.f, t.g, t.fx.only t.pf.ho (fun _ h => Nat.ne_of_lt h), t.fy.only t.pf.ho (fun _ h => Nat.ne_of_lt h), t.nf, t.ng⟩
theorem Tl.cells (t : Tl B gc bf bg x y A A' c c' w) : Four w bf (.int .i64 x.f) (.int .i64 x.t) (.int .i64 x.k) (.slice A x.b.length c) ∧ Four w bg (.int .i64 y.f) (.int .i64 y.t) (.int .i64 y.k) (.slice A' y.b.length c') := ⟨t.f, t.g⟩
end
/-- What lies in memory when the two frames have been put into their blocks. -/
theorem two_boxes (W : World) (x y : Fr) (A A' : Option Addr) (c c' : Nat) (t : TypeId) (hx : Byt W (fun b => b < W.heap.size) (.slice A x.b.length c) x.b) (hy : Byt W (fun b => b < W.heap.size) (.slice A' y.b.length c') y.b)
    {w : World} (o : Only none_ ((W.alloc (.cells #[.int .i64 x.f, .int .i64 x.t, .int .i64 x.k, .slice A x.b.length c] t)).alloc (.cells #[.int .i64 y.f, .int .i64 y.t, .int .i64 y.k, .slice A' y.b.length c'] t)) w) :
    Tl (w.alloc (.cells tabZero 42)) w.heap.size W.heap.size (W.heap.size + 1) x y A A' c c' (w.alloc (.cells tabZero 42)) := by
  have h1 := (four_of_blk ((Blk.new W t #[.int .i64 x.f, .int .i64 x.t, .int .i64 x.k, .slice A x.b.length c]).alloc (.cells #[.int .i64 y.f, .int .i64 y.t, .int .i64 y.k, .slice A' y.b.length c'] t))).only o (fun h => h)
  have h2 := (four_of_blk (Blk.new (W.alloc (.cells #[.int .i64 x.f, .int .i64 x.t, .int .i64 x.k, .slice A x.b.length c] t)) t #[.int .i64 y.f, .int .i64 y.t, .int .i64 y.k, .slice A' y.b.length c'])).only o (fun h => h)
  have o2 := ((Only.refl none_ W).alloc (.cells #[.int .i64 x.f, .int .i64 x.t, .int .i64 x.k, .slice A x.b.length c] t)).alloc (.cells #[.int .i64 y.f, .int .i64 y.t, .int .i64 y.k, .slice A' y.b.length c'] t)
  have o3 := (o2.trans o).alloc (.cells tabZero 42)
  have hs := o.size
  simp only [World.size_alloc] at h2 hs
  have oa := (Only.refl none_ w).alloc (.cells tabZero 42)
  exact ⟨Pf.start w, h1.only oa (fun h => h), h2.only oa (fun h => h), ⟨A, c, rfl, (hx.only o3 (fun _ _ h => h)).mono (fun b _ hb => by omega)⟩, ⟨A', c', rfl, (hy.only o3 (fun _ _ h => h)).mono (fun b _ hb => by omega)⟩, by omega, by omega⟩
theorem two_cells (W : World) (x y : Fr) (A A' : Option Addr) (c c' : Nat) (t : TypeId)
    {w : World} (o : Only none_ ((W.alloc (.cells #[.int .i64 x.f, .int .i64 x.t, .int .i64 x.k, .slice A x.b.length c] t)).alloc (.cells #[.int .i64 y.f, .int .i64 y.t, .int .i64 y.k, .slice A' y.b.length c'] t)) w) :
    Four w W.heap.size (.int .i64 x.f) (.int .i64 x.t) (.int .i64 x.k) (.slice A x.b.length c) ∧ Four w (W.heap.size + 1) (.int .i64 y.f) (.int .i64 y.t) (.int .i64 y.k) (.slice A' y.b.length c') := by
  have h1 := (four_of_blk ((Blk.new W t #[.int .i64 x.f, .int .i64 x.t, .int .i64 x.k, .slice A x.b.length c]).alloc (.cells #[.int .i64 y.f, .int .i64 y.t, .int .i64 y.k, .slice A' y.b.length c'] t))).only o (fun h => h)
  have h2 := (four_of_blk (Blk.new (W.alloc (.cells #[.int .i64 x.f, .int .i64 x.t, .int .i64 x.k, .slice A x.b.length c] t)) t #[.int .i64 y.f, .int .i64 y.t, .int .i64 y.k, .slice A' y.b.length c'])).only o (fun h => h)
  simp only [World.size_alloc] at h2
  exact ⟨h1, h2⟩

set_option maxRecDepth 100000 in
set_option maxHeartbeats 3200000 in
theorem tells_bad (x y : Fr) (A A' : Option Addr) (c c' : Nat) (W : World) (hx : Byt W (fun b => b < W.heap.size) (.slice A x.b.length c) x.b) (hy : Byt W (fun b => b < W.heap.size) (.slice A' y.b.length c') y.b) (hl : x.b.length ≤ 1100) (hl' : y.b.length ≤ 1100) (hc : frCode x ≠ 0) :
    Calls Try.prog 3 #[.agg #[.int .i64 x.f, .int .i64 x.t, .int .i64 x.k, .slice A x.b.length c], .agg #[.int .i64 y.f, .int .i64 y.t, .int .i64 y.k, .slice A' y.b.length c']] W fun e w' => e = .returned (.bool true) ∧ Below W.heap.size W w' := by
  have hz := run_zero_codec
  have hcn : (frCode x != 0) = true := by simpa using hc
  obtain ⟨z, hzx⟩ : ∃ z, frCode x = z := ⟨_, rfl⟩
  have HCH := Lib.hid hc
  have HZx := Lib.hid hzx
  have HZ : Hid (frCode ⟨x.f, x.t, x.k, x.b⟩ = z) := hzx
  rw [hzx] at hcn
  clear hc hzx
  obtain ⟨sv, hsv⟩ : ∃ sv, frSame x y = sv := ⟨_, rfl⟩
  have HSV := Lib.hid hsv
  have O0 := Lib.hid (((Only.refl none_ W).alloc (.cells #[.int .i64 x.f, .int .i64 x.t, .int .i64 x.k, .slice A x.b.length c] 24)).alloc (.cells #[.int .i64 y.f, .int .i64 y.t, .int .i64 y.k, .slice A' y.b.length c'] 24))
  have HX := Lib.hid hx
  have HY := Lib.hid hy
  clear hx hy hsv
  go_enter Try.func3, Try.ntmps3
  go_wp2_with (first
    | (go_at_call 7; refine (speaks_any _).mono ?_; rintro e W1 ⟨rfl, o1⟩
       have T1 := Lib.hid (two_boxes W x y A A' c c' _ HX.out HY.out o1)
       obtain ⟨⟨r0, r1, r2, r3⟩, s0, s1, s2, s3⟩ := two_cells W x y A A' c c' _ o1
       obtain ⟨⟨x0, x1, x2, x3⟩, y0, y1, y2, y3⟩ := T1.out.cells
       have OB : Hid (Only none_ W (W1.alloc (.cells tabZero 42))) := (O0.out.trans o1).alloc _
       have hWg : Hid (W.heap.size ≤ W1.heap.size) := (O0.out.trans o1).size
       clear o1)
    | (go_at_call 8; refine (refCheck_any _ _ _ _ x.b _ _).mono ?_; rintro e w2 ⟨rfl, o2⟩; rw [HZ.out]
       have T2 := Lib.hid (T1.out.keep o2)
       clear r0 r1 r2 r3 s0 s1 s2 s3 x0 x1 x2 x3 y0 y1 y2 y3
       obtain ⟨⟨x0, x1, x2, x3⟩, y0, y1, y2, y3⟩ := T2.out.cells
       clear o2)
    | (go_at_call 10; refine (of_any _ _ _ _ _ _ _).mono ?_; rintro e w3 ⟨rfl, o3⟩
       have T3 := Lib.hid (T2.out.keep o3)
       clear o3)
    | (go_at_call 9; refine (encode_any _ x _ (fun b => b < w3.heap.size) _ T3.out.pf.cod (T3.out.frx.mono (fun _ hb _ => hb)) (fun _ h => h)).mono ?_; rintro e w4 ⟨_, h2, h3, h4⟩
       obtain rfl := h2 HCH.out
       rw [HZx.out]
       have T4 := Lib.hid (T3.out.step h3 h4)
       clear h2 h3 h4))
  clear x0 x1 x2 x3 y0 y1 y2 y3
  have t4 := T4.out.drew
  go_region_held3 (fun w' => Four w' W.heap.size (.int .i64 x.f) (.int .i64 x.t) (.int .i64 x.k) (.slice A x.b.length c) ∧ Four w' (W.heap.size + 1) (.int .i64 y.f) (.int .i64 y.t) (.int .i64 y.k) (.slice A' y.b.length c'))
    (with_reducible exact Tl.cells (by assumption))
    (first
      | (go_at_call 10; refine (of_any _ _ _ _ _ _ _).mono ?_; rintro e w5 ⟨rfl, o5⟩; have t5 := Tl.keep (by assumption) o5; clear o5)
      | (go_at_call 11; refine (check_any _ _ _ _ x.b _ _).mono ?_; rintro e w5 ⟨rfl, o5⟩; rw [HZ.out]; have t5 := Tl.keep (by assumption) o5; clear o5)
      | (go_at_call 12; refine (frSame_any x y _ _ _ _ _ (Tl.frx (by assumption)) (Tl.fry (by assumption))).mono ?_; rintro e w5 ⟨rfl, o5⟩; rw [HSV.out]; have t5 := Tl.keep (by assumption) o5; clear o5)
      | (go_at_call 13; refine (refSame_any x y _ _ _ _ _ (Tl.frx (by assumption)) (Tl.fry (by assumption))).mono ?_; rintro e w5 ⟨rfl, o5⟩; rw [HSV.out]; have t5 := Tl.keep (by assumption) o5; clear o5))
  go_wp2_with fail
  go_ret
  exact ⟨rfl, t5.pf.below OB.out hWg.out⟩

set_option maxRecDepth 100000 in
set_option maxHeartbeats 3200000 in
theorem tells_good (x y : Fr) (A A' : Option Addr) (c c' : Nat) (W : World) (hx : Byt W (fun b => b < W.heap.size) (.slice A x.b.length c) x.b) (hy : Byt W (fun b => b < W.heap.size) (.slice A' y.b.length c') y.b) (hl : x.b.length ≤ 1100) (hl' : y.b.length ≤ 1100) (hc : frCode x = 0) :
    Calls Try.prog 3 #[.agg #[.int .i64 x.f, .int .i64 x.t, .int .i64 x.k, .slice A x.b.length c], .agg #[.int .i64 y.f, .int .i64 y.t, .int .i64 y.k, .slice A' y.b.length c']] W fun e w' => e = .returned (.bool true) ∧ Below W.heap.size W w' := by
  have hz := run_zero_codec
  have HC := Lib.hid hc
  have HZ : Hid (frCode ⟨x.f, x.t, x.k, x.b⟩ = 0) := hc
  have HDE := Lib.hid (dec_enc hc)
  have HSS := Lib.hid (frSame_self x)
  obtain ⟨M, hM⟩ : ∃ M, (frEnc x).length = M := ⟨_, rfl⟩
  have HM := Lib.hid hM
  have hM4 : (frEnc x).length ≤ 10000 := by rw [enc_len]; omega
  clear hc hM
  obtain ⟨sv, hsv⟩ : ∃ sv, frSame x y = sv := ⟨_, rfl⟩
  have HSV := Lib.hid hsv
  have O0 := Lib.hid (((Only.refl none_ W).alloc (.cells #[.int .i64 x.f, .int .i64 x.t, .int .i64 x.k, .slice A x.b.length c] 24)).alloc (.cells #[.int .i64 y.f, .int .i64 y.t, .int .i64 y.k, .slice A' y.b.length c'] 24))
  have HX := Lib.hid hx
  have HY := Lib.hid hy
  clear hx hy hsv
  go_enter Try.func3, Try.ntmps3
  go_wp2_with (first
    | (go_at_call 7; refine (speaks_any _).mono ?_; rintro e W1 ⟨rfl, o1⟩
       have T1 := Lib.hid (two_boxes W x y A A' c c' _ HX.out HY.out o1)
       obtain ⟨⟨r0, r1, r2, r3⟩, s0, s1, s2, s3⟩ := two_cells W x y A A' c c' _ o1
       obtain ⟨⟨x0, x1, x2, x3⟩, y0, y1, y2, y3⟩ := T1.out.cells
       have OB : Hid (Only none_ W (W1.alloc (.cells tabZero 42))) := (O0.out.trans o1).alloc _
       have hWg : Hid (W.heap.size ≤ W1.heap.size) := (O0.out.trans o1).size
       clear o1)
    | (go_at_call 8; refine (refCheck_any _ _ _ _ x.b _ _).mono ?_; rintro e w2 ⟨rfl, o2⟩; rw [HZ.out]
       have T2 := Lib.hid (T1.out.keep o2)
       clear r0 r1 r2 r3 s0 s1 s2 s3 x0 x1 x2 x3 y0 y1 y2 y3
       obtain ⟨⟨x0, x1, x2, x3⟩, y0, y1, y2, y3⟩ := T2.out.cells
       clear o2)
    | (go_at_call 10; refine (of_any _ _ _ _ _ _ _).mono ?_; rintro e w3 ⟨rfl, o3⟩
       have T3 := Lib.hid (T2.out.keep o3)
       clear o3)
    | (go_at_call 9; refine (pf_encodeM T3.out.pf T3.out.frx HC.out M HM.out).mono ?_; rintro e w4 ⟨A4, c4, rfl, own4, p4, o4⟩
       have T4 := Lib.hid (T3.out.step p4.cod o4)
       have hB4 : Hid (Byt w4 (far W1.heap.size) (.slice A4 M c4) (frEnc x)) := (Byt.of_own own4).mono (fun b _ hb => by have := (own4.lt b hb).1; have := T3.out.pf.cod.lt; simp only [far]; omega)
       clear own4 p4 o4))
  clear x0 x1 x2 x3 y0 y1 y2 y3
  have t4 := T4.out.rebase.drew
  go_region_held3 (fun w' => Four w' W.heap.size (.int .i64 x.f) (.int .i64 x.t) (.int .i64 x.k) (.slice A x.b.length c) ∧ Four w' (W.heap.size + 1) (.int .i64 y.f) (.int .i64 y.t) (.int .i64 y.k) (.slice A' y.b.length c'))
    (with_reducible exact Tl.cells (by assumption))
    (first
      | (go_at_call 10; refine (of_any _ _ _ _ _ _ _).mono ?_; rintro e w5 ⟨rfl, o5⟩; have t5 := Tl.keep (by assumption) o5; clear o5)
      | (go_at_call 11; refine (check_any _ _ _ _ x.b _ _).mono ?_; rintro e w5 ⟨rfl, o5⟩; rw [HZ.out]; have t5 := Tl.keep (by assumption) o5; clear o5)
      | (go_at_call 12; refine (frSame_any x y _ _ _ _ _ (Tl.frx (by assumption)) (Tl.fry (by assumption))).mono ?_; rintro e w5 ⟨rfl, o5⟩; rw [HSV.out]; have t5 := Tl.keep (by assumption) o5; clear o5)
      | (go_at_call 13; refine (refSame_any x y _ _ _ _ _ (Tl.frx (by assumption)) (Tl.fry (by assumption))).mono ?_; rintro e w5 ⟨rfl, o5⟩; rw [HSV.out]; have t5 := Tl.keep (by assumption) o5; clear o5))
  have T5 := Lib.hid t5
  clear t4 t5
  go_wp2_with (first
    | (go_at_call 14; refine (pf_decode T5.out.pf (hB4.out.only T5.out.pf.ho (fun _ h => h)) hM4 0 x HDE.out).mono ?_; rintro e w7 ⟨A7, c7, rfl, fx7, p7, o7⟩
       have T8 := Lib.hid ((T5.out.step p7.cod o7).alloc (.cells #[.int .i64 x.f, .int .i64 x.t, .int .i64 x.k, .slice A7 x.b.length c7] 47))
       have PB8 := Lib.hid (T4.out.pf.trans T8.out.pf)
       have N8 := Lib.hid (four_of_blk (Blk.new w7 47 #[.int .i64 x.f, .int .i64 x.t, .int .i64 x.k, .slice A7 x.b.length c7]))
       have X8 := Lib.hid ((fx7.mono (T := far W1.heap.size) (fun _ _ h => h.1)).alloc (.cells #[.int .i64 x.f, .int .i64 x.t, .int .i64 x.k, .slice A7 x.b.length c7] 47))
       have B8 := Lib.hid (hB4.out.only T8.out.pf.ho (fun _ h => h))
       have n7 : w7.heap.size ≠ W1.heap.size := Nat.ne_of_gt p7.cod.lt
       clear fx7 p7 o7))
  have R8 := Lib.hid T8.out.rebase
  have OB8 : Hid (Pf (W1.alloc (.cells tabZero 42)) W1.heap.size (w7.alloc (.cells #[.int .i64 x.f, .int .i64 x.t, .int .i64 x.k, .slice A7 x.b.length c7] 47))) := PB8.out
  clear T8 PB8
  generalize w7.alloc (.cells #[.int .i64 x.f, .int .i64 x.t, .int .i64 x.k, .slice A7 x.b.length c7] 47) = w8 at *
  generalize w7.heap.size = g8 at *
  have p8 := R8.out.pf.drew
  have kb8 := run_bytes_string w8.drew _ _ _ (p8.byt B8.out)
  go_region_held3 (fun w' => (Four w' W.heap.size (.int .i64 x.f) (.int .i64 x.t) (.int .i64 x.k) (.slice A x.b.length c) ∧ Four w' g8 (.int .i64 x.f) (.int .i64 x.t) (.int .i64 x.k) (.slice A7 x.b.length c7)) ∧ (convert 22 9 (.slice A4 M c4)).run Try.prog w' = .ok (.string ⟨(frEnc x).toArray⟩) w')
    (first | with_reducible exact ⟨⟨p8.four R8.out.f (Nat.ne_of_lt R8.out.nf), p8.four N8.out n7⟩, kb8⟩ | with_reducible exact ⟨⟨⟨f9, n9⟩, kb9⟩, ke9⟩)
    (first
      | (go_at_call 15; refine (refEncode_any x _ (fun b => b < w8.drew.heap.size) w8.drew ((p8.frv (R8.out.fx.mono (fun _ _ h => Nat.ne_of_lt h))).mono (fun _ hb _ => hb)) HC.out (fun _ h => h)).mono ?_; rintro e w9 ⟨A9, n9', c9, rfl, own9, o9⟩
         have p9 := p8.keep o9
         have f9 := p9.four R8.out.f (Nat.ne_of_lt R8.out.nf)
         have n9 := p9.four N8.out n7
         have kb9 := run_bytes_string w9 _ _ _ (p9.byt B8.out)
         have ke9 := run_bytes_string w9 _ _ _ (Byt.of_own own9)
         have BE9 := Lib.hid (Byt.of_own own9)
         have P9 := Lib.hid p9
         clear own9 o9 p9 kb8
         have eK := shut_more (fun w' => ((Four w' W.heap.size (.int .i64 x.f) (.int .i64 x.t) (.int .i64 x.k) (.slice A x.b.length c) ∧ Four w' g8 (.int .i64 x.f) (.int .i64 x.t) (.int .i64 x.k) (.slice A7 x.b.length c7)) ∧ (convert 22 9 (.slice A4 M c4)).run Try.prog w' = .ok (.string ⟨(frEnc x).toArray⟩) w') ∧ (convert 22 9 (.slice A9 n9' c9)).run Try.prog w' = .ok (.string ⟨(frEnc x).toArray⟩) w') (fun _ h => h.1) ‹Shut _›
         simp only [eK] at *
         clear eK)
      | (go_at_call 16; refine (is_any x x _ _ _ _ _ (P9.out.frv X8.out) (P9.out.frv (R8.out.fx.mono (fun _ _ h => Nat.ne_of_lt h)))).mono ?_; rintro e w10 ⟨rfl, o10⟩; rw [HSS.out]
         have p10 := P9.out.keep o10
         clear f9 n9 kb9 ke9
         have f9 := p10.four R8.out.f (Nat.ne_of_lt R8.out.nf)
         have n9 := p10.four N8.out n7
         have kb9 := run_bytes_string w10 _ _ _ (p10.byt B8.out)
         have ke9 := run_bytes_string w10 _ _ _ (BE9.out.only o10 (fun _ _ h => h))
         have P10 := Lib.hid p10
         clear o10 p10))
  go_wp2_with fail
  go_ret
  exact ⟨rfl, (OB8.out.trans P10.out).below OB.out hWg.out⟩

theorem tells_long (x y : Fr) (A A' : Option Addr) (c c' : Nat) (W : World) (h : 1100 < x.b.length ∨ (x.b.length ≤ 1100 ∧ 1100 < y.b.length)) :
    Calls Try.prog 3 #[.agg #[.int .i64 x.f, .int .i64 x.t, .int .i64 x.k, .slice A x.b.length c], .agg #[.int .i64 y.f, .int .i64 y.t, .int .i64 y.k, .slice A' y.b.length c']] W fun e w' => e = .returned (.bool true) ∧ Below W.heap.size W w' := by
  have O0 := Lib.hid (((Only.refl none_ W).alloc (.cells #[.int .i64 x.f, .int .i64 x.t, .int .i64 x.k, .slice A x.b.length c] 24)).alloc (.cells #[.int .i64 y.f, .int .i64 y.t, .int .i64 y.k, .slice A' y.b.length c'] 24))
  rcases h with h1 | ⟨h1, h2⟩
  all_goals
    have tok : True := trivial
    go_enter Try.func3, Try.ntmps3
    go_wp2_with (first
      | (go_at_call 7; have _t := tok; refine (speaks_any _).mono ?_; rintro e W1 ⟨rfl, o1⟩
         obtain ⟨⟨r0, r1, r2, r3⟩, s0, s1, s2, s3⟩ := two_cells W x y A A' c c' _ o1
         clear tok)
      | (go_at_call 7; refine (speaks_any _).mono ?_; rintro e W2 ⟨rfl, o2⟩))
    go_ret
    exact ⟨rfl, ((O0.out.trans o1).trans o2).below (Nat.le_refl _) (fun k hk => hk.elim)⟩
end Go.Proofs.Ythbjnpkdbkcpfaa
