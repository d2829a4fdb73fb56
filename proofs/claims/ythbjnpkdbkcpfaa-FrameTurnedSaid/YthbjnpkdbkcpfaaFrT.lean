/- The call of FrameTurned answers yes, and changes nothing that was there. The statement itself is proved in another text. -/
import Derived.Test.YthbjnpkdbkcpfaaFrK
import Derived.Test.YthbjnpkdbkcpfaaCrcY
namespace Go.Proofs.Ythbjnpkdbkcpfaa
open Go.RowKit
attribute [local go_sem ↓] Go.wp_at_zero Go.wp_at_succ

theorem leX_inj : ∀ {a b : List UInt8}, a.length = b.length → leX a = leX b → a = b
  | [], [], _, _ => rfl
  | [], _ :: _, h, _ => by simp at h
  | _ :: _, [], h, _ => by simp at h
  | x :: a, y :: b, hl, h => by
    have hx := x.toNat_lt
    have hy := y.toNat_lt
    simp only [leX] at h
    rw [xor_add256 _ _ (by omega), xor_add256 _ _ (by omega)] at h
    have e1 : x = y := by apply UInt8.toNat_inj.1; omega
    rw [e1, leX_inj (by simpa using hl) (show leX a = leX b by omega)]
theorem turn_same {ms ts : List UInt8} {f b i : Nat} (t : Turn ms f b i ts 0) : ts = ms := by
  have h := t.val
  rw [t.cnt.1 rfl, Nat.mul_zero, Nat.xor_zero] at h
  exact leX_inj t.len h
/-- A codec at gc, and one frame of the document's that was handed in, in the block bf. -/
structure Tf (B : World) (gc bf : Nat) (x : Fr) (A : Option Addr) (c : Nat) (w : World) : Prop where
  pf : Pf B gc w
  f : Four w bf (.int .i64 x.f) (.int .i64 x.t) (.int .i64 x.k) (.slice A x.b.length c)
  fx : FrV B (fun b => b ≠ gc ∧ b < gc) (.agg #[.int .i64 x.f, .int .i64 x.t, .int .i64 x.k, .slice A x.b.length c]) x
  nf : bf < gc
section
variable {B w w' : World} {gc bf : Nat} {x : Fr} {A : Option Addr} {c : Nat}
theorem Tf.keep (t : Tf B gc bf x A c w) (o : Only none_ w w') : Tf B gc bf x A c w' := ⟨t.pf.keep o, t.f.only o (fun h => h), t.fx, t.nf⟩
theorem Tf.step (t : Tf B gc bf x A c w) (h : Cod w' gc) (o : Only (one gc) w w') : Tf B gc bf x A c w' := ⟨t.pf.step h o, t.f.only o (Nat.ne_of_lt t.nf), t.fx, t.nf⟩
theorem Tf.alloc (t : Tf B gc bf x A c w) (o : Obj) : Tf B gc bf x A c (w.alloc o) := t.keep ((Only.refl none_ w).alloc o)
/-- Bytes in a later block are written. -/
theorem Tf.write (t : Tf B gc bf x A c w) {g : Nat} (hg : gc < g) (hB : B.heap.size ≤ g) (o : Only (one g) w w') : Tf B gc bf x A c w' :=
  ⟨⟨t.pf.cod.only o (by simp only [one]; omega), t.pf.ho.trans' o (fun k hk e => by simp only [one] at e; omega)⟩, t.f.only o (by have := t.nf; simp only [one]; omega), t.fx, t.nf⟩
theorem Tf.frv (t : Tf B gc bf x A c w) : FrV w (far gc) (.agg #[.int .i64 x.f, .int .i64 x.t, .int .i64 x.k, .slice A x.b.length c]) x := (t.fx.only t.pf.ho (fun _ h e => h.1 e)).mono (fun _ _ h => h.1)
end
theorem one_box (W : World) (x : Fr) (A : Option Addr) (c : Nat) (t : TypeId) (hx : Byt W (fun b => b < W.heap.size) (.slice A x.b.length c) x.b)
    {w : World} (o : Only none_ (W.alloc (.cells #[.int .i64 x.f, .int .i64 x.t, .int .i64 x.k, .slice A x.b.length c] t)) w) :
    Tf (w.alloc (.cells tabZero 42)) w.heap.size W.heap.size x A c (w.alloc (.cells tabZero 42)) := by
  have h1 := (four_of_blk (Blk.new W t #[.int .i64 x.f, .int .i64 x.t, .int .i64 x.k, .slice A x.b.length c])).only o (fun h => h)
  have o2 := (Only.refl none_ W).alloc (.cells #[.int .i64 x.f, .int .i64 x.t, .int .i64 x.k, .slice A x.b.length c] t)
  have o3 := (o2.trans o).alloc (.cells tabZero 42)
  have hs := o.size
  simp only [World.size_alloc] at hs
  have oa := (Only.refl none_ w).alloc (.cells tabZero 42)
  exact ⟨Pf.start w, h1.only oa (fun h => h), ⟨A, c, rfl, (hx.only o3 (fun _ _ h => h)).mono (fun b _ hb => by omega)⟩, by omega⟩

set_option maxRecDepth 100000 in
set_option maxHeartbeats 3200000 in
theorem turned_short (x : Fr) (A : Option Addr) (c : Nat) (W : World) (hx : Byt W (fun b => b < W.heap.size) (.slice A x.b.length c) x.b) (hl : x.b.length ≤ 200) (hc : frCode x = 0) (at_ : Int) (b : Nat) (hb : b < 4294967296) :
    Calls Try.prog 5 #[.agg #[.int .i64 x.f, .int .i64 x.t, .int .i64 x.k, .slice A x.b.length c], .int .i64 at_, .int .u32 (b : Int)] W fun e w' => e = .returned (.bool true) ∧ Below W.heap.size W w' := by
  have hz := run_zero_codec
  obtain ⟨q, hq, hand⟩ := low_sixteen at_
  obtain ⟨M, hM⟩ : ∃ M, (frEnc x).length = M := ⟨_, rfl⟩
  have hML : M = x.b.length + 9 := by rw [← hM, enc_len]
  have hM9 : 9 ≤ M := by omega
  have hM3 : M ≤ 209 := by omega
  have hne : ((M : Int) != 9 + (x.b.length : Int)) = false := by simp; omega
  have HM := Lib.hid hM
  have HCx := Lib.hid hc
  have HCC : Hid (frCode ⟨x.f, x.t, x.k, x.b⟩ = 0) := hc
  have O0 := Lib.hid ((Only.refl none_ W).alloc (.cells #[.int .i64 x.f, .int .i64 x.t, .int .i64 x.k, .slice A x.b.length c] 24))
  have R0 := Lib.hid (four_of_blk (Blk.new W 24 #[.int .i64 x.f, .int .i64 x.t, .int .i64 x.k, .slice A x.b.length c]))
  have HX := Lib.hid hx
  clear hx hc hM hML
  go_enter Try.func5, Try.ntmps5
  go_wp2_with (first
    | (go_at_call 7; refine (speaks_any _).mono ?_; rintro e W1 ⟨rfl, o1⟩
       have O1 := Lib.hid o1
       obtain ⟨r0, r1, r2, r3⟩ := R0.out.only o1 (fun h => h)
       clear o1)
    | (go_at_call 8; refine (refCheck_any _ _ _ _ x.b _ _).mono ?_; rintro e w2 ⟨rfl, o2⟩; rw [HCC.out]
       have T2 := Lib.hid (one_box W x A c _ HX.out (O1.out.trans o2))
       have OB : Hid (Only none_ W (w2.alloc (.cells tabZero 42))) := ((O0.out.trans O1.out).trans o2).alloc _
       have hWg : Hid (W.heap.size ≤ w2.heap.size) := ((O0.out.trans O1.out).trans o2).size
       clear r0 r1 r2 r3
       obtain ⟨r0, r1, r2, r3⟩ := T2.out.f
       clear o2)
    | (go_at_call 10; refine (of_any _ _ _ _ _ _ _).mono ?_; rintro e w3 ⟨rfl, o3⟩
       have T3 := Lib.hid (T2.out.keep o3)
       clear o3)
    | (go_at_call 9; refine (pf_encodeM T3.out.pf T3.out.frv HCx.out M HM.out).mono ?_; rintro e w4 ⟨A4, c4, rfl, own4, p4, o4⟩
       have T4 := Lib.hid (T3.out.step p4.cod o4)
       have N4 := Lib.hid own4
       have hs4 := Lib.hid T3.out.pf.ho.size
       clear r0 r1 r2 r3
       obtain ⟨r0, r1, r2, r3⟩ := T4.out.f
       clear own4 p4 o4))
  obtain ⟨gT, cur, rfl, _, hgT, hbT, hcT, hT1, hT2⟩ := own_block N4.out (by rw [HM.out]; omega)
  obtain ⟨f, hfe, hf8⟩ : ∃ f : Nat, (q : Int) % (8 * (M : Int)) = (f : Int) ∧ f < 8 * M := ⟨q % (8 * M), by push_cast; rfl, Nat.mod_lt _ (by omega)⟩
  rw [hfe]
  have HT := Lib.hid hbT
  have HC := Lib.hid hcT
  have HG := Lib.hid hgT
  clear hbT hcT hgT hfe
  go_loopw [11, 12] (fun c k wr => ∃ (i n : Nat) (ts : List UInt8) (cur : Array Value), i ≤ 32 ∧ f + i ≤ 8 * M ∧ k = .int .i64 i ∧ c = .int .i64 n ∧ Turn (frEnc x) f b i ts n ∧
    Blk wr gT 5 cur ∧ cur.toList.take M = byts ts ∧ Only (one gT) w4 wr) (fun _ k _ => 32 - (intOf k).toNat)
  case atStart => exact ⟨0, 0, frEnc x, cur, by omega, by omega, rfl, rfl, Turn.start _ _ _, HT.out, HC.out, Only.refl _ _⟩
  case round =>
    obtain ⟨i, n, ts, cu, hi, hfi, rfl, rfl, ht, hb', hc', ho⟩ := hrel
    have HU := Lib.hid ht
    have HB' := Lib.hid hb'
    have HC' := Lib.hid hc'
    have HO := Lib.hid ho
    have hn32 : n ≤ 32 := by have := ht.le; omega
    clear ht hb' hc' ho
    by_cases hgo : i < 32 ∧ f + i < 8 * M
    · obtain ⟨hi2, hfi2⟩ := hgo
      have hfi3 : (f : Int) + (i : Int) < 8 * (M : Int) := by omega
      by_cases hbt : b / 2 ^ i % 2 = 1
      · have hq1 : (bits .and .u32 ((b : Int) / 2 ^ i) 1 == 1) = true := by rw [bit_at b _ hb, hbt]; rfl
        have HBT := Lib.hid hbt
        obtain ⟨j, hjx⟩ : ∃ j, j = (f + i) / 8 := ⟨_, rfl⟩
        obtain ⟨r, hrx⟩ : ∃ r, r = (f + i) % 8 := ⟨_, rfl⟩
        have hj1 : ((f : Int) + (i : Int)) / 8 = (j : Int) := by omega
        have hr1 : ((f : Int) + (i : Int)) % 8 = (r : Int) := by omega
        have hj4 : (j : Int) < (M : Int) := by omega
        have hjN : j < M := by omega
        have hr8 : r < 8 := by omega
        have hqx : j < ts.length := by rw [HU.out.len, HM.out]; omega
        have hcell : wr.cell? ⟨gT, j, none⟩ = some (byt (ts.getD j 0)) := by
          rw [HB'.out.cell, ← Array.getElem?_toList]
          have h1 := congrArg (fun l => l[j]?) HC'.out
          simp only [List.getElem?_take] at h1
          rw [if_pos (by omega)] at h1
          rw [h1]
          simp [byts, hqx]
        obtain ⟨z, hzx⟩ : ∃ z, z = ts.getD j 0 := ⟨_, rfl⟩
        rw [← hzx] at hcell
        simp only [byt] at hcell
        have HZ := Lib.hid hzx
        have hz8 := z.toNat_lt
        have hfr := HB'.out.frozen j
        have HJX := Lib.hid hjx
        have HRX := Lib.hid hrx
        clear hjx hrx
        clear hbt hzx
        obtain ⟨s, hsx⟩ : ∃ s : Nat, s = f + i := ⟨_, rfl⟩
        have hw1 : IntKind.i64.wrap ((f : Int) + (i : Int)) = (s : Int) := by rw [IntWalk.i64_in _ (by omega)]; omega
        have hw2 : ((s : Int).tdiv 8) = (j : Int) := by rw [hsx, Int.tdiv_eq_ediv_of_nonneg (by omega)]; push_cast; omega
        have hw3 : ((s : Int).tmod 8) = (r : Int) := by rw [hsx, Int.tmod_eq_emod_of_nonneg (by omega)]; push_cast; omega
        have hw4 : (s : Int) / 8 = (j : Int) := by rw [hsx]; push_cast; omega
        have hw5 : (s : Int) % 8 = (r : Int) := by rw [hsx]; push_cast; omega
        have hw6 : IntKind.i64.wrap (j : Int) = (j : Int) := by rw [IntWalk.i64_in _ (by omega)]
        have HSX := Lib.hid hsx
        clear hsx hj1 hr1
        go_wp2_with fail
        go_still_tail 14, (by kernel_rfl)
        go_wp2_with fail
        refine ⟨⟨i + 1, n + 1, turnBit f i ts, cu.setIfInBounds j (byt (ts.getD j 0 ^^^ UInt8.ofNat (2 ^ r))), by omega, by omega, by go_num, by go_num, HU.out.on (by rw [HM.out, ← HJX.out]; exact hjN) HBT.out, ?_, turn_row HC'.out HJX.out HRX.out, ?_⟩, by simp [intOf]; omega⟩
        · rw [turn_cell, HZ.out]
          exact (HB'.out.set_ j _).drew
        · exact (HO.out.setCell (.inl (show one gT gT from rfl)) _).drew
      · have hq1 : (bits .and .u32 ((b : Int) / 2 ^ i) 1 == 1) = false := by rw [bit_at b _ hb, show b / 2 ^ i % 2 = 0 from by omega]; rfl
        have HBT := Lib.hid hbt
        clear hbt
        go_wp2_with fail
        exact ⟨⟨i + 1, n, ts, cu, by omega, by omega, by go_num, rfl, HU.out.off HBT.out, HB'.out, HC'.out, HO.out⟩, by simp [intOf]; omega⟩
    · have hg1 : Hid (w2.heap.size < gT ∧ (w2.alloc (.cells tabZero 42)).heap.size ≤ gT) := by
        have h1 := HG.out
        have h2 := hs4.out
        have h3 : (w2.alloc (.cells tabZero 42)).heap.size = w2.heap.size + 1 := by simp
        constructor <;> omega
      have TR := Lib.hid (T4.out.write hg1.out.1 hg1.out.2 HO.out)
      have BT : Hid (Byt wr (far w2.heap.size) (.slice (some ⟨gT, 0, none⟩) M c4) ts) := (blk_byt HB'.out HC'.out (by rw [HU.out.len, HM.out]) hT1 hT2).mono (fun k _ hk e => by have := hg1.out.1; omega)
      have hts : ts.length ≤ 10000 := by rw [HU.out.len, HM.out]; omega
      have hcnt : ∃ (z : Int) (y : Fr), frDec ts = (z, y) ∧ ((n = 0 ∧ z = 0 ∧ y = x) ∨ (n ≠ 0 ∧ z = 5 ∧ y = frZero)) := by
        by_cases h : n = 0
        · refine ⟨0, x, ?_, .inl ⟨h, rfl, rfl⟩⟩
          subst h
          rw [turn_same HU.out]
          exact dec_enc HCx.out
        · refine ⟨5, frZero, ?_, .inr ⟨h, rfl, rfl⟩⟩
          have := HU.out.told (enc_holds x) (by rw [HM.out]; omega) hi h
          rw [frDec, if_neg (by rw [HU.out.len, HM.out]; omega), if_pos this]
      obtain ⟨z, y, hzy, hcn⟩ := hcnt
      have HZY := Lib.hid hzy
      have HSS := Lib.hid (frSame_self x)
      have HZS := Lib.hid (frSame_self frZero)
      have hor : (32 ≤ i) ∨ (i < 32 ∧ 8 * (M : Int) ≤ (f : Int) + (i : Int)) := by omega
      clear hgo hzy r0 r1 r2 r3
      rcases hcn with ⟨rfl, rfl, rfl⟩ | ⟨hn0, rfl, rfl⟩
      · rcases hor with h32 | ⟨h32, hend⟩
        all_goals
          go_wp2_with (first
            | (go_at_call 14; refine (pf_decode TR.out.pf BT.out hts _ _ HZY.out).mono ?_; rintro e w7 ⟨A7, c7, rfl, fx7, p7, o7⟩
               have T8 := Lib.hid ((TR.out.step p7.cod o7).alloc (.cells #[.int .i64 y.f, .int .i64 y.t, .int .i64 y.k, .slice A7 y.b.length c7] 47))
               have X8 := Lib.hid (fx7.alloc (.cells #[.int .i64 y.f, .int .i64 y.t, .int .i64 y.k, .slice A7 y.b.length c7] 47))
               obtain ⟨r0, r1, r2, r3⟩ := T8.out.f
               clear fx7 p7 o7)
            | (go_at_call 16; refine (is_any y y _ _ _ _ _ X8.out T8.out.frv).mono ?_; rintro e w10 ⟨rfl, o10⟩; rw [HSS.out]
               have P10 := Lib.hid (T8.out.pf.keep o10)
               clear o10))
          go_ret
          exact ⟨rfl, P10.out.below OB.out hWg.out⟩
      · have hn1 : ((n : Int) == 0) = false := by simp; omega
        rcases hor with h32 | ⟨h32, hend⟩
        all_goals
          go_wp2_with (first
            | (go_at_call 14; refine (pf_decode TR.out.pf BT.out hts _ _ HZY.out).mono ?_; rintro e w7 ⟨A7, c7, rfl, fx7, p7, o7⟩
               have T8 := Lib.hid ((TR.out.step p7.cod o7).alloc (.cells #[.int .i64 frZero.f, .int .i64 frZero.t, .int .i64 frZero.k, .slice A7 frZero.b.length c7] 47))
               have X8 := Lib.hid (fx7.alloc (.cells #[.int .i64 frZero.f, .int .i64 frZero.t, .int .i64 frZero.k, .slice A7 frZero.b.length c7] 47))
               obtain ⟨r0, r1, r2, r3⟩ := T8.out.f
               clear fx7 p7 o7)
            | (go_at_call 16; refine (is_any frZero frZero _ _ _ none_ _ X8.out ⟨none, 0, rfl, Byt.nil _ _⟩).mono ?_; rintro e w10 ⟨rfl, o10⟩; rw [HZS.out]
               have P10 := Lib.hid (T8.out.pf.keep o10)
               clear o10))
          go_ret
          exact ⟨rfl, P10.out.below OB.out hWg.out⟩

theorem turned_long (x : Fr) (A : Option Addr) (c : Nat) (W : World) (at_ : Int) (b : Nat) (h : 200 < x.b.length ∨ (x.b.length ≤ 200 ∧ frCode x ≠ 0)) :
    Calls Try.prog 5 #[.agg #[.int .i64 x.f, .int .i64 x.t, .int .i64 x.k, .slice A x.b.length c], .int .i64 at_, .int .u32 (b : Int)] W fun e w' => e = .returned (.bool true) ∧ Below W.heap.size W w' := by
  have O0 := Lib.hid ((Only.refl none_ W).alloc (.cells #[.int .i64 x.f, .int .i64 x.t, .int .i64 x.k, .slice A x.b.length c] 24))
  have R0 := Lib.hid (four_of_blk (Blk.new W 24 #[.int .i64 x.f, .int .i64 x.t, .int .i64 x.k, .slice A x.b.length c]))
  rcases h with h1 | ⟨h1, h2⟩
  · have tok : True := trivial
    go_enter Try.func5, Try.ntmps5
    go_wp2_with (first
      | (go_at_call 7; have _t := tok; refine (speaks_any _).mono ?_; rintro e W1 ⟨rfl, o1⟩
         obtain ⟨r0, r1, r2, r3⟩ := R0.out.only o1 (fun h => h)
         clear tok)
      | (go_at_call 7; refine (speaks_any _).mono ?_; rintro e W2 ⟨rfl, o2⟩))
    go_ret
    exact ⟨rfl, ((O0.out.trans o1).trans o2).below (Nat.le_refl _) (fun k hk => hk.elim)⟩
  · obtain ⟨z, hz⟩ : ∃ z, frCode x = z := ⟨_, rfl⟩
    have HZ : Hid (frCode ⟨x.f, x.t, x.k, x.b⟩ = z) := hz
    have hzn : (z != 0) = true := by rw [← hz]; simpa using h2
    have tok : True := trivial
    clear h2 hz
    go_enter Try.func5, Try.ntmps5
    go_wp2_with (first
      | (go_at_call 7; have _t := tok; refine (speaks_any _).mono ?_; rintro e W1 ⟨rfl, o1⟩
         obtain ⟨r0, r1, r2, r3⟩ := R0.out.only o1 (fun h => h)
         clear tok)
      | (go_at_call 8; refine (refCheck_any _ _ _ _ x.b _ _).mono ?_; rintro e w2 ⟨rfl, o2⟩; rw [HZ.out])
      | (go_at_call 7; refine (speaks_any _).mono ?_; rintro e W3 ⟨rfl, o3⟩))
    go_ret
    exact ⟨rfl, (((O0.out.trans o1).trans o2).trans o3).below (Nat.le_refl _) (fun k hk => hk.elim)⟩
end Go.Proofs.Ythbjnpkdbkcpfaa
