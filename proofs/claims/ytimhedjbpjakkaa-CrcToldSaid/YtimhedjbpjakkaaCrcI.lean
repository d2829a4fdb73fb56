/- The call of CrcTold answers yes, and changes nothing that was there, if the calls of a table do what is asked of them. The statement itself is proved in another text. -/
import Derived.Test.YtimhedjbpjakkaaCrcG
import Derived.Test.YtimhedjbpjakkaaCrcN
import Derived.Test.YtimhedjbpjakkaaCrcA
import Derived.StillTailTactics
namespace Go.Proofs.Ytimhedjbpjakkaa
open Go.RowKit
attribute [local go_sem ↓] Go.wp_at_zero Go.wp_at_succ

/-- The lowest sixteen bits of any integer. -/
theorem low_sixteen (a : Int) : ∃ n : Nat, n ≤ 65535 ∧ bits .and .i64 a 65535 = (n : Int) := by
  have h1 : (BitVec.ofInt 64 65535).toNat = 2 ^ 16 - 1 := by decide
  have key : (BitVec.ofInt 64 a &&& BitVec.ofInt 64 65535).toNat = (a % ((2 ^ 64 : Nat) : Int)).toNat % 2 ^ 16 := by
    rw [BitVec.toNat_and, BitVec.toNat_ofInt, h1, Nat.and_two_pow_sub_one_eq_mod]
  refine ⟨(a % ((2 ^ 64 : Nat) : Int)).toNat % 2 ^ 16, by omega, ?_⟩
  show IntKind.i64.wrap ((BitVec.ofInt 64 a &&& BitVec.ofInt 64 65535).toNat : Nat) = _
  rw [key, IntKind.wrap_i64]
  omega
/-- A slice of bytes of a call's own, in a block known whole. -/
theorem own_block {w : World} {base n : Nat} {A : Option Addr} {L c : Nat} {bs : List UInt8} (h : w.ownsRow base 5 1 (.slice A L c) n (byts bs)) (hp : 0 < bs.length) :
    ∃ g cur, A = some ⟨g, 0, none⟩ ∧ L = n ∧ base ≤ g ∧ Blk w g 5 cur ∧ cur.toList.take n = byts bs ∧ n ≤ c ∧ c ≤ maxLen := by
  rcases h.2 with ⟨h1, h2⟩ | ⟨g, cap, cur, h1, hb, hh, hc1, hc2, _, ht⟩
  · have := h.1
    simp at this
    omega
  · injection h1 with e1 e2 e3
    subst e3
    exact ⟨g, cur, e1, e2, hb, hh, by simpa using ht, hc1, hc2⟩
theorem blk_byt {w : World} {g n c : Nat} {cur : Array Value} {bs : List UInt8} (h : Blk w g 5 cur) (ht : cur.toList.take n = byts bs) (hn : bs.length = n) (h1 : n ≤ c) (h2 : c ≤ maxLen) : Byt w (fun b => b = g) (.slice (some ⟨g, 0, none⟩) n c) bs := by
  subst hn
  refine ⟨_, c, rfl, h1, h2, by simp, fun _ => ⟨g, 0, rfl, rfl, h.lt, fun j hj => ?_⟩⟩
  rw [Nat.zero_add, h.cell, ← Array.getElem?_toList]
  have h3 := congrArg (fun l => l[j]?) ht
  simp only [List.getElem?_take] at h3
  rw [if_pos hj] at h3
  rw [h3]
  simp [byts, hj]
/-- What one round lays. -/
theorem turn_cell (z : UInt8) (r : Nat) : Value.int .u8 (bits .xor .u8 (z.toNat : Int) (2 ^ r % 256)) = byt (z ^^^ UInt8.ofNat (2 ^ r)) := by
  have h1 : ((2 : Int) ^ r % 256) = ((2 ^ r % 256 : Nat) : Int) := by rw [Int.natCast_emod, Int.natCast_pow]; rfl
  rw [h1, u8_xor_nat z.toNat (2 ^ r % 256) z.toNat_lt (by omega)]
  simp [byt]
theorem turn_row {cur : Array Value} {n f i j r : Nat} {ts : List UInt8} (h : cur.toList.take n = byts ts) (hj : j = (f + i) / 8) (hr : r = (f + i) % 8) :
    (cur.setIfInBounds j (byt (ts.getD j 0 ^^^ UInt8.ofNat (2 ^ r)))).toList.take n = byts (turnBit f i ts) := by
  subst hj hr
  rw [Array.toList_setIfInBounds, List.take_set, h, byts, byts, turnBit, List.map_set]

section
variable {Tb : World → Nat → Prop} (C : TabC Tb)
include C
set_option maxRecDepth 100000 in
set_option maxHeartbeats 1600000 in
theorem told_short (x : Value) (bs : List UInt8) (S : Nat → Prop) (W : World) (hx : Byt W S x bs) (hS : ∀ b, S b → b < W.heap.size) (hl : bs.length ≤ 400) (h0 : 0 < bs.length) (at_ : Int) (b : Nat) (hb : b < 4294967296) (hb0 : b ≠ 0) :
    Calls Try.prog 5 #[x, .int .i64 at_, .int .u32 (b : Int)] W fun e w' => e = .returned (.bool true) ∧ Below W.heap.size W w' := by
  have hv : ∃ A L c, L = bs.length ∧ x = .slice A L c := by obtain ⟨A, c, h, _⟩ := hx; exact ⟨A, _, c, rfl, h⟩
  obtain ⟨A, L, c, hL, rfl⟩ := hv
  have HB := Lib.hid hx
  have hL4 : L ≤ 400 := by omega
  have hL0 : 0 < L := by omega
  have hL0' : ((L : Int) == 0) = false := by simp; omega
  have hb0' : ((b : Int) == 0) = false := by simp; omega
  have HL := Lib.hid hL
  have hz := run_zero_tab
  obtain ⟨q, hq, hand⟩ := low_sixteen at_
  have hml : (crcMark bs).length = L + 4 := by rw [mark_len, hL]
  have HML := Lib.hid hml
  obtain ⟨i0, hi0, hz0, hz1, hz2⟩ := info_parts u8_info
  clear hx hl hL hml h0 hb0
  go_enter Try.func5, Try.ntmps5
  go_wp2_with (first
    | (go_at_call 9; refine (speaks_any C _).mono ?_; rintro e W1 ⟨rfl, o1⟩
       have P0 := Lib.hid (Pk.start C W1)
       have hgW : Hid (W1.heap.size < (W1.alloc (.cells tabZero 38)).heap.size) := by simp [Hid]
       have OB : Hid (Only none_ W (W1.alloc (.cells tabZero 38))) := o1.alloc _
       have hWg : Hid (W.heap.size ≤ W1.heap.size) := o1.size
       have FB := Lib.hid (byt_low HB.out hS OB.out hWg.out)
       clear HB o1)
    | (go_at_call 18; refine (pk_mark C P0.out (FB.out.mono (fun _ _ h => low_far h)) (by have := HL.out; omega)).mono ?_; rintro e w3 ⟨A3, n3, c3, rfl, own3, b3, p3, o3⟩
       have e3 : n3 = (crcMark bs).length := own_len own3
       rw [HML.out] at e3
       subst e3
       have P3 := Lib.hid p3
       have N3 := Lib.hid own3
       have B3 := Lib.hid b3
       have X3 : Hid ((w3.alloc (.cells #[] 5)).ownsRow w3.heap.size 5 1 (.slice (some ⟨w3.heap.size, 0, none⟩) 0 0) ([] : List UInt8).length (byts [])) := World.ownsRow_made w3 #[] 0 (Nat.le_refl _) (by simp [maxLen]) rfl
       have B3a := Lib.hid (b3.alloc (.cells #[] 5))
       have hc1 : ([] : List UInt8).length + (crcMark bs).length ≤ 140737488355328 := by rw [HML.out]; simp; omega
       clear p3 own3 b3 o3)
    | (at_builtin; refine wpList_append_byt _ rfl (.tmp 32) (.tmp 33) _ rfl w3.heap.size 5 i0 (.int .u8 0) Try.underlying22 hi0 hz0 hz1 hz2 rfl (.slice (some ⟨w3.heap.size, 0, none⟩) 0 0) [] rfl X3.out _ _ _ rfl B3a.out hc1 (by simp) ?_
       intro A4 n4 c4 w4 hown4 hgrow4 hmv4
       have H4 := Lib.hid hown4
       have O4 : Hid (Only none_ w3 w4) := ((Only.refl none_ w3).alloc _).grown hgrow4 (fun k hk => .inr (by simp [Value.ownBlock] at hk; omega))
       clear hown4 hgrow4 hmv4))
  obtain ⟨gT, cur, rfl, hn4, hgT, hbT, hcT, hT1, hT2⟩ := own_block H4.out (by rw [List.nil_append, HML.out]; omega)
  rw [List.nil_append, HML.out] at hn4 hcT hT1
  subst hn4
  obtain ⟨f, hfe, hf8⟩ : ∃ f : Nat, (q : Int) % (8 * ((L : Int) + 4)) = (f : Int) ∧ f < 8 * (L + 4) := ⟨q % (8 * (L + 4)), by push_cast; rfl, Nat.mod_lt _ (by omega)⟩
  rw [hfe]
  have HT := Lib.hid hbT
  have HC := Lib.hid hcT
  have HG := Lib.hid hgT
  clear hbT hcT hgT hfe
  go_loopw [11, 12] (fun c k wr => ∃ (i n : Nat) (ts : List UInt8) (cur : Array Value), i ≤ 32 ∧ f + i ≤ 8 * (L + 4) ∧ k = .int .i64 i ∧ c = .int .i64 n ∧ Turn (crcMark bs) f b i ts n ∧
    Blk wr gT 5 cur ∧ cur.toList.take (L + 4) = byts ts ∧ Only (one gT) w4 wr) (fun _ k _ => 32 - (intOf k).toNat)
  case atStart => exact ⟨0, 0, crcMark bs, cur, by omega, by omega, rfl, rfl, Turn.start _ _ _, HT.out, HC.out, Only.refl _ _⟩
  case round =>
    obtain ⟨i, n, ts, cu, hi, hfi, rfl, rfl, ht, hb', hc', ho⟩ := hrel
    have HU := Lib.hid ht
    have HB' := Lib.hid hb'
    have HC' := Lib.hid hc'
    have HO := Lib.hid ho
    have hn32 : n ≤ 32 := by have := ht.le; omega
    clear ht hb' hc' ho
    by_cases hgo : i < 32 ∧ f + i < 8 * (L + 4)
    · obtain ⟨hi2, hfi2⟩ := hgo
      have hfi3 : (f : Int) + (i : Int) < 8 * ((L : Int) + 4) := by omega
      by_cases hbt : b / 2 ^ i % 2 = 1
      · have hq1 : (bits .and .u32 ((b : Int) / 2 ^ i) 1 == 1) = true := by rw [bit_at b _ hb, hbt]; rfl
        have HBT := Lib.hid hbt
        obtain ⟨j, hjx⟩ : ∃ j, j = (f + i) / 8 := ⟨_, rfl⟩
        obtain ⟨r, hrx⟩ : ∃ r, r = (f + i) % 8 := ⟨_, rfl⟩
        have hj1 : ((f : Int) + (i : Int)) / 8 = (j : Int) := by omega
        have hr1 : ((f : Int) + (i : Int)) % 8 = (r : Int) := by omega
        have hj4 : (j : Int) < (L : Int) + 4 := by omega
        have hjN : j < L + 4 := by omega
        have hr8 : r < 8 := by omega
        have hqx : j < ts.length := by rw [HU.out.len, HML.out]; omega
        have hcell : wr.cell? ⟨gT, j, none⟩ = some (byt (ts.getD j 0)) := by
          rw [HB'.out.cell, ← Array.getElem?_toList]
          have h1 := congrArg (fun l => l[j]?) HC'.out
          simp only [List.getElem?_take] at h1
          rw [if_pos (by omega)] at h1
          rw [h1]
          simp [byts, hqx]
        obtain ⟨z, hzx⟩ : ∃ z, z = ts.getD j 0 := ⟨_, rfl⟩
        rw [← hzx] at hcell
        simp only [byt] at hcell
        have HZ := Lib.hid hzx
        have hz8 := z.toNat_lt
        have hfr := HB'.out.frozen j
        have HJX := Lib.hid hjx
        have HRX := Lib.hid hrx
        clear hjx hrx
        clear hbt hzx
        obtain ⟨s, hsx⟩ : ∃ s : Nat, s = f + i := ⟨_, rfl⟩
        have hw1 : IntKind.i64.wrap ((f : Int) + (i : Int)) = (s : Int) := by rw [IntWalk.i64_in _ (by omega)]; omega
        have hw2 : ((s : Int).tdiv 8) = (j : Int) := by rw [hsx, Int.tdiv_eq_ediv_of_nonneg (by omega)]; push_cast; omega
        have hw3 : ((s : Int).tmod 8) = (r : Int) := by rw [hsx, Int.tmod_eq_emod_of_nonneg (by omega)]; push_cast; omega
        have hw4 : (s : Int) / 8 = (j : Int) := by rw [hsx]; push_cast; omega
        have hw5 : (s : Int) % 8 = (r : Int) := by rw [hsx]; push_cast; omega
        have hw6 : IntKind.i64.wrap (j : Int) = (j : Int) := by rw [IntWalk.i64_in _ (by omega)]
        have HSX := Lib.hid hsx
        clear hsx hj1 hr1
        go_wp2_with fail
        go_still_tail 14, (by kernel_rfl)
        go_wp2_with fail
        refine ⟨⟨i + 1, n + 1, turnBit f i ts, cu.setIfInBounds j (byt (ts.getD j 0 ^^^ UInt8.ofNat (2 ^ r))), by omega, by omega, by go_num, by go_num, HU.out.on (by rw [HML.out, ← HJX.out]; exact hjN) HBT.out, ?_, turn_row HC'.out HJX.out HRX.out, ?_⟩, by simp [intOf]; omega⟩
        · rw [turn_cell, HZ.out]
          exact (HB'.out.set_ j _).drew
        · exact (HO.out.setCell (.inl (show one gT gT from rfl)) _).drew
      · have hq1 : (bits .and .u32 ((b : Int) / 2 ^ i) 1 == 1) = false := by rw [bit_at b _ hb, show b / 2 ^ i % 2 = 0 from by omega]; rfl
        have HBT := Lib.hid hbt
        clear hbt
        go_wp2_with fail
        exact ⟨⟨i + 1, n, ts, cu, by omega, by omega, by go_num, rfl, HU.out.off HBT.out, HB'.out, HC'.out, HO.out⟩, by simp [intOf]; omega⟩
    · have hgB : Hid (W1.heap.size < gT) := Nat.lt_of_lt_of_le (Nat.lt_of_lt_of_le hgW.out P3.out.ho.size) HG.out
      have PR : Hid (Pk Tb (W1.alloc (.cells tabZero 38)) W1.heap.size wr) :=
        ⟨C.only (C.only P3.out.tb O4.out (fun h => h)) HO.out (fun e => by have := hgB.out; simp only [one] at e; omega),
          (P3.out.ho.trans O4.out.of_none).trans' HO.out (fun k hk e => by have := P3.out.ho.size; have := HG.out; simp only [one] at e; omega)⟩
      have MR : Hid (Byt wr (far W1.heap.size) (.slice A3 (L + 4) c3) (crcMark bs)) :=
        ((((Byt.of_own N3.out).mono (T := fun k => k ≠ W1.heap.size ∧ k < w3.heap.size) (fun k hk hv => ⟨by have := (N3.out.lt k hv).1; have := hgW.out; omega, hk⟩)).only O4.out (fun _ _ h => h)).only HO.out (fun k hk e => by have := HG.out; simp only [one] at e; omega)).mono (fun _ _ h => h.1)
      have BR : Hid (Byt wr (far W1.heap.size) (.slice A L c) bs) := (FB.out.only PR.out.ho (fun _ h e => by have := low_far h; exact this e)).mono (fun _ _ h => low_far h)
      have TR : Hid (Byt wr (far W1.heap.size) (.slice (some ⟨gT, 0, none⟩) (L + 4) c4) ts) := (blk_byt HB'.out HC'.out (by rw [HU.out.len, HML.out]) hT1 hT2).mono (fun k _ hk e => by have := hgB.out; omega)
      obtain ⟨A1, hsl1, hb1⟩ := byt_hi Try.underlying22 hi0 MR.out L (by omega) (L : Int) rfl
      have htk : (crcMark bs).take L = bs := by rw [crcMark, HL.out]; simp
      rw [htk] at hb1
      have B1R := Lib.hid hb1
      have k1 := run_bytes_string wr.drew _ _ _ B1R.out.drew
      have k2 := run_bytes_string wr.drew _ _ _ BR.out.drew
      have hM : Hid (crcHolds (crcMark bs) = true) := holds_mark bs
      have hml6 : (crcMark bs).length ≤ 1000000 := by rw [HML.out]; omega
      have hcnt : n = 0 ∨ (n ≠ 0 ∧ crcHolds ts = false) := by
        by_cases h : n = 0
        · exact .inl h
        · exact .inr ⟨h, HU.out.told hM.out (by rw [HML.out]; omega) hi h⟩
      have hts6 : ts.length ≤ 1000000 := by rw [HU.out.len, HML.out]; omega
      clear htk hb1
      have hor : (32 ≤ i) ∨ (i < 32 ∧ 8 * ((L : Int) + 4) ≤ (f : Int) + (i : Int)) := by omega
      clear hgo
      rcases hor with h32 | ⟨h32, hend⟩
      all_goals
        go_wp2_with fail
        go_region_held3 (fun w' => Pk Tb (W1.alloc (.cells tabZero 38)) W1.heap.size w' ∧ (convert 22 9 (.slice A1 L c3)).run Try.prog w' = .ok (.string ⟨bs.toArray⟩) w' ∧ (convert 22 9 (.slice A L c)).run Try.prog w' = .ok (.string ⟨bs.toArray⟩) w')
          (first | exact ⟨PR.out.drew C, k1, k2⟩ | exact ⟨P6.out, k3, k4⟩)
          (first
            | (go_at_call 19; refine (pk_holds C (PR.out.drew C) MR.out.drew hml6).mono ?_; rintro e w6 ⟨rfl, p6, o6⟩; rw [hM.out]
               have P6 := Lib.hid p6
               have T6 := Lib.hid (TR.out.drew.only o6 (fun _ h e => h e))
               have k3 := run_bytes_string w6 _ _ _ (B1R.out.drew.only o6 (fun _ h e => h e))
               have k4 := run_bytes_string w6 _ _ _ (BR.out.drew.only o6 (fun _ h e => h e))
               clear p6 o6))
        all_goals
          rcases hcnt with rfl | ⟨hn0, hts⟩
          · go_wp2_with fail
            go_ret
            exact ⟨rfl, P6.out.below OB.out hWg.out⟩
          · have hn0' : ((n : Int) == 0) = false := by simp; omega
            have HTS := Lib.hid hts
            clear hts hn0
            go_wp2_with (go_at_call 19; refine (pk_holds C P6.out T6.out hts6).mono ?_; rintro e w7 ⟨rfl, p7, o7⟩; rw [HTS.out])
            go_ret
            exact ⟨rfl, p7.below OB.out hWg.out⟩
theorem told_long (x : Value) (A : Option Addr) (n c : Nat) (W : World) (hx : x = .slice A n c) (at_ : Int) (b : Nat) (h : 400 < n ∨ b = 0 ∨ n = 0) :
    Calls Try.prog 5 #[x, .int .i64 at_, .int .u32 (b : Int)] W fun e w' => e = .returned (.bool true) ∧ Below W.heap.size W w' := by
  subst hx
  have hor : 400 < n ∨ (n ≤ 400 ∧ b = 0) ∨ (b ≠ 0 ∧ n = 0) := by omega
  clear h
  rcases hor with h1 | ⟨h1, h2⟩ | ⟨h1, h2⟩
  · have tok : True := trivial
    go_enter Try.func5, Try.ntmps5
    go_wp2_with (first
      | (go_at_call 9; have _t := tok; refine (speaks_any C _).mono ?_; rintro e W1 ⟨rfl, o1⟩; clear tok)
      | (go_at_call 9; refine (speaks_any C _).mono ?_; rintro e W2 ⟨rfl, o2⟩))
    go_ret
    exact ⟨rfl, (o1.trans o2).below (Nat.le_refl _) (fun k hk => hk.elim)⟩
  · subst h2
    have tok : True := trivial
    go_enter Try.func5, Try.ntmps5
    go_wp2_with (first
      | (go_at_call 9; have _t := tok; refine (speaks_any C _).mono ?_; rintro e W1 ⟨rfl, o1⟩; clear tok)
      | (go_at_call 9; refine (speaks_any C _).mono ?_; rintro e W2 ⟨rfl, o2⟩))
    go_ret
    exact ⟨rfl, (o1.trans o2).below (Nat.le_refl _) (fun k hk => hk.elim)⟩
  · subst h2
    have hb0 : ((b : Int) == 0) = false := by simp; omega
    have tok : True := trivial
    clear h1
    go_enter Try.func5, Try.ntmps5
    go_wp2_with (first
      | (go_at_call 9; have _t := tok; refine (speaks_any C _).mono ?_; rintro e W1 ⟨rfl, o1⟩; clear tok)
      | (go_at_call 9; refine (speaks_any C _).mono ?_; rintro e W2 ⟨rfl, o2⟩))
    go_ret
    exact ⟨rfl, (o1.trans o2).below (Nat.le_refl _) (fun k hk => hk.elim)⟩
end
end Go.Proofs.Ytimhedjbpjakkaa
