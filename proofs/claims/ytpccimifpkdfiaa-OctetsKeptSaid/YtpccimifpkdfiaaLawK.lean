/- The call of OctetsKept answers yes, and changes nothing that was there. The statement itself is proved in the text that imports this one. -/
import Derived.Test.YtpccimifpkdfiaaLawA
import Derived.Deep.RegionHeld3
import Derived.Deep.DrawnRows
namespace Go.Proofs.Ytpccimifpkdfiaa
open Go.RowKit
attribute [local go_sem ↓] Go.wp_at_zero Go.wp_at_succ

set_option maxHeartbeats 1600000 in
theorem kept_short (x : Value) (bs : List UInt8) (m : Nat) (S : Nat → Prop) (W : World) (h : Byt W S x bs) (hS : ∀ b, S b → b < W.heap.size) (hn : m ≤ 255) (hl : bs.length ≤ 600) :
    Calls Try.prog 6 #[x, .int .u8 (m : Int)] W fun e w' => e = .returned (.bool true) ∧ Below W.heap.size W w' := by
  obtain ⟨i0, hi0, hz0, hz1, hz2⟩ := info_parts u8_info
  have hv : ∃ A c, x = .slice A bs.length c := by obtain ⟨A, c, h, _⟩ := h; exact ⟨A, c, h⟩
  obtain ⟨A, c, rfl⟩ := hv
  have H := Lib.hid h
  clear h
  go_enter Try.func6, Try.ntmps6
  go_wp2_with (first
    | (go_at_call 8; refine (speaks_any _).mono ?_; rintro e W1 ⟨rfl, o1⟩; have H1 := Lib.hid (H.out.only o1 (fun _ _ h => h)))
    | (at_builtin; refine wpList_append_byt _ rfl (.tmp 22) (.tmp 23) _ rfl W1.heap.size 5 i0 (.int .u8 0) Try.underlying28 hi0 hz0 hz1 hz2 rfl (.slice (some ⟨W1.heap.size, 0, none⟩) 0 0) [] rfl (World.ownsRow_made W1 #[] 0 (Nat.le_refl _) (by simp [maxLen]) rfl) S _ bs rfl (H1.out.alloc _) (by simp; omega) (by simp) ?_
       intro A2 n2 c2 W2 hown2 hgrow2 hmv2
       obtain rfl := own_len hown2
       have o2 : Only none_ W1 W2 := ((Only.refl none_ W1).alloc _).grown hgrow2 (fun k hk => .inr (by simp [Value.ownBlock] at hk; omega))
       simp only [List.nil_append] at hown2)
    | (go_at_call 15; refine (raw_fresh W2 _ bs _ (Byt.of_own hown2) (by omega)).mono ?_; rintro e W3 ⟨rfl, v3, h3, o3⟩; have H3 := Lib.hid h3; clear h3)
    | (go_at_call 19; refine (read_any _ bs _ _ ((Byt.of_own hown2).only o3 (fun _ _ h => h)) (by omega)).mono ?_; rintro e W4 ⟨g4, S4, rfl, hg4, h4, hs4, o4⟩; have H4 := Lib.hid h4; clear h4))
  have O1 := Lib.hid hown2
  have O2 := Lib.hid hs4
  have hg4' := H4.out.lt
  have hsz : W.heap.size ≤ W1.heap.size ∧ W1.heap.size ≤ W2.heap.size ∧ W2.heap.size ≤ W3.heap.size ∧ W3.heap.size ≤ W4.heap.size := ⟨o1.size, o2.size, o3.size, o4.size⟩
  have hv1 : Hid (∀ b, ownb (.slice A2 bs.length c2) b → W1.heap.size ≤ b ∧ b < W2.heap.size) := fun b hb => hown2.lt b hb
  have hfo : Hid (∀ b, foot W2.heap.size v3 b → W2.heap.size ≤ b ∧ b < W3.heap.size) := fun b hb => ⟨H3.out.foot_ge (Nat.le_refl _) hb, H3.out.foot_lt hb⟩
  have U4 := Lib.hid (((o1.trans o2).trans o3).trans o4)
  have X4 : Hid (Wr W4 W2.heap.size W2.heap.size 0 v3 bs) := H3.out.only o4 (fun _ _ h => h)
  have own4 : W4.ownsRow W1.heap.size 5 1 (.slice A2 bs.length c2) bs.length (ints (bs.map fun b => (b.toNat : Int))) := by
    rw [← byts_ints]
    exact owns_only (owns_only hown2 o3 (fun _ _ h => h)) o4 (fun _ _ h => h)
  clear hown2 hs4 hgrow2 hmv2 o1 o2 o3 o4
  go_loopw [34] (fun i wr => ∃ (k : Nat) (zs : List Int), k ≤ bs.length ∧ i = .int .i64 k ∧ wr.ownsRow W1.heap.size 5 1 (.slice A2 bs.length c2) bs.length (ints zs) ∧ Only (ownb (.slice A2 bs.length c2)) W4 wr) (fun i _ => bs.length - (intOf i).toNat)
  case atStart => exact ⟨0, _, by omega, rfl, own4, Only.refl _ _⟩
  case round =>
    obtain ⟨k, zs, hk, rfl, hown, ho⟩ := hrel
    by_cases hlt : k < bs.length
    · obtain ⟨g, z, hA, hc, hf, hst⟩ := own_step hown hlt
      subst hA
      have HS := Lib.hid hst
      have HO := Lib.hid ho
      clear hown hst ho own4
      go_wp2
      go_roundw
      case rel => exact ⟨k + 1, _, by omega, by go_num, (HS.out _).1, HO.out.trans (HS.out _).2⟩
      case measure => simp [intOf]; omega
    · obtain ⟨W5, rfl⟩ : ∃ W5 : World, W5 = wr := ⟨_, rfl⟩
      have X5 : Hid (Wr W5 W2.heap.size W2.heap.size 0 v3 bs) := X4.out.only ho (fun b hb h => by have := hfo.out b hb; have := hv1.out b h; omega)
      have H5 : Hid (Rd W5 g4 S4 0 bs) := H4.out.only ho (fun h => by have := hv1.out _ h; omega) (fun b hb h => by have := O2.out b hb; have := hv1.out _ h; omega)
      have U5 : Hid (Only none_ W W5) := U4.out.trans' ho (fun b hb h => by have := hv1.out _ h; omega)
      have hs5 := ho.size
      clear hown ho own4
      go_wp2_with (first
        | (go_at_call 18; refine (writer_bytes _ _ _ _ _ _ X5.out (by omega)).mono ?_; rintro e W6 ⟨A6, n6, c6, rfl, hb6, o6⟩; obtain rfl := own_len hb6))
      have hv6 : Hid (∀ b, ownb (.slice A6 bs.length c6) b → W5.heap.size ≤ b ∧ b < W6.heap.size) := fun b hb => hb6.lt b hb
      have X6 : Hid (Wr W6 W2.heap.size W2.heap.size 0 v3 bs) := X5.out.only o6 (fun _ _ h => h)
      have H6 : Hid (Rd W6 g4 S4 0 bs) := H5.out.only o6 (fun h => h) (fun _ _ h => h)
      have U6 : Hid (Only none_ W W6) := U5.out.trans o6
      have own6 : W6.ownsRow W5.heap.size 5 1 (.slice A6 bs.length c6) bs.length (ints (bs.map fun b => (b.toNat : Int))) := by
        rw [← byts_ints]
        exact hb6
      have hs6 := o6.size
      clear hb6 o6 
      go_loopw [47] (fun i wr => ∃ (k : Nat) (zs : List Int), k ≤ bs.length ∧ i = .int .i64 k ∧ wr.ownsRow W5.heap.size 5 1 (.slice A6 bs.length c6) bs.length (ints zs) ∧ Only (ownb (.slice A6 bs.length c6)) W6 wr) (fun i _ => bs.length - (intOf i).toNat)
      case atStart => exact ⟨0, _, by omega, rfl, own6, Only.refl _ _⟩
      case round =>
        obtain ⟨k, zs, hk, rfl, hown, ho⟩ := hrel
        by_cases hlt : k < bs.length
        · obtain ⟨g, z, hA, hc, hf, hst⟩ := own_step hown hlt
          subst hA
          have HS := Lib.hid hst
          have HO := Lib.hid ho
          clear hown hst ho own6
          go_wp2
          go_roundw
          case rel => exact ⟨k + 1, _, by omega, by go_num, (HS.out _).1, HO.out.trans (HS.out _).2⟩
          case measure => simp [intOf]; omega
        · obtain ⟨W7, rfl⟩ : ∃ W7 : World, W7 = wr := ⟨_, rfl⟩
          have X7 : Hid (Wr W7 W2.heap.size W2.heap.size 0 v3 bs) := X6.out.only ho (fun b hb h => by have := hfo.out b hb; have := hv6.out b h; omega)
          have H7 : Hid (Rd W7 g4 S4 0 bs) := H6.out.only ho (fun h => by have := hv6.out _ h; omega) (fun b hb h => by have := O2.out b hb; have := hv6.out _ h; omega)
          have U7 : Hid (Only none_ W W7) := U6.out.trans' ho (fun b hb h => by have := hv6.out _ h; omega)
          have hs7 := ho.size
          clear hown ho own6
          obtain ⟨q, hq1, hq⟩ : ∃ q : Nat, q ≤ bs.length ∧ ∀ ts t w, (Builtin.min_ ts t #[.int .i64 (m : Int), .int .i64 (bs.length : Int)]).run Try.prog w = .ok (.int .i64 (q : Int)) w := by
            by_cases h : (bs.length : Int) < (m : Int)
            · exact ⟨bs.length, Nat.le_refl _, fun ts t w => by rw [run_min_int2, if_pos h]⟩
            · exact ⟨m, by omega, fun ts t w => by rw [run_min_int2, if_neg h]⟩
          have HR := reader_raw g4 S4 0 bs (q : Int) W7 H7.out (by omega)
          have hR : rawR 0 bs (q : Int) = (0, bs.drop q, bs.take q) := by
            have : ¬ ((q : Int) < 0) := by omega
            simp only [rawR, this, if_false, Int.toNat_natCast, hq1, true_and, if_true]
          have hQ : (bs.take q).length = q := by simp; omega
          simp only [hR, hQ] at HR
          clear hR hQ
          go_wp2_with (first
            | (go_at_call 27; refine HR.mono ?_; rintro e W8 ⟨A8, n8, c8, rfl, hb8, h8, o8⟩; obtain rfl := (own_len hb8).symm))
          have hv8 : Hid (∀ b, ownb (.slice A8 q c8) b → W7.heap.size ≤ b ∧ b < W8.heap.size) := fun b hb => hb8.lt b hb
          have X8 : Hid (Wr W8 W2.heap.size W2.heap.size 0 v3 bs) := X7.out.only o8 (fun b hb h => by have := hfo.out b hb; simp only [one] at h; omega)
          have H8 := Lib.hid h8
          have U8 : Hid (Only none_ W W8) := U7.out.trans' o8 (fun b hb h => by simp only [one] at h; omega)
          have own8 : W8.ownsRow W7.heap.size 5 1 (.slice A8 q c8) q (ints ((bs.take q).map fun b => (b.toNat : Int))) := by
            rw [← byts_ints]
            exact hb8
          have hs8 := o8.size
          clear hb8 o8 h8 HR hq
          go_loopw [67] (fun i wr => ∃ (k : Nat) (zs : List Int), k ≤ q ∧ i = .int .i64 k ∧ wr.ownsRow W7.heap.size 5 1 (.slice A8 q c8) q (ints zs) ∧ Only (ownb (.slice A8 q c8)) W8 wr) (fun i _ => q - (intOf i).toNat)
          case atStart => exact ⟨0, _, by omega, rfl, own8, Only.refl _ _⟩
          case round =>
            obtain ⟨k, zs, hk, rfl, hown, ho⟩ := hrel
            by_cases hlt : k < q
            · obtain ⟨g, z, hA, hc, hf, hst⟩ := own_step hown hlt
              subst hA
              have HS := Lib.hid hst
              have HO := Lib.hid ho
              clear hown hst ho own8
              go_wp2
              go_roundw
              case rel => exact ⟨k + 1, _, by omega, by go_num, (HS.out _).1, HO.out.trans (HS.out _).2⟩
              case measure => simp [intOf]; omega
            · obtain ⟨W9, rfl⟩ : ∃ W9 : World, W9 = wr := ⟨_, rfl⟩
              have X9 : Hid (Wr W9 W2.heap.size W2.heap.size 0 v3 bs) := X8.out.only ho (fun b hb h => by have := hfo.out b hb; have := hv8.out b h; omega)
              have H9 : Hid (Rd W9 g4 S4 0 (bs.drop q)) := H8.out.only ho (fun h => by have := hv8.out _ h; omega) (fun b hb h => by have := O2.out b hb; have := hv8.out _ h; omega)
              have U9 : Hid (Only none_ W W9) := U8.out.trans' ho (fun b hb h => by have := hv8.out _ h; omega)
              have B9 : Hid (Byt W9 S (.slice A bs.length c) bs) := H.out.only U9.out (fun _ _ h => h)
              clear hown ho own8
              obtain ⟨Aq, Lq, cq, rq, bq⟩ := byt_lo Try.underlying28 hi0 hz1 H.out q hq1 (q : Int) rfl
              have HQ := Lib.hid bq
              clear bq
              have hk2 : (q : Int) ≤ (bs.length : Int) := by omega
              have hw2 : IntKind.i64.wrap ((bs.length : Int) - (q : Int)) = (bs.length : Int) - (q : Int) := IntWalk.i64_in _ (by omega)
              have HR : ∀ w, Rd w g4 S4 0 (bs.drop q) → Calls Try.prog 27 #[.pointer (some ⟨g4, 0, none⟩), .int .i64 ((bs.length : Int) - (q : Int))] w fun e w' =>
                  ∃ A c, e = .returned (.slice A (bs.length - q) c) ∧ Byt w' (fun b => w.heap.size ≤ b) (.slice A (bs.length - q) c) (bs.drop q) ∧ Only (one g4) w w' := by
                intro w h
                have := reader_raw g4 S4 0 (bs.drop q) ((bs.length : Int) - (q : Int)) w h (by simp; omega)
                have hR : rawR 0 (bs.drop q) ((bs.length : Int) - (q : Int)) = (0, (bs.drop q).drop (bs.length - q), (bs.drop q).take (bs.length - q)) := by
                  have h1 : ¬ ((bs.length : Int) - (q : Int) < 0) := by omega
                  have h2 : ((bs.length : Int) - (q : Int)).toNat = bs.length - q := by omega
                  simp [rawR, h1, h2]
                have hT : (bs.drop q).take (bs.length - q) = bs.drop q := List.take_of_length_le (by simp)
                rw [hR, hT] at this
                refine this.mono ?_
                rintro e w' ⟨A, k, c, rfl, h1, h2, h3⟩
                have hl : k = bs.length - q := by simpa using own_len h1
                subst hl
                exact ⟨A, c, rfl, (Byt.of_own h1).mono fun b hb hk => (h1.lt b hk).1, h3⟩
              have hgW : W.heap.size ≤ g4 := by omega
              clear H1 H3 H4 X4 U4 X5 H5 U5 X6 H6 U6 X7 H7 U7 X8 H8 U8 hv1 hv6 hv8 O1 O2 hfo hsz hg4 hg4'
              go_wp2_with fail
              go_region_held3 (fun _ => True) (trivial) (first
                | (go_at_call 18; refine (writer_bytes _ _ _ _ _ _ (by exact X9.out) (by omega)).mono ?_; rintro e WA ⟨AA, nA, cA, rfl, hbA, oA'⟩; have oA := Lib.hid oA'.undrew; have HA := Lib.hid (Byt.of_own hbA); clear oA' hbA)
                | (go_at_call 17; refine (same_yes (.slice AA nA cA) _ bs _ S _ HA.out (B9.out.only oA.out (fun _ _ h => h))).mono ?_; rintro e w' ⟨rfl, rfl⟩)
                | (go_at_call 27; refine (HR _ (H9.out.only oA.out (fun h => h) (fun _ _ h => h))).mono ?_; rintro e WB ⟨AB, cB, rfl, hbB, oB'⟩; have HB := Lib.hid hbB; have oB := Lib.hid ((U9.out.trans oA.out).of_none.trans oB'); clear hbB oB')
                | (go_at_call 17; refine (same_yes (.slice AB (bs.length - q) cB) _ (bs.drop q) _ S _ HB.out (HQ.out.only oB.out (fun b hb h => by have := hS b hb; simp only [one] at h; omega))).mono ?_; rintro e w' ⟨rfl, rfl⟩))
              go_wp2
              go_ret
              exact ⟨rfl, oB.out.below (Nat.le_refl _) (fun k hk => by simp only [one] at hk; omega)⟩

theorem kept_long (A : Option Addr) (l c : Nat) (n : Int) (W : World) (hl : 600 < l) :
    Calls Try.prog 6 #[.slice A l c, .int .u8 n] W fun e w' => e = .returned (.bool true) ∧ Below W.heap.size W w' := by
  go_enter Try.func6, Try.ntmps6
  go_wp2_with fail
  refine (speaks_any _).mono ?_
  rintro e W1 ⟨rfl, o1⟩
  go_wp2_with fail
  refine (speaks_any _).mono ?_
  rintro e W2 ⟨rfl, o2⟩
  go_wp2
  go_ret
  exact ⟨rfl, (o1.trans o2).below (Nat.le_refl _) (fun k hk => hk.elim)⟩
end Go.Proofs.Ytpccimifpkdfiaa
