/- What Decode of package frame does. No statement of the seat is proved here. -/
import Derived.Test.YthbjnpkdbkcpfaaFrF
namespace Go.Proofs.Ythbjnpkdbkcpfaa
open Go.RowKit

theorem take_code (r : List UInt8) (m : Nat) : (m = r.length ∧ rawR 0 r m = (0, [], r) ∧ doneCode (rawR 0 r m).1 (rawR 0 r m).2.1 = 0) ∨ (m ≠ r.length ∧ doneCode (rawR 0 r m).1 (rawR 0 r m).2.1 ≠ 0) := by
  have h0 : ¬ ((m : Int) < 0) := by omega
  rcases Nat.lt_trichotomy m r.length with h | h | h
  · right
    refine ⟨by omega, ?_⟩
    have : rawR 0 r m = (0, r.drop m, r.take m) := by simp only [rawR, h0, if_false, Int.toNat_natCast, true_and, if_pos (Nat.le_of_lt h)]
    rw [this]
    have h2 : ¬ r.length - m = 0 := by omega
    simp [doneCode, first_, h2]
  · left
    subst h
    have : rawR 0 r r.length = (0, [], r) := by simp [rawR, h0]
    exact ⟨rfl, this, by rw [this]; simp [doneCode]⟩
  · right
    refine ⟨by omega, ?_⟩
    have : rawR 0 r m = (6, r, []) := by
      have h1 : ¬ m ≤ r.length := by omega
      simp [rawR, h0, h1, takeCode, first_, h]
    rw [this]
    simp [doneCode, first_]
/-- Nine bytes or more: the first five, what lies between, and the last four. -/
theorem nine_bytes {bs : List UInt8} (h : 9 ≤ bs.length) : ∃ b0 b1 b2 b3 b4 r, bs.take (bs.length - 4) = b0 :: b1 :: b2 :: b3 :: b4 :: r ∧ r.length + 9 = bs.length ∧ frOf bs = ⟨b0.toNat, b1.toNat, b2.toNat, r⟩ ∧ frSaid bs = b3.toNat + 256 * b4.toNat := by
  obtain ⟨b0, b1, b2, b3, b4, r, rfl⟩ : ∃ b0 b1 b2 b3 b4 r, bs = b0 :: b1 :: b2 :: b3 :: b4 :: r := by
    rcases bs with _ | ⟨b0, _ | ⟨b1, _ | ⟨b2, _ | ⟨b3, _ | ⟨b4, r⟩⟩⟩⟩⟩
    all_goals simp at h
    exact ⟨_, _, _, _, _, _, rfl⟩
  simp only [List.length_cons] at h
  have e : (b0 :: b1 :: b2 :: b3 :: b4 :: r).length - 4 = (r.length - 4) + 1 + 1 + 1 + 1 + 1 := by simp; omega
  refine ⟨b0, b1, b2, b3, b4, r.take (r.length - 4), ?_, ?_, ?_, ?_⟩
  · rw [e]
    simp
  · simp; omega
  · simp [frOf]
  · simp [frSaid, leVal]

theorem set4 {W : World} {g : Nat} {t : TypeId} {a b c d : Value} (h : Blk W g t #[a, b, c, d]) (a' b' c' d' : Value) :
    Blk ((((W.setCell ⟨g, 0, none⟩ a').setCell ⟨g, 1, none⟩ b').setCell ⟨g, 2, none⟩ c').setCell ⟨g, 3, none⟩ d') g t #[a', b', c', d'] ∧ Only (one g) W ((((W.setCell ⟨g, 0, none⟩ a').setCell ⟨g, 1, none⟩ b').setCell ⟨g, 2, none⟩ c').setCell ⟨g, 3, none⟩ d') :=
  ⟨(((h.set_ 0 a').set_ 1 b').set_ 2 c').set_ 3 d', ((((Only.refl _ _).setCell (.inl (show one g g from rfl)) _).setCell (.inl (show one g g from rfl)) _).setCell (.inl (show one g g from rfl)) _).setCell (.inl (show one g g from rfl)) _⟩

theorem decode_short (g : Nat) (x : Value) (bs : List UInt8) (S : Nat → Prop) (w : World) (hx : Byt w S x bs) (hl : bs.length < 9) :
    Calls Try.prog 14 #[.pointer (some ⟨g, 0, none⟩), x] w fun e w' => e = .returned (.tuple #[.agg #[.int .i64 0, .int .i64 0, .int .i64 0, .slice none 0 0], .int .i64 6]) ∧ Only none_ w w' := by
  obtain ⟨A, c, rfl, _⟩ := hx
  obtain ⟨L, hL⟩ : ∃ L, L = bs.length := ⟨_, rfl⟩
  rw [← hL] at hl ⊢
  clear hL
  go_enter Try.func14, Try.ntmps14
  go_wp2_with fail
  exact bodyPost_ret (v := .tuple #[.agg #[.int .i64 0, .int .i64 0, .int .i64 0, .slice none 0 0], .int .i64 6]) (by simp [results, Try.results14, go_sem]) rfl ⟨rfl, (Only.refl none_ w).alloc _⟩

theorem decode_sum {tt : TypeId} (g : Nat) (x : Value) (bs : List UInt8) (S : Nat → Prop) (w : World) (ht : Tab tt w g) (hx : Byt w S x bs) (hS : ∀ b, S b → b ≠ g) (hl : 9 ≤ bs.length) (hm : bs.length ≤ 10000) (hh : crcHolds bs = false) :
    Calls Try.prog 14 #[.pointer (some ⟨g, 0, none⟩), x] w fun e w' => e = .returned (.tuple #[.agg #[.int .i64 0, .int .i64 0, .int .i64 0, .slice none 0 0], .int .i64 5]) ∧ Tab tt w' g ∧ Only (one g) w w' := by
  have hv : ∃ A L c, L = bs.length ∧ x = .slice A L c := by obtain ⟨A, c, h, _⟩ := hx; exact ⟨A, _, c, rfl, h⟩
  obtain ⟨A, L, c, hL, rfl⟩ := hv
  have O0 := Lib.hid ((Only.refl none_ w).alloc (.cells #[.int .i64 0, .int .i64 0, .int .i64 0, .slice none 0 0] 47))
  have G0 := Lib.hid (Blk.new w 47 #[.int .i64 0, .int .i64 0, .int .i64 0, .slice none 0 0])
  have HH := tab_holds g S _ bs _ (ht.only O0.out (fun h => h)) (hx.alloc (.cells #[.int .i64 0, .int .i64 0, .int .i64 0, .slice none 0 0] 47)) hS (by omega)
  rw [hh] at HH
  have hgw : Hid (g < w.heap.size) := ht.lt
  have h9 : 9 ≤ L := by omega
  have h5 : L ≤ 10000 := by omega
  clear ht hx hl hm hh hL
  go_enter Try.func14, Try.ntmps14
  go_wp2_with (first
    | (go_at_call 27; refine HH.mono ?_; rintro e w1 ⟨rfl, t1, o1⟩
       have G1 := G0.out.only o1 (by have := hgw.out; simp only [one]; omega)
       obtain ⟨z0, z1, z2, z3⟩ := four_of_blk G1
       have u0 := G1.frozen 0
       have u1 := G1.frozen 1
       have u2 := G1.frozen 2
       have u3 := G1.frozen 3
       have T1 := Lib.hid t1
       have O1 := Lib.hid (O0.out.of_none.trans o1)
       have H1 := Lib.hid G1
       clear t1 o1 G1))
  obtain ⟨K4, o4⟩ := set4 H1.out (.int .i64 0) (.int .i64 0) (.int .i64 0) (.slice none 0 0)
  obtain ⟨j0, j1, j2, j3⟩ := four_of_blk K4
  exact bodyPost_ret (v := .tuple #[.agg #[.int .i64 0, .int .i64 0, .int .i64 0, .slice none 0 0], .int .i64 5]) (by simp [results, Try.results14, go_sem, j0, j1, j2, j3]) rfl
    ⟨rfl, T1.out.only o4 (by have := hgw.out; simp only [one]; omega), O1.out.trans' o4 (fun k hk e => by simp only [one] at e; omega)⟩

set_option maxRecDepth 100000 in
set_option maxHeartbeats 1600000 in
theorem decode_form {tt : TypeId} (g : Nat) (x : Value) (bs : List UInt8) (S : Nat → Prop) (w : World) (ht : Tab tt w g) (hx : Byt w S x bs) (hS : ∀ b, S b → b ≠ g) (hl : 9 ≤ bs.length) (hm : bs.length ≤ 10000) (hh : crcHolds bs = true) :
    Calls Try.prog 14 #[.pointer (some ⟨g, 0, none⟩), x] w fun e w' => ∃ A n c, e = .returned (.tuple #[.agg #[.int .i64 (frDec bs).2.f, .int .i64 (frDec bs).2.t, .int .i64 (frDec bs).2.k, .slice A n c], .int .i64 (frDec bs).1]) ∧
      w'.ownsRow w.heap.size 5 1 (.slice A n c) (frDec bs).2.b.length (byts (frDec bs).2.b) ∧ Tab tt w' g ∧ Only (one g) w w' := by
  have hv : ∃ A L c, L = bs.length ∧ x = .slice A L c := by obtain ⟨A, c, h, _⟩ := hx; exact ⟨A, _, c, rfl, h⟩
  obtain ⟨A, L, c, hL, rfl⟩ := hv
  obtain ⟨b0, b1, b2, b3, b4, r, htk, hrl, hof, hsd⟩ := nine_bytes hl
  obtain ⟨m, hme⟩ : ∃ m, m = b3.toNat + 256 * b4.toNat := ⟨_, rfl⟩
  rw [← hme] at hsd
  have HD : frDec bs = if frCode ⟨b0.toNat, b1.toNat, b2.toNat, r⟩ = 0 ∧ m = r.length then (0, ⟨b0.toNat, b1.toNat, b2.toNat, r⟩) else (4, frZero) := by
    rw [frDec, if_neg (by omega), if_neg (by simp [hh]), hof, hsd]
  obtain ⟨i0, hi0, _⟩ := info_parts u8_info
  obtain ⟨A1, hsl, hb1⟩ := byt_hi Try.underlying22 hi0 hx (L - 4) (by omega) ((L : Int) - 4) (by omega)
  rw [hL, htk, ← hL] at hb1
  have hw4 : IntKind.i64.wrap ((L : Int) - 4) = (L : Int) - 4 := IntWalk.i64_in _ (by omega)
  have O0 := Lib.hid ((Only.refl none_ w).alloc (.cells #[.int .i64 0, .int .i64 0, .int .i64 0, .slice none 0 0] 47))
  have G0 := Lib.hid (Blk.new w 47 #[.int .i64 0, .int .i64 0, .int .i64 0, .slice none 0 0])
  have HH := tab_holds g S _ bs _ (ht.only O0.out (fun h => h)) (hx.alloc (.cells #[.int .i64 0, .int .i64 0, .int .i64 0, .slice none 0 0] 47)) hS (by omega)
  rw [hh] at HH
  have hgw : Hid (g < w.heap.size) := ht.lt
  have hb1' := Lib.hid (hb1.alloc (.cells #[.int .i64 0, .int .i64 0, .int .i64 0, .slice none 0 0] 47))
  have h9 : 9 ≤ L := by omega
  have h5 : L ≤ 10000 := by omega
  have hr5 : r.length ≤ 100000 := by omega
  have hb9 : (b0 :: b1 :: b2 :: b3 :: b4 :: r).length ≤ 140737488355328 := by simp; omega
  have hme' := Lib.hid hme
  have HTC := take_code r m
  obtain ⟨dc, hdc⟩ : ∃ dc, dc = doneCode (rawR 0 r m).1 (rawR 0 r m).2.1 := ⟨_, rfl⟩
  have HTF := fun gr S' w' h hS' => takeF_any gr S' b0 b1 b2 b3 b4 r w' h hS' hr5 m hme'.out
  rw [← hdc] at HTC
  simp only [← hdc] at HTF
  have HTFh := Lib.hid HTF
  clear ht hx hl hm hh hL hof hsd htk hrl hdc hme hi0 HTF hb1
  rcases HTC with ⟨hml, hraw, hd0⟩ | ⟨hml, hd0⟩
  · have hd0' : (dc != 0) = false := by simpa using hd0
    have hraw' := Lib.hid hraw
    clear hraw
    by_cases hk : frCode ⟨b0.toNat, b1.toNat, b2.toNat, r⟩ = 0
    · have HD' : Hid (frDec bs = (0, ⟨b0.toNat, b1.toNat, b2.toNat, r⟩)) := by rw [Hid, HD, if_pos ⟨hk, hml⟩]
      have HK := Lib.hid hk
      clear HD hml hd0 hk
      go_enter Try.func14, Try.ntmps14
      go_wp2_with (first
        | (go_at_call 27; refine HH.mono ?_; rintro e w1 ⟨rfl, t1, o1⟩
           have G1 := Lib.hid (G0.out.only o1 (by have := hgw.out; simp only [one]; omega))
           have B1 := Lib.hid (hb1'.out.only o1 hS)
           have T1 := Lib.hid t1
           have O1 := Lib.hid (O0.out.of_none.trans o1)
           clear t1 o1)
        | (go_at_call 29; refine (read_any _ _ _ _ B1.out hb9).mono ?_; rintro e w2 ⟨gr, S2, rfl, hgr, rd2, hS2, o2⟩
           have R2 := Lib.hid rd2
           have O2 := Lib.hid o2
           have HG2 := Lib.hid hgr
           have HS2 : ∀ b, S2 b → b < w2.heap.size := fun b hb => (hS2 b hb).2
           clear rd2 o2 hgr hS2)
        | (go_at_call 28; refine (HTFh.out gr S2 _ R2.out HS2).mono ?_; rintro e w3 ⟨A3, n3, c3, rfl, own3, o3⟩
           have e3 : n3 = r.length := by have := own_len own3; rw [hraw'.out] at this; exact this
           subst e3
           rw [hraw'.out] at own3
           have G3 := (G1.out.only O2.out (fun h => h)).only o3 (by have := HG2.out; have := G1.out.lt; simp only [one]; omega)
           have T3 : Hid (Tab tt w3 g) := (T1.out.only O2.out (fun h => h)).only o3 (by have := HG2.out; have := T1.out.lt; simp only [one]; omega)
           have O3 : Hid (Only (one g) w w3) := (O1.out.trans O2.out.of_none).trans' o3 (fun k hk e => by have := HG2.out; have := O1.out.size; simp only [one] at e; omega)
           have own_gt : Hid (∀ b, Value.ownBlock (.slice A3 r.length c3) = some b → w.heap.size < b) := fun b hb => by have := (own3.lt b hb).1; have := G1.out.lt; have := O2.out.size; omega
           have W3 : Hid (w3.ownsRow w.heap.size 5 1 (.slice A3 r.length c3) r.length (byts r)) := owns_base own3 (Nat.le_trans O1.out.size O2.out.size)
           have G4 := Lib.hid (G3.alloc (.cells #[.int .i64 (b0.toNat : Int), .int .i64 (b1.toNat : Int), .int .i64 (b2.toNat : Int), .slice A3 r.length c3] 47))
           have F4 := Lib.hid (four_of_blk (Blk.new w3 47 #[.int .i64 (b0.toNat : Int), .int .i64 (b1.toNat : Int), .int .i64 (b2.toNat : Int), .slice A3 r.length c3]))
           have ON4 := Lib.hid ((Only.refl none_ w3).alloc (.cells #[.int .i64 (b0.toNat : Int), .int .i64 (b1.toNat : Int), .int .i64 (b2.toNat : Int), .slice A3 r.length c3] 47))
           clear o3 own3 G3)
        | (go_at_call 11; refine (check_any _ _ _ _ r _ _).mono ?_; rintro e w4 ⟨rfl, o4⟩; rw [HK.out]
           have G5 := Lib.hid (G4.out.only o4 (fun h => h))
           have F5 := F4.out.only o4 (fun h => h)
           obtain ⟨x0, x1, x2, x3⟩ := F5
           obtain ⟨z0, z1, z2, z3⟩ := four_of_blk G5.out
           have u0 := G5.out.frozen 0
           have u1 := G5.out.frozen 1
           have u2 := G5.out.frozen 2
           have u3 := G5.out.frozen 3
           have ON5 := ON4.out.trans o4
           have T5 : Hid (Tab tt w4 g) := T3.out.only ON5 (fun h => h)
           have O5 : Hid (Only (one g) w w4) := O3.out.trans ON5.of_none
           have W5 : Hid (w4.ownsRow w.heap.size 5 1 (.slice A3 r.length c3) r.length (byts r)) := owns_only W3.out ON5 (fun _ _ h => h)
           clear o4 ON5))
      rw [HD'.out]
      obtain ⟨K4, o4⟩ := set4 G5.out (.int .i64 (b0.toNat : Int)) (.int .i64 (b1.toNat : Int)) (.int .i64 (b2.toNat : Int)) (.slice A3 r.length c3)
      obtain ⟨j0, j1, j2, j3⟩ := four_of_blk K4
      exact bodyPost_ret (v := .tuple #[.agg #[.int .i64 (b0.toNat : Int), .int .i64 (b1.toNat : Int), .int .i64 (b2.toNat : Int), .slice A3 r.length c3], .int .i64 0]) (by simp [results, Try.results14, go_sem, j0, j1, j2, j3]) rfl
        ⟨A3, _, c3, rfl, owns_only W5.out o4 (fun b hb e => by have := own_gt.out b hb; simp only [one] at e; omega), T5.out.only o4 (by have := hgw.out; simp only [one]; omega), O5.out.trans' o4 (fun k hk e => by simp only [one] at e; omega)⟩
    · have HD' : Hid (frDec bs = (4, frZero)) := by rw [Hid, HD, if_neg (fun h => hk h.1)]
      obtain ⟨kc, hkc⟩ : ∃ kc, frCode ⟨b0.toNat, b1.toNat, b2.toNat, r⟩ = kc := ⟨_, rfl⟩
      have HK := Lib.hid hkc
      have hkc' : (kc != 0) = true := by rw [← hkc]; simpa using hk
      clear HD hml hd0 hk hkc
      go_enter Try.func14, Try.ntmps14
      go_wp2_with (first
        | (go_at_call 27; refine HH.mono ?_; rintro e w1 ⟨rfl, t1, o1⟩
           have G1 := Lib.hid (G0.out.only o1 (by have := hgw.out; simp only [one]; omega))
           have B1 := Lib.hid (hb1'.out.only o1 hS)
           have T1 := Lib.hid t1
           have O1 := Lib.hid (O0.out.of_none.trans o1)
           clear t1 o1)
        | (go_at_call 29; refine (read_any _ _ _ _ B1.out hb9).mono ?_; rintro e w2 ⟨gr, S2, rfl, hgr, rd2, hS2, o2⟩
           have R2 := Lib.hid rd2
           have O2 := Lib.hid o2
           have HG2 := Lib.hid hgr
           have HS2 : ∀ b, S2 b → b < w2.heap.size := fun b hb => (hS2 b hb).2
           clear rd2 o2 hgr hS2)
        | (go_at_call 28; refine (HTFh.out gr S2 _ R2.out HS2).mono ?_; rintro e w3 ⟨A3, n3, c3, rfl, own3, o3⟩
           have e3 : n3 = r.length := by have := own_len own3; rw [hraw'.out] at this; exact this
           subst e3
           rw [hraw'.out] at own3
           have G3 := (G1.out.only O2.out (fun h => h)).only o3 (by have := HG2.out; have := G1.out.lt; simp only [one]; omega)
           have T3 : Hid (Tab tt w3 g) := (T1.out.only O2.out (fun h => h)).only o3 (by have := HG2.out; have := T1.out.lt; simp only [one]; omega)
           have O3 : Hid (Only (one g) w w3) := (O1.out.trans O2.out.of_none).trans' o3 (fun k hk e => by have := HG2.out; have := O1.out.size; simp only [one] at e; omega)
           have own_gt : Hid (∀ b, Value.ownBlock (.slice A3 r.length c3) = some b → w.heap.size < b) := fun b hb => by have := (own3.lt b hb).1; have := G1.out.lt; have := O2.out.size; omega
           have W3 : Hid (w3.ownsRow w.heap.size 5 1 (.slice A3 r.length c3) r.length (byts r)) := owns_base own3 (Nat.le_trans O1.out.size O2.out.size)
           have G4 := Lib.hid (G3.alloc (.cells #[.int .i64 (b0.toNat : Int), .int .i64 (b1.toNat : Int), .int .i64 (b2.toNat : Int), .slice A3 r.length c3] 47))
           have F4 := Lib.hid (four_of_blk (Blk.new w3 47 #[.int .i64 (b0.toNat : Int), .int .i64 (b1.toNat : Int), .int .i64 (b2.toNat : Int), .slice A3 r.length c3]))
           have ON4 := Lib.hid ((Only.refl none_ w3).alloc (.cells #[.int .i64 (b0.toNat : Int), .int .i64 (b1.toNat : Int), .int .i64 (b2.toNat : Int), .slice A3 r.length c3] 47))
           clear o3 own3 G3)
        | (go_at_call 11; refine (check_any _ _ _ _ r _ _).mono ?_; rintro e w4 ⟨rfl, o4⟩; rw [HK.out]
           have G5 := Lib.hid (G4.out.only o4 (fun h => h))
           have F5 := F4.out.only o4 (fun h => h)
           obtain ⟨x0, x1, x2, x3⟩ := F5
           obtain ⟨z0, z1, z2, z3⟩ := four_of_blk G5.out
           have u0 := G5.out.frozen 0
           have u1 := G5.out.frozen 1
           have u2 := G5.out.frozen 2
           have u3 := G5.out.frozen 3
           have ON5 := ON4.out.trans o4
           have T5 : Hid (Tab tt w4 g) := T3.out.only ON5 (fun h => h)
           have O5 : Hid (Only (one g) w w4) := O3.out.trans ON5.of_none
           have W5 : Hid (w4.ownsRow w.heap.size 5 1 (.slice A3 r.length c3) r.length (byts r)) := owns_only W3.out ON5 (fun _ _ h => h)
           clear o4 ON5))
      rw [HD'.out]
      obtain ⟨K4, o4⟩ := set4 G5.out (.int .i64 0) (.int .i64 0) (.int .i64 0) (.slice none 0 0)
      obtain ⟨j0, j1, j2, j3⟩ := four_of_blk K4
      exact bodyPost_ret (v := .tuple #[.agg #[.int .i64 0, .int .i64 0, .int .i64 0, .slice none 0 0], .int .i64 4]) (by simp [results, Try.results14, go_sem, j0, j1, j2, j3]) rfl
        ⟨none, 0, 0, rfl, World.ownsRow_nil _ _ _ _, T5.out.only o4 (by have := hgw.out; simp only [one]; omega), O5.out.trans' o4 (fun k hk e => by simp only [one] at e; omega)⟩
  · have HD' : Hid (frDec bs = (4, frZero)) := by rw [Hid, HD, if_neg (fun h => hml h.2)]
    have hd0' : (dc != 0) = true := by simpa using hd0
    clear HD hml hd0
    go_enter Try.func14, Try.ntmps14
    go_wp2_with (first
      | (go_at_call 27; refine HH.mono ?_; rintro e w1 ⟨rfl, t1, o1⟩
         have G1 := Lib.hid (G0.out.only o1 (by have := hgw.out; simp only [one]; omega))
         have B1 := Lib.hid (hb1'.out.only o1 hS)
         have T1 := Lib.hid t1
         have O1 := Lib.hid (O0.out.of_none.trans o1)
         clear t1 o1)
      | (go_at_call 29; refine (read_any _ _ _ _ B1.out hb9).mono ?_; rintro e w2 ⟨gr, S2, rfl, hgr, rd2, hS2, o2⟩
         have R2 := Lib.hid rd2
         have O2 := Lib.hid o2
         have HG2 := Lib.hid hgr
         have HS2 : ∀ b, S2 b → b < w2.heap.size := fun b hb => (hS2 b hb).2
         clear rd2 o2 hgr hS2)
      | (go_at_call 28; refine (HTFh.out gr S2 _ R2.out HS2).mono ?_; rintro e w3 ⟨A3, n3, c3, rfl, own3, o3⟩
         have G3 := (G1.out.only O2.out (fun h => h)).only o3 (by have := HG2.out; have := G1.out.lt; simp only [one]; omega)
         have T3 : Hid (Tab tt w3 g) := (T1.out.only O2.out (fun h => h)).only o3 (by have := HG2.out; have := T1.out.lt; simp only [one]; omega)
         have O3 : Hid (Only (one g) w w3) := (O1.out.trans O2.out.of_none).trans' o3 (fun k hk e => by have := HG2.out; have := O1.out.size; simp only [one] at e; omega)
         have G4 := Lib.hid (G3.alloc (.cells #[.int .i64 (b0.toNat : Int), .int .i64 (b1.toNat : Int), .int .i64 (b2.toNat : Int), .slice A3 n3 c3] 47))
         obtain ⟨z0, z1, z2, z3⟩ := four_of_blk G4.out
         have u0 := G4.out.frozen 0
         have u1 := G4.out.frozen 1
         have u2 := G4.out.frozen 2
         have u3 := G4.out.frozen 3
         clear o3 own3 G3))
    rw [HD'.out]
    obtain ⟨K4, o4⟩ := set4 G4.out (.int .i64 0) (.int .i64 0) (.int .i64 0) (.slice none 0 0)
    obtain ⟨j0, j1, j2, j3⟩ := four_of_blk K4
    exact bodyPost_ret (v := .tuple #[.agg #[.int .i64 0, .int .i64 0, .int .i64 0, .slice none 0 0], .int .i64 4]) (by simp [results, Try.results14, go_sem, j0, j1, j2, j3]) rfl
      ⟨none, 0, 0, rfl, World.ownsRow_nil _ _ _ _, (T3.out.only (S := none_) ((Only.refl _ _).alloc _) (fun h => h)).only o4 (by have := hgw.out; simp only [one]; omega), (O3.out.alloc _).trans' o4 (fun k hk e => by simp only [one] at e; omega)⟩

theorem decode_any {tt : TypeId} (g : Nat) (x : Value) (bs : List UInt8) (S : Nat → Prop) (w : World) (ht : Tab tt w g) (hx : Byt w S x bs) (hS : ∀ b, S b → b ≠ g) (hm : bs.length ≤ 10000) :
    Calls Try.prog 14 #[.pointer (some ⟨g, 0, none⟩), x] w fun e w' => ∃ A n c, e = .returned (.tuple #[.agg #[.int .i64 (frDec bs).2.f, .int .i64 (frDec bs).2.t, .int .i64 (frDec bs).2.k, .slice A n c], .int .i64 (frDec bs).1]) ∧
      w'.ownsRow w.heap.size 5 1 (.slice A n c) (frDec bs).2.b.length (byts (frDec bs).2.b) ∧ Tab tt w' g ∧ Only (one g) w w' := by
  by_cases hl : bs.length < 9
  · refine (decode_short g x bs S w hx hl).mono ?_
    rintro e w' ⟨rfl, o⟩
    have hd : frDec bs = (6, frZero) := by rw [frDec, if_pos hl]
    rw [hd]
    exact ⟨none, 0, 0, rfl, World.ownsRow_nil _ _ _ _, ht.only o (fun h => h), o.of_none⟩
  · cases hh : crcHolds bs
    · refine (decode_sum g x bs S w ht hx hS (by omega) hm hh).mono ?_
      rintro e w' ⟨rfl, t, o⟩
      have hd : frDec bs = (5, frZero) := by rw [frDec, if_neg hl, if_pos hh]
      rw [hd]
      exact ⟨none, 0, 0, rfl, World.ownsRow_nil _ _ _ _, t, o⟩
    · exact decode_form g x bs S w ht hx hS (by omega) hm hh
end Go.Proofs.Ythbjnpkdbkcpfaa
