/- What the document's Value of two bytes, and its Decode, give. No statement of the seat is proved here. -/
import Derived.Test.YthbjnpkdbkcpfaaFrG
namespace Go.Proofs.Ythbjnpkdbkcpfaa
open Go.RowKit
attribute [local go_sem ↓] Go.wp_at_zero Go.wp_at_succ

theorem value_two (A : Option Addr) (cap : Nat) (b c : UInt8) (m : Nat) (hm : m = b.toNat + 256 * c.toNat) (S : Nat → Prop) (w : World) (hx : Byt w S (.slice A 2 cap) [b, c]) :
    Calls Try.prog 31 #[.slice A 2 cap] w fun e w' => e = .returned (.int .u64 (m : Int)) ∧ w = w' := by
  subst hm
  obtain ⟨A', c', he, _, _, _, h4⟩ := hx
  injection he with e1 e2 e3
  subst e1 e3
  obtain ⟨k, off, rfl, _, _, hc⟩ := h4 (by simp)
  have h0 := hc 0 (by simp)
  have h1 := hc 1 (by simp)
  simp only [byt, List.getElem_cons_zero, Nat.add_zero, List.getElem_cons_succ] at h0 h1
  have l0 := b.toNat_lt
  have l1 := c.toNat_lt
  have HR : Hid (((b.toNat + 256 * c.toNat : Nat) : Int) = 256 * (c.toNat : Int) + (b.toNat : Int)) := by rw [Hid]; omega
  clear hc h4
  go_enter Try.func31, Try.ntmps31
  go_wp2
  refine wp_loop_rounds 3 ?_
  rw [rounds_succ]
  go_wp2_with fail
  rw [rounds_succ]
  go_wp2_with fail
  rw [rounds_succ]
  go_wp2_with fail
  go_ret
  rw [HR.out]
  exact ⟨rfl, rfl⟩

set_option maxHeartbeats 800000 in
theorem refDecode_short (A : Option Addr) (L c : Nat) (w : World) (hl : L < 9) :
    Calls Try.prog 17 #[.slice A L c] w fun e w' => e = .returned (.tuple #[.agg #[.int .i64 0, .int .i64 0, .int .i64 0, .slice none 0 0], .int .i64 6]) ∧ Only none_ w w' := by
  go_enter Try.func17, Try.ntmps17
  go_wp2_with fail
  exact bodyPost_ret (v := .tuple #[.agg #[.int .i64 0, .int .i64 0, .int .i64 0, .slice none 0 0], .int .i64 6]) (by simp [results, Try.results17, go_sem]) rfl ⟨rfl, (Only.refl none_ w).alloc _⟩

theorem refDecode_sum (x : Value) (bs : List UInt8) (S : Nat → Prop) (w : World) (hx : Byt w S x bs) (hl : 9 ≤ bs.length) (hm : bs.length ≤ 10000) (hh : crcHolds bs = false) :
    Calls Try.prog 17 #[x] w fun e w' => e = .returned (.tuple #[.agg #[.int .i64 0, .int .i64 0, .int .i64 0, .slice none 0 0], .int .i64 5]) ∧ Only none_ w w' := by
  have hv : ∃ A L c, L = bs.length ∧ x = .slice A L c := by obtain ⟨A, c, h, _⟩ := hx; exact ⟨A, _, c, rfl, h⟩
  obtain ⟨A, L, c, hL, rfl⟩ := hv
  have O0 := Lib.hid ((Only.refl none_ w).alloc (.cells #[.int .i64 0, .int .i64 0, .int .i64 0, .slice none 0 0] 24))
  have G0 := Lib.hid (Blk.new w 24 #[.int .i64 0, .int .i64 0, .int .i64 0, .slice none 0 0])
  have HH := refHolds_any _ bs _ _ (hx.alloc (.cells #[.int .i64 0, .int .i64 0, .int .i64 0, .slice none 0 0] 24)) (by omega)
  rw [hh] at HH
  have h9 : 9 ≤ L := by omega
  have h5 : L ≤ 10000 := by omega
  clear hx hl hm hh hL
  go_enter Try.func17, Try.ntmps17
  go_wp2_with (first
    | (go_at_call 30; refine HH.mono ?_; rintro e w1 ⟨rfl, o1⟩
       have G1 := G0.out.only o1 (fun h => h)
       obtain ⟨z0, z1, z2, z3⟩ := four_of_blk G1
       have u0 := G1.frozen 0
       have u1 := G1.frozen 1
       have u2 := G1.frozen 2
       have u3 := G1.frozen 3
       have O1 := Lib.hid (O0.out.trans o1)
       have H1 := Lib.hid G1
       clear o1 G1))
  obtain ⟨K4, o4⟩ := set4 H1.out (.int .i64 0) (.int .i64 0) (.int .i64 0) (.slice none 0 0)
  obtain ⟨j0, j1, j2, j3⟩ := four_of_blk K4
  exact bodyPost_ret (v := .tuple #[.agg #[.int .i64 0, .int .i64 0, .int .i64 0, .slice none 0 0], .int .i64 5]) (by simp [results, Try.results17, go_sem, j0, j1, j2, j3]) rfl
    ⟨rfl, O1.out.trans' o4 (fun k hk e => by simp only [one] at e; omega)⟩

section
variable {P : Program} {md : Region.Mode} {ops : Array Oper} {Q : Exit → Act → World → Prop} {oi : Oper} {fuel : Nat} {listed : Array Bool} {a : Act} {w : World} {v : Value}
/-- In a drawn region: an operation that is not wanted comes up first. -/
theorem wpAny_skip (i d j dj : Nat) (want : Bool) (hi : (ops[i]?).map (fun o => (o.dst, o.guard)) = some (some d, some (j, want))) (hj : (ops[j]?).bind (·.dst) = some dj)
    (hs : Region.noSelect ops = true) (hf : Region.free md ops listed i = true) (hr : (Region.ready md ops listed).contains i = true)
    (hb : a.tmps[dj]? = some (.bool (!want))) (hQ : ∀ c a v w, Q (.panic c) (a.put (some d) v) w → Q (.panic c) a w)
    (h : wpAny P md ops Q fuel (listed.setIfInBounds i true) (a.put (some d) undef) w) : wpAny P md ops Q (fuel + 1) listed a w := by
  cases ho : ops[i]? with
  | none => rw [ho] at hi; cases hi
  | some o =>
    rw [ho] at hi
    simp only [Option.map_some, Option.some.injEq, Prod.mk.injEq] at hi
    obtain ⟨hd, hg⟩ := hi
    refine wpAny_take ho hs hf hr (by rw [hd]; exact fun c a w => hQ c a _ w) (.inr ⟨?_, rfl⟩) (by rw [hd]; exact h)
    rw [Region.wanted, hg]
    simp only [yielded, hj, Option.bind_some, hb]
    cases want <;> rfl
/-- In a drawn region: an operation that is wanted, and yields in whatever world, comes up first. -/
theorem wpAny_comes (i d : Nat) (hi : ops[i]? = some oi) (hd : oi.dst = some d) (hg : oi.guard = none)
    (hs : Region.noSelect ops = true) (hf : Region.free md ops listed i = true) (hr : (Region.ready md ops listed).contains i = true)
    (hv : ∀ w, (execOp a.eval oi).run P w = .ok (.value v) w) (hQ : ∀ c a v w, Q (.panic c) (a.put (some d) v) w → Q (.panic c) a w)
    (h : wpAny P md ops Q fuel (listed.setIfInBounds i true) (a.put (some d) v) w) : wpAny P md ops Q (fuel + 1) listed a w :=
  wpAny_take hi hs hf hr (by rw [hd]; exact fun c a w => hQ c a _ w) (.inl ⟨by rw [Region.wanted, hg], hv⟩) (by rw [hd]; exact h)
end

theorem nine_more {bs : List UInt8} (h : 9 ≤ bs.length) : ∃ b0 b1 b2 b3 b4 r, (bs[0]? = some b0 ∧ bs[1]? = some b1 ∧ bs[2]? = some b2) ∧ (bs.drop 3).take (5 - 3) = [b3, b4] ∧ (bs.drop 5).take (bs.length - 4 - 5) = r ∧ r.length + 9 = bs.length ∧ frOf bs = ⟨b0.toNat, b1.toNat, b2.toNat, r⟩ ∧ frSaid bs = b3.toNat + 256 * b4.toNat := by
  obtain ⟨b0, b1, b2, b3, b4, r, rfl⟩ : ∃ b0 b1 b2 b3 b4 r, bs = b0 :: b1 :: b2 :: b3 :: b4 :: r := by
    rcases bs with _ | ⟨b0, _ | ⟨b1, _ | ⟨b2, _ | ⟨b3, _ | ⟨b4, r⟩⟩⟩⟩⟩
    all_goals simp at h
    exact ⟨_, _, _, _, _, _, rfl⟩
  simp only [List.length_cons] at h
  refine ⟨b0, b1, b2, b3, b4, r.take (r.length - 4), ⟨rfl, rfl, rfl⟩, by simp, ?_, ?_, ?_, ?_⟩
  · simp
  · simp; omega
  · simp [frOf]
  · simp [frSaid, leVal]

set_option maxRecDepth 100000 in
set_option maxHeartbeats 6400000 in
theorem refDecode_form (x : Value) (bs : List UInt8) (S : Nat → Prop) (w : World) (hx : Byt w S x bs) (hl : 9 ≤ bs.length) (hm : bs.length ≤ 10000) (hh : crcHolds bs = true) :
    Calls Try.prog 17 #[x] w fun e w' => ∃ A n c, e = .returned (.tuple #[.agg #[.int .i64 (frDec bs).2.f, .int .i64 (frDec bs).2.t, .int .i64 (frDec bs).2.k, .slice A n c], .int .i64 (frDec bs).1]) ∧
      Byt w' S (.slice A n c) (frDec bs).2.b ∧ Only none_ w w' := by
  have hv : ∃ A L c, L = bs.length ∧ x = .slice A L c := by obtain ⟨A, c, h, _⟩ := hx; exact ⟨A, _, c, rfl, h⟩
  obtain ⟨A, L, c, hL, rfl⟩ := hv
  have O0 := Lib.hid ((Only.refl none_ w).alloc (.cells #[.int .i64 0, .int .i64 0, .int .i64 0, .slice none 0 0] 24))
  have G0 := Lib.hid (Blk.new w 24 #[.int .i64 0, .int .i64 0, .int .i64 0, .slice none 0 0])
  have HH := refHolds_any _ bs _ _ (hx.alloc (.cells #[.int .i64 0, .int .i64 0, .int .i64 0, .slice none 0 0] 24)) (by omega)
  rw [hh] at HH
  have HX := Lib.hid hx
  obtain ⟨i0, hi0, _, hz1, _⟩ := info_parts u8_info
  obtain ⟨b0, b1, b2, b3, b4, r, ⟨q0, q1, q2⟩, h35, h5r, hrl, hof, hsd⟩ := nine_more hl
  obtain ⟨m, hme⟩ : ∃ m, m = b3.toNat + 256 * b4.toNat := ⟨_, rfl⟩
  rw [← hme] at hsd
  have HD : frDec bs = if frCode ⟨b0.toNat, b1.toNat, b2.toNat, r⟩ = 0 ∧ m = r.length then (0, ⟨b0.toNat, b1.toNat, b2.toNat, r⟩) else (4, frZero) := by
    rw [frDec, if_neg (by omega), if_neg (by simp [hh]), hof, hsd]
  obtain ⟨k, off, rfl, c0, c1, c2, hlt⟩ : ∃ k off, A = some ⟨k, off, none⟩ ∧ w.cell? ⟨k, off, none⟩ = some (.int .u8 (b0.toNat : Int)) ∧ w.cell? ⟨k, off + 1, none⟩ = some (.int .u8 (b1.toNat : Int)) ∧ w.cell? ⟨k, off + 2, none⟩ = some (.int .u8 (b2.toNat : Int)) ∧ k < w.heap.size := by
    obtain ⟨A', c', he, _, _, _, h4⟩ := hx
    injection he with e1 e2 e3
    subst e1
    obtain ⟨k, off, rfl, _, hk, hc⟩ := h4 (by omega)
    have g : ∀ j (hj : j < bs.length) b, bs[j]? = some b → w.cell? ⟨k, off + j, none⟩ = some (byt b) := fun j hj b hb => by
      rw [List.getElem?_eq_getElem hj] at hb
      injection hb with hb
      rw [hc j hj, hb]
    exact ⟨k, off, rfl, g 0 (by omega) _ q0, g 1 (by omega) _ q1, g 2 (by omega) _ q2, hk⟩
  obtain ⟨A1, L1, cap1, hsl1, hb1⟩ := byt_mid Try.underlying22 hi0 hz1 HX.out 5 (L - 4) (by omega) (by omega) 5 ((L : Int) - 4) rfl (by omega)
  obtain ⟨A2, L2, cap2, hsl2, hb2⟩ := byt_mid Try.underlying22 hi0 hz1 HX.out 3 5 (by omega) (by omega) 3 5 rfl rfl
  rw [hL, h5r] at hb1
  rw [h35] at hb2
  have e1 : L1 = r.length := by obtain ⟨_, _, he, _⟩ := hb1; injection he
  have e2 : L2 = 2 := by obtain ⟨_, _, he, _⟩ := hb2; injection he
  subst e2 e1
  have HB1 : Hid (Byt w S (.slice A1 r.length cap1) r) := hb1
  have HB2 := Lib.hid hb2
  have hw4 : IntKind.i64.wrap ((L : Int) - 4) = (L : Int) - 4 := IntWalk.i64_in _ (by omega)
  have h9 : 9 ≤ L := by omega
  have h6 : L ≤ 10000 := by omega
  have C0 : Hid (w.cell? ⟨k, off, none⟩ = some (.int .u8 (b0.toNat : Int)) ∧ w.cell? ⟨k, off + 1, none⟩ = some (.int .u8 (b1.toNat : Int)) ∧ w.cell? ⟨k, off + 2, none⟩ = some (.int .u8 (b2.toNat : Int))) := ⟨c0, c1, c2⟩
  have HK := Lib.hid hlt
  have l0 := b0.toNat_lt
  have l1 := b1.toNat_lt
  have l2 := b2.toNat_lt
  have HME := Lib.hid hme
  clear hx hl hm hh hL hi0 hz1 q0 q1 q2 h35 h5r hof hsd c0 c1 c2 hlt hb1 hb2 hme
  have hd9 : decide ((L : Int) < 9) = false := by simp; omega
  have i0L : (0 : Int) < (L : Int) := by omega
  have n0L : 0 < L := by omega
  have i1L : (1 : Int) < (L : Int) := by omega
  have i2L : (2 : Int) < (L : Int) := by omega
  go_enter Try.func17, Try.ntmps17
  go_wp2_with (first
    | (go_at_call 30; refine HH.mono ?_; rintro e w1 ⟨rfl, o1⟩
       have G1 := Lib.hid (G0.out.only o1 (fun h => h))
       have O1 := Lib.hid (O0.out.trans o1)
       have c0 := ((O0.out.trans o1).cell (p := ⟨k, off, none⟩) HK.out (fun h => h)).trans C0.out.1
       have c1 := ((O0.out.trans o1).cell (p := ⟨k, off + 1, none⟩) HK.out (fun h => h)).trans C0.out.2.1
       have c2 := ((O0.out.trans o1).cell (p := ⟨k, off + 2, none⟩) HK.out (fun h => h)).trans C0.out.2.2
       clear o1))
  have hv0 : IntKind.i64.wrap (b0.toNat : Int) = (b0.toNat : Int) := IntWalk.i64_in _ (by omega)
  have hv1 : IntKind.i64.wrap (b1.toNat : Int) = (b1.toNat : Int) := IntWalk.i64_in _ (by omega)
  have hv2 : IntKind.i64.wrap (b2.toNat : Int) = (b2.toNat : Int) := IntWalk.i64_in _ (by omega)
  have CC := Lib.hid (And.intro c0 (And.intro c1 c2))
  clear c0 c1 c2
  go_region_held3 (fun W => W.cell? ⟨k, off, none⟩ = some (.int .u8 (b0.toNat : Int)) ∧ W.cell? ⟨k, off + 1, none⟩ = some (.int .u8 (b1.toNat : Int)) ∧ W.cell? ⟨k, off + 2, none⟩ = some (.int .u8 (b2.toNat : Int)))
    (first | exact CC.out | exact ⟨cell_more _ CC.out.1, cell_more _ CC.out.2.1, cell_more _ CC.out.2.2⟩)
    (fail)
  have G2 := Lib.hid (G1.out.alloc (.cells #[.int .i64 (b0.toNat : Int), .int .i64 (b1.toNat : Int), .int .i64 (b2.toNat : Int), .slice A1 r.length cap1] 24)).drew
  have F2 := Lib.hid (four_of_blk (Blk.new w1 24 #[.int .i64 (b0.toNat : Int), .int .i64 (b1.toNat : Int), .int .i64 (b2.toNat : Int), .slice A1 r.length cap1]).drew)
  have O2 := Lib.hid (O1.out.alloc (.cells #[.int .i64 (b0.toNat : Int), .int .i64 (b1.toNat : Int), .int .i64 (b2.toNat : Int), .slice A1 r.length cap1] 24)).drew
  clear CC hv0 hv1 hv2 i0L n0L i1L i2L hw4 hsl1
  generalize (w1.alloc (.cells #[.int .i64 (b0.toNat : Int), .int .i64 (b1.toNat : Int), .int .i64 (b2.toNat : Int), .slice A1 r.length cap1] 24)).drew = W2 at *
  generalize w1.heap.size = g4 at *
  have l3 := b3.toNat_lt
  have l4 := b4.toNat_lt
  have hm6 : m < 65536 := by have := HME.out; omega
  have hwm : IntKind.i64.wrap (m : Int) = (m : Int) := IntWalk.i64_in _ (by omega)
  by_cases hk : frCode ⟨b0.toNat, b1.toNat, b2.toNat, r⟩ = 0
  · have HKC := Lib.hid hk
    by_cases hml : m = r.length
    · have HD' : Hid (frDec bs = (0, ⟨b0.toNat, b1.toNat, b2.toNat, r⟩)) := by rw [Hid, HD, if_pos ⟨hk, hml⟩]
      have hne : ((m : Int) != (r.length : Int)) = false := by simp [hml]
      clear HD hml hk
      have k0 : Four W2.drew g4 (.int .i64 (b0.toNat : Int)) (.int .i64 (b1.toNat : Int)) (.int .i64 (b2.toNat : Int)) (.slice A1 r.length cap1) := F2.out
      go_wp2_with fail
      go_region_held3 (fun W => Four W g4 (.int .i64 (b0.toNat : Int)) (.int .i64 (b1.toNat : Int)) (.int .i64 (b2.toNat : Int)) (.slice A1 r.length cap1))
        (first | with_reducible exact k0 | with_reducible exact k3)
        (first
          | (go_at_call 8; refine (refCheck_any _ _ _ _ r _ _).mono ?_; rintro e w3 ⟨rfl, o3⟩; rw [HKC.out]
             have P3 := (Only.refl none_ W2).drew.trans o3
             have k3 := F2.out.only P3 (fun h => h)
             have B3 := HB2.out.only (O2.out.trans P3) (fun _ _ h => h)
             clear o3)
          | (go_at_call 31; refine (value_two A2 cap2 b3 b4 m HME.out S _ B3).mono ?_; rintro e w' ⟨rfl, rfl⟩))
      obtain ⟨x0, x1, x2, x3⟩ := k3
      have G3 := G2.out.only P3 (fun h => h)
      obtain ⟨z0, z1, z2, z3⟩ := four_of_blk G3
      have u0 := G3.frozen 0
      have u1 := G3.frozen 1
      have u2 := G3.frozen 2
      have u3 := G3.frozen 3
      have H3 := Lib.hid G3
      have O3 := Lib.hid (O2.out.trans P3)
      clear B3 P3 G3 k0
      go_wp2_with fail
      rw [HD'.out]
      obtain ⟨K4, o4⟩ := set4 H3.out (.int .i64 (b0.toNat : Int)) (.int .i64 (b1.toNat : Int)) (.int .i64 (b2.toNat : Int)) (.slice A1 r.length cap1)
      obtain ⟨j0, j1, j2, j3⟩ := four_of_blk K4
      have OF := O3.out.trans' o4 (S := none_) (fun k hk e => by simp only [one] at e; omega)
      exact bodyPost_ret (v := .tuple #[.agg #[.int .i64 (b0.toNat : Int), .int .i64 (b1.toNat : Int), .int .i64 (b2.toNat : Int), .slice A1 r.length cap1], .int .i64 0]) (by simp [results, Try.results17, go_sem, j0, j1, j2, j3]) rfl
        ⟨A1, _, cap1, rfl, HB1.out.only OF (fun _ _ h => h), OF⟩
    · have HD' : Hid (frDec bs = (4, frZero)) := by rw [Hid, HD, if_neg (fun h => hml h.2)]
      have hne : ((m : Int) != (r.length : Int)) = true := by simp; omega
      clear HD hml hk
      have k0 : Four W2.drew g4 (.int .i64 (b0.toNat : Int)) (.int .i64 (b1.toNat : Int)) (.int .i64 (b2.toNat : Int)) (.slice A1 r.length cap1) := F2.out
      go_wp2_with fail
      go_region_held3 (fun W => Four W g4 (.int .i64 (b0.toNat : Int)) (.int .i64 (b1.toNat : Int)) (.int .i64 (b2.toNat : Int)) (.slice A1 r.length cap1))
        (first | with_reducible exact k0 | with_reducible exact k3)
        (first
          | (go_at_call 8; refine (refCheck_any _ _ _ _ r _ _).mono ?_; rintro e w3 ⟨rfl, o3⟩; rw [HKC.out]
             have P3 := (Only.refl none_ W2).drew.trans o3
             have k3 := F2.out.only P3 (fun h => h)
             have B3 := HB2.out.only (O2.out.trans P3) (fun _ _ h => h)
             clear o3)
          | (go_at_call 31; refine (value_two A2 cap2 b3 b4 m HME.out S _ B3).mono ?_; rintro e w' ⟨rfl, rfl⟩))
      have G3 := G2.out.only P3 (fun h => h)
      obtain ⟨z0, z1, z2, z3⟩ := four_of_blk G3
      have u0 := G3.frozen 0
      have u1 := G3.frozen 1
      have u2 := G3.frozen 2
      have u3 := G3.frozen 3
      have H3 := Lib.hid G3
      have O3 := Lib.hid (O2.out.trans P3)
      clear B3 P3 G3 k0 k3
      go_wp2_with fail
      rw [HD'.out]
      obtain ⟨K4, o4⟩ := set4 H3.out (.int .i64 0) (.int .i64 0) (.int .i64 0) (.slice none 0 0)
      obtain ⟨j0, j1, j2, j3⟩ := four_of_blk K4
      have OF := O3.out.trans' o4 (S := none_) (fun k hk e => by simp only [one] at e; omega)
      exact bodyPost_ret (v := .tuple #[.agg #[.int .i64 0, .int .i64 0, .int .i64 0, .slice none 0 0], .int .i64 4]) (by simp [results, Try.results17, go_sem, j0, j1, j2, j3]) rfl
        ⟨none, 0, 0, rfl, Byt.nil _ _, OF⟩
  · have HD' : Hid (frDec bs = (4, frZero)) := by rw [Hid, HD, if_neg (fun h => hk h.1)]
    obtain ⟨kc, hkc⟩ : ∃ kc, frCode ⟨b0.toNat, b1.toNat, b2.toNat, r⟩ = kc := ⟨_, rfl⟩
    have HKC := Lib.hid hkc
    have hkc' : (kc != 0) = true := by rw [← hkc]; simpa using hk
    clear HD hk hkc
    obtain ⟨x0, x1, x2, x3⟩ : Four W2.drew g4 (.int .i64 (b0.toNat : Int)) (.int .i64 (b1.toNat : Int)) (.int .i64 (b2.toNat : Int)) (.slice A1 r.length cap1) := F2.out
    go_wp2_with fail
    refine wp_region_any (by kernel_rfl) ?_
    refine wpAny_ready (rs := [0]) (by kernel_rfl) (by simp) ?_
    refine AllReady.cons rfl (fun K hK => ?_) AllReady.nil
    go_simp
    refine hK _ _ ?_
    clear hK K
    refine wpAny_ready (rs := [1]) (by kernel_rfl) (by simp) ?_
    refine AllReady.cons rfl (fun K hK => ?_) AllReady.nil
    go_simp
    go_wp2_with (first
      | (go_at_call 8; refine (refCheck_any _ _ _ _ r _ _).mono ?_; rintro e w3 ⟨rfl, o3⟩; rw [HKC.out]
         have P3 := (Only.refl none_ W2).drew.trans o3
         clear o3))
    refine wpAny_comes (v := .bool true) 2 33 rfl rfl rfl (by kernel_rfl) (by kernel_rfl) (by kernel_rfl) (fun w => by go_simp) (fun _ _ _ _ h => h) ?_
    simp only [Act.put, List.setIfInBounds_toArray, List.set_cons_zero, List.set_cons_succ]
    refine wpAny_comes (v := .bool true) 3 34 rfl rfl rfl (by kernel_rfl) (by kernel_rfl) (by kernel_rfl) (fun w => by go_simp) (fun _ _ _ _ h => h) ?_
    simp only [Act.put, List.setIfInBounds_toArray, List.set_cons_zero, List.set_cons_succ]
    refine wpAny_skip 4 35 3 34 false (by kernel_rfl) (by kernel_rfl) (by kernel_rfl) (by kernel_rfl) (by kernel_rfl) rfl (fun _ _ _ _ h => h) ?_
    simp only [Act.put, List.setIfInBounds_toArray, List.set_cons_zero, List.set_cons_succ]
    refine wpAny_skip 5 36 3 34 false (by kernel_rfl) (by kernel_rfl) (by kernel_rfl) (by kernel_rfl) (by kernel_rfl) rfl (fun _ _ _ _ h => h) ?_
    simp only [Act.put, List.setIfInBounds_toArray, List.set_cons_zero, List.set_cons_succ]
    refine wpAny_skip 6 37 3 34 false (by kernel_rfl) (by kernel_rfl) (by kernel_rfl) (by kernel_rfl) (by kernel_rfl) rfl (fun _ _ _ _ h => h) ?_
    simp only [Act.put, List.setIfInBounds_toArray, List.set_cons_zero, List.set_cons_succ]
    refine wpAny_skip 7 38 3 34 false (by kernel_rfl) (by kernel_rfl) (by kernel_rfl) (by kernel_rfl) (by kernel_rfl) rfl (fun _ _ _ _ h => h) ?_
    simp only [Act.put, List.setIfInBounds_toArray, List.set_cons_zero, List.set_cons_succ]
    refine wpAny_skip 8 39 3 34 false (by kernel_rfl) (by kernel_rfl) (by kernel_rfl) (by kernel_rfl) (by kernel_rfl) rfl (fun _ _ _ _ h => h) ?_
    simp only [Act.put, List.setIfInBounds_toArray, List.set_cons_zero, List.set_cons_succ]
    refine wpAny_skip 9 40 3 34 false (by kernel_rfl) (by kernel_rfl) (by kernel_rfl) (by kernel_rfl) (by kernel_rfl) rfl (fun _ _ _ _ h => h) ?_
    simp only [Act.put, List.setIfInBounds_toArray, List.set_cons_zero, List.set_cons_succ]
    refine wpAny_skip 10 41 3 34 false (by kernel_rfl) (by kernel_rfl) (by kernel_rfl) (by kernel_rfl) (by kernel_rfl) rfl (fun _ _ _ _ h => h) ?_
    simp only [Act.put, List.setIfInBounds_toArray, List.set_cons_zero, List.set_cons_succ]
    refine wpAny_skip 11 42 3 34 false (by kernel_rfl) (by kernel_rfl) (by kernel_rfl) (by kernel_rfl) (by kernel_rfl) rfl (fun _ _ _ _ h => h) ?_
    simp only [Act.put, List.setIfInBounds_toArray, List.set_cons_zero, List.set_cons_succ]
    refine wpAny_comes (v := .bool true) 12 43 rfl rfl rfl (by kernel_rfl) (by kernel_rfl) (by kernel_rfl) (fun w => by go_simp) (fun _ _ _ _ h => h) ?_
    simp only [Act.put, List.setIfInBounds_toArray, List.set_cons_zero, List.set_cons_succ]
    refine wpAny_done (by kernel_rfl) ?_ _
    have G3 := G2.out.only P3 (fun h => h)
    obtain ⟨z0, z1, z2, z3⟩ := four_of_blk G3
    have u0 := G3.frozen 0
    have u1 := G3.frozen 1
    have u2 := G3.frozen 2
    have u3 := G3.frozen 3
    have H3 := Lib.hid G3
    have O3 := Lib.hid (O2.out.trans P3)
    clear P3 G3 x0 x1 x2 x3
    go_wp2_with fail
    rw [HD'.out]
    obtain ⟨K4, o4⟩ := set4 H3.out (.int .i64 0) (.int .i64 0) (.int .i64 0) (.slice none 0 0)
    obtain ⟨j0, j1, j2, j3⟩ := four_of_blk K4
    have OF := O3.out.trans' o4 (S := none_) (fun k hk e => by simp only [one] at e; omega)
    exact bodyPost_ret (v := .tuple #[.agg #[.int .i64 0, .int .i64 0, .int .i64 0, .slice none 0 0], .int .i64 4]) (by simp [results, Try.results17, go_sem, j0, j1, j2, j3]) rfl
      ⟨none, 0, 0, rfl, Byt.nil _ _, OF⟩

theorem refDecode_any (x : Value) (bs : List UInt8) (S : Nat → Prop) (w : World) (hx : Byt w S x bs) (hm : bs.length ≤ 10000) :
    Calls Try.prog 17 #[x] w fun e w' => ∃ A n c, e = .returned (.tuple #[.agg #[.int .i64 (frDec bs).2.f, .int .i64 (frDec bs).2.t, .int .i64 (frDec bs).2.k, .slice A n c], .int .i64 (frDec bs).1]) ∧
      Byt w' S (.slice A n c) (frDec bs).2.b ∧ Only none_ w w' := by
  by_cases hl : bs.length < 9
  · obtain ⟨A, c, rfl, _⟩ := hx
    refine (refDecode_short A _ c w hl).mono ?_
    rintro e w' ⟨rfl, o⟩
    have hd : frDec bs = (6, frZero) := by rw [frDec, if_pos hl]
    rw [hd]
    exact ⟨none, 0, 0, rfl, Byt.nil _ _, o⟩
  · cases hh : crcHolds bs
    · refine (refDecode_sum x bs S w hx (by omega) hm hh).mono ?_
      rintro e w' ⟨rfl, o⟩
      have hd : frDec bs = (5, frZero) := by rw [frDec, if_neg hl, if_pos hh]
      rw [hd]
      exact ⟨none, 0, 0, rfl, Byt.nil _ _, o⟩
    · exact refDecode_form x bs S w hx (by omega) hm hh
end Go.Proofs.Ythbjnpkdbkcpfaa
