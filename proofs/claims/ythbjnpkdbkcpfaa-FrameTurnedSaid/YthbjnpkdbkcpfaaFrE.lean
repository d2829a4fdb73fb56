/- What Encode of package frame does. No statement of the seat is proved here. -/
import Derived.Test.YthbjnpkdbkcpfaaFrD
import Derived.Test.YthbjnpkdbkcpfaaOctC
namespace Go.Proofs.Ythbjnpkdbkcpfaa
open Go.RowKit

theorem encode_no {tt : TypeId} (g : Nat) (x : Fr) (v : Value) (S : Nat → Prop) (w : World) (ht : Tab tt w g) (hx : FrV w S v x) (hc : frCode x ≠ 0) :
    Calls Try.prog 9 #[.pointer (some ⟨g, 0, none⟩), v] w fun e w' => e = .returned (.tuple #[.slice none 0 0, .int .i64 (frCode x)]) ∧ Tab tt w' g ∧ Only none_ w w' := by
  obtain ⟨A, c, rfl, _⟩ := hx
  rcases x with ⟨f, t, k, bs⟩
  have hd : (frCode ⟨f, t, k, bs⟩ != 0) = true := by simpa using hc
  have HC := fun w => check_any f t k A bs c w
  obtain ⟨z, hz⟩ : ∃ z, z = frCode ⟨f, t, k, bs⟩ := ⟨_, rfl⟩
  rw [← hz] at hd HC ⊢
  have HT := Lib.hid ht
  have O := Lib.hid ((Only.refl none_ w).alloc (.cells #[.int .i64 f, .int .i64 t, .int .i64 k, .slice A bs.length c] 47))
  clear hc hz ht
  go_enter Try.func9, Try.ntmps9
  go_wp2_with (first
    | (go_at_call 11; refine (HC _).mono ?_; rintro e w1 ⟨rfl, o1⟩))
  go_ret2
  exact ⟨rfl, HT.out.only (O.out.trans o1) (fun h => h), O.out.trans o1⟩

theorem put_one (n : Nat) (hn : n < 256) (bs : List UInt8) : numCode 0 n 1 = 0 ∧ numBs 0 bs n 1 = bs ++ [UInt8.ofNat n] := by
  have h : n / 256 = 0 := by omega
  constructor
  · simp [numCode, isW, h]
  · simp [numBs, isW, putS, h, leBytes, leByte, List.range, List.range.loop]
theorem put_two (n : Nat) (hn : n < 65536) (bs : List UInt8) : numCode 0 n 2 = 0 ∧ numBs 0 bs n 2 = bs ++ [UInt8.ofNat (n % 256), UInt8.ofNat (n / 256)] := by
  have h : n / 65536 = 0 := by omega
  constructor
  · simp [numCode, isW, h]
  · have e : UInt8.ofNat n = UInt8.ofNat (n % 256) := by apply UInt8.toNat_inj.1; simp
    simp [numBs, isW, putS, h, leBytes, leByte, List.range, List.range.loop, e]

theorem run_index_three (cs : Array Value) (i : Nat) (hi : i < 3) (v : Value) (hv : cs[i]? = some v) (z : Int) (hz : z = i) (w : World) : (Instr.index 66 (.agg cs) (.int .i64 z)).run Try.prog w = .ok v w := by
  obtain ⟨i0, h0, hs⟩ : ∃ i0, Try.prog.info? 3 = some i0 ∧ i0.size = 1 := by
    have := int_info
    cases h : Try.prog.info? 3 with
    | none => rw [h] at this; cases this
    | some i0 => rw [h] at this; simp at this; exact ⟨i0, rfl, this.1⟩
  subst hz
  simp [Instr.index, asIntOf, run_underlying Try.underlying66, sizeOf, typeInfo, h0, hs, part, isAgg, run_underlying Try.underlying3, hv, hi]

theorem cell_more {w : World} {p : Addr} {v : Value} (o : Obj) (h : w.cell? p = some v) : (w.alloc o).cell? p = some v := (World.cell?_alloc_lt _ _ _ (World.block_lt_of_cell? w p h)).trans h
/-- A new writer without an error: what it has, and that what was there is as it was. -/
structure Enc (w1 wr : World) (gw : Nat) (bs : List UInt8) (v : Value) : Prop where
  at_ : gw = w1.heap.size
  ho : Only none_ w1 wr
  wr : Wr wr gw gw 0 v bs
theorem Enc.new (w1 : World) : Enc w1 (w1.alloc (.cells #[.int .i64 0, .slice none 0 0] 65)) w1.heap.size [] (.slice none 0 0) :=
  ⟨rfl, (Only.refl _ _).alloc _, Blk.new _ _ _, World.ownsRow_nil _ _ _ _⟩
theorem Enc.only {w1 wr w' : World} {gw : Nat} {bs : List UInt8} {v : Value} (h : Enc w1 wr gw bs v) (o : Only none_ wr w') : Enc w1 w' gw bs v :=
  ⟨h.at_, h.ho.trans o, h.wr.only o (fun _ _ h => h)⟩
theorem Enc.far {w1 wr : World} {gw : Nat} {bs : List UInt8} {v : Value} (h : Enc w1 wr gw bs v) {k : Nat} (hf : foot gw v k) : w1.heap.size ≤ k ∧ k < wr.heap.size := by
  have h1 := h.wr.foot_ge (Nat.le_refl _) hf
  have h2 := h.wr.foot_lt hf
  have := h.at_
  omega
theorem Enc.step {w1 wr w' : World} {gw : Nat} {bs bs' : List UInt8} {v v' : Value} (h : Enc w1 wr gw bs v) (o : Only (foot gw v) wr w') (hw : Wr w' gw gw 0 v' bs') : Enc w1 w' gw bs' v' :=
  ⟨h.at_, h.ho.trans' o (fun k hk hf => by have := h.far hf; omega), hw⟩
theorem enc_num {w1 wr : World} {gw : Nat} {bs : List UInt8} {v : Value} (h : Enc w1 wr gw bs v) (n : Nat) (width : Int) (xs : List UInt8) (hn : n < 18446744073709551616) (hl : bs.length ≤ 1000000) (hc : numCode 0 n width = 0 ∧ numBs 0 bs n width = bs ++ xs) :
    Calls Try.prog 20 #[.pointer (some ⟨gw, 0, none⟩), .int .u64 (n : Int), .int .i64 width] wr fun e w' => e = .returned (.pointer (some ⟨gw, 0, none⟩)) ∧ ∃ v', Enc w1 w' gw (bs ++ xs) v' ∧ Only (foot gw v) wr w' ∧ Moved wr v v' := by
  refine (writer_number gw gw 0 width n v bs wr h.wr hn (by omega) (Nat.le_of_lt h.wr.1.lt)).mono ?_
  rintro e' w' ⟨rfl, v', h', o', m'⟩
  rw [hc.1, hc.2] at h'
  exact ⟨rfl, v', h.step o' h', o', m'⟩
theorem enc_one {w1 wr : World} {gw : Nat} {bs : List UInt8} {v : Value} (h : Enc w1 wr gw bs v) (n : Nat) (hn : n < 256) (hl : bs.length ≤ 1000000) :
    Calls Try.prog 20 #[.pointer (some ⟨gw, 0, none⟩), .int .u64 (n : Int), .int .i64 1] wr fun e w' => e = .returned (.pointer (some ⟨gw, 0, none⟩)) ∧ ∃ v', Enc w1 w' gw (bs ++ [UInt8.ofNat n]) v' ∧ Only (foot gw v) wr w' ∧ Moved wr v v' :=
  enc_num h n 1 _ (by omega) hl (put_one n hn bs)
theorem enc_two {w1 wr : World} {gw : Nat} {bs : List UInt8} {v : Value} (h : Enc w1 wr gw bs v) (n : Nat) (hn : n < 65536) (hl : bs.length ≤ 1000000) :
    Calls Try.prog 20 #[.pointer (some ⟨gw, 0, none⟩), .int .u64 (n : Int), .int .i64 2] wr fun e w' => e = .returned (.pointer (some ⟨gw, 0, none⟩)) ∧ ∃ v', Enc w1 w' gw (bs ++ [UInt8.ofNat (n % 256), UInt8.ofNat (n / 256)]) v' ∧ Only (foot gw v) wr w' ∧ Moved wr v v' :=
  enc_num h n 2 _ (by omega) hl (put_two n hn bs)
theorem enc_raw {w1 wr : World} {gw : Nat} {bs xs : List UInt8} {v pv : Value} {S : Nat → Prop} (h : Enc w1 wr gw bs v) (hp : Parts wr S pv [xs]) (hS : ∀ b, S b → ¬ foot gw v b) (hl : bs.length ≤ 1000000) (hx : xs.length ≤ 1000000) :
    Calls Try.prog 21 #[.pointer (some ⟨gw, 0, none⟩), pv] wr fun e w' => e = .returned (.pointer (some ⟨gw, 0, none⟩)) ∧ ∃ v', Enc w1 w' gw (bs ++ xs) v' ∧ Only (foot gw v) wr w' := by
  refine (writer_raw gw gw 0 v pv bs [xs] S wr h.wr hp hS (by simp; omega) (Nat.le_of_lt h.wr.1.lt) (by simp)).mono ?_
  rintro e' w' ⟨rfl, v', h', o', _⟩
  have h2 : Wr w' gw gw 0 v' (bs ++ xs) := by simpa [putS] using h'
  exact ⟨rfl, v', h.step o' h2, o'⟩
theorem enc_bytes {w1 wr : World} {gw : Nat} {bs : List UInt8} {v : Value} (h : Enc w1 wr gw bs v) (hl : bs.length ≤ 1000000) :
    Calls Try.prog 23 #[.pointer (some ⟨gw, 0, none⟩)] wr fun e w' => ∃ A n c, e = .returned (.slice A n c) ∧ w'.ownsRow wr.heap.size 5 1 (.slice A n c) bs.length (byts bs) ∧ Only none_ wr w' :=
  writer_bytes gw gw 0 v bs wr h.wr (by omega)
theorem Parts.only {w w' : World} {S T : Nat → Prop} {pv : Value} {pss : List (List UInt8)} (h : Parts w S pv pss) (ho : Only T w w') (hn : ∀ b, S b → ¬ T b) : Parts w' S pv pss := by
  obtain ⟨b, off, c, rfl, hb, hS, hc⟩ := h
  refine ⟨b, off, c, rfl, Nat.lt_of_lt_of_le hb ho.size, hS, fun j hj => ?_⟩
  obtain ⟨x, hx, hy⟩ := hc j hj
  exact ⟨x, (ho.cell (p := ⟨b, off + j, none⟩) hb (hn _ hS)).trans hx, hy.only ho hn⟩
/-- The slice of one slice is laid behind the numbers: Raw then. -/
theorem enc_raw_behind {w1 wr : World} {gw : Nat} {bs xs : List UInt8} {v x : Value} {t : TypeId} (h : Enc w1 wr gw bs v) (hb : Byt w1 (fun k => k < w1.heap.size) x xs) (hl : bs.length ≤ 1000000) (hx : xs.length ≤ 1000000) :
    Calls Try.prog 21 #[.pointer (some ⟨gw, 0, none⟩), .slice (some ⟨wr.heap.size, 0, none⟩) 1 1] (wr.alloc (.cells #[x] t)) fun e w' => e = .returned (.pointer (some ⟨gw, 0, none⟩)) ∧ ∃ v', Enc w1 w' gw (bs ++ xs) v' := by
  refine (enc_raw (h.only ((Only.refl none_ wr).alloc _)) (parts_one (t := t) (S := fun k => k < w1.heap.size ∨ k = wr.heap.size) ((hb.only h.ho (fun _ _ h => h)).mono (fun _ _ h => .inl h)) (.inr rfl)) ?_ hl hx).mono ?_
  · rintro b (hb | rfl) hf
    · have := h.far hf; omega
    · have := h.far hf; omega
  · rintro e w' ⟨rfl, v', h', _⟩
    exact ⟨rfl, v', h'⟩
/-- It is laid ahead of the last number: what holds between. -/
theorem enc_two_ahead {w1 wr : World} {gw : Nat} {bs xs : List UInt8} {v x : Value} {t : TypeId} (h : Enc w1 wr gw bs v) (hb : Byt w1 (fun k => k < w1.heap.size) x xs) (n : Nat) (hn : n < 65536) (hl : bs.length ≤ 999000) (hx : xs.length ≤ 1000000) :
    Calls Try.prog 20 #[.pointer (some ⟨gw, 0, none⟩), .int .u64 (n : Int), .int .i64 2] (wr.alloc (.cells #[x] t)) fun e w' => e = .returned (.pointer (some ⟨gw, 0, none⟩)) ∧ Only none_ w1 w' ∧
      Calls Try.prog 21 #[.pointer (some ⟨gw, 0, none⟩), .slice (some ⟨wr.heap.size, 0, none⟩) 1 1] w' fun e w' => e = .returned (.pointer (some ⟨gw, 0, none⟩)) ∧ ∃ v', Enc w1 w' gw (bs ++ [UInt8.ofNat (n % 256), UInt8.ofNat (n / 256)] ++ xs) v' := by
  have hP := parts_one (t := t) (S := fun k => k < w1.heap.size ∨ k = wr.heap.size) ((hb.only h.ho (fun _ _ h => h)).mono (fun _ _ h => .inl h)) (.inr rfl)
  refine (enc_two (h.only ((Only.refl none_ wr).alloc (.cells #[x] t))) n hn (by omega)).mono ?_
  rintro e w' ⟨rfl, v', h', o', m'⟩
  refine ⟨rfl, h'.ho, (enc_raw h' (hP.only o' ?_) ?_ (by simp; omega) hx).mono ?_⟩
  · rintro b (hb | rfl) hf
    · have := h.far hf; omega
    · have := h.far hf; omega
  · rintro b (hb | rfl) hf
    · have := h'.far hf; omega
    · rcases hf with hf | hf
      · have := h.far (.inl hf); omega
      · rcases m' _ hf with h1 | h1
        · have := h.far (.inr h1); omega
        · simp at h1
          omega
  · rintro e w2 ⟨rfl, v2, h2, _⟩
    exact ⟨rfl, v2, h2⟩

set_option maxRecDepth 100000 in
set_option maxHeartbeats 1600000 in
theorem encode_ok {tt : TypeId} (g f t k : Nat) (bs : List UInt8) (A : Option Addr) (c : Nat) (S : Nat → Prop) (w : World) (ht : Tab tt w g) (hb : Byt w S (.slice A bs.length c) bs) (hS : ∀ b, S b → b < w.heap.size)
    (hc : frCode ⟨f, t, k, bs⟩ = 0) :
    Calls Try.prog 9 #[.pointer (some ⟨g, 0, none⟩), .agg #[.int .i64 f, .int .i64 t, .int .i64 k, .slice A bs.length c]] w fun e w' =>
      ∃ A n c, e = .returned (.tuple #[.slice A n c, .int .i64 0]) ∧ w'.ownsRow w.heap.size 5 1 (.slice A n c) (frEnc ⟨f, t, k, bs⟩).length (byts (frEnc ⟨f, t, k, bs⟩)) ∧ Tab tt w' g ∧ Only (one g) w w' := by
  obtain ⟨⟨_, a2⟩, ⟨_, b2⟩, ⟨c1, c2⟩, hl⟩ := code_ok hc
  simp only at a2 b2 c1 c2 hl
  have HC := fun w => check_any f t k A bs c w
  rw [hc] at HC
  clear hc
  obtain ⟨L, hL⟩ : ∃ L, L = bs.length := ⟨_, rfl⟩
  rw [← hL] at hb hl HC ⊢
  have HL := Lib.hid hL
  have HB := Lib.hid hb
  have HT := Lib.hid ht
  have hgw : g < w.heap.size := ht.lt
  have HG := Lib.hid hgw
  have O := Lib.hid ((Only.refl none_ w).alloc (.cells #[.int .i64 f, .int .i64 t, .int .i64 k, .slice A L c] 47))
  have B0 := Lib.hid (Blk.new w 47 #[.int .i64 f, .int .i64 t, .int .i64 k, .slice A L c])
  have hpl : Hid (frPlain ⟨f, t, k, bs⟩ = [] ++ [UInt8.ofNat f] ++ [UInt8.ofNat t] ++ [UInt8.ofNat k] ++ [UInt8.ofNat (L % 256), UInt8.ofNat (L / 256)] ++ bs) := by
    rw [Hid, frPlain, frHead]
    simp [← hL]
  have hpn : (frPlain ⟨f, t, k, bs⟩).length ≤ 1000000 := by rw [plain_len]; simp only; omega
  clear hL hb ht hgw
  have ix0 := run_index_three #[.int .i64 f, .int .i64 t, .int .i64 k] 0 (by omega) _ rfl 0 rfl
  have ix1 := run_index_three #[.int .i64 f, .int .i64 t, .int .i64 k] 1 (by omega) _ rfl 1 rfl
  have ix2 := run_index_three #[.int .i64 f, .int .i64 t, .int .i64 k] 2 (by omega) _ rfl 2 rfl
  go_enter Try.func9, Try.ntmps9
  go_wp2_with (first
    | (go_at_call 11; refine (HC _).mono ?_; rintro e w1 ⟨rfl, o1⟩
       have O1 := Lib.hid (O.out.trans o1)
       have hgW : Hid (w.heap.size < w1.heap.size) := Nat.lt_of_lt_of_le (Blk.lt B0.out) o1.size
       obtain ⟨q0, q1, q2, q3⟩ := ((four_of_blk B0.out).only o1 (fun h => h)).only ((Only.refl none_ w1).alloc (.cells #[.int .i64 0, .slice none 0 0] 65)) (fun h => h)
       have E1 := Enc.new w1
       have F1 := Lib.hid ((four_of_blk B0.out).only o1 (fun h => h))
       have HB1 : Hid (Byt w1 (fun k => k < w1.heap.size) (.slice A L c) bs) := ((HB.out.alloc _).only o1 (fun _ _ h => h)).mono (fun k hk _ => by have := hgW.out; have := o1.size; have := hS k ‹_›; omega)
       clear o1)
    | (go_at_call 19; refine (head_any _ _ _ _ _ _ _).mono ?_; rintro e w2 ⟨rfl, o2⟩
       have E2 := E1.only o2
       clear o2 E1))
  refine wp_loop_rounds 4 ?_
  rw [rounds_succ]
  go_wp2_with (first
    | (go_at_call 20; refine (enc_one E2 _ (by omega) (by simp)).mono ?_; rintro e w3 ⟨rfl, v3, E3, _⟩; clear E2))
  rw [rounds_succ]
  go_wp2_with (first
    | (go_at_call 20; refine (enc_one E3 _ (by omega) (by simp)).mono ?_; rintro e w4 ⟨rfl, v4, E4, _⟩; clear E3))
  rw [rounds_succ]
  go_wp2_with (first
    | (go_at_call 20; refine (enc_one E4 _ (by omega) (by simp)).mono ?_; rintro e w5 ⟨rfl, v5, E5, _⟩; clear E4))
  obtain ⟨r0, r1, r2, r3⟩ := F1.out.only E5.ho (fun h => h)
  rw [rounds_succ]
  go_wp2_with fail
  have E5d := E5.only (Only.refl none_ w5).drew
  clear E5
  have hL6 : L < 65536 := by omega
  have hb6 : bs.length ≤ 1000000 := by have := HL.out; omega
  have hu6 : IntKind.u64.wrap (L : Int) = (L : Int) := IntWalk.u64_in _ (by omega)
  go_region_held3 (fun w' => w'.cell? ⟨w.heap.size, 3, none⟩ = some (.slice A L c))
    (first | exact r3 | exact s3 | exact cell_more _ (by assumption))
    (first
      | (go_at_call 20; refine (enc_two E5d _ hL6 (by simp)).mono ?_; rintro e w6 ⟨rfl, v6, E6, _⟩; have s3 := (F1.out.only E6.ho (fun h => h)).2.2.2)
      | (go_at_call 20; refine (enc_two_ahead E5d HB1.out _ hL6 (by simp) hb6).mono ?_; rintro e w6 ⟨rfl, o6, R6⟩; have s3 := (F1.out.only o6 (fun h => h)).2.2.2)
      | (go_at_call 21; refine (enc_raw_behind E6 HB1.out (by simp) hb6).mono ?_; rintro e w7 ⟨rfl, v7, E7⟩; have s3 := (F1.out.only E7.ho (fun h => h)).2.2.2)
      | (go_at_call 21; refine R6.mono ?_; rintro e w7 ⟨rfl, v7, E7⟩; have s3 := (F1.out.only E7.ho (fun h => h)).2.2.2))
  all_goals
    rw [← hpl.out] at E7
    have TB7 : Hid (Tab tt w7 g) := HT.out.only (O1.out.trans E7.ho) (fun h => h)
    have ON7 := Lib.hid (O1.out.trans E7.ho)
    have hg7 : Hid (g < w7.heap.size) := Nat.lt_of_lt_of_le HG.out (O1.out.trans E7.ho).size
    have hs7 : Hid (w.heap.size ≤ w7.heap.size) := (O1.out.trans E7.ho).size
    clear hu6 s3 hpl
    go_wp2_with fail
    go_region_held3 (fun _ => True) (exact trivial)
      (first
        | (go_at_call 23; refine (enc_bytes (E7.only (Only.refl none_ w7).drew) hpn).mono ?_; rintro e w8 ⟨A8, n8, c8, rfl, own8, o8⟩
           have T8 := TB7.out.only ((Only.refl none_ w7).drew.trans o8) (fun h => h)
           have O8 := Lib.hid (ON7.out.trans ((Only.refl none_ w7).drew.trans o8))
           have B8 := Byt.of_own own8
           have F8 : ∀ b, Value.ownBlock (.slice A8 n8 c8) = some b → b ≠ g := fun b hb => by have := (own8.lt b hb).1; have := hg7.out; simp at *; omega
           have hs8 : w.heap.size ≤ w8.heap.size := Nat.le_trans hs7.out o8.size
           clear own8 o8)
        | (go_at_call 22; refine (tab_mark g _ _ _ _ T8 B8 F8 hpn).mono ?_; rintro e w9 ⟨A9, n9, c9, rfl, own9, t9, o9⟩))
    go_wp2_with fail
    go_ret2
    exact ⟨A9, n9, c9, rfl, owns_base own9 hs8, t9, O8.out.of_none.trans o9⟩
end Go.Proofs.Ythbjnpkdbkcpfaa
