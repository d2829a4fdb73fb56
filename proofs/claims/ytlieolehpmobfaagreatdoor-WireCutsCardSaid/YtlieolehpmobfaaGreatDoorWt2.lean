/- Texts of mine, one behind the other: OctC, OctR, OctD, OctE, OctU, EnV, OctT, OctK, OctS, EnM. No statement of the seat is proved here. -/
import Derived.Test.YtlieolehpmobfaaGreatDoorWt1
section
namespace Go.Proofs.YtlieolehpmobfaaGreatDoor
open Go.RowKit
set_option linter.all false
set_option maxHeartbeats 400000 in
theorem bytes_clone (x : Value) (bs : List UInt8) (S : Nat → Prop) (w : World) (h : Byt w S x bs) (hb : bs.length ≤ 140737488355328) :
    Calls Tryz.prog 147 #[x] w fun e w' => ∃ A n c, e = .returned (.slice A n c) ∧ w'.ownsRow w.heap.size 5 1 (.slice A n c) bs.length (byts bs) ∧ Only none_ w w' := by
  obtain ⟨i0, hi0, hz0, hz1, hz2⟩ := info_parts u8_info
  obtain ⟨A, c, rfl, h1, h2, h3, h4⟩ := h
  have H : Hid (Byt w S (.slice A bs.length c) bs) := ⟨A, c, rfl, h1, h2, h3, h4⟩
  rcases A with _ | ad
  · have hn : Hid (bs = []) := List.eq_nil_of_length_eq_zero (by have := h3 rfl; omega)
    have hnil := fun w a n c => Lib.run_eql_slice_nil (P := Tryz.prog) w 35 5 a n c 0 0 Tryz.underlying35
    clear h4
    go_enter Tryz.func147, Tryz.ntmps147
    go_wp2
    go_ret
    rw [hn.out]
    exact ⟨_, _, _, rfl, World.ownsRow_nil _ _ _ _, Only.refl _ _⟩
  · clear h4
    have hnil := fun w a n c => Lib.run_eql_slice_nil (P := Tryz.prog) w 35 5 a n c 0 0 Tryz.underlying35
    go_enter Tryz.func147, Tryz.ntmps147
    go_wp2_with (first
      | (at_builtin; refine wpList_append_byt _ rfl (.tmp 5) (.tmp 6) _ rfl w.heap.size 5 i0 (.int .u8 0) Tryz.underlying35 hi0 hz0 hz1 hz2 rfl (.slice (some ⟨w.heap.size, 0, none⟩) 0 0) [] rfl (World.ownsRow_made w #[] 0 (Nat.le_refl _) (by simp [maxLen]) rfl) S _ bs rfl (H.out.alloc _) (by simpa using hb) (by simp) ?_; intro A2 n2 c2 w2 hown2 hgrow2 hmv2))
    go_ret
    exact ⟨_, _, _, rfl, by simpa using hown2, ((Only.refl none_ w).alloc _).grown hgrow2 (fun k hk => .inr (by simp [Value.ownBlock] at hk; omega))⟩
theorem writer_bytes (g base : Nat) (code : Int) (v : Value) (bs : List UInt8) (w : World) (h : Wr w g base code v bs) (hb : bs.length ≤ 140737488355328) :
    Calls Tryz.prog 62 #[.pointer (some ⟨g, 0, none⟩)] w fun e w' => ∃ A n c, e = .returned (.slice A n c) ∧ w'.ownsRow w.heap.size 5 1 (.slice A n c) bs.length (byts bs) ∧ Only none_ w w' := by
  have hc := h.c1
  have H := Lib.hid h
  clear h
  go_enter Tryz.func62, Tryz.ntmps62
  go_wp2_with (first
      | (go_at_call 147; refine (bytes_clone _ bs _ _ (Byt.of_own H.out.2) hb).mono ?_; rintro e w1 ⟨A, n, c, rfl, h1, o1⟩))
  go_ret
  exact ⟨_, _, _, rfl, h1, o1⟩
end Go.Proofs.YtlieolehpmobfaaGreatDoor
end
section
namespace Go.Proofs.YtlieolehpmobfaaGreatDoor
open Go.RowKit
set_option linter.all false
def Rd (w : World) (g : Nat) (S : Nat → Prop) (code : Int) (bs : List UInt8) : Prop :=
  ∃ A c, Blk w g 225 #[.int .i64 code, .slice A bs.length c] ∧ Byt w S (.slice A bs.length c) bs ∧ ¬ S g
theorem Rd.only {w w' : World} {g : Nat} {S T : Nat → Prop} {code : Int} {bs : List UInt8} (h : Rd w g S code bs) (ho : Only T w w') (hg : ¬ T g) (hn : ∀ b, S b → ¬ T b) : Rd w' g S code bs := by
  obtain ⟨A, c, hb, hy, hs⟩ := h
  exact ⟨A, c, hb.only ho hg, hy.only ho hn, hs⟩
theorem Rd.lt {w : World} {g : Nat} {S : Nat → Prop} {code : Int} {bs : List UInt8} (h : Rd w g S code bs) : g < w.heap.size := by
  obtain ⟨A, c, hb, _⟩ := h
  exact hb.lt
theorem reader_err (g : Nat) (S : Nat → Prop) (code : Int) (bs : List UInt8) (w : World) (h : Rd w g S code bs) :
    Calls Tryz.prog 148 #[.pointer (some ⟨g, 0, none⟩)] w fun e w' => e = .returned (.int .i64 code) ∧ w = w' := by
  obtain ⟨A, c, hb, hy⟩ := h
  exact fault_err _ _ _ _ _ hb rfl
theorem reader_fail (g : Nat) (S : Nat → Prop) (code k : Int) (bs : List UInt8) (w : World) (h : Rd w g S code bs) :
    Calls Tryz.prog 177 #[.pointer (some ⟨g, 0, none⟩), .int .i64 k] w fun e w' => e = .returned (.tuple #[]) ∧ Rd w' g S (first_ code k) bs ∧ Only (one g) w w' := by
  obtain ⟨A, c, hb, hy, hs⟩ := h
  refine (fault_fail _ _ _ _ k _ hb rfl).mono ?_
  rintro e w' ⟨rfl, h1, h2⟩
  exact ⟨rfl, ⟨A, c, by simpa using h1, hy.only h2 (fun b hb e => hs (e ▸ hb)), hs⟩, h2⟩
theorem reader_left (g : Nat) (S : Nat → Prop) (code : Int) (bs : List UInt8) (w : World) (h : Rd w g S code bs) :
    Calls Tryz.prog 176 #[.pointer (some ⟨g, 0, none⟩)] w fun e w' => e = .returned (.int .i64 (bs.length : Int)) ∧ w = w' := by
  obtain ⟨A, c, hb, hy, hs⟩ := h
  have h1 : w.cell? ⟨g, 1, none⟩ = some (.slice A bs.length c) := hb.cell_ rfl
  clear hb hy
  go_enter Tryz.func176, Tryz.ntmps176
  go_wp2
  go_ret
  exact ⟨rfl, rfl⟩
def doneCode (code : Int) (bs : List UInt8) : Int := if 0 < bs.length then first_ code 4 else code
theorem reader_done (g : Nat) (S : Nat → Prop) (code : Int) (bs : List UInt8) (w : World) (h : Rd w g S code bs) :
    Calls Tryz.prog 75 #[.pointer (some ⟨g, 0, none⟩)] w fun e w' => e = .returned (.int .i64 (doneCode code bs)) ∧ Rd w' g S (doneCode code bs) bs ∧ Only (one g) w w' := by
  have H := Lib.hid h
  clear h
  by_cases h0 : 0 < bs.length
  · have HD : Hid (doneCode code bs = first_ code 4) := by simp only [Hid, doneCode, if_pos h0]
    go_enter Tryz.func75, Tryz.ntmps75
    go_wp2_with (first
      | (go_at_call 176; refine (reader_left _ _ _ _ _ H.out).mono ?_; rintro e w' ⟨rfl, rfl⟩)
      | (go_at_call 177; refine (reader_fail _ _ _ _ _ _ H.out).mono ?_; rintro e w1 ⟨rfl, h1, o1⟩; have H1 := Lib.hid h1; clear h1)
      | (go_at_call 148; refine (reader_err _ _ _ _ _ H1.out).mono ?_; rintro e w' ⟨rfl, rfl⟩))
    go_ret
    rw [HD.out]
    exact ⟨rfl, H1.out, o1⟩
  · have HD : Hid (doneCode code bs = code) := by simp only [Hid, doneCode, if_neg h0]
    go_enter Tryz.func75, Tryz.ntmps75
    go_wp2_with (first
      | (go_at_call 176; refine (reader_left _ _ _ _ _ H.out).mono ?_; rintro e w' ⟨rfl, rfl⟩)
      | (go_at_call 148; refine (reader_err _ _ _ _ _ H.out).mono ?_; rintro e w' ⟨rfl, rfl⟩))
    go_ret
    rw [HD.out]
    exact ⟨rfl, H.out, Only.refl _ _⟩
end Go.Proofs.YtlieolehpmobfaaGreatDoor
end
section
namespace Go.Proofs.YtlieolehpmobfaaGreatDoor
open Go.RowKit
set_option linter.all false
theorem take_ok (g : Nat) (S : Nat → Prop) (bs : List UInt8) (n : Nat) (w : World) (h : Rd w g S 0 bs) (hn : n ≤ bs.length) (_hm : bs.length ≤ 9223372036854775807) :
    Calls Tryz.prog 232 #[.pointer (some ⟨g, 0, none⟩), .int .i64 (n : Int)] w fun e w' =>
      ∃ A c, e = .returned (.tuple #[.slice A n c, .bool true]) ∧ Byt w' S (.slice A n c) (bs.take n) ∧ Rd w' g S 0 (bs.drop n) ∧ Only (one g) w w' := by
  obtain ⟨A, c, hb, hy, hs⟩ := h
  have h1 : w.cell? ⟨g, 1, none⟩ = some (.slice A bs.length c) := hb.cell_ rfl
  have h0 := hb.frozen 1
  obtain ⟨i0, hi0, _, hz1, _⟩ := info_parts u8_info
  obtain ⟨A1, r1, b1⟩ := byt_hi Tryz.underlying35 hi0 hy n hn _ rfl
  obtain ⟨A2, L2, c2, r2, b2⟩ := byt_lo Tryz.underlying35 hi0 hz1 hy n hn _ rfl
  have HB := Lib.hid hb
  have HE : ∀ w', w = w' → Rd w' g S 0 bs := by rintro w' rfl; exact ⟨A, c, hb, hy, hs⟩
  have HH := Lib.hid HE
  have B1 := Lib.hid b1
  have B2 := Lib.hid b2
  clear hb hy HE b1 b2 hi0 hz1
  go_enter Tryz.func232, Tryz.ntmps232
  go_wp2_with (first
      | (go_at_call 148; refine (reader_err _ _ _ _ _ (HH.out _ rfl)).mono ?_; rintro e w' ⟨rfl, rfl⟩))
  go_ret2
  have o1 : Only (one g) w (w.setCell ⟨g, 1, none⟩ (.slice A2 L2 c2)) := (Only.refl (one g) w).setCell (.inl (show one g g from rfl)) _
  have hL : L2 = (bs.drop n).length := by
    obtain ⟨_, _, he, _⟩ := B2.out
    injection he
  refine ⟨A1, c, rfl, B1.out.only o1 (fun b hb e => hs (e ▸ hb)), ⟨A2, c2, ?_, ?_, hs⟩, o1⟩
  · rw [← hL]
    exact HB.out.set_ 1 (.slice A2 L2 c2)
  · rw [← hL]
    exact B2.out.only o1 (fun b hb e => hs (e ▸ hb))
def takeCode (code : Int) (bs : List UInt8) (n : Nat) : Int := if bs.length < n then first_ code 6 else code
theorem take_no (g : Nat) (S : Nat → Prop) (code : Int) (bs : List UInt8) (n : Nat) (w : World) (h : Rd w g S code bs) (hn : code ≠ 0 ∨ bs.length < n) (_hm : bs.length ≤ 9223372036854775807) :
    Calls Tryz.prog 232 #[.pointer (some ⟨g, 0, none⟩), .int .i64 (n : Int)] w fun e w' =>
      e = .returned (.tuple #[.slice none 0 0, .bool false]) ∧ Rd w' g S (takeCode code bs n) bs ∧ Only (one g) w w' := by
  have H := Lib.hid h
  obtain ⟨A, c, hb, hy, hs⟩ := h
  have h1 : w.cell? ⟨g, 1, none⟩ = some (.slice A bs.length c) := hb.cell_ rfl
  clear hb hy
  by_cases h0 : bs.length < n
  · have HT : Hid (takeCode code bs n = first_ code 6) := by simp only [Hid, takeCode, if_pos h0]
    have hf : (first_ code 6 != 0) = true := by unfold first_; split <;> simp_all
    clear hn
    go_enter Tryz.func232, Tryz.ntmps232
    go_wp2_with (first
      | (go_at_call 177; refine (reader_fail _ _ _ _ _ _ H.out).mono ?_; rintro e w1 ⟨rfl, h2, o2⟩; have H2 := Lib.hid h2; clear h2)
      | (go_at_call 148; refine (reader_err _ _ _ _ _ H2.out).mono ?_; rintro e w' ⟨rfl, rfl⟩))
    go_ret2
    rw [HT.out]
    exact ⟨rfl, H2.out, o2⟩
  · have HT : Hid (takeCode code bs n = code) := by simp only [Hid, takeCode, if_neg h0]
    have hf : (code != 0) = true := by rcases hn with h | h <;> simp_all
    clear hn
    go_enter Tryz.func232, Tryz.ntmps232
    go_wp2_with (first
      | (go_at_call 148; refine (reader_err _ _ _ _ _ H.out).mono ?_; rintro e w' ⟨rfl, rfl⟩))
    go_ret2
    rw [HT.out]
    exact ⟨rfl, H.out, Only.refl _ _⟩
end Go.Proofs.YtlieolehpmobfaaGreatDoor
end
section
namespace Go.Proofs.YtlieolehpmobfaaGreatDoor
open Go.RowKit
set_option linter.all false
theorem read_any (x : Value) (bs : List UInt8) (S : Nat → Prop) (w : World) (h : Byt w S x bs) (hb : bs.length ≤ 140737488355328) :
    Calls Tryz.prog 74 #[x] w fun e w' => ∃ g S, e = .returned (.pointer (some ⟨g, 0, none⟩)) ∧ w.heap.size ≤ g ∧ Rd w' g S 0 bs ∧ (∀ b, S b → w.heap.size ≤ b ∧ b < w'.heap.size) ∧ Only none_ w w' := by
  have H := Lib.hid h
  clear h
  go_enter Tryz.func74, Tryz.ntmps74
  go_wp2_with (first
      | (go_at_call 147; refine (bytes_clone _ _ _ _ H.out hb).mono ?_; rintro e w2 ⟨A3, n3, c3, rfl, hw3, o3⟩))
  go_ret
  have h5 : Byt w2 (fun b => w.heap.size ≤ b ∧ b < w2.heap.size) (.slice A3 n3 c3) bs := by
    refine (Byt.of_own hw3).mono fun b hb hk => ?_
    have := hw3.lt b hk
    exact ⟨this.1, by omega⟩
  refine ⟨_, (fun b => w.heap.size ≤ b ∧ b < w2.heap.size), rfl, o3.size, ?_, fun b hb => ⟨hb.1, by simp only [World.size_alloc]; omega⟩, o3.alloc _⟩
  have h6 := h5
  obtain ⟨_, _, he, _⟩ := h6
  injection he with e1 e2 e3
  subst e2
  exact ⟨A3, c3, Blk.new _ _ _, h5.alloc _, fun h => absurd h.2 (Nat.lt_irrefl _)⟩
end Go.Proofs.YtlieolehpmobfaaGreatDoor
end
section
namespace Go.Proofs.YtlieolehpmobfaaGreatDoor
open Go.RowKit
set_option linter.all false
def leVal : List UInt8 → Nat
  | [] => 0
  | b :: r => b.toNat + 256 * leVal r
theorem leVal_lt : ∀ bs : List UInt8, leVal bs < 256 ^ bs.length
  | [] => by simp [leVal]
  | b :: r => by
    have h1 := leVal_lt r
    have h2 := b.toNat_lt
    simp only [leVal, List.length_cons, Nat.pow_succ]
    omega
theorem leVal_snoc : ∀ (bs : List UInt8) (b : UInt8), leVal (bs ++ [b]) = leVal bs + 256 ^ bs.length * b.toNat
  | [], b => by simp [leVal]
  | x :: r, b => by
    simp only [List.cons_append, leVal, leVal_snoc r b, List.length_cons, Nat.pow_succ]
    rw [Nat.mul_add, Nat.mul_comm (256 ^ r.length) 256, Nat.mul_assoc]
    omega
def numR (code : Int) (bs : List UInt8) (width : Int) : Int × List UInt8 × Nat :=
  if isW width = true then (if code = 0 ∧ width.toNat ≤ bs.length then (0, bs.drop width.toNat, leVal (bs.take width.toNat)) else (takeCode code bs width.toNat, bs, 0)) else (first_ code 1, bs, 0)
theorem or_step (v z k : Nat) (hk : k < 8) (hv : v < 256 ^ k) (hz : z < 256) :
    bits .or .u64 (v : Int) (IntKind.u64.wrap ((z : Int) * 2 ^ (8 * k))) = ((v + 256 ^ k * z : Nat) : Int) := by
  have e1 : (256 : Nat) ^ k = 2 ^ (8 * k) := by rw [Nat.pow_mul]
  rw [e1] at hv ⊢
  have h1 : 2 ^ (8 * k) * 256 ≤ 18446744073709551616 := by
    have : 2 ^ (8 * k) ≤ 2 ^ 56 := Nat.pow_le_pow_right (by omega) (by omega)
    omega
  have h2 : z * 2 ^ (8 * k) < 18446744073709551616 := by
    have : z * 2 ^ (8 * k) < 256 * 2 ^ (8 * k) := Nat.mul_lt_mul_of_pos_right hz (Nat.two_pow_pos _)
    rw [Nat.mul_comm 256] at this
    omega
  have e2 : ((z : Int) * 2 ^ (8 * k)) = ((z * 2 ^ (8 * k) : Nat) : Int) := by push_cast; rfl
  have e3 : IntKind.u64.wrap ((z * 2 ^ (8 * k) : Nat) : Int) = ((z * 2 ^ (8 * k) : Nat) : Int) := IntWalk.u64_in _ (by omega)
  rw [e2, e3, u64_or_nat _ _ (by omega) h2, Nat.or_comm, nat_join (8 * k) (z * 2 ^ (8 * k)) v (by simp) hv, Nat.mul_comm z, Nat.add_comm]
theorem le_take (xs : List UInt8) (k : Nat) (hk : k < xs.length) : leVal (xs.take (k + 1)) = leVal (xs.take k) + 256 ^ k * xs[k].toNat := by
  rw [List.take_succ_eq_append_getElem hk, leVal_snoc]
  congr 2
  rw [List.length_take, Nat.min_eq_left (by omega)]
theorem le_take_lt (xs : List UInt8) (k : Nat) (hk : k ≤ xs.length) : leVal (xs.take k) < 256 ^ k := by
  have := leVal_lt (xs.take k)
  rwa [List.length_take, Nat.min_eq_left hk] at this
set_option maxHeartbeats 400000 in
theorem reader_number (g : Nat) (S : Nat → Prop) (code : Int) (bs : List UInt8) (width : Int) (w : World) (h : Rd w g S code bs) (hm : bs.length ≤ 140737488355328) :
    Calls Tryz.prog 120 #[.pointer (some ⟨g, 0, none⟩), .int .i64 width] w fun e w' =>
      e = .returned (.int .u64 ((numR code bs width).2.2 : Int)) ∧ Rd w' g S (numR code bs width).1 (numR code bs width).2.1 ∧ Only (one g) w w' := by
  have H := Lib.hid h
  clear h
  by_cases hw : isW width = true
  · have hr : 1 ≤ width ∧ width ≤ 8 := by simpa [isW] using hw
    obtain ⟨m, rfl⟩ : ∃ m : Nat, width = m := ⟨width.toNat, by omega⟩
    obtain ⟨hm1, hm2⟩ : 1 ≤ m ∧ m ≤ 8 := by omega
    clear hr
    have HW := Lib.hid hw
    by_cases h1 : code = 0 ∧ m ≤ bs.length
    · obtain ⟨rfl, h1⟩ := h1
      have HR : Hid (numR 0 bs (m : Int) = (0, bs.drop m, leVal (bs.take m))) := by simp only [Hid, numR, hw, Int.toNat_natCast, h1, true_and, if_true]
      clear hw
      obtain ⟨xs, hxs⟩ : ∃ xs, xs = bs.take m := ⟨_, rfl⟩
      have hxl : Hid (xs.length = m) := by rw [hxs]; simp only [Hid, List.length_take]; omega
      rw [← hxs] at HR
      have HT := take_ok g S bs m w H.out h1 (by omega)
      rw [← hxs] at HT
      clear hxs
      go_enter Tryz.func120, Tryz.ntmps120
      go_wp2_with (first
        | (go_at_call 229; refine (isWidth_any _ _).mono ?_; rintro e w' ⟨rfl, rfl⟩; rw [HW.out])
        | (go_at_call 232; refine HT.mono ?_; rintro e w1 ⟨A, c, rfl, hb2, h2, o2⟩; have H2 := Lib.hid h2; clear h2))
      obtain ⟨A', c', he, _, _, _, hcs⟩ := hb2
      injection he with e1 e2 e3
      subst e1 e3
      obtain ⟨b, off, rfl, _, _, hc⟩ := hcs (by rw [hxl.out]; omega)
      have HC := Lib.hid hc
      clear hcs hc e2
      go_loop [7, 25] (fun v i => ∃ k : Nat, k ≤ m ∧ i = .int .i64 k ∧ v = .int .u64 (leVal (xs.take k))) (fun _ i => m - (intOf i).toNat)
      case atStart => exact ⟨0, by omega, rfl, by simp [leVal]⟩
      case round =>
        obtain ⟨k, hk, rfl, rfl⟩ := hrel
        by_cases hlt : k < m
        · have hz : w1.cell? ⟨b, off + k, none⟩ = some (.int .u8 ((xs[k]'(by rw [hxl.out]; exact hlt)).toNat : Int)) := HC.out k _
          obtain ⟨z, hzz⟩ : ∃ z, z = xs[k]'(by rw [hxl.out]; exact hlt) := ⟨_, rfl⟩
          rw [← hzz] at hz
          have hz8 := z.toNat_lt
          have HS : Hid (bits .or .u64 (leVal (xs.take k) : Int) (IntKind.u64.wrap ((z.toNat : Int) * 2 ^ (8 * k))) = (leVal (xs.take (k + 1)) : Int)) := by
            have h5 := le_take xs k (by rw [hxl.out]; exact hlt)
            rw [← hzz] at h5
            rw [Hid, h5]
            exact or_step _ _ k (by omega) (le_take_lt xs k (by rw [hxl.out]; exact hk)) hz8
          clear hzz
          go_wp2
          go_round
          case rel => exact ⟨k + 1, by omega, by go_num, by rw [HS.out]⟩
          case measure => simp [intOf]; omega
        · have HK : Hid (xs.take k = xs) := List.take_of_length_le (by rw [hxl.out]; omega)
          go_wp2
          go_ret
          rw [HR.out, HK.out]
          exact ⟨rfl, H2.out, o2⟩
    · have HR : Hid (numR code bs (m : Int) = (takeCode code bs m, bs, 0)) := by simp only [Hid, numR, hw, Int.toNat_natCast, h1, if_true, if_false]
      have h2 : code ≠ 0 ∨ bs.length < m := by
        by_cases hc : code = 0
        · exact .inr (by have : ¬ m ≤ bs.length := fun h => h1 ⟨hc, h⟩; omega)
        · exact .inl hc
      clear h1 hw
      have HC := Lib.hid h2
      clear h2
      go_enter Tryz.func120, Tryz.ntmps120
      go_wp2_with (first
        | (go_at_call 229; refine (isWidth_any _ _).mono ?_; rintro e w' ⟨rfl, rfl⟩; rw [HW.out])
        | (go_at_call 232; refine (take_no _ _ _ _ _ _ H.out HC.out (by omega)).mono ?_; rintro e w1 ⟨rfl, h2, o2⟩; have H2 := Lib.hid h2; clear h2))
      refine wp_loop_rounds 1 ?_
      rw [rounds_succ]
      go_wp2
      go_ret
      rw [HR.out]
      exact ⟨rfl, H2.out, o2⟩
  · have hw' : isW width = false := by simpa using hw
    have HR : Hid (numR code bs width = (first_ code 1, bs, 0)) := by simp [Hid, numR, hw']
    have HW := Lib.hid hw'
    clear hw hw'
    go_enter Tryz.func120, Tryz.ntmps120
    go_wp2_with (first
      | (go_at_call 229; refine (isWidth_any _ _).mono ?_; rintro e w' ⟨rfl, rfl⟩; rw [HW.out])
      | (go_at_call 177; refine (reader_fail _ _ _ _ _ _ H.out).mono ?_; rintro e w1 ⟨rfl, h2, o2⟩; have H2 := Lib.hid h2; clear h2))
    go_ret
    rw [HR.out]
    exact ⟨rfl, H2.out, o2⟩
end Go.Proofs.YtlieolehpmobfaaGreatDoor
end
section
namespace Go.Proofs.YtlieolehpmobfaaGreatDoor
open Go.RowKit
set_option maxRecDepth 100000
set_option linter.all false
theorem numR_lt (code : Int) (bs : List UInt8) (m : Nat) : (numR code bs (m : Int)).2.2 < 256 ^ m := by
  have h0 : 0 < 256 ^ m := Nat.pow_pos (by omega)
  unfold numR
  split
  · split
    · rename_i h
      rw [Int.toNat_natCast] at h ⊢
      exact le_take_lt bs m h.2
    · exact h0
  · exact h0
theorem numR_len (code : Int) (bs : List UInt8) (width : Int) : (numR code bs width).2.1.length ≤ bs.length := by
  unfold numR
  split
  · split
    · simp only [List.length_drop]; omega
    · exact Nat.le_refl _
  · exact Nat.le_refl _
structure Tk (B : World) (g : Nat) (S : Nat → Prop) (h : Nat) (t : TypeId) (cs : Array Value) (code : Int) (bs : List UInt8) (w : World) : Prop where
  rd : Rd w g S code bs
  bx : Blk w h t cs
  ho : Only (one g) B w
  gl : g < B.heap.size
  fr : ∀ b, S b → b < B.heap.size
  ge : B.heap.size ≤ h
section
variable {B w w' : World} {g h : Nat} {S : Nat → Prop} {t : TypeId} {cs : Array Value} {code code' : Int} {bs bs' : List UInt8}
theorem Tk.new (hr : Rd B g S code bs) (fr : ∀ b, S b → b < B.heap.size) : Tk B g S B.heap.size t cs code bs (B.alloc (.cells cs t)) :=
  ⟨hr.only ((Only.refl none_ _).alloc _) (fun h => h) (fun _ _ h => h), Blk.new _ _ _, (Only.refl _ _).alloc _, hr.lt, fr, Nat.le_refl _⟩
theorem Tk.step (s : Tk B g S h t cs code bs w) (hr : Rd w' g S code' bs') (o : Only (one g) w w') : Tk B g S h t cs code' bs' w' :=
  ⟨hr, s.bx.only o (fun e => by have e' : h = g := e; have := s.gl; have := s.ge; omega), s.ho.trans o, s.gl, s.fr, s.ge⟩
theorem Tk.keep (s : Tk B g S h t cs code bs w) (o : Only none_ w w') : Tk B g S h t cs code bs w' :=
  s.step (s.rd.only o (fun h => h) (fun _ _ h => h)) o.of_none
theorem Tk.set (s : Tk B g S h t cs code bs w) (i : Nat) (u : Value) : Tk B g S h t (cs.setIfInBounds i u) code bs (w.setCell ⟨h, i, none⟩ u) :=
  ⟨s.rd.only ((Only.refl (one h) w).setCell (p := ⟨h, i, none⟩) (.inl rfl) u) (fun e => by have e' : g = h := e; have := s.gl; have := s.ge; omega)
      (fun b hb e => by have e' : b = h := e; have := s.fr b hb; have := s.ge; omega),
    s.bx.set_ i u, s.ho.setCell (p := ⟨h, i, none⟩) (.inr s.ge) u, s.gl, s.fr, s.ge⟩
end
def stampR (code : Int) (bs : List UInt8) : Int × List UInt8 × St :=
  ((numR (numR code bs 4).1 (numR code bs 4).2.1 1).1, (numR (numR code bs 4).1 (numR code bs 4).2.1 1).2.1, ⟨(numR code bs 4).2.2, (numR (numR code bs 4).1 (numR code bs 4).2.1 1).2.2⟩)
set_option maxHeartbeats 800000 in
theorem take_stamp (g : Nat) (S : Nat → Prop) (code : Int) (bs : List UInt8) (w : World) (hr : Rd w g S code bs) (fr : ∀ b, S b → b < w.heap.size) (hm : bs.length ≤ 140737488355328) :
    Calls Tryz.prog 279 #[.pointer (some ⟨g, 0, none⟩)] w fun e w' =>
      e = .returned (.agg #[.int .i64 (stampR code bs).2.2.c, .int .i64 (stampR code bs).2.2.s]) ∧ Rd w' g S (stampR code bs).1 (stampR code bs).2.1 ∧ Only (one g) w w' := by
  have hg := hr.lt
  have HG := Lib.hid hg
  clear hg
  have R0 := Lib.hid (Blk.new w 39 #[.int .i64 0, .int .i64 0])
  have O0 := Lib.hid ((Only.refl (one g) w).alloc (.cells #[.int .i64 0, .int .i64 0] 39))
  have T0 := Tk.new (t := 39) (cs := #[.int .i64 0, .int .i64 0]) (hr.only ((Only.refl none_ _).alloc (.cells #[.int .i64 0, .int .i64 0] 39)) (fun h => h) (fun _ _ h => h)) (fun b hb => by rw [World.size_alloc]; have := fr b hb; omega)
  rw [World.size_alloc] at T0
  have T := Lib.hid T0
  clear T0
  obtain ⟨a, ha⟩ : ∃ a, numR code bs 4 = a := ⟨_, rfl⟩
  obtain ⟨b, hb⟩ : ∃ b, numR a.1 a.2.1 1 = b := ⟨_, rfl⟩
  have la : a.2.2 < 256 ^ 4 := ha ▸ numR_lt code bs 4
  have lb : b.2.2 < 256 ^ 1 := hb ▸ numR_lt a.1 a.2.1 1
  have l2 : a.2.1.length ≤ bs.length := ha ▸ numR_len code bs 4
  have HS : Hid (stampR code bs = (b.1, b.2.1, ⟨(a.2.2 : Nat), (b.2.2 : Nat)⟩)) := by rw [Hid, stampR, ha, hb]
  have A1 : IntKind.i64.wrap (a.2.2 : Int) = (a.2.2 : Int) := IntWalk.i64_in _ (by omega)
  have B1 : IntKind.i64.wrap (b.2.2 : Int) = (b.2.2 : Int) := IntWalk.i64_in _ (by omega)
  have HB := Lib.hid hb
  have HM : Hid (a.2.1.length ≤ 140737488355328) := Nat.le_trans l2 hm
  have C1 := reader_number g S code bs 4 _ T.out.rd hm
  rw [ha] at C1
  have FR := Lib.hid fr
  clear ha hb la lb l2 hr fr hm
  have tok1 : True := trivial
  go_enter Tryz.func279, Tryz.ntmps279
  go_wp2_with (first
    | (go_at_call 120; have _t := tok1; clear tok1; refine C1.mono ?_; clear C1; rintro e w1 ⟨rfl, h1, o1⟩
       have T1 := Lib.hid (T.out.step h1 o1)
       have z1 := T1.out.bx.frozen 0
       have v1 := T1.out.bx.cell_ (i := 0) rfl
       have T2 := Lib.hid (T1.out.set 0 (.int .i64 a.2.2))
       clear h1 o1
       have tok2 : True := trivial)
    | (go_at_call 120; have _t := tok2; clear tok2; refine (reader_number g S _ _ 1 _ T2.out.rd HM.out).mono ?_; rw [HB.out]; rintro e w2 ⟨rfl, h2, o2⟩
       have T3 := Lib.hid (T2.out.step h2 o2)
       have z2 := T3.out.bx.frozen 1
       have v2 := T3.out.bx.cell_ (i := 1) rfl
       have T4 := Lib.hid (T3.out.set 1 (.int .i64 b.2.2))
       have c0 := T4.out.bx.cell_ (i := 0) rfl
       have c1 := T4.out.bx.cell_ (i := 1) rfl
       have R4 := Lib.hid (R0.out.only T4.out.ho (fun e => by have e' : w.heap.size = g := e; have := HG.out; omega))
       have y0 := R4.out.frozen 0
       have y1 := (R4.out.set_ 0 (.int .i64 a.2.2)).frozen 1
       have x0 := R4.out.cell_ (i := 0) rfl
       have x1 := (R4.out.set_ 0 (.int .i64 a.2.2)).cell_ (i := 1) rfl
       clear h2 o2))
  have hF : Blk (((w2.setCell ⟨w.heap.size + 1, 1, none⟩ (.int .i64 b.2.2)).setCell ⟨w.heap.size, 0, none⟩ (.int .i64 a.2.2)).setCell ⟨w.heap.size, 1, none⟩ (.int .i64 b.2.2)) w.heap.size 39 #[.int .i64 a.2.2, .int .i64 b.2.2] := by
    have := (R4.out.set_ 0 (.int .i64 a.2.2)).set_ 1 (.int .i64 b.2.2)
    simpa using this
  have oF := ((Only.refl (one w.heap.size) (w2.setCell ⟨w.heap.size + 1, 1, none⟩ (.int .i64 b.2.2))).setCell (p := ⟨w.heap.size, 0, none⟩) (.inl rfl) (.int .i64 a.2.2)).setCell (p := ⟨w.heap.size, 1, none⟩) (.inl rfl) (.int .i64 b.2.2)
  exact bodyPost_ret (results_cell_row rfl _ _ w.heap.size 39 _ (0, 0) _ rfl hF Tryz.underlying39 rfl (by kernel_rfl)) rfl
    (by rw [HS.out]; exact ⟨rfl, T4.out.rd.only oF (fun e => by have e' : g = w.heap.size := e; have := HG.out; omega) (fun b hb e => by have e' : b = w.heap.size := e; have := FR.out b hb; omega),
      ((O0.out.trans T4.out.ho).setCell (p := ⟨w.heap.size, 0, none⟩) (.inr (Nat.le_refl _)) _).setCell (p := ⟨w.heap.size, 1, none⟩) (.inr (Nat.le_refl _)) _⟩)
end Go.Proofs.YtlieolehpmobfaaGreatDoor
end
section
namespace Go.Proofs.YtlieolehpmobfaaGreatDoor
open Go.RowKit
set_option linter.all false
def bitN (b : Bool) : Nat := if b then 1 else 0
theorem num_bit (code : Int) (b : Bool) : numCode code (bitN b) 1 = code := by cases b <;> simp [numCode, isW, bitN]
theorem bs_bit (code : Int) (bs : List UInt8) (b : Bool) : numBs code bs (bitN b) 1 = putS code bs [UInt8.ofNat (bitN b)] := by
  cases b <;> simp [numBs, isW, bitN, leBytes, leByte, List.range, List.range.loop]
theorem writer_flag (g base : Nat) (code : Int) (b : Bool) (v : Value) (bs : List UInt8) (w : World) (h : Wr w g base code v bs) 
    (hb : bs.length + 8 ≤ 140737488355328) (hbase : base ≤ w.heap.size) :
    Calls Tryz.prog 122 #[.pointer (some ⟨g, 0, none⟩), .bool b] w fun e w' => e = .returned (.pointer (some ⟨g, 0, none⟩)) ∧
      ∃ v', Wr w' g base code v' (putS code bs [UInt8.ofNat (bitN b)]) ∧ Only (foot g v) w w' ∧ Moved w v v' := by
  have HN := writer_number g base code 1 (bitN b) v bs w h (by cases b <;> simp [bitN]) hb hbase
  rw [num_bit, bs_bit] at HN
  clear h
  cases b
  all_goals
    go_enter Tryz.func122, Tryz.ntmps122
    go_wp2_with (first | (go_at_call 118; refine HN.mono ?_; rintro e w3 ⟨rfl, v3, h3, o3, m3⟩))
    go_ret
    exact ⟨rfl, v3, h3, o3, m3⟩
def textCode (code : Int) (s : List UInt8) : Int := if 255 < s.length then first_ code 2 else code
def textBs (code : Int) (bs s : List UInt8) : List UInt8 := if 255 < s.length then bs else putS code bs (UInt8.ofNat s.length :: s)
theorem byt_of_string (w : World) (s : ByteArray) (cap : Nat) (hs : s.size ≤ cap) (hm : cap ≤ maxLen) (t : TypeId) (fr : Nat × Nat) :
    Byt (w.alloc (.cells (bytesRow s cap) t fr)) (fun b => b = w.heap.size) (.slice (some ⟨w.heap.size, 0, none⟩) s.size cap) s.data.toList := by
  have hl : s.data.toList.length = s.size := Array.length_toList
  refine ⟨_, cap, by rw [hl], by omega, hm, by simp, fun _ => ⟨_, 0, rfl, rfl, by simp, fun j hj => ?_⟩⟩
  have hj' : j < s.data.size := by simpa using hj
  have := World.cell?_alloc_mark w (bytesRow s cap) t fr j
  rw [bytesRow_at s cap j hj'] at this
  simpa [byt] using this
theorem byt_one (w : World) (n : Nat) (hn : n ≤ 255) (t : TypeId) : Byt (w.alloc (.cells #[.int .u8 (n : Int)] t)) (fun b => b = w.heap.size) (.slice (some ⟨w.heap.size, 0, none⟩) 1 1) [UInt8.ofNat n] := by
  refine ⟨_, 1, rfl, by simp, by simp [maxLen], by simp, fun _ => ⟨_, 0, rfl, rfl, by simp, fun j hj => ?_⟩⟩
  have hj0 : j = 0 := by simp at hj; omega
  subst hj0
  have : (UInt8.ofNat n).toNat = n := by simp; omega
  simp [byt, this]
theorem text_parts (w : World) (s : ByteArray) (hs : s.size ≤ 255) (tb tp : TypeId) (cap : Nat) (hc : s.size ≤ cap) (hm : cap ≤ maxLen) (fr : Nat × Nat) :
    Parts (((w.alloc (.cells #[.int .u8 (s.size : Int)] tb)).alloc (.cells (bytesRow s cap) tb fr)).alloc (.cells #[.slice (some ⟨w.heap.size, 0, none⟩) 1 1, .slice (some ⟨w.heap.size + 1, 0, none⟩) s.size cap] tp)) (fun k => w.heap.size ≤ k)
      (.slice (some ⟨w.heap.size + 1 + 1, 0, none⟩) 2 2) [[UInt8.ofNat s.size], s.data.toList] := by
  have h1 := ((byt_one w s.size hs tb).alloc (.cells (bytesRow s cap) tb fr)).mono (T := fun k => w.heap.size ≤ k) (fun b _ hb => by simp only [hb]; omega)
  have h2 := (byt_of_string (w.alloc (.cells #[.int .u8 (s.size : Int)] tb)) s cap hc hm tb fr).mono (T := fun k => w.heap.size ≤ k) (fun b _ hb => by simp only [hb, World.size_alloc]; omega)
  simp only [World.size_alloc] at h2
  have := parts_two (t := tp) h1 h2 (by simp only [World.size_alloc]; omega)
  simpa only [World.size_alloc] using this
set_option maxHeartbeats 400000 in
theorem writer_text (g base : Nat) (code : Int) (s : ByteArray) (v : Value) (bs : List UInt8) (w : World) (h : Wr w g base code v bs) 
    (hb : bs.length + 300 ≤ 140737488355328) (hbase : base ≤ w.heap.size) (hs : s.size ≤ 9223372036854775807) :
    Calls Tryz.prog 234 #[.pointer (some ⟨g, 0, none⟩), .string s] w fun e w' => e = .returned (.pointer (some ⟨g, 0, none⟩)) ∧
      ∃ v', Wr w' g base (textCode code s.data.toList) v' (textBs code bs s.data.toList) ∧ Only (foot g v) w w' ∧ Moved w v v' := by
  have hl : s.data.toList.length = s.size := Array.length_toList
  by_cases h0 : 255 < s.size
  · have hcode : Hid (textCode code s.data.toList = first_ code 2) := by rw [Hid, textCode, hl, if_pos h0]
    have hbs : Hid (textBs code bs s.data.toList = bs) := by rw [Hid, textBs, hl, if_pos h0]
    have H := Lib.hid h
    clear h hl
    go_enter Tryz.func234, Tryz.ntmps234
    go_wp2_with (first
        | (go_at_call 177; refine (fault_fail _ _ _ _ _ _ H.out.1 rfl).mono ?_; rintro e w1 ⟨rfl, hb1, ho1⟩))
    go_ret
    rw [hcode.out, hbs.out]
    exact ⟨rfl, v, H.out.fail hb1 ho1, one_foot ho1, Moved.refl _ _⟩
  · have hcode : Hid (textCode code s.data.toList = code) := by rw [Hid, textCode, hl, if_neg h0]
    have hbs : Hid (textBs code bs s.data.toList = putS code bs (UInt8.ofNat s.data.toList.length :: s.data.toList)) := by rw [Hid, textBs, hl, if_neg h0]
    have H := Lib.hid h
    have HL := Lib.hid hl
    clear h hl
    have hcv := fun w => run_bytes_of_string (P := Tryz.prog) w 9 35 5 s Tryz.underlying9 Tryz.underlying35 Tryz.underlying5
    go_enter Tryz.func234, Tryz.ntmps234
    go_wp2_with fail
    have hW1 := (((Only.refl none_ w).alloc (.cells #[.int .u8 (s.size : Int)] 5)).alloc (.cells (bytesRow s (grownCap (w.alloc (.cells #[.int .u8 (s.size : Int)] 5)) s.size 0 5)) 5
      ((bytesRow s (grownCap (w.alloc (.cells #[.int .u8 (s.size : Int)] 5)) s.size 0 5)).size, (bytesRow s (grownCap (w.alloc (.cells #[.int .u8 (s.size : Int)] 5)) s.size 0 5)).size + 1))).alloc
      (.cells #[.slice (some ⟨w.heap.size, 0, none⟩) 1 1, .slice (some ⟨w.heap.size + 1, 0, none⟩) s.size (grownCap (w.alloc (.cells #[.int .u8 (s.size : Int)] 5)) s.size 0 5)] 35)
    have hpp := text_parts w s (by omega) 5 35 (grownCap (w.alloc (.cells #[.int .u8 (s.size : Int)] 5)) s.size 0 5) (grownCap_ge _ _ _ _) (grownCap_le_maxLen _ _ _ _ (by simp only [maxLen]; omega))
      ((bytesRow s (grownCap (w.alloc (.cells #[.int .u8 (s.size : Int)] 5)) s.size 0 5)).size, (bytesRow s (grownCap (w.alloc (.cells #[.int .u8 (s.size : Int)] 5)) s.size 0 5)).size + 1)
    generalize (((w.alloc (.cells #[.int .u8 (s.size : Int)] 5)).alloc (.cells (bytesRow s (grownCap (w.alloc (.cells #[.int .u8 (s.size : Int)] 5)) s.size 0 5)) 5
      ((bytesRow s (grownCap (w.alloc (.cells #[.int .u8 (s.size : Int)] 5)) s.size 0 5)).size, (bytesRow s (grownCap (w.alloc (.cells #[.int .u8 (s.size : Int)] 5)) s.size 0 5)).size + 1))).alloc
      (.cells #[.slice (some ⟨w.heap.size, 0, none⟩) 1 1, .slice (some ⟨w.heap.size + 1, 0, none⟩) s.size (grownCap (w.alloc (.cells #[.int .u8 (s.size : Int)] 5)) s.size 0 5)] 35)) = w2 at *
    refine (writer_raw g base code v _ bs [[UInt8.ofNat s.size], s.data.toList] (fun k => w.heap.size ≤ k) w2.drew (H.out.only (S := none_) hW1.drew (fun _ _ h => h)) hpp (fun b hb1 hb2 => by have := H.out.foot_lt hb2; omega)
      (by have := HL.out; simp only [List.flatten_cons, List.flatten_nil, List.length_append, List.length_cons, List.length_nil]; omega) (by have := hW1.size; simp; omega) (by simp)).mono ?_
    rintro e w3 ⟨rfl, v3, h3, o3, m3⟩
    go_wp2
    go_ret
    rw [hcode.out, hbs.out, HL.out]
    exact ⟨rfl, v3, by simpa using h3, hW1.drew.of_none.trans o3, (Moved.refl w v).trans m3 hW1.size⟩
end Go.Proofs.YtlieolehpmobfaaGreatDoor
end
section
namespace Go.Proofs.YtlieolehpmobfaaGreatDoor
open Go.RowKit
set_option linter.all false
theorem peek_ok (g : Nat) (S : Nat → Prop) (b : UInt8) (bs : List UInt8) (w : World) (h : Rd w g S 0 (b :: bs)) (hm : bs.length < 9223372036854775807) :
    Calls Tryz.prog 233 #[.pointer (some ⟨g, 0, none⟩)] w fun e w' =>
      e = .returned (.tuple #[.int .u8 (b.toNat : Int), .bool true]) ∧ w = w' := by
  have H := Lib.hid h
  obtain ⟨A, c, hb, hy, hs⟩ := h
  have h1 : w.cell? ⟨g, 1, none⟩ = some (.slice A (b :: bs).length c) := hb.cell_ rfl
  obtain ⟨A', c', he, _, _, _, h5⟩ := hy
  injection he with e1 e2 e3
  subst e1 e3
  obtain ⟨k, off, rfl, _, _, hc⟩ := h5 (by simp)
  have h2 := hc 0 (by simp)
  simp only [byt, List.getElem_cons_zero, Nat.add_zero] at h2
  simp only [List.length_cons] at h1
  clear hb h5 hc
  go_enter Tryz.func233, Tryz.ntmps233
  go_wp2_with (first
      | (go_at_call 148; refine (reader_err _ _ _ _ _ H.out).mono ?_; rintro e w' ⟨rfl, rfl⟩))
  go_ret2
  exact ⟨rfl, rfl⟩
def peekCode (code : Int) (bs : List UInt8) : Int := if bs.length = 0 then first_ code 6 else code
theorem peek_no (g : Nat) (S : Nat → Prop) (code : Int) (bs : List UInt8) (w : World) (h : Rd w g S code bs) (hn : code ≠ 0 ∨ bs.length = 0) (_hm : bs.length ≤ 9223372036854775807) :
    Calls Tryz.prog 233 #[.pointer (some ⟨g, 0, none⟩)] w fun e w' =>
      e = .returned (.tuple #[.int .u8 0, .bool false]) ∧ Rd w' g S (peekCode code bs) bs ∧ Only (one g) w w' := by
  have H := Lib.hid h
  obtain ⟨A, c, hb, hy, hs⟩ := h
  have h1 : w.cell? ⟨g, 1, none⟩ = some (.slice A bs.length c) := hb.cell_ rfl
  clear hb hy
  by_cases h0 : bs.length = 0
  · have HT : Hid (peekCode code bs = first_ code 6) := by simp only [Hid, peekCode, if_pos h0]
    have hf : (first_ code 6 != 0) = true := by unfold first_; split <;> simp_all
    have ht : ((bs.length : Int) == 0) = true := by simp [h0]
    clear hn h0
    go_enter Tryz.func233, Tryz.ntmps233
    go_wp2_with (first
      | (go_at_call 177; refine (reader_fail _ _ _ _ _ _ H.out).mono ?_; rintro e w1 ⟨rfl, h2, o2⟩; have H2 := Lib.hid h2; clear h2)
      | (go_at_call 148; refine (reader_err _ _ _ _ _ H2.out).mono ?_; rintro e w' ⟨rfl, rfl⟩))
    go_ret2
    rw [HT.out]
    exact ⟨rfl, H2.out, o2⟩
  · have HT : Hid (peekCode code bs = code) := by simp only [Hid, peekCode, if_neg h0]
    have hf : (code != 0) = true := by rcases hn with h | h <;> simp_all
    have ht : ((bs.length : Int) == 0) = false := by simp only [beq_eq_false_iff_ne, ne_eq]; omega
    clear hn h0
    go_enter Tryz.func233, Tryz.ntmps233
    go_wp2_with (first
      | (go_at_call 148; refine (reader_err _ _ _ _ _ H.out).mono ?_; rintro e w' ⟨rfl, rfl⟩))
    go_ret2
    rw [HT.out]
    exact ⟨rfl, H.out, Only.refl _ _⟩
end Go.Proofs.YtlieolehpmobfaaGreatDoor
end
section
namespace Go.Proofs.YtlieolehpmobfaaGreatDoor
open Go.RowKit
set_option linter.all false
def flagR (code : Int) (bs : List UInt8) : Int × List UInt8 × Bool :=
  match bs with
  | [] => (first_ code 6, [], false)
  | b :: r => if code ≠ 0 then (code, b :: r, false) else if 1 < b.toNat then (4, b :: r, false) else (0, r, decide (b.toNat = 1))
theorem peekCode_cons (code : Int) (b : UInt8) (r : List UInt8) : peekCode code (b :: r) = code := by simp [peekCode]
theorem peekCode_nil (code : Int) : peekCode code [] = first_ code 6 := by simp [peekCode]
theorem reader_flag (g : Nat) (S : Nat → Prop) (code : Int) (bs : List UInt8) (w : World) (h : Rd w g S code bs) (hm : bs.length ≤ 140737488355328) :
    Calls Tryz.prog 124 #[.pointer (some ⟨g, 0, none⟩)] w fun e w' =>
      e = .returned (.bool (flagR code bs).2.2) ∧ Rd w' g S (flagR code bs).1 (flagR code bs).2.1 ∧ Only (one g) w w' := by
  have H := Lib.hid h
  clear h
  by_cases hc : code ≠ 0 ∨ bs.length = 0
  · have HR : Hid (flagR code bs = (peekCode code bs, bs, false)) := by
      cases bs with
      | nil => simp [Hid, flagR, peekCode_nil]
      | cons b r =>
        have : code ≠ 0 := by simpa using hc
        simp [Hid, flagR, peekCode_cons, this]
    have HC := Lib.hid hc
    clear hc
    go_enter Tryz.func124, Tryz.ntmps124
    go_wp2_with (first
        | (go_at_call 233; refine (peek_no _ _ _ _ _ H.out HC.out (by omega)).mono ?_; rintro e w1 ⟨rfl, h2, o2⟩; have H2 := Lib.hid h2; clear h2))
    go_ret
    rw [HR.out]
    exact ⟨rfl, H2.out, o2⟩
  · obtain ⟨rfl, h1⟩ : code = 0 ∧ bs.length ≠ 0 := by
      refine ⟨Classical.byContradiction fun h => hc (.inl h), fun h => hc (.inr h)⟩
    clear hc
    match bs, h1, H, hm with
    | b :: r, _, H, hm =>
    have hb := b.toNat_lt
    simp only [List.length_cons] at hm
    by_cases hb1 : 1 < b.toNat
    · have HR : Hid (flagR 0 (b :: r) = (first_ 0 4, b :: r, false)) := by simp [Hid, flagR, hb1, first_]
      go_enter Tryz.func124, Tryz.ntmps124
      go_wp2_with (first
        | (go_at_call 233; refine (peek_ok _ _ _ _ _ H.out (by omega)).mono ?_; rintro e w' ⟨rfl, rfl⟩)
        | (go_at_call 177; refine (reader_fail _ _ _ _ _ _ H.out).mono ?_; rintro e w1 ⟨rfl, h2, o2⟩; have H2 := Lib.hid h2; clear h2))
      go_ret
      rw [HR.out]
      exact ⟨rfl, H2.out, o2⟩
    · have HR : Hid (flagR 0 (b :: r) = (0, r, decide (b.toNat = 1))) := by simp [Hid, flagR, hb1]
      go_enter Tryz.func124, Tryz.ntmps124
      go_wp2_with (first
        | (go_at_call 233; refine (peek_ok _ _ _ _ _ H.out (by omega)).mono ?_; rintro e w' ⟨rfl, rfl⟩)
        | (go_at_call 232; refine (take_ok _ _ _ 1 _ H.out (by simp) (by simp only [List.length_cons]; omega)).mono ?_; rintro e w1 ⟨A, c, rfl, hb1, h2, o2⟩; have H2 := Lib.hid h2; clear h2))
      go_ret
      rw [HR.out]
      refine ⟨?_, H2.out, o2⟩
      show Ending.returned (.bool ((b.toNat : Int) == 1)) = .returned (.bool (decide (b.toNat = 1)))
      congr 2
      rw [Bool.eq_iff_iff]
      simp only [beq_iff_eq, decide_eq_true_eq]
      omega
def textR (code : Int) (bs : List UInt8) (most : Int) : Int × List UInt8 × List UInt8 :=
  match bs with
  | [] => (first_ code 6, [], [])
  | b :: r => if code ≠ 0 then (code, b :: r, []) else if most < (b.toNat : Int) then (4, b :: r, []) else if r.length < b.toNat then (6, b :: r, []) else (0, r.drop b.toNat, r.take b.toNat)
set_option maxRecDepth 100000 in
set_option maxHeartbeats 400000 in
theorem reader_text (g : Nat) (S : Nat → Prop) (code : Int) (bs : List UInt8) (most : Int) (w : World) (h : Rd w g S code bs) (hm : bs.length ≤ 140737488355328) :
    Calls Tryz.prog 235 #[.pointer (some ⟨g, 0, none⟩), .int .i64 most] w fun e w' =>
      e = .returned (.string ⟨(textR code bs most).2.2.toArray⟩) ∧ Rd w' g S (textR code bs most).1 (textR code bs most).2.1 ∧ Only (one g) w w' := by
  have H := Lib.hid h
  clear h
  by_cases hc : code ≠ 0 ∨ bs.length = 0
  · have HR : Hid (textR code bs most = (peekCode code bs, bs, [])) := by
      cases bs with
      | nil => simp [Hid, textR, peekCode_nil]
      | cons b r =>
        have : code ≠ 0 := by simpa using hc
        simp [Hid, textR, peekCode_cons, this]
    have HC := Lib.hid hc
    clear hc
    go_enter Tryz.func235, Tryz.ntmps235
    go_wp2_with (first
        | (go_at_call 233; refine (peek_no _ _ _ _ _ H.out HC.out (by omega)).mono ?_; rintro e w1 ⟨rfl, h2, o2⟩; have H2 := Lib.hid h2; clear h2))
    go_ret
    rw [HR.out]
    exact ⟨rfl, H2.out, o2⟩
  · obtain ⟨rfl, h1⟩ : code = 0 ∧ bs.length ≠ 0 := by
      refine ⟨Classical.byContradiction fun h => hc (.inl h), fun h => hc (.inr h)⟩
    clear hc
    match bs, h1, H, hm with
    | b :: r, _, H, hm =>
    have hb := b.toNat_lt
    simp only [List.length_cons] at hm
    by_cases hb1 : most < (b.toNat : Int)
    · have HR : Hid (textR 0 (b :: r) most = (first_ 0 4, b :: r, [])) := by simp [Hid, textR, hb1, first_]
      go_enter Tryz.func235, Tryz.ntmps235
      go_wp2_with (first
        | (go_at_call 233; refine (peek_ok _ _ _ _ _ H.out (by omega)).mono ?_; rintro e w' ⟨rfl, rfl⟩)
        | (go_at_call 177; refine (reader_fail _ _ _ _ _ _ H.out).mono ?_; rintro e w1 ⟨rfl, h2, o2⟩; have H2 := Lib.hid h2; clear h2))
      go_ret
      rw [HR.out]
      exact ⟨rfl, H2.out, o2⟩
    · by_cases hl : r.length < b.toNat
      · have HR : Hid (textR 0 (b :: r) most = (takeCode 0 (b :: r) (1 + b.toNat), b :: r, [])) := by
          have h6 : r.length + 1 < 1 + b.toNat := by omega
          simp [Hid, textR, takeCode, first_, hb1, hl, h6]
        have HT := take_no g S 0 (b :: r) (1 + b.toNat) w H.out (.inr (by simp only [List.length_cons]; omega)) (by simp only [List.length_cons]; omega)
        rw [show ((1 + b.toNat : Nat) : Int) = 1 + (b.toNat : Int) from by omega] at HT
        go_enter Tryz.func235, Tryz.ntmps235
        go_wp2_with (first
          | (go_at_call 233; refine (peek_ok _ _ _ _ _ H.out (by omega)).mono ?_; rintro e w' ⟨rfl, rfl⟩)
          | (go_at_call 232; refine HT.mono ?_; rintro e w1 ⟨rfl, h2, o2⟩; have H2 := Lib.hid h2; clear h2))
        go_ret
        rw [HR.out]
        exact ⟨rfl, H2.out, o2⟩
      · have HR : Hid (textR 0 (b :: r) most = (0, (b :: r).drop (1 + b.toNat), ((b :: r).take (1 + b.toNat)).tail)) := by
          simp only [Hid, textR, hb1, hl, if_false]
          rw [Nat.add_comm 1]
          simp
        have HT := take_ok g S (b :: r) (1 + b.toNat) w H.out (by simp only [List.length_cons]; omega) (by simp only [List.length_cons]; omega)
        rw [show ((1 + b.toNat : Nat) : Int) = 1 + (b.toNat : Int) from by omega] at HT
        obtain ⟨i0, hi0, _, hz1, _⟩ := info_parts u8_info
        have HI := Lib.hid hi0
        have HZ := Lib.hid hz1
        clear hi0 hz1
        go_enter Tryz.func235, Tryz.ntmps235
        go_wp2_with (first
          | (go_at_call 233; refine (peek_ok _ _ _ _ _ H.out (by omega)).mono ?_; rintro e w' ⟨rfl, rfl⟩)
          | (go_at_call 232; refine HT.mono ?_; rintro e w1 ⟨A, c, rfl, hb2, h2, o2⟩
             obtain ⟨A2, L2, c2, r2, b2⟩ := byt_lo Tryz.underlying35 HI.out HZ.out hb2 1 (by omega) 1 rfl
             have hs2 := run_bytes_string w1 _ _ _ b2
             have H2 := Lib.hid h2; clear h2 hb2 b2))
        go_ret
        rw [HR.out]
        exact ⟨rfl, H2.out, o2⟩
end Go.Proofs.YtlieolehpmobfaaGreatDoor
end
section
namespace Go.Proofs.YtlieolehpmobfaaGreatDoor
set_option maxRecDepth 100000
structure En where
  k : ByteArray
  v : ByteArray
  d : Bool
  s : St
  a : St
  p : Int
  g : Int
def enZero : En := ⟨⟨#[]⟩, ⟨#[]⟩, false, stZero, stZero, 0, 0⟩
def stEq (x y : St) : Bool := x.c == y.c && x.s == y.s
theorem stEq_iff (x y : St) : stEq x y = true ↔ x = y := by
  simp only [stEq, Bool.and_eq_true, beq_iff_eq]
  exact ⟨fun h => St.eq h.1 h.2, fun h => by subst h; exact ⟨rfl, rfl⟩⟩
def enKeyBad (e : En) : Bool := decide (e.k.size < 1) || decide (16 < e.k.size)
def enValBad (e : En) : Bool := decide (32 < e.v.size) || (e.d && decide (0 < e.v.size))
def enStBad (e : En) : Bool := !(stGood e.s && stGood e.a) || stLater e.s e.a
def enLive (e : En) : Bool := stEq e.a e.s && e.p == 0 && e.g == 0
def enCert (e : En) : Bool := decide (1 ≤ e.p) && decide (e.p ≤ 4095) && decide (0 ≤ e.g) && decide (e.g ≤ 2147483647)
def enRestBad (e : En) : Bool := !(if e.d then enCert e else enLive e)
def enCheck (e : En) : Int := if enKeyBad e = true then 9 else if enValBad e = true then 10 else if enStBad e = true then 1 else if enRestBad e = true then 1 else 0
theorem str_empty (s : ByteArray) : (s.toList == ByteArray.toList ⟨#[]⟩) = decide (s.size = 0) := by
  rw [ByteArray.toList_eq, ByteArray.toList_eq]
  obtain ⟨⟨l⟩⟩ := s
  cases l <;> simp [ByteArray.size]
theorem str_eq {s t : ByteArray} : (s.toList == t.toList) = true ↔ s = t := by
  rw [beq_iff_eq, ByteArray.toList_eq, ByteArray.toList_eq]
  obtain ⟨⟨x⟩⟩ := s
  obtain ⟨⟨y⟩⟩ := t
  simp
def enEq (x y : En) : Bool := (x.k.toList == y.k.toList) && (x.v.toList == y.v.toList) && (x.d == y.d) && stEq x.s y.s && stEq x.a y.a && (x.p == y.p) && (x.g == y.g)
theorem enEq_iff (x y : En) : enEq x y = true ↔ x = y := by
  unfold enEq
  simp only [Bool.and_eq_true, stEq_iff, beq_iff_eq]
  constructor
  · rintro ⟨⟨⟨⟨⟨⟨h1, h2⟩, h3⟩, h4⟩, h5⟩, h6⟩, h7⟩
    have h1 := str_eq.1 (beq_iff_eq.2 h1)
    have h2 := str_eq.1 (beq_iff_eq.2 h2)
    cases x; cases y; simp_all
  · rintro rfl
    simp
theorem enEq_refl (x : En) : enEq x x = true := (enEq_iff x x).2 rfl
end Go.Proofs.YtlieolehpmobfaaGreatDoor
end
