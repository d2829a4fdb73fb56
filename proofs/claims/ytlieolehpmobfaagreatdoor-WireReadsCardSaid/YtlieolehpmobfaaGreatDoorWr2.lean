/- Texts of mine, one behind the other: OctE, OctU, EnV, OctT, OctK, OctS, EnM, EqS, EnA, StA, StE, Std. No statement of the seat is proved here. -/
import Derived.Test.YtlieolehpmobfaaGreatDoorWr1
import Derived.ChangeKeysEq
import Derived.Laws.StructEq
import Derived.Test.YtlieolehpmobfaaGreatDoorChecked
import Derived.Deep.QuietTactic
import Derived.BigQuiet
import Derived.StillTail
import Derived.RegionTactic
import Derived.WalkKit
section
namespace Go.Proofs.YtlieolehpmobfaaGreatDoor
open Go.RowKit
set_option linter.all false
def rawR (code : Int) (bs : List UInt8) (n : Int) : Int × List UInt8 × List UInt8 :=
  if n < 0 then (first_ code 1, bs, []) else if code = 0 ∧ n.toNat ≤ bs.length then (0, bs.drop n.toNat, bs.take n.toNat) else (takeCode code bs n.toNat, bs, [])
theorem read_any (x : Value) (bs : List UInt8) (S : Nat → Prop) (w : World) (h : Byt w S x bs) (hb : bs.length ≤ 140737488355328) :
    Calls Tryz.prog 74 #[x] w fun e w' => ∃ g S, e = .returned (.pointer (some ⟨g, 0, none⟩)) ∧ w.heap.size ≤ g ∧ Rd w' g S 0 bs ∧ (∀ b, S b → w.heap.size ≤ b ∧ b < w'.heap.size) ∧ Only none_ w w' := by
  have H := Lib.hid h
  clear h
  go_enter Tryz.func74, Tryz.ntmps74
  go_wp2_with (first
      | (go_at_call 147; refine (bytes_clone _ _ _ _ H.out hb).mono ?_; rintro e w2 ⟨A3, n3, c3, rfl, hw3, o3⟩))
  go_ret
  have h5 : Byt w2 (fun b => w.heap.size ≤ b ∧ b < w2.heap.size) (.slice A3 n3 c3) bs := by
    refine (Byt.of_own hw3).mono fun b hb hk => ?_
    have := hw3.lt b hk
    exact ⟨this.1, by omega⟩
  refine ⟨_, (fun b => w.heap.size ≤ b ∧ b < w2.heap.size), rfl, o3.size, ?_, fun b hb => ⟨hb.1, by simp only [World.size_alloc]; omega⟩, o3.alloc _⟩
  have h6 := h5
  obtain ⟨_, _, he, _⟩ := h6
  injection he with e1 e2 e3
  subst e2
  exact ⟨A3, c3, Blk.new _ _ _, h5.alloc _, fun h => absurd h.2 (Nat.lt_irrefl _)⟩
end Go.Proofs.YtlieolehpmobfaaGreatDoor
end
section
namespace Go.Proofs.YtlieolehpmobfaaGreatDoor
open Go.RowKit
set_option linter.all false
def leVal : List UInt8 → Nat
  | [] => 0
  | b :: r => b.toNat + 256 * leVal r
theorem leVal_lt : ∀ bs : List UInt8, leVal bs < 256 ^ bs.length
  | [] => by simp [leVal]
  | b :: r => by
    have h1 := leVal_lt r
    have h2 := b.toNat_lt
    simp only [leVal, List.length_cons, Nat.pow_succ]
    omega
theorem leVal_snoc : ∀ (bs : List UInt8) (b : UInt8), leVal (bs ++ [b]) = leVal bs + 256 ^ bs.length * b.toNat
  | [], b => by simp [leVal]
  | x :: r, b => by
    simp only [List.cons_append, leVal, leVal_snoc r b, List.length_cons, Nat.pow_succ]
    rw [Nat.mul_add, Nat.mul_comm (256 ^ r.length) 256, Nat.mul_assoc]
    omega
def numR (code : Int) (bs : List UInt8) (width : Int) : Int × List UInt8 × Nat :=
  if isW width = true then (if code = 0 ∧ width.toNat ≤ bs.length then (0, bs.drop width.toNat, leVal (bs.take width.toNat)) else (takeCode code bs width.toNat, bs, 0)) else (first_ code 1, bs, 0)
theorem or_step (v z k : Nat) (hk : k < 8) (hv : v < 256 ^ k) (hz : z < 256) :
    bits .or .u64 (v : Int) (IntKind.u64.wrap ((z : Int) * 2 ^ (8 * k))) = ((v + 256 ^ k * z : Nat) : Int) := by
  have e1 : (256 : Nat) ^ k = 2 ^ (8 * k) := by rw [Nat.pow_mul]
  rw [e1] at hv ⊢
  have h1 : 2 ^ (8 * k) * 256 ≤ 18446744073709551616 := by
    have : 2 ^ (8 * k) ≤ 2 ^ 56 := Nat.pow_le_pow_right (by omega) (by omega)
    omega
  have h2 : z * 2 ^ (8 * k) < 18446744073709551616 := by
    have : z * 2 ^ (8 * k) < 256 * 2 ^ (8 * k) := Nat.mul_lt_mul_of_pos_right hz (Nat.two_pow_pos _)
    rw [Nat.mul_comm 256] at this
    omega
  have e2 : ((z : Int) * 2 ^ (8 * k)) = ((z * 2 ^ (8 * k) : Nat) : Int) := by push_cast; rfl
  have e3 : IntKind.u64.wrap ((z * 2 ^ (8 * k) : Nat) : Int) = ((z * 2 ^ (8 * k) : Nat) : Int) := IntWalk.u64_in _ (by omega)
  rw [e2, e3, u64_or_nat _ _ (by omega) h2, Nat.or_comm, nat_join (8 * k) (z * 2 ^ (8 * k)) v (by simp) hv, Nat.mul_comm z, Nat.add_comm]
theorem le_take (xs : List UInt8) (k : Nat) (hk : k < xs.length) : leVal (xs.take (k + 1)) = leVal (xs.take k) + 256 ^ k * xs[k].toNat := by
  rw [List.take_succ_eq_append_getElem hk, leVal_snoc]
  congr 2
  rw [List.length_take, Nat.min_eq_left (by omega)]
theorem le_take_lt (xs : List UInt8) (k : Nat) (hk : k ≤ xs.length) : leVal (xs.take k) < 256 ^ k := by
  have := leVal_lt (xs.take k)
  rwa [List.length_take, Nat.min_eq_left hk] at this
set_option maxHeartbeats 400000 in
theorem reader_number (g : Nat) (S : Nat → Prop) (code : Int) (bs : List UInt8) (width : Int) (w : World) (h : Rd w g S code bs) (hm : bs.length ≤ 140737488355328) :
    Calls Tryz.prog 120 #[.pointer (some ⟨g, 0, none⟩), .int .i64 width] w fun e w' =>
      e = .returned (.int .u64 ((numR code bs width).2.2 : Int)) ∧ Rd w' g S (numR code bs width).1 (numR code bs width).2.1 ∧ Only (one g) w w' := by
  have H := Lib.hid h
  clear h
  by_cases hw : isW width = true
  · have hr : 1 ≤ width ∧ width ≤ 8 := by simpa [isW] using hw
    obtain ⟨m, rfl⟩ : ∃ m : Nat, width = m := ⟨width.toNat, by omega⟩
    obtain ⟨hm1, hm2⟩ : 1 ≤ m ∧ m ≤ 8 := by omega
    clear hr
    have HW := Lib.hid hw
    by_cases h1 : code = 0 ∧ m ≤ bs.length
    · obtain ⟨rfl, h1⟩ := h1
      have HR : Hid (numR 0 bs (m : Int) = (0, bs.drop m, leVal (bs.take m))) := by simp only [Hid, numR, hw, Int.toNat_natCast, h1, true_and, if_true]
      clear hw
      obtain ⟨xs, hxs⟩ : ∃ xs, xs = bs.take m := ⟨_, rfl⟩
      have hxl : Hid (xs.length = m) := by rw [hxs]; simp only [Hid, List.length_take]; omega
      rw [← hxs] at HR
      have HT := take_ok g S bs m w H.out h1 (by omega)
      rw [← hxs] at HT
      clear hxs
      go_enter Tryz.func120, Tryz.ntmps120
      go_wp2_with (first
        | (go_at_call 229; refine (isWidth_any _ _).mono ?_; rintro e w' ⟨rfl, rfl⟩; rw [HW.out])
        | (go_at_call 232; refine HT.mono ?_; rintro e w1 ⟨A, c, rfl, hb2, h2, o2⟩; have H2 := Lib.hid h2; clear h2))
      obtain ⟨A', c', he, _, _, _, hcs⟩ := hb2
      injection he with e1 e2 e3
      subst e1 e3
      obtain ⟨b, off, rfl, _, _, hc⟩ := hcs (by rw [hxl.out]; omega)
      have HC := Lib.hid hc
      clear hcs hc e2
      go_loop [7, 25] (fun v i => ∃ k : Nat, k ≤ m ∧ i = .int .i64 k ∧ v = .int .u64 (leVal (xs.take k))) (fun _ i => m - (intOf i).toNat)
      case atStart => exact ⟨0, by omega, rfl, by simp [leVal]⟩
      case round =>
        obtain ⟨k, hk, rfl, rfl⟩ := hrel
        by_cases hlt : k < m
        · have hz : w1.cell? ⟨b, off + k, none⟩ = some (.int .u8 ((xs[k]'(by rw [hxl.out]; exact hlt)).toNat : Int)) := HC.out k _
          obtain ⟨z, hzz⟩ : ∃ z, z = xs[k]'(by rw [hxl.out]; exact hlt) := ⟨_, rfl⟩
          rw [← hzz] at hz
          have hz8 := z.toNat_lt
          have HS : Hid (bits .or .u64 (leVal (xs.take k) : Int) (IntKind.u64.wrap ((z.toNat : Int) * 2 ^ (8 * k))) = (leVal (xs.take (k + 1)) : Int)) := by
            have h5 := le_take xs k (by rw [hxl.out]; exact hlt)
            rw [← hzz] at h5
            rw [Hid, h5]
            exact or_step _ _ k (by omega) (le_take_lt xs k (by rw [hxl.out]; exact hk)) hz8
          clear hzz
          go_wp2
          go_round
          case rel => exact ⟨k + 1, by omega, by go_num, by rw [HS.out]⟩
          case measure => simp [intOf]; omega
        · have HK : Hid (xs.take k = xs) := List.take_of_length_le (by rw [hxl.out]; omega)
          go_wp2
          go_ret
          rw [HR.out, HK.out]
          exact ⟨rfl, H2.out, o2⟩
    · have HR : Hid (numR code bs (m : Int) = (takeCode code bs m, bs, 0)) := by simp only [Hid, numR, hw, Int.toNat_natCast, h1, if_true, if_false]
      have h2 : code ≠ 0 ∨ bs.length < m := by
        by_cases hc : code = 0
        · exact .inr (by have : ¬ m ≤ bs.length := fun h => h1 ⟨hc, h⟩; omega)
        · exact .inl hc
      clear h1 hw
      have HC := Lib.hid h2
      clear h2
      go_enter Tryz.func120, Tryz.ntmps120
      go_wp2_with (first
        | (go_at_call 229; refine (isWidth_any _ _).mono ?_; rintro e w' ⟨rfl, rfl⟩; rw [HW.out])
        | (go_at_call 232; refine (take_no _ _ _ _ _ _ H.out HC.out (by omega)).mono ?_; rintro e w1 ⟨rfl, h2, o2⟩; have H2 := Lib.hid h2; clear h2))
      refine wp_loop_rounds 1 ?_
      rw [rounds_succ]
      go_wp2
      go_ret
      rw [HR.out]
      exact ⟨rfl, H2.out, o2⟩
  · have hw' : isW width = false := by simpa using hw
    have HR : Hid (numR code bs width = (first_ code 1, bs, 0)) := by simp [Hid, numR, hw']
    have HW := Lib.hid hw'
    clear hw hw'
    go_enter Tryz.func120, Tryz.ntmps120
    go_wp2_with (first
      | (go_at_call 229; refine (isWidth_any _ _).mono ?_; rintro e w' ⟨rfl, rfl⟩; rw [HW.out])
      | (go_at_call 177; refine (reader_fail _ _ _ _ _ _ H.out).mono ?_; rintro e w1 ⟨rfl, h2, o2⟩; have H2 := Lib.hid h2; clear h2))
    go_ret
    rw [HR.out]
    exact ⟨rfl, H2.out, o2⟩
end Go.Proofs.YtlieolehpmobfaaGreatDoor
end
section
namespace Go.Proofs.YtlieolehpmobfaaGreatDoor
open Go.RowKit
set_option maxRecDepth 100000
set_option linter.all false
theorem numR_lt (code : Int) (bs : List UInt8) (m : Nat) : (numR code bs (m : Int)).2.2 < 256 ^ m := by
  have h0 : 0 < 256 ^ m := Nat.pow_pos (by omega)
  unfold numR
  split
  · split
    · rename_i h
      rw [Int.toNat_natCast] at h ⊢
      exact le_take_lt bs m h.2
    · exact h0
  · exact h0
theorem numR_len (code : Int) (bs : List UInt8) (width : Int) : (numR code bs width).2.1.length ≤ bs.length := by
  unfold numR
  split
  · split
    · simp only [List.length_drop]; omega
    · exact Nat.le_refl _
  · exact Nat.le_refl _
structure Tk (B : World) (g : Nat) (S : Nat → Prop) (h : Nat) (t : TypeId) (cs : Array Value) (code : Int) (bs : List UInt8) (w : World) : Prop where
  rd : Rd w g S code bs
  bx : Blk w h t cs
  ho : Only (one g) B w
  gl : g < B.heap.size
  fr : ∀ b, S b → b < B.heap.size
  ge : B.heap.size ≤ h
section
variable {B w w' : World} {g h : Nat} {S : Nat → Prop} {t : TypeId} {cs : Array Value} {code code' : Int} {bs bs' : List UInt8}
theorem Tk.new (hr : Rd B g S code bs) (fr : ∀ b, S b → b < B.heap.size) : Tk B g S B.heap.size t cs code bs (B.alloc (.cells cs t)) :=
  ⟨hr.only ((Only.refl none_ _).alloc _) (fun h => h) (fun _ _ h => h), Blk.new _ _ _, (Only.refl _ _).alloc _, hr.lt, fr, Nat.le_refl _⟩
theorem Tk.step (s : Tk B g S h t cs code bs w) (hr : Rd w' g S code' bs') (o : Only (one g) w w') : Tk B g S h t cs code' bs' w' :=
  ⟨hr, s.bx.only o (fun e => by have e' : h = g := e; have := s.gl; have := s.ge; omega), s.ho.trans o, s.gl, s.fr, s.ge⟩
theorem Tk.keep (s : Tk B g S h t cs code bs w) (o : Only none_ w w') : Tk B g S h t cs code bs w' :=
  s.step (s.rd.only o (fun h => h) (fun _ _ h => h)) o.of_none
theorem Tk.set (s : Tk B g S h t cs code bs w) (i : Nat) (u : Value) : Tk B g S h t (cs.setIfInBounds i u) code bs (w.setCell ⟨h, i, none⟩ u) :=
  ⟨s.rd.only ((Only.refl (one h) w).setCell (p := ⟨h, i, none⟩) (.inl rfl) u) (fun e => by have e' : g = h := e; have := s.gl; have := s.ge; omega)
      (fun b hb e => by have e' : b = h := e; have := s.fr b hb; have := s.ge; omega),
    s.bx.set_ i u, s.ho.setCell (p := ⟨h, i, none⟩) (.inr s.ge) u, s.gl, s.fr, s.ge⟩
end
def stampR (code : Int) (bs : List UInt8) : Int × List UInt8 × St :=
  ((numR (numR code bs 4).1 (numR code bs 4).2.1 1).1, (numR (numR code bs 4).1 (numR code bs 4).2.1 1).2.1, ⟨(numR code bs 4).2.2, (numR (numR code bs 4).1 (numR code bs 4).2.1 1).2.2⟩)
set_option maxHeartbeats 800000 in
theorem take_stamp (g : Nat) (S : Nat → Prop) (code : Int) (bs : List UInt8) (w : World) (hr : Rd w g S code bs) (fr : ∀ b, S b → b < w.heap.size) (hm : bs.length ≤ 140737488355328) :
    Calls Tryz.prog 279 #[.pointer (some ⟨g, 0, none⟩)] w fun e w' =>
      e = .returned (.agg #[.int .i64 (stampR code bs).2.2.c, .int .i64 (stampR code bs).2.2.s]) ∧ Rd w' g S (stampR code bs).1 (stampR code bs).2.1 ∧ Only (one g) w w' := by
  have hg := hr.lt
  have HG := Lib.hid hg
  clear hg
  have R0 := Lib.hid (Blk.new w 39 #[.int .i64 0, .int .i64 0])
  have O0 := Lib.hid ((Only.refl (one g) w).alloc (.cells #[.int .i64 0, .int .i64 0] 39))
  have T0 := Tk.new (t := 39) (cs := #[.int .i64 0, .int .i64 0]) (hr.only ((Only.refl none_ _).alloc (.cells #[.int .i64 0, .int .i64 0] 39)) (fun h => h) (fun _ _ h => h)) (fun b hb => by rw [World.size_alloc]; have := fr b hb; omega)
  rw [World.size_alloc] at T0
  have T := Lib.hid T0
  clear T0
  obtain ⟨a, ha⟩ : ∃ a, numR code bs 4 = a := ⟨_, rfl⟩
  obtain ⟨b, hb⟩ : ∃ b, numR a.1 a.2.1 1 = b := ⟨_, rfl⟩
  have la : a.2.2 < 256 ^ 4 := ha ▸ numR_lt code bs 4
  have lb : b.2.2 < 256 ^ 1 := hb ▸ numR_lt a.1 a.2.1 1
  have l2 : a.2.1.length ≤ bs.length := ha ▸ numR_len code bs 4
  have HS : Hid (stampR code bs = (b.1, b.2.1, ⟨(a.2.2 : Nat), (b.2.2 : Nat)⟩)) := by rw [Hid, stampR, ha, hb]
  have A1 : IntKind.i64.wrap (a.2.2 : Int) = (a.2.2 : Int) := IntWalk.i64_in _ (by omega)
  have B1 : IntKind.i64.wrap (b.2.2 : Int) = (b.2.2 : Int) := IntWalk.i64_in _ (by omega)
  have HB := Lib.hid hb
  have HM : Hid (a.2.1.length ≤ 140737488355328) := Nat.le_trans l2 hm
  have C1 := reader_number g S code bs 4 _ T.out.rd hm
  rw [ha] at C1
  have FR := Lib.hid fr
  clear ha hb la lb l2 hr fr hm
  have tok1 : True := trivial
  go_enter Tryz.func279, Tryz.ntmps279
  go_wp2_with (first
    | (go_at_call 120; have _t := tok1; clear tok1; refine C1.mono ?_; clear C1; rintro e w1 ⟨rfl, h1, o1⟩
       have T1 := Lib.hid (T.out.step h1 o1)
       have z1 := T1.out.bx.frozen 0
       have v1 := T1.out.bx.cell_ (i := 0) rfl
       have T2 := Lib.hid (T1.out.set 0 (.int .i64 a.2.2))
       clear h1 o1
       have tok2 : True := trivial)
    | (go_at_call 120; have _t := tok2; clear tok2; refine (reader_number g S _ _ 1 _ T2.out.rd HM.out).mono ?_; rw [HB.out]; rintro e w2 ⟨rfl, h2, o2⟩
       have T3 := Lib.hid (T2.out.step h2 o2)
       have z2 := T3.out.bx.frozen 1
       have v2 := T3.out.bx.cell_ (i := 1) rfl
       have T4 := Lib.hid (T3.out.set 1 (.int .i64 b.2.2))
       have c0 := T4.out.bx.cell_ (i := 0) rfl
       have c1 := T4.out.bx.cell_ (i := 1) rfl
       have R4 := Lib.hid (R0.out.only T4.out.ho (fun e => by have e' : w.heap.size = g := e; have := HG.out; omega))
       have y0 := R4.out.frozen 0
       have y1 := (R4.out.set_ 0 (.int .i64 a.2.2)).frozen 1
       have x0 := R4.out.cell_ (i := 0) rfl
       have x1 := (R4.out.set_ 0 (.int .i64 a.2.2)).cell_ (i := 1) rfl
       clear h2 o2))
  have hF : Blk (((w2.setCell ⟨w.heap.size + 1, 1, none⟩ (.int .i64 b.2.2)).setCell ⟨w.heap.size, 0, none⟩ (.int .i64 a.2.2)).setCell ⟨w.heap.size, 1, none⟩ (.int .i64 b.2.2)) w.heap.size 39 #[.int .i64 a.2.2, .int .i64 b.2.2] := by
    have := (R4.out.set_ 0 (.int .i64 a.2.2)).set_ 1 (.int .i64 b.2.2)
    simpa using this
  have oF := ((Only.refl (one w.heap.size) (w2.setCell ⟨w.heap.size + 1, 1, none⟩ (.int .i64 b.2.2))).setCell (p := ⟨w.heap.size, 0, none⟩) (.inl rfl) (.int .i64 a.2.2)).setCell (p := ⟨w.heap.size, 1, none⟩) (.inl rfl) (.int .i64 b.2.2)
  exact bodyPost_ret (results_cell_row rfl _ _ w.heap.size 39 _ (0, 0) _ rfl hF Tryz.underlying39 rfl (by kernel_rfl)) rfl
    (by rw [HS.out]; exact ⟨rfl, T4.out.rd.only oF (fun e => by have e' : g = w.heap.size := e; have := HG.out; omega) (fun b hb e => by have e' : b = w.heap.size := e; have := FR.out b hb; omega),
      ((O0.out.trans T4.out.ho).setCell (p := ⟨w.heap.size, 0, none⟩) (.inr (Nat.le_refl _)) _).setCell (p := ⟨w.heap.size, 1, none⟩) (.inr (Nat.le_refl _)) _⟩)
end Go.Proofs.YtlieolehpmobfaaGreatDoor
end
section
namespace Go.Proofs.YtlieolehpmobfaaGreatDoor
open Go.RowKit
set_option linter.all false
def bitN (b : Bool) : Nat := if b then 1 else 0
theorem num_bit (code : Int) (b : Bool) : numCode code (bitN b) 1 = code := by cases b <;> simp [numCode, isW, bitN]
theorem bs_bit (code : Int) (bs : List UInt8) (b : Bool) : numBs code bs (bitN b) 1 = putS code bs [UInt8.ofNat (bitN b)] := by
  cases b <;> simp [numBs, isW, bitN, leBytes, leByte, List.range, List.range.loop]
theorem writer_flag (g base : Nat) (code : Int) (b : Bool) (v : Value) (bs : List UInt8) (w : World) (h : Wr w g base code v bs) 
    (hb : bs.length + 8 ≤ 140737488355328) (hbase : base ≤ w.heap.size) :
    Calls Tryz.prog 122 #[.pointer (some ⟨g, 0, none⟩), .bool b] w fun e w' => e = .returned (.pointer (some ⟨g, 0, none⟩)) ∧
      ∃ v', Wr w' g base code v' (putS code bs [UInt8.ofNat (bitN b)]) ∧ Only (foot g v) w w' ∧ Moved w v v' := by
  have HN := writer_number g base code 1 (bitN b) v bs w h (by cases b <;> simp [bitN]) hb hbase
  rw [num_bit, bs_bit] at HN
  clear h
  cases b
  all_goals
    go_enter Tryz.func122, Tryz.ntmps122
    go_wp2_with (first | (go_at_call 118; refine HN.mono ?_; rintro e w3 ⟨rfl, v3, h3, o3, m3⟩))
    go_ret
    exact ⟨rfl, v3, h3, o3, m3⟩
def textCode (code : Int) (s : List UInt8) : Int := if 255 < s.length then first_ code 2 else code
def textBs (code : Int) (bs s : List UInt8) : List UInt8 := if 255 < s.length then bs else putS code bs (UInt8.ofNat s.length :: s)
theorem byt_of_string (w : World) (s : ByteArray) (cap : Nat) (hs : s.size ≤ cap) (hm : cap ≤ maxLen) (t : TypeId) (fr : Nat × Nat) :
    Byt (w.alloc (.cells (bytesRow s cap) t fr)) (fun b => b = w.heap.size) (.slice (some ⟨w.heap.size, 0, none⟩) s.size cap) s.data.toList := by
  have hl : s.data.toList.length = s.size := Array.length_toList
  refine ⟨_, cap, by rw [hl], by omega, hm, by simp, fun _ => ⟨_, 0, rfl, rfl, by simp, fun j hj => ?_⟩⟩
  have hj' : j < s.data.size := by simpa using hj
  have := World.cell?_alloc_mark w (bytesRow s cap) t fr j
  rw [bytesRow_at s cap j hj'] at this
  simpa [byt] using this
theorem byt_one (w : World) (n : Nat) (hn : n ≤ 255) (t : TypeId) : Byt (w.alloc (.cells #[.int .u8 (n : Int)] t)) (fun b => b = w.heap.size) (.slice (some ⟨w.heap.size, 0, none⟩) 1 1) [UInt8.ofNat n] := by
  refine ⟨_, 1, rfl, by simp, by simp [maxLen], by simp, fun _ => ⟨_, 0, rfl, rfl, by simp, fun j hj => ?_⟩⟩
  have hj0 : j = 0 := by simp at hj; omega
  subst hj0
  have : (UInt8.ofNat n).toNat = n := by simp; omega
  simp [byt, this]
theorem text_parts (w : World) (s : ByteArray) (hs : s.size ≤ 255) (tb tp : TypeId) (cap : Nat) (hc : s.size ≤ cap) (hm : cap ≤ maxLen) (fr : Nat × Nat) :
    Parts (((w.alloc (.cells #[.int .u8 (s.size : Int)] tb)).alloc (.cells (bytesRow s cap) tb fr)).alloc (.cells #[.slice (some ⟨w.heap.size, 0, none⟩) 1 1, .slice (some ⟨w.heap.size + 1, 0, none⟩) s.size cap] tp)) (fun k => w.heap.size ≤ k)
      (.slice (some ⟨w.heap.size + 1 + 1, 0, none⟩) 2 2) [[UInt8.ofNat s.size], s.data.toList] := by
  have h1 := ((byt_one w s.size hs tb).alloc (.cells (bytesRow s cap) tb fr)).mono (T := fun k => w.heap.size ≤ k) (fun b _ hb => by simp only [hb]; omega)
  have h2 := (byt_of_string (w.alloc (.cells #[.int .u8 (s.size : Int)] tb)) s cap hc hm tb fr).mono (T := fun k => w.heap.size ≤ k) (fun b _ hb => by simp only [hb, World.size_alloc]; omega)
  simp only [World.size_alloc] at h2
  have := parts_two (t := tp) h1 h2 (by simp only [World.size_alloc]; omega)
  simpa only [World.size_alloc] using this
set_option maxHeartbeats 400000 in
theorem writer_text (g base : Nat) (code : Int) (s : ByteArray) (v : Value) (bs : List UInt8) (w : World) (h : Wr w g base code v bs) 
    (hb : bs.length + 300 ≤ 140737488355328) (hbase : base ≤ w.heap.size) (hs : s.size ≤ 9223372036854775807) :
    Calls Tryz.prog 234 #[.pointer (some ⟨g, 0, none⟩), .string s] w fun e w' => e = .returned (.pointer (some ⟨g, 0, none⟩)) ∧
      ∃ v', Wr w' g base (textCode code s.data.toList) v' (textBs code bs s.data.toList) ∧ Only (foot g v) w w' ∧ Moved w v v' := by
  have hl : s.data.toList.length = s.size := Array.length_toList
  by_cases h0 : 255 < s.size
  · have hcode : Hid (textCode code s.data.toList = first_ code 2) := by rw [Hid, textCode, hl, if_pos h0]
    have hbs : Hid (textBs code bs s.data.toList = bs) := by rw [Hid, textBs, hl, if_pos h0]
    have H := Lib.hid h
    clear h hl
    go_enter Tryz.func234, Tryz.ntmps234
    go_wp2_with (first
        | (go_at_call 177; refine (fault_fail _ _ _ _ _ _ H.out.1 rfl).mono ?_; rintro e w1 ⟨rfl, hb1, ho1⟩))
    go_ret
    rw [hcode.out, hbs.out]
    exact ⟨rfl, v, H.out.fail hb1 ho1, one_foot ho1, Moved.refl _ _⟩
  · have hcode : Hid (textCode code s.data.toList = code) := by rw [Hid, textCode, hl, if_neg h0]
    have hbs : Hid (textBs code bs s.data.toList = putS code bs (UInt8.ofNat s.data.toList.length :: s.data.toList)) := by rw [Hid, textBs, hl, if_neg h0]
    have H := Lib.hid h
    have HL := Lib.hid hl
    clear h hl
    have hcv := fun w => run_bytes_of_string (P := Tryz.prog) w 9 35 5 s Tryz.underlying9 Tryz.underlying35 Tryz.underlying5
    go_enter Tryz.func234, Tryz.ntmps234
    go_wp2_with fail
    have hW1 := (((Only.refl none_ w).alloc (.cells #[.int .u8 (s.size : Int)] 5)).alloc (.cells (bytesRow s (grownCap (w.alloc (.cells #[.int .u8 (s.size : Int)] 5)) s.size 0 5)) 5
      ((bytesRow s (grownCap (w.alloc (.cells #[.int .u8 (s.size : Int)] 5)) s.size 0 5)).size, (bytesRow s (grownCap (w.alloc (.cells #[.int .u8 (s.size : Int)] 5)) s.size 0 5)).size + 1))).alloc
      (.cells #[.slice (some ⟨w.heap.size, 0, none⟩) 1 1, .slice (some ⟨w.heap.size + 1, 0, none⟩) s.size (grownCap (w.alloc (.cells #[.int .u8 (s.size : Int)] 5)) s.size 0 5)] 35)
    have hpp := text_parts w s (by omega) 5 35 (grownCap (w.alloc (.cells #[.int .u8 (s.size : Int)] 5)) s.size 0 5) (grownCap_ge _ _ _ _) (grownCap_le_maxLen _ _ _ _ (by simp only [maxLen]; omega))
      ((bytesRow s (grownCap (w.alloc (.cells #[.int .u8 (s.size : Int)] 5)) s.size 0 5)).size, (bytesRow s (grownCap (w.alloc (.cells #[.int .u8 (s.size : Int)] 5)) s.size 0 5)).size + 1)
    generalize (((w.alloc (.cells #[.int .u8 (s.size : Int)] 5)).alloc (.cells (bytesRow s (grownCap (w.alloc (.cells #[.int .u8 (s.size : Int)] 5)) s.size 0 5)) 5
      ((bytesRow s (grownCap (w.alloc (.cells #[.int .u8 (s.size : Int)] 5)) s.size 0 5)).size, (bytesRow s (grownCap (w.alloc (.cells #[.int .u8 (s.size : Int)] 5)) s.size 0 5)).size + 1))).alloc
      (.cells #[.slice (some ⟨w.heap.size, 0, none⟩) 1 1, .slice (some ⟨w.heap.size + 1, 0, none⟩) s.size (grownCap (w.alloc (.cells #[.int .u8 (s.size : Int)] 5)) s.size 0 5)] 35)) = w2 at *
    refine (writer_raw g base code v _ bs [[UInt8.ofNat s.size], s.data.toList] (fun k => w.heap.size ≤ k) w2.drew (H.out.only (S := none_) hW1.drew (fun _ _ h => h)) hpp (fun b hb1 hb2 => by have := H.out.foot_lt hb2; omega)
      (by have := HL.out; simp only [List.flatten_cons, List.flatten_nil, List.length_append, List.length_cons, List.length_nil]; omega) (by have := hW1.size; simp; omega) (by simp)).mono ?_
    rintro e w3 ⟨rfl, v3, h3, o3, m3⟩
    go_wp2
    go_ret
    rw [hcode.out, hbs.out, HL.out]
    exact ⟨rfl, v3, by simpa using h3, hW1.drew.of_none.trans o3, (Moved.refl w v).trans m3 hW1.size⟩
end Go.Proofs.YtlieolehpmobfaaGreatDoor
end
section
namespace Go.Proofs.YtlieolehpmobfaaGreatDoor
open Go.RowKit
set_option linter.all false
theorem peek_ok (g : Nat) (S : Nat → Prop) (b : UInt8) (bs : List UInt8) (w : World) (h : Rd w g S 0 (b :: bs)) (hm : bs.length < 9223372036854775807) :
    Calls Tryz.prog 233 #[.pointer (some ⟨g, 0, none⟩)] w fun e w' =>
      e = .returned (.tuple #[.int .u8 (b.toNat : Int), .bool true]) ∧ w = w' := by
  have H := Lib.hid h
  obtain ⟨A, c, hb, hy, hs⟩ := h
  have h1 : w.cell? ⟨g, 1, none⟩ = some (.slice A (b :: bs).length c) := hb.cell_ rfl
  obtain ⟨A', c', he, _, _, _, h5⟩ := hy
  injection he with e1 e2 e3
  subst e1 e3
  obtain ⟨k, off, rfl, _, _, hc⟩ := h5 (by simp)
  have h2 := hc 0 (by simp)
  simp only [byt, List.getElem_cons_zero, Nat.add_zero] at h2
  simp only [List.length_cons] at h1
  clear hb h5 hc
  go_enter Tryz.func233, Tryz.ntmps233
  go_wp2_with (first
      | (go_at_call 148; refine (reader_err _ _ _ _ _ H.out).mono ?_; rintro e w' ⟨rfl, rfl⟩))
  go_ret2
  exact ⟨rfl, rfl⟩
def peekCode (code : Int) (bs : List UInt8) : Int := if bs.length = 0 then first_ code 6 else code
theorem peek_no (g : Nat) (S : Nat → Prop) (code : Int) (bs : List UInt8) (w : World) (h : Rd w g S code bs) (hn : code ≠ 0 ∨ bs.length = 0) (_hm : bs.length ≤ 9223372036854775807) :
    Calls Tryz.prog 233 #[.pointer (some ⟨g, 0, none⟩)] w fun e w' =>
      e = .returned (.tuple #[.int .u8 0, .bool false]) ∧ Rd w' g S (peekCode code bs) bs ∧ Only (one g) w w' := by
  have H := Lib.hid h
  obtain ⟨A, c, hb, hy, hs⟩ := h
  have h1 : w.cell? ⟨g, 1, none⟩ = some (.slice A bs.length c) := hb.cell_ rfl
  clear hb hy
  by_cases h0 : bs.length = 0
  · have HT : Hid (peekCode code bs = first_ code 6) := by simp only [Hid, peekCode, if_pos h0]
    have hf : (first_ code 6 != 0) = true := by unfold first_; split <;> simp_all
    have ht : ((bs.length : Int) == 0) = true := by simp [h0]
    clear hn h0
    go_enter Tryz.func233, Tryz.ntmps233
    go_wp2_with (first
      | (go_at_call 177; refine (reader_fail _ _ _ _ _ _ H.out).mono ?_; rintro e w1 ⟨rfl, h2, o2⟩; have H2 := Lib.hid h2; clear h2)
      | (go_at_call 148; refine (reader_err _ _ _ _ _ H2.out).mono ?_; rintro e w' ⟨rfl, rfl⟩))
    go_ret2
    rw [HT.out]
    exact ⟨rfl, H2.out, o2⟩
  · have HT : Hid (peekCode code bs = code) := by simp only [Hid, peekCode, if_neg h0]
    have hf : (code != 0) = true := by rcases hn with h | h <;> simp_all
    have ht : ((bs.length : Int) == 0) = false := by simp only [beq_eq_false_iff_ne, ne_eq]; omega
    clear hn h0
    go_enter Tryz.func233, Tryz.ntmps233
    go_wp2_with (first
      | (go_at_call 148; refine (reader_err _ _ _ _ _ H.out).mono ?_; rintro e w' ⟨rfl, rfl⟩))
    go_ret2
    rw [HT.out]
    exact ⟨rfl, H.out, Only.refl _ _⟩
end Go.Proofs.YtlieolehpmobfaaGreatDoor
end
section
namespace Go.Proofs.YtlieolehpmobfaaGreatDoor
open Go.RowKit
set_option linter.all false
def flagR (code : Int) (bs : List UInt8) : Int × List UInt8 × Bool :=
  match bs with
  | [] => (first_ code 6, [], false)
  | b :: r => if code ≠ 0 then (code, b :: r, false) else if 1 < b.toNat then (4, b :: r, false) else (0, r, decide (b.toNat = 1))
theorem peekCode_cons (code : Int) (b : UInt8) (r : List UInt8) : peekCode code (b :: r) = code := by simp [peekCode]
theorem peekCode_nil (code : Int) : peekCode code [] = first_ code 6 := by simp [peekCode]
theorem reader_flag (g : Nat) (S : Nat → Prop) (code : Int) (bs : List UInt8) (w : World) (h : Rd w g S code bs) (hm : bs.length ≤ 140737488355328) :
    Calls Tryz.prog 124 #[.pointer (some ⟨g, 0, none⟩)] w fun e w' =>
      e = .returned (.bool (flagR code bs).2.2) ∧ Rd w' g S (flagR code bs).1 (flagR code bs).2.1 ∧ Only (one g) w w' := by
  have H := Lib.hid h
  clear h
  by_cases hc : code ≠ 0 ∨ bs.length = 0
  · have HR : Hid (flagR code bs = (peekCode code bs, bs, false)) := by
      cases bs with
      | nil => simp [Hid, flagR, peekCode_nil]
      | cons b r =>
        have : code ≠ 0 := by simpa using hc
        simp [Hid, flagR, peekCode_cons, this]
    have HC := Lib.hid hc
    clear hc
    go_enter Tryz.func124, Tryz.ntmps124
    go_wp2_with (first
        | (go_at_call 233; refine (peek_no _ _ _ _ _ H.out HC.out (by omega)).mono ?_; rintro e w1 ⟨rfl, h2, o2⟩; have H2 := Lib.hid h2; clear h2))
    go_ret
    rw [HR.out]
    exact ⟨rfl, H2.out, o2⟩
  · obtain ⟨rfl, h1⟩ : code = 0 ∧ bs.length ≠ 0 := by
      refine ⟨Classical.byContradiction fun h => hc (.inl h), fun h => hc (.inr h)⟩
    clear hc
    match bs, h1, H, hm with
    | b :: r, _, H, hm =>
    have hb := b.toNat_lt
    simp only [List.length_cons] at hm
    by_cases hb1 : 1 < b.toNat
    · have HR : Hid (flagR 0 (b :: r) = (first_ 0 4, b :: r, false)) := by simp [Hid, flagR, hb1, first_]
      go_enter Tryz.func124, Tryz.ntmps124
      go_wp2_with (first
        | (go_at_call 233; refine (peek_ok _ _ _ _ _ H.out (by omega)).mono ?_; rintro e w' ⟨rfl, rfl⟩)
        | (go_at_call 177; refine (reader_fail _ _ _ _ _ _ H.out).mono ?_; rintro e w1 ⟨rfl, h2, o2⟩; have H2 := Lib.hid h2; clear h2))
      go_ret
      rw [HR.out]
      exact ⟨rfl, H2.out, o2⟩
    · have HR : Hid (flagR 0 (b :: r) = (0, r, decide (b.toNat = 1))) := by simp [Hid, flagR, hb1]
      go_enter Tryz.func124, Tryz.ntmps124
      go_wp2_with (first
        | (go_at_call 233; refine (peek_ok _ _ _ _ _ H.out (by omega)).mono ?_; rintro e w' ⟨rfl, rfl⟩)
        | (go_at_call 232; refine (take_ok _ _ _ 1 _ H.out (by simp) (by simp only [List.length_cons]; omega)).mono ?_; rintro e w1 ⟨A, c, rfl, hb1, h2, o2⟩; have H2 := Lib.hid h2; clear h2))
      go_ret
      rw [HR.out]
      refine ⟨?_, H2.out, o2⟩
      show Ending.returned (.bool ((b.toNat : Int) == 1)) = .returned (.bool (decide (b.toNat = 1)))
      congr 2
      rw [Bool.eq_iff_iff]
      simp only [beq_iff_eq, decide_eq_true_eq]
      omega
def textR (code : Int) (bs : List UInt8) (most : Int) : Int × List UInt8 × List UInt8 :=
  match bs with
  | [] => (first_ code 6, [], [])
  | b :: r => if code ≠ 0 then (code, b :: r, []) else if most < (b.toNat : Int) then (4, b :: r, []) else if r.length < b.toNat then (6, b :: r, []) else (0, r.drop b.toNat, r.take b.toNat)
set_option maxRecDepth 100000 in
set_option maxHeartbeats 400000 in
theorem reader_text (g : Nat) (S : Nat → Prop) (code : Int) (bs : List UInt8) (most : Int) (w : World) (h : Rd w g S code bs) (hm : bs.length ≤ 140737488355328) :
    Calls Tryz.prog 235 #[.pointer (some ⟨g, 0, none⟩), .int .i64 most] w fun e w' =>
      e = .returned (.string ⟨(textR code bs most).2.2.toArray⟩) ∧ Rd w' g S (textR code bs most).1 (textR code bs most).2.1 ∧ Only (one g) w w' := by
  have H := Lib.hid h
  clear h
  by_cases hc : code ≠ 0 ∨ bs.length = 0
  · have HR : Hid (textR code bs most = (peekCode code bs, bs, [])) := by
      cases bs with
      | nil => simp [Hid, textR, peekCode_nil]
      | cons b r =>
        have : code ≠ 0 := by simpa using hc
        simp [Hid, textR, peekCode_cons, this]
    have HC := Lib.hid hc
    clear hc
    go_enter Tryz.func235, Tryz.ntmps235
    go_wp2_with (first
        | (go_at_call 233; refine (peek_no _ _ _ _ _ H.out HC.out (by omega)).mono ?_; rintro e w1 ⟨rfl, h2, o2⟩; have H2 := Lib.hid h2; clear h2))
    go_ret
    rw [HR.out]
    exact ⟨rfl, H2.out, o2⟩
  · obtain ⟨rfl, h1⟩ : code = 0 ∧ bs.length ≠ 0 := by
      refine ⟨Classical.byContradiction fun h => hc (.inl h), fun h => hc (.inr h)⟩
    clear hc
    match bs, h1, H, hm with
    | b :: r, _, H, hm =>
    have hb := b.toNat_lt
    simp only [List.length_cons] at hm
    by_cases hb1 : most < (b.toNat : Int)
    · have HR : Hid (textR 0 (b :: r) most = (first_ 0 4, b :: r, [])) := by simp [Hid, textR, hb1, first_]
      go_enter Tryz.func235, Tryz.ntmps235
      go_wp2_with (first
        | (go_at_call 233; refine (peek_ok _ _ _ _ _ H.out (by omega)).mono ?_; rintro e w' ⟨rfl, rfl⟩)
        | (go_at_call 177; refine (reader_fail _ _ _ _ _ _ H.out).mono ?_; rintro e w1 ⟨rfl, h2, o2⟩; have H2 := Lib.hid h2; clear h2))
      go_ret
      rw [HR.out]
      exact ⟨rfl, H2.out, o2⟩
    · by_cases hl : r.length < b.toNat
      · have HR : Hid (textR 0 (b :: r) most = (takeCode 0 (b :: r) (1 + b.toNat), b :: r, [])) := by
          have h6 : r.length + 1 < 1 + b.toNat := by omega
          simp [Hid, textR, takeCode, first_, hb1, hl, h6]
        have HT := take_no g S 0 (b :: r) (1 + b.toNat) w H.out (.inr (by simp only [List.length_cons]; omega)) (by simp only [List.length_cons]; omega)
        rw [show ((1 + b.toNat : Nat) : Int) = 1 + (b.toNat : Int) from by omega] at HT
        go_enter Tryz.func235, Tryz.ntmps235
        go_wp2_with (first
          | (go_at_call 233; refine (peek_ok _ _ _ _ _ H.out (by omega)).mono ?_; rintro e w' ⟨rfl, rfl⟩)
          | (go_at_call 232; refine HT.mono ?_; rintro e w1 ⟨rfl, h2, o2⟩; have H2 := Lib.hid h2; clear h2))
        go_ret
        rw [HR.out]
        exact ⟨rfl, H2.out, o2⟩
      · have HR : Hid (textR 0 (b :: r) most = (0, (b :: r).drop (1 + b.toNat), ((b :: r).take (1 + b.toNat)).tail)) := by
          simp only [Hid, textR, hb1, hl, if_false]
          rw [Nat.add_comm 1]
          simp
        have HT := take_ok g S (b :: r) (1 + b.toNat) w H.out (by simp only [List.length_cons]; omega) (by simp only [List.length_cons]; omega)
        rw [show ((1 + b.toNat : Nat) : Int) = 1 + (b.toNat : Int) from by omega] at HT
        obtain ⟨i0, hi0, _, hz1, _⟩ := info_parts u8_info
        have HI := Lib.hid hi0
        have HZ := Lib.hid hz1
        clear hi0 hz1
        go_enter Tryz.func235, Tryz.ntmps235
        go_wp2_with (first
          | (go_at_call 233; refine (peek_ok _ _ _ _ _ H.out (by omega)).mono ?_; rintro e w' ⟨rfl, rfl⟩)
          | (go_at_call 232; refine HT.mono ?_; rintro e w1 ⟨A, c, rfl, hb2, h2, o2⟩
             obtain ⟨A2, L2, c2, r2, b2⟩ := byt_lo Tryz.underlying35 HI.out HZ.out hb2 1 (by omega) 1 rfl
             have hs2 := run_bytes_string w1 _ _ _ b2
             have H2 := Lib.hid h2; clear h2 hb2 b2))
        go_ret
        rw [HR.out]
        exact ⟨rfl, H2.out, o2⟩
end Go.Proofs.YtlieolehpmobfaaGreatDoor
end
section
namespace Go.Proofs.YtlieolehpmobfaaGreatDoor
set_option maxRecDepth 100000
structure En where
  k : ByteArray
  v : ByteArray
  d : Bool
  s : St
  a : St
  p : Int
  g : Int
def enZero : En := ⟨⟨#[]⟩, ⟨#[]⟩, false, stZero, stZero, 0, 0⟩
def stEq (x y : St) : Bool := x.c == y.c && x.s == y.s
theorem stEq_iff (x y : St) : stEq x y = true ↔ x = y := by
  simp only [stEq, Bool.and_eq_true, beq_iff_eq]
  exact ⟨fun h => St.eq h.1 h.2, fun h => by subst h; exact ⟨rfl, rfl⟩⟩
def enKeyBad (e : En) : Bool := decide (e.k.size < 1) || decide (16 < e.k.size)
def enValBad (e : En) : Bool := decide (32 < e.v.size) || (e.d && decide (0 < e.v.size))
def enStBad (e : En) : Bool := !(stGood e.s && stGood e.a) || stLater e.s e.a
def enLive (e : En) : Bool := stEq e.a e.s && e.p == 0 && e.g == 0
def enCert (e : En) : Bool := decide (1 ≤ e.p) && decide (e.p ≤ 4095) && decide (0 ≤ e.g) && decide (e.g ≤ 2147483647)
def enRestBad (e : En) : Bool := !(if e.d then enCert e else enLive e)
def enCheck (e : En) : Int := if enKeyBad e = true then 9 else if enValBad e = true then 10 else if enStBad e = true then 1 else if enRestBad e = true then 1 else 0
theorem str_empty (s : ByteArray) : (s.toList == ByteArray.toList ⟨#[]⟩) = decide (s.size = 0) := by
  rw [ByteArray.toList_eq, ByteArray.toList_eq]
  obtain ⟨⟨l⟩⟩ := s
  cases l <;> simp [ByteArray.size]
theorem str_eq {s t : ByteArray} : (s.toList == t.toList) = true ↔ s = t := by
  rw [beq_iff_eq, ByteArray.toList_eq, ByteArray.toList_eq]
  obtain ⟨⟨x⟩⟩ := s
  obtain ⟨⟨y⟩⟩ := t
  simp
def enEq (x y : En) : Bool := (x.k.toList == y.k.toList) && (x.v.toList == y.v.toList) && (x.d == y.d) && stEq x.s y.s && stEq x.a y.a && (x.p == y.p) && (x.g == y.g)
theorem enEq_iff (x y : En) : enEq x y = true ↔ x = y := by
  unfold enEq
  simp only [Bool.and_eq_true, stEq_iff, beq_iff_eq]
  constructor
  · rintro ⟨⟨⟨⟨⟨⟨h1, h2⟩, h3⟩, h4⟩, h5⟩, h6⟩, h7⟩
    have h1 := str_eq.1 (beq_iff_eq.2 h1)
    have h2 := str_eq.1 (beq_iff_eq.2 h2)
    cases x; cases y; simp_all
  · rintro rfl
    simp
theorem enEq_refl (x : En) : enEq x x = true := (enEq_iff x x).2 rfl
end Go.Proofs.YtlieolehpmobfaaGreatDoor
end
section
namespace Go.Proofs.YtlieolehpmobfaaGreatDoor
open Go.RowKit
set_option linter.all false
set_option maxRecDepth 100000
theorem eq_struct {P : Program} {t : TypeId} {fs : Array Field} (ht : P.underlying t = some (.struct fs)) (hp : P.stoodInHeld t = false) (d : Nat) (xs ys : Array Value) (w : World) :
    (Op.equalIn (d + 1) t (.agg xs) (.agg ys)).run P w = (Op.eqFields d xs ys fs.toList).run P w := by
  have e : P.fieldsOf t = fs := by rw [Program.fieldsOf, ht]
  rw [run_equalIn_struct w d t xs ys (by rw [e]; exact ht) hp, e]
theorem eql_of {P : Program} {w : World} {t : TypeId} {xs ys : Array Value} {b : Bool} (h : (Op.equalIn 10000 t (.agg xs) (.agg ys)).run P w = .ok b w) : (binOp .eql t (.agg xs) (.agg ys)).run P w = .ok (.bool b) w := by
  rw [run_eql_struct, h]; rfl
theorem neq_of {P : Program} {w : World} {t : TypeId} {xs ys : Array Value} {b : Bool} (h : (Op.equalIn 10000 t (.agg xs) (.agg ys)).run P w = .ok b w) : (binOp .neq t (.agg xs) (.agg ys)).run P w = .ok (.bool (!b)) w := by
  rw [run_neq_struct, h]; rfl
end Go.Proofs.YtlieolehpmobfaaGreatDoor
end
section
namespace Go.Proofs.YtlieolehpmobfaaGreatDoor
open Go.RowKit
set_option linter.all false
set_option maxRecDepth 100000
theorem eq_api_stamp (w : World) (x y : St) (d : Nat) : (Op.equalIn (d + 2) 39 (.agg #[.int .i64 x.c, .int .i64 x.s]) (.agg #[.int .i64 y.c, .int .i64 y.s])).run Tryz.prog w = .ok (stEq x y) w := by
  rw [eq_struct Tryz.underlying39 (by kernel_rfl)]
  have e : ∀ (a b : Int), (Op.equalIn (d + 1) 3 (.int .i64 a) (.int .i64 b)).run Tryz.prog w = .ok (a == b) w := fun a b => run_equalIn_int w d 3 .i64 .i64 a b Tryz.underlying3
  simp only [stEq]
  cases h1 : x.c == y.c <;> cases h2 : x.s == y.s <;> simp [Op.eqFields, part, isAgg, run_underlying Tryz.underlying3, e, h1, h2]
theorem eq_ref_stamp (w : World) (x y : St) (d : Nat) : (Op.equalIn (d + 2) 25 (.agg #[.int .i64 x.c, .int .i64 x.s]) (.agg #[.int .i64 y.c, .int .i64 y.s])).run Tryz.prog w = .ok (stEq x y) w := by
  rw [eq_struct Tryz.underlying25 (by kernel_rfl)]
  have e : ∀ (a b : Int), (Op.equalIn (d + 1) 3 (.int .i64 a) (.int .i64 b)).run Tryz.prog w = .ok (a == b) w := fun a b => run_equalIn_int w d 3 .i64 .i64 a b Tryz.underlying3
  simp only [stEq]
  cases h1 : x.c == y.c <;> cases h2 : x.s == y.s <;> simp [Op.eqFields, part, isAgg, run_underlying Tryz.underlying3, e, h1, h2]
theorem eq_ref_entry (w : World) (x y : En) (d : Nat) : (Op.equalIn (d + 3) 123 (.agg #[.string x.k, .string x.v, .bool x.d, .int .i64 x.s.c, .int .i64 x.s.s, .int .i64 x.a.c, .int .i64 x.a.s, .int .i64 x.p, .int .i64 x.g]) (.agg #[.string y.k, .string y.v, .bool y.d, .int .i64 y.s.c, .int .i64 y.s.s, .int .i64 y.a.c, .int .i64 y.a.s, .int .i64 y.p, .int .i64 y.g])).run Tryz.prog w = .ok (enEq x y) w := by
  rw [eq_struct Tryz.underlying123 (by kernel_rfl) (d + 2)]
  have e1 : ∀ (a b : ByteArray), (Op.equalIn (d + 2) 9 (.string a) (.string b)).run Tryz.prog w = .ok (a.toList == b.toList) w := fun a b => run_equalIn_string w (d + 1) 9 a b Tryz.underlying9
  have e2 : ∀ (a b : Bool), (Op.equalIn (d + 2) 4 (.bool a) (.bool b)).run Tryz.prog w = .ok (a == b) w := fun a b => run_equalIn_bool w (d + 1) 4 a b Tryz.underlying4
  have e3 : ∀ (a b : Int), (Op.equalIn (d + 2) 3 (.int .i64 a) (.int .i64 b)).run Tryz.prog w = .ok (a == b) w := fun a b => run_equalIn_int w (d + 1) 3 .i64 .i64 a b Tryz.underlying3
  have e4 := eq_ref_stamp w x.s y.s d
  have e5 := eq_ref_stamp w x.a y.a d
  obtain ⟨i0, hi0, hz0⟩ : ∃ i0, Tryz.prog.info? 25 = some i0 ∧ i0.size = 2 := by
    have : (Tryz.prog.info? 25).map (·.size) = some 2 := by kernel_rfl
    cases h : Tryz.prog.info? 25 with
    | none => rw [h] at this; cases this
    | some i0 => rw [h] at this; simp at this; exact ⟨i0, rfl, this⟩
  have p1 : (part 25 #[.string x.k, .string x.v, .bool x.d, .int .i64 x.s.c, .int .i64 x.s.s, .int .i64 x.a.c, .int .i64 x.a.s, .int .i64 x.p, .int .i64 x.g] 3).run Tryz.prog w = .ok (.agg #[.int .i64 x.s.c, .int .i64 x.s.s]) w := by
    simp [part, isAgg, run_underlying Tryz.underlying25, sizeOf, typeInfo, hi0, hz0]
  have p2 : (part 25 #[.string x.k, .string x.v, .bool x.d, .int .i64 x.s.c, .int .i64 x.s.s, .int .i64 x.a.c, .int .i64 x.a.s, .int .i64 x.p, .int .i64 x.g] 5).run Tryz.prog w = .ok (.agg #[.int .i64 x.a.c, .int .i64 x.a.s]) w := by
    simp [part, isAgg, run_underlying Tryz.underlying25, sizeOf, typeInfo, hi0, hz0]
  have q1 : (part 25 #[.string y.k, .string y.v, .bool y.d, .int .i64 y.s.c, .int .i64 y.s.s, .int .i64 y.a.c, .int .i64 y.a.s, .int .i64 y.p, .int .i64 y.g] 3).run Tryz.prog w = .ok (.agg #[.int .i64 y.s.c, .int .i64 y.s.s]) w := by
    simp [part, isAgg, run_underlying Tryz.underlying25, sizeOf, typeInfo, hi0, hz0]
  have q2 : (part 25 #[.string y.k, .string y.v, .bool y.d, .int .i64 y.s.c, .int .i64 y.s.s, .int .i64 y.a.c, .int .i64 y.a.s, .int .i64 y.p, .int .i64 y.g] 5).run Tryz.prog w = .ok (.agg #[.int .i64 y.a.c, .int .i64 y.a.s]) w := by
    simp [part, isAgg, run_underlying Tryz.underlying25, sizeOf, typeInfo, hi0, hz0]
  have ps : ∀ (cs : Array Value) (i : Nat) (u : Value), cs[i]? = some u → (part 9 cs i).run Tryz.prog w = .ok u w := fun cs i u h => by simp [part, isAgg, run_underlying Tryz.underlying9, h]
  have pb : ∀ (cs : Array Value) (i : Nat) (u : Value), cs[i]? = some u → (part 4 cs i).run Tryz.prog w = .ok u w := fun cs i u h => by simp [part, isAgg, run_underlying Tryz.underlying4, h]
  have pi : ∀ (cs : Array Value) (i : Nat) (u : Value), cs[i]? = some u → (part 3 cs i).run Tryz.prog w = .ok u w := fun cs i u h => by simp [part, isAgg, run_underlying Tryz.underlying3, h]
  have s1 := e1 x.k y.k
  have s2 := e1 x.v y.v
  have s3 := e2 x.d y.d
  have s6 := e3 x.p y.p
  have s7 := e3 x.g y.g
  unfold enEq
  generalize (x.k.toList == y.k.toList) = b1 at *
  generalize (x.v.toList == y.v.toList) = b2 at *
  generalize (x.d == y.d) = b3 at *
  generalize stEq x.s y.s = b4 at *
  generalize stEq x.a y.a = b5 at *
  generalize (x.p == y.p) = b6 at *
  generalize (x.g == y.g) = b7 at *
  have r0 := ps #[.string x.k, .string x.v, .bool x.d, .int .i64 x.s.c, .int .i64 x.s.s, .int .i64 x.a.c, .int .i64 x.a.s, .int .i64 x.p, .int .i64 x.g] 0 _ rfl
  have r1 := ps #[.string y.k, .string y.v, .bool y.d, .int .i64 y.s.c, .int .i64 y.s.s, .int .i64 y.a.c, .int .i64 y.a.s, .int .i64 y.p, .int .i64 y.g] 0 _ rfl
  have r2 := ps #[.string x.k, .string x.v, .bool x.d, .int .i64 x.s.c, .int .i64 x.s.s, .int .i64 x.a.c, .int .i64 x.a.s, .int .i64 x.p, .int .i64 x.g] 1 _ rfl
  have r3 := ps #[.string y.k, .string y.v, .bool y.d, .int .i64 y.s.c, .int .i64 y.s.s, .int .i64 y.a.c, .int .i64 y.a.s, .int .i64 y.p, .int .i64 y.g] 1 _ rfl
  have r4 := pb #[.string x.k, .string x.v, .bool x.d, .int .i64 x.s.c, .int .i64 x.s.s, .int .i64 x.a.c, .int .i64 x.a.s, .int .i64 x.p, .int .i64 x.g] 2 _ rfl
  have r5 := pb #[.string y.k, .string y.v, .bool y.d, .int .i64 y.s.c, .int .i64 y.s.s, .int .i64 y.a.c, .int .i64 y.a.s, .int .i64 y.p, .int .i64 y.g] 2 _ rfl
  have r6 := pi #[.string x.k, .string x.v, .bool x.d, .int .i64 x.s.c, .int .i64 x.s.s, .int .i64 x.a.c, .int .i64 x.a.s, .int .i64 x.p, .int .i64 x.g] 7 _ rfl
  have r7 := pi #[.string y.k, .string y.v, .bool y.d, .int .i64 y.s.c, .int .i64 y.s.s, .int .i64 y.a.c, .int .i64 y.a.s, .int .i64 y.p, .int .i64 y.g] 7 _ rfl
  have r8 := pi #[.string x.k, .string x.v, .bool x.d, .int .i64 x.s.c, .int .i64 x.s.s, .int .i64 x.a.c, .int .i64 x.a.s, .int .i64 x.p, .int .i64 x.g] 8 _ rfl
  have r9 := pi #[.string y.k, .string y.v, .bool y.d, .int .i64 y.s.c, .int .i64 y.s.s, .int .i64 y.a.c, .int .i64 y.a.s, .int .i64 y.p, .int .i64 y.g] 8 _ rfl
  clear ps pb pi e1 e2 e3
  cases b1
  · simp [Op.eqFields, r0, r1, s1]
  cases b2
  · simp [Op.eqFields, r0, r1, r2, r3, s1, s2]
  cases b3
  · simp [Op.eqFields, r0, r1, r2, r3, r4, r5, s1, s2, s3]
  cases b4
  · simp [Op.eqFields, r0, r1, r2, r3, r4, r5, p1, q1, s1, s2, s3, e4]
  cases b5
  · simp [Op.eqFields, r0, r1, r2, r3, r4, r5, p1, q1, p2, q2, s1, s2, s3, e4, e5]
  cases b6
  · simp [Op.eqFields, r0, r1, r2, r3, r4, r5, p1, q1, p2, q2, r6, r7, s1, s2, s3, e4, e5, s6]
  cases b7 <;> simp [Op.eqFields, r0, r1, r2, r3, r4, r5, p1, q1, p2, q2, r6, r7, r8, r9, s1, s2, s3, e4, e5, s6, s7]
end Go.Proofs.YtlieolehpmobfaaGreatDoor
end
section
namespace Go.Proofs.YtlieolehpmobfaaGreatDoor
open Go.RowKit
set_option maxRecDepth 100000
theorem st_isSite (n : Int) (w : World) :
    Calls Tryz.prog 284 #[.int .i64 n] w fun e w' => e = .returned (.bool (stSite n)) ∧ w = w' := by
  by_cases h1 : 0 ≤ n
  · by_cases h2 : n < 12
    · have H : Hid (stSite n = true) := by simp [Hid, stSite, h1]; omega
      go_enter Tryz.func284, Tryz.ntmps284
      go_wp2
      go_ret
      rw [H.out]
      exact ⟨rfl, rfl⟩
    · have H : Hid (stSite n = false) := by simp [Hid, stSite]; omega
      go_enter Tryz.func284, Tryz.ntmps284
      go_wp2
      go_ret
      rw [H.out]
      exact ⟨rfl, rfl⟩
  · have H : Hid (stSite n = false) := by simp [Hid, stSite]; omega
    go_enter Tryz.func284, Tryz.ntmps284
    go_wp2
    go_ret
    rw [H.out]
    exact ⟨rfl, rfl⟩
theorem st_good (c s : Int) (w : World) :
    Calls Tryz.prog 239 #[.agg #[.int .i64 c, .int .i64 s]] w fun e w' => e = .returned (.bool (stGood ⟨c, s⟩)) ∧ Only none_ w w' := by
  have O := Lib.hid ((Only.refl none_ w).alloc (.cells #[.int .i64 c, .int .i64 s] 39))
  obtain ⟨b, hb⟩ : ∃ b, stSite s = b := ⟨_, rfl⟩
  have HB := Lib.hid hb
  have HG : Hid (stGood ⟨c, s⟩ = (decide (1 ≤ c ∧ c ≤ 4294967295) && b)) := by rw [Hid, stGood, hb]
  clear hb
  by_cases h1 : 1 ≤ c
  · by_cases h2 : c ≤ 4294967295
    · have H : Hid (stGood ⟨c, s⟩ = b) := by rw [Hid, HG.out]; simp [h1, h2]
      go_enter Tryz.func239, Tryz.ntmps239
      go_wp2_with (first
        | (go_at_call 284; refine (st_isSite _ _).mono ?_; rintro e w' ⟨rfl, rfl⟩; rw [HB.out]))
      go_ret
      rw [H.out]
      exact ⟨rfl, O.out⟩
    · have H : Hid (stGood ⟨c, s⟩ = false) := by rw [Hid, HG.out]; simp [h1, h2]
      go_enter Tryz.func239, Tryz.ntmps239
      go_wp2_with fail
      go_ret
      rw [H.out]
      exact ⟨rfl, O.out⟩
  · have H : Hid (stGood ⟨c, s⟩ = false) := by rw [Hid, HG.out]; simp [h1]
    go_enter Tryz.func239, Tryz.ntmps239
    go_wp2_with fail
    go_ret
    rw [H.out]
    exact ⟨rfl, O.out⟩
end Go.Proofs.YtlieolehpmobfaaGreatDoor
end
section
namespace Go.Proofs.YtlieolehpmobfaaGreatDoor
open Go.RowKit
set_option maxRecDepth 100000
theorem rf_site (n : Int) (w : World) :
    Calls Tryz.prog 57 #[.int .i64 n] w fun e w' => e = .returned (.bool (stSite n)) ∧ w = w' := by
  by_cases h1 : 0 ≤ n
  · by_cases h2 : n < 12
    · have H : Hid (stSite n = true) := by simp [Hid, stSite, h1]; omega
      go_enter Tryz.func57, Tryz.ntmps57
      go_wp2
      go_ret
      rw [H.out]
      exact ⟨rfl, rfl⟩
    · have H : Hid (stSite n = false) := by simp [Hid, stSite]; omega
      go_enter Tryz.func57, Tryz.ntmps57
      go_wp2
      go_ret
      rw [H.out]
      exact ⟨rfl, rfl⟩
  · have H : Hid (stSite n = false) := by simp [Hid, stSite]; omega
    go_enter Tryz.func57, Tryz.ntmps57
    go_wp2
    go_ret
    rw [H.out]
    exact ⟨rfl, rfl⟩
theorem rf_good (c s : Int) (w : World) :
    Calls Tryz.prog 111 #[.agg #[.int .i64 c, .int .i64 s]] w fun e w' => e = .returned (.bool (stGood ⟨c, s⟩)) ∧ Only none_ w w' := by
  have O := Lib.hid ((Only.refl none_ w).alloc (.cells #[.int .i64 c, .int .i64 s] 25))
  obtain ⟨b, hb⟩ : ∃ b, stSite s = b := ⟨_, rfl⟩
  have HB := Lib.hid hb
  have HG : Hid (stGood ⟨c, s⟩ = (decide (1 ≤ c ∧ c ≤ 4294967295) && b)) := by rw [Hid, stGood, hb]
  clear hb
  by_cases h1 : 1 ≤ c
  · by_cases h2 : c ≤ 4294967295
    · have H : Hid (stGood ⟨c, s⟩ = b) := by rw [Hid, HG.out]; simp [h1, h2]
      go_enter Tryz.func111, Tryz.ntmps111
      go_wp2_with (first
        | (go_at_call 57; refine (rf_site _ _).mono ?_; rintro e w' ⟨rfl, rfl⟩; rw [HB.out]))
      go_ret
      rw [H.out]
      exact ⟨rfl, O.out⟩
    · have H : Hid (stGood ⟨c, s⟩ = false) := by rw [Hid, HG.out]; simp [h1, h2]
      go_enter Tryz.func111, Tryz.ntmps111
      go_wp2_with fail
      go_ret
      rw [H.out]
      exact ⟨rfl, O.out⟩
  · have H : Hid (stGood ⟨c, s⟩ = false) := by rw [Hid, HG.out]; simp [h1]
    go_enter Tryz.func111, Tryz.ntmps111
    go_wp2_with fail
    go_ret
    rw [H.out]
    exact ⟨rfl, O.out⟩
theorem rf_later (c s c' s' : Int) (w : World) :
    Calls Tryz.prog 112 #[.agg #[.int .i64 c, .int .i64 s], .agg #[.int .i64 c', .int .i64 s']] w fun e w' => e = .returned (.bool (stLater ⟨c, s⟩ ⟨c', s'⟩)) ∧ Only none_ w w' := by
  have O := Lib.hid (((Only.refl none_ w).alloc (.cells #[.int .i64 c, .int .i64 s] 25)).alloc (.cells #[.int .i64 c', .int .i64 s'] 25))
  by_cases h : c = c'
  · have hz : (c != c') = false := by simp [h]
    have H : Hid (stLater ⟨c, s⟩ ⟨c', s'⟩ = decide (s' < s)) := by simp [Hid, stLater, h]
    clear h
    go_enter Tryz.func112, Tryz.ntmps112
    go_wp2_with fail
    go_ret
    rw [H.out]
    exact ⟨rfl, O.out⟩
  · have hz : (c != c') = true := by simp [h]
    have H : Hid (stLater ⟨c, s⟩ ⟨c', s'⟩ = decide (c' < c)) := by simp [Hid, stLater, h]
    clear h
    go_enter Tryz.func112, Tryz.ntmps112
    go_wp2_with fail
    go_ret
    rw [H.out]
    exact ⟨rfl, O.out⟩
theorem st_to (c s : Int) (w : World) :
    Calls Tryz.prog 182 #[.agg #[.int .i64 c, .int .i64 s]] w fun e w' => e = .returned (.agg #[.int .i64 c, .int .i64 s]) ∧ Only none_ w w' := by
  have O := Lib.hid (((Only.refl none_ w).alloc (.cells #[.int .i64 c, .int .i64 s] 39)).alloc (.cells #[.int .i64 c, .int .i64 s] 25))
  go_enter Tryz.func182, Tryz.ntmps182
  go_wp2_with fail
  exact bodyPost_ret (v := .agg #[.int .i64 c, .int .i64 s]) (by simp [results, Tryz.results182, go_sem]) rfl ⟨rfl, O.out⟩
end Go.Proofs.YtlieolehpmobfaaGreatDoor
end
section
namespace Go.Proofs.YtlieolehpmobfaaGreatDoor
open Go.RowKit
section
variable {P : Program} {ops : Array Oper} {md : Region.Mode} {S : World → Prop}
def Came (P : Program) (S : World → Prop) (v : Value) : Result Next → Prop
  | .ok (.value u) w => u = v ∧ S w
  | .ok .skip w => undef = v ∧ S w
  | .ok (.enter f args) w => Calls P f args w fun e w' => e = .returned v ∧ S w'
  | _ => False
def Steady (P : Program) (ops : Array Oper) (S : World → Prop) (o : Oper) (v : Value) (a : Act) : Prop :=
  (Region.wanted o (yielded ops a.tmps) = true ∧ ∀ w, S w → Came P S v ((execOp a.eval o).run P w)) ∨ (Region.wanted o (yielded ops a.tmps) = false ∧ undef = v)
def sdOp (P : Program) (ops : Array Oper) (S : World → Prop) (i : Nat) (K : Act → Prop) (a : Act) : Prop :=
  match ops[i]? with
  | none => K a
  | some o => ∃ v, Steady P ops S o v a ∧ K (a.put o.dst v)
def sdList (P : Program) (ops : Array Oper) (S : World → Prop) (K : Act → Prop) : List Oper → Act → Prop
  | [], a => K a
  | o :: r, a => ∃ v, Steady P ops S o v a ∧ sdList P ops S K r (a.put o.dst v)
def sdAny (P : Program) (md : Region.Mode) (ops : Array Oper) (S : World → Prop) (n : Nat) (L : Array Bool → Act → Prop) : Nat → Array Bool → Act → Prop
  | 0, listed, a => L listed a
  | f + 1, listed, a => Region.ready md ops listed ≠ [] ∧ ∀ i ∈ Region.ready md ops listed, i < n ∧ sdOp P ops S i (sdAny P md ops S n L f (listed.setIfInBounds i true)) a
theorem sdOp_mono {i : Nat} {a : Act} {K K' : Act → Prop} (h : ∀ a, K a → K' a) (hh : sdOp P ops S i K a) : sdOp P ops S i K' a := by
  unfold sdOp at *
  split at hh
  · exact h _ hh
  · obtain ⟨v, h1, h2⟩ := hh
    exact ⟨v, h1, h _ h2⟩
theorem sdOp_wp {i : Nat} {a : Act} {w : World} {K : Act → Prop} {K' : Act → World → Prop} {Q : Exit → Act → World → Prop} (hS : S w) (h : ∀ a w, S w → K a → K' a w) (hh : sdOp P ops S i K a) : wpOp P ops Q i K' a w := by
  unfold sdOp at hh
  unfold wpOp
  split at hh
  · next e => simp only [e]; exact h _ _ hS hh
  · next o e =>
    simp only [e]
    obtain ⟨v, ⟨hw, hv⟩ | ⟨hw, rfl⟩, hK⟩ := hh
    · rw [if_pos hw]
      refine .inl ?_
      have hv := hv w hS
      unfold Oper.wp
      generalize (execOp a.eval o).run P w = r at hv ⊢
      cases r with
      | halt x w' => exact hv.elim
      | ok n w' =>
        cases n <;> simp only [Came] at hv <;> simp only [Oper.upon]
        case value u => obtain ⟨rfl, h2⟩ := hv; exact h _ _ h2 hK
        case skip => obtain ⟨rfl, h2⟩ := hv; exact h _ _ h2 hK
        case enter f args => exact hv.mono fun e w'' ⟨he, h2⟩ => by subst he; exact h _ _ h2 hK
    · rw [if_neg (by simp [hw])]
      exact h _ _ hS hK
theorem sdOp_swap {j : Nat} {oi oj : Oper} {v : Value} {a : Act} {K : Act → Prop} (hj : ops[j]? = some oj) (hap : oi.apart ops oj = true)
    (hsi : ∀ cs b, oi.op ≠ .select cs b) (hsj : ∀ cs b, oj.op ≠ .select cs b) (hy : Steady P ops S oi v a) (h : sdOp P ops S j K (a.put oi.dst v)) :
    sdOp P ops S j (fun a' => Steady P ops S oi v a' ∧ K (a'.put oi.dst v)) a := by
  obtain ⟨h1, h2, h3⟩ := Oper.apart_spec hap
  unfold sdOp at *
  simp only [hj] at *
  obtain ⟨u, hu, hK⟩ := h
  refine ⟨u, ?_, ?_, ?_⟩
  · unfold Steady at hu ⊢
    rw [wanted_put oj a oi.dst v h1, execOp_put oj hsj a oi.dst v h1] at hu
    exact hu
  · unfold Steady at hy ⊢
    rw [wanted_put oi a oj.dst u h3, execOp_put oi hsi a oj.dst u h3]
    exact hy
  · rw [← Act.put_comm a v u h2]
    exact hK
theorem sdOp_of {i : Nat} {oi : Oper} {v : Value} {a : Act} {K : Act → Prop} (hi : ops[i]? = some oi) (hy : Steady P ops S oi v a) (h : K (a.put oi.dst v)) : sdOp P ops S i K a := by
  unfold sdOp
  simp only [hi]
  exact ⟨v, hy, h⟩
theorem sdAny_first {n i : Nat} {oi : Oper} {v : Value} {L : Array Bool → Act → Prop} (hi : ops[i]? = some oi) (hsel : ∀ (j : Nat) (o : Oper) cs b, ops[j]? = some o → o.op ≠ .select cs b)
    (hin : i < n) (hwait : ∀ listed, HeadInv md ops n listed → listed.getD i true = false → ∀ t, n ≤ t → t ∉ Region.ready md ops listed)
    (hdone : ∀ listed a, L listed a → ∀ j ∈ Region.ready md ops listed, n ≤ j) :
    ∀ (f : Nat) (listed : Array Bool) (a : Act), HeadInv md ops n listed →
      (∀ j oj, ops[j]? = some oj → j ≠ i → listed.getD j true = false → (∀ e ∈ oj.after, Region.binds md e = true → e.on ≠ i) → oi.apart ops oj = true) →
      i ∈ Region.ready md ops listed → Steady P ops S oi v a →
      sdAny P md ops S n L f (listed.setIfInBounds i true) (a.put oi.dst v) → sdAny P md ops S n L (f + 1) listed a
  | f, listed, a, inv, hfree, hr, hy, H => by
    have hun := (mem_ready.1 hr).1
    refine ⟨fun h => (by rw [h] at hr; cases hr), fun j hj => ?_⟩
    have hjn : j < n := by
      rcases Nat.lt_or_ge j n with h | h
      · exact h
      · exact absurd hj (hwait listed inv hun j h)
    refine ⟨hjn, ?_⟩
    by_cases hji : j = i
    · subst hji; exact sdOp_of hi hy H
    · obtain ⟨hjun, oj, hoj, hall⟩ := mem_ready.1 hj
      match f, H with
      | 0, H => exact absurd (hdone _ _ H j (ready_mono hj hji)) (by omega)
      | f + 1, H =>
        have hnot : ∀ e ∈ oj.after, Region.binds md e = true → e.on ≠ i := fun e he hb heq => by
          have h1 := hall e he hb
          rw [heq, getD_both hun] at h1
          cases h1
        have h2 := sdOp_swap hoj (hfree j oj hoj hji hjun hnot) (fun cs b => hsel i oi cs b hi) (fun cs b => hsel j oj cs b hoj) hy (H.2 j (ready_mono hj hji)).2
        refine sdOp_mono (fun a' h3 => sdAny_first hi hsel hin hwait hdone f (listed.setIfInBounds j true) a' (inv.set hj hjn) (fun k ok hk hki hu hno => ?_) (ready_mono hr (Ne.symm hji)) h3.1 ?_) h2
        · refine hfree k ok hk hki ?_ hno
          by_cases hjk : j = k
          · subst hjk; exact hjun
          · rw [getD_set_ne true hjk] at hu; exact hu
        · rw [Array.setIfInBounds_comm _ _ hji]
          exact h3.2
theorem sdAny_text {n g : Nat} {Lq : Act → Prop} (hsel : Region.noSelect ops = true) (hwait : ∀ i, i < n → ∀ listed, HeadInv md ops n listed → listed.getD i true = false → ∀ t, n ≤ t → t ∉ Region.ready md ops listed) :
    ∀ (l : List Oper) (k : Nat) (listed : Array Bool) (a : Act), (∀ j, j < l.length → l[j]? = ops[k + j]?) → k + l.length = n → HeadInv md ops n listed →
    Region.lexHead md ops g l.length k listed = true → sdList P ops S Lq l a →
    sdAny P md ops S n (fun listed' a' => Region.seqB md ops g n listed' = true ∧ Lq a') l.length listed a
  | [], k, listed, a, _, hk, _, hB, h => by
    have : k = n := by simpa using hk
    subst this
    exact ⟨by simpa [Region.lexHead] using hB, h⟩
  | o :: l, k, listed, a, hl, hk, inv, hB, h => by
    have h0 : ops[k]? = some o := by simpa using (hl 0 (by simp)).symm
    simp only [List.length_cons, Region.lexHead, Bool.and_eq_true] at hB
    obtain ⟨⟨hr, hf⟩, hB'⟩ := hB
    have hkn : k < n := by simp only [List.length_cons] at hk; omega
    have hr' : k ∈ Region.ready md ops listed := by simpa using hr
    obtain ⟨v, hy, hK⟩ := h
    exact sdAny_first h0 (Region.noSelect_spec hsel) hkn (hwait k hkn) (fun listed' a' hL => seqB_ready hL.1) l.length listed a inv (Region.free_spec h0 hf) hr' hy
      (sdAny_text hsel hwait l (k + 1) _ _ (fun j hj => by have := hl (j + 1) (by simp; omega); simpa [Nat.add_assoc, Nat.add_comm 1 j] using this) (by simp only [List.length_cons] at hk; omega) (inv.set hr' hkn) hB' hK)
theorem sdAny_wp {n g : Nat} {L : Array Bool → Act → Prop} {Q : Exit → Act → World → Prop} (hL : ∀ listed a w, S w → L listed a → wpAny P md ops Q g listed a w) :
    ∀ (f : Nat) (listed : Array Bool) (a : Act) (w : World), S w → sdAny P md ops S n L f listed a → wpAny P md ops Q (f + g) listed a w
  | 0, listed, a, w, hS, h => by rw [Nat.zero_add]; exact hL _ _ _ hS h
  | f + 1, listed, a, w, hS, h => by
    rw [show f + 1 + g = (f + g) + 1 by omega]
    exact ⟨fun h0 => absurd h0 h.1, fun i hi => sdOp_wp hS (fun a' w' hS' h' => sdAny_wp hL f _ a' w' hS' h') (h.2 i hi).2⟩
def sdTail (ops : Array Oper) (n : Nat) : Bool :=
  Region.noSelect ops && (decide (n = ops.size) || decide (n < ops.size) && Region.sinkB .any ops n && Region.chainB .any ops n) && Region.lexHead .any ops (ops.size - n) n 0 (Array.replicate ops.size false)
theorem wp_region_steady (S : World → Prop) {id : Nat} {Q : Exit → Act → World → Prop} {a : Act} {w : World} {l : List Oper} (n : Nat) (hm : P.follows .mixedOrders = true) (hB : sdTail l.toArray n = true) (hS : S w.drew)
    (h : sdList P l.toArray S (fun a' => ∀ w', S w' → wpList P l.toArray Q (l.drop n) a' w') (l.take n) a) : (Code.region id l.toArray true).wp P Q a w := by
  simp only [sdTail, Bool.and_eq_true, Bool.or_eq_true, decide_eq_true_eq] at hB
  obtain ⟨⟨hsel, hn⟩, hlex⟩ := hB
  have hle : n ≤ l.length := by rcases hn with h | h <;> simp at h <;> omega
  have htl : (l.take n).length = n := by simp; omega
  have hdl : (l.drop n).length = l.toArray.size - n := by simp
  have inv0 : HeadInv .any l.toArray n (Array.replicate l.toArray.size false) :=
    ⟨by simp, fun j oj _ hl => (by rw [getD_replicate_false] at hl; cases hl), fun t _ ht => getD_in (by simpa using ht) (getD_replicate_false _ _)⟩
  have hwait : ∀ i, i < n → ∀ listed, HeadInv .any l.toArray n listed → listed.getD i true = false → ∀ t, n ≤ t → t ∉ Region.ready .any l.toArray listed := by
    intro i hi listed inv hun t ht
    rcases hn with h | ⟨⟨h1, h2⟩, h3⟩
    · intro hr
      obtain ⟨_, o, ho, _⟩ := mem_ready.1 hr
      have := (Array.getElem?_eq_some_iff.1 ho).1
      omega
    · exact tail_waits h2 h3 h1 inv _ i rfl hi hun t ht
  have H := sdAny_text (md := .any) (g := l.toArray.size - n) hsel hwait (l.take n) 0 _ a (fun j hj => by
    have hj' : j < n := by rw [htl] at hj; exact hj
    simp [hj']) (by simpa using htl) inv0 (by rw [htl]; exact hlex) h
  refine wp_region_any hm ?_
  have := sdAny_wp (Q := Q) (g := l.toArray.size - n) (fun listed a' w' hS' hL => by
    have := wpAny_of_seq (md := .any) (Q' := Q) (l.drop n) n listed a' w' (fun j => by simp [List.getElem?_drop]) (by rw [hdl]; exact hL.1) (hL.2 w' hS')
    rwa [hdl] at this) _ _ _ _ hS H
  rw [htl, show n + (l.toArray.size - n) = l.toArray.size by omega] at this
  exact this
/-! The steps of a walk. -/
theorem sd_nil {K : Act → Prop} {a : Act} (h : K a) : sdList P ops S K [] a := h
theorem sd_value {K : Act → Prop} {a : Act} {o : Oper} {r : List Oper} {v : Value} (hw : Region.wanted o (yielded ops a.tmps) = true) (hv : ∀ w, S w → (execOp a.eval o).run P w = .ok (.value v) w) (h : sdList P ops S K r (a.put o.dst v)) : sdList P ops S K (o :: r) a :=
  ⟨v, .inl ⟨hw, fun w hS => by rw [hv w hS]; exact ⟨rfl, hS⟩⟩, h⟩
theorem sd_skip {K : Act → Prop} {a : Act} {o : Oper} {r : List Oper} (hw : Region.wanted o (yielded ops a.tmps) = false) (h : sdList P ops S K r (a.put o.dst undef)) : sdList P ops S K (o :: r) a :=
  ⟨undef, .inr ⟨hw, rfl⟩, h⟩
theorem sd_call {K : Act → Prop} {a : Act} {o : Oper} {r : List Oper} {v : Value} {f : FuncId} {args : Array Value} (hw : Region.wanted o (yielded ops a.tmps) = true) (hv : ∀ w, S w → (execOp a.eval o).run P w = .ok (.enter f args) w)
    (hc : ∀ w, S w → Calls P f args w fun e w' => e = .returned v ∧ S w') (h : sdList P ops S K r (a.put o.dst v)) : sdList P ops S K (o :: r) a :=
  ⟨v, .inl ⟨hw, fun w hS => by rw [hv w hS]; exact hc w hS⟩, h⟩
end
end Go.Proofs.YtlieolehpmobfaaGreatDoor
end
