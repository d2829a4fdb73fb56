/- The call of CrcJoins answers yes, and changes nothing that was there, if the calls of a table do what is asked of them. The statement itself is proved in another text. -/
import Derived.Test.YtimhedjbpjakkaaCrcS
namespace Go.Proofs.Ytimhedjbpjakkaa
open Go.RowKit
attribute [local go_sem ↓] Go.wp_at_zero Go.wp_at_succ

/-- A table, and two slices that lie in a box. -/
structure Pj (Tb : World → Nat → Prop) (B : World) (g gb : Nat) (x y : Value) (w : World) : Prop where
  pk : Pk Tb B g w
  c0 : w.cell? ⟨gb, 0, none⟩ = some x
  c1 : w.cell? ⟨gb, 1, none⟩ = some y
theorem Pj.all {Tb : World → Nat → Prop} {B w : World} {g gb : Nat} {x y : Value} (p : Pj Tb B g gb x y w) : Pj Tb B g gb x y w ∧ w.cell? ⟨gb, 0, none⟩ = some x ∧ w.cell? ⟨gb, 1, none⟩ = some y := ⟨p, p.c0, p.c1⟩
theorem box_new (w : World) (x : Value) (t : TypeId) (k : Nat) (hk : k = w.heap.size) : (w.alloc (.cells #[x] t)).cell? ⟨k, 0, none⟩ = some x := by subst hk; simp
section
variable {Tb : World → Nat → Prop} (C : TabC Tb)
theorem Pj.go {B w w' : World} {g gb : Nat} {A D : Option Addr} {L c M d : Nat} (p : Pj Tb B g gb (.slice A L c) (.slice D M d) w) (q : Pk Tb B g w') (s : Sl w w') : Pj Tb B g gb (.slice A L c) (.slice D M d) w' := ⟨q, s.out _ _ _ _ _ p.c0, s.out _ _ _ _ _ p.c1⟩
include C
theorem Pj.alloc {B w : World} {g gb : Nat} {x y : Value} (p : Pj Tb B g gb x y w) (o : Obj) : Pj Tb B g gb x y (w.alloc o) := ⟨Pk.alloc C p.pk o, cell_alloc _ p.c0, cell_alloc _ p.c1⟩
theorem Pj.drew {B w : World} {g gb : Nat} {x y : Value} (p : Pj Tb B g gb x y w) : Pj Tb B g gb x y w.drew := ⟨Pk.drew C p.pk, p.c0, p.c1⟩
theorem pk_val {B w : World} {g : Nat} (p : Pk Tb B g w) {k : Nat} {A : Option Addr} {L c : Nat} (hk : w.cell? ⟨k, 0, none⟩ = some (.slice A L c)) {bs : List UInt8} (h : Byt B (far g) (.slice A L c) bs) :
    Calls Try.prog 12 #[.pointer (some ⟨g, 0, none⟩), .slice (some ⟨k, 0, none⟩) 1 1] w fun e w' => e = .returned (.int .u32 (crcSum bs : Nat)) ∧ Pk Tb B g w' ∧ Sl w w' := pk_one C p h k hk
set_option maxRecDepth 100000 in
set_option maxHeartbeats 1600000 in
theorem joins_short (a b : Nat) (ha : a < 4294967296) (hb : b < 4294967296) (n : Int) (hn : n ≤ 3000) (x y : Value) (xs ys : List UInt8) (S : Nat → Prop) (W : World) (hx : Byt W S x xs) (hy : Byt W S y ys) (hS : ∀ b, S b → b < W.heap.size) (hl : xs.length ≤ 200) (hm : ys.length ≤ 200) :
    Calls Try.prog 4 #[.int .u32 (a : Int), .int .u32 (b : Int), .int .i64 n, .agg #[x, y]] W fun e w' => e = .returned (.bool true) ∧ Below W.heap.size W w' := by
  have hv : ∃ A L c, L = xs.length ∧ x = .slice A L c := by obtain ⟨A, c, h, _⟩ := hx; exact ⟨A, _, c, rfl, h⟩
  obtain ⟨A, L, c, hL, rfl⟩ := hv
  have hv : ∃ A L c, L = ys.length ∧ y = .slice A L c := by obtain ⟨A, c, h, _⟩ := hy; exact ⟨A, _, c, rfl, h⟩
  obtain ⟨D, M, d, hM, rfl⟩ := hv
  have HX := Lib.hid hx
  have HY := Lib.hid hy
  have hL2 : L ≤ 200 := by omega
  have hM2 : M ≤ 200 := by omega
  have hz := run_zero_tab
  have hp := cstN_lt (8 * n.toNat) ha
  have hxo := u32_xor_nat _ b hp hb
  have BX := Lib.hid (Blk.new W 44 #[.slice A L c, .slice D M d])
  have HLn := Lib.hid hL
  have HMn := Lib.hid hM
  have hxl := Lib.hid hl
  have hyl := Lib.hid hm
  clear hx hy hL hM hl hm
  go_enter Try.func4, Try.ntmps4
  go_wp2_with (first
    | (go_at_call 9; refine (speaks_any C _).mono ?_; rintro e W1 ⟨rfl, o1⟩
       have BX1 := Lib.hid (BX.out.only o1 (fun h => h))
       have b0 : W1.cell? ⟨W.heap.size, 0, none⟩ = some (.slice A L c) := BX1.out.cell_ (i := 0) rfl
       have b1 : W1.cell? ⟨W.heap.size, 1, none⟩ = some (.slice D M d) := BX1.out.cell_ (i := 1) rfl))
  have BX2 := Lib.hid (BX1.out.alloc (.cells tabZero 38))
  have P0 := Lib.hid (Pk.start C W1)
  have OB : Hid (Only none_ W (W1.alloc (.cells tabZero 38))) := (((Only.refl none_ W).alloc _).trans o1).alloc _
  have hWg : Hid (W.heap.size ≤ W1.heap.size) := Nat.le_trans (by simp) o1.size
  have hgb : W.heap.size < W1.heap.size := Nat.lt_of_lt_of_le (by simp) o1.size
  have FX := Lib.hid (byt_far HX.out hS OB.out hWg.out)
  have FY := Lib.hid (byt_far HY.out hS OB.out hWg.out)
  clear HX HY BX BX1 b0 b1 o1
  generalize W1.alloc (.cells tabZero 38) = W2 at *
  generalize W1.heap.size = g at *
  generalize W.heap.size = gb at BX2 hgb ⊢
  go_wp2_with (first
    | (go_at_call 16; refine (pk_join C P0.out a b n ha hb (by omega)).mono ?_; rintro e W3 ⟨rfl, p3, s3⟩; rw [Nat.xor_comm b]; have P3 := Lib.hid p3; have S3 := Lib.hid s3; clear p3 s3)
    | (go_at_call 17; refine (refPass_any a ha n (by omega) _).mono ?_; rintro e w' ⟨rfl, rfl⟩))
  have b0 : W3.cell? ⟨gb, 0, none⟩ = some (.slice A L c) := S3.out.out _ _ _ _ _ (BX2.out.cell_ (i := 0) rfl)
  have b1 : W3.cell? ⟨gb, 1, none⟩ = some (.slice D M d) := S3.out.out _ _ _ _ _ (BX2.out.cell_ (i := 1) rfl)
  obtain ⟨i0, hi0, hz0, hz1, hz2⟩ := info_parts u8_info
  have X4 : Hid ((W3.drew.alloc (.cells #[] 5)).ownsRow W3.heap.size 5 1 (.slice (some ⟨W3.heap.size, 0, none⟩) 0 0) ([] : List UInt8).length (byts [])) := by
    have := World.ownsRow_made (base := W3.heap.size) (e := 5) (size := 1) W3.drew #[] 0 (by simp) (by simp [maxLen]) rfl
    simpa [byts, Hid] using this
  have O4 : Hid (Only none_ W3 (W3.drew.alloc (.cells #[] 5))) := (Only.refl none_ W3).drew.alloc _
  have hc1 : ([] : List UInt8).length + xs.length ≤ 140737488355328 := by have := hxl.out; simp; omega
  have hc2 : ([] ++ xs : List UInt8).length + ys.length ≤ 140737488355328 := by have := hxl.out; have := hyl.out; simp; omega
  go_region_held3 (fun w' => Pk Tb W2 g w' ∧ w'.cell? ⟨gb, 0, none⟩ = some (.slice A L c) ∧ w'.cell? ⟨gb, 1, none⟩ = some (.slice D M d))
    (first | exact ⟨P3.out.drew C, b0, b1⟩ | exact ⟨Pk.alloc C (P3.out.drew C) _, cell_alloc _ b0, cell_alloc _ b1⟩ | exact ⟨P5.out, b50, b51⟩ | exact ⟨P6.out, b60, b61⟩)
    (first
      | (refine step_append_byt _ rfl (.tmp 40) (.tmp 42) _ rfl W3.heap.size 5 i0 (.int .u8 0) Try.underlying22 hi0 hz0 hz1 hz2 rfl (.slice (some ⟨W3.heap.size, 0, none⟩) 0 0) [] rfl (by exact X4.out) _ _ xs rfl ((Pk.alloc C (P3.out.drew C) _).byt FX.out) hc1 (by simp) ?_
         intro A5 n5 c5 W5 hown5 hgrow5 hmv5
         have O5 : Hid (Only none_ W3 W5) := O4.out.grown hgrow5 (fun k hk => .inr (by simp [Value.ownBlock] at hk; omega))
         have P5 := Lib.hid (Pk.keep C P3.out O5.out)
         have X5 := Lib.hid hown5
         have b50 := (P3.out.sl_none C O5.out).out _ _ _ _ _ b0
         have b51 := (P3.out.sl_none C O5.out).out _ _ _ _ _ b1
         clear hown5 hgrow5 hmv5)
      | (refine step_append_byt _ rfl (.tmp 43) (.tmp 45) _ rfl W3.heap.size 5 i0 (.int .u8 0) Try.underlying22 hi0 hz0 hz1 hz2 rfl (.slice A5 n5 c5) _ rfl (by exact X5.out) _ _ ys rfl (P5.out.byt FY.out) hc2 O5.out.size ?_
         intro A6 n6 c6 W6 hown6 hgrow6 hmv6
         have O6 : Hid (Only none_ W3 W6) := O5.out.grown hgrow6 (fun k hk => .inr (X5.out.lt k hk).1)
         have P6 := Lib.hid (Pk.keep C P3.out O6.out)
         have X6 := Lib.hid hown6
         have b60 := (P3.out.sl_none C O6.out).out _ _ _ _ _ b0
         have b61 := (P3.out.sl_none C O6.out).out _ _ _ _ _ b1
         clear hown6 hgrow6 hmv6))
  all_goals go_wp2_with fail
  have OB6 : Hid (Only none_ W W6) := OB.out.trans' P6.out.ho (fun k hk e => by have := hWg.out; simp only [one] at e; omega)
  have Q6 : Hid (Pj Tb W6 g gb (.slice A L c) (.slice D M d) W6) := ⟨⟨P6.out.tb, Only.refl _ _⟩, b60, b61⟩
  have GX := Lib.hid (P6.out.byt FX.out)
  have GY := Lib.hid (P6.out.byt FY.out)
  have GB : Hid (Byt W6 (far g) (.slice A6 n6 c6) (xs ++ ys)) := (Byt.of_own X6.out).mono (fun k _ hk e => by
    have h1 := (X6.out.lt k hk).1
    have h2 := C.lt P3.out.tb
    omega)
  have hsx := sum_lt xs
  have hsy := sum_lt ys
  have HJ : Hid (crcSum ys ^^^ cstN (8 * ((M : Nat) : Int).toNat) (crcSum xs) = crcSum (xs ++ ys)) := by rw [Hid, sum_join, ← HMn.out]; rfl
  clear P6 P5 P3 X4 X5 X6 O4 O5 O6 b0 b1 b50 b51 b60 b61 S3 P0 BX2 FX FY OB hc1 hc2 hi0 hz0 hz1 hz2 hxo hp hgb
  have tokX : True := trivial
  go_region_held3 (fun w' => Pj Tb W6 g gb (.slice A L c) (.slice D M d) w' ∧ w'.cell? ⟨gb, 0, none⟩ = some (.slice A L c) ∧ w'.cell? ⟨gb, 1, none⟩ = some (.slice D M d))
    (first | exact (Pj.drew C Q6.out).all | exact (Pj.alloc C (And.left (by assumption)) _).all | exact Pj.all (by assumption))
    (first
      | (go_at_call 12; have _t := tokX; refine (pk_val C (Pj.pk (And.left (by assumption))) (by repeat (with_reducible first | exact box_new _ _ _ _ (by simp <;> fail) | refine cell_alloc _ ?_ | refine cell_drew ?_ | refine Sl.out (by assumption) _ _ _ _ _ ?_)) GX.out).mono ?_; rintro e w7 ⟨rfl, p7, s7⟩; have P7 := Pj.go (And.left (by assumption)) p7 s7; clear tokX; have tokY : True := trivial)
      | (go_at_call 12; have _t := tokY; refine (pk_val C (Pj.pk (And.left (by assumption))) (by repeat (with_reducible first | exact box_new _ _ _ _ (by simp <;> fail) | refine cell_alloc _ ?_ | refine cell_drew ?_ | refine Sl.out (by assumption) _ _ _ _ _ ?_)) GY.out).mono ?_; rintro e w7 ⟨rfl, p7, s7⟩; have P7 := Pj.go (And.left (by assumption)) p7 s7; clear tokY; have tokJ : True := trivial)
      | (go_at_call 16; refine (pk_join C (Pj.pk (And.left (by assumption))) (crcSum xs) (crcSum ys) (M : Int) hsx hsy (by omega)).mono ?_; rintro e w7 ⟨rfl, p7, s7⟩; rw [HJ.out]; have P7 := Pj.go (And.left (by assumption)) p7 s7)
      | (go_at_call 12; have _t := tokJ; refine (pk_val C (Pj.pk (And.left (by assumption))) (by repeat (with_reducible first | exact box_new _ _ _ _ (by simp <;> fail) | refine cell_alloc _ ?_ | refine cell_drew ?_ | refine Sl.out (by assumption) _ _ _ _ _ ?_)) GB.out).mono ?_; rintro e w7 ⟨rfl, p7, s7⟩; have P7 := Pj.go (And.left (by assumption)) p7 s7; clear tokJ))
  all_goals
    go_wp2_with fail
    go_ret
    exact ⟨rfl, Pk.below P7.pk OB6.out hWg.out⟩
theorem joins_long (a b : Nat) (n : Int) (x y : Value) (A D : Option Addr) (L c M d : Nat) (W : World) (hx : x = .slice A L c) (hy : y = .slice D M d) (h : 3000 < n ∨ 200 < L ∨ 200 < M) :
    Calls Try.prog 4 #[.int .u32 (a : Int), .int .u32 (b : Int), .int .i64 n, .agg #[x, y]] W fun e w' => e = .returned (.bool true) ∧ Below W.heap.size W w' := by
  subst hx hy
  have BX := Lib.hid (Blk.new W 44 #[.slice A L c, .slice D M d])
  have hO : Hid (Only none_ W (W.alloc (.cells #[.slice A L c, .slice D M d] 44))) := (Only.refl none_ W).alloc _
  by_cases h1 : 3000 < n
  · clear h
    have tok : True := trivial
    go_enter Try.func4, Try.ntmps4
    go_wp2_with (first
      | (go_at_call 9; have _t := tok; refine (speaks_any C _).mono ?_; rintro e W1 ⟨rfl, o1⟩; clear tok
         have BX1 := Lib.hid (BX.out.only o1 (fun h => h))
         have O1 := Lib.hid (hO.out.trans o1)
         have b0 : W1.cell? ⟨W.heap.size, 0, none⟩ = some (.slice A L c) := BX1.out.cell_ (i := 0) rfl
         have b1 : W1.cell? ⟨W.heap.size, 1, none⟩ = some (.slice D M d) := BX1.out.cell_ (i := 1) rfl
         clear o1)
      | (go_at_call 9; refine (speaks_any C _).mono ?_; rintro e W2 ⟨rfl, o2⟩))
    go_ret
    exact ⟨rfl, (O1.out.trans o2).below (Nat.le_refl _) (fun k hk => hk.elim)⟩
  · have h1' : n ≤ 3000 := by omega
    by_cases h2 : 200 < L
    · have h2' : (200 : Int) < (L : Int) := by omega
      clear h
      have tok : True := trivial
      go_enter Try.func4, Try.ntmps4
      go_wp2_with (first
        | (go_at_call 9; have _t := tok; refine (speaks_any C _).mono ?_; rintro e W1 ⟨rfl, o1⟩; clear tok
           have BX1 := Lib.hid (BX.out.only o1 (fun h => h))
           have O1 := Lib.hid (hO.out.trans o1)
           have b0 : W1.cell? ⟨W.heap.size, 0, none⟩ = some (.slice A L c) := BX1.out.cell_ (i := 0) rfl
           have b1 : W1.cell? ⟨W.heap.size, 1, none⟩ = some (.slice D M d) := BX1.out.cell_ (i := 1) rfl
           clear o1)
        | (go_at_call 9; refine (speaks_any C _).mono ?_; rintro e W2 ⟨rfl, o2⟩))
      go_ret
      exact ⟨rfl, (O1.out.trans o2).below (Nat.le_refl _) (fun k hk => hk.elim)⟩
    · have h2' : (L : Int) ≤ 200 := by omega
      have h3 : 200 < M := by omega
      have h3' : (200 : Int) < (M : Int) := by omega
      clear h
      have tok : True := trivial
      go_enter Try.func4, Try.ntmps4
      go_wp2_with (first
        | (go_at_call 9; have _t := tok; refine (speaks_any C _).mono ?_; rintro e W1 ⟨rfl, o1⟩; clear tok
           have BX1 := Lib.hid (BX.out.only o1 (fun h => h))
           have O1 := Lib.hid (hO.out.trans o1)
           have b0 : W1.cell? ⟨W.heap.size, 0, none⟩ = some (.slice A L c) := BX1.out.cell_ (i := 0) rfl
           have b1 : W1.cell? ⟨W.heap.size, 1, none⟩ = some (.slice D M d) := BX1.out.cell_ (i := 1) rfl
           clear o1)
        | (go_at_call 9; refine (speaks_any C _).mono ?_; rintro e W2 ⟨rfl, o2⟩))
      go_ret
      exact ⟨rfl, (O1.out.trans o2).below (Nat.le_refl _) (fun k hk => hk.elim)⟩
end
end Go.Proofs.Ytimhedjbpjakkaa
