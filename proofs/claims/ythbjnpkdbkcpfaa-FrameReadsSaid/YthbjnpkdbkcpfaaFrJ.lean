/- The call of FrameReads answers yes, and changes nothing that was there. The statement itself is proved in another text. -/
import Derived.Test.YthbjnpkdbkcpfaaFrI
namespace Go.Proofs.Ythbjnpkdbkcpfaa
open Go.RowKit
attribute [local go_sem ↓] Go.wp_at_zero Go.wp_at_succ

def far (g : Nat) : Nat → Prop := fun b => b ≠ g
/-- The codec lies at g; what else was there in the world B is as it was. -/
structure Pf (B : World) (g : Nat) (w : World) : Prop where
  cod : Cod w g
  ho : Only (one g) B w
section
variable {B w w' : World} {g : Nat}
theorem Pf.start (W0 : World) : Pf (W0.alloc (.cells tabZero 42)) W0.heap.size (W0.alloc (.cells tabZero 42)) := ⟨Cod.new W0, Only.refl _ _⟩
theorem Pf.keep (p : Pf B g w) (ho : Only none_ w w') : Pf B g w' := ⟨p.cod.only ho (fun h => h), p.ho.trans ho.of_none⟩
theorem Pf.step (p : Pf B g w) (ht : Cod w' g) (ho : Only (one g) w w') : Pf B g w' := ⟨ht, p.ho.trans ho⟩
theorem Pf.alloc (p : Pf B g w) (o : Obj) : Pf B g (w.alloc o) := p.keep ((Only.refl none_ w).alloc o)
theorem Pf.drew (p : Pf B g w) : Pf B g w.drew := p.keep (Only.refl none_ w).drew
theorem Pf.byt (p : Pf B g w) {x : Value} {bs : List UInt8} (h : Byt B (far g) x bs) : Byt w (far g) x bs := h.only p.ho (fun _ h => h)
theorem Pf.frv (p : Pf B g w) {v : Value} {x : Fr} (h : FrV B (far g) v x) : FrV w (far g) v x := h.only p.ho (fun _ h => h)
theorem Pf.below {W : World} (p : Pf B g w) (ho : Only none_ W B) (hg : W.heap.size ≤ g) : Below W.heap.size W w :=
  (ho.trans' p.ho (fun k hk e => by simp only [one] at e; omega)).below (Nat.le_refl _) (fun _ hk => hk.elim)
theorem pf_decode (p : Pf B g w) {x : Value} {bs : List UInt8} (h : Byt w (far g) x bs) (hl : bs.length ≤ 10000) (z : Int) (y : Fr) (hz : frDec bs = (z, y)) :
    Calls Try.prog 14 #[.pointer (some ⟨g, 0, none⟩), x] w fun e w' => ∃ A c, e = .returned (.tuple #[.agg #[.int .i64 y.f, .int .i64 y.t, .int .i64 y.k, .slice A y.b.length c], .int .i64 z]) ∧
      FrV w' (fun b => b ≠ g ∧ w.heap.size ≤ b) (.agg #[.int .i64 y.f, .int .i64 y.t, .int .i64 y.k, .slice A y.b.length c]) y ∧ Pf B g w' ∧ Only (one g) w w' := by
  refine (decode_any g x bs (far g) w p.cod h (fun _ h => h) hl).mono ?_
  rintro e w' ⟨A, n, c, rfl, h1, h2, h3⟩
  rw [hz] at h1 ⊢
  have e1 : n = y.b.length := own_len h1
  subst e1
  refine ⟨A, c, rfl, ⟨A, c, rfl, (Byt.of_own h1).mono (fun b _ hb => ?_)⟩, p.step h2 h3, h3⟩
  have := (h1.lt b hb).1
  have := p.cod.lt
  omega
theorem pf_refDecode (p : Pf B g w) {x : Value} {bs : List UInt8} (h : Byt w (far g) x bs) (hl : bs.length ≤ 10000) (z : Int) (y : Fr) (hz : frDec bs = (z, y)) :
    Calls Try.prog 17 #[x] w fun e w' => ∃ A c, e = .returned (.tuple #[.agg #[.int .i64 y.f, .int .i64 y.t, .int .i64 y.k, .slice A y.b.length c], .int .i64 z]) ∧
      FrV w' (far g) (.agg #[.int .i64 y.f, .int .i64 y.t, .int .i64 y.k, .slice A y.b.length c]) y ∧ Pf B g w' ∧ Only none_ w w' := by
  refine (refDecode_any x bs (far g) w h hl).mono ?_
  rintro e w' ⟨A, n, c, rfl, h1, h2⟩
  rw [hz] at h1 ⊢
  have e1 : n = y.b.length := by obtain ⟨_, _, he, _⟩ := h1; injection he
  subst e1
  exact ⟨A, c, rfl, ⟨A, c, rfl, h1⟩, p.keep h2, h2⟩
/-- What Encode answers of a frame that may be. -/
theorem pf_encode (p : Pf B g w) {v : Value} {x : Fr} (h : FrV w (far g) v x) (hc : frCode x = 0) (ms : List UInt8) (he : frEnc x = ms) :
    Calls Try.prog 9 #[.pointer (some ⟨g, 0, none⟩), v] w fun e w' => ∃ A c, e = .returned (.tuple #[.slice A ms.length c, .int .i64 0]) ∧
      w'.ownsRow w.heap.size 5 1 (.slice A ms.length c) ms.length (byts ms) ∧ Byt w' (fun b => b ≠ g ∧ w.heap.size ≤ b) (.slice A ms.length c) ms ∧ Pf B g w' ∧ Only (one g) w w' := by
  subst he
  refine (encode_any g x v (fun b => b < w.heap.size) w p.cod (h.mono (fun _ hb _ => hb)) (fun _ h => h)).mono ?_
  rintro e w' ⟨h1, _, h2, h3⟩
  obtain ⟨A, n, c, rfl, h4⟩ := h1 hc
  have e1 : n = (frEnc x).length := own_len h4
  subst e1
  refine ⟨A, c, rfl, h4, (Byt.of_own h4).mono (fun b _ hb => ?_), p.step h2 h3, h3⟩
  have := (h4.lt b hb).1
  have := p.cod.lt
  omega
theorem pf_encodeM (p : Pf B g w) {v : Value} {x : Fr} (h : FrV w (far g) v x) (hc : frCode x = 0) (M : Nat) (hM : (frEnc x).length = M) :
    Calls Try.prog 9 #[.pointer (some ⟨g, 0, none⟩), v] w fun e w' => ∃ A c, e = .returned (.tuple #[.slice A M c, .int .i64 0]) ∧
      w'.ownsRow w.heap.size 5 1 (.slice A M c) M (byts (frEnc x)) ∧ Pf B g w' ∧ Only (one g) w w' := by
  subst hM
  refine (pf_encode p h hc _ rfl).mono ?_
  rintro e w' ⟨A, c, rfl, h1, _, h3, h4⟩
  exact ⟨A, c, rfl, h1, h3, h4⟩
theorem Pf.trans {w2 : World} (p : Pf B g w) (q : Pf w g w2) : Pf B g w2 := ⟨q.cod, p.ho.trans q.ho⟩
theorem Pf.four (p : Pf B g w) {k : Nat} {a b c d : Value} (h : Four B k a b c d) (hk : k ≠ g) : Four w k a b c d := h.only p.ho hk
end
/-- What is handed in lies in no block that is made later. -/
theorem byt_far {W w : World} {S : Nat → Prop} {x : Value} {bs : List UInt8} {g : Nat} (h : Byt W S x bs) (hS : ∀ b, S b → b < W.heap.size) (ho : Only none_ W w) (hg : W.heap.size ≤ g) : Byt w (far g) x bs :=
  (h.only ho (fun _ _ h => h)).mono (fun b _ hb e => by have := hS b hb; omega)
theorem frv_far {W w : World} {S : Nat → Prop} {v : Value} {x : Fr} {g : Nat} (h : FrV W S v x) (hS : ∀ b, S b → b < W.heap.size) (ho : Only none_ W w) (hg : W.heap.size ≤ g) : FrV w (far g) v x := by
  obtain ⟨A, c, e, hb⟩ := h
  exact ⟨A, c, e, byt_far hb hS ho hg⟩

set_option maxRecDepth 100000 in
set_option maxHeartbeats 1600000 in
theorem reads_short (x : Value) (bs : List UInt8) (S : Nat → Prop) (W : World) (hx : Byt W S x bs) (hS : ∀ b, S b → b < W.heap.size) (hl : bs.length ≤ 1100) :
    Calls Try.prog 4 #[x] W fun e w' => e = .returned (.bool true) ∧ Below W.heap.size W w' := by
  have hv : ∃ A L c, L = bs.length ∧ x = .slice A L c := by obtain ⟨A, c, h, _⟩ := hx; exact ⟨A, _, c, rfl, h⟩
  obtain ⟨A, L, c, hL, rfl⟩ := hv
  have HB := Lib.hid hx
  have hL4 : L ≤ 1100 := by omega
  have hlb : bs.length ≤ 10000 := by omega
  have hz := run_zero_codec
  obtain ⟨z, y, hzy⟩ : ∃ z y, frDec bs = (z, y) := ⟨_, _, rfl⟩
  have HZ := Lib.hid hzy
  have HED := @enc_dec bs
  rw [hzy] at HED
  have HSY := Lib.hid (frSame_self y)
  have hLb := Lib.hid hL
  clear hx hl hL hzy
  go_enter Try.func4, Try.ntmps4
  by_cases hz0 : z = 0
  · subst hz0
    obtain ⟨hen, hcy⟩ := HED rfl
    have HEN := Lib.hid hen
    have HCY := Lib.hid hcy
    clear HED hen hcy
    go_wp2_with (first
      | (go_at_call 7; refine (speaks_any _).mono ?_; rintro e W1 ⟨rfl, o1⟩
         have P0 := Lib.hid (Pf.start W1)
         have OB : Hid (Only none_ W (W1.alloc (.cells tabZero 42))) := o1.alloc _
         have hWg : Hid (W.heap.size ≤ W1.heap.size) := o1.size
         have FB := Lib.hid (byt_far HB.out hS OB.out hWg.out)
         clear o1)
      | (go_at_call 14; refine (pf_decode P0.out FB.out hlb _ _ HZ.out).mono ?_; rintro e w3 ⟨A3, c3, rfl, fx, p3, _⟩
         have P3 := Lib.hid (p3.alloc (.cells #[.int .i64 y.f, .int .i64 y.t, .int .i64 y.k, .slice A3 y.b.length c3] 47))
         have FX := Lib.hid (fx.alloc (.cells #[.int .i64 y.f, .int .i64 y.t, .int .i64 y.k, .slice A3 y.b.length c3] 47))
         have F3 := Lib.hid (four_of_blk (Blk.new w3 47 #[.int .i64 y.f, .int .i64 y.t, .int .i64 y.k, .slice A3 y.b.length c3]))
         clear fx p3)
      | (go_at_call 17; refine (pf_refDecode P3.out (P3.out.byt FB.out) hlb _ _ HZ.out).mono ?_; rintro e w4 ⟨A4, c4, rfl, fy, p4, o4⟩
         have P4 := Lib.hid (p4.alloc (.cells #[.int .i64 y.f, .int .i64 y.t, .int .i64 y.k, .slice A4 y.b.length c4] 24))
         have FY := Lib.hid (fy.alloc (.cells #[.int .i64 y.f, .int .i64 y.t, .int .i64 y.k, .slice A4 y.b.length c4] 24))
         have FX4 := Lib.hid ((FX.out.only o4 (fun _ _ h => h)).alloc (.cells #[.int .i64 y.f, .int .i64 y.t, .int .i64 y.k, .slice A4 y.b.length c4] 24))
         have F4 := Lib.hid ((F3.out.only o4 (fun h => h)).only ((Only.refl none_ w4).alloc (.cells #[.int .i64 y.f, .int .i64 y.t, .int .i64 y.k, .slice A4 y.b.length c4] 24)) (fun h => h))
         obtain ⟨x0, x1, x2, x3⟩ := F4.out
         clear fy p4 o4)
      | (go_at_call 16; refine (is_any y y _ _ _ _ _ FX4.out FY.out).mono ?_; rintro e w5 ⟨rfl, o5⟩; rw [HSY.out]
         have P5 := Lib.hid (P4.out.keep o5)
         have FX5 := Lib.hid (FX4.out.only o5 (fun _ _ h => h))
         have F5 := F4.out.only o5 (fun h => h)
         clear x0 x1 x2 x3
         obtain ⟨x0, x1, x2, x3⟩ := F5
         clear o5)
      | (go_at_call 9; refine (pf_encode P5.out (FX5.out.mono (fun _ _ h => h.1)) HCY.out bs HEN.out).mono ?_; rintro e w6 ⟨A6, c6, rfl, _, b6, p6, _⟩
         have k1 := run_bytes_string w6 _ _ _ b6
         have k2 := run_bytes_string w6 _ _ _ (p6.byt FB.out)
         have P6 := Lib.hid p6
         clear b6 p6))
    go_ret
    exact ⟨rfl, P6.out.below OB.out hWg.out⟩
  · have hz1 : (z != 0) = true := by simpa using hz0
    clear HED
    go_wp2_with (first
      | (go_at_call 7; refine (speaks_any _).mono ?_; rintro e W1 ⟨rfl, o1⟩
         have P0 := Lib.hid (Pf.start W1)
         have OB : Hid (Only none_ W (W1.alloc (.cells tabZero 42))) := o1.alloc _
         have hWg : Hid (W.heap.size ≤ W1.heap.size) := o1.size
         have FB := Lib.hid (byt_far HB.out hS OB.out hWg.out)
         clear o1)
      | (go_at_call 14; refine (pf_decode P0.out FB.out hlb _ _ HZ.out).mono ?_; rintro e w3 ⟨A3, c3, rfl, fx, p3, _⟩
         have P3 := Lib.hid (p3.alloc (.cells #[.int .i64 y.f, .int .i64 y.t, .int .i64 y.k, .slice A3 y.b.length c3] 47))
         have FX := Lib.hid (fx.alloc (.cells #[.int .i64 y.f, .int .i64 y.t, .int .i64 y.k, .slice A3 y.b.length c3] 47))
         have F3 := Lib.hid (four_of_blk (Blk.new w3 47 #[.int .i64 y.f, .int .i64 y.t, .int .i64 y.k, .slice A3 y.b.length c3]))
         clear fx p3)
      | (go_at_call 17; refine (pf_refDecode P3.out (P3.out.byt FB.out) hlb _ _ HZ.out).mono ?_; rintro e w4 ⟨A4, c4, rfl, fy, p4, o4⟩
         have P4 := Lib.hid (p4.alloc (.cells #[.int .i64 y.f, .int .i64 y.t, .int .i64 y.k, .slice A4 y.b.length c4] 24))
         have FY := Lib.hid (fy.alloc (.cells #[.int .i64 y.f, .int .i64 y.t, .int .i64 y.k, .slice A4 y.b.length c4] 24))
         have FX4 := Lib.hid ((FX.out.only o4 (fun _ _ h => h)).alloc (.cells #[.int .i64 y.f, .int .i64 y.t, .int .i64 y.k, .slice A4 y.b.length c4] 24))
         have F4 := Lib.hid ((F3.out.only o4 (fun h => h)).only ((Only.refl none_ w4).alloc (.cells #[.int .i64 y.f, .int .i64 y.t, .int .i64 y.k, .slice A4 y.b.length c4] 24)) (fun h => h))
         obtain ⟨x0, x1, x2, x3⟩ := F4.out
         clear fy p4 o4)
      | (go_at_call 16; refine (is_any y y _ _ _ _ _ FX4.out FY.out).mono ?_; rintro e w5 ⟨rfl, o5⟩; rw [HSY.out]
         have P5 := Lib.hid (P4.out.keep o5)
         clear o5))
    go_ret
    exact ⟨rfl, P5.out.below OB.out hWg.out⟩
theorem reads_long (x : Value) (A : Option Addr) (n c : Nat) (W : World) (hx : x = .slice A n c) (hn : 1100 < n) :
    Calls Try.prog 4 #[x] W fun e w' => e = .returned (.bool true) ∧ Below W.heap.size W w' := by
  subst hx
  go_enter Try.func4, Try.ntmps4
  go_wp2_with fail
  refine (speaks_any _).mono ?_
  rintro e W1 ⟨rfl, o1⟩
  go_wp2_with fail
  refine (speaks_any _).mono ?_
  rintro e W3 ⟨rfl, o3⟩
  go_wp2
  go_ret
  exact ⟨rfl, (o1.trans o3).below (Nat.le_refl _) (fun k hk => hk.elim)⟩
end Go.Proofs.Ythbjnpkdbkcpfaa
