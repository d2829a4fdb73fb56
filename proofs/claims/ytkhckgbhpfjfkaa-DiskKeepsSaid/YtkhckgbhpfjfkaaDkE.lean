/- Disks that have power and no fuse, and the example that the statements of layer 6 begin with. No statement of the seat is proved here. -/
import Derived.Test.YtkhckgbhpfjfkaaDkD
namespace Go.Proofs.Ytkhckgbhpfjfkaa
open Go.RowKit
set_option maxRecDepth 100000

theorem byt_here (w : World) (bs : List UInt8) (hl : bs.length ≤ maxLen) (t : TypeId) (cs : Array Value) (hc : cs = (byts bs).toArray) (n : Nat) (hn : n = bs.length) : Byt (w.alloc (.cells cs t)) (fun k => k = w.heap.size) (.slice (some ⟨w.heap.size, 0, none⟩) n n) bs := by
  subst hc hn
  have h : (w.alloc (.cells (byts bs).toArray t)).ownsRow w.heap.size t 1 (.slice (some ⟨w.heap.size, 0, none⟩) bs.length bs.length) bs.length (byts bs) := World.ownsRow_lit (e := t) (size := 1) w (byts bs).toArray bs.length (Nat.le_refl _) hl (by simp)
  refine (Byt.of_own h).mono (fun b _ hb => ?_)
  simpa [Value.ownBlock] using hb.symm

/-- A disk with power and no fuse. -/
def fre (bs : List UInt8) (s : Nat) : Dv := ⟨true, -1, bs, s⟩
theorem fre_burnt (bs : List UInt8) (s : Nat) : burnt (fre bs s) = fre bs s := rfl
theorem fre_code (bs : List UInt8) (s : Nat) (f : Int) : chCode (fre bs s) f = f := by
  rw [chCode, if_neg (by simp [fre])]
  split
  · rfl
  · next h => rw [if_neg (by simp [fre])]; omega
theorem fre_d (bs : List UInt8) (s : Nat) (d' : Dv) : chD (fre bs s) 0 d' = d' := by simp [chD, fre]
theorem fre_no (bs : List UInt8) (s : Nat) (f : Int) (hf : f ≠ 0) (d' : Dv) : chD (fre bs s) f d' = fre bs s := by simp [chD, fre, hf]
section
variable {B w : World} {g s : Nat} {bs : List UInt8} {v : Value} (h : Dsk B g (fre bs s) v w)
include h
theorem fre_append (x : Value) (ys : List UInt8) (S : Nat → Prop) (hx : Byt w S x ys) (hS : ∀ b, S b → b ≠ g) (hl : bs.length + ys.length ≤ 1048576) :
    Calls Try.prog 42 #[.pointer (some ⟨g, 0, none⟩), x] w fun e w' => e = .returned (.int .i64 0) ∧ Left_ B g v w (fre (bs ++ ys) s) w' := by
  have := disk_append B g (fre bs s) v x ys S w h hx hS
  rw [if_neg (show ¬ 1048576 < (fre bs s).bs.length + ys.length from by show ¬ 1048576 < bs.length + ys.length; omega), fre_code, fre_d] at this
  exact this
theorem fre_full (x : Value) (ys : List UInt8) (S : Nat → Prop) (hx : Byt w S x ys) (hS : ∀ b, S b → b ≠ g) (hl : 1048576 < bs.length + ys.length) :
    Calls Try.prog 42 #[.pointer (some ⟨g, 0, none⟩), x] w fun e w' => e = .returned (.int .i64 7) ∧ Left_ B g v w (fre bs s) w' := by
  have := disk_append B g (fre bs s) v x ys S w h hx hS
  rw [if_pos (show 1048576 < (fre bs s).bs.length + ys.length from hl), fre_code, fre_no _ _ _ (by decide)] at this
  exact this
theorem fre_sync : Calls Try.prog 43 #[.pointer (some ⟨g, 0, none⟩)] w fun e w' => e = .returned (.int .i64 0) ∧ Left_ B g v w (fre bs bs.length) w' := by
  have := disk_sync B g (fre bs s) v w h
  rw [fre_code, fre_d] at this
  exact this
theorem fre_crash (k : Int) (q : Nat) (hq : min (bs.length - s) k.toNat = q) : Calls Try.prog 41 #[.pointer (some ⟨g, 0, none⟩), .int .i64 k] w fun e w' => e = .returned (.int .i64 (q : Int)) ∧ Left_ B g v w (fre (bs.take (s + q)) (s + q)) w' := by
  subst hq
  exact disk_crash B g k (fre bs s) v w h
theorem fre_read : Calls Try.prog 40 #[.pointer (some ⟨g, 0, none⟩)] w fun e w' => ∃ A n c, e = .returned (.tuple #[.slice A n c, .int .i64 0]) ∧ w'.ownsRow w.heap.size 5 1 (.slice A n c) bs.length (byts bs) ∧ Only none_ w w' := by
  refine (disk_read B g (fre bs s) v w h).mono ?_
  rintro e w' ⟨⟨A, n, c, he, ho⟩, o⟩
  exact ⟨A, n, c, he, ho, o⟩
end

theorem dk_speaks (W : World) : Calls Try.prog 32 #[] W fun e w' => e = .returned (.bool true) ∧ Only none_ W w' := by
  have tok1 : True := trivial
  go_enter Try.func32, Try.ntmps32
  go_wp2_with (first
    | (go_at_call 34; refine (disk_new W W (Only.refl _ _)).mono ?_; rintro e w1 ⟨g, rfl, hg, h1, o1⟩
       have hg1 := h1.bk.lt
       have B1 := Lib.hid (byt_here w1 [1, 2, 3] (by simp [maxLen]) 5 #[.int .u8 1, .int .u8 2, .int .u8 3] rfl 3 rfl)
       have N1 : Hid (∀ b, b = w1.heap.size → b ≠ g) := fun b hb e => by omega
       have H1 := Lib.hid (h1.keep ((Only.refl none_ w1).alloc (.cells #[.int .u8 1, .int .u8 2, .int .u8 3] 5)))
       clear h1 o1 hg hg1)
    | (go_at_call 42; have _t := tok1; clear tok1; refine (fre_append (bs := []) (s := 0) H1.out _ [1, 2, 3] _ B1.out N1.out (by decide)).mono ?_; rintro e w2 ⟨rfl, v2, h2, o2, m2⟩
       have H2 := Lib.hid h2
       clear h2 o2 m2
       have tok2 : True := trivial)
    | (go_at_call 43; refine (fre_sync H2.out).mono ?_; rintro e w3 ⟨rfl, v3, h3, o3, m3⟩
       have hg3 := h3.bk.lt
       have B3 := Lib.hid (byt_here w3 [4, 5] (by simp [maxLen]) 5 #[.int .u8 4, .int .u8 5] rfl 2 rfl)
       have N3 : Hid (∀ b, b = w3.heap.size → b ≠ g) := fun b hb e => by omega
       have H3 := Lib.hid (h3.keep ((Only.refl none_ w3).alloc (.cells #[.int .u8 4, .int .u8 5] 5)))
       clear h3 o3 m3 hg3)
    | (go_at_call 42; have _t := tok2; clear tok2; refine (fre_append H3.out _ [4, 5] _ B3.out N3.out (by decide)).mono ?_; rintro e w4 ⟨rfl, v4, h4, o4, m4⟩
       have H4 := Lib.hid h4
       clear h4 o4 m4)
    | (go_at_call 41; refine (fre_crash H4.out 1 1 rfl).mono ?_; rintro e w5 ⟨rfl, v5, h5, o5, m5⟩
       have H5 := Lib.hid h5
       clear h5 o5 m5)
    | (go_at_call 40; refine (fre_read H5.out).mono ?_; rintro e w6 ⟨A6, n6, c6, rfl, own6, o6⟩
       have hs := run_bytes_string w6 _ _ _ (Byt.of_own own6)
       have O6 := Lib.hid (H5.out.ho.trans o6)
       clear own6 o6))
  go_ret
  exact ⟨rfl, O6.out⟩
end Go.Proofs.Ytkhckgbhpfjfkaa
