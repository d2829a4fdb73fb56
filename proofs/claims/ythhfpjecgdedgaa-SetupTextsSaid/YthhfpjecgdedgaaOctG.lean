/- A writer of the call's own, without an error, that texts, flags and numbers are put to: what it has, and that all else is as it was. No statement of the seat is proved here. -/
import Derived.Test.YthhfpjecgdedgaaOctT
namespace Go.Proofs.Ythhfpjecgdedgaa
open Go.RowKit
set_option linter.all false
set_option maxRecDepth 100000

/-- A writer in block g, behind world B, that has the bytes bs; all that was there in B is as it was. -/
structure Lw (B : World) (g : Nat) (bs : List UInt8) (v : Value) (w : World) : Prop where
  wr : Wr w g g 0 v bs
  ho : Only none_ B w
  ge : B.heap.size ≤ g
section
variable {B w w' : World} {g h : Nat} {bs bs' : List UInt8} {v v' : Value} {t : TypeId} {cs : Array Value}
theorem Lw.new (B : World) : Lw B B.heap.size [] (.slice none 0 0) (B.alloc (.cells #[.int .i64 0, .slice none 0 0] 67)) :=
  ⟨⟨Blk.new _ _ _, World.ownsRow_nil _ _ _ _⟩, (Only.refl _ _).alloc _, Nat.le_refl _⟩
theorem Lw.far (s : Lw B g bs v w) {k : Nat} (hf : foot g v k) : B.heap.size ≤ k ∧ k < w.heap.size := ⟨Nat.le_trans s.ge (s.wr.foot_ge (Nat.le_refl _) hf), s.wr.foot_lt hf⟩
theorem Lw.step (s : Lw B g bs v w) (hw : Wr w' g g 0 v' bs') (o : Only (foot g v) w w') : Lw B g bs' v' w' :=
  ⟨hw, s.ho.trans' o (fun k hk hf => by have := s.far hf; omega), s.ge⟩
theorem Lw.keep (s : Lw B g bs v w) (o : Only none_ w w') : Lw B g bs v w' := ⟨s.wr.only o (fun _ _ h => h), s.ho.trans o, s.ge⟩
theorem Lw.box (s : Lw B g bs v w) (b : Blk w h t cs) (o : Only (foot g v) w w') (h1 : 5 ≠ t) (h2 : t ≠ 67) : Blk w' h t cs :=
  b.only o (fun hf => hf.elim (fun e => Blk.ne_ b s.wr.1 h2 e) (fun e => own_blk_ne s.wr.2 b h1 e))
theorem lw_num (s : Lw B g bs v w) (n m : Nat) (hm : 1 ≤ m ∧ m ≤ 8) (hn : n < 2 ^ (8 * m)) (hl : bs.length ≤ 1000000) :
    Calls Try.prog 37 #[.pointer (some ⟨g, 0, none⟩), .int .u64 (n : Int), .int .i64 (m : Int)] w fun e w' => e = .returned (.pointer (some ⟨g, 0, none⟩)) ∧ ∃ v', Lw B g (bs ++ leBytes n m) v' w' ∧ Only (foot g v) w w' := by
  have hw : isW (m : Int) = true := by simp [isW]; omega
  have hz : n / 2 ^ (8 * m) = 0 := Nat.div_eq_of_lt hn
  have e1 : numCode 0 n (m : Int) = 0 := by rw [numCode, if_pos hw, Int.toNat_natCast, if_pos hz]
  have e2 : numBs 0 bs n (m : Int) = bs ++ leBytes n m := by rw [numBs, if_pos hw, Int.toNat_natCast, if_pos hz]; rfl
  have hb : n < 18446744073709551616 := by
    have : 2 ^ (8 * m) ≤ 2 ^ 64 := Nat.pow_le_pow_right (by omega) (by omega)
    omega
  refine (writer_number g g 0 (m : Int) n v bs w s.wr hb (by omega) (Nat.le_of_lt s.wr.1.lt)).mono ?_
  rintro e w' ⟨rfl, v', h', o', _⟩
  rw [e1, e2] at h'
  exact ⟨rfl, v', s.step h' o', o'⟩
theorem lw_bytes (s : Lw B g bs v w) (hl : bs.length ≤ 1000000) :
    Calls Try.prog 38 #[.pointer (some ⟨g, 0, none⟩)] w fun e w' => ∃ A n c, e = .returned (.slice A n c) ∧ w'.ownsRow w.heap.size 5 1 (.slice A n c) bs.length (byts bs) ∧ Only none_ w w' :=
  writer_bytes g g 0 v bs w s.wr (by omega)
theorem lw_err (s : Lw B g bs v w) :
    Calls Try.prog 57 #[.pointer (some ⟨g, 0, none⟩)] w fun e w' => e = .returned (.int .i64 0) ∧ w = w' := writer_err g g 0 v bs w s.wr
end
end Go.Proofs.Ythhfpjecgdedgaa
