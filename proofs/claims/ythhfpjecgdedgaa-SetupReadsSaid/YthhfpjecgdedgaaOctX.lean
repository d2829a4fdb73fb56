/- Behind an error nothing is put and nothing is taken, as plain values. No statement of the seat is proved here. -/
import Derived.Test.YthhfpjecgdedgaaOctS
import Derived.Test.YthhfpjecgdedgaaOctU
namespace Go.Proofs.Ythhfpjecgdedgaa
open Go.RowKit
set_option linter.all false
set_option maxRecDepth 100000

theorem first_stop {c e : Int} (h : c ≠ 0) : first_ c e = c := by simp [first_, h]
theorem numCode_stop {c : Int} (h : c ≠ 0) (n : Nat) (wd : Int) : numCode c n wd = c := by unfold numCode; split <;> (try split) <;> first | rfl | exact first_stop h
theorem putS_stop {c : Int} (h : c ≠ 0) (bs x : List UInt8) : putS c bs x = bs := by simp [putS, h]
theorem numBs_stop {c : Int} (h : c ≠ 0) (bs : List UInt8) (n : Nat) (wd : Int) : numBs c bs n wd = bs := by unfold numBs; split <;> (try split) <;> first | rfl | exact putS_stop h _ _
theorem textCode_stop {c : Int} (h : c ≠ 0) (s : List UInt8) : textCode c s = c := by unfold textCode; split <;> first | rfl | exact first_stop h
theorem textBs_stop {c : Int} (h : c ≠ 0) (bs s : List UInt8) : textBs c bs s = bs := by unfold textBs; split <;> first | rfl | exact putS_stop h _ _
theorem takeCode_stop {c : Int} (h : c ≠ 0) (bs : List UInt8) (n : Nat) : takeCode c bs n = c := by unfold takeCode; split <;> first | rfl | exact first_stop h
theorem rawR_stop {c : Int} (h : c ≠ 0) (bs : List UInt8) (n : Int) : rawR c bs n = (c, bs, []) := by
  unfold rawR
  rw [first_stop h, takeCode_stop h]
  split
  · rfl
  · rw [if_neg (fun h' => h h'.1)]
theorem numR_stop {c : Int} (h : c ≠ 0) (bs : List UInt8) (n : Int) : numR c bs n = (c, bs, 0) := by
  unfold numR
  rw [first_stop h, takeCode_stop h]
  split
  · rw [if_neg (fun h' => h h'.1)]
  · rfl
theorem flagR_stop {c : Int} (h : c ≠ 0) (bs : List UInt8) : flagR c bs = (c, bs, false) := by
  cases bs <;> simp [flagR, first_stop h, h]
theorem textR_stop {c : Int} (h : c ≠ 0) (bs : List UInt8) (m : Int) : textR c bs m = (c, bs, []) := by
  cases bs <;> simp [textR, first_stop h, h]
theorem doneCode_stop {c : Int} (h : c ≠ 0) (bs : List UInt8) : doneCode c bs = c := by unfold doneCode; split <;> first | rfl | exact first_stop h
end Go.Proofs.Ythhfpjecgdedgaa
