/- The example that each statement of this seat begins with answers yes; and the calls are few just if they are. No statement of the seat is proved here. -/
import Derived.Test.YtpccimifpkdfiaaOctU
import Derived.Deep.QuietTactic
import Derived.Deep.RegionHeld3
namespace Go.Proofs.Ytpccimifpkdfiaa
open Go.RowKit

theorem byt_lit (w : World) (xs : List UInt8) (t : TypeId) (n : Nat) (hn : n = xs.length) (hm : xs.length ≤ maxLen) (cs : Array Value) (hcs : cs.toList = byts xs) : Byt (w.alloc (.cells cs t)) (fun b => b = w.heap.size) (.slice (some ⟨w.heap.size, 0, none⟩) n n) xs := by
  subst hn
  refine ⟨_, xs.length, rfl, Nat.le_refl _, hm, by simp, fun _ => ⟨_, 0, rfl, rfl, by simp, fun j hj => ?_⟩⟩
  rw [Nat.zero_add, World.cell?_alloc_new, ← Array.getElem?_toList, hcs]
  simp [byts, hj]

theorem speaks_any (w : World) : Calls Try.prog 8 #[] w fun e w' => e = .returned (.bool true) ∧ Only none_ w w' := by
  have hW : Wr (w.alloc (.cells #[.int .i64 0, .slice none 0 0] 30)) w.heap.size w.heap.size 0 (.slice none 0 0) [] := ⟨Blk.new _ _ _, World.ownsRow_nil _ _ _ _⟩
  have h1 : Hid (numCode 0 258 2 = 0 ∧ numBs 0 [] 258 2 = [2, 1]) := ⟨by simp [numCode, isW], by simp [numBs, isW, putS, leBytes, leByte, List.range, List.range.loop]⟩
  have h2 : Hid (textCode 0 [97, 98] = 0 ∧ textBs 0 [2, 1] [97, 98] = [2, 1, 2, 97, 98]) := ⟨by simp [textCode], by simp [textBs, putS]⟩
  have HN := writer_number w.heap.size w.heap.size 0 2 258 _ _ _ hW (by omega) (by simp) (by simp)
  have HO := Lib.hid ((Only.refl none_ w).alloc (.cells #[.int .i64 0, .slice none 0 0] 30))
  clear hW
  go_enter Try.func8, Try.ntmps8
  go_wp2_with (first
    | (go_at_call 10; refine HN.mono ?_; rintro e w1 ⟨rfl, v1, hw1, o1, m1⟩; rw [h1.out.1, h1.out.2] at hw1; have H1 := Lib.hid hw1; clear hw1)
    | (go_at_call 14; refine (writer_text _ _ _ _ _ _ _ H1.out (by simp) (by have := o1.size; simp at this; omega) (by decide)).mono ?_; rintro e w2 ⟨rfl, v2, hw2, o2, m2⟩; rw [h2.out.1, h2.out.2] at hw2; have H2 := Lib.hid hw2; clear hw2)
    | (go_at_call 16; refine (writer_err _ _ _ _ _ _ H2.out).mono ?_; rintro e w' ⟨rfl, rfl⟩)
    | (go_at_call 18; refine (writer_bytes _ _ _ _ _ _ H2.out (by simp)).mono ?_; rintro e w3 ⟨A3, n3, c3, rfl, hb3, o3⟩; have H3 := Lib.hid hb3; clear hb3)
    | (go_at_call 17; refine (same_any _ _ _ _ _ _ _ ((Byt.of_own H3.out).alloc _) (byt_lit w3 [2, 1, 2, 97, 98] 5 5 rfl (by decide) _ rfl)).mono ?_; rintro e w' ⟨rfl, rfl⟩))
  go_ret
  refine ⟨rfl, ((HO.out.trans' o1 ?_).trans' o2 ?_ |>.trans o3).alloc _⟩
  · rintro g hg (rfl | h)
    · omega
    · simp [Value.ownBlock] at h
  · intro g hg h
    have := H1.out.foot_ge (Nat.le_refl _) h
    omega

/-- A new writer, behind it the slice of one slice: what Raw makes of it. -/
theorem raw_fresh (w : World) (x : Value) (bs : List UInt8) (S : Nat → Prop) (h : Byt w S x bs) (hl : bs.length ≤ 140737488355328) :
    Calls Try.prog 15 #[.pointer (some ⟨w.heap.size, 0, none⟩), .slice (some ⟨w.heap.size + 1, 0, none⟩) 1 1] ((w.alloc (.cells #[.int .i64 0, .slice none 0 0] 30)).alloc (.cells #[x] 28)) fun e w' =>
      e = .returned (.pointer (some ⟨w.heap.size, 0, none⟩)) ∧ ∃ v', Wr w' w.heap.size w.heap.size 0 v' bs ∧ Only none_ w w' := by
  have hW : Wr ((w.alloc (.cells #[.int .i64 0, .slice none 0 0] 30)).alloc (.cells #[x] 28)) w.heap.size w.heap.size 0 (.slice none 0 0) [] := ⟨(Blk.new _ _ _).alloc _, World.ownsRow_nil _ _ _ _⟩
  have h5 := parts_one (t := 28) ((h.mono (T := fun b => b ≠ w.heap.size) (fun b hb _ => by omega)).alloc (.cells #[.int .i64 0, .slice none 0 0] 30)) (by simp)
  simp only [World.size_alloc] at h5
  refine (writer_raw _ _ _ _ _ _ _ _ _ hW h5 ?_ ?_ ?_ ?_).mono ?_
  · rintro b hb (rfl | hf)
    · exact hb rfl
    · simp [Value.ownBlock] at hf
  · simp; omega
  · simp; omega
  · simp
  · rintro e w' ⟨rfl, v', h1, o1, m1⟩
    refine ⟨rfl, v', by simpa [putS] using h1, (((Only.refl none_ w).alloc _).alloc _).trans' o1 ?_⟩
    rintro b hb (rfl | hf)
    · omega
    · simp [Value.ownBlock] at hf

theorem same_yes (x y : Value) (xs : List UInt8) (S T : Nat → Prop) (w : World) (hx : Byt w S x xs) (hy : Byt w T y xs) :
    Calls Try.prog 17 #[x, y] w fun e w' => e = .returned (.bool true) ∧ w = w' := by
  have := same_any x y xs xs S T w hx hy
  rw [beq_self_eq_true] at this
  exact this

end Go.Proofs.Ytpccimifpkdfiaa
