/- What Flag and Text of a writer do. No statement of the seat is proved here. -/
import Derived.Test.YthhfpjecgdedgaaOctC
namespace Go.Proofs.Ythhfpjecgdedgaa
open Go.RowKit
set_option linter.all false

def bitN (b : Bool) : Nat := if b then 1 else 0
theorem num_bit (code : Int) (b : Bool) : numCode code (bitN b) 1 = code := by cases b <;> simp [numCode, isW, bitN]
theorem bs_bit (code : Int) (bs : List UInt8) (b : Bool) : numBs code bs (bitN b) 1 = putS code bs [UInt8.ofNat (bitN b)] := by
  cases b <;> simp [numBs, isW, bitN, leBytes, leByte, List.range, List.range.loop]

def textCode (code : Int) (s : List UInt8) : Int := if 255 < s.length then first_ code 2 else code
def textBs (code : Int) (bs s : List UInt8) : List UInt8 := if 255 < s.length then bs else putS code bs (UInt8.ofNat s.length :: s)

theorem byt_of_string (w : World) (s : ByteArray) (cap : Nat) (hs : s.size ≤ cap) (hm : cap ≤ maxLen) (t : TypeId) (fr : Nat × Nat) :
    Byt (w.alloc (.cells (bytesRow s cap) t fr)) (fun b => b = w.heap.size) (.slice (some ⟨w.heap.size, 0, none⟩) s.size cap) s.data.toList := by
  have hl : s.data.toList.length = s.size := Array.length_toList
  refine ⟨_, cap, by rw [hl], by omega, hm, by simp, fun _ => ⟨_, 0, rfl, rfl, by simp, fun j hj => ?_⟩⟩
  have hj' : j < s.data.size := by simpa using hj
  have := World.cell?_alloc_mark w (bytesRow s cap) t fr j
  rw [bytesRow_at s cap j hj'] at this
  simpa [byt] using this

theorem byt_one (w : World) (n : Nat) (hn : n ≤ 255) (t : TypeId) : Byt (w.alloc (.cells #[.int .u8 (n : Int)] t)) (fun b => b = w.heap.size) (.slice (some ⟨w.heap.size, 0, none⟩) 1 1) [UInt8.ofNat n] := by
  refine ⟨_, 1, rfl, by simp, by simp [maxLen], by simp, fun _ => ⟨_, 0, rfl, rfl, by simp, fun j hj => ?_⟩⟩
  have hj0 : j = 0 := by simp at hj; omega
  subst hj0
  have : (UInt8.ofNat n).toNat = n := by simp; omega
  simp [byt, this]
theorem text_parts (w : World) (s : ByteArray) (hs : s.size ≤ 255) (tb tp : TypeId) (cap : Nat) (hc : s.size ≤ cap) (hm : cap ≤ maxLen) (fr : Nat × Nat) :
    Parts (((w.alloc (.cells #[.int .u8 (s.size : Int)] tb)).alloc (.cells (bytesRow s cap) tb fr)).alloc (.cells #[.slice (some ⟨w.heap.size, 0, none⟩) 1 1, .slice (some ⟨w.heap.size + 1, 0, none⟩) s.size cap] tp)) (fun k => w.heap.size ≤ k)
      (.slice (some ⟨w.heap.size + 1 + 1, 0, none⟩) 2 2) [[UInt8.ofNat s.size], s.data.toList] := by
  have h1 := ((byt_one w s.size hs tb).alloc (.cells (bytesRow s cap) tb fr)).mono (T := fun k => w.heap.size ≤ k) (fun b _ hb => by simp only [hb]; omega)
  have h2 := (byt_of_string (w.alloc (.cells #[.int .u8 (s.size : Int)] tb)) s cap hc hm tb fr).mono (T := fun k => w.heap.size ≤ k) (fun b _ hb => by simp only [hb, World.size_alloc]; omega)
  simp only [World.size_alloc] at h2
  have := parts_two (t := tp) h1 h2 (by simp only [World.size_alloc]; omega)
  simpa only [World.size_alloc] using this

end Go.Proofs.Ythhfpjecgdedgaa
