/- What Flag and Text of a writer do. No statement of the seat is proved here. -/
import Derived.Test.YtkailngpmodfhaaOctC
namespace Go.Proofs.Ytkailngpmodfhaa
open Go.RowKit

def bitN (b : Bool) : Nat := if b then 1 else 0
theorem num_bit (code : Int) (b : Bool) : numCode code (bitN b) 1 = code := by cases b <;> simp [numCode, isW, bitN]
theorem bs_bit (code : Int) (bs : List UInt8) (b : Bool) : numBs code bs (bitN b) 1 = putS code bs [UInt8.ofNat (bitN b)] := by
  cases b <;> simp [numBs, isW, bitN, leBytes, leByte, List.range, List.range.loop]

theorem writer_flag (g base : Nat) (code : Int) (b : Bool) (v : Value) (bs : List UInt8) (w : World) (h : Wr w g base code v bs) 
    (hb : bs.length + 8 ≤ 140737488355328) (hbase : base ≤ w.heap.size) :
    Calls Try.prog 91 #[.pointer (some ⟨g, 0, none⟩), .bool b] w fun e w' => e = .returned (.pointer (some ⟨g, 0, none⟩)) ∧
      ∃ v', Wr w' g base code v' (putS code bs [UInt8.ofNat (bitN b)]) ∧ Only (foot g v) w w' ∧ Moved w v v' := by
  have HN := writer_number g base code 1 (bitN b) v bs w h (by cases b <;> simp [bitN]) hb hbase
  rw [num_bit, bs_bit] at HN
  clear h
  cases b
  all_goals
    go_enter Try.func91, Try.ntmps91
    go_wp2_with (first | (go_at_call 93; refine HN.mono ?_; rintro e w3 ⟨rfl, v3, h3, o3, m3⟩))
    go_ret
    exact ⟨rfl, v3, h3, o3, m3⟩

def textCode (code : Int) (s : List UInt8) : Int := if 255 < s.length then first_ code 2 else code
def textBs (code : Int) (bs s : List UInt8) : List UInt8 := if 255 < s.length then bs else putS code bs (UInt8.ofNat s.length :: s)

theorem byt_of_string (w : World) (s : ByteArray) (cap : Nat) (hs : s.size ≤ cap) (hm : cap ≤ maxLen) (t : TypeId) (fr : Nat × Nat) :
    Byt (w.alloc (.cells (bytesRow s cap) t fr)) (fun b => b = w.heap.size) (.slice (some ⟨w.heap.size, 0, none⟩) s.size cap) s.data.toList := by
  have hl : s.data.toList.length = s.size := Array.length_toList
  refine ⟨_, cap, by rw [hl], by omega, hm, by simp, fun _ => ⟨_, 0, rfl, rfl, by simp, fun j hj => ?_⟩⟩
  have hj' : j < s.data.size := by simpa using hj
  have := World.cell?_alloc_mark w (bytesRow s cap) t fr j
  rw [bytesRow_at s cap j hj'] at this
  simpa [byt] using this

theorem byt_one (w : World) (n : Nat) (hn : n ≤ 255) (t : TypeId) : Byt (w.alloc (.cells #[.int .u8 (n : Int)] t)) (fun b => b = w.heap.size) (.slice (some ⟨w.heap.size, 0, none⟩) 1 1) [UInt8.ofNat n] := by
  refine ⟨_, 1, rfl, by simp, by simp [maxLen], by simp, fun _ => ⟨_, 0, rfl, rfl, by simp, fun j hj => ?_⟩⟩
  have hj0 : j = 0 := by simp at hj; omega
  subst hj0
  have : (UInt8.ofNat n).toNat = n := by simp; omega
  simp [byt, this]
theorem text_parts (w : World) (s : ByteArray) (hs : s.size ≤ 255) (tb tp : TypeId) (cap : Nat) (hc : s.size ≤ cap) (hm : cap ≤ maxLen) (fr : Nat × Nat) :
    Parts (((w.alloc (.cells #[.int .u8 (s.size : Int)] tb)).alloc (.cells (bytesRow s cap) tb fr)).alloc (.cells #[.slice (some ⟨w.heap.size, 0, none⟩) 1 1, .slice (some ⟨w.heap.size + 1, 0, none⟩) s.size cap] tp)) (fun k => w.heap.size ≤ k)
      (.slice (some ⟨w.heap.size + 1 + 1, 0, none⟩) 2 2) [[UInt8.ofNat s.size], s.data.toList] := by
  have h1 := ((byt_one w s.size hs tb).alloc (.cells (bytesRow s cap) tb fr)).mono (T := fun k => w.heap.size ≤ k) (fun b _ hb => by simp only [hb]; omega)
  have h2 := (byt_of_string (w.alloc (.cells #[.int .u8 (s.size : Int)] tb)) s cap hc hm tb fr).mono (T := fun k => w.heap.size ≤ k) (fun b _ hb => by simp only [hb, World.size_alloc]; omega)
  simp only [World.size_alloc] at h2
  have := parts_two (t := tp) h1 h2 (by simp only [World.size_alloc]; omega)
  simpa only [World.size_alloc] using this

set_option maxHeartbeats 400000 in
theorem writer_text (g base : Nat) (code : Int) (s : ByteArray) (v : Value) (bs : List UInt8) (w : World) (h : Wr w g base code v bs) 
    (hb : bs.length + 300 ≤ 140737488355328) (hbase : base ≤ w.heap.size) (hs : s.size ≤ 9223372036854775807) :
    Calls Try.prog 90 #[.pointer (some ⟨g, 0, none⟩), .string s] w fun e w' => e = .returned (.pointer (some ⟨g, 0, none⟩)) ∧
      ∃ v', Wr w' g base (textCode code s.data.toList) v' (textBs code bs s.data.toList) ∧ Only (foot g v) w w' ∧ Moved w v v' := by
  have hl : s.data.toList.length = s.size := Array.length_toList
  by_cases h0 : 255 < s.size
  · have hcode : Hid (textCode code s.data.toList = first_ code 2) := by rw [Hid, textCode, hl, if_pos h0]
    have hbs : Hid (textBs code bs s.data.toList = bs) := by rw [Hid, textBs, hl, if_pos h0]
    have H := Lib.hid h
    clear h hl
    go_enter Try.func90, Try.ntmps90
    go_wp2_with (first
        | (go_at_call 102; refine (fault_fail _ _ _ _ _ _ H.out.1 rfl).mono ?_; rintro e w1 ⟨rfl, hb1, ho1⟩))
    go_ret
    rw [hcode.out, hbs.out]
    exact ⟨rfl, v, H.out.fail hb1 ho1, one_foot ho1, Moved.refl _ _⟩
  · have hcode : Hid (textCode code s.data.toList = code) := by rw [Hid, textCode, hl, if_neg h0]
    have hbs : Hid (textBs code bs s.data.toList = putS code bs (UInt8.ofNat s.data.toList.length :: s.data.toList)) := by rw [Hid, textBs, hl, if_neg h0]
    have H := Lib.hid h
    have HL := Lib.hid hl
    clear h hl
    have hcv := fun w => run_bytes_of_string (P := Try.prog) w 9 115 5 s Try.underlying9 Try.underlying115 Try.underlying5
    go_enter Try.func90, Try.ntmps90
    go_wp2_with fail
    have hW1 := (((Only.refl none_ w).alloc (.cells #[.int .u8 (s.size : Int)] 5)).alloc (.cells (bytesRow s (grownCap (w.alloc (.cells #[.int .u8 (s.size : Int)] 5)) s.size 0 5)) 5
      ((bytesRow s (grownCap (w.alloc (.cells #[.int .u8 (s.size : Int)] 5)) s.size 0 5)).size, (bytesRow s (grownCap (w.alloc (.cells #[.int .u8 (s.size : Int)] 5)) s.size 0 5)).size + 1))).alloc
      (.cells #[.slice (some ⟨w.heap.size, 0, none⟩) 1 1, .slice (some ⟨w.heap.size + 1, 0, none⟩) s.size (grownCap (w.alloc (.cells #[.int .u8 (s.size : Int)] 5)) s.size 0 5)] 115)
    have hpp := text_parts w s (by omega) 5 115 (grownCap (w.alloc (.cells #[.int .u8 (s.size : Int)] 5)) s.size 0 5) (grownCap_ge _ _ _ _) (grownCap_le_maxLen _ _ _ _ (by simp only [maxLen]; omega))
      ((bytesRow s (grownCap (w.alloc (.cells #[.int .u8 (s.size : Int)] 5)) s.size 0 5)).size, (bytesRow s (grownCap (w.alloc (.cells #[.int .u8 (s.size : Int)] 5)) s.size 0 5)).size + 1)
    generalize (((w.alloc (.cells #[.int .u8 (s.size : Int)] 5)).alloc (.cells (bytesRow s (grownCap (w.alloc (.cells #[.int .u8 (s.size : Int)] 5)) s.size 0 5)) 5
      ((bytesRow s (grownCap (w.alloc (.cells #[.int .u8 (s.size : Int)] 5)) s.size 0 5)).size, (bytesRow s (grownCap (w.alloc (.cells #[.int .u8 (s.size : Int)] 5)) s.size 0 5)).size + 1))).alloc
      (.cells #[.slice (some ⟨w.heap.size, 0, none⟩) 1 1, .slice (some ⟨w.heap.size + 1, 0, none⟩) s.size (grownCap (w.alloc (.cells #[.int .u8 (s.size : Int)] 5)) s.size 0 5)] 115)) = w2 at *
    refine (writer_raw g base code v _ bs [[UInt8.ofNat s.size], s.data.toList] (fun k => w.heap.size ≤ k) w2.drew (H.out.only (S := none_) hW1.drew (fun _ _ h => h)) hpp (fun b hb1 hb2 => by have := H.out.foot_lt hb2; omega)
      (by have := HL.out; simp only [List.flatten_cons, List.flatten_nil, List.length_append, List.length_cons, List.length_nil]; omega) (by have := hW1.size; simp; omega) (by simp)).mono ?_
    rintro e w3 ⟨rfl, v3, h3, o3, m3⟩
    go_wp2
    go_ret
    rw [hcode.out, hbs.out, HL.out]
    exact ⟨rfl, v3, by simpa using h3, hW1.drew.of_none.trans o3, (Moved.refl w v).trans m3 hW1.size⟩
end Go.Proofs.Ytkailngpmodfhaa
