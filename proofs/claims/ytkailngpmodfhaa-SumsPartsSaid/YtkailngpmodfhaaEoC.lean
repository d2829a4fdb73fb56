/- The document's bytes of texts and numbers. No statement of the seat is proved here. -/
import Derived.Test.YtkailngpmodfhaaRefN
import Derived.Test.YtkailngpmodfhaaOctT
import Derived.Test.YtkailngpmodfhaaEnZ
namespace Go.Proofs.Ytkailngpmodfhaa
open Go.RowKit
set_option maxRecDepth 100000

set_option maxHeartbeats 800000 in
theorem rf_text (s : ByteArray) (w : World) (hs : s.size ≤ 255) :
    Calls Try.prog 77 #[.string s] w fun e w' => ∃ A n c, e = .returned (.slice A n c) ∧ w'.ownsRow w.heap.size 5 1 (.slice A n c) (txtB s).length (byts (txtB s)) ∧ Only none_ w w' := by
  obtain ⟨i0, hi0, hz0, hz1, hz2⟩ := info_parts u8_info
  have hcv := fun w => run_bytes_of_string (P := Try.prog) w 9 115 5 s Try.underlying9 Try.underlying115 Try.underlying5
  have hw8 : IntKind.u8.wrap (s.size : Int) = (s.size : Int) := IntWalk.u8_in _ (by omega)
  have own1 : Hid (((w.alloc (.cells #[.int .u8 (s.size : Int)] 5)).alloc (.cells (bytesRow s (grownCap (w.alloc (.cells #[.int .u8 (s.size : Int)] 5)) s.size 0 5)) 5 ((bytesRow s (grownCap (w.alloc (.cells #[.int .u8 (s.size : Int)] 5)) s.size 0 5)).size, (bytesRow s (grownCap (w.alloc (.cells #[.int .u8 (s.size : Int)] 5)) s.size 0 5)).size + 1))).drew.ownsRow w.heap.size 5 1 (.slice (some ⟨w.heap.size, 0, none⟩) 1 1) [UInt8.ofNat s.size].length (byts [UInt8.ofNat s.size])) := by
    have h : (w.alloc (.cells (byts [UInt8.ofNat s.size]).toArray 5)).ownsRow w.heap.size 5 1 (.slice (some ⟨w.heap.size, 0, none⟩) 1 1) 1 (byts [UInt8.ofNat s.size]) := World.ownsRow_lit (e := 5) (size := 1) w (byts [UInt8.ofNat s.size]).toArray 1 (Nat.le_refl _) (by simp [maxLen]) (by simp)
    have e : (byts [UInt8.ofNat s.size]).toArray = #[.int .u8 (s.size : Int)] := by
      have : (UInt8.ofNat s.size).toNat = s.size := by simp; omega
      simp [byts, byt, this]
    rw [e] at h
    exact (h.alloc _).drew
  have hcap : (grownCap (w.alloc (.cells #[.int .u8 (s.size : Int)] 5)) s.size 0 5) ≤ maxLen := grownCap_le_maxLen _ _ _ _ (by simp only [maxLen]; omega)
  have hb2 := byt_of_string (w.alloc (.cells #[.int .u8 (s.size : Int)] 5)) s (grownCap (w.alloc (.cells #[.int .u8 (s.size : Int)] 5)) s.size 0 5) (grownCap_ge _ _ _ _) hcap 5 ((bytesRow s (grownCap (w.alloc (.cells #[.int .u8 (s.size : Int)] 5)) s.size 0 5)).size, (bytesRow s (grownCap (w.alloc (.cells #[.int .u8 (s.size : Int)] 5)) s.size 0 5)).size + 1)
  simp only [World.size_alloc] at hb2
  have HB := Lib.hid hb2.drew
  have O2 := Lib.hid ((((Only.refl none_ w).alloc (.cells #[.int .u8 (s.size : Int)] 5)).alloc (.cells (bytesRow s (grownCap (w.alloc (.cells #[.int .u8 (s.size : Int)] 5)) s.size 0 5)) 5 ((bytesRow s (grownCap (w.alloc (.cells #[.int .u8 (s.size : Int)] 5)) s.size 0 5)).size, (bytesRow s (grownCap (w.alloc (.cells #[.int .u8 (s.size : Int)] 5)) s.size 0 5)).size + 1))).drew)
  have hbs : w.heap.size ≤ ((w.alloc (.cells #[.int .u8 (s.size : Int)] 5)).alloc (.cells (bytesRow s (grownCap (w.alloc (.cells #[.int .u8 (s.size : Int)] 5)) s.size 0 5)) 5 ((bytesRow s (grownCap (w.alloc (.cells #[.int .u8 (s.size : Int)] 5)) s.size 0 5)).size, (bytesRow s (grownCap (w.alloc (.cells #[.int .u8 (s.size : Int)] 5)) s.size 0 5)).size + 1))).drew.heap.size := O2.out.size
  have hle : [UInt8.ofNat s.size].length + s.data.toList.length ≤ 140737488355328 := by
    rw [Array.length_toList]; show 1 + s.size ≤ _; omega
  clear hb2 hcap hs
  go_enter Try.func77, Try.ntmps77
  go_wp2_with (first
    | (at_builtin; refine wpList_append_byt _ rfl (.tmp 6) (.tmp 8) _ rfl w.heap.size 5 i0 (.int .u8 0) Try.underlying115 hi0 hz0 hz1 hz2 rfl _ _ rfl own1.out _ _ s.data.toList rfl HB.out hle hbs ?_
       intro A5 n5 c5 w5 hown5 hgrow5 hmv5
       have X5 := Lib.hid hown5
       have O5 := Lib.hid (O2.out.grown hgrow5 (fun k hk => .inr (own1.out.lt k hk).1))
       clear hown5 hgrow5 hmv5))
  go_ret
  exact ⟨A5, n5, c5, rfl, X5.out, O5.out⟩

theorem rf_number (n m : Nat) (w : World) (hn : n < 9223372036854775808) (hm : m ≤ 8) :
    Calls Try.prog 78 #[.int .i64 (n : Int), .int .i64 (m : Int)] w fun e w' => ∃ A k c, e = .returned (.slice A k c) ∧ w'.ownsRow w.heap.size 5 1 (.slice A k c) (leBytes n m).length (byts (leBytes n m)) ∧ Only none_ w w' := by
  have C := refNumber_any n m (by omega) hm w
  have u1 : IntKind.u64.wrap (n : Int) = (n : Int) := IntWalk.u64_in _ (by omega)
  have HL : Hid ((leBytes n m).length = m) := leBytes_len n m
  clear hn hm
  go_enter Try.func78, Try.ntmps78
  go_wp2_with (go_at_call 96; refine C.mono ?_; rintro e w1 ⟨A1, k1, c1, T1, rfl, _, own1, o1⟩; have X1 := Lib.hid own1; have O1 := Lib.hid o1; clear own1 o1)
  go_ret
  rw [HL.out]
  exact ⟨A1, k1, c1, rfl, X1.out, O1.out⟩
end Go.Proofs.Ytkailngpmodfhaa
