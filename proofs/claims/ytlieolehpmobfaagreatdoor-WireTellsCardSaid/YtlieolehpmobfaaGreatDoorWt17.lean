/- Texts of mine, one behind the other: EoC, EoD, WiBn, WiLn, WiBy. No statement of the seat is proved here. -/
import Derived.Test.YtlieolehpmobfaaGreatDoorWt10
import Derived.Test.YtlieolehpmobfaaGreatDoorWt2
import Derived.Test.YtlieolehpmobfaaGreatDoorWt4
import Derived.Test.YtlieolehpmobfaaGreatDoorWt3
import Derived.Test.YtlieolehpmobfaaGreatDoorWt9
import Derived.Test.YtlieolehpmobfaaGreatDoorWt1
import Derived.Test.YtlieolehpmobfaaGreatDoorWt13
import Derived.Deep.DeepCutAuto
section
namespace Go.Proofs.YtlieolehpmobfaaGreatDoor
open Go.RowKit
set_option maxRecDepth 100000
set_option maxHeartbeats 800000 in
theorem rf_text (s : ByteArray) (w : World) (hs : s.size ≤ 255) :
    Calls Tryz.prog 180 #[.string s] w fun e w' => ∃ A n c, e = .returned (.slice A n c) ∧ w'.ownsRow w.heap.size 5 1 (.slice A n c) (txtB s).length (byts (txtB s)) ∧ Only none_ w w' := by
  obtain ⟨i0, hi0, hz0, hz1, hz2⟩ := info_parts u8_info
  have hcv := fun w => run_bytes_of_string (P := Tryz.prog) w 9 35 5 s Tryz.underlying9 Tryz.underlying35 Tryz.underlying5
  have hw8 : IntKind.u8.wrap (s.size : Int) = (s.size : Int) := IntWalk.u8_in _ (by omega)
  have own1 : Hid (((w.alloc (.cells #[.int .u8 (s.size : Int)] 5)).alloc (.cells (bytesRow s (grownCap (w.alloc (.cells #[.int .u8 (s.size : Int)] 5)) s.size 0 5)) 5 ((bytesRow s (grownCap (w.alloc (.cells #[.int .u8 (s.size : Int)] 5)) s.size 0 5)).size, (bytesRow s (grownCap (w.alloc (.cells #[.int .u8 (s.size : Int)] 5)) s.size 0 5)).size + 1))).drew.ownsRow w.heap.size 5 1 (.slice (some ⟨w.heap.size, 0, none⟩) 1 1) [UInt8.ofNat s.size].length (byts [UInt8.ofNat s.size])) := by
    have h : (w.alloc (.cells (byts [UInt8.ofNat s.size]).toArray 5)).ownsRow w.heap.size 5 1 (.slice (some ⟨w.heap.size, 0, none⟩) 1 1) 1 (byts [UInt8.ofNat s.size]) := World.ownsRow_lit (e := 5) (size := 1) w (byts [UInt8.ofNat s.size]).toArray 1 (Nat.le_refl _) (by simp [maxLen]) (by simp)
    have e : (byts [UInt8.ofNat s.size]).toArray = #[.int .u8 (s.size : Int)] := by
      have : (UInt8.ofNat s.size).toNat = s.size := by simp; omega
      simp [byts, byt, this]
    rw [e] at h
    exact (h.alloc _).drew
  have hcap : (grownCap (w.alloc (.cells #[.int .u8 (s.size : Int)] 5)) s.size 0 5) ≤ maxLen := grownCap_le_maxLen _ _ _ _ (by simp only [maxLen]; omega)
  have hb2 := byt_of_string (w.alloc (.cells #[.int .u8 (s.size : Int)] 5)) s (grownCap (w.alloc (.cells #[.int .u8 (s.size : Int)] 5)) s.size 0 5) (grownCap_ge _ _ _ _) hcap 5 ((bytesRow s (grownCap (w.alloc (.cells #[.int .u8 (s.size : Int)] 5)) s.size 0 5)).size, (bytesRow s (grownCap (w.alloc (.cells #[.int .u8 (s.size : Int)] 5)) s.size 0 5)).size + 1)
  simp only [World.size_alloc] at hb2
  have HB := Lib.hid hb2.drew
  have O2 := Lib.hid ((((Only.refl none_ w).alloc (.cells #[.int .u8 (s.size : Int)] 5)).alloc (.cells (bytesRow s (grownCap (w.alloc (.cells #[.int .u8 (s.size : Int)] 5)) s.size 0 5)) 5 ((bytesRow s (grownCap (w.alloc (.cells #[.int .u8 (s.size : Int)] 5)) s.size 0 5)).size, (bytesRow s (grownCap (w.alloc (.cells #[.int .u8 (s.size : Int)] 5)) s.size 0 5)).size + 1))).drew)
  have hbs : w.heap.size ≤ ((w.alloc (.cells #[.int .u8 (s.size : Int)] 5)).alloc (.cells (bytesRow s (grownCap (w.alloc (.cells #[.int .u8 (s.size : Int)] 5)) s.size 0 5)) 5 ((bytesRow s (grownCap (w.alloc (.cells #[.int .u8 (s.size : Int)] 5)) s.size 0 5)).size, (bytesRow s (grownCap (w.alloc (.cells #[.int .u8 (s.size : Int)] 5)) s.size 0 5)).size + 1))).drew.heap.size := O2.out.size
  have hle : [UInt8.ofNat s.size].length + s.data.toList.length ≤ 140737488355328 := by
    rw [Array.length_toList]; show 1 + s.size ≤ _; omega
  clear hb2 hcap hs
  go_enter Tryz.func180, Tryz.ntmps180
  go_wp2_with (first
    | (at_builtin; refine wpList_append_byt _ rfl (.tmp 6) (.tmp 8) _ rfl w.heap.size 5 i0 (.int .u8 0) Tryz.underlying35 hi0 hz0 hz1 hz2 rfl _ _ rfl own1.out _ _ s.data.toList rfl HB.out hle hbs ?_
       intro A5 n5 c5 w5 hown5 hgrow5 hmv5
       have X5 := Lib.hid hown5
       have O5 := Lib.hid (O2.out.grown hgrow5 (fun k hk => .inr (own1.out.lt k hk).1))
       clear hown5 hgrow5 hmv5))
  go_ret
  exact ⟨A5, n5, c5, rfl, X5.out, O5.out⟩
theorem rf_number (n m : Nat) (w : World) (hn : n < 9223372036854775808) (hm : m ≤ 8) :
    Calls Tryz.prog 181 #[.int .i64 (n : Int), .int .i64 (m : Int)] w fun e w' => ∃ A k c, e = .returned (.slice A k c) ∧ w'.ownsRow w.heap.size 5 1 (.slice A k c) (leBytes n m).length (byts (leBytes n m)) ∧ Only none_ w w' := by
  have C := refNumber_any n m (by omega) hm w
  have u1 : IntKind.u64.wrap (n : Int) = (n : Int) := IntWalk.u64_in _ (by omega)
  have HL : Hid ((leBytes n m).length = m) := leBytes_len n m
  clear hn hm
  go_enter Tryz.func181, Tryz.ntmps181
  go_wp2_with (go_at_call 179; refine C.mono ?_; rintro e w1 ⟨A1, k1, c1, T1, rfl, _, own1, o1⟩; have X1 := Lib.hid own1; have O1 := Lib.hid o1; clear own1 o1)
  go_ret
  rw [HL.out]
  exact ⟨A1, k1, c1, rfl, X1.out, O1.out⟩
end Go.Proofs.YtlieolehpmobfaaGreatDoor
end
section
namespace Go.Proofs.YtlieolehpmobfaaGreatDoor
open Go.RowKit
set_option maxRecDepth 100000
structure Ap (W : World) (h : Nat) (cs : Array Value) (v : Value) (bs : List UInt8) (w : World) : Prop where
  bx : Blk w h 123 cs
  ow : w.ownsRow W.heap.size 5 1 v bs.length (byts bs)
  ho : Only none_ W w
section
variable {W w w' : World} {h : Nat} {cs : Array Value} {v v' : Value} {bs bs' : List UInt8}
theorem Ap.keep (a : Ap W h cs v bs w) (o : Only none_ w w') : Ap W h cs v bs w' := ⟨a.bx.only o (fun h => h), owns_only a.ow o (fun _ _ h => h), a.ho.trans o⟩
theorem Ap.app (a : Ap W h cs v bs w) (own : w'.ownsRow W.heap.size 5 1 v' bs'.length (byts bs')) (hg : w.grownBy w' v.ownBlock) : Ap W h cs v' bs' w' :=
  ⟨a.bx.grown' hg (own_blk_ne a.ow a.bx (by decide)), own, a.ho.grown hg (fun k hk => .inr (a.ow.lt k hk).1)⟩
end
set_option maxHeartbeats 6400000 in
theorem rf_bytes (e : Ne) (w : World) (he : e.ok) :
    Calls Tryz.prog 79 #[.agg #[.string e.en.k, .string e.en.v, .bool e.en.d, .int .i64 e.en.s.c, .int .i64 e.en.s.s, .int .i64 e.en.a.c, .int .i64 e.en.a.s, .int .i64 e.en.p, .int .i64 e.en.g]] w fun E w' => ∃ A n c, E = .returned (.slice A n c) ∧ w'.ownsRow w.heap.size 5 1 (.slice A n c) (layB e).length (byts (layB e)) ∧ Only none_ w w' := by
  obtain ⟨i0, hi0, hz0, hz1, hz2⟩ := info_parts u8_info
  obtain ⟨k, x, d, s1, s2, a1, a2, p, q⟩ := e
  obtain ⟨hk, hv, h1, h2, h3, h4, h5, h6⟩ := he
  have HF : Hid (layB ⟨k, x, d, s1, s2, a1, a2, p, q⟩ = txtB k ++ [UInt8.ofNat (bitN d)] ++ txtB x ++ leBytes s1 4 ++ leBytes s2 1 ++ leBytes a1 4 ++ leBytes a2 1 ++ leBytes p 2 ++ leBytes q 4) := rfl
  dsimp only at hk hv h1 h2 h3 h4 h5 h6
  show Calls Tryz.prog 79 #[.agg #[.string k, .string x, .bool d, .int .i64 (s1 : Int), .int .i64 (s2 : Int), .int .i64 (a1 : Int), .int .i64 (a2 : Int), .int .i64 (p : Int), .int .i64 (q : Int)]] w _
  obtain ⟨b2, e2⟩ : ∃ b, txtB k ++ [UInt8.ofNat (bitN d)] = b := ⟨_, rfl⟩
  obtain ⟨b3, e3⟩ : ∃ b, b2 ++ txtB x = b := ⟨_, rfl⟩
  obtain ⟨b4, e4⟩ : ∃ b, b3 ++ leBytes s1 4 = b := ⟨_, rfl⟩
  obtain ⟨b5, e5⟩ : ∃ b, b4 ++ leBytes s2 1 = b := ⟨_, rfl⟩
  obtain ⟨b6, e6⟩ : ∃ b, b5 ++ leBytes a1 4 = b := ⟨_, rfl⟩
  obtain ⟨b7, e7⟩ : ∃ b, b6 ++ leBytes a2 1 = b := ⟨_, rfl⟩
  obtain ⟨b8, e8⟩ : ∃ b, b7 ++ leBytes p 2 = b := ⟨_, rfl⟩
  obtain ⟨b9, e9⟩ : ∃ b, b8 ++ leBytes q 4 = b := ⟨_, rfl⟩
  have EB : Hid (layB ⟨k, x, d, s1, s2, a1, a2, p, q⟩ = b9) := by
    rw [Hid, HF.out, ← e9, ← e8, ← e7, ← e6, ← e5, ← e4, ← e3, ← e2]
  have n2 : b2.length = (k.size + 1) + 1 := by rw [← e2, List.length_append, txtB_len]; rfl
  have n3 : b3.length = b2.length + (x.size + 1) := by rw [← e3, List.length_append, txtB_len]
  have n4 : b4.length = b3.length + 4 := by rw [← e4, List.length_append, leBytes_len]
  have n5 : b5.length = b4.length + 1 := by rw [← e5, List.length_append, leBytes_len]
  have n6 : b6.length = b5.length + 4 := by rw [← e6, List.length_append, leBytes_len]
  have n7 : b7.length = b6.length + 1 := by rw [← e7, List.length_append, leBytes_len]
  have n8 : b8.length = b7.length + 2 := by rw [← e8, List.length_append, leBytes_len]
  have l1 := txtB_len k
  have l3 := txtB_len x
  have HN : Hid ((txtB k).length + 1 ≤ 140737488355328 ∧ b2.length + (txtB x).length ≤ 140737488355328 ∧ b3.length + (leBytes s1 4).length ≤ 140737488355328 ∧ b4.length + (leBytes s2 1).length ≤ 140737488355328 ∧ b5.length + (leBytes a1 4).length ≤ 140737488355328 ∧ b6.length + (leBytes a2 1).length ≤ 140737488355328 ∧ b7.length + (leBytes p 2).length ≤ 140737488355328 ∧ b8.length + (leBytes q 4).length ≤ 140737488355328) := by
    simp only [Hid, leBytes_len]
    refine ⟨?_, ?_, ?_, ?_, ?_, ?_, ?_, ?_⟩ <;> omega
  have E2 := Lib.hid e2
  have E3 := Lib.hid e3
  have E4 := Lib.hid e4
  have E5 := Lib.hid e5
  have E6 := Lib.hid e6
  have E7 := Lib.hid e7
  have E8 := Lib.hid e8
  have E9 := Lib.hid e9
  have HK := Lib.hid hk
  have HX := Lib.hid hv
  have R1 : Hid (s1 < 9223372036854775808) := by simp only [Hid]; omega
  have R2 : Hid (s2 < 9223372036854775808) := by simp only [Hid]; omega
  have R3 : Hid (a1 < 9223372036854775808) := by simp only [Hid]; omega
  have R4 : Hid (a2 < 9223372036854775808) := by simp only [Hid]; omega
  have R5 : Hid (p < 9223372036854775808) := by simp only [Hid]; omega
  have R6 : Hid (q < 9223372036854775808) := by simp only [Hid]; omega
  clear hk hv h1 h2 h3 h4 h5 h6 e2 e3 e4 e5 e6 e7 e8 e9 n2 n3 n4 n5 n6 n7 n8 l1 l3
  cases d
  · have E2b : Hid (txtB k ++ [UInt8.ofNat 0] = b2) := E2.out
    have X0 := Lib.hid (Blk.new w 123 #[.string k, .string x, .bool false, .int .i64 (s1 : Int), .int .i64 (s2 : Int), .int .i64 (a1 : Int), .int .i64 (a2 : Int), .int .i64 (p : Int), .int .i64 (q : Int)])
    have O0 := Lib.hid ((Only.refl none_ w).alloc (.cells #[.string k, .string x, .bool false, .int .i64 (s1 : Int), .int .i64 (s2 : Int), .int .i64 (a1 : Int), .int .i64 (a2 : Int), .int .i64 (p : Int), .int .i64 (q : Int)] 123))
    have y0 := nine_of X0.out
    have tokt : True := trivial
    go_enter Tryz.func79, Tryz.ntmps79
    go_wp2_with (first
      | (go_at_call 180; have _t := tokt; clear tokt; refine (rf_text k _ HK.out).mono ?_; rintro e w1 ⟨A1, n1, c1, rfl, own1, o1⟩
         have Q1 : Hid (Ap w w.heap.size #[.string k, .string x, .bool false, .int .i64 (s1 : Int), .int .i64 (s2 : Int), .int .i64 (a1 : Int), .int .i64 (a2 : Int), .int .i64 (p : Int), .int .i64 (q : Int)] (.slice A1 n1 c1) (txtB k) w1) := ⟨X0.out.only o1 (fun h => h), owns_base own1 O0.out.size, O0.out.trans o1⟩
         have y1 := nine_of Q1.out.bx
         have P1 := Lib.hid (Q1.out.keep ((Only.refl none_ w1).alloc (.cells #[.int .u8 0] 5)))
         have g1 := P1.out.ho.size
         have L1 : Hid (Byt (w1.alloc (.cells #[.int .u8 0] 5)) (fun b => b = w1.heap.size) (.slice (some ⟨w1.heap.size, 0, none⟩) 1 1) [UInt8.ofNat 0]) := byt_one w1 0 (by omega) 5
         clear own1 o1)
      | (at_builtin; refine wpList_append_byt _ rfl (.tmp 12) (.tmp 13) _ rfl w.heap.size 5 i0 (.int .u8 0) Tryz.underlying35 hi0 hz0 hz1 hz2 rfl _ _ rfl P1.out.ow _ _ [UInt8.ofNat 0] rfl L1.out HN.out.1 g1 ?_
         intro A2 n2 c2 w2 hown2 hgrow2 hmv2
         have Q2 : Hid (Ap w w.heap.size #[.string k, .string x, .bool false, .int .i64 (s1 : Int), .int .i64 (s2 : Int), .int .i64 (a1 : Int), .int .i64 (a2 : Int), .int .i64 (p : Int), .int .i64 (q : Int)] (.slice A2 n2 c2) b2 w2) := by have := P1.out.app hown2 hgrow2; rwa [E2b.out] at this
         have y2 := nine_of Q2.out.bx
         clear hown2 hgrow2 hmv2
         have tokv : True := trivial)
      | (go_at_call 180; have _t := tokv; clear tokv; refine (rf_text x _ HX.out).mono ?_; rintro e u3 ⟨B3, m3, d3, rfl, own, o⟩
         have P3 := Lib.hid (Q2.out.keep o)
         have g3 := P3.out.ho.size
         have L3 := Lib.hid (Byt.of_own own)
         clear own o)
      | (at_builtin; refine wpList_append_byt _ rfl (.tmp 15) (.tmp 18) _ rfl w.heap.size 5 i0 (.int .u8 0) Tryz.underlying35 hi0 hz0 hz1 hz2 rfl _ _ rfl P3.out.ow _ _ (txtB x) rfl L3.out HN.out.2.1 g3 ?_
         intro A3 n3 c3 w3 hown hgrow hmv
         have Q3 : Hid (Ap w w.heap.size #[.string k, .string x, .bool false, .int .i64 (s1 : Int), .int .i64 (s2 : Int), .int .i64 (a1 : Int), .int .i64 (a2 : Int), .int .i64 (p : Int), .int .i64 (q : Int)] (.slice A3 n3 c3) b3 w3) := by have := P3.out.app hown hgrow; rwa [E3.out] at this
         have y3 := nine_of Q3.out.bx
         clear hown hgrow hmv
         have tokn3 : True := trivial)
      | (go_at_call 181; have _t := tokn3; clear tokn3; refine (rf_number s1 4 _ R1.out (by omega)).mono ?_; rintro e u4 ⟨B4, m4, d4, rfl, own, o⟩
         have P4 := Lib.hid (Q3.out.keep o)
         have g4 := P4.out.ho.size
         have L4 := Lib.hid (Byt.of_own own)
         clear own o)
      | (at_builtin; refine wpList_append_byt _ rfl (.tmp 20) (.tmp 24) _ rfl w.heap.size 5 i0 (.int .u8 0) Tryz.underlying35 hi0 hz0 hz1 hz2 rfl _ _ rfl P4.out.ow _ _ (leBytes s1 4) rfl L4.out HN.out.2.2.1 g4 ?_
         intro A4 n4 c4 w4 hown hgrow hmv
         have Q4 : Hid (Ap w w.heap.size #[.string k, .string x, .bool false, .int .i64 (s1 : Int), .int .i64 (s2 : Int), .int .i64 (a1 : Int), .int .i64 (a2 : Int), .int .i64 (p : Int), .int .i64 (q : Int)] (.slice A4 n4 c4) b4 w4) := by have := P4.out.app hown hgrow; rwa [E4.out] at this
         have y4 := nine_of Q4.out.bx
         clear hown hgrow hmv
         have tokn4 : True := trivial)
      | (go_at_call 181; have _t := tokn4; clear tokn4; refine (rf_number s2 1 _ R2.out (by omega)).mono ?_; rintro e u5 ⟨B5, m5, d5, rfl, own, o⟩
         have P5 := Lib.hid (Q4.out.keep o)
         have g5 := P5.out.ho.size
         have L5 := Lib.hid (Byt.of_own own)
         clear own o)
      | (at_builtin; refine wpList_append_byt _ rfl (.tmp 26) (.tmp 30) _ rfl w.heap.size 5 i0 (.int .u8 0) Tryz.underlying35 hi0 hz0 hz1 hz2 rfl _ _ rfl P5.out.ow _ _ (leBytes s2 1) rfl L5.out HN.out.2.2.2.1 g5 ?_
         intro A5 n5 c5 w5 hown hgrow hmv
         have Q5 : Hid (Ap w w.heap.size #[.string k, .string x, .bool false, .int .i64 (s1 : Int), .int .i64 (s2 : Int), .int .i64 (a1 : Int), .int .i64 (a2 : Int), .int .i64 (p : Int), .int .i64 (q : Int)] (.slice A5 n5 c5) b5 w5) := by have := P5.out.app hown hgrow; rwa [E5.out] at this
         have y5 := nine_of Q5.out.bx
         clear hown hgrow hmv
         have tokn5 : True := trivial)
      | (go_at_call 181; have _t := tokn5; clear tokn5; refine (rf_number a1 4 _ R3.out (by omega)).mono ?_; rintro e u6 ⟨B6, m6, d6, rfl, own, o⟩
         have P6 := Lib.hid (Q5.out.keep o)
         have g6 := P6.out.ho.size
         have L6 := Lib.hid (Byt.of_own own)
         clear own o)
      | (at_builtin; refine wpList_append_byt _ rfl (.tmp 32) (.tmp 36) _ rfl w.heap.size 5 i0 (.int .u8 0) Tryz.underlying35 hi0 hz0 hz1 hz2 rfl _ _ rfl P6.out.ow _ _ (leBytes a1 4) rfl L6.out HN.out.2.2.2.2.1 g6 ?_
         intro A6 n6 c6 w6 hown hgrow hmv
         have Q6 : Hid (Ap w w.heap.size #[.string k, .string x, .bool false, .int .i64 (s1 : Int), .int .i64 (s2 : Int), .int .i64 (a1 : Int), .int .i64 (a2 : Int), .int .i64 (p : Int), .int .i64 (q : Int)] (.slice A6 n6 c6) b6 w6) := by have := P6.out.app hown hgrow; rwa [E6.out] at this
         have y6 := nine_of Q6.out.bx
         clear hown hgrow hmv
         have tokn6 : True := trivial)
      | (go_at_call 181; have _t := tokn6; clear tokn6; refine (rf_number a2 1 _ R4.out (by omega)).mono ?_; rintro e u7 ⟨B7, m7, d7, rfl, own, o⟩
         have P7 := Lib.hid (Q6.out.keep o)
         have g7 := P7.out.ho.size
         have L7 := Lib.hid (Byt.of_own own)
         clear own o)
      | (at_builtin; refine wpList_append_byt _ rfl (.tmp 38) (.tmp 42) _ rfl w.heap.size 5 i0 (.int .u8 0) Tryz.underlying35 hi0 hz0 hz1 hz2 rfl _ _ rfl P7.out.ow _ _ (leBytes a2 1) rfl L7.out HN.out.2.2.2.2.2.1 g7 ?_
         intro A7 n7 c7 w7 hown hgrow hmv
         have Q7 : Hid (Ap w w.heap.size #[.string k, .string x, .bool false, .int .i64 (s1 : Int), .int .i64 (s2 : Int), .int .i64 (a1 : Int), .int .i64 (a2 : Int), .int .i64 (p : Int), .int .i64 (q : Int)] (.slice A7 n7 c7) b7 w7) := by have := P7.out.app hown hgrow; rwa [E7.out] at this
         have y7 := nine_of Q7.out.bx
         clear hown hgrow hmv
         have tokn7 : True := trivial)
      | (go_at_call 181; have _t := tokn7; clear tokn7; refine (rf_number p 2 _ R5.out (by omega)).mono ?_; rintro e u8 ⟨B8, m8, d8, rfl, own, o⟩
         have P8 := Lib.hid (Q7.out.keep o)
         have g8 := P8.out.ho.size
         have L8 := Lib.hid (Byt.of_own own)
         clear own o)
      | (at_builtin; refine wpList_append_byt _ rfl (.tmp 44) (.tmp 47) _ rfl w.heap.size 5 i0 (.int .u8 0) Tryz.underlying35 hi0 hz0 hz1 hz2 rfl _ _ rfl P8.out.ow _ _ (leBytes p 2) rfl L8.out HN.out.2.2.2.2.2.2.1 g8 ?_
         intro A8 n8 c8 w8 hown hgrow hmv
         have Q8 : Hid (Ap w w.heap.size #[.string k, .string x, .bool false, .int .i64 (s1 : Int), .int .i64 (s2 : Int), .int .i64 (a1 : Int), .int .i64 (a2 : Int), .int .i64 (p : Int), .int .i64 (q : Int)] (.slice A8 n8 c8) b8 w8) := by have := P8.out.app hown hgrow; rwa [E8.out] at this
         have y8 := nine_of Q8.out.bx
         clear hown hgrow hmv
         have tokn8 : True := trivial)
      | (go_at_call 181; have _t := tokn8; clear tokn8; refine (rf_number q 4 _ R6.out (by omega)).mono ?_; rintro e u9 ⟨B9, m9, d9, rfl, own, o⟩
         have P9 := Lib.hid (Q8.out.keep o)
         have g9 := P9.out.ho.size
         have L9 := Lib.hid (Byt.of_own own)
         clear own o)
      | (at_builtin; refine wpList_append_byt _ rfl (.tmp 49) (.tmp 52) _ rfl w.heap.size 5 i0 (.int .u8 0) Tryz.underlying35 hi0 hz0 hz1 hz2 rfl _ _ rfl P9.out.ow _ _ (leBytes q 4) rfl L9.out HN.out.2.2.2.2.2.2.2 g9 ?_
         intro A9 n9 c9 w9 hown hgrow hmv
         have Q9 : Hid (Ap w w.heap.size #[.string k, .string x, .bool false, .int .i64 (s1 : Int), .int .i64 (s2 : Int), .int .i64 (a1 : Int), .int .i64 (a2 : Int), .int .i64 (p : Int), .int .i64 (q : Int)] (.slice A9 n9 c9) b9 w9) := by have := P9.out.app hown hgrow; rwa [E9.out] at this
         have y9 := nine_of Q9.out.bx
         clear hown hgrow hmv
         have tokn9 : True := trivial))
    go_ret
    rw [EB.out]
    exact ⟨A9, n9, c9, rfl, Q9.out.ow, Q9.out.ho⟩
  · have E2b : Hid (txtB k ++ [UInt8.ofNat 1] = b2) := E2.out
    have X0 := Lib.hid (Blk.new w 123 #[.string k, .string x, .bool true, .int .i64 (s1 : Int), .int .i64 (s2 : Int), .int .i64 (a1 : Int), .int .i64 (a2 : Int), .int .i64 (p : Int), .int .i64 (q : Int)])
    have O0 := Lib.hid ((Only.refl none_ w).alloc (.cells #[.string k, .string x, .bool true, .int .i64 (s1 : Int), .int .i64 (s2 : Int), .int .i64 (a1 : Int), .int .i64 (a2 : Int), .int .i64 (p : Int), .int .i64 (q : Int)] 123))
    have y0 := nine_of X0.out
    have tokt : True := trivial
    go_enter Tryz.func79, Tryz.ntmps79
    go_wp2_with (first
      | (go_at_call 180; have _t := tokt; clear tokt; refine (rf_text k _ HK.out).mono ?_; rintro e w1 ⟨A1, n1, c1, rfl, own1, o1⟩
         have Q1 : Hid (Ap w w.heap.size #[.string k, .string x, .bool true, .int .i64 (s1 : Int), .int .i64 (s2 : Int), .int .i64 (a1 : Int), .int .i64 (a2 : Int), .int .i64 (p : Int), .int .i64 (q : Int)] (.slice A1 n1 c1) (txtB k) w1) := ⟨X0.out.only o1 (fun h => h), owns_base own1 O0.out.size, O0.out.trans o1⟩
         have y1 := nine_of Q1.out.bx
         have P1 := Lib.hid (Q1.out.keep ((Only.refl none_ w1).alloc (.cells #[.int .u8 1] 5)))
         have g1 := P1.out.ho.size
         have L1 : Hid (Byt (w1.alloc (.cells #[.int .u8 1] 5)) (fun b => b = w1.heap.size) (.slice (some ⟨w1.heap.size, 0, none⟩) 1 1) [UInt8.ofNat 1]) := byt_one w1 1 (by omega) 5
         clear own1 o1)
      | (at_builtin; refine wpList_append_byt _ rfl (.tmp 9) (.tmp 10) _ rfl w.heap.size 5 i0 (.int .u8 0) Tryz.underlying35 hi0 hz0 hz1 hz2 rfl _ _ rfl P1.out.ow _ _ [UInt8.ofNat 1] rfl L1.out HN.out.1 g1 ?_
         intro A2 n2 c2 w2 hown2 hgrow2 hmv2
         have Q2 : Hid (Ap w w.heap.size #[.string k, .string x, .bool true, .int .i64 (s1 : Int), .int .i64 (s2 : Int), .int .i64 (a1 : Int), .int .i64 (a2 : Int), .int .i64 (p : Int), .int .i64 (q : Int)] (.slice A2 n2 c2) b2 w2) := by have := P1.out.app hown2 hgrow2; rwa [E2b.out] at this
         have y2 := nine_of Q2.out.bx
         clear hown2 hgrow2 hmv2
         have tokv : True := trivial)
      | (go_at_call 180; have _t := tokv; clear tokv; refine (rf_text x _ HX.out).mono ?_; rintro e u3 ⟨B3, m3, d3, rfl, own, o⟩
         have P3 := Lib.hid (Q2.out.keep o)
         have g3 := P3.out.ho.size
         have L3 := Lib.hid (Byt.of_own own)
         clear own o)
      | (at_builtin; refine wpList_append_byt _ rfl (.tmp 15) (.tmp 18) _ rfl w.heap.size 5 i0 (.int .u8 0) Tryz.underlying35 hi0 hz0 hz1 hz2 rfl _ _ rfl P3.out.ow _ _ (txtB x) rfl L3.out HN.out.2.1 g3 ?_
         intro A3 n3 c3 w3 hown hgrow hmv
         have Q3 : Hid (Ap w w.heap.size #[.string k, .string x, .bool true, .int .i64 (s1 : Int), .int .i64 (s2 : Int), .int .i64 (a1 : Int), .int .i64 (a2 : Int), .int .i64 (p : Int), .int .i64 (q : Int)] (.slice A3 n3 c3) b3 w3) := by have := P3.out.app hown hgrow; rwa [E3.out] at this
         have y3 := nine_of Q3.out.bx
         clear hown hgrow hmv
         have tokn3 : True := trivial)
      | (go_at_call 181; have _t := tokn3; clear tokn3; refine (rf_number s1 4 _ R1.out (by omega)).mono ?_; rintro e u4 ⟨B4, m4, d4, rfl, own, o⟩
         have P4 := Lib.hid (Q3.out.keep o)
         have g4 := P4.out.ho.size
         have L4 := Lib.hid (Byt.of_own own)
         clear own o)
      | (at_builtin; refine wpList_append_byt _ rfl (.tmp 20) (.tmp 24) _ rfl w.heap.size 5 i0 (.int .u8 0) Tryz.underlying35 hi0 hz0 hz1 hz2 rfl _ _ rfl P4.out.ow _ _ (leBytes s1 4) rfl L4.out HN.out.2.2.1 g4 ?_
         intro A4 n4 c4 w4 hown hgrow hmv
         have Q4 : Hid (Ap w w.heap.size #[.string k, .string x, .bool true, .int .i64 (s1 : Int), .int .i64 (s2 : Int), .int .i64 (a1 : Int), .int .i64 (a2 : Int), .int .i64 (p : Int), .int .i64 (q : Int)] (.slice A4 n4 c4) b4 w4) := by have := P4.out.app hown hgrow; rwa [E4.out] at this
         have y4 := nine_of Q4.out.bx
         clear hown hgrow hmv
         have tokn4 : True := trivial)
      | (go_at_call 181; have _t := tokn4; clear tokn4; refine (rf_number s2 1 _ R2.out (by omega)).mono ?_; rintro e u5 ⟨B5, m5, d5, rfl, own, o⟩
         have P5 := Lib.hid (Q4.out.keep o)
         have g5 := P5.out.ho.size
         have L5 := Lib.hid (Byt.of_own own)
         clear own o)
      | (at_builtin; refine wpList_append_byt _ rfl (.tmp 26) (.tmp 30) _ rfl w.heap.size 5 i0 (.int .u8 0) Tryz.underlying35 hi0 hz0 hz1 hz2 rfl _ _ rfl P5.out.ow _ _ (leBytes s2 1) rfl L5.out HN.out.2.2.2.1 g5 ?_
         intro A5 n5 c5 w5 hown hgrow hmv
         have Q5 : Hid (Ap w w.heap.size #[.string k, .string x, .bool true, .int .i64 (s1 : Int), .int .i64 (s2 : Int), .int .i64 (a1 : Int), .int .i64 (a2 : Int), .int .i64 (p : Int), .int .i64 (q : Int)] (.slice A5 n5 c5) b5 w5) := by have := P5.out.app hown hgrow; rwa [E5.out] at this
         have y5 := nine_of Q5.out.bx
         clear hown hgrow hmv
         have tokn5 : True := trivial)
      | (go_at_call 181; have _t := tokn5; clear tokn5; refine (rf_number a1 4 _ R3.out (by omega)).mono ?_; rintro e u6 ⟨B6, m6, d6, rfl, own, o⟩
         have P6 := Lib.hid (Q5.out.keep o)
         have g6 := P6.out.ho.size
         have L6 := Lib.hid (Byt.of_own own)
         clear own o)
      | (at_builtin; refine wpList_append_byt _ rfl (.tmp 32) (.tmp 36) _ rfl w.heap.size 5 i0 (.int .u8 0) Tryz.underlying35 hi0 hz0 hz1 hz2 rfl _ _ rfl P6.out.ow _ _ (leBytes a1 4) rfl L6.out HN.out.2.2.2.2.1 g6 ?_
         intro A6 n6 c6 w6 hown hgrow hmv
         have Q6 : Hid (Ap w w.heap.size #[.string k, .string x, .bool true, .int .i64 (s1 : Int), .int .i64 (s2 : Int), .int .i64 (a1 : Int), .int .i64 (a2 : Int), .int .i64 (p : Int), .int .i64 (q : Int)] (.slice A6 n6 c6) b6 w6) := by have := P6.out.app hown hgrow; rwa [E6.out] at this
         have y6 := nine_of Q6.out.bx
         clear hown hgrow hmv
         have tokn6 : True := trivial)
      | (go_at_call 181; have _t := tokn6; clear tokn6; refine (rf_number a2 1 _ R4.out (by omega)).mono ?_; rintro e u7 ⟨B7, m7, d7, rfl, own, o⟩
         have P7 := Lib.hid (Q6.out.keep o)
         have g7 := P7.out.ho.size
         have L7 := Lib.hid (Byt.of_own own)
         clear own o)
      | (at_builtin; refine wpList_append_byt _ rfl (.tmp 38) (.tmp 42) _ rfl w.heap.size 5 i0 (.int .u8 0) Tryz.underlying35 hi0 hz0 hz1 hz2 rfl _ _ rfl P7.out.ow _ _ (leBytes a2 1) rfl L7.out HN.out.2.2.2.2.2.1 g7 ?_
         intro A7 n7 c7 w7 hown hgrow hmv
         have Q7 : Hid (Ap w w.heap.size #[.string k, .string x, .bool true, .int .i64 (s1 : Int), .int .i64 (s2 : Int), .int .i64 (a1 : Int), .int .i64 (a2 : Int), .int .i64 (p : Int), .int .i64 (q : Int)] (.slice A7 n7 c7) b7 w7) := by have := P7.out.app hown hgrow; rwa [E7.out] at this
         have y7 := nine_of Q7.out.bx
         clear hown hgrow hmv
         have tokn7 : True := trivial)
      | (go_at_call 181; have _t := tokn7; clear tokn7; refine (rf_number p 2 _ R5.out (by omega)).mono ?_; rintro e u8 ⟨B8, m8, d8, rfl, own, o⟩
         have P8 := Lib.hid (Q7.out.keep o)
         have g8 := P8.out.ho.size
         have L8 := Lib.hid (Byt.of_own own)
         clear own o)
      | (at_builtin; refine wpList_append_byt _ rfl (.tmp 44) (.tmp 47) _ rfl w.heap.size 5 i0 (.int .u8 0) Tryz.underlying35 hi0 hz0 hz1 hz2 rfl _ _ rfl P8.out.ow _ _ (leBytes p 2) rfl L8.out HN.out.2.2.2.2.2.2.1 g8 ?_
         intro A8 n8 c8 w8 hown hgrow hmv
         have Q8 : Hid (Ap w w.heap.size #[.string k, .string x, .bool true, .int .i64 (s1 : Int), .int .i64 (s2 : Int), .int .i64 (a1 : Int), .int .i64 (a2 : Int), .int .i64 (p : Int), .int .i64 (q : Int)] (.slice A8 n8 c8) b8 w8) := by have := P8.out.app hown hgrow; rwa [E8.out] at this
         have y8 := nine_of Q8.out.bx
         clear hown hgrow hmv
         have tokn8 : True := trivial)
      | (go_at_call 181; have _t := tokn8; clear tokn8; refine (rf_number q 4 _ R6.out (by omega)).mono ?_; rintro e u9 ⟨B9, m9, d9, rfl, own, o⟩
         have P9 := Lib.hid (Q8.out.keep o)
         have g9 := P9.out.ho.size
         have L9 := Lib.hid (Byt.of_own own)
         clear own o)
      | (at_builtin; refine wpList_append_byt _ rfl (.tmp 49) (.tmp 52) _ rfl w.heap.size 5 i0 (.int .u8 0) Tryz.underlying35 hi0 hz0 hz1 hz2 rfl _ _ rfl P9.out.ow _ _ (leBytes q 4) rfl L9.out HN.out.2.2.2.2.2.2.2 g9 ?_
         intro A9 n9 c9 w9 hown hgrow hmv
         have Q9 : Hid (Ap w w.heap.size #[.string k, .string x, .bool true, .int .i64 (s1 : Int), .int .i64 (s2 : Int), .int .i64 (a1 : Int), .int .i64 (a2 : Int), .int .i64 (p : Int), .int .i64 (q : Int)] (.slice A9 n9 c9) b9 w9) := by have := P9.out.app hown hgrow; rwa [E9.out] at this
         have y9 := nine_of Q9.out.bx
         clear hown hgrow hmv
         have tokn9 : True := trivial))
    go_ret
    rw [EB.out]
    exact ⟨A9, n9, c9, rfl, Q9.out.ow, Q9.out.ho⟩
end Go.Proofs.YtlieolehpmobfaaGreatDoor
end
section
namespace Go.Proofs.YtlieolehpmobfaaGreatDoor
open Go.RowKit
set_option linter.all false
set_option maxRecDepth 100000
theorem rd_number (n m : Nat) (w : World) (hn : n < 18446744073709551616) (hm : m ≤ 8) :
    Calls Tryz.prog 77 #[.int .u64 (n : Int), .int .i64 (m : Int)] w fun e w' => ∃ A k c, e = .returned (.slice A k c) ∧ w'.ownsRow w.heap.size 5 1 (.slice A k c) (leBytes n m).length (byts (leBytes n m)) ∧ Only none_ w w' := by
  have C := refNumber_any n m hn hm w
  have HL : Hid ((leBytes n m).length = m) := leBytes_len n m
  clear hn hm
  go_enter Tryz.func77, Tryz.ntmps77
  go_wp2_with (go_at_call 179; refine C.mono ?_; rintro e w1 ⟨A1, k1, c1, T1, rfl, _, own1, o1⟩; have X1 := Lib.hid own1; have O1 := Lib.hid o1; clear own1 o1)
  go_ret
  rw [HL.out]
  exact ⟨A1, k1, c1, rfl, X1.out, O1.out⟩
theorem byt_two2 (w : World) (a b : Nat) (ha : a < 256) (hb : b < 256) : Byt (w.alloc (.cells #[.int .u8 (a : Int), .int .u8 (b : Int)] 5)) (fun k => k = w.heap.size) (.slice (some ⟨w.heap.size, 0, none⟩) 2 2) [UInt8.ofNat a, UInt8.ofNat b] := by
  have h : (w.alloc (.cells (byts [UInt8.ofNat a, UInt8.ofNat b]).toArray 5)).ownsRow w.heap.size 5 1 (.slice (some ⟨w.heap.size, 0, none⟩) 2 2) 2 (byts [UInt8.ofNat a, UInt8.ofNat b]) := World.ownsRow_lit (e := 5) (size := 1) w (byts [UInt8.ofNat a, UInt8.ofNat b]).toArray 2 (Nat.le_refl _) (by simp [maxLen]) (by simp)
  have e : (byts [UInt8.ofNat a, UInt8.ofNat b]).toArray = #[.int .u8 (a : Int), .int .u8 (b : Int)] := by
    have h1 : (UInt8.ofNat a).toNat = a := by simp; omega
    have h2 : (UInt8.ofNat b).toNat = b := by simp; omega
    simp [byts, byt, h1, h2]
  rw [e] at h
  exact (Byt.of_own h).mono (fun k _ hk => by simp [ownb, Value.ownBlock] at hk; exact hk.symm)
theorem le_one (n : Nat) (h : n < 256) : leBytes n 1 = [UInt8.ofNat n] := by
  simp [leBytes, leByte]
set_option maxHeartbeats 6400000 in
theorem rd_mark_bytes (x : Mk) (w : World) (hx : mkFit x) :
    Calls Tryz.prog 78 #[.agg #[.int .i64 x.a.c, .int .i64 x.a.s, .string x.k]] w fun e w' => ∃ A k c, e = .returned (.slice A k c) ∧ w'.ownsRow w.heap.size 5 1 (.slice A k c) (markB x).length (byts (markB x)) ∧ Only none_ w w' := by
  obtain ⟨i0, hi0, hz0, hz1, hz2⟩ := info_parts u8_info
  obtain ⟨⟨xc, xs⟩, k⟩ := x
  obtain ⟨⟨c0, c1⟩, ⟨s0, s1⟩, hk⟩ := hx
  dsimp only at c0 c1 s0 s1 hk
  obtain ⟨a, rfl⟩ : ∃ a : Nat, xc = a := ⟨xc.toNat, by omega⟩
  obtain ⟨b, rfl⟩ : ∃ b : Nat, xs = b := ⟨xs.toNat, by omega⟩
  have HF : Hid (markB ⟨⟨a, b⟩, k⟩ = leBytes a 4 ++ [UInt8.ofNat b, UInt8.ofNat k.size] ++ k.data.toList) := by
    rw [Hid, markB]
    show leBytes a 4 ++ leBytes b 1 ++ txtB k = _
    rw [le_one b (by omega)]
    simp [txtB]
  have u1 : IntKind.u64.wrap (a : Int) = (a : Int) := IntWalk.u64_in _ (by omega)
  have u2 : IntKind.u8.wrap (b : Int) = (b : Int) := IntWalk.u8_in _ (by omega)
  have u3 : IntKind.u8.wrap (k.size : Int) = (k.size : Int) := IntWalk.u8_in _ (by omega)
  have HC := Lib.hid (fun w => rd_number a 4 w (by omega) (by omega))
  have HB2 : Hid (b < 256 ∧ k.size < 256) := ⟨by omega, by omega⟩
  have HLN : Hid ((leBytes a 4).length + [UInt8.ofNat b, UInt8.ofNat k.size].length ≤ 140737488355328 ∧ (leBytes a 4 ++ [UInt8.ofNat b, UInt8.ofNat k.size]).length + k.data.toList.length ≤ 140737488355328 ∧ k.size ≤ 300) := by
    have e : k.data.toList.length = k.size := Array.length_toList
    have e2 : (leBytes a 4).length = 4 := leBytes_len _ _
    rw [List.length_append, e, e2]
    refine ⟨by simp, by simp; omega, by omega⟩
  have X0 := Lib.hid (Blk.new w 27 #[.int .i64 (a : Int), .int .i64 (b : Int), .string k])
  have O0 := Lib.hid ((Only.refl none_ w).alloc (.cells #[.int .i64 (a : Int), .int .i64 (b : Int), .string k] 27))
  have hcv := fun w => run_bytes_of_string (P := Tryz.prog) w 9 35 5 k Tryz.underlying9 Tryz.underlying35 Tryz.underlying5
  clear c0 c1 s0 s1 hk
  go_enter Tryz.func78, Tryz.ntmps78
  go_upto_region 1 with fail
  obtain ⟨w0, hw0⟩ : ∃ w0, w.alloc (.cells #[.int .i64 (a : Int), .int .i64 (b : Int), .string k] 27) = w0 := ⟨_, rfl⟩
  rw [hw0] at X0 O0 ⊢
  clear hw0
  (refine wp_region_free_tail (fun X => Only none_ w0 X) (Only none_) (F := ?_) (by kernel_rfl) 14 24 (by rfl) (by kernel_rfl) (fun x => ?_) ((Only.refl none_ w0).drew) ?_; rotate_left; (· (simp only [List.take_succ_cons, List.take_zero, putsL, Act.put, List.setIfInBounds_toArray, List.set_cons_zero, List.set_cons_succ, Nat.reduceAdd]; exact rfl)); simp only [List.take_succ_cons, List.take_zero, List.drop_succ_cons, List.drop_zero])
  repeat (first
    | ((first | refine fr_some (fun v X => ∃ A n c, v = .slice A n c ∧ X.ownsRow w.heap.size 5 1 (.slice A n c) (leBytes a 4).length (byts (leBytes a 4))) (fun _ _ _ _ _ r ⟨A, n, c, h1, h2⟩ => ⟨A, n, c, h1, owns_only h2 r (fun _ _ h => h)⟩) (by rfl) (fun x w0 hS hk => ?_) ?_ | refine fr_some_if (fun v X => ∃ A n c, v = .slice A n c ∧ X.ownsRow w.heap.size 5 1 (.slice A n c) (leBytes a 4).length (byts (leBytes a 4))) (fun _ _ _ _ _ r ⟨A, n, c, h1, h2⟩ => ⟨A, n, c, h1, owns_only h2 r (fun _ _ h => h)⟩) (by rfl) (by rfl) (by rfl) (fun x w0 hS hk => ?_) ?_); (· (have hk2 := hk; (try simp [knAll, Region.binds] at hk2); skip; refine got_call (f := 77) (args := ?_) (by go_simp; try (with_reducible rfl)) ?_; refine (HC.out _).mono ?_; rintro E w8 ⟨A8, n8, c8, rfl, own8, o8⟩; exact ⟨_, rfl, ⟨A8, n8, c8, rfl, owns_base own8 (Nat.le_trans O0.out.size hS.size)⟩, hS.trans o8, o8⟩)); try simp only [List.nil_append, List.cons_append])
    | ((first | refine fr_some (fun v X => ∃ g, v = .slice (some ⟨g, 0, none⟩) 2 2 ∧ Byt X (fun k => k = g) (.slice (some ⟨g, 0, none⟩) 2 2) [UInt8.ofNat b, UInt8.ofNat k.size]) (fun _ _ _ _ _ r ⟨g, h1, h2⟩ => ⟨g, h1, h2.only r (fun _ _ h => h)⟩) (by rfl) (fun x w0 hS hk => ?_) ?_ | refine fr_some_if (fun v X => ∃ g, v = .slice (some ⟨g, 0, none⟩) 2 2 ∧ Byt X (fun k => k = g) (.slice (some ⟨g, 0, none⟩) 2 2) [UInt8.ofNat b, UInt8.ofNat k.size]) (fun _ _ _ _ _ r ⟨g, h1, h2⟩ => ⟨g, h1, h2.only r (fun _ _ h => h)⟩) (by rfl) (by rfl) (by rfl) (fun x w0 hS hk => ?_) ?_); (· (have hk2 := hk; (try simp [knAll, Region.binds] at hk2); skip; refine got_value (v := ?_) (w' := ?_) (by go_simp; (first | with_reducible rfl | (refine ⟨?_, ?_⟩; with_reducible rfl; with_reducible rfl))) ?_; exact ⟨⟨_, rfl, byt_two2 _ _ _ HB2.out.1 HB2.out.2⟩, hS.alloc _, (Only.refl none_ _).alloc _⟩)); try simp only [List.nil_append, List.cons_append])
    | ((first | refine fr_value (c := ?_) (by rfl) (fun w => Only.refl none_ w) (fun x w0 hS hk => ?_) ?_ | refine fr_value_if (c := ?_) (by rfl) (by rfl) (by rfl) (fun w => Only.refl none_ w) (fun x w0 hS hk => ?_) ?_); rotate_left; (· (have hk2 := hk; (try simp [knAll, Region.binds] at hk2); have y := X0.out.only hS (fun h => h); have y0 := y.cell_ (i := 0) rfl; have y1 := y.cell_ (i := 1) rfl; have y2 := y.cell_ (i := 2) rfl; go_simp; try (with_reducible rfl))); try simp only [List.nil_append, List.cons_append]))
  (refine fr_end ?_; intro x w9 hS hk)
  obtain ⟨A4, n4, c4, e4, own4⟩ := kn_end_at 4 hk (by rfl)
  obtain ⟨g13, e13, b13⟩ := kn_end_at 13 hk (by rfl)
  rw [Nat.zero_add] at e4 e13
  rw [e4, e13]
  have H4 := Lib.hid own4
  have B13 := Lib.hid b13
  have X9 := Lib.hid (X0.out.only hS (fun h => h))
  have O9 := Lib.hid (O0.out.trans hS)
  clear hk e4 e13 own4 b13 hS X0 O0
  go_wp2_with (first
    | (at_builtin; refine wpList_append_byt _ rfl (.tmp 8) (.tmp 17) _ rfl w.heap.size 5 i0 (.int .u8 0) Tryz.underlying35 hi0 hz0 hz1 hz2 rfl _ _ rfl H4.out _ _ [UInt8.ofNat b, UInt8.ofNat k.size] rfl B13.out HLN.out.1 O9.out.size ?_
       intro A5 n5 c5 w5 hown5 hgrow5 hmv5
       have H5 := Lib.hid hown5
       have O5 : Hid (Only none_ w w5) := O9.out.grown hgrow5 (fun k hk => .inr (H4.out.lt k hk).1)
       have X5 := Lib.hid (X9.out.grown' hgrow5 (own_blk_ne H4.out X9.out (by decide)))
       have y2 := X5.out.cell_ (i := 2) rfl
       have hcap : (grownCap w5 k.size 0 5) ≤ maxLen := grownCap_le_maxLen _ _ _ _ (by simp only [maxLen]; have := HLN.out.2.2; omega)
       have B6 := Lib.hid (byt_of_string w5 k (grownCap w5 k.size 0 5) (grownCap_ge _ _ _ _) hcap 5 ((bytesRow k (grownCap w5 k.size 0 5)).size, (bytesRow k (grownCap w5 k.size 0 5)).size + 1)).drew
       have O6 := Lib.hid ((O5.out.alloc (.cells (bytesRow k (grownCap w5 k.size 0 5)) 5 ((bytesRow k (grownCap w5 k.size 0 5)).size, (bytesRow k (grownCap w5 k.size 0 5)).size + 1))).drew)
       have H6 := Lib.hid (owns_only H5.out ((((Only.refl none_ w5).alloc (.cells (bytesRow k (grownCap w5 k.size 0 5)) 5 ((bytesRow k (grownCap w5 k.size 0 5)).size, (bytesRow k (grownCap w5 k.size 0 5)).size + 1))).drew)) (fun _ _ h => h))
       clear hown5 hgrow5 hmv5 hcap)
    | (at_builtin; refine wpList_append_byt _ rfl (.tmp 19) (.tmp 22) _ rfl w.heap.size 5 i0 (.int .u8 0) Tryz.underlying35 hi0 hz0 hz1 hz2 rfl _ _ rfl H6.out _ _ k.data.toList rfl B6.out HLN.out.2.1 O6.out.size ?_
       intro A7 n7 c7 w7 hown7 hgrow7 hmv7
       have H7 := Lib.hid hown7
       have O7 := Lib.hid (O6.out.grown hgrow7 (fun k hk => .inr (H6.out.lt k hk).1))
       clear hown7 hgrow7 hmv7))
  go_ret
  rw [HF.out]
  exact ⟨A7, n7, c7, rfl, H7.out, O7.out⟩
end Go.Proofs.YtlieolehpmobfaaGreatDoor
end
section
namespace Go.Proofs.YtlieolehpmobfaaGreatDoor
open Go.RowKit
set_option linter.all false
set_option maxRecDepth 100000
theorem flat_cap {α : Type} (g : α → List UInt8) (n : Nat) : ∀ (l : List α), (∀ x ∈ l, (g x).length ≤ n) → (l.flatMap g).length ≤ l.length * n
  | [], _ => by simp
  | x :: l, h => by
    have h1 := h x List.mem_cons_self
    have h2 := flat_cap g n l (fun y hy => h y (List.mem_cons_of_mem _ hy))
    rw [List.flatMap_cons, List.length_append, List.length_cons, Nat.succ_mul]
    omega
theorem listB_le {α : Type} (g : α → List UInt8) (n : Nat) (l : List α) (h8 : l.length ≤ 8) (h : ∀ x ∈ l, (g x).length ≤ n) : (listB g l).length ≤ 1 + 8 * n := by
  have := flat_cap g n l h
  have h2 : l.length * n ≤ 8 * n := Nat.mul_le_mul_right _ h8
  unfold listB
  rw [List.length_append, leBytes_len]
  omega
def capF (i : Nat) : Nat := match i with | 0 => 1 | 1 => 1 | 2 => 1 | 3 => 9 | 4 => 4 | 5 => 8 | 6 => 22 | 7 => 177 | _ => 537
theorem fieldB_cap {m : Ms} {i : Nat} (hi : i < 9) (h : fits m i) : (fieldB m i).length ≤ capF i := by
  rcases nine_ways hi with rfl | rfl | rfl | rfl | rfl | rfl | rfl | rfl | rfl
  · exact nodeL_len h
  · exact Nat.le_of_eq (leBytes_len _ _)
  · exact Nat.le_refl _
  · exact listB_le nodeL 1 m.ps h.1 (fun x hx => nodeL_len (h.2 x hx))
  · exact Nat.le_of_eq (leBytes_len _ _)
  · exact Nat.le_of_eq (leBytes_len _ _)
  · exact markB_len h
  · exact listB_le markB 22 m.ms h.1 (fun x hx => markB_len (h.2 x hx))
  · exact listB_le entB 67 m.es h.1 (fun x hx => entB_len (h.2 x hx))
def capR (k : Int) : Nat → Nat
  | 0 => 0
  | n + 1 => if wHas k n = true then capR k n + capF n else capR k n
theorem runB_cap {m : Ms} (h : ∀ i, i < 9 → wHas m.kd i = true → fits m i) : ∀ n, n ≤ 9 → (runB m n).length ≤ capR m.kd n
  | 0, _ => Nat.le_refl _
  | n + 1, hn => by
    have ih := runB_cap h n (by omega)
    show (if wHas m.kd n = true then runB m n ++ fieldB m n else runB m n).length ≤ if wHas m.kd n = true then capR m.kd n + capF n else capR m.kd n
    split
    · rename_i hh
      have := fieldB_cap (by omega) (h n (by omega) hh)
      rw [List.length_append]; omega
    · exact ih
theorem wEnc_720 {m : Ms} (h : wGood m = 0) (hs : m.su < 18446744073709551616) : (wEnc m).length ≤ 720 := by
  have h1 := runB_cap (fun i hi hh => good_fits h hs hi hh) 9 (Nat.le_refl _)
  have h2 : capR m.kd 9 ≤ 720 := by
    rcases kind_ways (good_kind h) with e | e | e | e | e | e | e | e | e | e | e | e | e | e | e | e | e | e | e <;> rw [e] <;> decide
  exact Nat.le_trans h1 h2
end Go.Proofs.YtlieolehpmobfaaGreatDoor
end
section
namespace Go.Proofs.YtlieolehpmobfaaGreatDoor
open Go.RowKit
set_option linter.all false
set_option maxRecDepth 100000
structure By (W : World) (m : Ms) (vp vm ve : Value) (bs : List UInt8) (v : Value) (w : World) : Prop where
  bx : Blk w W.heap.size 31 #[.int .i64 m.kd, .int .i64 m.pe, .int .i64 m.hp, .bool m.hi, vp, .int .i64 m.nu, .int .u64 (m.su : Int), .int .i64 m.mr.a.c, .int .i64 m.mr.a.s, .string m.mr.k, vm, ve]
  ml : Ml (fun b => b < W.heap.size) m vp vm ve w
  ow : w.ownsRow W.heap.size 5 1 v bs.length (byts bs)
  ho : Only none_ W w
section
variable {W w w' : World} {m : Ms} {vp vm ve v v' : Value} {bs bs' : List UInt8}
theorem By.keep (a : By W m vp vm ve bs v w) (o : Only none_ w w') : By W m vp vm ve bs v w' := ⟨a.bx.only o (fun h => h), a.ml.keep o, owns_only a.ow o (fun _ _ h => h), a.ho.trans o⟩
theorem By.app (a : By W m vp vm ve bs v w) (own : w'.ownsRow W.heap.size 5 1 v' bs'.length (byts bs')) (hg : w.grownBy w' v.ownBlock) : By W m vp vm ve bs' v' w' :=
  ⟨a.bx.grown' hg (own_blk_ne a.ow a.bx (by decide)), a.ml.only ((Only.refl (fun b => v.ownBlock = some b) w).grown hg (fun k hk => .inl hk)) (fun b hb h => by have := (a.ow.lt b h).1; omega), own, a.ho.grown hg (fun k hk => .inr (a.ow.lt k hk).1)⟩
theorem By.cast (a : By W m vp vm ve bs v w) (h : bs = bs') : By W m vp vm ve bs' v w := h ▸ a
end
theorem byt_i1 (w : World) (x : Int) (h0 : 0 ≤ x) (h1 : x < 256) : Byt (w.alloc (.cells #[.int .u8 x] 5)) (fun k => k = w.heap.size) (.slice (some ⟨w.heap.size, 0, none⟩) 1 1) [UInt8.ofNat x.toNat] := by
  have := byt_one w x.toNat (by omega) 5
  rwa [show ((x.toNat : Nat) : Int) = x by omega] at this
theorem byt_i2 (w : World) (x y : Int) (h0 : 0 ≤ x) (h1 : x < 256) (h2 : 0 ≤ y) (h3 : y < 256) : Byt (w.alloc (.cells #[.int .u8 x, .int .u8 y] 5)) (fun k => k = w.heap.size) (.slice (some ⟨w.heap.size, 0, none⟩) 2 2) [UInt8.ofNat x.toNat, UInt8.ofNat y.toNat] := by
  have := byt_two2 w x.toNat y.toNat (by omega) (by omega)
  rwa [show ((x.toNat : Nat) : Int) = x by omega, show ((y.toNat : Nat) : Int) = y by omega] at this
theorem leBytes_one' (n : Nat) : leBytes n 1 = [UInt8.ofNat n] := by simp [leBytes, leByte]
theorem runB_s {m : Ms} {n : Nat} {b : Bool} (h : wHas m.kd n = b) : runB m (n + 1) = if b = true then runB m n ++ fieldB m n else runB m n := by rw [← h]; rfl
theorem flat_next {α : Type} (g : α → List UInt8) (l : List α) (n : Nat) (x : α) (hx : l[n]? = some x) : (l.take (n + 1)).flatMap g = (l.take n).flatMap g ++ g x := by
  obtain ⟨hn, he⟩ := List.getElem?_eq_some_iff.1 hx
  rw [List.take_succ_eq_append_getElem hn, List.flatMap_append, he]; simp
theorem flat_upto {α : Type} (g : α → List UInt8) (l : List α) (n k : Nat) (h8 : l.length ≤ 8) (h : ∀ x ∈ l, (g x).length ≤ k) : ((l.take n).flatMap g).length ≤ 8 * k := by
  have h1 := flat_cap g k (l.take n) (fun x hx => h x (List.mem_of_mem_take hx))
  have h2 : (l.take n).length ≤ 8 := by rw [List.length_take]; omega
  exact Nat.le_trans h1 (Nat.mul_le_mul_right _ h2)
set_option maxHeartbeats 25600000 in
theorem rd_wbytes (m : Ms) (vp vm ve : Value) (w : World) (hl : Ml (fun b => b < w.heap.size) m vp vm ve w) (hf : ∀ i, i < 9 → wHas m.kd i = true → fits m i) :
    Calls Tryz.prog 24 #[.agg #[.int .i64 m.kd, .int .i64 m.pe, .int .i64 m.hp, .bool m.hi, vp, .int .i64 m.nu, .int .u64 (m.su : Int), .int .i64 m.mr.a.c, .int .i64 m.mr.a.s, .string m.mr.k, vm, ve]] w fun E w' => ∃ A n c, E = .returned (.slice A n c) ∧ w'.ownsRow w.heap.size 5 1 (.slice A n c) (wEnc m).length (byts (wEnc m)) ∧ Only none_ w w' := by
  obtain ⟨i0, hi0, hz0, hz1, hz2⟩ := info_parts u8_info
  obtain ⟨P1, p1, P2, p2, P3, p3, e1, e2, e3⟩ := hl.shape
  subst e1 e2 e3
  have HLE := Lib.hid (fun n (hn : n ≤ 9) => runB_len hf n hn)
  obtain ⟨b0, hb0⟩ : ∃ b, wHas m.kd 0 = b := ⟨_, rfl⟩
  have HH0 := Lib.hid hb0
  have RS0 := Lib.hid (runB_s hb0)
  have FT0 : Hid (b0 = true → fits m 0) := fun h => hf 0 (by omega) (by rw [hb0]; exact h)
  obtain ⟨b2, hb2⟩ : ∃ b, wHas m.kd 2 = b := ⟨_, rfl⟩
  have HH2 := Lib.hid hb2
  have RS2 := Lib.hid (runB_s hb2)
  have FT2 : Hid (b2 = true → fits m 2) := fun h => hf 2 (by omega) (by rw [hb2]; exact h)
  obtain ⟨b3, hb3⟩ : ∃ b, wHas m.kd 3 = b := ⟨_, rfl⟩
  have HH3 := Lib.hid hb3
  have RS3 := Lib.hid (runB_s hb3)
  have FT3 : Hid (b3 = true → fits m 3) := fun h => hf 3 (by omega) (by rw [hb3]; exact h)
  obtain ⟨b4, hb4⟩ : ∃ b, wHas m.kd 4 = b := ⟨_, rfl⟩
  have HH4 := Lib.hid hb4
  have RS4 := Lib.hid (runB_s hb4)
  have FT4 : Hid (b4 = true → fits m 4) := fun h => hf 4 (by omega) (by rw [hb4]; exact h)
  obtain ⟨b5, hb5⟩ : ∃ b, wHas m.kd 5 = b := ⟨_, rfl⟩
  have HH5 := Lib.hid hb5
  have RS5 := Lib.hid (runB_s hb5)
  have FT5 : Hid (b5 = true → fits m 5) := fun h => hf 5 (by omega) (by rw [hb5]; exact h)
  obtain ⟨b6, hb6⟩ : ∃ b, wHas m.kd 6 = b := ⟨_, rfl⟩
  have HH6 := Lib.hid hb6
  have RS6 := Lib.hid (runB_s hb6)
  have FT6 : Hid (b6 = true → fits m 6) := fun h => hf 6 (by omega) (by rw [hb6]; exact h)
  obtain ⟨b7, hb7⟩ : ∃ b, wHas m.kd 7 = b := ⟨_, rfl⟩
  have HH7 := Lib.hid hb7
  have RS7 := Lib.hid (runB_s hb7)
  have FT7 : Hid (b7 = true → fits m 7) := fun h => hf 7 (by omega) (by rw [hb7]; exact h)
  obtain ⟨b8, hb8⟩ : ∃ b, wHas m.kd 8 = b := ⟨_, rfl⟩
  have HH8 := Lib.hid hb8
  have RS8 := Lib.hid (runB_s hb8)
  have FT8 : Hid (b8 = true → fits m 8) := fun h => hf 8 (by omega) (by rw [hb8]; exact h)
  have HH1 : Hid (wHas m.kd 1 = b0) := by rw [Hid, ← hb0]; rfl
  have RS1 := Lib.hid (runB_s HH1.out)
  have FT1 : Hid (b0 = true → fits m 1) := fun h => hf 1 (by omega) (by rw [HH1.out]; exact h)
  clear hb0 hb2 hb3 hb4 hb5 hb6 hb7 hb8 hf
  have Y0 : Hid (By w m (.slice P1 m.ps.length p1) (.slice P2 m.ms.length p2) (.slice P3 m.es.length p3) (runB m 0) (.slice (some ⟨w.heap.size + 1, 0, none⟩) 0 0) ((w.alloc (.cells #[.int .i64 m.kd, .int .i64 m.pe, .int .i64 m.hp, .bool m.hi, .slice P1 m.ps.length p1, .int .i64 m.nu, .int .u64 (m.su : Int), .int .i64 m.mr.a.c, .int .i64 m.mr.a.s, .string m.mr.k, .slice P2 m.ms.length p2, .slice P3 m.es.length p3] 31)).alloc (.cells #[] 5))) := by
    have h1 : ((w.alloc (.cells #[.int .i64 m.kd, .int .i64 m.pe, .int .i64 m.hp, .bool m.hi, .slice P1 m.ps.length p1, .int .i64 m.nu, .int .u64 (m.su : Int), .int .i64 m.mr.a.c, .int .i64 m.mr.a.s, .string m.mr.k, .slice P2 m.ms.length p2, .slice P3 m.es.length p3] 31)).alloc (.cells #[] 5)).ownsRow (w.alloc (.cells #[.int .i64 m.kd, .int .i64 m.pe, .int .i64 m.hp, .bool m.hi, .slice P1 m.ps.length p1, .int .i64 m.nu, .int .u64 (m.su : Int), .int .i64 m.mr.a.c, .int .i64 m.mr.a.s, .string m.mr.k, .slice P2 m.ms.length p2, .slice P3 m.es.length p3] 31)).heap.size 5 1 (.slice (some ⟨(w.alloc (.cells #[.int .i64 m.kd, .int .i64 m.pe, .int .i64 m.hp, .bool m.hi, .slice P1 m.ps.length p1, .int .i64 m.nu, .int .u64 (m.su : Int), .int .i64 m.mr.a.c, .int .i64 m.mr.a.s, .string m.mr.k, .slice P2 m.ms.length p2, .slice P3 m.es.length p3] 31)).heap.size, 0, none⟩) 0 0) ([] : List UInt8).length (byts []) := World.ownsRow_made (w.alloc (.cells #[.int .i64 m.kd, .int .i64 m.pe, .int .i64 m.hp, .bool m.hi, .slice P1 m.ps.length p1, .int .i64 m.nu, .int .u64 (m.su : Int), .int .i64 m.mr.a.c, .int .i64 m.mr.a.s, .string m.mr.k, .slice P2 m.ms.length p2, .slice P3 m.es.length p3] 31)) #[] 0 (Nat.le_refl _) (by simp [maxLen]) rfl
    rw [World.size_alloc] at h1
    exact ⟨(Blk.new w _ _).alloc _, hl.keep (((Only.refl none_ w).alloc _).alloc _), owns_base h1 (Nat.le_succ _), ((Only.refl none_ w).alloc _).alloc _⟩
  clear hl
  go_enter Tryz.func24, Tryz.ntmps24
  go_upto_region 1 with fail
  go_cut [3] (fun s3 w' => ∃ A n c, s3 = .slice A n c ∧ By w m (.slice P1 m.ps.length p1) (.slice P2 m.ms.length p2) (.slice P3 m.es.length p3) (runB m 0) (.slice A n c) w')
  case first =>
    go_wp2_with fail
    go_meet
    exact ⟨_, _, _, rfl, Y0.out⟩
  case rest =>
    obtain ⟨A0, n0, c0, rfl, y⟩ := hcut
    clear Y0
    have Y := Lib.hid y
    have k0 := y.bx.cell_ (i := 0) rfl
    clear y
    go_upto_if 10 with (first | (go_at_call 76; refine (rd_has_w 0 (by omega) m.kd _).mono ?_; rintro E wh ⟨rfl, oh⟩; rw [HH0.out]; have YH := Lib.hid (Y.out.keep oh); clear oh))
    go_cut [3] (fun s3 w' => ∃ A n c, s3 = .slice A n c ∧ By w m (.slice P1 m.ps.length p1) (.slice P2 m.ms.length p2) (.slice P3 m.es.length p3) (runB m 2) (.slice A n c) w')
    case first =>
      cases b0
      · have EN : Hid (runB m 2 = runB m 0) := by rw [Hid, RS1.out, if_neg (by decide), RS0.out, if_neg (by decide)]
        go_wp2_with fail
        go_meet
        exact ⟨_, _, _, rfl, YH.out.cast EN.out.symm⟩
      · have EY : Hid (runB m 2 = (runB m 0 ++ fieldB m 0) ++ fieldB m 1) := by rw [Hid, RS1.out, if_pos rfl, RS0.out, if_pos rfl]
        have FT := FT0.out rfl
        have FU := FT1.out rfl
        have g1 : 0 ≤ m.pe ∧ m.pe < 12 := by have h : nodeB m.pe = true := FT; simpa [nodeB] using h
        have g2 : 0 ≤ m.hp ∧ m.hp ≤ 8 := FU
        have u1 : IntKind.u8.wrap m.pe = m.pe := IntWalk.u8_in _ (by omega)
        have u2 : IntKind.u8.wrap m.hp = m.hp := IntWalk.u8_in _ (by omega)
        have k1 := YH.out.bx.cell_ (i := 1) rfl
        have k2 := YH.out.bx.cell_ (i := 2) rfl
        have L1 := Lib.hid (byt_i2 wh m.pe m.hp (by omega) (by omega) (by omega) (by omega))
        have P1' := Lib.hid (YH.out.keep ((Only.refl none_ wh).alloc (.cells #[.int .u8 m.pe, .int .u8 m.hp] 5)))
        have hn1 : (runB m 0).length + [UInt8.ofNat m.pe.toNat, UInt8.ofNat m.hp.toNat].length ≤ 140737488355328 := by show 0 + 2 ≤ _; omega
        clear FT FU g1 g2
        go_wp2_with (first
          | (at_builtin; refine wpList_append_byt _ rfl (.tmp 11) (.tmp 18) _ rfl w.heap.size 5 i0 (.int .u8 0) Tryz.underlying35 hi0 hz0 hz1 hz2 rfl _ _ rfl P1'.out.ow _ _ [UInt8.ofNat m.pe.toNat, UInt8.ofNat m.hp.toNat] rfl L1.out hn1 P1'.out.ho.size ?_
             intro A7 n7 c7 w7 hown7 hgrow7 hmv7
             have YQ := Lib.hid (P1'.out.app hown7 hgrow7)
             clear hown7 hgrow7 hmv7))
        go_meet
        exact ⟨_, _, _, rfl, YQ.out.cast (by rw [EY.out]; show _ = (runB m 0 ++ leBytes m.pe.toNat 1) ++ leBytes m.hp.toNat 1; rw [leBytes_one', leBytes_one']; simp)⟩
    case rest =>
      obtain ⟨A0, n0, c0, rfl, y⟩ := hcut
      clear Y
      have Y := Lib.hid y
      have k0 := y.bx.cell_ (i := 0) rfl
      clear y
      go_upto_region 4 with fail
      go_cut [26] (fun s26 w' => s26 = .bool (b2 && m.hi) ∧ By w m (.slice P1 m.ps.length p1) (.slice P2 m.ms.length p2) (.slice P3 m.es.length p3) (runB m 2) (.slice A0 n0 c0) w')
      case first =>
        cases b2
        · go_wp2_with (first | (go_at_call 76; refine (rd_has_w 2 (by omega) m.kd _).mono ?_; rintro E wh ⟨rfl, oh⟩; rw [HH2.out]; have YH := Lib.hid (Y.out.keep oh); have k3 := YH.out.bx.cell_ (i := 3) rfl; clear oh))
          go_meet
          exact ⟨rfl, YH.out⟩
        · go_wp2_with (first | (go_at_call 76; refine (rd_has_w 2 (by omega) m.kd _).mono ?_; rintro E wh ⟨rfl, oh⟩; rw [HH2.out]; have YH := Lib.hid (Y.out.keep oh); have k3 := YH.out.bx.cell_ (i := 3) rfl; clear oh))
          go_meet
          exact ⟨by simp, YH.out⟩
      case rest =>
        obtain ⟨rfl, y⟩ := hcut
        clear Y k0
        have Y := Lib.hid y
        have k0 := y.bx.cell_ (i := 0) rfl
        clear y
        obtain ⟨bb, hbb⟩ : ∃ bb, (b2 && m.hi) = bb := ⟨_, rfl⟩
        have HBB := Lib.hid hbb
        rw [hbb]
        clear hbb
        go_upto_if 26 with fail
        go_cut [3] (fun s3 w' => ∃ A n c, s3 = .slice A n c ∧ By w m (.slice P1 m.ps.length p1) (.slice P2 m.ms.length p2) (.slice P3 m.es.length p3) (runB m 3) (.slice A n c) w')
        case first =>
          cases bb
          · cases b2
            · have EN : Hid (runB m 3 = runB m 2) := by rw [Hid, RS2.out, if_neg (by decide)]
              go_wp2_with (first | (go_at_call 76; refine (rd_has_w 2 (by omega) m.kd _).mono ?_; rintro E wh ⟨rfl, oh⟩; rw [HH2.out]; have YH := Lib.hid (Y.out.keep oh); clear oh))
              go_meet
              exact ⟨_, _, _, rfl, YH.out.cast EN.out.symm⟩
            · have hh : m.hi = false := by have := HBB.out; simpa using this
              have EY : Hid (runB m 3 = runB m 2 ++ [UInt8.ofNat 0]) := by rw [Hid, RS2.out, if_pos rfl]; show _ ++ [UInt8.ofNat (bitN m.hi)] = _; rw [hh]; rfl
              clear hh
              have L1 := Lib.hid (fun wh => byt_i1 wh 0 (by omega) (by omega))
              have hn1 : (runB m 2).length + [UInt8.ofNat (0 : Int).toNat].length ≤ 140737488355328 := by have := HLE.out 2 (by omega); simp only [List.length_cons, List.length_nil]; omega
              go_wp2_with (first
                | (go_at_call 76; refine (rd_has_w 2 (by omega) m.kd _).mono ?_; rintro E wh ⟨rfl, oh⟩; rw [HH2.out]; have YH := Lib.hid (Y.out.keep oh); have P1' := Lib.hid (YH.out.keep ((Only.refl none_ wh).alloc (.cells #[.int .u8 0] 5))); have L2 := Lib.hid (L1.out wh); clear oh)
                | (at_builtin; refine wpList_append_byt _ rfl (.tmp 33) (.tmp 34) _ rfl w.heap.size 5 i0 (.int .u8 0) Tryz.underlying35 hi0 hz0 hz1 hz2 rfl _ _ rfl P1'.out.ow _ _ [UInt8.ofNat (0 : Int).toNat] rfl L2.out hn1 P1'.out.ho.size ?_
                   intro A7 n7 c7 w7 hown7 hgrow7 hmv7
                   have YQ := Lib.hid (P1'.out.app hown7 hgrow7)
                   clear hown7 hgrow7 hmv7))
              go_meet
              exact ⟨_, _, _, rfl, YQ.out.cast (by rw [EY.out]; rfl)⟩
          · have hb : b2 = true ∧ m.hi = true := by have := HBB.out; simpa using this
            obtain ⟨rfl, hh⟩ := hb
            have EY : Hid (runB m 3 = runB m 2 ++ [UInt8.ofNat 1]) := by rw [Hid, RS2.out, if_pos rfl]; show _ ++ [UInt8.ofNat (bitN m.hi)] = _; rw [hh]; rfl
            clear hh
            have L1 := Lib.hid (byt_i1 wc 1 (by omega) (by omega))
            have P1' := Lib.hid (Y.out.keep ((Only.refl none_ wc).alloc (.cells #[.int .u8 1] 5)))
            have hn1 : (runB m 2).length + [UInt8.ofNat (1 : Int).toNat].length ≤ 140737488355328 := by have := HLE.out 2 (by omega); simp only [List.length_cons, List.length_nil]; omega
            go_wp2_with (first
              | (at_builtin; refine wpList_append_byt _ rfl (.tmp 27) (.tmp 28) _ rfl w.heap.size 5 i0 (.int .u8 0) Tryz.underlying35 hi0 hz0 hz1 hz2 rfl _ _ rfl P1'.out.ow _ _ [UInt8.ofNat (1 : Int).toNat] rfl L1.out hn1 P1'.out.ho.size ?_
                 intro A7 n7 c7 w7 hown7 hgrow7 hmv7
                 have YQ := Lib.hid (P1'.out.app hown7 hgrow7)
                 clear hown7 hgrow7 hmv7))
            go_meet
            exact ⟨_, _, _, rfl, YQ.out.cast (by rw [EY.out]; rfl)⟩
        case rest =>
          obtain ⟨A0, n0, c0, rfl, y⟩ := hcut
          clear Y
          have Y := Lib.hid y
          have k0 := y.bx.cell_ (i := 0) rfl
          clear y
          go_upto_if 38 with (first | (go_at_call 76; refine (rd_has_w 3 (by omega) m.kd _).mono ?_; rintro E wh ⟨rfl, oh⟩; rw [HH3.out]; have YH := Lib.hid (Y.out.keep oh); clear oh))
          go_cut [3] (fun s3 w' => ∃ A n c, s3 = .slice A n c ∧ By w m (.slice P1 m.ps.length p1) (.slice P2 m.ms.length p2) (.slice P3 m.es.length p3) (runB m 4) (.slice A n c) w')
          case first =>
            cases b3
            · have EN : Hid (runB m 4 = runB m 3) := by rw [Hid, RS3.out, if_neg (by decide)]
              go_wp2_with fail
              go_meet
              exact ⟨_, _, _, rfl, YH.out.cast EN.out.symm⟩
            · have EY : Hid (runB m 4 = runB m 3 ++ fieldB m 3) := by rw [Hid, RS3.out, if_pos rfl]
              have FT := FT3.out rfl
              have fl := FT
              have h8 : m.ps.length ≤ 8 := fl.1
              have HFL := Lib.hid fl
              have uL : IntKind.u8.wrap (m.ps.length : Int) = (m.ps.length : Int) := IntWalk.u8_in _ (by omega)
              have kl := YH.out.bx.cell_ (i := 4) rfl
              have L1 := Lib.hid (byt_i1 wh (m.ps.length : Int) (by omega) (by omega))
              have P1' := Lib.hid (YH.out.keep ((Only.refl none_ wh).alloc (.cells #[.int .u8 (m.ps.length : Int)] 5)))
              have hn1 : (runB m 3).length + [UInt8.ofNat (m.ps.length : Int).toNat].length ≤ 140737488355328 := by have := HLE.out 3 (by omega); simp only [List.length_cons, List.length_nil]; omega
              have H8 := Lib.hid h8
              clear FT fl h8
              go_wp2_with (first
                | (at_builtin; refine wpList_append_byt _ rfl (.tmp 39) (.tmp 44) _ rfl w.heap.size 5 i0 (.int .u8 0) Tryz.underlying35 hi0 hz0 hz1 hz2 rfl _ _ rfl P1'.out.ow _ _ [UInt8.ofNat (m.ps.length : Int).toNat] rfl L1.out hn1 P1'.out.ho.size ?_
                   intro A7 n7 c7 w7 hown7 hgrow7 hmv7
                   have YQ := Lib.hid (P1'.out.app hown7 hgrow7)
                   clear hown7 hgrow7 hmv7))
              go_loopw [3, 4] (fun s3 sc wr => ∃ i : Nat, i ≤ m.ps.length ∧ sc = .int .i64 i ∧ ∃ A n c, s3 = .slice A n c ∧ By w m (.slice P1 m.ps.length p1) (.slice P2 m.ms.length p2) (.slice P3 m.es.length p3) (runB m 3 ++ [UInt8.ofNat (m.ps.length : Int).toNat] ++ (m.ps.take i).flatMap nodeL) (.slice A n c) wr) (fun _ sc _ => m.ps.length - (intOf sc).toNat)
              case atStart => exact ⟨0, by omega, rfl, A7, n7, c7, rfl, YQ.out.cast (by simp)⟩
              case round =>
                obtain ⟨i, hi, rfl, A8, n8, c8, rfl, y⟩ := hrel
                have Z := Lib.hid y
                have kl := y.bx.cell_ (i := 4) rfl
                by_cases hlt : i < m.ps.length
                · obtain ⟨x, hx⟩ : ∃ x, m.ps[i]? = some x := ⟨_, List.getElem?_eq_getElem hlt⟩
                  have hlt' : (i : Int) < (m.ps.length : Int) := by omega
                  have HLT := Lib.hid hlt
                  have h8o := H8.out
                  obtain ⟨b, off, hA, _, _, hc⟩ := in_elem intI_len (by decide) y.ml.p rfl hx
                  subst hA
                  have hxg := HFL.out.2 x (List.mem_of_getElem? hx)
                  have HNX := Lib.hid (flat_next nodeL m.ps i x hx)
                  have hn2 : (runB m 3 ++ [UInt8.ofNat (m.ps.length : Int).toNat] ++ (m.ps.take i).flatMap nodeL).length + (nodeL x).length ≤ 140737488355328 := by
                    have h1 := HLE.out 3 (by omega)
                    have h2 := flat_upto nodeL m.ps i 1 H8.out (fun z hz => nodeL_len (HFL.out.2 z hz))
                    have h3 := nodeL_len hxg
                    simp only [List.length_append, List.length_cons, List.length_nil]
                    omega
                  have q0 := hc _ (Only.refl none_ _) 0 _ rfl
                  rw [Nat.mul_one, Nat.add_zero] at q0
                  have hxb : 0 ≤ x ∧ x < 12 := by simpa [nodeB] using hxg
                  have ux : IntKind.u8.wrap x = x := IntWalk.u8_in _ (by omega)
                  have L2 := Lib.hid (byt_i1 wr x (by omega) (by omega))
                  have P2' := Lib.hid (Z.out.keep ((Only.refl none_ wr).alloc (.cells #[.int .u8 x] 5)))
                  have hn3 : (runB m 3 ++ [UInt8.ofNat (m.ps.length : Int).toNat] ++ (m.ps.take i).flatMap nodeL).length + [UInt8.ofNat x.toNat].length ≤ 140737488355328 := by
                    have e : (nodeL x).length = [UInt8.ofNat x.toNat].length := by rw [nodeL, leBytes_one']
                    rw [← e]; exact hn2
                  clear hc hxg hxb hn2
                  clear hx y
                  go_wp2_with (first 
                    | (at_builtin; refine wpList_append_byt _ rfl (.tmp 53) (.tmp 60) _ rfl w.heap.size 5 i0 (.int .u8 0) Tryz.underlying35 hi0 hz0 hz1 hz2 rfl _ _ rfl P2'.out.ow _ _ [UInt8.ofNat x.toNat] rfl L2.out hn3 P2'.out.ho.size ?_
                       intro A7 n7 c7 w7 hown7 hgrow7 hmv7
                       have YR := Lib.hid (P2'.out.app hown7 hgrow7)
                       clear hown7 hgrow7 hmv7))
                  go_roundw
                  case rel => exact ⟨i + 1, by have := HLT.out; omega, by go_num, A7, n7, c7, rfl, YR.out.cast (by rw [HNX.out]; simp [nodeL, leBytes_one'])⟩
                  case measure => have hh := HLT.out; simp [intOf]; omega
                · obtain rfl : i = m.ps.length := by omega
                  have hge : ¬ ((m.ps.length : Int) < (m.ps.length : Int)) := by omega
                  clear y
                  go_wp2_with fail
                  go_meet
                  exact ⟨_, _, _, rfl, Z.out.cast (by rw [List.take_length, EY.out]; show _ = runB m 3 ++ (leBytes m.ps.length 1 ++ m.ps.flatMap nodeL); rw [leBytes_one']; simp)⟩
          case rest =>
            obtain ⟨A0, n0, c0, rfl, y⟩ := hcut
            clear Y
            have Y := Lib.hid y
            have k0 := y.bx.cell_ (i := 0) rfl
            clear y
            go_upto_if 64 with (first | (go_at_call 76; refine (rd_has_w 4 (by omega) m.kd _).mono ?_; rintro E wh ⟨rfl, oh⟩; rw [HH4.out]; have YH := Lib.hid (Y.out.keep oh); clear oh))
            go_cut [3] (fun s3 w' => ∃ A n c, s3 = .slice A n c ∧ By w m (.slice P1 m.ps.length p1) (.slice P2 m.ms.length p2) (.slice P3 m.es.length p3) (runB m 5) (.slice A n c) w')
            case first =>
              cases b4
              · have EN : Hid (runB m 5 = runB m 4) := by rw [Hid, RS4.out, if_neg (by decide)]
                go_wp2_with fail
                go_meet
                exact ⟨_, _, _, rfl, YH.out.cast EN.out.symm⟩
              · have EY : Hid (runB m 5 = runB m 4 ++ fieldB m 4) := by rw [Hid, RS4.out, if_pos rfl]
                have FT := FT4.out rfl
                have g1 : 0 ≤ m.nu ∧ m.nu ≤ 4294967295 := FT
                have u1 : IntKind.u64.wrap m.nu = m.nu := IntWalk.u64_in _ (by omega)
                have kl := YH.out.bx.cell_ (i := 5) rfl
                have HC : Hid (∀ w, Calls Tryz.prog 77 #[.int .u64 m.nu, .int .i64 4] w fun e w' => ∃ A k c, e = .returned (.slice A k c) ∧ w'.ownsRow w.heap.size 5 1 (.slice A k c) (leBytes m.nu.toNat 4).length (byts (leBytes m.nu.toNat 4)) ∧ Only none_ w w') := fun w => by
                  have := rd_number m.nu.toNat 4 w (by omega) (by omega)
                  rwa [show ((m.nu.toNat : Nat) : Int) = m.nu by omega] at this
                have hn1 : (runB m 4).length + (leBytes m.nu.toNat 4).length ≤ 140737488355328 := by have := HLE.out 4 (by omega); rw [leBytes_len]; omega
                clear FT
                go_wp2_with (first
                  | (go_at_call 77; refine (HC.out _).mono ?_; rintro E w5 ⟨A5, n5, c5, rfl, own5, o5⟩
                     have L1 := Lib.hid (Byt.of_own own5)
                     have P1' := Lib.hid (YH.out.keep o5)
                     clear own5 o5)
                  | (at_builtin; refine wpList_append_byt _ rfl (.tmp 65) (.tmp 69) _ rfl w.heap.size 5 i0 (.int .u8 0) Tryz.underlying35 hi0 hz0 hz1 hz2 rfl _ _ rfl P1'.out.ow _ _ (leBytes m.nu.toNat 4) rfl L1.out hn1 P1'.out.ho.size ?_
                     intro A7 n7 c7 w7 hown7 hgrow7 hmv7
                     have YQ := Lib.hid (P1'.out.app hown7 hgrow7)
                     clear hown7 hgrow7 hmv7))
                go_meet
                exact ⟨_, _, _, rfl, YQ.out.cast (by rw [EY.out]; rfl)⟩
            case rest =>
              obtain ⟨A0, n0, c0, rfl, y⟩ := hcut
              clear Y
              have Y := Lib.hid y
              have k0 := y.bx.cell_ (i := 0) rfl
              clear y
              go_upto_if 73 with (first | (go_at_call 76; refine (rd_has_w 5 (by omega) m.kd _).mono ?_; rintro E wh ⟨rfl, oh⟩; rw [HH5.out]; have YH := Lib.hid (Y.out.keep oh); clear oh))
              go_cut [3] (fun s3 w' => ∃ A n c, s3 = .slice A n c ∧ By w m (.slice P1 m.ps.length p1) (.slice P2 m.ms.length p2) (.slice P3 m.es.length p3) (runB m 6) (.slice A n c) w')
              case first =>
                cases b5
                · have EN : Hid (runB m 6 = runB m 5) := by rw [Hid, RS5.out, if_neg (by decide)]
                  go_wp2_with fail
                  go_meet
                  exact ⟨_, _, _, rfl, YH.out.cast EN.out.symm⟩
                · have EY : Hid (runB m 6 = runB m 5 ++ fieldB m 5) := by rw [Hid, RS5.out, if_pos rfl]
                  have FT := FT5.out rfl
                  have kl := YH.out.bx.cell_ (i := 6) rfl
                  have HC : Hid (∀ w, Calls Tryz.prog 77 #[.int .u64 (m.su : Int), .int .i64 8] w fun e w' => ∃ A k c, e = .returned (.slice A k c) ∧ w'.ownsRow w.heap.size 5 1 (.slice A k c) (leBytes m.su 8).length (byts (leBytes m.su 8)) ∧ Only none_ w w') := fun w => rd_number m.su 8 w FT (by omega)
                  have hn1 : (runB m 5).length + (leBytes m.su 8).length ≤ 140737488355328 := by have := HLE.out 5 (by omega); rw [leBytes_len]; omega
                  clear FT
                  go_wp2_with (first
                    | (go_at_call 77; refine (HC.out _).mono ?_; rintro E w5 ⟨A5, n5, c5, rfl, own5, o5⟩
                       have L1 := Lib.hid (Byt.of_own own5)
                       have P1' := Lib.hid (YH.out.keep o5)
                       clear own5 o5)
                    | (at_builtin; refine wpList_append_byt _ rfl (.tmp 74) (.tmp 77) _ rfl w.heap.size 5 i0 (.int .u8 0) Tryz.underlying35 hi0 hz0 hz1 hz2 rfl _ _ rfl P1'.out.ow _ _ (leBytes m.su 8) rfl L1.out hn1 P1'.out.ho.size ?_
                       intro A7 n7 c7 w7 hown7 hgrow7 hmv7
                       have YQ := Lib.hid (P1'.out.app hown7 hgrow7)
                       clear hown7 hgrow7 hmv7))
                  go_meet
                  exact ⟨_, _, _, rfl, YQ.out.cast (by rw [EY.out]; rfl)⟩
              case rest =>
                obtain ⟨A0, n0, c0, rfl, y⟩ := hcut
                clear Y
                have Y := Lib.hid y
                have k0 := y.bx.cell_ (i := 0) rfl
                clear y
                go_upto_if 81 with (first | (go_at_call 76; refine (rd_has_w 6 (by omega) m.kd _).mono ?_; rintro E wh ⟨rfl, oh⟩; rw [HH6.out]; have YH := Lib.hid (Y.out.keep oh); clear oh))
                go_cut [3] (fun s3 w' => ∃ A n c, s3 = .slice A n c ∧ By w m (.slice P1 m.ps.length p1) (.slice P2 m.ms.length p2) (.slice P3 m.es.length p3) (runB m 7) (.slice A n c) w')
                case first =>
                  cases b6
                  · have EN : Hid (runB m 7 = runB m 6) := by rw [Hid, RS6.out, if_neg (by decide)]
                    go_wp2_with fail
                    go_meet
                    exact ⟨_, _, _, rfl, YH.out.cast EN.out.symm⟩
                  · have EY : Hid (runB m 7 = runB m 6 ++ fieldB m 6) := by rw [Hid, RS6.out, if_pos rfl]
                    have FT := FT6.out rfl
                    have HCM : Hid (∀ j u, (#[.int .i64 m.mr.a.c, .int .i64 m.mr.a.s, .string m.mr.k] : Array Value).toList[j]? = some u → wh.cell? ⟨w.heap.size, 7 + j, none⟩ = some u) := fun j u hu => by
                      have h7 := YH.out.bx.cell_ (i := 7) rfl
                      have h8 := YH.out.bx.cell_ (i := 8) rfl
                      have h9 := YH.out.bx.cell_ (i := 9) rfl
                      match j, hu with
                      | 0, hu => have e := Option.some.inj hu; subst e; exact h7
                      | 1, hu => have e := Option.some.inj hu; subst e; exact h8
                      | 2, hu => have e := Option.some.inj hu; subst e; exact h9
                      | n + 3, hu => simp at hu
                    have HC := Lib.hid (fun w => rd_mark_bytes m.mr w FT)
                    have hn1 : (runB m 6).length + (markB m.mr).length ≤ 140737488355328 := by have := HLE.out 6 (by omega); have := markB_len FT; omega
                    clear FT
                    go_wp2_with (first
                      | (refine wpl_piece rfl 27 _ rfl w.heap.size 7 rfl #[.int .i64 m.mr.a.c, .int .i64 m.mr.a.s, .string m.mr.k] _ HCM.out Tryz.underlying27 rfl (by kernel_rfl) ?_)
                      | (go_at_call 78; refine (HC.out _).mono ?_; rintro E w5 ⟨A5, n5, c5, rfl, own5, o5⟩
                         have L1 := Lib.hid (Byt.of_own own5)
                         have P1' := Lib.hid (YH.out.keep o5)
                         clear own5 o5)
                      | (at_builtin; refine wpList_append_byt _ rfl (.tmp 82) (.tmp 85) _ rfl w.heap.size 5 i0 (.int .u8 0) Tryz.underlying35 hi0 hz0 hz1 hz2 rfl _ _ rfl P1'.out.ow _ _ (markB m.mr) rfl L1.out hn1 P1'.out.ho.size ?_
                         intro A7 n7 c7 w7 hown7 hgrow7 hmv7
                         have YQ := Lib.hid (P1'.out.app hown7 hgrow7)
                         clear hown7 hgrow7 hmv7))
                    go_meet
                    exact ⟨_, _, _, rfl, YQ.out.cast (by rw [EY.out]; rfl)⟩
                case rest =>
                  obtain ⟨A0, n0, c0, rfl, y⟩ := hcut
                  clear Y
                  have Y := Lib.hid y
                  have k0 := y.bx.cell_ (i := 0) rfl
                  clear y
                  go_upto_if 89 with (first | (go_at_call 76; refine (rd_has_w 7 (by omega) m.kd _).mono ?_; rintro E wh ⟨rfl, oh⟩; rw [HH7.out]; have YH := Lib.hid (Y.out.keep oh); clear oh))
                  go_cut [3] (fun s3 w' => ∃ A n c, s3 = .slice A n c ∧ By w m (.slice P1 m.ps.length p1) (.slice P2 m.ms.length p2) (.slice P3 m.es.length p3) (runB m 8) (.slice A n c) w')
                  case first =>
                    cases b7
                    · have EN : Hid (runB m 8 = runB m 7) := by rw [Hid, RS7.out, if_neg (by decide)]
                      go_wp2_with fail
                      go_meet
                      exact ⟨_, _, _, rfl, YH.out.cast EN.out.symm⟩
                    · have EY : Hid (runB m 8 = runB m 7 ++ fieldB m 7) := by rw [Hid, RS7.out, if_pos rfl]
                      have FT := FT7.out rfl
                      have fl := FT
                      have h8 : m.ms.length ≤ 8 := fl.1
                      have HFL := Lib.hid fl
                      have uL : IntKind.u8.wrap (m.ms.length : Int) = (m.ms.length : Int) := IntWalk.u8_in _ (by omega)
                      have kl := YH.out.bx.cell_ (i := 10) rfl
                      have L1 := Lib.hid (byt_i1 wh (m.ms.length : Int) (by omega) (by omega))
                      have P1' := Lib.hid (YH.out.keep ((Only.refl none_ wh).alloc (.cells #[.int .u8 (m.ms.length : Int)] 5)))
                      have hn1 : (runB m 7).length + [UInt8.ofNat (m.ms.length : Int).toNat].length ≤ 140737488355328 := by have := HLE.out 7 (by omega); simp only [List.length_cons, List.length_nil]; omega
                      have H8 := Lib.hid h8
                      clear FT fl h8
                      go_wp2_with (first
                        | (at_builtin; refine wpList_append_byt _ rfl (.tmp 90) (.tmp 95) _ rfl w.heap.size 5 i0 (.int .u8 0) Tryz.underlying35 hi0 hz0 hz1 hz2 rfl _ _ rfl P1'.out.ow _ _ [UInt8.ofNat (m.ms.length : Int).toNat] rfl L1.out hn1 P1'.out.ho.size ?_
                           intro A7 n7 c7 w7 hown7 hgrow7 hmv7
                           have YQ := Lib.hid (P1'.out.app hown7 hgrow7)
                           clear hown7 hgrow7 hmv7))
                      go_loopw [3, 5] (fun s3 sc wr => ∃ i : Nat, i ≤ m.ms.length ∧ sc = .int .i64 i ∧ ∃ A n c, s3 = .slice A n c ∧ By w m (.slice P1 m.ps.length p1) (.slice P2 m.ms.length p2) (.slice P3 m.es.length p3) (runB m 7 ++ [UInt8.ofNat (m.ms.length : Int).toNat] ++ (m.ms.take i).flatMap markB) (.slice A n c) wr) (fun _ sc _ => m.ms.length - (intOf sc).toNat)
                      case atStart => exact ⟨0, by omega, rfl, A7, n7, c7, rfl, YQ.out.cast (by simp)⟩
                      case round =>
                        obtain ⟨i, hi, rfl, A8, n8, c8, rfl, y⟩ := hrel
                        have Z := Lib.hid y
                        have kl := y.bx.cell_ (i := 10) rfl
                        by_cases hlt : i < m.ms.length
                        · obtain ⟨x, hx⟩ : ∃ x, m.ms[i]? = some x := ⟨_, List.getElem?_eq_getElem hlt⟩
                          have hlt' : (i : Int) < (m.ms.length : Int) := by omega
                          have HLT := Lib.hid hlt
                          have h8o := H8.out
                          obtain ⟨b, off, hA, _, _, hc⟩ := in_elem mkI_len (by decide) y.ml.q rfl hx
                          subst hA
                          have hxg := HFL.out.2 x (List.mem_of_getElem? hx)
                          have HNX := Lib.hid (flat_next markB m.ms i x hx)
                          have hn2 : (runB m 7 ++ [UInt8.ofNat (m.ms.length : Int).toNat] ++ (m.ms.take i).flatMap markB).length + (markB x).length ≤ 140737488355328 := by
                            have h1 := HLE.out 7 (by omega)
                            have h2 := flat_upto markB m.ms i 22 H8.out (fun z hz => markB_len (HFL.out.2 z hz))
                            have h3 := markB_len hxg
                            simp only [List.length_append, List.length_cons, List.length_nil]
                            omega
                          have HCM : Hid (∀ j u, (#[.int .i64 x.a.c, .int .i64 x.a.s, .string x.k] : Array Value).toList[j]? = some u → wr.cell? ⟨b, off + i * 3 + j, none⟩ = some u) := fun j u hu => hc _ (Only.refl none_ _) j u hu
                          have HC := Lib.hid (fun w => rd_mark_bytes x w hxg)
                          clear hc hxg
                          clear hx y
                          go_wp2_with (first 
                            | (refine wpl_piece rfl 27 _ rfl b (off + i * 3) rfl #[.int .i64 x.a.c, .int .i64 x.a.s, .string x.k] _ HCM.out Tryz.underlying27 rfl (by kernel_rfl) ?_)
                            | (go_at_call 78; refine (HC.out _).mono ?_; rintro E w5 ⟨A5, n5, c5, rfl, own5, o5⟩
                               have L2 := Lib.hid (Byt.of_own own5)
                               have P2' := Lib.hid (Z.out.keep o5)
                               clear own5 o5)
                            | (at_builtin; refine wpList_append_byt _ rfl (.tmp 104) (.tmp 110) _ rfl w.heap.size 5 i0 (.int .u8 0) Tryz.underlying35 hi0 hz0 hz1 hz2 rfl _ _ rfl P2'.out.ow _ _ (markB x) rfl L2.out hn2 P2'.out.ho.size ?_
                               intro A7 n7 c7 w7 hown7 hgrow7 hmv7
                               have YR := Lib.hid (P2'.out.app hown7 hgrow7)
                               clear hown7 hgrow7 hmv7))
                          go_roundw
                          case rel => exact ⟨i + 1, by have := HLT.out; omega, by go_num, A7, n7, c7, rfl, YR.out.cast (by rw [HNX.out]; simp [List.append_assoc])⟩
                          case measure => have hh := HLT.out; simp [intOf]; omega
                        · obtain rfl : i = m.ms.length := by omega
                          have hge : ¬ ((m.ms.length : Int) < (m.ms.length : Int)) := by omega
                          clear y
                          go_wp2_with fail
                          go_meet
                          exact ⟨_, _, _, rfl, Z.out.cast (by rw [List.take_length, EY.out]; show _ = runB m 7 ++ (leBytes m.ms.length 1 ++ m.ms.flatMap markB); rw [leBytes_one']; simp)⟩
                  case rest =>
                    obtain ⟨A0, n0, c0, rfl, y⟩ := hcut
                    clear Y
                    have Y := Lib.hid y
                    have k0 := y.bx.cell_ (i := 0) rfl
                    clear y
                    go_upto_if 114 with (first | (go_at_call 76; refine (rd_has_w 8 (by omega) m.kd _).mono ?_; rintro E wh ⟨rfl, oh⟩; rw [HH8.out]; have YH := Lib.hid (Y.out.keep oh); clear oh))
                    go_cut [3] (fun s3 w' => ∃ A n c, s3 = .slice A n c ∧ By w m (.slice P1 m.ps.length p1) (.slice P2 m.ms.length p2) (.slice P3 m.es.length p3) (runB m 9) (.slice A n c) w')
                    case first =>
                      cases b8
                      · have EN : Hid (runB m 9 = runB m 8) := by rw [Hid, RS8.out, if_neg (by decide)]
                        go_wp2_with fail
                        go_meet
                        exact ⟨_, _, _, rfl, YH.out.cast EN.out.symm⟩
                      · have EY : Hid (runB m 9 = runB m 8 ++ fieldB m 8) := by rw [Hid, RS8.out, if_pos rfl]
                        have FT := FT8.out rfl
                        have fl := FT
                        have h8 : m.es.length ≤ 8 := fl.1
                        have HFL := Lib.hid fl
                        have uL : IntKind.u8.wrap (m.es.length : Int) = (m.es.length : Int) := IntWalk.u8_in _ (by omega)
                        have kl := YH.out.bx.cell_ (i := 11) rfl
                        have L1 := Lib.hid (byt_i1 wh (m.es.length : Int) (by omega) (by omega))
                        have P1' := Lib.hid (YH.out.keep ((Only.refl none_ wh).alloc (.cells #[.int .u8 (m.es.length : Int)] 5)))
                        have hn1 : (runB m 8).length + [UInt8.ofNat (m.es.length : Int).toNat].length ≤ 140737488355328 := by have := HLE.out 8 (by omega); simp only [List.length_cons, List.length_nil]; omega
                        have H8 := Lib.hid h8
                        clear FT fl h8
                        go_wp2_with (first
                          | (at_builtin; refine wpList_append_byt _ rfl (.tmp 115) (.tmp 120) _ rfl w.heap.size 5 i0 (.int .u8 0) Tryz.underlying35 hi0 hz0 hz1 hz2 rfl _ _ rfl P1'.out.ow _ _ [UInt8.ofNat (m.es.length : Int).toNat] rfl L1.out hn1 P1'.out.ho.size ?_
                             intro A7 n7 c7 w7 hown7 hgrow7 hmv7
                             have YQ := Lib.hid (P1'.out.app hown7 hgrow7)
                             clear hown7 hgrow7 hmv7))
                        go_loopw [3, 6] (fun s3 sc wr => ∃ i : Nat, i ≤ m.es.length ∧ sc = .int .i64 i ∧ ∃ A n c, s3 = .slice A n c ∧ By w m (.slice P1 m.ps.length p1) (.slice P2 m.ms.length p2) (.slice P3 m.es.length p3) (runB m 8 ++ [UInt8.ofNat (m.es.length : Int).toNat] ++ (m.es.take i).flatMap entB) (.slice A n c) wr) (fun _ sc _ => m.es.length - (intOf sc).toNat)
                        case atStart => exact ⟨0, by omega, rfl, A7, n7, c7, rfl, YQ.out.cast (by simp)⟩
                        case round =>
                          obtain ⟨i, hi, rfl, A8, n8, c8, rfl, y⟩ := hrel
                          have Z := Lib.hid y
                          have kl := y.bx.cell_ (i := 11) rfl
                          by_cases hlt : i < m.es.length
                          · obtain ⟨x, hx⟩ : ∃ x, m.es[i]? = some x := ⟨_, List.getElem?_eq_getElem hlt⟩
                            have hlt' : (i : Int) < (m.es.length : Int) := by omega
                            have HLT := Lib.hid hlt
                            have h8o := H8.out
                            obtain ⟨b, off, hA, _, _, hc⟩ := in_elem enRow_length (by decide) y.ml.r rfl hx
                            subst hA
                            have hxg := HFL.out.2 x (List.mem_of_getElem? hx)
                            have HNX := Lib.hid (flat_next entB m.es i x hx)
                            have hn2 : (runB m 8 ++ [UInt8.ofNat (m.es.length : Int).toNat] ++ (m.es.take i).flatMap entB).length + (entB x).length ≤ 140737488355328 := by
                              have h1 := HLE.out 8 (by omega)
                              have h2 := flat_upto entB m.es i 67 H8.out (fun z hz => entB_len (HFL.out.2 z hz))
                              have h3 := entB_len hxg
                              simp only [List.length_append, List.length_cons, List.length_nil]
                              omega
                            have HCM : Hid (∀ j u, (#[.string x.k, .string x.v, .bool x.d, .int .i64 x.s.c, .int .i64 x.s.s, .int .i64 x.a.c, .int .i64 x.a.s, .int .i64 x.p, .int .i64 x.g] : Array Value).toList[j]? = some u → wr.cell? ⟨b, off + i * 9 + j, none⟩ = some u) := fun j u hu => hc _ (Only.refl none_ _) j u hu
                            have HC : Hid (∀ w, Calls Tryz.prog 79 #[.agg #[.string x.k, .string x.v, .bool x.d, .int .i64 x.s.c, .int .i64 x.s.s, .int .i64 x.a.c, .int .i64 x.a.s, .int .i64 x.p, .int .i64 x.g]] w fun E w' => ∃ A n c, E = .returned (.slice A n c) ∧ w'.ownsRow w.heap.size 5 1 (.slice A n c) (entB x).length (byts (entB x)) ∧ Only none_ w w') := fun w => by
                              obtain ⟨h1, h2, _⟩ := enNe_en hxg
                              have := rf_bytes (enNe x) w h2
                              rwa [h1] at this
                            clear hc hxg
                            clear hx y
                            go_wp2_with (first 
                              | (refine wpl_piece rfl 123 _ rfl b (off + i * 9) rfl #[.string x.k, .string x.v, .bool x.d, .int .i64 x.s.c, .int .i64 x.s.s, .int .i64 x.a.c, .int .i64 x.a.s, .int .i64 x.p, .int .i64 x.g] _ HCM.out Tryz.underlying123 rfl (by kernel_rfl) ?_)
                              | (go_at_call 79; refine (HC.out _).mono ?_; rintro E w5 ⟨A5, n5, c5, rfl, own5, o5⟩
                                 have L2 := Lib.hid (Byt.of_own own5)
                                 have P2' := Lib.hid (Z.out.keep o5)
                                 clear own5 o5)
                              | (at_builtin; refine wpList_append_byt _ rfl (.tmp 129) (.tmp 135) _ rfl w.heap.size 5 i0 (.int .u8 0) Tryz.underlying35 hi0 hz0 hz1 hz2 rfl _ _ rfl P2'.out.ow _ _ (entB x) rfl L2.out hn2 P2'.out.ho.size ?_
                                 intro A7 n7 c7 w7 hown7 hgrow7 hmv7
                                 have YR := Lib.hid (P2'.out.app hown7 hgrow7)
                                 clear hown7 hgrow7 hmv7))
                            go_roundw
                            case rel => exact ⟨i + 1, by have := HLT.out; omega, by go_num, A7, n7, c7, rfl, YR.out.cast (by rw [HNX.out]; simp [List.append_assoc])⟩
                            case measure => have hh := HLT.out; simp [intOf]; omega
                          · obtain rfl : i = m.es.length := by omega
                            have hge : ¬ ((m.es.length : Int) < (m.es.length : Int)) := by omega
                            clear y
                            go_wp2_with fail
                            go_meet
                            exact ⟨_, _, _, rfl, Z.out.cast (by rw [List.take_length, EY.out]; show _ = runB m 8 ++ (leBytes m.es.length 1 ++ m.es.flatMap entB); rw [leBytes_one']; simp)⟩
                    case rest =>
                      obtain ⟨A0, n0, c0, rfl, y⟩ := hcut
                      clear Y
                      have Y := Lib.hid y
                      have k0 := y.bx.cell_ (i := 0) rfl
                      clear y
                      go_wp2_with fail
                      go_ret
                      exact ⟨_, _, _, rfl, Y.out.ow, Y.out.ho⟩
end Go.Proofs.YtlieolehpmobfaaGreatDoor
end
