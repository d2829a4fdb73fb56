/- The document's bytes of an entry that may be. No statement of the seat is proved here. -/
import Derived.Test.YtkailngpmodfhaaEoC
import Derived.Test.YtkailngpmodfhaaEnE
namespace Go.Proofs.Ytkailngpmodfhaa
open Go.RowKit
set_option maxRecDepth 100000

/-- A box, and a slice of bytes of the call's own that is appended to. -/
structure Ap (W : World) (h : Nat) (cs : Array Value) (v : Value) (bs : List UInt8) (w : World) : Prop where
  bx : Blk w h 73 cs
  ow : w.ownsRow W.heap.size 5 1 v bs.length (byts bs)
  ho : Only none_ W w
section
variable {W w w' : World} {h : Nat} {cs : Array Value} {v v' : Value} {bs bs' : List UInt8}
theorem Ap.keep (a : Ap W h cs v bs w) (o : Only none_ w w') : Ap W h cs v bs w' := ⟨a.bx.only o (fun h => h), owns_only a.ow o (fun _ _ h => h), a.ho.trans o⟩
theorem Ap.app (a : Ap W h cs v bs w) (own : w'.ownsRow W.heap.size 5 1 v' bs'.length (byts bs')) (hg : w.grownBy w' v.ownBlock) : Ap W h cs v' bs' w' :=
  ⟨a.bx.grown' hg (own_blk_ne a.ow a.bx (by decide)), own, a.ho.grown hg (fun k hk => .inr (a.ow.lt k hk).1)⟩
end

set_option maxHeartbeats 6400000 in
theorem rf_bytes (e : Ne) (w : World) (he : e.ok) :
    Calls Try.prog 58 #[.agg #[.string e.en.k, .string e.en.v, .bool e.en.d, .int .i64 e.en.s.c, .int .i64 e.en.s.s, .int .i64 e.en.a.c, .int .i64 e.en.a.s, .int .i64 e.en.p, .int .i64 e.en.g]] w fun E w' => ∃ A n c, E = .returned (.slice A n c) ∧ w'.ownsRow w.heap.size 5 1 (.slice A n c) (layB e).length (byts (layB e)) ∧ Only none_ w w' := by
  obtain ⟨i0, hi0, hz0, hz1, hz2⟩ := info_parts u8_info
  obtain ⟨k, x, d, s1, s2, a1, a2, p, q⟩ := e
  obtain ⟨hk, hv, h1, h2, h3, h4, h5, h6⟩ := he
  have HF : Hid (layB ⟨k, x, d, s1, s2, a1, a2, p, q⟩ = txtB k ++ [UInt8.ofNat (bitN d)] ++ txtB x ++ leBytes s1 4 ++ leBytes s2 1 ++ leBytes a1 4 ++ leBytes a2 1 ++ leBytes p 2 ++ leBytes q 4) := rfl
  dsimp only at hk hv h1 h2 h3 h4 h5 h6
  show Calls Try.prog 58 #[.agg #[.string k, .string x, .bool d, .int .i64 (s1 : Int), .int .i64 (s2 : Int), .int .i64 (a1 : Int), .int .i64 (a2 : Int), .int .i64 (p : Int), .int .i64 (q : Int)]] w _
  obtain ⟨b2, e2⟩ : ∃ b, txtB k ++ [UInt8.ofNat (bitN d)] = b := ⟨_, rfl⟩
  obtain ⟨b3, e3⟩ : ∃ b, b2 ++ txtB x = b := ⟨_, rfl⟩
  obtain ⟨b4, e4⟩ : ∃ b, b3 ++ leBytes s1 4 = b := ⟨_, rfl⟩
  obtain ⟨b5, e5⟩ : ∃ b, b4 ++ leBytes s2 1 = b := ⟨_, rfl⟩
  obtain ⟨b6, e6⟩ : ∃ b, b5 ++ leBytes a1 4 = b := ⟨_, rfl⟩
  obtain ⟨b7, e7⟩ : ∃ b, b6 ++ leBytes a2 1 = b := ⟨_, rfl⟩
  obtain ⟨b8, e8⟩ : ∃ b, b7 ++ leBytes p 2 = b := ⟨_, rfl⟩
  obtain ⟨b9, e9⟩ : ∃ b, b8 ++ leBytes q 4 = b := ⟨_, rfl⟩
  have EB : Hid (layB ⟨k, x, d, s1, s2, a1, a2, p, q⟩ = b9) := by
    rw [Hid, HF.out, ← e9, ← e8, ← e7, ← e6, ← e5, ← e4, ← e3, ← e2]
  have n2 : b2.length = (k.size + 1) + 1 := by rw [← e2, List.length_append, txtB_len]; rfl
  have n3 : b3.length = b2.length + (x.size + 1) := by rw [← e3, List.length_append, txtB_len]
  have n4 : b4.length = b3.length + 4 := by rw [← e4, List.length_append, leBytes_len]
  have n5 : b5.length = b4.length + 1 := by rw [← e5, List.length_append, leBytes_len]
  have n6 : b6.length = b5.length + 4 := by rw [← e6, List.length_append, leBytes_len]
  have n7 : b7.length = b6.length + 1 := by rw [← e7, List.length_append, leBytes_len]
  have n8 : b8.length = b7.length + 2 := by rw [← e8, List.length_append, leBytes_len]
  have l1 := txtB_len k
  have l3 := txtB_len x
  have HN : Hid ((txtB k).length + 1 ≤ 140737488355328 ∧ b2.length + (txtB x).length ≤ 140737488355328 ∧ b3.length + (leBytes s1 4).length ≤ 140737488355328 ∧ b4.length + (leBytes s2 1).length ≤ 140737488355328 ∧ b5.length + (leBytes a1 4).length ≤ 140737488355328 ∧ b6.length + (leBytes a2 1).length ≤ 140737488355328 ∧ b7.length + (leBytes p 2).length ≤ 140737488355328 ∧ b8.length + (leBytes q 4).length ≤ 140737488355328) := by
    simp only [Hid, leBytes_len]
    refine ⟨?_, ?_, ?_, ?_, ?_, ?_, ?_, ?_⟩ <;> omega
  have E2 := Lib.hid e2
  have E3 := Lib.hid e3
  have E4 := Lib.hid e4
  have E5 := Lib.hid e5
  have E6 := Lib.hid e6
  have E7 := Lib.hid e7
  have E8 := Lib.hid e8
  have E9 := Lib.hid e9
  have HK := Lib.hid hk
  have HX := Lib.hid hv
  have R1 : Hid (s1 < 9223372036854775808) := by simp only [Hid]; omega
  have R2 : Hid (s2 < 9223372036854775808) := by simp only [Hid]; omega
  have R3 : Hid (a1 < 9223372036854775808) := by simp only [Hid]; omega
  have R4 : Hid (a2 < 9223372036854775808) := by simp only [Hid]; omega
  have R5 : Hid (p < 9223372036854775808) := by simp only [Hid]; omega
  have R6 : Hid (q < 9223372036854775808) := by simp only [Hid]; omega
  clear hk hv h1 h2 h3 h4 h5 h6 e2 e3 e4 e5 e6 e7 e8 e9 n2 n3 n4 n5 n6 n7 n8 l1 l3
  cases d
  · have E2b : Hid (txtB k ++ [UInt8.ofNat 0] = b2) := E2.out
    have X0 := Lib.hid (Blk.new w 73 #[.string k, .string x, .bool false, .int .i64 (s1 : Int), .int .i64 (s2 : Int), .int .i64 (a1 : Int), .int .i64 (a2 : Int), .int .i64 (p : Int), .int .i64 (q : Int)])
    have O0 := Lib.hid ((Only.refl none_ w).alloc (.cells #[.string k, .string x, .bool false, .int .i64 (s1 : Int), .int .i64 (s2 : Int), .int .i64 (a1 : Int), .int .i64 (a2 : Int), .int .i64 (p : Int), .int .i64 (q : Int)] 73))
    have y0 := nine_of X0.out
    have tokt : True := trivial
    go_enter Try.func58, Try.ntmps58
    go_wp2_with (first
      | (go_at_call 77; have _t := tokt; clear tokt; refine (rf_text k _ HK.out).mono ?_; rintro e w1 ⟨A1, n1, c1, rfl, own1, o1⟩
         have Q1 : Hid (Ap w w.heap.size #[.string k, .string x, .bool false, .int .i64 (s1 : Int), .int .i64 (s2 : Int), .int .i64 (a1 : Int), .int .i64 (a2 : Int), .int .i64 (p : Int), .int .i64 (q : Int)] (.slice A1 n1 c1) (txtB k) w1) := ⟨X0.out.only o1 (fun h => h), owns_base own1 O0.out.size, O0.out.trans o1⟩
         have y1 := nine_of Q1.out.bx
         have P1 := Lib.hid (Q1.out.keep ((Only.refl none_ w1).alloc (.cells #[.int .u8 0] 5)))
         have g1 := P1.out.ho.size
         have L1 : Hid (Byt (w1.alloc (.cells #[.int .u8 0] 5)) (fun b => b = w1.heap.size) (.slice (some ⟨w1.heap.size, 0, none⟩) 1 1) [UInt8.ofNat 0]) := byt_one w1 0 (by omega) 5
         clear own1 o1)
      | (at_builtin; refine wpList_append_byt _ rfl (.tmp 12) (.tmp 13) _ rfl w.heap.size 5 i0 (.int .u8 0) Try.underlying115 hi0 hz0 hz1 hz2 rfl _ _ rfl P1.out.ow _ _ [UInt8.ofNat 0] rfl L1.out HN.out.1 g1 ?_
         intro A2 n2 c2 w2 hown2 hgrow2 hmv2
         have Q2 : Hid (Ap w w.heap.size #[.string k, .string x, .bool false, .int .i64 (s1 : Int), .int .i64 (s2 : Int), .int .i64 (a1 : Int), .int .i64 (a2 : Int), .int .i64 (p : Int), .int .i64 (q : Int)] (.slice A2 n2 c2) b2 w2) := by have := P1.out.app hown2 hgrow2; rwa [E2b.out] at this
         have y2 := nine_of Q2.out.bx
         clear hown2 hgrow2 hmv2
         have tokv : True := trivial)
      | (go_at_call 77; have _t := tokv; clear tokv; refine (rf_text x _ HX.out).mono ?_; rintro e u3 ⟨B3, m3, d3, rfl, own, o⟩
         have P3 := Lib.hid (Q2.out.keep o)
         have g3 := P3.out.ho.size
         have L3 := Lib.hid (Byt.of_own own)
         clear own o)
      | (at_builtin; refine wpList_append_byt _ rfl (.tmp 15) (.tmp 18) _ rfl w.heap.size 5 i0 (.int .u8 0) Try.underlying115 hi0 hz0 hz1 hz2 rfl _ _ rfl P3.out.ow _ _ (txtB x) rfl L3.out HN.out.2.1 g3 ?_
         intro A3 n3 c3 w3 hown hgrow hmv
         have Q3 : Hid (Ap w w.heap.size #[.string k, .string x, .bool false, .int .i64 (s1 : Int), .int .i64 (s2 : Int), .int .i64 (a1 : Int), .int .i64 (a2 : Int), .int .i64 (p : Int), .int .i64 (q : Int)] (.slice A3 n3 c3) b3 w3) := by have := P3.out.app hown hgrow; rwa [E3.out] at this
         have y3 := nine_of Q3.out.bx
         clear hown hgrow hmv
         have tokn3 : True := trivial)
      | (go_at_call 78; have _t := tokn3; clear tokn3; refine (rf_number s1 4 _ R1.out (by omega)).mono ?_; rintro e u4 ⟨B4, m4, d4, rfl, own, o⟩
         have P4 := Lib.hid (Q3.out.keep o)
         have g4 := P4.out.ho.size
         have L4 := Lib.hid (Byt.of_own own)
         clear own o)
      | (at_builtin; refine wpList_append_byt _ rfl (.tmp 20) (.tmp 24) _ rfl w.heap.size 5 i0 (.int .u8 0) Try.underlying115 hi0 hz0 hz1 hz2 rfl _ _ rfl P4.out.ow _ _ (leBytes s1 4) rfl L4.out HN.out.2.2.1 g4 ?_
         intro A4 n4 c4 w4 hown hgrow hmv
         have Q4 : Hid (Ap w w.heap.size #[.string k, .string x, .bool false, .int .i64 (s1 : Int), .int .i64 (s2 : Int), .int .i64 (a1 : Int), .int .i64 (a2 : Int), .int .i64 (p : Int), .int .i64 (q : Int)] (.slice A4 n4 c4) b4 w4) := by have := P4.out.app hown hgrow; rwa [E4.out] at this
         have y4 := nine_of Q4.out.bx
         clear hown hgrow hmv
         have tokn4 : True := trivial)
      | (go_at_call 78; have _t := tokn4; clear tokn4; refine (rf_number s2 1 _ R2.out (by omega)).mono ?_; rintro e u5 ⟨B5, m5, d5, rfl, own, o⟩
         have P5 := Lib.hid (Q4.out.keep o)
         have g5 := P5.out.ho.size
         have L5 := Lib.hid (Byt.of_own own)
         clear own o)
      | (at_builtin; refine wpList_append_byt _ rfl (.tmp 26) (.tmp 30) _ rfl w.heap.size 5 i0 (.int .u8 0) Try.underlying115 hi0 hz0 hz1 hz2 rfl _ _ rfl P5.out.ow _ _ (leBytes s2 1) rfl L5.out HN.out.2.2.2.1 g5 ?_
         intro A5 n5 c5 w5 hown hgrow hmv
         have Q5 : Hid (Ap w w.heap.size #[.string k, .string x, .bool false, .int .i64 (s1 : Int), .int .i64 (s2 : Int), .int .i64 (a1 : Int), .int .i64 (a2 : Int), .int .i64 (p : Int), .int .i64 (q : Int)] (.slice A5 n5 c5) b5 w5) := by have := P5.out.app hown hgrow; rwa [E5.out] at this
         have y5 := nine_of Q5.out.bx
         clear hown hgrow hmv
         have tokn5 : True := trivial)
      | (go_at_call 78; have _t := tokn5; clear tokn5; refine (rf_number a1 4 _ R3.out (by omega)).mono ?_; rintro e u6 ⟨B6, m6, d6, rfl, own, o⟩
         have P6 := Lib.hid (Q5.out.keep o)
         have g6 := P6.out.ho.size
         have L6 := Lib.hid (Byt.of_own own)
         clear own o)
      | (at_builtin; refine wpList_append_byt _ rfl (.tmp 32) (.tmp 36) _ rfl w.heap.size 5 i0 (.int .u8 0) Try.underlying115 hi0 hz0 hz1 hz2 rfl _ _ rfl P6.out.ow _ _ (leBytes a1 4) rfl L6.out HN.out.2.2.2.2.1 g6 ?_
         intro A6 n6 c6 w6 hown hgrow hmv
         have Q6 : Hid (Ap w w.heap.size #[.string k, .string x, .bool false, .int .i64 (s1 : Int), .int .i64 (s2 : Int), .int .i64 (a1 : Int), .int .i64 (a2 : Int), .int .i64 (p : Int), .int .i64 (q : Int)] (.slice A6 n6 c6) b6 w6) := by have := P6.out.app hown hgrow; rwa [E6.out] at this
         have y6 := nine_of Q6.out.bx
         clear hown hgrow hmv
         have tokn6 : True := trivial)
      | (go_at_call 78; have _t := tokn6; clear tokn6; refine (rf_number a2 1 _ R4.out (by omega)).mono ?_; rintro e u7 ⟨B7, m7, d7, rfl, own, o⟩
         have P7 := Lib.hid (Q6.out.keep o)
         have g7 := P7.out.ho.size
         have L7 := Lib.hid (Byt.of_own own)
         clear own o)
      | (at_builtin; refine wpList_append_byt _ rfl (.tmp 38) (.tmp 42) _ rfl w.heap.size 5 i0 (.int .u8 0) Try.underlying115 hi0 hz0 hz1 hz2 rfl _ _ rfl P7.out.ow _ _ (leBytes a2 1) rfl L7.out HN.out.2.2.2.2.2.1 g7 ?_
         intro A7 n7 c7 w7 hown hgrow hmv
         have Q7 : Hid (Ap w w.heap.size #[.string k, .string x, .bool false, .int .i64 (s1 : Int), .int .i64 (s2 : Int), .int .i64 (a1 : Int), .int .i64 (a2 : Int), .int .i64 (p : Int), .int .i64 (q : Int)] (.slice A7 n7 c7) b7 w7) := by have := P7.out.app hown hgrow; rwa [E7.out] at this
         have y7 := nine_of Q7.out.bx
         clear hown hgrow hmv
         have tokn7 : True := trivial)
      | (go_at_call 78; have _t := tokn7; clear tokn7; refine (rf_number p 2 _ R5.out (by omega)).mono ?_; rintro e u8 ⟨B8, m8, d8, rfl, own, o⟩
         have P8 := Lib.hid (Q7.out.keep o)
         have g8 := P8.out.ho.size
         have L8 := Lib.hid (Byt.of_own own)
         clear own o)
      | (at_builtin; refine wpList_append_byt _ rfl (.tmp 44) (.tmp 47) _ rfl w.heap.size 5 i0 (.int .u8 0) Try.underlying115 hi0 hz0 hz1 hz2 rfl _ _ rfl P8.out.ow _ _ (leBytes p 2) rfl L8.out HN.out.2.2.2.2.2.2.1 g8 ?_
         intro A8 n8 c8 w8 hown hgrow hmv
         have Q8 : Hid (Ap w w.heap.size #[.string k, .string x, .bool false, .int .i64 (s1 : Int), .int .i64 (s2 : Int), .int .i64 (a1 : Int), .int .i64 (a2 : Int), .int .i64 (p : Int), .int .i64 (q : Int)] (.slice A8 n8 c8) b8 w8) := by have := P8.out.app hown hgrow; rwa [E8.out] at this
         have y8 := nine_of Q8.out.bx
         clear hown hgrow hmv
         have tokn8 : True := trivial)
      | (go_at_call 78; have _t := tokn8; clear tokn8; refine (rf_number q 4 _ R6.out (by omega)).mono ?_; rintro e u9 ⟨B9, m9, d9, rfl, own, o⟩
         have P9 := Lib.hid (Q8.out.keep o)
         have g9 := P9.out.ho.size
         have L9 := Lib.hid (Byt.of_own own)
         clear own o)
      | (at_builtin; refine wpList_append_byt _ rfl (.tmp 49) (.tmp 52) _ rfl w.heap.size 5 i0 (.int .u8 0) Try.underlying115 hi0 hz0 hz1 hz2 rfl _ _ rfl P9.out.ow _ _ (leBytes q 4) rfl L9.out HN.out.2.2.2.2.2.2.2 g9 ?_
         intro A9 n9 c9 w9 hown hgrow hmv
         have Q9 : Hid (Ap w w.heap.size #[.string k, .string x, .bool false, .int .i64 (s1 : Int), .int .i64 (s2 : Int), .int .i64 (a1 : Int), .int .i64 (a2 : Int), .int .i64 (p : Int), .int .i64 (q : Int)] (.slice A9 n9 c9) b9 w9) := by have := P9.out.app hown hgrow; rwa [E9.out] at this
         have y9 := nine_of Q9.out.bx
         clear hown hgrow hmv
         have tokn9 : True := trivial))
    go_ret
    rw [EB.out]
    exact ⟨A9, n9, c9, rfl, Q9.out.ow, Q9.out.ho⟩
  · have E2b : Hid (txtB k ++ [UInt8.ofNat 1] = b2) := E2.out
    have X0 := Lib.hid (Blk.new w 73 #[.string k, .string x, .bool true, .int .i64 (s1 : Int), .int .i64 (s2 : Int), .int .i64 (a1 : Int), .int .i64 (a2 : Int), .int .i64 (p : Int), .int .i64 (q : Int)])
    have O0 := Lib.hid ((Only.refl none_ w).alloc (.cells #[.string k, .string x, .bool true, .int .i64 (s1 : Int), .int .i64 (s2 : Int), .int .i64 (a1 : Int), .int .i64 (a2 : Int), .int .i64 (p : Int), .int .i64 (q : Int)] 73))
    have y0 := nine_of X0.out
    have tokt : True := trivial
    go_enter Try.func58, Try.ntmps58
    go_wp2_with (first
      | (go_at_call 77; have _t := tokt; clear tokt; refine (rf_text k _ HK.out).mono ?_; rintro e w1 ⟨A1, n1, c1, rfl, own1, o1⟩
         have Q1 : Hid (Ap w w.heap.size #[.string k, .string x, .bool true, .int .i64 (s1 : Int), .int .i64 (s2 : Int), .int .i64 (a1 : Int), .int .i64 (a2 : Int), .int .i64 (p : Int), .int .i64 (q : Int)] (.slice A1 n1 c1) (txtB k) w1) := ⟨X0.out.only o1 (fun h => h), owns_base own1 O0.out.size, O0.out.trans o1⟩
         have y1 := nine_of Q1.out.bx
         have P1 := Lib.hid (Q1.out.keep ((Only.refl none_ w1).alloc (.cells #[.int .u8 1] 5)))
         have g1 := P1.out.ho.size
         have L1 : Hid (Byt (w1.alloc (.cells #[.int .u8 1] 5)) (fun b => b = w1.heap.size) (.slice (some ⟨w1.heap.size, 0, none⟩) 1 1) [UInt8.ofNat 1]) := byt_one w1 1 (by omega) 5
         clear own1 o1)
      | (at_builtin; refine wpList_append_byt _ rfl (.tmp 9) (.tmp 10) _ rfl w.heap.size 5 i0 (.int .u8 0) Try.underlying115 hi0 hz0 hz1 hz2 rfl _ _ rfl P1.out.ow _ _ [UInt8.ofNat 1] rfl L1.out HN.out.1 g1 ?_
         intro A2 n2 c2 w2 hown2 hgrow2 hmv2
         have Q2 : Hid (Ap w w.heap.size #[.string k, .string x, .bool true, .int .i64 (s1 : Int), .int .i64 (s2 : Int), .int .i64 (a1 : Int), .int .i64 (a2 : Int), .int .i64 (p : Int), .int .i64 (q : Int)] (.slice A2 n2 c2) b2 w2) := by have := P1.out.app hown2 hgrow2; rwa [E2b.out] at this
         have y2 := nine_of Q2.out.bx
         clear hown2 hgrow2 hmv2
         have tokv : True := trivial)
      | (go_at_call 77; have _t := tokv; clear tokv; refine (rf_text x _ HX.out).mono ?_; rintro e u3 ⟨B3, m3, d3, rfl, own, o⟩
         have P3 := Lib.hid (Q2.out.keep o)
         have g3 := P3.out.ho.size
         have L3 := Lib.hid (Byt.of_own own)
         clear own o)
      | (at_builtin; refine wpList_append_byt _ rfl (.tmp 15) (.tmp 18) _ rfl w.heap.size 5 i0 (.int .u8 0) Try.underlying115 hi0 hz0 hz1 hz2 rfl _ _ rfl P3.out.ow _ _ (txtB x) rfl L3.out HN.out.2.1 g3 ?_
         intro A3 n3 c3 w3 hown hgrow hmv
         have Q3 : Hid (Ap w w.heap.size #[.string k, .string x, .bool true, .int .i64 (s1 : Int), .int .i64 (s2 : Int), .int .i64 (a1 : Int), .int .i64 (a2 : Int), .int .i64 (p : Int), .int .i64 (q : Int)] (.slice A3 n3 c3) b3 w3) := by have := P3.out.app hown hgrow; rwa [E3.out] at this
         have y3 := nine_of Q3.out.bx
         clear hown hgrow hmv
         have tokn3 : True := trivial)
      | (go_at_call 78; have _t := tokn3; clear tokn3; refine (rf_number s1 4 _ R1.out (by omega)).mono ?_; rintro e u4 ⟨B4, m4, d4, rfl, own, o⟩
         have P4 := Lib.hid (Q3.out.keep o)
         have g4 := P4.out.ho.size
         have L4 := Lib.hid (Byt.of_own own)
         clear own o)
      | (at_builtin; refine wpList_append_byt _ rfl (.tmp 20) (.tmp 24) _ rfl w.heap.size 5 i0 (.int .u8 0) Try.underlying115 hi0 hz0 hz1 hz2 rfl _ _ rfl P4.out.ow _ _ (leBytes s1 4) rfl L4.out HN.out.2.2.1 g4 ?_
         intro A4 n4 c4 w4 hown hgrow hmv
         have Q4 : Hid (Ap w w.heap.size #[.string k, .string x, .bool true, .int .i64 (s1 : Int), .int .i64 (s2 : Int), .int .i64 (a1 : Int), .int .i64 (a2 : Int), .int .i64 (p : Int), .int .i64 (q : Int)] (.slice A4 n4 c4) b4 w4) := by have := P4.out.app hown hgrow; rwa [E4.out] at this
         have y4 := nine_of Q4.out.bx
         clear hown hgrow hmv
         have tokn4 : True := trivial)
      | (go_at_call 78; have _t := tokn4; clear tokn4; refine (rf_number s2 1 _ R2.out (by omega)).mono ?_; rintro e u5 ⟨B5, m5, d5, rfl, own, o⟩
         have P5 := Lib.hid (Q4.out.keep o)
         have g5 := P5.out.ho.size
         have L5 := Lib.hid (Byt.of_own own)
         clear own o)
      | (at_builtin; refine wpList_append_byt _ rfl (.tmp 26) (.tmp 30) _ rfl w.heap.size 5 i0 (.int .u8 0) Try.underlying115 hi0 hz0 hz1 hz2 rfl _ _ rfl P5.out.ow _ _ (leBytes s2 1) rfl L5.out HN.out.2.2.2.1 g5 ?_
         intro A5 n5 c5 w5 hown hgrow hmv
         have Q5 : Hid (Ap w w.heap.size #[.string k, .string x, .bool true, .int .i64 (s1 : Int), .int .i64 (s2 : Int), .int .i64 (a1 : Int), .int .i64 (a2 : Int), .int .i64 (p : Int), .int .i64 (q : Int)] (.slice A5 n5 c5) b5 w5) := by have := P5.out.app hown hgrow; rwa [E5.out] at this
         have y5 := nine_of Q5.out.bx
         clear hown hgrow hmv
         have tokn5 : True := trivial)
      | (go_at_call 78; have _t := tokn5; clear tokn5; refine (rf_number a1 4 _ R3.out (by omega)).mono ?_; rintro e u6 ⟨B6, m6, d6, rfl, own, o⟩
         have P6 := Lib.hid (Q5.out.keep o)
         have g6 := P6.out.ho.size
         have L6 := Lib.hid (Byt.of_own own)
         clear own o)
      | (at_builtin; refine wpList_append_byt _ rfl (.tmp 32) (.tmp 36) _ rfl w.heap.size 5 i0 (.int .u8 0) Try.underlying115 hi0 hz0 hz1 hz2 rfl _ _ rfl P6.out.ow _ _ (leBytes a1 4) rfl L6.out HN.out.2.2.2.2.1 g6 ?_
         intro A6 n6 c6 w6 hown hgrow hmv
         have Q6 : Hid (Ap w w.heap.size #[.string k, .string x, .bool true, .int .i64 (s1 : Int), .int .i64 (s2 : Int), .int .i64 (a1 : Int), .int .i64 (a2 : Int), .int .i64 (p : Int), .int .i64 (q : Int)] (.slice A6 n6 c6) b6 w6) := by have := P6.out.app hown hgrow; rwa [E6.out] at this
         have y6 := nine_of Q6.out.bx
         clear hown hgrow hmv
         have tokn6 : True := trivial)
      | (go_at_call 78; have _t := tokn6; clear tokn6; refine (rf_number a2 1 _ R4.out (by omega)).mono ?_; rintro e u7 ⟨B7, m7, d7, rfl, own, o⟩
         have P7 := Lib.hid (Q6.out.keep o)
         have g7 := P7.out.ho.size
         have L7 := Lib.hid (Byt.of_own own)
         clear own o)
      | (at_builtin; refine wpList_append_byt _ rfl (.tmp 38) (.tmp 42) _ rfl w.heap.size 5 i0 (.int .u8 0) Try.underlying115 hi0 hz0 hz1 hz2 rfl _ _ rfl P7.out.ow _ _ (leBytes a2 1) rfl L7.out HN.out.2.2.2.2.2.1 g7 ?_
         intro A7 n7 c7 w7 hown hgrow hmv
         have Q7 : Hid (Ap w w.heap.size #[.string k, .string x, .bool true, .int .i64 (s1 : Int), .int .i64 (s2 : Int), .int .i64 (a1 : Int), .int .i64 (a2 : Int), .int .i64 (p : Int), .int .i64 (q : Int)] (.slice A7 n7 c7) b7 w7) := by have := P7.out.app hown hgrow; rwa [E7.out] at this
         have y7 := nine_of Q7.out.bx
         clear hown hgrow hmv
         have tokn7 : True := trivial)
      | (go_at_call 78; have _t := tokn7; clear tokn7; refine (rf_number p 2 _ R5.out (by omega)).mono ?_; rintro e u8 ⟨B8, m8, d8, rfl, own, o⟩
         have P8 := Lib.hid (Q7.out.keep o)
         have g8 := P8.out.ho.size
         have L8 := Lib.hid (Byt.of_own own)
         clear own o)
      | (at_builtin; refine wpList_append_byt _ rfl (.tmp 44) (.tmp 47) _ rfl w.heap.size 5 i0 (.int .u8 0) Try.underlying115 hi0 hz0 hz1 hz2 rfl _ _ rfl P8.out.ow _ _ (leBytes p 2) rfl L8.out HN.out.2.2.2.2.2.2.1 g8 ?_
         intro A8 n8 c8 w8 hown hgrow hmv
         have Q8 : Hid (Ap w w.heap.size #[.string k, .string x, .bool true, .int .i64 (s1 : Int), .int .i64 (s2 : Int), .int .i64 (a1 : Int), .int .i64 (a2 : Int), .int .i64 (p : Int), .int .i64 (q : Int)] (.slice A8 n8 c8) b8 w8) := by have := P8.out.app hown hgrow; rwa [E8.out] at this
         have y8 := nine_of Q8.out.bx
         clear hown hgrow hmv
         have tokn8 : True := trivial)
      | (go_at_call 78; have _t := tokn8; clear tokn8; refine (rf_number q 4 _ R6.out (by omega)).mono ?_; rintro e u9 ⟨B9, m9, d9, rfl, own, o⟩
         have P9 := Lib.hid (Q8.out.keep o)
         have g9 := P9.out.ho.size
         have L9 := Lib.hid (Byt.of_own own)
         clear own o)
      | (at_builtin; refine wpList_append_byt _ rfl (.tmp 49) (.tmp 52) _ rfl w.heap.size 5 i0 (.int .u8 0) Try.underlying115 hi0 hz0 hz1 hz2 rfl _ _ rfl P9.out.ow _ _ (leBytes q 4) rfl L9.out HN.out.2.2.2.2.2.2.2 g9 ?_
         intro A9 n9 c9 w9 hown hgrow hmv
         have Q9 : Hid (Ap w w.heap.size #[.string k, .string x, .bool true, .int .i64 (s1 : Int), .int .i64 (s2 : Int), .int .i64 (a1 : Int), .int .i64 (a2 : Int), .int .i64 (p : Int), .int .i64 (q : Int)] (.slice A9 n9 c9) b9 w9) := by have := P9.out.app hown hgrow; rwa [E9.out] at this
         have y9 := nine_of Q9.out.bx
         clear hown hgrow hmv
         have tokn9 : True := trivial))
    go_ret
    rw [EB.out]
    exact ⟨A9, n9, c9, rfl, Q9.out.ow, Q9.out.ho⟩
end Go.Proofs.Ytkailngpmodfhaa
