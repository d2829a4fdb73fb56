/- The call of EntryReads answers yes, and changes nothing that was there. The statement itself is proved in another text. -/
import Derived.Test.YtdjondjlengapaaEoK
import Derived.Test.YtdjondjlengapaaEoI
import Derived.Test.YtdjondjlengapaaEoB
import Derived.Test.YtdjondjlengapaaEnS
namespace Go.Proofs.Ytdjondjlengapaa
open Go.RowKit
set_option maxRecDepth 100000
set_option linter.all false

/-- Two entries of the call's own that are the same, one of each kind; the bytes. -/
structure E1 (W : World) (vx : Value) (bs : List UInt8) (D : En) (g1 g2 : Nat) (w : World) : Prop where
  x : Blk w g1 27 #[.string D.k, .string D.v, .bool D.d, .int .i64 D.s.c, .int .i64 D.s.s, .int .i64 D.a.c, .int .i64 D.a.s, .int .i64 D.p, .int .i64 D.g]
  y : Blk w g2 33 #[.string D.k, .string D.v, .bool D.d, .int .i64 D.s.c, .int .i64 D.s.s, .int .i64 D.a.c, .int .i64 D.a.s, .int .i64 D.p, .int .i64 D.g]
  s : Byt w (fun b => b < W.heap.size) vx bs
  ho : Only none_ W w
theorem E1.keep {W w w' : World} {vx : Value} {bs : List UInt8} {D : En} {g1 g2 : Nat} (e : E1 W vx bs D g1 g2 w) (o : Only none_ w w') : E1 W vx bs D g1 g2 w' :=
  ⟨e.x.only o (fun h => h), e.y.only o (fun h => h), e.s.only o (fun _ _ h => h), e.ho.trans o⟩
/-- The entry that was decoded; a reader behind a Take; the entries that both Takes gave, and the cursor. -/
structure E2 (W : World) (vx : Value) (bs : List UInt8) (D T : En) (C : Int) (B : List UInt8) (cs : Array Value) (S : Nat → Prop) (g1 g g3 g4 g5 : Nat) (w : World) : Prop where
  x : Blk w g1 27 #[.string D.k, .string D.v, .bool D.d, .int .i64 D.s.c, .int .i64 D.s.s, .int .i64 D.a.c, .int .i64 D.a.s, .int .i64 D.p, .int .i64 D.g]
  r : Rd w g S C B
  z : Blk w g3 27 #[.string T.k, .string T.v, .bool T.d, .int .i64 T.s.c, .int .i64 T.s.s, .int .i64 T.a.c, .int .i64 T.a.s, .int .i64 T.p, .int .i64 T.g]
  c : Blk w g4 41 cs
  u : Blk w g5 33 #[.string T.k, .string T.v, .bool T.d, .int .i64 T.s.c, .int .i64 T.s.s, .int .i64 T.a.c, .int .i64 T.a.s, .int .i64 T.p, .int .i64 T.g]
  s : Byt w (fun b => b < W.heap.size) vx bs
  ho : Only none_ W w
theorem E2.keep {W w w' : World} {vx : Value} {bs B : List UInt8} {D T : En} {C : Int} {cs : Array Value} {S : Nat → Prop} {g1 g g3 g4 g5 : Nat} (e : E2 W vx bs D T C B cs S g1 g g3 g4 g5 w) (o : Only none_ w w') : E2 W vx bs D T C B cs S g1 g g3 g4 g5 w' :=
  ⟨e.x.only o (fun h => h), e.r.only o (fun h => h) (fun _ _ h => h), e.z.only o (fun h => h), e.c.only o (fun h => h), e.u.only o (fun h => h), e.s.only o (fun _ _ h => h), e.ho.trans o⟩

set_option maxHeartbeats 400000 in
theorem reads_long (A : Option Addr) (L c : Nat) (W : World) (h : 200 < L) :
    Calls Try.prog 3 #[.slice A L c] W fun e w' => e = .returned (.bool true) ∧ Below W.heap.size W w' := by
  have hd : decide ((200 : Int) < (L : Int)) = true := by simp; omega
  clear h
  go_enter Try.func3, Try.ntmps3
  go_wp2_with (first
    | (go_at_call 10; refine (en_speaks _).mono ?_; rintro E w9 ⟨rfl, rfl⟩))
  go_ret
  exact ⟨rfl, Below.refl _ _⟩

set_option maxHeartbeats 6400000 in
theorem reads_yes (A : Option Addr) (c : Nat) (bs : List UInt8) (W : World) (h : Byt W (fun b => b < W.heap.size) (.slice A bs.length c) bs) (h2 : bs.length ≤ 200) :
    Calls Try.prog 3 #[.slice A bs.length c] W fun e w' => e = .returned (.bool true) ∧ Below W.heap.size W w' := by
  have HDP : Hid (∀ w, Only none_ W w → Calls Try.prog 11 #[.slice A bs.length c] w fun e w' => e = .returned (.tuple #[.agg #[.string (decE bs).k, .string (decE bs).v, .bool (decE bs).d, .int .i64 (decE bs).s.c, .int .i64 (decE bs).s.s, .int .i64 (decE bs).a.c, .int .i64 (decE bs).a.s, .int .i64 (decE bs).p, .int .i64 (decE bs).g], .int .i64 (decC bs)]) ∧ Only none_ w w') :=
    fun w o => decode_any A bs.length c bs _ w (h.only o (fun _ _ h => h)) (by omega)
  have HDR : Hid (∀ w, Only none_ W w → Calls Try.prog 12 #[.slice A bs.length c] w fun e w' => e = .returned (.tuple #[.agg #[.string (decE bs).k, .string (decE bs).v, .bool (decE bs).d, .int .i64 (decE bs).s.c, .int .i64 (decE bs).s.s, .int .i64 (decE bs).a.c, .int .i64 (decE bs).a.s, .int .i64 (decE bs).p, .int .i64 (decE bs).g], .int .i64 (decC bs)]) ∧ Only none_ w w') :=
    fun w o => rf_decode A c bs _ w (h.only o (fun _ _ h => h)) (fun b hb => Nat.lt_of_lt_of_le hb o.size) (by omega)
  have HRD : Hid (∀ w, Only none_ W w → Calls Try.prog 14 #[.slice A bs.length c] w fun e w' => ∃ g S, e = .returned (.pointer (some ⟨g, 0, none⟩)) ∧ w.heap.size ≤ g ∧ Rd w' g S 0 bs ∧ (∀ b, S b → w.heap.size ≤ b ∧ b < w'.heap.size) ∧ Only none_ w w') :=
    fun w o => read_any _ bs _ w (h.only o (fun _ _ h => h)) (by omega)
  have HTK : Hid (∀ g S w, Rd w g S 0 bs → (∀ b, S b → b < w.heap.size) → Calls Try.prog 15 #[.pointer (some ⟨g, 0, none⟩)] w fun e w' => e = .returned (.agg #[.string (takeE 0 bs).k, .string (takeE 0 bs).v, .bool (takeE 0 bs).d, .int .i64 (takeE 0 bs).s.c, .int .i64 (takeE 0 bs).s.s, .int .i64 (takeE 0 bs).a.c, .int .i64 (takeE 0 bs).a.s, .int .i64 (takeE 0 bs).p, .int .i64 (takeE 0 bs).g]) ∧ Rd w' g S (takeC 0 bs) (takeB 0 bs) ∧ Only (one g) w w') :=
    fun g S w hr fr => take_any g S 0 bs w hr fr (by omega)
  have HTR : Hid (∀ w, Only none_ W w → Calls Try.prog 16 #[.agg #[.slice A bs.length c, .int .i64 0, .int .i64 0]] w fun E w' =>
      ∃ q : Nat, E = .returned (.tuple #[.agg #[.slice A bs.length c, .int .i64 (q : Int), .int .i64 (takeC 0 bs)], .agg #[.string (takeE 0 bs).k, .string (takeE 0 bs).v, .bool (takeE 0 bs).d, .int .i64 (takeE 0 bs).s.c, .int .i64 (takeE 0 bs).s.s, .int .i64 (takeE 0 bs).a.c, .int .i64 (takeE 0 bs).a.s, .int .i64 (takeE 0 bs).p, .int .i64 (takeE 0 bs).g]]) ∧ q = bs.length - (takeB 0 bs).length ∧ Rest bs (takeB 0 bs) ∧ Only none_ w w') :=
    fun w o => rf_take A c 0 bs bs 0 _ w (h.only o (fun _ _ h => h)) (fun b hb => Nat.lt_of_lt_of_le hb o.size) ⟨by simp, Nat.le_refl _⟩ (by omega) (by omega)
  have HEN : Hid (decC bs = 0 → ∀ w, Calls Try.prog 19 #[.agg #[.string (decE bs).k, .string (decE bs).v, .bool (decE bs).d, .int .i64 (decE bs).s.c, .int .i64 (decE bs).s.s, .int .i64 (decE bs).a.c, .int .i64 (decE bs).a.s, .int .i64 (decE bs).p, .int .i64 (decE bs).g]] w fun E w' => ∃ A n c, E = .returned (.tuple #[.slice A n c, .int .i64 0]) ∧ w'.ownsRow w.heap.size 5 1 (.slice A n c) bs.length (byts bs) ∧ Only none_ w w') := by
    intro hz w
    obtain ⟨m, hm, ok, hc, hb⟩ := read_back hz
    have := encode_okE m w hc ok
    rw [← hb, ← hm] at this
    exact this
  have HZC : decC bs = 0 → takeC 0 bs = 0 := by
    intro hz
    unfold decC doneCode at hz
    split at hz
    · next h0 => have := (first_zero hz).1; exact this
    · exact hz
  have HS := Lib.hid h
  obtain ⟨L, hL⟩ : ∃ L, bs.length = L := ⟨_, rfl⟩
  obtain ⟨D, hD⟩ : ∃ E, decE bs = E := ⟨_, rfl⟩
  obtain ⟨z, hz⟩ : ∃ E, decC bs = E := ⟨_, rfl⟩
  obtain ⟨T, hT⟩ : ∃ E, takeE 0 bs = E := ⟨_, rfl⟩
  obtain ⟨C, hC⟩ : ∃ c, takeC 0 bs = c := ⟨_, rfl⟩
  obtain ⟨B, hB⟩ : ∃ c, takeB 0 bs = c := ⟨_, rfl⟩
  rw [hD, hz, hL] at HDP HDR
  rw [hL] at HRD HS HEN h2 ⊢
  rw [hT, hC, hB] at HTK
  rw [hT, hC, hB, hL] at HTR
  rw [hD, hz] at HEN
  rw [hz, hC] at HZC
  have HLL := Lib.hid hL
  have h200 : (L : Int) ≤ 200 := by omega
  have EM := fun w => neq_of (eq_ref_entry w D D 9997)
  have EN := fun w => neq_of (eq_ref_entry w T T 9997)
  rw [enEq_refl] at EM EN
  clear h hL hD hz hT hC hB
  have hzz : (z != z) = false := by simp
  have hCC : (C != C) = false := by simp
  have hBB : ((B.length : Int) != (B.length : Int)) = false := by simp
  by_cases hz0 : z = 0
  · have hC0 := HZC hz0
    have hCb : (C == 0) = true := by simpa using hC0
    have hzb : (z != 0) = false := by simpa using hz0
    have HZ := Lib.hid hz0
    clear hz0 hC0 HZC
    go_enter Try.func3, Try.ntmps3
    go_wp2_with (first
      | (go_at_call 10; refine (en_speaks _).mono ?_; rintro E w9 ⟨rfl, rfl⟩)
      | (go_at_call 11; refine (HDP.out _ (Only.refl none_ W)).mono ?_; rintro E w1 ⟨rfl, o1⟩
         have O1 := Lib.hid (o1.alloc (.cells #[.string D.k, .string D.v, .bool D.d, .int .i64 D.s.c, .int .i64 D.s.s, .int .i64 D.a.c, .int .i64 D.a.s, .int .i64 D.p, .int .i64 D.g] 27))
         have X1 := Lib.hid (Blk.new w1 27 #[.string D.k, .string D.v, .bool D.d, .int .i64 D.s.c, .int .i64 D.s.s, .int .i64 D.a.c, .int .i64 D.a.s, .int .i64 D.p, .int .i64 D.g])
         clear o1)
      | (go_at_call 12; refine (HDR.out _ O1.out).mono ?_; rintro E w2 ⟨rfl, o2⟩
         have t2 : Hid (E1 W (.slice A L c) bs D w1.heap.size w2.heap.size ((w2.alloc (.cells #[.string D.k, .string D.v, .bool D.d, .int .i64 D.s.c, .int .i64 D.s.s, .int .i64 D.a.c, .int .i64 D.a.s, .int .i64 D.p, .int .i64 D.g] 33)).drew)) :=
           ⟨(X1.out.only (o2.alloc _) (fun h => h)).drew, (Blk.new w2 _ _).drew, HS.out.only ((O1.out.trans (o2.alloc _)).drew) (fun _ _ h => h), ((O1.out.trans (o2.alloc _)).drew)⟩
         clear o2))
    (refine wp_region_steady (fun w' => E1 W (.slice A L c) bs D w1.heap.size w2.heap.size w') 9 (by kernel_rfl) (by kernel_rfl) (t2.out) ?_; simp only [List.take_succ_cons, List.take_zero, List.drop_succ_cons, List.drop_zero])
    repeat (first
      | (refine sd_value (v := ?_) (by rfl) (fun w0 hS => ?_) ?_; rotate_left; (· (skip; go_simp; try (with_reducible rfl))); try simp only [Act.put, List.setIfInBounds_toArray, List.set_cons_zero, List.set_cons_succ])
      | (refine sd_value (v := ?_) (by rfl) (fun w0 hS => ?_) ?_; rotate_left; (· (have hc := nine_of hS.x; go_simp; try (with_reducible rfl))); try simp only [Act.put, List.setIfInBounds_toArray, List.set_cons_zero, List.set_cons_succ])
      | (refine sd_value (v := ?_) (by rfl) (fun w0 hS => ?_) ?_; rotate_left; (· (have hc := nine_of hS.y; go_simp; try (with_reducible rfl))); try simp only [Act.put, List.setIfInBounds_toArray, List.set_cons_zero, List.set_cons_succ])
      | (refine sd_call (v := ?_) (f := 13) (args := ?_) (by rfl) (fun w0 hS => ?_) (fun w0 hS => ?_) ?_; rotate_left 2; (· (skip; go_simp; try (with_reducible rfl))); (· (refine (en_to _ _).mono ?_; rintro E w8 ⟨rfl, o8⟩; refine ⟨?_, hS.keep o8⟩; rfl)); try simp only [Act.put, List.setIfInBounds_toArray, List.set_cons_zero, List.set_cons_succ]))
    refine sd_nil ?_
    intro w6 t6'
    have t6 := Lib.hid t6'
    clear t6' EM t2 X1 O1
    go_wp2_with (first
      | (go_at_call 14; refine (HRD.out _ t6.out.ho).mono ?_; rintro E w3 ⟨g, S, rfl, hg, r3, hS3, o3⟩
         have R3 := Lib.hid r3
         have G3 : Hid (w6.heap.size ≤ g) := hg
         have FR := Lib.hid hS3
         have t3 := Lib.hid (t6.out.keep o3)
         clear r3 hg hS3 o3)
      | (go_at_call 15; refine (HTK.out g S w3 R3.out (fun b hb => (FR.out b hb).2)).mono ?_; rintro E w4 ⟨rfl, r4, o4⟩
         have hg1 := t6.out.x.lt
         have hg3 := G3.out
         have o34 : Only none_ w6 w6 := Only.refl _ _
         have R4 := Lib.hid (r4.only ((Only.refl none_ w4).alloc (.cells #[.string T.k, .string T.v, .bool T.d, .int .i64 T.s.c, .int .i64 T.s.s, .int .i64 T.a.c, .int .i64 T.a.s, .int .i64 T.p, .int .i64 T.g] 27)) (fun h => h) (fun _ _ h => h))
         have X4 : Hid (Blk (w4.alloc (.cells #[.string T.k, .string T.v, .bool T.d, .int .i64 T.s.c, .int .i64 T.s.s, .int .i64 T.a.c, .int .i64 T.a.s, .int .i64 T.p, .int .i64 T.g] 27)) w1.heap.size 27 #[.string D.k, .string D.v, .bool D.d, .int .i64 D.s.c, .int .i64 D.s.s, .int .i64 D.a.c, .int .i64 D.a.s, .int .i64 D.p, .int .i64 D.g]) := (t3.out.x.only o4 (fun e => by have e' : w1.heap.size = g := e; omega)).alloc _
         have LE4 : Hid (w3.heap.size ≤ w4.heap.size) := o4.size
         have Z4 := Lib.hid (Blk.new w4 27 #[.string T.k, .string T.v, .bool T.d, .int .i64 T.s.c, .int .i64 T.s.s, .int .i64 T.a.c, .int .i64 T.a.s, .int .i64 T.p, .int .i64 T.g])
         have HW : W.heap.size ≤ g := Nat.le_trans t6.out.ho.size hg3
         have O4 : Hid (Only none_ W (w4.alloc (.cells #[.string T.k, .string T.v, .bool T.d, .int .i64 T.s.c, .int .i64 T.s.s, .int .i64 T.a.c, .int .i64 T.a.s, .int .i64 T.p, .int .i64 T.g] 27))) := (t3.out.ho.trans' o4 (fun k hk e => by have e' : k = g := e; omega)).alloc _
         clear r4 o4 hg1 hg3 o34 HW)
      | (go_at_call 16; refine (HTR.out _ O4.out).mono ?_; rintro E w5 ⟨q, rfl, hq, hr, o5⟩
         have HQ : IntKind.i64.wrap ((L : Int) - (q : Int)) = (B.length : Int) := by
           have h1 := hr.2; have h2 := HLL.out; have h3 := h200
           rw [IntWalk.i64_in _ (by omega)]; omega
         have ws := ((Only.refl none_ w5).alloc (.cells #[.slice none 0 0, .int .i64 0, .int .i64 0] 41)).alloc (.cells #[.string ⟨#[]⟩, .string ⟨#[]⟩, .bool false, .int .i64 0, .int .i64 0, .int .i64 0, .int .i64 0, .int .i64 0, .int .i64 0] 33)
         have M0 : Hid (Blk ((w5.alloc (.cells #[.slice none 0 0, .int .i64 0, .int .i64 0] 41)).alloc (.cells #[.string ⟨#[]⟩, .string ⟨#[]⟩, .bool false, .int .i64 0, .int .i64 0, .int .i64 0, .int .i64 0, .int .i64 0, .int .i64 0] 33)) w5.heap.size 41 #[.slice none 0 0, .int .i64 0, .int .i64 0]) := (Blk.new w5 _ _).alloc _
         have M1 : Hid (Blk ((w5.alloc (.cells #[.slice none 0 0, .int .i64 0, .int .i64 0] 41)).alloc (.cells #[.string ⟨#[]⟩, .string ⟨#[]⟩, .bool false, .int .i64 0, .int .i64 0, .int .i64 0, .int .i64 0, .int .i64 0, .int .i64 0] 33)) (w5.heap.size + 1) 33 #[.string ⟨#[]⟩, .string ⟨#[]⟩, .bool false, .int .i64 0, .int .i64 0, .int .i64 0, .int .i64 0, .int .i64 0, .int .i64 0]) := by
           have := Blk.new (w5.alloc (.cells #[.slice none 0 0, .int .i64 0, .int .i64 0] 41)) 33 #[.string ⟨#[]⟩, .string ⟨#[]⟩, .bool false, .int .i64 0, .int .i64 0, .int .i64 0, .int .i64 0, .int .i64 0, .int .i64 0]
           rwa [World.size_alloc] at this
         have R5 := Lib.hid (R4.out.only (o5.trans ws) (fun h => h) (fun _ _ h => h))
         have X5 := Lib.hid (X4.out.only (o5.trans ws) (fun h => h))
         have Z5 := Lib.hid (Z4.out.only (o5.trans ws) (fun h => h))
         have O5 := Lib.hid (O4.out.trans (o5.trans ws))
         have N5 : Hid (g < w5.heap.size ∧ w1.heap.size < w5.heap.size ∧ w4.heap.size < w5.heap.size ∧ W.heap.size ≤ w5.heap.size ∧ ∀ b, S b → b < w5.heap.size) :=
           ⟨(R4.out.only o5 (fun h => h) (fun _ _ h => h)).lt, (X4.out.only o5 (fun h => h)).lt, (Z4.out.only o5 (fun h => h)).lt, (O4.out.trans o5).size, fun b hb => by
             have h1 := (FR.out b hb).2
             have h2 := LE4.out
             have h3 := o5.size
             rw [World.size_alloc] at h3
             omega⟩
         clear hq hr o5 ws)
      | (refine wpList_store_row rfl 41 _ _ rfl w5.heap.size #[.slice A L c, .int .i64 (q : Int), .int .i64 C] rfl rfl 41 _ M0.out (by kernel_rfl) rfl (by simp [Value.oneCell']) ?_
         have n5 := N5.out
         have Q0 := Lib.hid (M0.out.setRow #[.slice A L c, .int .i64 (q : Int), .int .i64 C])
         have Q1 := Lib.hid (M1.out.setRow_far (g' := w5.heap.size) (by omega) #[.slice A L c, .int .i64 (q : Int), .int .i64 C])
         have W5 := Lib.hid ((Only.refl (one w5.heap.size) ((w5.alloc (.cells #[.slice none 0 0, .int .i64 0, .int .i64 0] 41)).alloc (.cells #[.string ⟨#[]⟩, .string ⟨#[]⟩, .bool false, .int .i64 0, .int .i64 0, .int .i64 0, .int .i64 0, .int .i64 0, .int .i64 0] 33))).setRow (g := w5.heap.size) (.inl (show one w5.heap.size w5.heap.size from rfl)) #[.slice A L c, .int .i64 (q : Int), .int .i64 C])
         clear n5)
      | (refine wpList_store_row rfl 33 _ _ rfl (w5.heap.size + 1) #[.string T.k, .string T.v, .bool T.d, .int .i64 T.s.c, .int .i64 T.s.s, .int .i64 T.a.c, .int .i64 T.a.s, .int .i64 T.p, .int .i64 T.g] rfl rfl 33 _ Q1.out (by kernel_rfl) rfl (by simp [Value.oneCell']) ?_
         have n5 := N5.out
         have P1 := Lib.hid (Q1.out.setRow #[.string T.k, .string T.v, .bool T.d, .int .i64 T.s.c, .int .i64 T.s.s, .int .i64 T.a.c, .int .i64 T.a.s, .int .i64 T.p, .int .i64 T.g])
         have P0 := Lib.hid (Q0.out.setRow_far (g' := w5.heap.size + 1) (by omega) #[.string T.k, .string T.v, .bool T.d, .int .i64 T.s.c, .int .i64 T.s.s, .int .i64 T.a.c, .int .i64 T.a.s, .int .i64 T.p, .int .i64 T.g])
         have V5 : Hid (Only (fun k => w5.heap.size ≤ k) ((w5.alloc (.cells #[.slice none 0 0, .int .i64 0, .int .i64 0] 41)).alloc (.cells #[.string ⟨#[]⟩, .string ⟨#[]⟩, .bool false, .int .i64 0, .int .i64 0, .int .i64 0, .int .i64 0, .int .i64 0, .int .i64 0] 33)) _) := ((W5.out.mono (T := fun k => w5.heap.size ≤ k) (fun k _ e => by have e' : k = w5.heap.size := e; show w5.heap.size ≤ k; omega)).setRow (g := w5.heap.size + 1) (.inl (show w5.heap.size ≤ w5.heap.size + 1 by omega)) #[.string T.k, .string T.v, .bool T.d, .int .i64 T.s.c, .int .i64 T.s.s, .int .i64 T.a.c, .int .i64 T.a.s, .int .i64 T.p, .int .i64 T.g])
         clear n5))
    have n5 := N5.out
    have t7 : Hid (E2 W (.slice A L c) bs D T C B #[.slice A L c, .int .i64 (q : Int), .int .i64 C] S w1.heap.size g w4.heap.size w5.heap.size (w5.heap.size + 1) ((((w5.alloc (.cells #[.slice none 0 0, .int .i64 0, .int .i64 0] 41)).alloc (.cells #[.string ⟨#[]⟩, .string ⟨#[]⟩, .bool false, .int .i64 0, .int .i64 0, .int .i64 0, .int .i64 0, .int .i64 0, .int .i64 0] 33)).setRow w5.heap.size #[.slice A L c, .int .i64 (q : Int), .int .i64 C]).setRow (w5.heap.size + 1) #[.string T.k, .string T.v, .bool T.d, .int .i64 T.s.c, .int .i64 T.s.s, .int .i64 T.a.c, .int .i64 T.a.s, .int .i64 T.p, .int .i64 T.g]).drew) := by
      have oW := O5.out.trans' V5.out (fun k hk e => by have e' : w5.heap.size ≤ k := e; omega)
      exact ⟨(X5.out.only V5.out (fun e => by have e' : w5.heap.size ≤ w1.heap.size := e; omega)).drew, (R5.out.only V5.out (fun e => by have e' : w5.heap.size ≤ g := e; omega) (fun b hb e => by have e' : w5.heap.size ≤ b := e; have := n5.2.2.2.2 b hb; omega)).only (Only.refl none_ _).drew (fun h => h) (fun _ _ h => h),
        (Z5.out.only V5.out (fun e => by have e' : w5.heap.size ≤ w4.heap.size := e; omega)).drew, P0.out.drew, P1.out.drew, HS.out.only oW.drew (fun _ _ h => h), oW.drew⟩
    clear n5 t6 t3 R3 G3 FR R4 X4 Z4 O4 M0 M1 R5 X5 Z5 O5 N5 Q0 Q1 W5 P1 P0 V5
    (refine wp_region_steady (fun w' => E2 W (.slice A L c) bs D T C B #[.slice A L c, .int .i64 (q : Int), .int .i64 C] S w1.heap.size g w4.heap.size w5.heap.size (w5.heap.size + 1) w') 28 (by kernel_rfl) (by kernel_rfl) (t7.out) ?_; simp only [List.take_succ_cons, List.take_zero, List.drop_succ_cons, List.drop_zero])
    repeat (first
      | (refine sd_value (v := ?_) (by rfl) (fun w0 hS => ?_) ?_; rotate_left; (· (skip; go_simp; try (with_reducible rfl))); try simp only [Act.put, List.setIfInBounds_toArray, List.set_cons_zero, List.set_cons_succ])
      | (refine sd_value (v := ?_) (by rfl) (fun w0 hS => ?_) ?_; rotate_left; (· (have hc := nine_of hS.z; go_simp; try (with_reducible rfl))); try simp only [Act.put, List.setIfInBounds_toArray, List.set_cons_zero, List.set_cons_succ])
      | (refine sd_value (v := ?_) (by rfl) (fun w0 hS => ?_) ?_; rotate_left; (· (have hc := nine_of hS.u; go_simp; try (with_reducible rfl))); try simp only [Act.put, List.setIfInBounds_toArray, List.set_cons_zero, List.set_cons_succ])
      | (refine sd_value (v := ?_) (by rfl) (fun w0 hS => ?_) ?_; rotate_left; (· (have hc := tri_of hS.c; go_simp; try (with_reducible rfl))); try simp only [Act.put, List.setIfInBounds_toArray, List.set_cons_zero, List.set_cons_succ])
      | (refine sd_value (v := ?_) (by rfl) (fun w0 hS => ?_) ?_; rotate_left; (· (obtain ⟨rA, rc, rb, _⟩ := hS.r; have hc := rb.cell_ (i := 0) rfl; go_simp; try (with_reducible rfl))); try simp only [Act.put, List.setIfInBounds_toArray, List.set_cons_zero, List.set_cons_succ])
      | (refine sd_skip (by rfl) ?_; try simp only [Act.put, List.setIfInBounds_toArray, List.set_cons_zero, List.set_cons_succ])
      | (refine sd_call (v := ?_) (f := 13) (args := ?_) (by rfl) (fun w0 hS => ?_) (fun w0 hS => ?_) ?_; rotate_left 2; (· (skip; go_simp; try (with_reducible rfl))); (· (refine (en_to _ _).mono ?_; rintro E w8 ⟨rfl, o8⟩; refine ⟨?_, hS.keep o8⟩; rfl)); try simp only [Act.put, List.setIfInBounds_toArray, List.set_cons_zero, List.set_cons_succ])
      | (refine sd_call (v := ?_) (f := 17) (args := ?_) (by rfl) (fun w0 hS => ?_) (fun w0 hS => ?_) ?_; rotate_left 2; (· (skip; go_simp; try (with_reducible rfl))); (· (refine (reader_err _ _ _ _ _ hS.r).mono ?_; rintro E w8 ⟨rfl, rfl⟩; refine ⟨?_, hS⟩; rfl)); try simp only [Act.put, List.setIfInBounds_toArray, List.set_cons_zero, List.set_cons_succ])
      | (refine sd_call (v := ?_) (f := 18) (args := ?_) (by rfl) (fun w0 hS => ?_) (fun w0 hS => ?_) ?_; rotate_left 2; (· (skip; go_simp; try (with_reducible rfl))); (· (refine (reader_left _ _ _ _ _ hS.r).mono ?_; rintro E w8 ⟨rfl, rfl⟩; refine ⟨?_, hS⟩; rfl)); try simp only [Act.put, List.setIfInBounds_toArray, List.set_cons_zero, List.set_cons_succ]))
    refine sd_nil ?_
    intro w7 t8'
    have t8 := Lib.hid t8'
    clear t8' EN
    go_wp2_with (first
      | (refine wpl_load rfl 27 _ rfl w1.heap.size rfl 27 #[.string D.k, .string D.v, .bool D.d, .int .i64 D.s.c, .int .i64 D.s.s, .int .i64 D.a.c, .int .i64 D.a.s, .int .i64 D.p, .int .i64 D.g] _ t8.out.x Try.underlying27 rfl (by kernel_rfl) ?_)
      | (go_at_call 19; refine (HEN.out HZ.out _).mono ?_; rintro E w10 ⟨A10, n10, c10, rfl, own10, o10⟩
         have O10 := Lib.hid (t8.out.ho.trans o10)
         have k1 := run_bytes_string w10 _ _ _ (Byt.of_own own10)
         have k2 := run_bytes_string w10 _ _ _ (t8.out.s.only o10 (fun _ _ h => h))
         clear own10 o10))
    go_ret
    exact ⟨rfl, O10.out.below (Nat.le_refl _) (fun k hk => hk.elim)⟩

  · have hzb : (z != 0) = true := by simpa using hz0
    clear hz0 HZC HEN
    by_cases hC0 : C = 0
    · have hCb : (C == 0) = true := by simpa using hC0
      clear hC0
      go_enter Try.func3, Try.ntmps3
      go_wp2_with (first
        | (go_at_call 10; refine (en_speaks _).mono ?_; rintro E w9 ⟨rfl, rfl⟩)
        | (go_at_call 11; refine (HDP.out _ (Only.refl none_ W)).mono ?_; rintro E w1 ⟨rfl, o1⟩
           have O1 := Lib.hid (o1.alloc (.cells #[.string D.k, .string D.v, .bool D.d, .int .i64 D.s.c, .int .i64 D.s.s, .int .i64 D.a.c, .int .i64 D.a.s, .int .i64 D.p, .int .i64 D.g] 27))
           have X1 := Lib.hid (Blk.new w1 27 #[.string D.k, .string D.v, .bool D.d, .int .i64 D.s.c, .int .i64 D.s.s, .int .i64 D.a.c, .int .i64 D.a.s, .int .i64 D.p, .int .i64 D.g])
           clear o1)
        | (go_at_call 12; refine (HDR.out _ O1.out).mono ?_; rintro E w2 ⟨rfl, o2⟩
           have t2 : Hid (E1 W (.slice A L c) bs D w1.heap.size w2.heap.size ((w2.alloc (.cells #[.string D.k, .string D.v, .bool D.d, .int .i64 D.s.c, .int .i64 D.s.s, .int .i64 D.a.c, .int .i64 D.a.s, .int .i64 D.p, .int .i64 D.g] 33)).drew)) :=
             ⟨(X1.out.only (o2.alloc _) (fun h => h)).drew, (Blk.new w2 _ _).drew, HS.out.only ((O1.out.trans (o2.alloc _)).drew) (fun _ _ h => h), ((O1.out.trans (o2.alloc _)).drew)⟩
           clear o2))
      (refine wp_region_steady (fun w' => E1 W (.slice A L c) bs D w1.heap.size w2.heap.size w') 9 (by kernel_rfl) (by kernel_rfl) (t2.out) ?_; simp only [List.take_succ_cons, List.take_zero, List.drop_succ_cons, List.drop_zero])
      repeat (first
        | (refine sd_value (v := ?_) (by rfl) (fun w0 hS => ?_) ?_; rotate_left; (· (skip; go_simp; try (with_reducible rfl))); try simp only [Act.put, List.setIfInBounds_toArray, List.set_cons_zero, List.set_cons_succ])
        | (refine sd_value (v := ?_) (by rfl) (fun w0 hS => ?_) ?_; rotate_left; (· (have hc := nine_of hS.x; go_simp; try (with_reducible rfl))); try simp only [Act.put, List.setIfInBounds_toArray, List.set_cons_zero, List.set_cons_succ])
        | (refine sd_value (v := ?_) (by rfl) (fun w0 hS => ?_) ?_; rotate_left; (· (have hc := nine_of hS.y; go_simp; try (with_reducible rfl))); try simp only [Act.put, List.setIfInBounds_toArray, List.set_cons_zero, List.set_cons_succ])
        | (refine sd_call (v := ?_) (f := 13) (args := ?_) (by rfl) (fun w0 hS => ?_) (fun w0 hS => ?_) ?_; rotate_left 2; (· (skip; go_simp; try (with_reducible rfl))); (· (refine (en_to _ _).mono ?_; rintro E w8 ⟨rfl, o8⟩; refine ⟨?_, hS.keep o8⟩; rfl)); try simp only [Act.put, List.setIfInBounds_toArray, List.set_cons_zero, List.set_cons_succ]))
      refine sd_nil ?_
      intro w6 t6'
      have t6 := Lib.hid t6'
      clear t6' EM t2 X1 O1
      go_wp2_with (first
        | (go_at_call 14; refine (HRD.out _ t6.out.ho).mono ?_; rintro E w3 ⟨g, S, rfl, hg, r3, hS3, o3⟩
           have R3 := Lib.hid r3
           have G3 : Hid (w6.heap.size ≤ g) := hg
           have FR := Lib.hid hS3
           have t3 := Lib.hid (t6.out.keep o3)
           clear r3 hg hS3 o3)
        | (go_at_call 15; refine (HTK.out g S w3 R3.out (fun b hb => (FR.out b hb).2)).mono ?_; rintro E w4 ⟨rfl, r4, o4⟩
           have hg1 := t6.out.x.lt
           have hg3 := G3.out
           have o34 : Only none_ w6 w6 := Only.refl _ _
           have R4 := Lib.hid (r4.only ((Only.refl none_ w4).alloc (.cells #[.string T.k, .string T.v, .bool T.d, .int .i64 T.s.c, .int .i64 T.s.s, .int .i64 T.a.c, .int .i64 T.a.s, .int .i64 T.p, .int .i64 T.g] 27)) (fun h => h) (fun _ _ h => h))
           have X4 : Hid (Blk (w4.alloc (.cells #[.string T.k, .string T.v, .bool T.d, .int .i64 T.s.c, .int .i64 T.s.s, .int .i64 T.a.c, .int .i64 T.a.s, .int .i64 T.p, .int .i64 T.g] 27)) w1.heap.size 27 #[.string D.k, .string D.v, .bool D.d, .int .i64 D.s.c, .int .i64 D.s.s, .int .i64 D.a.c, .int .i64 D.a.s, .int .i64 D.p, .int .i64 D.g]) := (t3.out.x.only o4 (fun e => by have e' : w1.heap.size = g := e; omega)).alloc _
           have LE4 : Hid (w3.heap.size ≤ w4.heap.size) := o4.size
           have Z4 := Lib.hid (Blk.new w4 27 #[.string T.k, .string T.v, .bool T.d, .int .i64 T.s.c, .int .i64 T.s.s, .int .i64 T.a.c, .int .i64 T.a.s, .int .i64 T.p, .int .i64 T.g])
           have HW : W.heap.size ≤ g := Nat.le_trans t6.out.ho.size hg3
           have O4 : Hid (Only none_ W (w4.alloc (.cells #[.string T.k, .string T.v, .bool T.d, .int .i64 T.s.c, .int .i64 T.s.s, .int .i64 T.a.c, .int .i64 T.a.s, .int .i64 T.p, .int .i64 T.g] 27))) := (t3.out.ho.trans' o4 (fun k hk e => by have e' : k = g := e; omega)).alloc _
           clear r4 o4 hg1 hg3 o34 HW)
        | (go_at_call 16; refine (HTR.out _ O4.out).mono ?_; rintro E w5 ⟨q, rfl, hq, hr, o5⟩
           have HQ : IntKind.i64.wrap ((L : Int) - (q : Int)) = (B.length : Int) := by
             have h1 := hr.2; have h2 := HLL.out; have h3 := h200
             rw [IntWalk.i64_in _ (by omega)]; omega
           have ws := ((Only.refl none_ w5).alloc (.cells #[.slice none 0 0, .int .i64 0, .int .i64 0] 41)).alloc (.cells #[.string ⟨#[]⟩, .string ⟨#[]⟩, .bool false, .int .i64 0, .int .i64 0, .int .i64 0, .int .i64 0, .int .i64 0, .int .i64 0] 33)
           have M0 : Hid (Blk ((w5.alloc (.cells #[.slice none 0 0, .int .i64 0, .int .i64 0] 41)).alloc (.cells #[.string ⟨#[]⟩, .string ⟨#[]⟩, .bool false, .int .i64 0, .int .i64 0, .int .i64 0, .int .i64 0, .int .i64 0, .int .i64 0] 33)) w5.heap.size 41 #[.slice none 0 0, .int .i64 0, .int .i64 0]) := (Blk.new w5 _ _).alloc _
           have M1 : Hid (Blk ((w5.alloc (.cells #[.slice none 0 0, .int .i64 0, .int .i64 0] 41)).alloc (.cells #[.string ⟨#[]⟩, .string ⟨#[]⟩, .bool false, .int .i64 0, .int .i64 0, .int .i64 0, .int .i64 0, .int .i64 0, .int .i64 0] 33)) (w5.heap.size + 1) 33 #[.string ⟨#[]⟩, .string ⟨#[]⟩, .bool false, .int .i64 0, .int .i64 0, .int .i64 0, .int .i64 0, .int .i64 0, .int .i64 0]) := by
             have := Blk.new (w5.alloc (.cells #[.slice none 0 0, .int .i64 0, .int .i64 0] 41)) 33 #[.string ⟨#[]⟩, .string ⟨#[]⟩, .bool false, .int .i64 0, .int .i64 0, .int .i64 0, .int .i64 0, .int .i64 0, .int .i64 0]
             rwa [World.size_alloc] at this
           have R5 := Lib.hid (R4.out.only (o5.trans ws) (fun h => h) (fun _ _ h => h))
           have X5 := Lib.hid (X4.out.only (o5.trans ws) (fun h => h))
           have Z5 := Lib.hid (Z4.out.only (o5.trans ws) (fun h => h))
           have O5 := Lib.hid (O4.out.trans (o5.trans ws))
           have N5 : Hid (g < w5.heap.size ∧ w1.heap.size < w5.heap.size ∧ w4.heap.size < w5.heap.size ∧ W.heap.size ≤ w5.heap.size ∧ ∀ b, S b → b < w5.heap.size) :=
             ⟨(R4.out.only o5 (fun h => h) (fun _ _ h => h)).lt, (X4.out.only o5 (fun h => h)).lt, (Z4.out.only o5 (fun h => h)).lt, (O4.out.trans o5).size, fun b hb => by
               have h1 := (FR.out b hb).2
               have h2 := LE4.out
               have h3 := o5.size
               rw [World.size_alloc] at h3
               omega⟩
           clear hq hr o5 ws)
        | (refine wpList_store_row rfl 41 _ _ rfl w5.heap.size #[.slice A L c, .int .i64 (q : Int), .int .i64 C] rfl rfl 41 _ M0.out (by kernel_rfl) rfl (by simp [Value.oneCell']) ?_
           have n5 := N5.out
           have Q0 := Lib.hid (M0.out.setRow #[.slice A L c, .int .i64 (q : Int), .int .i64 C])
           have Q1 := Lib.hid (M1.out.setRow_far (g' := w5.heap.size) (by omega) #[.slice A L c, .int .i64 (q : Int), .int .i64 C])
           have W5 := Lib.hid ((Only.refl (one w5.heap.size) ((w5.alloc (.cells #[.slice none 0 0, .int .i64 0, .int .i64 0] 41)).alloc (.cells #[.string ⟨#[]⟩, .string ⟨#[]⟩, .bool false, .int .i64 0, .int .i64 0, .int .i64 0, .int .i64 0, .int .i64 0, .int .i64 0] 33))).setRow (g := w5.heap.size) (.inl (show one w5.heap.size w5.heap.size from rfl)) #[.slice A L c, .int .i64 (q : Int), .int .i64 C])
           clear n5)
        | (refine wpList_store_row rfl 33 _ _ rfl (w5.heap.size + 1) #[.string T.k, .string T.v, .bool T.d, .int .i64 T.s.c, .int .i64 T.s.s, .int .i64 T.a.c, .int .i64 T.a.s, .int .i64 T.p, .int .i64 T.g] rfl rfl 33 _ Q1.out (by kernel_rfl) rfl (by simp [Value.oneCell']) ?_
           have n5 := N5.out
           have P1 := Lib.hid (Q1.out.setRow #[.string T.k, .string T.v, .bool T.d, .int .i64 T.s.c, .int .i64 T.s.s, .int .i64 T.a.c, .int .i64 T.a.s, .int .i64 T.p, .int .i64 T.g])
           have P0 := Lib.hid (Q0.out.setRow_far (g' := w5.heap.size + 1) (by omega) #[.string T.k, .string T.v, .bool T.d, .int .i64 T.s.c, .int .i64 T.s.s, .int .i64 T.a.c, .int .i64 T.a.s, .int .i64 T.p, .int .i64 T.g])
           have V5 : Hid (Only (fun k => w5.heap.size ≤ k) ((w5.alloc (.cells #[.slice none 0 0, .int .i64 0, .int .i64 0] 41)).alloc (.cells #[.string ⟨#[]⟩, .string ⟨#[]⟩, .bool false, .int .i64 0, .int .i64 0, .int .i64 0, .int .i64 0, .int .i64 0, .int .i64 0] 33)) _) := ((W5.out.mono (T := fun k => w5.heap.size ≤ k) (fun k _ e => by have e' : k = w5.heap.size := e; show w5.heap.size ≤ k; omega)).setRow (g := w5.heap.size + 1) (.inl (show w5.heap.size ≤ w5.heap.size + 1 by omega)) #[.string T.k, .string T.v, .bool T.d, .int .i64 T.s.c, .int .i64 T.s.s, .int .i64 T.a.c, .int .i64 T.a.s, .int .i64 T.p, .int .i64 T.g])
           clear n5))
      have n5 := N5.out
      have t7 : Hid (E2 W (.slice A L c) bs D T C B #[.slice A L c, .int .i64 (q : Int), .int .i64 C] S w1.heap.size g w4.heap.size w5.heap.size (w5.heap.size + 1) ((((w5.alloc (.cells #[.slice none 0 0, .int .i64 0, .int .i64 0] 41)).alloc (.cells #[.string ⟨#[]⟩, .string ⟨#[]⟩, .bool false, .int .i64 0, .int .i64 0, .int .i64 0, .int .i64 0, .int .i64 0, .int .i64 0] 33)).setRow w5.heap.size #[.slice A L c, .int .i64 (q : Int), .int .i64 C]).setRow (w5.heap.size + 1) #[.string T.k, .string T.v, .bool T.d, .int .i64 T.s.c, .int .i64 T.s.s, .int .i64 T.a.c, .int .i64 T.a.s, .int .i64 T.p, .int .i64 T.g]).drew) := by
        have oW := O5.out.trans' V5.out (fun k hk e => by have e' : w5.heap.size ≤ k := e; omega)
        exact ⟨(X5.out.only V5.out (fun e => by have e' : w5.heap.size ≤ w1.heap.size := e; omega)).drew, (R5.out.only V5.out (fun e => by have e' : w5.heap.size ≤ g := e; omega) (fun b hb e => by have e' : w5.heap.size ≤ b := e; have := n5.2.2.2.2 b hb; omega)).only (Only.refl none_ _).drew (fun h => h) (fun _ _ h => h),
          (Z5.out.only V5.out (fun e => by have e' : w5.heap.size ≤ w4.heap.size := e; omega)).drew, P0.out.drew, P1.out.drew, HS.out.only oW.drew (fun _ _ h => h), oW.drew⟩
      clear n5 t6 t3 R3 G3 FR R4 X4 Z4 O4 M0 M1 R5 X5 Z5 O5 N5 Q0 Q1 W5 P1 P0 V5
      (refine wp_region_steady (fun w' => E2 W (.slice A L c) bs D T C B #[.slice A L c, .int .i64 (q : Int), .int .i64 C] S w1.heap.size g w4.heap.size w5.heap.size (w5.heap.size + 1) w') 28 (by kernel_rfl) (by kernel_rfl) (t7.out) ?_; simp only [List.take_succ_cons, List.take_zero, List.drop_succ_cons, List.drop_zero])
      repeat (first
        | (refine sd_value (v := ?_) (by rfl) (fun w0 hS => ?_) ?_; rotate_left; (· (skip; go_simp; try (with_reducible rfl))); try simp only [Act.put, List.setIfInBounds_toArray, List.set_cons_zero, List.set_cons_succ])
        | (refine sd_value (v := ?_) (by rfl) (fun w0 hS => ?_) ?_; rotate_left; (· (have hc := nine_of hS.z; go_simp; try (with_reducible rfl))); try simp only [Act.put, List.setIfInBounds_toArray, List.set_cons_zero, List.set_cons_succ])
        | (refine sd_value (v := ?_) (by rfl) (fun w0 hS => ?_) ?_; rotate_left; (· (have hc := nine_of hS.u; go_simp; try (with_reducible rfl))); try simp only [Act.put, List.setIfInBounds_toArray, List.set_cons_zero, List.set_cons_succ])
        | (refine sd_value (v := ?_) (by rfl) (fun w0 hS => ?_) ?_; rotate_left; (· (have hc := tri_of hS.c; go_simp; try (with_reducible rfl))); try simp only [Act.put, List.setIfInBounds_toArray, List.set_cons_zero, List.set_cons_succ])
        | (refine sd_value (v := ?_) (by rfl) (fun w0 hS => ?_) ?_; rotate_left; (· (obtain ⟨rA, rc, rb, _⟩ := hS.r; have hc := rb.cell_ (i := 0) rfl; go_simp; try (with_reducible rfl))); try simp only [Act.put, List.setIfInBounds_toArray, List.set_cons_zero, List.set_cons_succ])
        | (refine sd_skip (by rfl) ?_; try simp only [Act.put, List.setIfInBounds_toArray, List.set_cons_zero, List.set_cons_succ])
        | (refine sd_call (v := ?_) (f := 13) (args := ?_) (by rfl) (fun w0 hS => ?_) (fun w0 hS => ?_) ?_; rotate_left 2; (· (skip; go_simp; try (with_reducible rfl))); (· (refine (en_to _ _).mono ?_; rintro E w8 ⟨rfl, o8⟩; refine ⟨?_, hS.keep o8⟩; rfl)); try simp only [Act.put, List.setIfInBounds_toArray, List.set_cons_zero, List.set_cons_succ])
        | (refine sd_call (v := ?_) (f := 17) (args := ?_) (by rfl) (fun w0 hS => ?_) (fun w0 hS => ?_) ?_; rotate_left 2; (· (skip; go_simp; try (with_reducible rfl))); (· (refine (reader_err _ _ _ _ _ hS.r).mono ?_; rintro E w8 ⟨rfl, rfl⟩; refine ⟨?_, hS⟩; rfl)); try simp only [Act.put, List.setIfInBounds_toArray, List.set_cons_zero, List.set_cons_succ])
        | (refine sd_call (v := ?_) (f := 18) (args := ?_) (by rfl) (fun w0 hS => ?_) (fun w0 hS => ?_) ?_; rotate_left 2; (· (skip; go_simp; try (with_reducible rfl))); (· (refine (reader_left _ _ _ _ _ hS.r).mono ?_; rintro E w8 ⟨rfl, rfl⟩; refine ⟨?_, hS⟩; rfl)); try simp only [Act.put, List.setIfInBounds_toArray, List.set_cons_zero, List.set_cons_succ]))
      refine sd_nil ?_
      intro w7 t8'
      have t8 := Lib.hid t8'
      clear t8' EN
      go_wp2_with fail
      go_ret
      exact ⟨rfl, t8.out.ho.below (Nat.le_refl _) (fun k hk => hk.elim)⟩

    · have hCb : (C == 0) = false := by simpa using hC0
      clear hC0
      go_enter Try.func3, Try.ntmps3
      go_wp2_with (first
        | (go_at_call 10; refine (en_speaks _).mono ?_; rintro E w9 ⟨rfl, rfl⟩)
        | (go_at_call 11; refine (HDP.out _ (Only.refl none_ W)).mono ?_; rintro E w1 ⟨rfl, o1⟩
           have O1 := Lib.hid (o1.alloc (.cells #[.string D.k, .string D.v, .bool D.d, .int .i64 D.s.c, .int .i64 D.s.s, .int .i64 D.a.c, .int .i64 D.a.s, .int .i64 D.p, .int .i64 D.g] 27))
           have X1 := Lib.hid (Blk.new w1 27 #[.string D.k, .string D.v, .bool D.d, .int .i64 D.s.c, .int .i64 D.s.s, .int .i64 D.a.c, .int .i64 D.a.s, .int .i64 D.p, .int .i64 D.g])
           clear o1)
        | (go_at_call 12; refine (HDR.out _ O1.out).mono ?_; rintro E w2 ⟨rfl, o2⟩
           have t2 : Hid (E1 W (.slice A L c) bs D w1.heap.size w2.heap.size ((w2.alloc (.cells #[.string D.k, .string D.v, .bool D.d, .int .i64 D.s.c, .int .i64 D.s.s, .int .i64 D.a.c, .int .i64 D.a.s, .int .i64 D.p, .int .i64 D.g] 33)).drew)) :=
             ⟨(X1.out.only (o2.alloc _) (fun h => h)).drew, (Blk.new w2 _ _).drew, HS.out.only ((O1.out.trans (o2.alloc _)).drew) (fun _ _ h => h), ((O1.out.trans (o2.alloc _)).drew)⟩
           clear o2))
      (refine wp_region_steady (fun w' => E1 W (.slice A L c) bs D w1.heap.size w2.heap.size w') 9 (by kernel_rfl) (by kernel_rfl) (t2.out) ?_; simp only [List.take_succ_cons, List.take_zero, List.drop_succ_cons, List.drop_zero])
      repeat (first
        | (refine sd_value (v := ?_) (by rfl) (fun w0 hS => ?_) ?_; rotate_left; (· (skip; go_simp; try (with_reducible rfl))); try simp only [Act.put, List.setIfInBounds_toArray, List.set_cons_zero, List.set_cons_succ])
        | (refine sd_value (v := ?_) (by rfl) (fun w0 hS => ?_) ?_; rotate_left; (· (have hc := nine_of hS.x; go_simp; try (with_reducible rfl))); try simp only [Act.put, List.setIfInBounds_toArray, List.set_cons_zero, List.set_cons_succ])
        | (refine sd_value (v := ?_) (by rfl) (fun w0 hS => ?_) ?_; rotate_left; (· (have hc := nine_of hS.y; go_simp; try (with_reducible rfl))); try simp only [Act.put, List.setIfInBounds_toArray, List.set_cons_zero, List.set_cons_succ])
        | (refine sd_call (v := ?_) (f := 13) (args := ?_) (by rfl) (fun w0 hS => ?_) (fun w0 hS => ?_) ?_; rotate_left 2; (· (skip; go_simp; try (with_reducible rfl))); (· (refine (en_to _ _).mono ?_; rintro E w8 ⟨rfl, o8⟩; refine ⟨?_, hS.keep o8⟩; rfl)); try simp only [Act.put, List.setIfInBounds_toArray, List.set_cons_zero, List.set_cons_succ]))
      refine sd_nil ?_
      intro w6 t6'
      have t6 := Lib.hid t6'
      clear t6' EM t2 X1 O1
      go_wp2_with (first
        | (go_at_call 14; refine (HRD.out _ t6.out.ho).mono ?_; rintro E w3 ⟨g, S, rfl, hg, r3, hS3, o3⟩
           have R3 := Lib.hid r3
           have G3 : Hid (w6.heap.size ≤ g) := hg
           have FR := Lib.hid hS3
           have t3 := Lib.hid (t6.out.keep o3)
           clear r3 hg hS3 o3)
        | (go_at_call 15; refine (HTK.out g S w3 R3.out (fun b hb => (FR.out b hb).2)).mono ?_; rintro E w4 ⟨rfl, r4, o4⟩
           have hg1 := t6.out.x.lt
           have hg3 := G3.out
           have o34 : Only none_ w6 w6 := Only.refl _ _
           have R4 := Lib.hid (r4.only ((Only.refl none_ w4).alloc (.cells #[.string T.k, .string T.v, .bool T.d, .int .i64 T.s.c, .int .i64 T.s.s, .int .i64 T.a.c, .int .i64 T.a.s, .int .i64 T.p, .int .i64 T.g] 27)) (fun h => h) (fun _ _ h => h))
           have X4 : Hid (Blk (w4.alloc (.cells #[.string T.k, .string T.v, .bool T.d, .int .i64 T.s.c, .int .i64 T.s.s, .int .i64 T.a.c, .int .i64 T.a.s, .int .i64 T.p, .int .i64 T.g] 27)) w1.heap.size 27 #[.string D.k, .string D.v, .bool D.d, .int .i64 D.s.c, .int .i64 D.s.s, .int .i64 D.a.c, .int .i64 D.a.s, .int .i64 D.p, .int .i64 D.g]) := (t3.out.x.only o4 (fun e => by have e' : w1.heap.size = g := e; omega)).alloc _
           have LE4 : Hid (w3.heap.size ≤ w4.heap.size) := o4.size
           have Z4 := Lib.hid (Blk.new w4 27 #[.string T.k, .string T.v, .bool T.d, .int .i64 T.s.c, .int .i64 T.s.s, .int .i64 T.a.c, .int .i64 T.a.s, .int .i64 T.p, .int .i64 T.g])
           have HW : W.heap.size ≤ g := Nat.le_trans t6.out.ho.size hg3
           have O4 : Hid (Only none_ W (w4.alloc (.cells #[.string T.k, .string T.v, .bool T.d, .int .i64 T.s.c, .int .i64 T.s.s, .int .i64 T.a.c, .int .i64 T.a.s, .int .i64 T.p, .int .i64 T.g] 27))) := (t3.out.ho.trans' o4 (fun k hk e => by have e' : k = g := e; omega)).alloc _
           clear r4 o4 hg1 hg3 o34 HW)
        | (go_at_call 16; refine (HTR.out _ O4.out).mono ?_; rintro E w5 ⟨q, rfl, hq, hr, o5⟩
           have HQ : IntKind.i64.wrap ((L : Int) - (q : Int)) = (B.length : Int) := by
             have h1 := hr.2; have h2 := HLL.out; have h3 := h200
             rw [IntWalk.i64_in _ (by omega)]; omega
           have ws := ((Only.refl none_ w5).alloc (.cells #[.slice none 0 0, .int .i64 0, .int .i64 0] 41)).alloc (.cells #[.string ⟨#[]⟩, .string ⟨#[]⟩, .bool false, .int .i64 0, .int .i64 0, .int .i64 0, .int .i64 0, .int .i64 0, .int .i64 0] 33)
           have M0 : Hid (Blk ((w5.alloc (.cells #[.slice none 0 0, .int .i64 0, .int .i64 0] 41)).alloc (.cells #[.string ⟨#[]⟩, .string ⟨#[]⟩, .bool false, .int .i64 0, .int .i64 0, .int .i64 0, .int .i64 0, .int .i64 0, .int .i64 0] 33)) w5.heap.size 41 #[.slice none 0 0, .int .i64 0, .int .i64 0]) := (Blk.new w5 _ _).alloc _
           have M1 : Hid (Blk ((w5.alloc (.cells #[.slice none 0 0, .int .i64 0, .int .i64 0] 41)).alloc (.cells #[.string ⟨#[]⟩, .string ⟨#[]⟩, .bool false, .int .i64 0, .int .i64 0, .int .i64 0, .int .i64 0, .int .i64 0, .int .i64 0] 33)) (w5.heap.size + 1) 33 #[.string ⟨#[]⟩, .string ⟨#[]⟩, .bool false, .int .i64 0, .int .i64 0, .int .i64 0, .int .i64 0, .int .i64 0, .int .i64 0]) := by
             have := Blk.new (w5.alloc (.cells #[.slice none 0 0, .int .i64 0, .int .i64 0] 41)) 33 #[.string ⟨#[]⟩, .string ⟨#[]⟩, .bool false, .int .i64 0, .int .i64 0, .int .i64 0, .int .i64 0, .int .i64 0, .int .i64 0]
             rwa [World.size_alloc] at this
           have R5 := Lib.hid (R4.out.only (o5.trans ws) (fun h => h) (fun _ _ h => h))
           have X5 := Lib.hid (X4.out.only (o5.trans ws) (fun h => h))
           have Z5 := Lib.hid (Z4.out.only (o5.trans ws) (fun h => h))
           have O5 := Lib.hid (O4.out.trans (o5.trans ws))
           have N5 : Hid (g < w5.heap.size ∧ w1.heap.size < w5.heap.size ∧ w4.heap.size < w5.heap.size ∧ W.heap.size ≤ w5.heap.size ∧ ∀ b, S b → b < w5.heap.size) :=
             ⟨(R4.out.only o5 (fun h => h) (fun _ _ h => h)).lt, (X4.out.only o5 (fun h => h)).lt, (Z4.out.only o5 (fun h => h)).lt, (O4.out.trans o5).size, fun b hb => by
               have h1 := (FR.out b hb).2
               have h2 := LE4.out
               have h3 := o5.size
               rw [World.size_alloc] at h3
               omega⟩
           clear hq hr o5 ws)
        | (refine wpList_store_row rfl 41 _ _ rfl w5.heap.size #[.slice A L c, .int .i64 (q : Int), .int .i64 C] rfl rfl 41 _ M0.out (by kernel_rfl) rfl (by simp [Value.oneCell']) ?_
           have n5 := N5.out
           have Q0 := Lib.hid (M0.out.setRow #[.slice A L c, .int .i64 (q : Int), .int .i64 C])
           have Q1 := Lib.hid (M1.out.setRow_far (g' := w5.heap.size) (by omega) #[.slice A L c, .int .i64 (q : Int), .int .i64 C])
           have W5 := Lib.hid ((Only.refl (one w5.heap.size) ((w5.alloc (.cells #[.slice none 0 0, .int .i64 0, .int .i64 0] 41)).alloc (.cells #[.string ⟨#[]⟩, .string ⟨#[]⟩, .bool false, .int .i64 0, .int .i64 0, .int .i64 0, .int .i64 0, .int .i64 0, .int .i64 0] 33))).setRow (g := w5.heap.size) (.inl (show one w5.heap.size w5.heap.size from rfl)) #[.slice A L c, .int .i64 (q : Int), .int .i64 C])
           clear n5)
        | (refine wpList_store_row rfl 33 _ _ rfl (w5.heap.size + 1) #[.string T.k, .string T.v, .bool T.d, .int .i64 T.s.c, .int .i64 T.s.s, .int .i64 T.a.c, .int .i64 T.a.s, .int .i64 T.p, .int .i64 T.g] rfl rfl 33 _ Q1.out (by kernel_rfl) rfl (by simp [Value.oneCell']) ?_
           have n5 := N5.out
           have P1 := Lib.hid (Q1.out.setRow #[.string T.k, .string T.v, .bool T.d, .int .i64 T.s.c, .int .i64 T.s.s, .int .i64 T.a.c, .int .i64 T.a.s, .int .i64 T.p, .int .i64 T.g])
           have P0 := Lib.hid (Q0.out.setRow_far (g' := w5.heap.size + 1) (by omega) #[.string T.k, .string T.v, .bool T.d, .int .i64 T.s.c, .int .i64 T.s.s, .int .i64 T.a.c, .int .i64 T.a.s, .int .i64 T.p, .int .i64 T.g])
           have V5 : Hid (Only (fun k => w5.heap.size ≤ k) ((w5.alloc (.cells #[.slice none 0 0, .int .i64 0, .int .i64 0] 41)).alloc (.cells #[.string ⟨#[]⟩, .string ⟨#[]⟩, .bool false, .int .i64 0, .int .i64 0, .int .i64 0, .int .i64 0, .int .i64 0, .int .i64 0] 33)) _) := ((W5.out.mono (T := fun k => w5.heap.size ≤ k) (fun k _ e => by have e' : k = w5.heap.size := e; show w5.heap.size ≤ k; omega)).setRow (g := w5.heap.size + 1) (.inl (show w5.heap.size ≤ w5.heap.size + 1 by omega)) #[.string T.k, .string T.v, .bool T.d, .int .i64 T.s.c, .int .i64 T.s.s, .int .i64 T.a.c, .int .i64 T.a.s, .int .i64 T.p, .int .i64 T.g])
           clear n5))
      have n5 := N5.out
      have t7 : Hid (E2 W (.slice A L c) bs D T C B #[.slice A L c, .int .i64 (q : Int), .int .i64 C] S w1.heap.size g w4.heap.size w5.heap.size (w5.heap.size + 1) ((((w5.alloc (.cells #[.slice none 0 0, .int .i64 0, .int .i64 0] 41)).alloc (.cells #[.string ⟨#[]⟩, .string ⟨#[]⟩, .bool false, .int .i64 0, .int .i64 0, .int .i64 0, .int .i64 0, .int .i64 0, .int .i64 0] 33)).setRow w5.heap.size #[.slice A L c, .int .i64 (q : Int), .int .i64 C]).setRow (w5.heap.size + 1) #[.string T.k, .string T.v, .bool T.d, .int .i64 T.s.c, .int .i64 T.s.s, .int .i64 T.a.c, .int .i64 T.a.s, .int .i64 T.p, .int .i64 T.g]).drew) := by
        have oW := O5.out.trans' V5.out (fun k hk e => by have e' : w5.heap.size ≤ k := e; omega)
        exact ⟨(X5.out.only V5.out (fun e => by have e' : w5.heap.size ≤ w1.heap.size := e; omega)).drew, (R5.out.only V5.out (fun e => by have e' : w5.heap.size ≤ g := e; omega) (fun b hb e => by have e' : w5.heap.size ≤ b := e; have := n5.2.2.2.2 b hb; omega)).only (Only.refl none_ _).drew (fun h => h) (fun _ _ h => h),
          (Z5.out.only V5.out (fun e => by have e' : w5.heap.size ≤ w4.heap.size := e; omega)).drew, P0.out.drew, P1.out.drew, HS.out.only oW.drew (fun _ _ h => h), oW.drew⟩
      clear n5 t6 t3 R3 G3 FR R4 X4 Z4 O4 M0 M1 R5 X5 Z5 O5 N5 Q0 Q1 W5 P1 P0 V5
      (refine wp_region_steady (fun w' => E2 W (.slice A L c) bs D T C B #[.slice A L c, .int .i64 (q : Int), .int .i64 C] S w1.heap.size g w4.heap.size w5.heap.size (w5.heap.size + 1) w') 28 (by kernel_rfl) (by kernel_rfl) (t7.out) ?_; simp only [List.take_succ_cons, List.take_zero, List.drop_succ_cons, List.drop_zero])
      repeat (first
        | (refine sd_value (v := ?_) (by rfl) (fun w0 hS => ?_) ?_; rotate_left; (· (skip; go_simp; try (with_reducible rfl))); try simp only [Act.put, List.setIfInBounds_toArray, List.set_cons_zero, List.set_cons_succ])
        | (refine sd_value (v := ?_) (by rfl) (fun w0 hS => ?_) ?_; rotate_left; (· (have hc := nine_of hS.z; go_simp; try (with_reducible rfl))); try simp only [Act.put, List.setIfInBounds_toArray, List.set_cons_zero, List.set_cons_succ])
        | (refine sd_value (v := ?_) (by rfl) (fun w0 hS => ?_) ?_; rotate_left; (· (have hc := nine_of hS.u; go_simp; try (with_reducible rfl))); try simp only [Act.put, List.setIfInBounds_toArray, List.set_cons_zero, List.set_cons_succ])
        | (refine sd_value (v := ?_) (by rfl) (fun w0 hS => ?_) ?_; rotate_left; (· (have hc := tri_of hS.c; go_simp; try (with_reducible rfl))); try simp only [Act.put, List.setIfInBounds_toArray, List.set_cons_zero, List.set_cons_succ])
        | (refine sd_value (v := ?_) (by rfl) (fun w0 hS => ?_) ?_; rotate_left; (· (obtain ⟨rA, rc, rb, _⟩ := hS.r; have hc := rb.cell_ (i := 0) rfl; go_simp; try (with_reducible rfl))); try simp only [Act.put, List.setIfInBounds_toArray, List.set_cons_zero, List.set_cons_succ])
        | (refine sd_skip (by rfl) ?_; try simp only [Act.put, List.setIfInBounds_toArray, List.set_cons_zero, List.set_cons_succ])
        | (refine sd_call (v := ?_) (f := 13) (args := ?_) (by rfl) (fun w0 hS => ?_) (fun w0 hS => ?_) ?_; rotate_left 2; (· (skip; go_simp; try (with_reducible rfl))); (· (refine (en_to _ _).mono ?_; rintro E w8 ⟨rfl, o8⟩; refine ⟨?_, hS.keep o8⟩; rfl)); try simp only [Act.put, List.setIfInBounds_toArray, List.set_cons_zero, List.set_cons_succ])
        | (refine sd_call (v := ?_) (f := 17) (args := ?_) (by rfl) (fun w0 hS => ?_) (fun w0 hS => ?_) ?_; rotate_left 2; (· (skip; go_simp; try (with_reducible rfl))); (· (refine (reader_err _ _ _ _ _ hS.r).mono ?_; rintro E w8 ⟨rfl, rfl⟩; refine ⟨?_, hS⟩; rfl)); try simp only [Act.put, List.setIfInBounds_toArray, List.set_cons_zero, List.set_cons_succ])
        | (refine sd_call (v := ?_) (f := 18) (args := ?_) (by rfl) (fun w0 hS => ?_) (fun w0 hS => ?_) ?_; rotate_left 2; (· (skip; go_simp; try (with_reducible rfl))); (· (refine (reader_left _ _ _ _ _ hS.r).mono ?_; rintro E w8 ⟨rfl, rfl⟩; refine ⟨?_, hS⟩; rfl)); try simp only [Act.put, List.setIfInBounds_toArray, List.set_cons_zero, List.set_cons_succ]))
      refine sd_nil ?_
      intro w7 t8'
      have t8 := Lib.hid t8'
      clear t8' EN
      go_wp2_with fail
      go_ret
      exact ⟨rfl, t8.out.ho.below (Nat.le_refl _) (fun k hk => hk.elim)⟩

end Go.Proofs.Ytdjondjlengapaa
