/- What the document's Decode of an entry does. No statement of the seat is proved here. -/
import Derived.Test.YtdjondjlengapaaEoJ
import Derived.Test.YtdjondjlengapaaEnY
namespace Go.Proofs.Ytdjondjlengapaa
open Go.RowKit
set_option maxRecDepth 100000
set_option linter.all false

set_option maxHeartbeats 3200000 in
theorem rf_decode (A : Option Addr) (c : Nat) (bs : List UInt8) (S : Nat → Prop) (w : World) (h : Byt w S (.slice A bs.length c) bs) (hS : ∀ b, S b → b < w.heap.size) (hL : bs.length ≤ 100000) :
    Calls Try.prog 12 #[.slice A bs.length c] w fun e w' => e = .returned (.tuple #[.agg #[.string (decE bs).k, .string (decE bs).v, .bool (decE bs).d, .int .i64 (decE bs).s.c, .int .i64 (decE bs).s.s, .int .i64 (decE bs).a.c, .int .i64 (decE bs).a.s, .int .i64 (decE bs).p, .int .i64 (decE bs).g], .int .i64 (decC bs)]) ∧ Only none_ w w' := by
  have HT : Hid (∀ w', Only none_ w w' → Calls Try.prog 16 #[.agg #[.slice A bs.length c, .int .i64 0, .int .i64 0]] w' fun E w'' =>
      ∃ q : Nat, E = .returned (.tuple #[.agg #[.slice A bs.length c, .int .i64 (q : Int), .int .i64 (takeC 0 bs)], .agg #[.string (takeE 0 bs).k, .string (takeE 0 bs).v, .bool (takeE 0 bs).d, .int .i64 (takeE 0 bs).s.c, .int .i64 (takeE 0 bs).s.s, .int .i64 (takeE 0 bs).a.c, .int .i64 (takeE 0 bs).a.s, .int .i64 (takeE 0 bs).p, .int .i64 (takeE 0 bs).g]]) ∧ q = bs.length - (takeB 0 bs).length ∧ Rest bs (takeB 0 bs) ∧ Only none_ w' w'') :=
    fun w' o => rf_take A c 0 bs bs 0 S w' (h.only o (fun _ _ h => h)) (fun b hb => Nat.lt_of_lt_of_le (hS b hb) o.size) ⟨by simp, Nat.le_refl _⟩ (by omega) hL
  have HD : Hid (decC bs = doneCode (takeC 0 bs) (takeB 0 bs) ∧ decE bs = (if decC bs = 0 then takeE 0 bs else enZero)) := ⟨rfl, rfl⟩
  obtain ⟨L, hLL⟩ : ∃ L, bs.length = L := ⟨_, rfl⟩
  obtain ⟨E0, hE⟩ : ∃ E, takeE 0 bs = E := ⟨_, rfl⟩
  obtain ⟨c7, h7⟩ : ∃ c, takeC 0 bs = c := ⟨_, rfl⟩
  obtain ⟨b7, hb7⟩ : ∃ c, takeB 0 bs = c := ⟨_, rfl⟩
  obtain ⟨z, hz⟩ : ∃ c, doneCode c7 b7 = c := ⟨_, rfl⟩
  rw [hE, h7, hb7, hLL] at HT
  rw [hE, h7, hb7, hz] at HD
  have KD : Hid (∀ (q : Nat) w', q = L - b7.length → Rest bs b7 → Calls Try.prog 42 #[.agg #[.slice A L c, .int .i64 (q : Int), .int .i64 c7]] w' fun E w'' =>
      E = .returned (.agg #[.slice A L c, .int .i64 (q : Int), .int .i64 z]) ∧ Only none_ w' w'') := by
    intro q w' hq hr
    have := ref_done A L c bs q c7 w' hLL.symm (by omega) (by omega)
    have e : bs.drop q = b7 := by rw [hq, ← hLL]; exact hr.1.symm
    rwa [e, hz] at this
  have R0 := Lib.hid (Blk.new w 33 #[.string ⟨#[]⟩, .string ⟨#[]⟩, .bool false, .int .i64 0, .int .i64 0, .int .i64 0, .int .i64 0, .int .i64 0, .int .i64 0])
  have O0 := Lib.hid ((Only.refl none_ w).alloc (.cells #[.string ⟨#[]⟩, .string ⟨#[]⟩, .bool false, .int .i64 0, .int .i64 0, .int .i64 0, .int .i64 0, .int .i64 0, .int .i64 0] 33))
  rw [hLL]
  clear h hS hL hLL hE h7 hb7 hz
  by_cases hz0 : z = 0
  · have HE : Hid (decC bs = z ∧ decE bs = E0) := ⟨HD.out.1, by have h1 := HD.out.2; rw [HD.out.1, if_pos hz0] at h1; exact h1⟩
    have zb : (z != 0) = false := by simpa using hz0
    have HZ := Lib.hid hz0
    clear HD hz0
    go_enter Try.func12, Try.ntmps12
    go_wp2_with (first
      | (go_at_call 16; refine (HT.out _ O0.out).mono ?_; rintro E w1 ⟨q, rfl, hq, hr, o⟩
         have PQ := Lib.hid (And.intro hq hr)
         have ws := ((Only.refl none_ w1).alloc (.cells #[.slice none 0 0, .int .i64 0, .int .i64 0] 41)).alloc (.cells #[.string ⟨#[]⟩, .string ⟨#[]⟩, .bool false, .int .i64 0, .int .i64 0, .int .i64 0, .int .i64 0, .int .i64 0, .int .i64 0] 33)
         have M0 : Hid (Blk ((w1.alloc (.cells #[.slice none 0 0, .int .i64 0, .int .i64 0] 41)).alloc (.cells #[.string ⟨#[]⟩, .string ⟨#[]⟩, .bool false, .int .i64 0, .int .i64 0, .int .i64 0, .int .i64 0, .int .i64 0, .int .i64 0] 33)) w1.heap.size 41 #[.slice none 0 0, .int .i64 0, .int .i64 0]) := (Blk.new w1 _ _).alloc _
         have M1 : Hid (Blk ((w1.alloc (.cells #[.slice none 0 0, .int .i64 0, .int .i64 0] 41)).alloc (.cells #[.string ⟨#[]⟩, .string ⟨#[]⟩, .bool false, .int .i64 0, .int .i64 0, .int .i64 0, .int .i64 0, .int .i64 0, .int .i64 0] 33)) (w1.heap.size + 1) 33 #[.string ⟨#[]⟩, .string ⟨#[]⟩, .bool false, .int .i64 0, .int .i64 0, .int .i64 0, .int .i64 0, .int .i64 0, .int .i64 0]) := by
           have := Blk.new (w1.alloc (.cells #[.slice none 0 0, .int .i64 0, .int .i64 0] 41)) 33 #[.string ⟨#[]⟩, .string ⟨#[]⟩, .bool false, .int .i64 0, .int .i64 0, .int .i64 0, .int .i64 0, .int .i64 0, .int .i64 0]
           rwa [World.size_alloc] at this
         have M2 := Lib.hid ((R0.out.only o (fun h => h)).only ws (fun h => h))
         have O1 := Lib.hid ((O0.out.trans o).trans ws)
         have N1 : Hid (w.heap.size < w1.heap.size) := (R0.out.only o (fun h => h)).lt
         clear hq hr o ws)
      | (refine wpList_store_row rfl 41 _ _ rfl w1.heap.size #[.slice A L c, .int .i64 (q : Int), .int .i64 c7] rfl rfl 41 _ M0.out (by kernel_rfl) rfl (by simp [Value.oneCell']) ?_
         have n1 := N1.out
         have U0 := Lib.hid (M0.out.setRow #[.slice A L c, .int .i64 (q : Int), .int .i64 c7])
         have U1 := Lib.hid (M1.out.setRow_far (g' := w1.heap.size) (by omega) #[.slice A L c, .int .i64 (q : Int), .int .i64 c7])
         have U2 := Lib.hid (M2.out.setRow_far (g' := w1.heap.size) (by omega) #[.slice A L c, .int .i64 (q : Int), .int .i64 c7])
         have O2 := Lib.hid (O1.out.setRow (g := w1.heap.size) (.inr (by omega)) #[.slice A L c, .int .i64 (q : Int), .int .i64 c7])
         clear M0 M1 M2 O1 n1)
      | (refine wpList_store_row rfl 33 _ _ rfl (w1.heap.size + 1) #[.string E0.k, .string E0.v, .bool E0.d, .int .i64 E0.s.c, .int .i64 E0.s.s, .int .i64 E0.a.c, .int .i64 E0.a.s, .int .i64 E0.p, .int .i64 E0.g] rfl rfl 33 _ U1.out (by kernel_rfl) rfl (by simp [Value.oneCell']) ?_
         have n1 := N1.out
         have V1 := Lib.hid (U1.out.setRow #[.string E0.k, .string E0.v, .bool E0.d, .int .i64 E0.s.c, .int .i64 E0.s.s, .int .i64 E0.a.c, .int .i64 E0.a.s, .int .i64 E0.p, .int .i64 E0.g])
         have V0 := Lib.hid (U0.out.setRow_far (g' := w1.heap.size + 1) (by omega) #[.string E0.k, .string E0.v, .bool E0.d, .int .i64 E0.s.c, .int .i64 E0.s.s, .int .i64 E0.a.c, .int .i64 E0.a.s, .int .i64 E0.p, .int .i64 E0.g])
         have V2 := Lib.hid (U2.out.setRow_far (g' := w1.heap.size + 1) (by omega) #[.string E0.k, .string E0.v, .bool E0.d, .int .i64 E0.s.c, .int .i64 E0.s.s, .int .i64 E0.a.c, .int .i64 E0.a.s, .int .i64 E0.p, .int .i64 E0.g])
         have O3 := Lib.hid (O2.out.setRow (g := w1.heap.size + 1) (.inr (by omega)) #[.string E0.k, .string E0.v, .bool E0.d, .int .i64 E0.s.c, .int .i64 E0.s.s, .int .i64 E0.a.c, .int .i64 E0.a.s, .int .i64 E0.p, .int .i64 E0.g])
         clear U0 U1 U2 O2 n1)
      | (refine wpl_load rfl 41 _ rfl w1.heap.size rfl 41 #[.slice A L c, .int .i64 (q : Int), .int .i64 c7] _ V0.out Try.underlying41 rfl (by kernel_rfl) ?_)
      | (go_at_call 42; refine (KD.out q _ PQ.out.1 PQ.out.2).mono ?_; rintro E w2 ⟨rfl, o⟩
         have X0 := Lib.hid (V0.out.only o (fun h => h))
         have X1 := Lib.hid (V1.out.only o (fun h => h))
         have X2 := Lib.hid (V2.out.only o (fun h => h))
         have O4 := Lib.hid (O3.out.trans o)
         clear V0 V1 V2 O3 o)
      | (refine wpList_store_row rfl 41 _ _ rfl w1.heap.size #[.slice A L c, .int .i64 (q : Int), .int .i64 z] rfl rfl 41 _ X0.out (by kernel_rfl) rfl (by simp [Value.oneCell']) ?_
         have n1 := N1.out
         have Y0 := Lib.hid (X0.out.setRow #[.slice A L c, .int .i64 (q : Int), .int .i64 z])
         have Y1 := Lib.hid (X1.out.setRow_far (g' := w1.heap.size) (by omega) #[.slice A L c, .int .i64 (q : Int), .int .i64 z])
         have Y2 := Lib.hid (X2.out.setRow_far (g' := w1.heap.size) (by omega) #[.slice A L c, .int .i64 (q : Int), .int .i64 z])
         have O5 := Lib.hid (O4.out.setRow (g := w1.heap.size) (.inr (by omega)) #[.slice A L c, .int .i64 (q : Int), .int .i64 z])
         have y2 := Y0.out.cell_ (i := 2) rfl
         clear X0 X1 X2 O4 n1)
      | (refine wpl_load rfl 33 _ rfl (w1.heap.size + 1) rfl 33 #[.string E0.k, .string E0.v, .bool E0.d, .int .i64 E0.s.c, .int .i64 E0.s.s, .int .i64 E0.a.c, .int .i64 E0.a.s, .int .i64 E0.p, .int .i64 E0.g] _ Y1.out Try.underlying33 rfl (by kernel_rfl) ?_)
      | (refine wpList_store_row rfl 33 _ _ rfl w.heap.size #[.string E0.k, .string E0.v, .bool E0.d, .int .i64 E0.s.c, .int .i64 E0.s.s, .int .i64 E0.a.c, .int .i64 E0.a.s, .int .i64 E0.p, .int .i64 E0.g] rfl rfl 33 _ Y2.out (by kernel_rfl) rfl (by simp [Value.oneCell']) ?_
         have Z2 := Lib.hid (Y2.out.setRow #[.string E0.k, .string E0.v, .bool E0.d, .int .i64 E0.s.c, .int .i64 E0.s.s, .int .i64 E0.a.c, .int .i64 E0.a.s, .int .i64 E0.p, .int .i64 E0.g])
         have O6 := Lib.hid (O5.out.setRow (g := w.heap.size) (.inr (Nat.le_refl _)) #[.string E0.k, .string E0.v, .bool E0.d, .int .i64 E0.s.c, .int .i64 E0.s.s, .int .i64 E0.a.c, .int .i64 E0.a.s, .int .i64 E0.p, .int .i64 E0.g])))
    refine bodyPost_ret (results_cell_tmp rfl _ _ w.heap.size 33 _ _ rfl Z2.out Try.underlying33 rfl (by kernel_rfl) (.int .i64 0) rfl) rfl ?_
    have e0 := HZ.out
    subst e0
    rw [HE.out.1, HE.out.2]
    exact ⟨rfl, O6.out⟩
  · have HE : Hid (decC bs = z ∧ decE bs = enZero) := ⟨HD.out.1, by have h1 := HD.out.2; rw [HD.out.1, if_neg hz0] at h1; exact h1⟩
    have zb : (z != 0) = true := by simpa using hz0
    clear HD hz0
    go_enter Try.func12, Try.ntmps12
    go_wp2_with (first
      | (go_at_call 16; refine (HT.out _ O0.out).mono ?_; rintro E w1 ⟨q, rfl, hq, hr, o⟩
         have PQ := Lib.hid (And.intro hq hr)
         have ws := ((Only.refl none_ w1).alloc (.cells #[.slice none 0 0, .int .i64 0, .int .i64 0] 41)).alloc (.cells #[.string ⟨#[]⟩, .string ⟨#[]⟩, .bool false, .int .i64 0, .int .i64 0, .int .i64 0, .int .i64 0, .int .i64 0, .int .i64 0] 33)
         have M0 : Hid (Blk ((w1.alloc (.cells #[.slice none 0 0, .int .i64 0, .int .i64 0] 41)).alloc (.cells #[.string ⟨#[]⟩, .string ⟨#[]⟩, .bool false, .int .i64 0, .int .i64 0, .int .i64 0, .int .i64 0, .int .i64 0, .int .i64 0] 33)) w1.heap.size 41 #[.slice none 0 0, .int .i64 0, .int .i64 0]) := (Blk.new w1 _ _).alloc _
         have M1 : Hid (Blk ((w1.alloc (.cells #[.slice none 0 0, .int .i64 0, .int .i64 0] 41)).alloc (.cells #[.string ⟨#[]⟩, .string ⟨#[]⟩, .bool false, .int .i64 0, .int .i64 0, .int .i64 0, .int .i64 0, .int .i64 0, .int .i64 0] 33)) (w1.heap.size + 1) 33 #[.string ⟨#[]⟩, .string ⟨#[]⟩, .bool false, .int .i64 0, .int .i64 0, .int .i64 0, .int .i64 0, .int .i64 0, .int .i64 0]) := by
           have := Blk.new (w1.alloc (.cells #[.slice none 0 0, .int .i64 0, .int .i64 0] 41)) 33 #[.string ⟨#[]⟩, .string ⟨#[]⟩, .bool false, .int .i64 0, .int .i64 0, .int .i64 0, .int .i64 0, .int .i64 0, .int .i64 0]
           rwa [World.size_alloc] at this
         have M2 := Lib.hid ((R0.out.only o (fun h => h)).only ws (fun h => h))
         have O1 := Lib.hid ((O0.out.trans o).trans ws)
         have N1 : Hid (w.heap.size < w1.heap.size) := (R0.out.only o (fun h => h)).lt
         clear hq hr o ws)
      | (refine wpList_store_row rfl 41 _ _ rfl w1.heap.size #[.slice A L c, .int .i64 (q : Int), .int .i64 c7] rfl rfl 41 _ M0.out (by kernel_rfl) rfl (by simp [Value.oneCell']) ?_
         have n1 := N1.out
         have U0 := Lib.hid (M0.out.setRow #[.slice A L c, .int .i64 (q : Int), .int .i64 c7])
         have U1 := Lib.hid (M1.out.setRow_far (g' := w1.heap.size) (by omega) #[.slice A L c, .int .i64 (q : Int), .int .i64 c7])
         have U2 := Lib.hid (M2.out.setRow_far (g' := w1.heap.size) (by omega) #[.slice A L c, .int .i64 (q : Int), .int .i64 c7])
         have O2 := Lib.hid (O1.out.setRow (g := w1.heap.size) (.inr (by omega)) #[.slice A L c, .int .i64 (q : Int), .int .i64 c7])
         clear M0 M1 M2 O1 n1)
      | (refine wpList_store_row rfl 33 _ _ rfl (w1.heap.size + 1) #[.string E0.k, .string E0.v, .bool E0.d, .int .i64 E0.s.c, .int .i64 E0.s.s, .int .i64 E0.a.c, .int .i64 E0.a.s, .int .i64 E0.p, .int .i64 E0.g] rfl rfl 33 _ U1.out (by kernel_rfl) rfl (by simp [Value.oneCell']) ?_
         have n1 := N1.out
         have V1 := Lib.hid (U1.out.setRow #[.string E0.k, .string E0.v, .bool E0.d, .int .i64 E0.s.c, .int .i64 E0.s.s, .int .i64 E0.a.c, .int .i64 E0.a.s, .int .i64 E0.p, .int .i64 E0.g])
         have V0 := Lib.hid (U0.out.setRow_far (g' := w1.heap.size + 1) (by omega) #[.string E0.k, .string E0.v, .bool E0.d, .int .i64 E0.s.c, .int .i64 E0.s.s, .int .i64 E0.a.c, .int .i64 E0.a.s, .int .i64 E0.p, .int .i64 E0.g])
         have V2 := Lib.hid (U2.out.setRow_far (g' := w1.heap.size + 1) (by omega) #[.string E0.k, .string E0.v, .bool E0.d, .int .i64 E0.s.c, .int .i64 E0.s.s, .int .i64 E0.a.c, .int .i64 E0.a.s, .int .i64 E0.p, .int .i64 E0.g])
         have O3 := Lib.hid (O2.out.setRow (g := w1.heap.size + 1) (.inr (by omega)) #[.string E0.k, .string E0.v, .bool E0.d, .int .i64 E0.s.c, .int .i64 E0.s.s, .int .i64 E0.a.c, .int .i64 E0.a.s, .int .i64 E0.p, .int .i64 E0.g])
         clear U0 U1 U2 O2 n1)
      | (refine wpl_load rfl 41 _ rfl w1.heap.size rfl 41 #[.slice A L c, .int .i64 (q : Int), .int .i64 c7] _ V0.out Try.underlying41 rfl (by kernel_rfl) ?_)
      | (go_at_call 42; refine (KD.out q _ PQ.out.1 PQ.out.2).mono ?_; rintro E w2 ⟨rfl, o⟩
         have X0 := Lib.hid (V0.out.only o (fun h => h))
         have X1 := Lib.hid (V1.out.only o (fun h => h))
         have X2 := Lib.hid (V2.out.only o (fun h => h))
         have O4 := Lib.hid (O3.out.trans o)
         clear V0 V1 V2 O3 o)
      | (refine wpList_store_row rfl 41 _ _ rfl w1.heap.size #[.slice A L c, .int .i64 (q : Int), .int .i64 z] rfl rfl 41 _ X0.out (by kernel_rfl) rfl (by simp [Value.oneCell']) ?_
         have n1 := N1.out
         have Y0 := Lib.hid (X0.out.setRow #[.slice A L c, .int .i64 (q : Int), .int .i64 z])
         have Y1 := Lib.hid (X1.out.setRow_far (g' := w1.heap.size) (by omega) #[.slice A L c, .int .i64 (q : Int), .int .i64 z])
         have Y2 := Lib.hid (X2.out.setRow_far (g' := w1.heap.size) (by omega) #[.slice A L c, .int .i64 (q : Int), .int .i64 z])
         have O5 := Lib.hid (O4.out.setRow (g := w1.heap.size) (.inr (by omega)) #[.slice A L c, .int .i64 (q : Int), .int .i64 z])
         have y2 := Y0.out.cell_ (i := 2) rfl
         clear X0 X1 X2 O4 n1))
    have n1 := N1.out
    have h_s : (w2.setRow w1.heap.size #[.slice A L c, .int .i64 (q : Int), .int .i64 z]).drew.cell? ⟨w1.heap.size, 2, none⟩ = some (.int .i64 z) := Y0.out.drew.cell_ (i := 2) rfl
    have F9 := fill9_blk Y2.out (.string ⟨#[]⟩) (.string ⟨#[]⟩) (.bool false) (.int .i64 0) (.int .i64 0) (.int .i64 0) (.int .i64 0) (.int .i64 0) (.int .i64 0)
    have G9 := fill9_far (h := w.heap.size) Y0.out (by omega) (.string ⟨#[]⟩) (.string ⟨#[]⟩) (.bool false) (.int .i64 0) (.int .i64 0) (.int .i64 0) (.int .i64 0) (.int .i64 0) (.int .i64 0)
    have OO := fill9_only (h := w.heap.size) O5.out (.inr (Nat.le_refl _)) (.string ⟨#[]⟩) (.string ⟨#[]⟩) (.bool false) (.int .i64 0) (.int .i64 0) (.int .i64 0) (.int .i64 0) (.int .i64 0) (.int .i64 0)
    have h_t : (fill9 (w2.setRow w1.heap.size #[.slice A L c, .int .i64 (q : Int), .int .i64 z]) w.heap.size (.string ⟨#[]⟩) (.string ⟨#[]⟩) (.bool false) (.int .i64 0) (.int .i64 0) (.int .i64 0) (.int .i64 0) (.int .i64 0) (.int .i64 0)).drew.cell? ⟨w1.heap.size, 2, none⟩ = some (.int .i64 z) := G9.drew.cell_ (i := 2) rfl
    have h_d0 := (Y2.out).drew.cell_ (i := 0) rfl
    have h_y0 := (Y2.out).drew.frozen 0
    have h_d1 := ((Y2.out).set_ 0 (.string ⟨#[]⟩)).drew.cell_ (i := 1) rfl
    have h_y1 := ((Y2.out).set_ 0 (.string ⟨#[]⟩)).drew.frozen 1
    have h_d2 := (((Y2.out).set_ 0 (.string ⟨#[]⟩)).set_ 1 (.string ⟨#[]⟩)).drew.cell_ (i := 2) rfl
    have h_y2 := (((Y2.out).set_ 0 (.string ⟨#[]⟩)).set_ 1 (.string ⟨#[]⟩)).drew.frozen 2
    have h_d3 := ((((Y2.out).set_ 0 (.string ⟨#[]⟩)).set_ 1 (.string ⟨#[]⟩)).set_ 2 (.bool false)).drew.cell_ (i := 3) rfl
    have h_y3 := ((((Y2.out).set_ 0 (.string ⟨#[]⟩)).set_ 1 (.string ⟨#[]⟩)).set_ 2 (.bool false)).drew.frozen 3
    have h_d4 := (((((Y2.out).set_ 0 (.string ⟨#[]⟩)).set_ 1 (.string ⟨#[]⟩)).set_ 2 (.bool false)).set_ 3 (.int .i64 0)).drew.cell_ (i := 4) rfl
    have h_y4 := (((((Y2.out).set_ 0 (.string ⟨#[]⟩)).set_ 1 (.string ⟨#[]⟩)).set_ 2 (.bool false)).set_ 3 (.int .i64 0)).drew.frozen 4
    have h_d5 := ((((((Y2.out).set_ 0 (.string ⟨#[]⟩)).set_ 1 (.string ⟨#[]⟩)).set_ 2 (.bool false)).set_ 3 (.int .i64 0)).set_ 4 (.int .i64 0)).drew.cell_ (i := 5) rfl
    have h_y5 := ((((((Y2.out).set_ 0 (.string ⟨#[]⟩)).set_ 1 (.string ⟨#[]⟩)).set_ 2 (.bool false)).set_ 3 (.int .i64 0)).set_ 4 (.int .i64 0)).drew.frozen 5
    have h_d6 := (((((((Y2.out).set_ 0 (.string ⟨#[]⟩)).set_ 1 (.string ⟨#[]⟩)).set_ 2 (.bool false)).set_ 3 (.int .i64 0)).set_ 4 (.int .i64 0)).set_ 5 (.int .i64 0)).drew.cell_ (i := 6) rfl
    have h_y6 := (((((((Y2.out).set_ 0 (.string ⟨#[]⟩)).set_ 1 (.string ⟨#[]⟩)).set_ 2 (.bool false)).set_ 3 (.int .i64 0)).set_ 4 (.int .i64 0)).set_ 5 (.int .i64 0)).drew.frozen 6
    have h_d7 := ((((((((Y2.out).set_ 0 (.string ⟨#[]⟩)).set_ 1 (.string ⟨#[]⟩)).set_ 2 (.bool false)).set_ 3 (.int .i64 0)).set_ 4 (.int .i64 0)).set_ 5 (.int .i64 0)).set_ 6 (.int .i64 0)).drew.cell_ (i := 7) rfl
    have h_y7 := ((((((((Y2.out).set_ 0 (.string ⟨#[]⟩)).set_ 1 (.string ⟨#[]⟩)).set_ 2 (.bool false)).set_ 3 (.int .i64 0)).set_ 4 (.int .i64 0)).set_ 5 (.int .i64 0)).set_ 6 (.int .i64 0)).drew.frozen 7
    have h_d8 := (((((((((Y2.out).set_ 0 (.string ⟨#[]⟩)).set_ 1 (.string ⟨#[]⟩)).set_ 2 (.bool false)).set_ 3 (.int .i64 0)).set_ 4 (.int .i64 0)).set_ 5 (.int .i64 0)).set_ 6 (.int .i64 0)).set_ 7 (.int .i64 0)).drew.cell_ (i := 8) rfl
    have h_y8 := (((((((((Y2.out).set_ 0 (.string ⟨#[]⟩)).set_ 1 (.string ⟨#[]⟩)).set_ 2 (.bool false)).set_ 3 (.int .i64 0)).set_ 4 (.int .i64 0)).set_ 5 (.int .i64 0)).set_ 6 (.int .i64 0)).set_ 7 (.int .i64 0)).drew.frozen 8
    have GG := Lib.hid (And.intro F9 OO)
    clear F9 G9 OO n1 y2
    generalize w2.setRow w1.heap.size #[.slice A L c, .int .i64 (q : Int), .int .i64 z] = v at *
    go_region_held3 (fun w' => w'.cell? ⟨w1.heap.size, 2, none⟩ = some (.int .i64 z))
      (first | with_reducible exact h_s | with_reducible exact h_t)
      (first | fail)
    go_wp2_with fail
    refine bodyPost_ret (results_cell_tmp rfl _ _ w.heap.size 33 _ _ rfl GG.out.1.drew Try.underlying33 rfl (by kernel_rfl) (.int .i64 z) rfl) rfl ?_
    rw [HE.out.1, HE.out.2]
    exact ⟨rfl, GG.out.2.drew⟩
end Go.Proofs.Ytdjondjlengapaa
