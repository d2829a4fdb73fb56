/- Texts of mine, one behind the other: EnX, EnY, EoE, RpW, JnU, JoE, JnT, JnW, JnXo, RpX. No statement of the seat is proved here. -/
import Derived.Test.YtoohpcomnhfgpaaGreatHs16
import Derived.Test.YtoohpcomnhfgpaaGreatHs2
import Derived.Test.YtoohpcomnhfgpaaGreatHs3
import Derived.Test.YtoohpcomnhfgpaaGreatHs9
import Derived.Test.YtoohpcomnhfgpaaGreatHs10
import Derived.Test.YtoohpcomnhfgpaaGreatHs4
import Derived.Lib.AppendZeros
import Derived.Test.YtoohpcomnhfgpaaGreatHs11
import Derived.LoopTactic
section
namespace Go.Proofs.YtoohpcomnhfgpaaGreat
open Go.RowKit
set_option linter.all false
set_option maxRecDepth 100000
def takeC (code : Int) (bs : List UInt8) : Int := if enCheck (fieldsF code bs).en = 0 then (fieldsF code bs).a7.1 else first_ (fieldsF code bs).a7.1 4
def takeB (code : Int) (bs : List UInt8) : List UInt8 := (fieldsF code bs).a7.2.1
def takeE (code : Int) (bs : List UInt8) : En := if takeC code bs = 0 then (fieldsF code bs).en else enZero
theorem first_four (c : Int) : first_ c 4 ≠ 0 := by unfold first_; split <;> simp_all
set_option maxHeartbeats 1600000 in
theorem take_any (g : Nat) (S : Nat → Prop) (code : Int) (bs : List UInt8) (w : World) (hr : Rd w g S code bs) (fr : ∀ b, S b → b < w.heap.size) (hm : bs.length ≤ 140737488355328) :
    Calls Tryz.prog 175 #[.pointer (some ⟨g, 0, none⟩)] w fun e w' =>
      e = .returned (.agg #[.string (takeE code bs).k, .string (takeE code bs).v, .bool (takeE code bs).d, .int .i64 (takeE code bs).s.c, .int .i64 (takeE code bs).s.s, .int .i64 (takeE code bs).a.c, .int .i64 (takeE code bs).a.s, .int .i64 (takeE code bs).p, .int .i64 (takeE code bs).g]) ∧ Rd w' g S (takeC code bs) (takeB code bs) ∧ Only (one g) w w' := by
  have hg := hr.lt
  have R0 := Lib.hid (Blk.new w 82 #[.string ⟨#[]⟩, .string ⟨#[]⟩, .bool false, .int .i64 0, .int .i64 0, .int .i64 0, .int .i64 0, .int .i64 0, .int .i64 0])
  have o0 := (Only.refl none_ w).alloc (.cells #[.string ⟨#[]⟩, .string ⟨#[]⟩, .bool false, .int .i64 0, .int .i64 0, .int .i64 0, .int .i64 0, .int .i64 0, .int .i64 0] 82)
  have C := take_fields g S code bs (w.alloc (.cells #[.string ⟨#[]⟩, .string ⟨#[]⟩, .bool false, .int .i64 0, .int .i64 0, .int .i64 0, .int .i64 0, .int .i64 0, .int .i64 0] 82)) (hr.only o0 (fun h => h) (fun _ _ h => h)) (fun b hb => Nat.lt_of_lt_of_le (fr b hb) o0.size) hm
  have HD : Hid (takeC code bs = (if enCheck (fieldsF code bs).en = 0 then (fieldsF code bs).a7.1 else first_ (fieldsF code bs).a7.1 4) ∧ takeB code bs = (fieldsF code bs).a7.2.1 ∧ takeE code bs = (if takeC code bs = 0 then (fieldsF code bs).en else enZero)) := ⟨rfl, rfl, rfl⟩
  obtain ⟨f, hf⟩ : ∃ f, fieldsF code bs = f := ⟨_, rfl⟩
  rw [hf] at C HD
  obtain ⟨E, hE⟩ : ∃ E, f.en = E := ⟨_, rfl⟩
  obtain ⟨c7, h7⟩ : ∃ c, f.a7.1 = c := ⟨_, rfl⟩
  obtain ⟨b7, hb7⟩ : ∃ c, f.a7.2.1 = c := ⟨_, rfl⟩
  rw [hE, h7, hb7] at C HD
  obtain ⟨z, hz⟩ : ∃ z, enCheck E = z := ⟨_, rfl⟩
  rw [hz] at HD
  have HZ := Lib.hid hz
  have HG := Lib.hid hg
  have HC := Lib.hid C
  have FR := Lib.hid fr
  have O0 := Lib.hid (o0.of_none (S := one g))
  have ne0 : Hid (∀ k, k = w.heap.size → ¬ one g k) := fun k e e' => by have e'' : k = g := e'; omega
  clear hr fr hm hf hE h7 hb7 hz C hg o0
  by_cases hz0 : z = 0
  · subst hz0
    obtain ⟨hc1, hc2, hc3⟩ := HD.out
    rw [if_pos rfl] at hc1
    rw [hc1] at hc3
    by_cases h0 : c7 = 0
    · subst h0
      rw [if_pos rfl] at hc3
      have HE : Hid (takeC code bs = 0 ∧ takeB code bs = b7 ∧ takeE code bs = E) := ⟨hc1, hc2, hc3⟩
      clear hc1 hc2 hc3 HD
      go_enter Tryz.func175, Tryz.ntmps175
      go_wp2_with (first
        | (go_at_call 219; refine HC.out.mono ?_; rintro e w1 ⟨rfl, r1, o1⟩
           have R1 := Lib.hid (R0.out.only o1 (ne0.out _ rfl))
           have O1 := Lib.hid (O0.out.trans o1)
           have D1 := Lib.hid (r1.only ((Only.refl none_ w1).alloc (.cells #[.string E.k, .string E.v, .bool E.d, .int .i64 E.s.c, .int .i64 E.s.s, .int .i64 E.a.c, .int .i64 E.a.s, .int .i64 E.p, .int .i64 E.g] 82)) (fun h => h) (fun _ _ h => h))
           have B1 := Lib.hid (Blk.new w1 82 #[.string E.k, .string E.v, .bool E.d, .int .i64 E.s.c, .int .i64 E.s.s, .int .i64 E.a.c, .int .i64 E.a.s, .int .i64 E.p, .int .i64 E.g])
           have G1 : Hid (w1.heap.size ≠ g) := by have := HG.out; have := o1.size; rw [World.size_alloc] at this; simp only [Hid]; omega
           clear r1 o1)
        | (refine wpl_load rfl 82 _ rfl w1.heap.size rfl 82 #[.string E.k, .string E.v, .bool E.d, .int .i64 E.s.c, .int .i64 E.s.s, .int .i64 E.a.c, .int .i64 E.a.s, .int .i64 E.p, .int .i64 E.g] _ B1.out Tryz.underlying82 rfl (by kernel_rfl) ?_)
        | (go_at_call 83; refine (en_check E _).mono ?_; rw [HZ.out]; rintro e w2 ⟨rfl, o2⟩
           have oo := ((Only.refl none_ w1).alloc (.cells #[.string E.k, .string E.v, .bool E.d, .int .i64 E.s.c, .int .i64 E.s.s, .int .i64 E.a.c, .int .i64 E.a.s, .int .i64 E.p, .int .i64 E.g] 82)).trans o2
           have R2 := Lib.hid (R1.out.only oo (fun h => h))
           have O2 := Lib.hid (O1.out.trans oo.of_none)
           have D2 := Lib.hid (D1.out.only o2 (fun h => h) (fun _ _ h => h))
           have B2 := Lib.hid (B1.out.only o2 (fun h => h))
           clear oo o2)
        | (go_at_call 221; refine (reader_err g S _ _ _ D2.out).mono ?_; rintro e w4 ⟨rfl, rfl⟩)
        | (refine wpl_load rfl 82 _ rfl w1.heap.size rfl 82 #[.string E.k, .string E.v, .bool E.d, .int .i64 E.s.c, .int .i64 E.s.s, .int .i64 E.a.c, .int .i64 E.a.s, .int .i64 E.p, .int .i64 E.g] _ B2.out Tryz.underlying82 rfl (by kernel_rfl) ?_)
        | (refine wpList_store_row rfl 82 _ _ rfl w.heap.size #[.string E.k, .string E.v, .bool E.d, .int .i64 E.s.c, .int .i64 E.s.s, .int .i64 E.a.c, .int .i64 E.a.s, .int .i64 E.p, .int .i64 E.g] rfl rfl 82 _ R2.out (by kernel_rfl) rfl (by simp [Value.oneCell']) ?_
           have R5 := Lib.hid (R2.out.setRow #[.string E.k, .string E.v, .bool E.d, .int .i64 E.s.c, .int .i64 E.s.s, .int .i64 E.a.c, .int .i64 E.a.s, .int .i64 E.p, .int .i64 E.g])
           have W5 := Lib.hid ((Only.refl (one w.heap.size) w2).setRow (g := w.heap.size) (.inl (show one w.heap.size w.heap.size from rfl)) #[.string E.k, .string E.v, .bool E.d, .int .i64 E.s.c, .int .i64 E.s.s, .int .i64 E.a.c, .int .i64 E.a.s, .int .i64 E.p, .int .i64 E.g])
           have O5 := Lib.hid (O2.out.setRow (g := w.heap.size) (.inr (Nat.le_refl _)) #[.string E.k, .string E.v, .bool E.d, .int .i64 E.s.c, .int .i64 E.s.s, .int .i64 E.a.c, .int .i64 E.a.s, .int .i64 E.p, .int .i64 E.g])))
      refine bodyPost_ret (results_cell_row rfl _ _ w.heap.size 82 _ (0, 0) _ rfl R5.out Tryz.underlying82 rfl (by kernel_rfl)) rfl ?_
      have rF := D2.out.only W5.out (fun e => by have e' : g = w.heap.size := e; have := HG.out; omega) (fun b hb e => by have e' : b = w.heap.size := e; have := FR.out b hb; omega)
      rw [HE.out.1, HE.out.2.1, HE.out.2.2]
      exact ⟨rfl, rF, O5.out⟩
    · rw [if_neg h0] at hc3
      have HE : Hid (takeC code bs = c7 ∧ takeB code bs = b7 ∧ takeE code bs = enZero) := ⟨hc1, hc2, hc3⟩
      clear hc1 hc2 hc3 HD
      go_enter Tryz.func175, Tryz.ntmps175
      go_wp2_with (first
        | (go_at_call 219; refine HC.out.mono ?_; rintro e w1 ⟨rfl, r1, o1⟩
           have R1 := Lib.hid (R0.out.only o1 (ne0.out _ rfl))
           have O1 := Lib.hid (O0.out.trans o1)
           have D1 := Lib.hid (r1.only ((Only.refl none_ w1).alloc (.cells #[.string E.k, .string E.v, .bool E.d, .int .i64 E.s.c, .int .i64 E.s.s, .int .i64 E.a.c, .int .i64 E.a.s, .int .i64 E.p, .int .i64 E.g] 82)) (fun h => h) (fun _ _ h => h))
           have B1 := Lib.hid (Blk.new w1 82 #[.string E.k, .string E.v, .bool E.d, .int .i64 E.s.c, .int .i64 E.s.s, .int .i64 E.a.c, .int .i64 E.a.s, .int .i64 E.p, .int .i64 E.g])
           have G1 : Hid (w1.heap.size ≠ g) := by have := HG.out; have := o1.size; rw [World.size_alloc] at this; simp only [Hid]; omega
           clear r1 o1)
        | (refine wpl_load rfl 82 _ rfl w1.heap.size rfl 82 #[.string E.k, .string E.v, .bool E.d, .int .i64 E.s.c, .int .i64 E.s.s, .int .i64 E.a.c, .int .i64 E.a.s, .int .i64 E.p, .int .i64 E.g] _ B1.out Tryz.underlying82 rfl (by kernel_rfl) ?_)
        | (go_at_call 83; refine (en_check E _).mono ?_; rw [HZ.out]; rintro e w2 ⟨rfl, o2⟩
           have oo := ((Only.refl none_ w1).alloc (.cells #[.string E.k, .string E.v, .bool E.d, .int .i64 E.s.c, .int .i64 E.s.s, .int .i64 E.a.c, .int .i64 E.a.s, .int .i64 E.p, .int .i64 E.g] 82)).trans o2
           have R2 := Lib.hid (R1.out.only oo (fun h => h))
           have O2 := Lib.hid (O1.out.trans oo.of_none)
           have D2 := Lib.hid (D1.out.only o2 (fun h => h) (fun _ _ h => h))
           have B2 := Lib.hid (B1.out.only o2 (fun h => h))
           clear oo o2)
        | (go_at_call 221; refine (reader_err g S _ _ _ D2.out).mono ?_; rintro e w4 ⟨rfl, rfl⟩)
        | (refine wpList_store_row rfl 82 _ _ rfl w.heap.size #[.string ⟨#[]⟩, .string ⟨#[]⟩, .bool false, .int .i64 0, .int .i64 0, .int .i64 0, .int .i64 0, .int .i64 0, .int .i64 0] rfl rfl 82 _ R2.out (by kernel_rfl) rfl (by simp [Value.oneCell']) ?_
           have R5 := Lib.hid (R2.out.setRow #[.string ⟨#[]⟩, .string ⟨#[]⟩, .bool false, .int .i64 0, .int .i64 0, .int .i64 0, .int .i64 0, .int .i64 0, .int .i64 0])
           have W5 := Lib.hid ((Only.refl (one w.heap.size) w2).setRow (g := w.heap.size) (.inl (show one w.heap.size w.heap.size from rfl)) #[.string ⟨#[]⟩, .string ⟨#[]⟩, .bool false, .int .i64 0, .int .i64 0, .int .i64 0, .int .i64 0, .int .i64 0, .int .i64 0])
           have O5 := Lib.hid (O2.out.setRow (g := w.heap.size) (.inr (Nat.le_refl _)) #[.string ⟨#[]⟩, .string ⟨#[]⟩, .bool false, .int .i64 0, .int .i64 0, .int .i64 0, .int .i64 0, .int .i64 0, .int .i64 0])))
      refine bodyPost_ret (results_cell_row rfl _ _ w.heap.size 82 _ (0, 0) _ rfl R5.out Tryz.underlying82 rfl (by kernel_rfl)) rfl ?_
      have rF := D2.out.only W5.out (fun e => by have e' : g = w.heap.size := e; have := HG.out; omega) (fun b hb e => by have e' : b = w.heap.size := e; have := FR.out b hb; omega)
      rw [HE.out.1, HE.out.2.1, HE.out.2.2]
      exact ⟨rfl, rF, O5.out⟩
  · obtain ⟨hc1, hc2, hc3⟩ := HD.out
    rw [if_neg hz0] at hc1
    rw [hc1] at hc3
    have h4 := first_four c7
    rw [if_neg h4] at hc3
    obtain ⟨c8, h8⟩ : ∃ c, first_ c7 4 = c := ⟨_, rfl⟩
    rw [h8] at h4 hc1
    have HE : Hid (takeC code bs = c8 ∧ takeB code bs = b7 ∧ takeE code bs = enZero) := ⟨hc1, hc2, hc3⟩
    have H8 := Lib.hid h8
    clear hc1 hc2 hc3 HD h8
    go_enter Tryz.func175, Tryz.ntmps175
    go_wp2_with (first
      | (go_at_call 219; refine HC.out.mono ?_; rintro e w1 ⟨rfl, r1, o1⟩
         have R1 := Lib.hid (R0.out.only o1 (ne0.out _ rfl))
         have O1 := Lib.hid (O0.out.trans o1)
         have D1 := Lib.hid (r1.only ((Only.refl none_ w1).alloc (.cells #[.string E.k, .string E.v, .bool E.d, .int .i64 E.s.c, .int .i64 E.s.s, .int .i64 E.a.c, .int .i64 E.a.s, .int .i64 E.p, .int .i64 E.g] 82)) (fun h => h) (fun _ _ h => h))
         have B1 := Lib.hid (Blk.new w1 82 #[.string E.k, .string E.v, .bool E.d, .int .i64 E.s.c, .int .i64 E.s.s, .int .i64 E.a.c, .int .i64 E.a.s, .int .i64 E.p, .int .i64 E.g])
         have G1 : Hid (w1.heap.size ≠ g) := by have := HG.out; have := o1.size; rw [World.size_alloc] at this; simp only [Hid]; omega
         clear r1 o1)
      | (refine wpl_load rfl 82 _ rfl w1.heap.size rfl 82 #[.string E.k, .string E.v, .bool E.d, .int .i64 E.s.c, .int .i64 E.s.s, .int .i64 E.a.c, .int .i64 E.a.s, .int .i64 E.p, .int .i64 E.g] _ B1.out Tryz.underlying82 rfl (by kernel_rfl) ?_)
      | (go_at_call 83; refine (en_check E _).mono ?_; rw [HZ.out]; rintro e w2 ⟨rfl, o2⟩
         have oo := ((Only.refl none_ w1).alloc (.cells #[.string E.k, .string E.v, .bool E.d, .int .i64 E.s.c, .int .i64 E.s.s, .int .i64 E.a.c, .int .i64 E.a.s, .int .i64 E.p, .int .i64 E.g] 82)).trans o2
         have R2 := Lib.hid (R1.out.only oo (fun h => h))
         have O2 := Lib.hid (O1.out.trans oo.of_none)
         have D2 := Lib.hid (D1.out.only o2 (fun h => h) (fun _ _ h => h))
         have B2 := Lib.hid (B1.out.only o2 (fun h => h))
         clear oo o2)
      | (go_at_call 220; refine (reader_fail g S _ 4 _ _ D2.out).mono ?_; rw [H8.out]; rintro e w3 ⟨rfl, r3, o3⟩
         have R3 := Lib.hid (R2.out.only o3 (ne0.out _ rfl))
         have O3 := Lib.hid (O2.out.trans o3)
         have D3 := Lib.hid r3
         have B3 := Lib.hid (B2.out.only o3 (fun e => G1.out e))
         clear r3 o3)
      | (go_at_call 221; refine (reader_err g S _ _ _ D3.out).mono ?_; rintro e w4 ⟨rfl, rfl⟩)
      | (refine wpList_store_row rfl 82 _ _ rfl w.heap.size #[.string ⟨#[]⟩, .string ⟨#[]⟩, .bool false, .int .i64 0, .int .i64 0, .int .i64 0, .int .i64 0, .int .i64 0, .int .i64 0] rfl rfl 82 _ R3.out (by kernel_rfl) rfl (by simp [Value.oneCell']) ?_
         have R5 := Lib.hid (R3.out.setRow #[.string ⟨#[]⟩, .string ⟨#[]⟩, .bool false, .int .i64 0, .int .i64 0, .int .i64 0, .int .i64 0, .int .i64 0, .int .i64 0])
         have W5 := Lib.hid ((Only.refl (one w.heap.size) w3).setRow (g := w.heap.size) (.inl (show one w.heap.size w.heap.size from rfl)) #[.string ⟨#[]⟩, .string ⟨#[]⟩, .bool false, .int .i64 0, .int .i64 0, .int .i64 0, .int .i64 0, .int .i64 0, .int .i64 0])
         have O5 := Lib.hid (O3.out.setRow (g := w.heap.size) (.inr (Nat.le_refl _)) #[.string ⟨#[]⟩, .string ⟨#[]⟩, .bool false, .int .i64 0, .int .i64 0, .int .i64 0, .int .i64 0, .int .i64 0, .int .i64 0])))
    refine bodyPost_ret (results_cell_row rfl _ _ w.heap.size 82 _ (0, 0) _ rfl R5.out Tryz.underlying82 rfl (by kernel_rfl)) rfl ?_
    have rF := D3.out.only W5.out (fun e => by have e' : g = w.heap.size := e; have := HG.out; omega) (fun b hb e => by have e' : b = w.heap.size := e; have := FR.out b hb; omega)
    rw [HE.out.1, HE.out.2.1, HE.out.2.2]
    exact ⟨rfl, rF, O5.out⟩
end Go.Proofs.YtoohpcomnhfgpaaGreat
end
section
namespace Go.Proofs.YtoohpcomnhfgpaaGreat
open Go.RowKit
set_option linter.all false
set_option maxRecDepth 100000
def decC (bs : List UInt8) : Int := doneCode (takeC 0 bs) (takeB 0 bs)
def decE (bs : List UInt8) : En := if decC bs = 0 then takeE 0 bs else enZero
theorem only_new {w a b : World} {g : Nat} (h : Only none_ w a) (o : Only (one g) a b) (hg : w.heap.size ≤ g) : Only none_ w b :=
  h.trans' o (fun k hk e => by have e' : k = g := e; omega)
set_option maxHeartbeats 1600000 in
theorem decode_any (A : Option Addr) (L c : Nat) (bs : List UInt8) (S : Nat → Prop) (w : World) (hx : Byt w S (.slice A L c) bs) (hm : bs.length ≤ 140737488355328) :
    Calls Tryz.prog 115 #[.slice A L c] w fun e w' => e = .returned (.tuple #[.agg #[.string (decE bs).k, .string (decE bs).v, .bool (decE bs).d, .int .i64 (decE bs).s.c, .int .i64 (decE bs).s.s, .int .i64 (decE bs).a.c, .int .i64 (decE bs).a.s, .int .i64 (decE bs).p, .int .i64 (decE bs).g], .int .i64 (decC bs)]) ∧ Only none_ w w' := by
  have R0 := Lib.hid (Blk.new w 82 #[.string ⟨#[]⟩, .string ⟨#[]⟩, .bool false, .int .i64 0, .int .i64 0, .int .i64 0, .int .i64 0, .int .i64 0, .int .i64 0])
  have O0 := Lib.hid ((Only.refl none_ w).alloc (.cells #[.string ⟨#[]⟩, .string ⟨#[]⟩, .bool false, .int .i64 0, .int .i64 0, .int .i64 0, .int .i64 0, .int .i64 0, .int .i64 0] 82))
  have X0 := Lib.hid (hx.alloc (.cells #[.string ⟨#[]⟩, .string ⟨#[]⟩, .bool false, .int .i64 0, .int .i64 0, .int .i64 0, .int .i64 0, .int .i64 0, .int .i64 0] 82))
  have Z0 : Hid (w.heap.size + 1 ≤ (w.alloc (.cells #[.string ⟨#[]⟩, .string ⟨#[]⟩, .bool false, .int .i64 0, .int .i64 0, .int .i64 0, .int .i64 0, .int .i64 0, .int .i64 0] 82)).heap.size) := by simp [Hid]
  have HM := Lib.hid hm
  have HD : Hid (decC bs = doneCode (takeC 0 bs) (takeB 0 bs) ∧ decE bs = (if decC bs = 0 then takeE 0 bs else enZero)) := ⟨rfl, rfl⟩
  have HT : Hid (∀ g S w, Rd w g S 0 bs → (∀ b, S b → b < w.heap.size) → Calls Tryz.prog 175 #[.pointer (some ⟨g, 0, none⟩)] w fun e w' => e = .returned (.agg #[.string (takeE 0 bs).k, .string (takeE 0 bs).v, .bool (takeE 0 bs).d, .int .i64 (takeE 0 bs).s.c, .int .i64 (takeE 0 bs).s.s, .int .i64 (takeE 0 bs).a.c, .int .i64 (takeE 0 bs).a.s, .int .i64 (takeE 0 bs).p, .int .i64 (takeE 0 bs).g]) ∧ Rd w' g S (takeC 0 bs) (takeB 0 bs) ∧ Only (one g) w w') :=
    fun g S w hr fr => take_any g S 0 bs w hr fr hm
  obtain ⟨E, hE⟩ : ∃ E, takeE 0 bs = E := ⟨_, rfl⟩
  obtain ⟨c7, h7⟩ : ∃ c, takeC 0 bs = c := ⟨_, rfl⟩
  obtain ⟨b7, hb7⟩ : ∃ c, takeB 0 bs = c := ⟨_, rfl⟩
  obtain ⟨z, hz⟩ : ∃ c, doneCode c7 b7 = c := ⟨_, rfl⟩
  rw [hE, h7, hb7] at HT
  rw [hE, h7, hb7, hz] at HD
  have HZ := Lib.hid hz
  clear hx hm hE h7 hb7 hz
  by_cases hz0 : z = 0
  · subst hz0
    have HE : Hid (decC bs = 0 ∧ decE bs = E) := ⟨HD.out.1, by have h1 := HD.out.2; rw [HD.out.1, if_pos rfl] at h1; exact h1⟩
    clear HD
    go_enter Tryz.func115, Tryz.ntmps115
    go_wp2_with (first
      | (go_at_call 174; refine (read_any _ bs S _ X0.out HM.out).mono ?_; rintro e w1 ⟨g, S1, rfl, hg, r1, hS1, o1⟩
         have D1 := Lib.hid r1
         have R1 := Lib.hid (R0.out.only o1 (fun h => h))
         have O1 := Lib.hid (O0.out.trans o1)
         have FR := Lib.hid hS1
         have HG : Hid (w.heap.size + 1 ≤ g) := Nat.le_trans Z0.out hg
         clear r1 o1 hg hS1)
      | (go_at_call 175; refine (HT.out g S1 w1 D1.out (fun b hb => (FR.out b hb).2)).mono ?_; rintro e w2 ⟨rfl, r2, o2⟩
         have hgt := HG.out
         have oa := (Only.refl none_ w2).alloc (.cells #[.string E.k, .string E.v, .bool E.d, .int .i64 E.s.c, .int .i64 E.s.s, .int .i64 E.a.c, .int .i64 E.a.s, .int .i64 E.p, .int .i64 E.g] 82)
         have D2 := Lib.hid (r2.only oa (fun h => h) (fun _ _ h => h))
         have R2 := Lib.hid ((R1.out.only o2 (fun e => by have e' : w.heap.size = g := e; omega)).only oa (fun h => h))
         have O2 := Lib.hid ((only_new O1.out o2 (by omega)).trans oa)
         have B2 := Lib.hid (Blk.new w2 82 #[.string E.k, .string E.v, .bool E.d, .int .i64 E.s.c, .int .i64 E.s.s, .int .i64 E.a.c, .int .i64 E.a.s, .int .i64 E.p, .int .i64 E.g])
         have G2 : Hid (w2.heap.size ≠ g) := by have := D1.out.lt; have := o2.size; simp only [Hid]; omega
         clear r2 o2 oa hgt)
      | (go_at_call 176; refine (reader_done g S1 _ _ _ D2.out).mono ?_; rw [HZ.out]; rintro e w3 ⟨rfl, r3, o3⟩
         have hgt := HG.out
         have R3 := Lib.hid (R2.out.only o3 (fun e => by have e' : w.heap.size = g := e; omega))
         have O3 := Lib.hid (only_new O2.out o3 (by omega))
         have B3 := Lib.hid (B2.out.only o3 (fun e => G2.out e))
         clear r3 o3 hgt)
      | (refine wpl_load rfl 82 _ rfl w2.heap.size rfl 82 #[.string E.k, .string E.v, .bool E.d, .int .i64 E.s.c, .int .i64 E.s.s, .int .i64 E.a.c, .int .i64 E.a.s, .int .i64 E.p, .int .i64 E.g] _ B3.out Tryz.underlying82 rfl (by kernel_rfl) ?_)
      | (refine wpList_store_row rfl 82 _ _ rfl w.heap.size #[.string E.k, .string E.v, .bool E.d, .int .i64 E.s.c, .int .i64 E.s.s, .int .i64 E.a.c, .int .i64 E.a.s, .int .i64 E.p, .int .i64 E.g] rfl rfl 82 _ R3.out (by kernel_rfl) rfl (by simp [Value.oneCell']) ?_
         have R5 := Lib.hid (R3.out.setRow #[.string E.k, .string E.v, .bool E.d, .int .i64 E.s.c, .int .i64 E.s.s, .int .i64 E.a.c, .int .i64 E.a.s, .int .i64 E.p, .int .i64 E.g])
         have O5 := Lib.hid (O3.out.setRow (g := w.heap.size) (.inr (Nat.le_refl _)) #[.string E.k, .string E.v, .bool E.d, .int .i64 E.s.c, .int .i64 E.s.s, .int .i64 E.a.c, .int .i64 E.a.s, .int .i64 E.p, .int .i64 E.g])))
    refine bodyPost_ret (results_cell_tmp rfl _ _ w.heap.size 82 _ _ rfl R5.out Tryz.underlying82 rfl (by kernel_rfl) (.int .i64 0) rfl) rfl ?_
    rw [HE.out.1, HE.out.2]
    exact ⟨rfl, O5.out⟩
  · have HE : Hid (decC bs = z ∧ decE bs = enZero) := ⟨HD.out.1, by have h1 := HD.out.2; rw [HD.out.1, if_neg hz0] at h1; exact h1⟩
    clear HD
    go_enter Tryz.func115, Tryz.ntmps115
    go_wp2_with (first
      | (go_at_call 174; refine (read_any _ bs S _ X0.out HM.out).mono ?_; rintro e w1 ⟨g, S1, rfl, hg, r1, hS1, o1⟩
         have D1 := Lib.hid r1
         have R1 := Lib.hid (R0.out.only o1 (fun h => h))
         have O1 := Lib.hid (O0.out.trans o1)
         have FR := Lib.hid hS1
         have HG : Hid (w.heap.size + 1 ≤ g) := Nat.le_trans Z0.out hg
         clear r1 o1 hg hS1)
      | (go_at_call 175; refine (HT.out g S1 w1 D1.out (fun b hb => (FR.out b hb).2)).mono ?_; rintro e w2 ⟨rfl, r2, o2⟩
         have hgt := HG.out
         have oa := (Only.refl none_ w2).alloc (.cells #[.string E.k, .string E.v, .bool E.d, .int .i64 E.s.c, .int .i64 E.s.s, .int .i64 E.a.c, .int .i64 E.a.s, .int .i64 E.p, .int .i64 E.g] 82)
         have D2 := Lib.hid (r2.only oa (fun h => h) (fun _ _ h => h))
         have R2 := Lib.hid ((R1.out.only o2 (fun e => by have e' : w.heap.size = g := e; omega)).only oa (fun h => h))
         have O2 := Lib.hid ((only_new O1.out o2 (by omega)).trans oa)
         have B2 := Lib.hid (Blk.new w2 82 #[.string E.k, .string E.v, .bool E.d, .int .i64 E.s.c, .int .i64 E.s.s, .int .i64 E.a.c, .int .i64 E.a.s, .int .i64 E.p, .int .i64 E.g])
         have G2 : Hid (w2.heap.size ≠ g) := by have := D1.out.lt; have := o2.size; simp only [Hid]; omega
         clear r2 o2 oa hgt)
      | (go_at_call 176; refine (reader_done g S1 _ _ _ D2.out).mono ?_; rw [HZ.out]; rintro e w3 ⟨rfl, r3, o3⟩
         have hgt := HG.out
         have R3 := Lib.hid (R2.out.only o3 (fun e => by have e' : w.heap.size = g := e; omega))
         have O3 := Lib.hid (only_new O2.out o3 (by omega))
         have B3 := Lib.hid (B2.out.only o3 (fun e => G2.out e))
         clear r3 o3 hgt)
      | (refine wpList_store_row rfl 82 _ _ rfl w.heap.size #[.string ⟨#[]⟩, .string ⟨#[]⟩, .bool false, .int .i64 0, .int .i64 0, .int .i64 0, .int .i64 0, .int .i64 0, .int .i64 0] rfl rfl 82 _ R3.out (by kernel_rfl) rfl (by simp [Value.oneCell']) ?_
         have R5 := Lib.hid (R3.out.setRow #[.string ⟨#[]⟩, .string ⟨#[]⟩, .bool false, .int .i64 0, .int .i64 0, .int .i64 0, .int .i64 0, .int .i64 0, .int .i64 0])
         have O5 := Lib.hid (O3.out.setRow (g := w.heap.size) (.inr (Nat.le_refl _)) #[.string ⟨#[]⟩, .string ⟨#[]⟩, .bool false, .int .i64 0, .int .i64 0, .int .i64 0, .int .i64 0, .int .i64 0, .int .i64 0])))
    refine bodyPost_ret (results_cell_tmp rfl _ _ w.heap.size 82 _ _ rfl R5.out Tryz.underlying82 rfl (by kernel_rfl) (.int .i64 z) rfl) rfl ?_
    rw [HE.out.1, HE.out.2]
    exact ⟨rfl, O5.out⟩
end Go.Proofs.YtoohpcomnhfgpaaGreat
end
section
namespace Go.Proofs.YtoohpcomnhfgpaaGreat
open Go.RowKit
set_option maxRecDepth 100000
theorem leVal_leBytes : ∀ (m n : Nat), n < 256 ^ m → leVal (leBytes n m) = n
  | 0, n, h => by simp at h; subst h; rfl
  | m + 1, n, h => by
    have e : leBytes n (m + 1) = UInt8.ofNat n :: leBytes (n / 256) m := by
      unfold leBytes
      rw [List.range_succ_eq_map, List.map_cons, List.map_map]
      congr 1
      · simp [leByte]
      apply List.map_congr_left
      intro k _
      show leByte n (k + 1) = leByte (n / 256) k
      unfold leByte
      rw [Nat.div_div_eq_div_mul]
      congr 2
      rw [show 8 * (k + 1) = 8 + 8 * k by omega, Nat.pow_add]
    have h2 : n / 256 < 256 ^ m := by
      rw [Nat.div_lt_iff_lt_mul (by omega)]
      rw [Nat.pow_succ] at h
      exact h
    rw [e]
    show (UInt8.ofNat n).toNat + 256 * leVal (leBytes (n / 256) m) = n
    rw [leVal_leBytes m _ h2]
    have : (UInt8.ofNat n).toNat = n % 256 := by simp
    omega
theorem numR_back (n m : Nat) (rest : List UInt8) (h1 : 1 ≤ m) (h8 : m ≤ 8) (hn : n < 256 ^ m) : numR 0 (leBytes n m ++ rest) (m : Int) = (0, rest, n) := by
  have hw : isW (m : Int) = true := by simp [isW]; omega
  have hl := leBytes_len n m
  unfold numR
  rw [if_pos hw, if_pos (by rw [Int.toNat_natCast, List.length_append, hl]; exact ⟨rfl, by omega⟩), Int.toNat_natCast]
  rw [List.take_append_of_le_length (by omega), List.take_of_length_le (by omega), leVal_leBytes m n hn]
  rw [List.drop_append_of_le_length (by omega), List.drop_of_length_le (by omega), List.nil_append]
theorem flagR_back (d : Bool) (rest : List UInt8) : flagR 0 ([UInt8.ofNat (bitN d)] ++ rest) = (0, rest, d) := by
  cases d <;> simp [flagR, bitN]
theorem textR_back (s : ByteArray) (most : Nat) (rest : List UInt8) (h : s.size ≤ most) (h2 : s.size ≤ 255) : textR 0 (txtB s ++ rest) (most : Int) = (0, rest, s.data.toList) := by
  have hl : s.data.toList.length = s.size := Array.length_toList
  have hn : (UInt8.ofNat s.size).toNat = s.size := by simp; omega
  show textR 0 (UInt8.ofNat s.size :: (s.data.toList ++ rest)) (most : Int) = _
  unfold textR
  dsimp only
  rw [hn, if_neg (by simp), if_neg (by omega), if_neg (by rw [List.length_append, hl]; omega)]
  rw [List.drop_append_of_le_length (by omega), List.drop_of_length_le (by omega), List.nil_append, List.take_append_of_le_length (by omega), List.take_of_length_le (by omega)]
theorem stampR_back (a b : Nat) (rest : List UInt8) (ha : a < 256 ^ 4) (hb : b < 256 ^ 1) : stampR 0 (leBytes a 4 ++ (leBytes b 1 ++ rest)) = (0, rest, ⟨a, b⟩) := by
  have h1 := numR_back a 4 (leBytes b 1 ++ rest) (by omega) (by omega) ha
  have h2 := numR_back b 1 rest (by omega) (by omega) hb
  unfold stampR
  rw [show ((4 : Nat) : Int) = 4 from rfl] at h1
  rw [show ((1 : Nat) : Int) = 1 from rfl] at h2
  rw [h1]
  dsimp only
  rw [h2]
theorem fields_back (m : Ne) (ok : m.ok) (h16 : m.k.size ≤ 16) (h32 : m.v.size ≤ 32) : (fieldsF 0 (layB m)).en = m.en ∧ (fieldsF 0 (layB m)).a7.1 = 0 ∧ (fieldsF 0 (layB m)).a7.2.1 = [] := by
  obtain ⟨k, x, d, s1, s2, a1, a2, p, q⟩ := m
  obtain ⟨hk, hv, h1, h2, h3, h4, h5, h6⟩ := ok
  dsimp only at hk hv h1 h2 h3 h4 h5 h6 h16 h32
  have e : layB ⟨k, x, d, s1, s2, a1, a2, p, q⟩ = txtB k ++ ([UInt8.ofNat (bitN d)] ++ (txtB x ++ (leBytes s1 4 ++ (leBytes s2 1 ++ (leBytes a1 4 ++ (leBytes a2 1 ++ (leBytes p 2 ++ (leBytes q 4 ++ [])))))))) := by
    simp only [layB, List.append_assoc, List.append_nil]
  rw [e]
  have r1 := textR_back k 16 ([UInt8.ofNat (bitN d)] ++ (txtB x ++ (leBytes s1 4 ++ (leBytes s2 1 ++ (leBytes a1 4 ++ (leBytes a2 1 ++ (leBytes p 2 ++ (leBytes q 4 ++ [])))))))) h16 hk
  have r2 := flagR_back d (txtB x ++ (leBytes s1 4 ++ (leBytes s2 1 ++ (leBytes a1 4 ++ (leBytes a2 1 ++ (leBytes p 2 ++ (leBytes q 4 ++ [])))))))
  have r3 := textR_back x 32 (leBytes s1 4 ++ (leBytes s2 1 ++ (leBytes a1 4 ++ (leBytes a2 1 ++ (leBytes p 2 ++ (leBytes q 4 ++ [])))))) h32 hv
  have r4 := stampR_back s1 s2 (leBytes a1 4 ++ (leBytes a2 1 ++ (leBytes p 2 ++ (leBytes q 4 ++ [])))) (by omega) (by omega)
  have r5 := stampR_back a1 a2 (leBytes p 2 ++ (leBytes q 4 ++ [])) (by omega) (by omega)
  have r6 := numR_back p 2 (leBytes q 4 ++ []) (by omega) (by omega) (by omega)
  have r7 := numR_back q 4 [] (by omega) (by omega) (by omega)
  rw [show ((16 : Nat) : Int) = 16 from rfl] at r1
  rw [show ((32 : Nat) : Int) = 32 from rfl] at r3
  rw [show ((2 : Nat) : Int) = 2 from rfl] at r6
  rw [show ((4 : Nat) : Int) = 4 from rfl] at r7
  have ef : fieldsF 0 (txtB k ++ ([UInt8.ofNat (bitN d)] ++ (txtB x ++ (leBytes s1 4 ++ (leBytes s2 1 ++ (leBytes a1 4 ++ (leBytes a2 1 ++ (leBytes p 2 ++ (leBytes q 4 ++ [])))))))))
      = ⟨(0, ([UInt8.ofNat (bitN d)] ++ (txtB x ++ (leBytes s1 4 ++ (leBytes s2 1 ++ (leBytes a1 4 ++ (leBytes a2 1 ++ (leBytes p 2 ++ (leBytes q 4 ++ [])))))))), k.data.toList), (0, (txtB x ++ (leBytes s1 4 ++ (leBytes s2 1 ++ (leBytes a1 4 ++ (leBytes a2 1 ++ (leBytes p 2 ++ (leBytes q 4 ++ []))))))), d), (0, (leBytes s1 4 ++ (leBytes s2 1 ++ (leBytes a1 4 ++ (leBytes a2 1 ++ (leBytes p 2 ++ (leBytes q 4 ++ [])))))), x.data.toList), (0, (leBytes a1 4 ++ (leBytes a2 1 ++ (leBytes p 2 ++ (leBytes q 4 ++ [])))), ⟨s1, s2⟩), (0, (leBytes p 2 ++ (leBytes q 4 ++ [])), ⟨a1, a2⟩), (0, (leBytes q 4 ++ []), p), (0, [], q)⟩ := by
    unfold fieldsF
    simp only [r1, r2, r3, r4, r5, r6, r7]
  rw [ef]
  exact ⟨rfl, rfl, rfl⟩
theorem dec_back (m : Ne) (ok : m.ok) (h16 : m.k.size ≤ 16) (h32 : m.v.size ≤ 32) (hc : enCheck m.en = 0) : decC (layB m) = 0 ∧ decE (layB m) = m.en := by
  obtain ⟨h1, h2, h3⟩ := fields_back m ok h16 h32
  have t1 : takeC 0 (layB m) = 0 := by rw [takeC, h1, if_pos hc, h2]
  have t2 : takeB 0 (layB m) = [] := h3
  have t3 : takeE 0 (layB m) = m.en := by rw [takeE, if_pos t1, h1]
  have d1 : decC (layB m) = 0 := by rw [decC, t1, t2]; rfl
  exact ⟨d1, by rw [decE, if_pos d1, t3]⟩
end Go.Proofs.YtoohpcomnhfgpaaGreat
end
section
namespace Go.Proofs.YtoohpcomnhfgpaaGreat
open Go.RowKit
set_option maxRecDepth 100000
set_option linter.all false
def rcS (s : Rs) (x : En) : Rs := noteS (if newsM s.tab x = true then placeS (seeS s x) x else seeS s x) x
set_option maxHeartbeats 25600000 in
theorem rp_recall_full (B : World) (a : Ra) (s : Rs) (x : En) (A : Option Addr) (n c : Nat) (S : Nat → Prop) (w : World) (h : Rp B a s w) (hb : Byt w S (.slice A n c) (encB x)) (hc : enCheck x = 0) (hf : fullM s.o s.tab x.k = true) :
    Calls Tryz.prog 65 #[.pointer (some ⟨a.r, 0, none⟩), .slice A n c] w fun E w' => E = .returned (.int .i64 12) ∧ LeftP B a w (s) w' := by
  obtain ⟨r, hr⟩ : ∃ r, a.r = r := ⟨_, rfl⟩
  obtain ⟨m, hm, ok1, h16, h32, hbm⟩ := enc_of hc
  have hbk := dec_back m ok1 h16 h32 (hm ▸ hc)
  have hDE : decE (encB x) = x := by rw [hbm, hbk.2, hm]
  have hDC : decC (encB x) = 0 := by rw [hbm, hbk.1]
  have HDE := Lib.hid (decode_any A n c (encB x) S w hb (by have := (enc_len hc).2; omega))
  rw [hDE, hDC] at HDE
  have C1 := Lib.hid (Cy.begin h)
  have HRM := Lib.hid (fun (X : World) (hX : Rp B a s X) => by
    have := ct_room B a s x.k X hX
    rw [hr, hf] at this
    exact this)
  rw [hr]
  have HR := Lib.hid hr
  clear h hb hc hr hm hbm hbk hDE hDC ok1 hf
  go_enter Tryz.func65, Tryz.ntmps65
  go_wp2_with (first
    | (go_at_call 115; refine HDE.out.mono ?_; rintro E w2 ⟨rfl, o2⟩
       have C2 := Lib.hid ((C1.out.keep o2).keep ((Only.refl none_ _).alloc (.cells #[.string x.k, .string x.v, .bool x.d, .int .i64 x.s.c, .int .i64 x.s.s, .int .i64 x.a.c, .int .i64 x.a.s, .int .i64 x.p, .int .i64 x.g] 82)))
       have N2 : Hid (Bn a w2.heap.size 82 #[.string x.k, .string x.v, .bool x.d, .int .i64 x.s.c, .int .i64 x.s.s, .int .i64 x.a.c, .int .i64 x.a.s, .int .i64 x.p, .int .i64 x.g] (w2.alloc (.cells #[.string x.k, .string x.v, .bool x.d, .int .i64 x.s.c, .int .i64 x.s.s, .int .i64 x.a.c, .int .i64 x.a.s, .int .i64 x.p, .int .i64 x.g] 82))) := Bn.new (C1.out.keep o2).r
       clear o2)
    | (with_reducible refine wpl_new rfl rfl 82 rfl _ _ rfl #[.string x.k, .string x.v, .bool x.d, .int .i64 x.s.c, .int .i64 x.s.s, .int .i64 x.a.c, .int .i64 x.a.s, .int .i64 x.p, .int .i64 x.g] rfl rfl (by kernel_rfl) (en_cells_one x) ?_))
  generalize w2.alloc (.cells #[.string x.k, .string x.v, .bool x.d, .int .i64 x.s.c, .int .i64 x.s.s, .int .i64 x.a.c, .int .i64 x.a.s, .int .i64 x.p, .int .i64 x.g] 82) = W2 at C2 N2 ⊢
  generalize w2.heap.size = n0 at N2 ⊢
  (refine wp_region_steady (fun X => Only none_ W2 X) 11 (by kernel_rfl) (by kernel_rfl) ((Only.refl none_ W2).drew) ?_; simp only [List.take_succ_cons, List.take_zero, List.drop_succ_cons, List.drop_zero])
  repeat (first
    | (refine sd_value (v := ?_) (by rfl) (fun w0 hS => ?_) ?_; rotate_left; (· (have qq := nine_of (N2.out.keep hS).b; go_simp; try (with_reducible rfl))); try simp only [Act.put, List.setIfInBounds_toArray, List.set_cons_zero, List.set_cons_succ])
    | (refine sd_call (v := ?_) (f := 88) (args := ?_) (by rfl) (fun w0 hS => ?_) (fun w0 hS => ?_) ?_; rotate_left 2; (· (have qq := nine_of (N2.out.keep hS).b; go_simp; try (with_reducible rfl))); (· (refine (HRM.out _ (C2.out.keep hS).r).mono ?_; rintro E w9 ⟨rfl, o9⟩; refine ⟨?_, hS.trans o9⟩; rfl)); try simp only [Act.put, List.setIfInBounds_toArray, List.set_cons_zero, List.set_cons_succ]))
  refine sd_nil ?_
  intro w3 t3
  have C3 := Lib.hid (C2.out.keep t3)
  have N3 := Lib.hid (N2.out.keep t3)
  clear t3 C2 N2
  go_wp2_with fail
  go_ret
  exact ⟨rfl, C3.out.left⟩
set_option maxHeartbeats 25600000 in
theorem rp_recall_new (B : World) (a : Ra) (s : Rs) (x : En) (A : Option Addr) (n c : Nat) (S : Nat → Prop) (w : World) (h : Rp B a s w) (hb : Byt w S (.slice A n c) (encB x)) (hc : enCheck x = 0) (hf : fullM s.o s.tab x.k = false) (hn : newsM s.tab x = true) (ok : Rky s) :
    Calls Tryz.prog 65 #[.pointer (some ⟨a.r, 0, none⟩), .slice A n c] w fun E w' => E = .returned (.int .i64 0) ∧ LeftP B a w (rcS s x) w' := by
  obtain ⟨r, hr⟩ : ∃ r, a.r = r := ⟨_, rfl⟩
  obtain ⟨m, hm, ok1, h16, h32, hbm⟩ := enc_of hc
  have hbk := dec_back m ok1 h16 h32 (hm ▸ hc)
  have hDE : decE (encB x) = x := by rw [hbm, hbk.2, hm]
  have hDC : decC (encB x) = 0 := by rw [hbm, hbk.1]
  have HDE := Lib.hid (decode_any A n c (encB x) S w hb (by have := (enc_len hc).2; omega))
  rw [hDE, hDC] at HDE
  have C1 := Lib.hid (Cy.begin h)
  have HRM := Lib.hid (fun (X : World) (hX : Rp B a s X) => by
    have := ct_room B a s x.k X hX
    rw [hr, hf] at this
    exact this)
  have HC5 : Hid (∀ X, Rp B a s X → X.cell? ⟨r, 5, none⟩ = some (.pointer (some ⟨a.ck, 0, none⟩))) := fun X hX => hX.at_ hr rfl
  have HSE := Lib.hid (fun (X : World) (hX : Rp B a s X) => rp_see B a s x.a X hX)
  obtain ⟨s1, hs1⟩ : ∃ s1, seeS s x = s1 := ⟨_, rfl⟩
  have hs1' : ({ s with c := seeC s.c x.a } : Rs) = s1 := hs1
  rw [hs1'] at HSE
  have ht : s1.tab = s.tab := by rw [← hs1]; rfl
  have HNE := Lib.hid (fun (a1 : Ra) (X : World) (hX : Rp B a1 s1 X) (e1 : a1.r = r) => by
    have := ct_news B a1 s1 x X hX
    rw [e1, ht, hn] at this
    exact this)
  obtain ⟨s2, hs2⟩ : ∃ s2, (if newsM s.tab x = true then placeS s1 x else s1) = s2 := ⟨_, rfl⟩
  have HPL := Lib.hid (fun (a1 : Ra) (X : World) (hX : Rp B a1 s1 X) (e1 : a1.r = r) => by
    have := ct_place B a1 s1 x X hX (by rw [← hs1]; exact hf) (key_small hc) (by rw [← hs1]; exact ok.m)
    have e2 : ({ s1 with tab := setE x s1.tab, z := s1.z + (hsh x - hsh ((lookE s1.tab x.k).getD enZero)), mks := putM s1.mks (mkOf x) } : Rs) = s2 := by rw [← hs2, if_pos hn]; rfl
    rw [e1, e2] at this
    exact this)
  have hnn := ok.w
  have HNO := Lib.hid (fun (a1 : Ra) (X : World) (hX : Rp B a1 s2 X) (e1 : a1.r = r) => by
    have := rp_note B a1 s2 x X hX (by rw [← hs2, ← hs1]; split <;> exact ok.g) (by rw [← hs2, ← hs1]; split <;> exact ok.w) (key_small hc)
    rw [e1] at this
    exact this)
  have hrc : rcS s x = noteS s2 x := by rw [← hs2, ← hs1]; rfl
  rw [hrc]
  generalize noteS s2 x = s3 at HNO ⊢
  rw [hr]
  have HR := Lib.hid hr
  clear h hb hc hr hm hbm hbk hDE hDC ok1 hf hs1 hs1' ht hs2 hnn hrc hn ok
  go_enter Tryz.func65, Tryz.ntmps65
  go_wp2_with (first
    | (go_at_call 115; refine HDE.out.mono ?_; rintro E w2 ⟨rfl, o2⟩
       have C2 := Lib.hid ((C1.out.keep o2).keep ((Only.refl none_ _).alloc (.cells #[.string x.k, .string x.v, .bool x.d, .int .i64 x.s.c, .int .i64 x.s.s, .int .i64 x.a.c, .int .i64 x.a.s, .int .i64 x.p, .int .i64 x.g] 82)))
       have N2 : Hid (Bn a w2.heap.size 82 #[.string x.k, .string x.v, .bool x.d, .int .i64 x.s.c, .int .i64 x.s.s, .int .i64 x.a.c, .int .i64 x.a.s, .int .i64 x.p, .int .i64 x.g] (w2.alloc (.cells #[.string x.k, .string x.v, .bool x.d, .int .i64 x.s.c, .int .i64 x.s.s, .int .i64 x.a.c, .int .i64 x.a.s, .int .i64 x.p, .int .i64 x.g] 82))) := Bn.new (C1.out.keep o2).r
       clear o2)
    | (with_reducible refine wpl_new rfl rfl 82 rfl _ _ rfl #[.string x.k, .string x.v, .bool x.d, .int .i64 x.s.c, .int .i64 x.s.s, .int .i64 x.a.c, .int .i64 x.a.s, .int .i64 x.p, .int .i64 x.g] rfl rfl (by kernel_rfl) (en_cells_one x) ?_))
  generalize w2.alloc (.cells #[.string x.k, .string x.v, .bool x.d, .int .i64 x.s.c, .int .i64 x.s.s, .int .i64 x.a.c, .int .i64 x.a.s, .int .i64 x.p, .int .i64 x.g] 82) = W2 at C2 N2 ⊢
  generalize w2.heap.size = n0 at N2 ⊢
  (refine wp_region_steady (fun X => Only none_ W2 X) 11 (by kernel_rfl) (by kernel_rfl) ((Only.refl none_ W2).drew) ?_; simp only [List.take_succ_cons, List.take_zero, List.drop_succ_cons, List.drop_zero])
  repeat (first
    | (refine sd_value (v := ?_) (by rfl) (fun w0 hS => ?_) ?_; rotate_left; (· (have qq := nine_of (N2.out.keep hS).b; go_simp; try (with_reducible rfl))); try simp only [Act.put, List.setIfInBounds_toArray, List.set_cons_zero, List.set_cons_succ])
    | (refine sd_call (v := ?_) (f := 88) (args := ?_) (by rfl) (fun w0 hS => ?_) (fun w0 hS => ?_) ?_; rotate_left 2; (· (have qq := nine_of (N2.out.keep hS).b; go_simp; try (with_reducible rfl))); (· (refine (HRM.out _ (C2.out.keep hS).r).mono ?_; rintro E w9 ⟨rfl, o9⟩; refine ⟨?_, hS.trans o9⟩; rfl)); try simp only [Act.put, List.setIfInBounds_toArray, List.set_cons_zero, List.set_cons_succ]))
  refine sd_nil ?_
  intro w3 t3
  have C3 := Lib.hid (C2.out.keep t3)
  have N3 := Lib.hid (N2.out.keep t3)
  clear t3 C2 N2
  have q3 := N3.out.b
  clear q3
  go_upto_region 4 with fail
  (refine wp_region_steady (fun X => Only none_ w3 X) 6 (by kernel_rfl) (by kernel_rfl) ((Only.refl none_ w3).drew) ?_; simp only [List.take_succ_cons, List.take_zero, List.drop_succ_cons, List.drop_zero])
  repeat (first
    | (refine sd_value (v := ?_) (by rfl) (fun w0 hS => ?_) ?_; rotate_left; (· (have c5 := HC5.out _ (C3.out.keep hS).r; have qq := nine_of (N3.out.keep hS).b; go_simp; try (with_reducible rfl))); try simp only [Act.put, List.setIfInBounds_toArray, List.set_cons_zero, List.set_cons_succ]))
  refine sd_nil ?_
  intro w4 t4
  have C4 := Lib.hid (C3.out.keep t4)
  have N4 := Lib.hid (N3.out.keep t4)
  clear t4
  go_wp2_with (first
    | (go_at_call 84; refine (HSE.out _ C4.out.r).mono ?_; rintro E w5 ⟨⟨bs, rfl⟩, L5⟩
       obtain ⟨a5, c5, e5, b5⟩ := C4.out.step L5
       have C5 := Lib.hid c5
       have N5 := Lib.hid (b5 _ _ _ N4.out)
       have E5 : Hid (a5.r = r) := e5.trans HR.out
       clear c5 b5 e5 L5))
  (refine wp_region_steady (fun X => Only none_ w5 X) 5 (by kernel_rfl) (by kernel_rfl) ((Only.refl none_ w5).drew) ?_; simp only [List.take_succ_cons, List.take_zero, List.drop_succ_cons, List.drop_zero])
  repeat (first
    | (refine sd_value (v := ?_) (by rfl) (fun w0 hS => ?_) ?_; rotate_left; (· (have qq := nine_of (N5.out.keep hS).b; go_simp; try (with_reducible rfl))); try simp only [Act.put, List.setIfInBounds_toArray, List.set_cons_zero, List.set_cons_succ])
    | (refine sd_call (v := ?_) (f := 85) (args := ?_) (by rfl) (fun w0 hS => ?_) (fun w0 hS => ?_) ?_; rotate_left 2; (· (skip; go_simp; try (with_reducible rfl))); (· (refine (HNE.out a5 _ (C5.out.keep hS).r E5.out).mono ?_; rintro E w8 ⟨rfl, o8⟩; refine ⟨?_, hS.trans o8⟩; rfl)); try simp only [Act.put, List.setIfInBounds_toArray, List.set_cons_zero, List.set_cons_succ]))
  refine sd_nil ?_
  intro w6 t6
  have C6 := Lib.hid (C5.out.keep t6)
  have N6 := Lib.hid (N5.out.keep t6)
  have q6 := nine_of N6.out.b
  clear t6 C5 N5 C4 N4 C3 N3
  go_wp2_with fail
  (refine wp_region_steady (fun X => Only none_ w6 X) 4 (by kernel_rfl) (by kernel_rfl) ((Only.refl none_ w6).drew) ?_; simp only [List.take_succ_cons, List.take_zero, List.drop_succ_cons, List.drop_zero])
  repeat (first
    | (refine sd_value (v := ?_) (by rfl) (fun w0 hS => ?_) ?_; rotate_left; (· (have qq := nine_of (N6.out.keep hS).b; go_simp; try (with_reducible rfl))); try simp only [Act.put, List.setIfInBounds_toArray, List.set_cons_zero, List.set_cons_succ]))
  refine sd_nil ?_
  intro w7 t7
  have C7 := Lib.hid (C6.out.keep t7)
  have N7 := Lib.hid (N6.out.keep t7)
  clear t7 q6
  go_wp2_with (first
    | (go_at_call 116; refine (HPL.out a5 _ C7.out.r E5.out).mono ?_; rintro E w8 ⟨rfl, L8⟩
       obtain ⟨a8, c8, e8, b8⟩ := C7.out.step L8
       have C8 := Lib.hid c8
       have N8 := Lib.hid (b8 _ _ _ N7.out)
       have E8 : Hid (a8.r = r) := e8.trans E5.out
       have q8 := nine_of N8.out.b
       clear c8 b8 e8 L8)
    | (go_at_call 117; refine (HNO.out a8 _ C8.out.r E8.out).mono ?_; rintro E w9 ⟨rfl, L9⟩
       obtain ⟨a9, c9, e9, b9⟩ := C8.out.step L9
       have C9 := Lib.hid c9
       clear c9 b9 e9 L9))
  go_ret
  exact ⟨rfl, C9.out.left⟩
set_option maxHeartbeats 25600000 in
theorem rp_recall_old (B : World) (a : Ra) (s : Rs) (x : En) (A : Option Addr) (n c : Nat) (S : Nat → Prop) (w : World) (h : Rp B a s w) (hb : Byt w S (.slice A n c) (encB x)) (hc : enCheck x = 0) (hf : fullM s.o s.tab x.k = false) (hn : newsM s.tab x = false) (ok : Rky s) :
    Calls Tryz.prog 65 #[.pointer (some ⟨a.r, 0, none⟩), .slice A n c] w fun E w' => E = .returned (.int .i64 0) ∧ LeftP B a w (rcS s x) w' := by
  obtain ⟨r, hr⟩ : ∃ r, a.r = r := ⟨_, rfl⟩
  obtain ⟨m, hm, ok1, h16, h32, hbm⟩ := enc_of hc
  have hbk := dec_back m ok1 h16 h32 (hm ▸ hc)
  have hDE : decE (encB x) = x := by rw [hbm, hbk.2, hm]
  have hDC : decC (encB x) = 0 := by rw [hbm, hbk.1]
  have HDE := Lib.hid (decode_any A n c (encB x) S w hb (by have := (enc_len hc).2; omega))
  rw [hDE, hDC] at HDE
  have C1 := Lib.hid (Cy.begin h)
  have HRM := Lib.hid (fun (X : World) (hX : Rp B a s X) => by
    have := ct_room B a s x.k X hX
    rw [hr, hf] at this
    exact this)
  have HC5 : Hid (∀ X, Rp B a s X → X.cell? ⟨r, 5, none⟩ = some (.pointer (some ⟨a.ck, 0, none⟩))) := fun X hX => hX.at_ hr rfl
  have HSE := Lib.hid (fun (X : World) (hX : Rp B a s X) => rp_see B a s x.a X hX)
  obtain ⟨s1, hs1⟩ : ∃ s1, seeS s x = s1 := ⟨_, rfl⟩
  have hs1' : ({ s with c := seeC s.c x.a } : Rs) = s1 := hs1
  rw [hs1'] at HSE
  have ht : s1.tab = s.tab := by rw [← hs1]; rfl
  have HNE := Lib.hid (fun (a1 : Ra) (X : World) (hX : Rp B a1 s1 X) (e1 : a1.r = r) => by
    have := ct_news B a1 s1 x X hX
    rw [e1, ht, hn] at this
    exact this)
  obtain ⟨s2, hs2⟩ : ∃ s2, (if newsM s.tab x = true then placeS s1 x else s1) = s2 := ⟨_, rfl⟩
  have hs12 : s1 = s2 := by rw [← hs2, if_neg (by rw [hn]; simp)]
  have hnn := ok.w
  have HNO := Lib.hid (fun (a1 : Ra) (X : World) (hX : Rp B a1 s2 X) (e1 : a1.r = r) => by
    have := rp_note B a1 s2 x X hX (by rw [← hs2, ← hs1]; split <;> exact ok.g) (by rw [← hs2, ← hs1]; split <;> exact ok.w) (key_small hc)
    rw [e1] at this
    exact this)
  have hrc : rcS s x = noteS s2 x := by rw [← hs2, ← hs1]; rfl
  rw [hrc]
  generalize noteS s2 x = s3 at HNO ⊢
  have HS12 := Lib.hid hs12
  rw [hr]
  have HR := Lib.hid hr
  clear h hb hc hr hm hbm hbk hDE hDC ok1 hf hs1 hs1' ht hs2 hnn hrc hn ok hs12
  go_enter Tryz.func65, Tryz.ntmps65
  go_wp2_with (first
    | (go_at_call 115; refine HDE.out.mono ?_; rintro E w2 ⟨rfl, o2⟩
       have C2 := Lib.hid ((C1.out.keep o2).keep ((Only.refl none_ _).alloc (.cells #[.string x.k, .string x.v, .bool x.d, .int .i64 x.s.c, .int .i64 x.s.s, .int .i64 x.a.c, .int .i64 x.a.s, .int .i64 x.p, .int .i64 x.g] 82)))
       have N2 : Hid (Bn a w2.heap.size 82 #[.string x.k, .string x.v, .bool x.d, .int .i64 x.s.c, .int .i64 x.s.s, .int .i64 x.a.c, .int .i64 x.a.s, .int .i64 x.p, .int .i64 x.g] (w2.alloc (.cells #[.string x.k, .string x.v, .bool x.d, .int .i64 x.s.c, .int .i64 x.s.s, .int .i64 x.a.c, .int .i64 x.a.s, .int .i64 x.p, .int .i64 x.g] 82))) := Bn.new (C1.out.keep o2).r
       clear o2)
    | (with_reducible refine wpl_new rfl rfl 82 rfl _ _ rfl #[.string x.k, .string x.v, .bool x.d, .int .i64 x.s.c, .int .i64 x.s.s, .int .i64 x.a.c, .int .i64 x.a.s, .int .i64 x.p, .int .i64 x.g] rfl rfl (by kernel_rfl) (en_cells_one x) ?_))
  generalize w2.alloc (.cells #[.string x.k, .string x.v, .bool x.d, .int .i64 x.s.c, .int .i64 x.s.s, .int .i64 x.a.c, .int .i64 x.a.s, .int .i64 x.p, .int .i64 x.g] 82) = W2 at C2 N2 ⊢
  generalize w2.heap.size = n0 at N2 ⊢
  (refine wp_region_steady (fun X => Only none_ W2 X) 11 (by kernel_rfl) (by kernel_rfl) ((Only.refl none_ W2).drew) ?_; simp only [List.take_succ_cons, List.take_zero, List.drop_succ_cons, List.drop_zero])
  repeat (first
    | (refine sd_value (v := ?_) (by rfl) (fun w0 hS => ?_) ?_; rotate_left; (· (have qq := nine_of (N2.out.keep hS).b; go_simp; try (with_reducible rfl))); try simp only [Act.put, List.setIfInBounds_toArray, List.set_cons_zero, List.set_cons_succ])
    | (refine sd_call (v := ?_) (f := 88) (args := ?_) (by rfl) (fun w0 hS => ?_) (fun w0 hS => ?_) ?_; rotate_left 2; (· (have qq := nine_of (N2.out.keep hS).b; go_simp; try (with_reducible rfl))); (· (refine (HRM.out _ (C2.out.keep hS).r).mono ?_; rintro E w9 ⟨rfl, o9⟩; refine ⟨?_, hS.trans o9⟩; rfl)); try simp only [Act.put, List.setIfInBounds_toArray, List.set_cons_zero, List.set_cons_succ]))
  refine sd_nil ?_
  intro w3 t3
  have C3 := Lib.hid (C2.out.keep t3)
  have N3 := Lib.hid (N2.out.keep t3)
  clear t3 C2 N2
  have q3 := N3.out.b
  clear q3
  go_upto_region 4 with fail
  (refine wp_region_steady (fun X => Only none_ w3 X) 6 (by kernel_rfl) (by kernel_rfl) ((Only.refl none_ w3).drew) ?_; simp only [List.take_succ_cons, List.take_zero, List.drop_succ_cons, List.drop_zero])
  repeat (first
    | (refine sd_value (v := ?_) (by rfl) (fun w0 hS => ?_) ?_; rotate_left; (· (have c5 := HC5.out _ (C3.out.keep hS).r; have qq := nine_of (N3.out.keep hS).b; go_simp; try (with_reducible rfl))); try simp only [Act.put, List.setIfInBounds_toArray, List.set_cons_zero, List.set_cons_succ]))
  refine sd_nil ?_
  intro w4 t4
  have C4 := Lib.hid (C3.out.keep t4)
  have N4 := Lib.hid (N3.out.keep t4)
  clear t4
  go_wp2_with (first
    | (go_at_call 84; refine (HSE.out _ C4.out.r).mono ?_; rintro E w5 ⟨⟨bs, rfl⟩, L5⟩
       obtain ⟨a5, c5, e5, b5⟩ := C4.out.step L5
       have C5 := Lib.hid c5
       have N5 := Lib.hid (b5 _ _ _ N4.out)
       have E5 : Hid (a5.r = r) := e5.trans HR.out
       clear c5 b5 e5 L5))
  (refine wp_region_steady (fun X => Only none_ w5 X) 5 (by kernel_rfl) (by kernel_rfl) ((Only.refl none_ w5).drew) ?_; simp only [List.take_succ_cons, List.take_zero, List.drop_succ_cons, List.drop_zero])
  repeat (first
    | (refine sd_value (v := ?_) (by rfl) (fun w0 hS => ?_) ?_; rotate_left; (· (have qq := nine_of (N5.out.keep hS).b; go_simp; try (with_reducible rfl))); try simp only [Act.put, List.setIfInBounds_toArray, List.set_cons_zero, List.set_cons_succ])
    | (refine sd_call (v := ?_) (f := 85) (args := ?_) (by rfl) (fun w0 hS => ?_) (fun w0 hS => ?_) ?_; rotate_left 2; (· (skip; go_simp; try (with_reducible rfl))); (· (refine (HNE.out a5 _ (C5.out.keep hS).r E5.out).mono ?_; rintro E w8 ⟨rfl, o8⟩; refine ⟨?_, hS.trans o8⟩; rfl)); try simp only [Act.put, List.setIfInBounds_toArray, List.set_cons_zero, List.set_cons_succ]))
  refine sd_nil ?_
  intro w6 t6
  have C6 := Lib.hid (C5.out.keep t6)
  have N6 := Lib.hid (N5.out.keep t6)
  have q6 := nine_of N6.out.b
  clear t6 C5 N5 C4 N4 C3 N3
  go_wp2_with (first
    | (go_at_call 117; refine (HNO.out a5 _ (by rw [← HS12.out]; exact C6.out.r) E5.out).mono ?_; rintro E w9 ⟨rfl, L9⟩
       have c6 := C6.out
       rw [HS12.out] at c6
       obtain ⟨a9, c9, e9, b9⟩ := c6.step L9
       have C9 := Lib.hid c9
       clear c9 b9 e9 L9 c6))
  go_ret
  exact ⟨rfl, C9.out.left⟩
theorem rp_recall (B : World) (a : Ra) (s : Rs) (x : En) (A : Option Addr) (n c : Nat) (S : Nat → Prop) (w : World) (h : Rp B a s w) (hb : Byt w S (.slice A n c) (encB x)) (hc : enCheck x = 0) (ok : Rky s) :
    Calls Tryz.prog 65 #[.pointer (some ⟨a.r, 0, none⟩), .slice A n c] w fun E w' => E = .returned (.int .i64 (if fullM s.o s.tab x.k = true then 12 else 0)) ∧ LeftP B a w (if fullM s.o s.tab x.k = true then s else rcS s x) w' := by
  cases hf : fullM s.o s.tab x.k with
  | true => exact rp_recall_full B a s x A n c S w h hb hc hf
  | false =>
    cases hn : newsM s.tab x with
    | true => exact rp_recall_new B a s x A n c S w h hb hc hf hn ok
    | false => exact rp_recall_old B a s x A n c S w h hb hc hf hn ok
end Go.Proofs.YtoohpcomnhfgpaaGreat
end
section
namespace Go.Proofs.YtoohpcomnhfgpaaGreat
open Go.RowKit
set_option maxRecDepth 100000
set_option linter.all false
def Far_ (B w w' : World) (g : Nat) (v : Value) (d : Dv) (l : List (List UInt8)) (j m : Nat) (vl v' : Value) : Prop :=
  w.heap.size ≤ m ∧ m ≤ j ∧ j < w'.heap.size ∧ Jn w' j g (l.length : Int) ∧ Lst w' w.heap.size (fun b => w.heap.size ≤ b ∧ b < m) vl l ∧ (∀ k, vl.ownBlock = some k → k < m) ∧
    Dsk B g d v' w' ∧ Only (foot g v) w w' ∧ (∀ k, v'.ownBlock = some k → v.ownBlock = some k ∨ m ≤ k)
set_option maxHeartbeats 3200000 in
theorem open_far (B : World) (g : Nat) (d : Dv) (v : Value) (w : World) (h : Dsk B g d v w) (hon1 : d.on = true) (hko : (jnRead d.bs).2.2 = 0) (hfo : d.fuse ≠ 0) :
    Calls Tryz.prog 63 #[.pointer (some ⟨g, 0, none⟩)] w fun e w' => ∃ j m vl v', e = .returned (.tuple #[.pointer (some ⟨j, 0, none⟩), vl, .int .i64 0]) ∧ Far_ B w w' g v (opD d) (jnRead d.bs).1 j m vl v' := by
  have HRD := disk_read B g d v w h
  have H := Lib.hid h
  have hml := h.ml
  rw [hon1] at HRD
  simp only [if_true] at HRD
  obtain ⟨R, hR⟩ : ∃ r, jnRead d.bs = r := ⟨_, rfl⟩
  have hle := jnRead_le d.bs
  have hct := jnRead_count d.bs
  have HQ : Hid (∀ (A : Option Addr) (n c : Nat) (S : Nat → Prop) (w' : World), Byt w' S (.slice A n c) d.bs → n = d.bs.length → Calls Tryz.prog 109 #[.slice A n c] w' fun e w'' => ∃ v, e = .returned (.tuple #[v, .int .i64 ((jnRead d.bs).2.1 : Int), .int .i64 (jnRead d.bs).2.2]) ∧ Lst w'' (w'.heap.size + 1) (fun b => w'.heap.size + 1 ≤ b) v (jnRead d.bs).1 ∧ Only none_ w' w'') := by
    intro A n c S w' hb hn
    subst hn
    exact read7 A c d.bs S w' hb hml
  rw [hR] at hle hct hko
  rw [hR] at HQ
  obtain ⟨l, n, k⟩ := R
  dsimp only at HQ hle hct hko
  have HR := Lib.hid HRD
  obtain ⟨L, hL⟩ : ∃ L, d.bs.length = L := ⟨_, rfl⟩
  have HL := Lib.hid hL
  rw [hL] at hle hml
  subst hko
  by_cases hs : n < L
  · have hsb : decide ((n : Int) < (L : Int)) = true := by simp; omega
    have HT := fun (w' : World) (v' : Value) (h' : Dsk B g d v' w') => disk_trim B g n d v' w' h'
    have hf0 : (if (n : Int) < 0 ∨ (d.bs.length : Int) < (n : Int) then (2 : Int) else 0) = 0 := if_neg (by rw [hL]; omega)
    simp only [hf0, Int.toNat_natCast] at HT
    have hcc : chCode d 0 = 0 := by simp [chCode, hon1, hfo]
    have e1 : Hid (opD d = chD d 0 (dTrim n (burnt d)) ∧ (jnRead d.bs).1 = l) := by
      refine ⟨?_, by rw [hR]⟩
      simp only [opD, hon1, hR, hL]; simp [hs]
    rw [hcc] at HT
    have HTT := Lib.hid HT
    clear h HRD hml hon1 hR hle hct HT hf0 hfo hcc hL
    go_enter Tryz.func63, Tryz.ntmps63
    go_wp2_with (first
      | (go_at_call 108; refine HR.out.mono ?_; rintro e w1 ⟨⟨A1, n1, c1, rfl, own1⟩, o1⟩
         obtain rfl : n1 = L := by rw [own_len own1]; exact HL.out
         have B1 := Lib.hid (Byt.of_own own1)
         have O1 := Lib.hid o1
         have N1 : Hid (w.heap.size ≤ w1.heap.size) := o1.size
         clear own1 o1)
      | (go_at_call 109; refine (HQ.out A1 _ c1 _ _ B1.out HL.out.symm).mono ?_; rintro e w2 ⟨v2, rfl, l2, o2⟩
         obtain ⟨A2, c2, rfl⟩ := l2.shape
         have L2 : Hid (Lst w2 w.heap.size (fun b => w.heap.size ≤ b ∧ b < w2.heap.size) (.slice A2 l.length c2) l ∧ w.heap.size ≤ w2.heap.size) :=
           ⟨(l2.based (by have := N1.out; omega)).mono (fun b hlt hb => ⟨by have hb' : w1.heap.size + 1 ≤ b := hb; have := N1.out; omega, hlt⟩), (O1.out.trans o2).size⟩
         have O2 := Lib.hid (O1.out.trans o2)
         have D2 := Lib.hid (H.out.keep O2.out)
         clear l2 o2)
      | (go_at_call 110; refine (HTT.out _ _ D2.out).mono ?_; rintro e w3 ⟨rfl, l3⟩
         obtain ⟨v3, d3, o3, m3⟩ := l3
         have L3 := Lib.hid (L2.out.1.only o3 (fun b hb hf => by have h1 := H.out.foot_lt hf; have h2 := (L2.out.1.own_lt b hb).1; omega) (fun b hb hf => by have h1 := H.out.foot_lt hf; have h2 := hb.1; omega))
         have N3 : Hid (w2.heap.size ≤ w3.heap.size) := o3.size
         have D3 := Lib.hid d3
         have O3 := Lib.hid (O2.out.of_none.trans' o3 (fun k _ h => h))
         have M3 := Lib.hid m3
         clear d3 o3 m3))
    refine bodyPost_ret (v := .tuple #[.pointer (some ⟨w3.heap.size, 0, none⟩), .slice A2 l.length c2, .int .i64 0]) (by simp [results, Tryz.results63, go_sem]) rfl ?_
    have oa := (Only.refl none_ w3).alloc (.cells (jnCells (.pointer (some ⟨g, 0, none⟩)) (.int .i64 (l.length : Int))) 212)
    rw [e1.out.1, e1.out.2]
    refine ⟨_, w2.heap.size, _, v3, rfl, L2.out.2, N3.out, by rw [World.size_alloc]; omega, Jn.new _ _ _, L3.out.keep oa, fun k hk => (L2.out.1.own_lt k hk).2, D3.out.keep oa, O3.out.trans' oa (fun _ _ h => h.elim), fun k hk => M3.out k hk⟩
  · have hnL : n = L := by omega
    have hsb : decide ((n : Int) < (L : Int)) = false := by simp; omega
    have e1 : Hid (opD d = d ∧ (jnRead d.bs).1 = l) := by
      refine ⟨?_, by rw [hR]⟩
      simp only [opD, hon1, hR, hL]; simp [hs]
    clear h HRD hml hon1 hR hle hct hL hnL hfo
    go_enter Tryz.func63, Tryz.ntmps63
    go_wp2_with (first
      | (go_at_call 108; refine HR.out.mono ?_; rintro e w1 ⟨⟨A1, n1, c1, rfl, own1⟩, o1⟩
         obtain rfl : n1 = L := by rw [own_len own1]; exact HL.out
         have B1 := Lib.hid (Byt.of_own own1)
         have O1 := Lib.hid o1
         have N1 : Hid (w.heap.size ≤ w1.heap.size) := o1.size
         clear own1 o1)
      | (go_at_call 109; refine (HQ.out A1 _ c1 _ _ B1.out HL.out.symm).mono ?_; rintro e w2 ⟨v2, rfl, l2, o2⟩
         obtain ⟨A2, c2, rfl⟩ := l2.shape
         have L2 : Hid (Lst w2 w.heap.size (fun b => w.heap.size ≤ b ∧ b < w2.heap.size) (.slice A2 l.length c2) l ∧ w.heap.size ≤ w2.heap.size) :=
           ⟨(l2.based (by have := N1.out; omega)).mono (fun b hlt hb => ⟨by have hb' : w1.heap.size + 1 ≤ b := hb; have := N1.out; omega, hlt⟩), (O1.out.trans o2).size⟩
         have O2 := Lib.hid (O1.out.trans o2)
         have D2 := Lib.hid (H.out.keep O2.out)
         clear l2 o2))
    refine bodyPost_ret (v := .tuple #[.pointer (some ⟨w2.heap.size, 0, none⟩), .slice A2 l.length c2, .int .i64 0]) (by simp [results, Tryz.results63, go_sem]) rfl ?_
    have oa := (Only.refl none_ w2).alloc (.cells (jnCells (.pointer (some ⟨g, 0, none⟩)) (.int .i64 (l.length : Int))) 212)
    rw [e1.out.1, e1.out.2]
    exact ⟨_, w2.heap.size, _, v, rfl, L2.out.2, Nat.le_refl _, by rw [World.size_alloc]; omega, Jn.new _ _ _, L2.out.1.keep oa, fun k hk => (L2.out.1.own_lt k hk).2, D2.out.keep oa, (O2.out.trans oa).of_none, fun k hk => .inl hk⟩
end Go.Proofs.YtoohpcomnhfgpaaGreat
end
section
namespace Go.Proofs.YtoohpcomnhfgpaaGreat
open Go.RowKit
set_option maxRecDepth 100000
set_option linter.all false
theorem two_back (n : Nat) (hn : n < 65536) : leVal (leBytes n 2) = n := by
  have h : leBytes n 2 = [leByte n 0, leByte n 1] := by simp [leBytes, List.range, List.range.loop]
  rw [h]
  simp only [leVal, leByte, UInt8.toNat_ofNat']
  omega
theorem holds_marked (bs : List UInt8) : crcHolds (crcMark bs) = true := by
  have hl := mark_len7 bs
  have h : (crcMark bs).take ((crcMark bs).length - 4) = bs := by
    rw [hl, show bs.length + 4 - 4 = bs.length by omega, crcMark, List.take_left']
    rfl
  rw [crcHolds, h, beq_self_eq_true, Bool.and_true, decide_eq_true_eq]
  omega
def Rok (r : List UInt8) : Prop := 1 ≤ r.length ∧ r.length ≤ 512
theorem rok_iff (r : List UInt8) : recCode r.length = 0 ↔ Rok r := by
  unfold recCode Rok
  constructor
  · intro h
    split at h
    · cases h
    · split at h
      · cases h
      · omega
  · intro h
    rw [if_neg (by omega), if_neg (by omega)]
def flatB (l : List (List UInt8)) : List UInt8 := (l.map recB).flatten
theorem flatB_cons (r : List UInt8) (l : List (List UInt8)) : flatB (r :: l) = recB r ++ flatB l := by simp [flatB]
theorem flatB_append (l m : List (List UInt8)) : flatB (l ++ m) = flatB l ++ flatB m := by simp [flatB]
theorem flatB_one (r : List UInt8) : flatB [r] = recB r := by simp [flatB]
theorem flatB_len (l : List (List UInt8)) : l.length ≤ (flatB l).length := by
  induction l with
  | nil => simp [flatB]
  | cons r l ih =>
    rw [flatB_cons, List.length_append, List.length_cons, recB_len]
    omega
theorem head_says (r : List UInt8) (hr : Rok r) (k : Nat) (rest : List UInt8) (h6 : 6 ≤ k) : ((recB r ++ rest).take k).take 6 = hdB r.length ∧ jnN ((recB r ++ rest).take k) = r.length := by
  have h : ((recB r ++ rest).take k).take 6 = hdB r.length := by
    rw [List.take_take, Nat.min_eq_left h6, recB, List.append_assoc, List.take_append_of_le_length (by rw [hdB_len]; exact Nat.le_refl _), List.take_of_length_le (by rw [hdB_len]; exact Nat.le_refl _)]
  refine ⟨h, ?_⟩
  have h2 : ((recB r ++ rest).take k).take 2 = leBytes r.length 2 := by
    have : ((recB r ++ rest).take k).take 2 = (((recB r ++ rest).take k).take 6).take 2 := by simp only [List.take_take]; congr 1; omega
    rw [this, h, hdB, crcMark, List.take_left' (by rw [leBytes_length])]
  rw [jnN, h2, two_back _ (by have := hr.2; omega)]
theorem whole_read (r : List UInt8) (hr : Rok r) (rest : List UInt8) : jnK (recB r ++ rest) = 0 ∧ jnB (recB r ++ rest) = r ∧ jnN (recB r ++ rest) = r.length ∧ (recB r ++ rest).drop (10 + r.length) = rest := by
  have hl : (recB r ++ rest).length = r.length + 10 + rest.length := by rw [List.length_append, recB_len]
  have ht : (recB r ++ rest).take (recB r ++ rest).length = recB r ++ rest := List.take_length
  obtain ⟨h6, hn⟩ := head_says r hr (recB r ++ rest).length rest (by omega)
  rw [ht] at h6 hn
  have hd : (recB r ++ rest).drop 6 = crcMark r ++ rest := by
    rw [recB, List.append_assoc, List.drop_left' (by rw [hdB_len])]
  have hm : ((recB r ++ rest).drop 6).take (r.length + 4) = crcMark r := by
    rw [hd, List.take_left' (by rw [mark_len7])]
  have hb : ((recB r ++ rest).drop 6).take r.length = r := by
    rw [hd, crcMark, List.append_assoc, List.take_left']
    rfl
  refine ⟨?_, by rw [jnB, hn, hb], hn, ?_⟩
  · rw [jnK, if_neg (by omega), if_neg (by rw [h6, hn, hdB, holds_marked]; have q1 := hr.1; have q2 := hr.2; rintro (h | h | h) <;> first | cases h | omega), if_neg (by rw [hn]; omega), hn, hm, holds_marked]
    rfl
  · rw [List.drop_left' (by rw [recB_len]; omega)]
theorem nil_read : jnK [] = 1 := rfl
theorem jnR_flat : ∀ (l : List (List UInt8)), (∀ r ∈ l, Rok r) → ∀ (f : Nat) (acc : List (List UInt8)) (n : Nat) (rest : List UInt8), jnR (f + l.length) acc n (flatB l ++ rest) = jnR f (acc ++ l) (n + (flatB l).length) rest
  | [], _, f, acc, n, rest => by simp [flatB]
  | r :: l, h, f, acc, n, rest => by
    have hr := h r (by simp)
    rw [flatB_cons, List.append_assoc, List.length_cons, ← Nat.add_assoc, jnR_step]
    obtain ⟨h1, h2, h3, h4⟩ := whole_read r hr (flatB l ++ rest)
    rw [if_neg (by omega), if_neg (by omega), h2, h3, h4, jnR_flat l (fun r hr => h r (by simp [hr])), List.length_append, recB_len, show acc ++ r :: l = acc ++ [r] ++ l by simp]
    congr 1
    omega
theorem read_flat (l : List (List UInt8)) (h : ∀ r ∈ l, Rok r) (rest : List UInt8) (hk : jnK rest = 1) : jnRead (flatB l ++ rest) = (l, (flatB l).length, 0) := by
  have hl := flatB_len l
  obtain ⟨f, hf⟩ : ∃ f, (flatB l ++ rest).length + 1 = (f + 1) + l.length := ⟨(flatB l ++ rest).length - l.length, by rw [List.length_append]; omega⟩
  rw [jnRead, hf, jnR_flat l h, jnR_step, if_neg (by omega), if_pos hk]
  simp
end Go.Proofs.YtoohpcomnhfgpaaGreat
end
section
namespace Go.Proofs.YtoohpcomnhfgpaaGreat
open Go.RowKit
set_option maxRecDepth 100000
set_option linter.all false
theorem flatB_le (l : List (List UInt8)) (h : ∀ r ∈ l, Rok r) : (flatB l).length ≤ 522 * l.length := by
  induction l with
  | nil => simp [flatB]
  | cons r l ih =>
    have h1 := ih (fun r hr => h r (by simp [hr]))
    have h2 := (h r (by simp)).2
    rw [flatB_cons, List.length_append, List.length_cons, recB_len]
    omega
theorem read_all (l : List (List UInt8)) (h : ∀ r ∈ l, Rok r) : jnRead (flatB l) = (l, (flatB l).length, 0) := by
  have := read_flat l h [] nil_read
  rwa [List.append_nil] at this
def dvOf (l : List (List UInt8)) : Dv := ⟨true, -1, flatB l, (flatB l).length⟩
theorem open_all (l : List (List UInt8)) (h : ∀ r ∈ l, Rok r) : opC (dvOf l) = 0 ∧ opD (dvOf l) = dvOf l ∧ (jnRead (dvOf l).bs).1 = l := by
  have hr := read_all l h
  have hb : (dvOf l).bs = flatB l := rfl
  refine ⟨?_, ?_, by rw [hb, hr]⟩
  · exact op_code rfl (by rw [hb, hr]) (by rw [hb, hr]; exact fun h => Nat.lt_irrefl _ h.1)
  · unfold opD
    rw [if_neg (by show ¬ true = false; decide), hb, hr, if_neg (by simp), if_neg (Nat.lt_irrefl _)]
theorem add_all (l : List (List UInt8)) (b : List UInt8) (hl : (flatB l).length + 522 ≤ 1048576) : adC b (dvOf l) = recCode b.length ∧ adD b (dvOf l) = if recCode b.length = 0 then dvOf (l ++ [b]) else dvOf l := by
  by_cases hz : recCode b.length = 0
  · have h5 := (rec_ok hz).2
    have hF : adF b (dvOf l) = 0 := if_neg (by show ¬ 1048576 < (flatB l).length + (recB b).length; rw [recB_len]; omega)
    have hc : chCode (dvOf l) 0 = 0 := by simp [chCode, dvOf]
    have h1 : adD1 b (dvOf l) = ⟨true, -1, flatB l ++ recB b, (flatB l).length⟩ := by
      rw [adD1, hF]
      simp [chD, dvOf, burnt, dApp]
    have hc2 : chCode (adD1 b (dvOf l)) 0 = 0 := by rw [h1]; simp [chCode]
    constructor
    · rw [adC, if_neg (by simp [hz]), hF, if_neg (by simp [hc]), hc2, hz]
    · rw [adD, if_neg (by simp [hz]), hF, if_neg (by simp [hc]), if_pos hz, h1]
      simp [chD, burnt, dSync, dvOf, flatB_append, flatB_one]
  · constructor
    · rw [adC, if_pos hz]
    · rw [adD, if_pos hz, if_neg hz]
theorem Lst.cell {w : World} {base : Nat} {T : Nat → Prop} {A : Option Addr} {L c : Nat} {pss : List (List UInt8)} (h : Lst w base T (.slice A L c) pss) (j : Nat) (hj : j < L) :
    ∃ b A1 L1 c1, A = some ⟨b, 0, none⟩ ∧ w.cell? ⟨b, j, none⟩ = some (.slice A1 L1 c1) ∧ ∃ hp : j < pss.length, L1 = pss[j].length ∧ Byt w T (.slice A1 L1 c1) pss[j] := by
  obtain ⟨A', c', e⟩ := h.shape
  injection e with e1 e2 e3
  subst e1 e2 e3
  obtain ⟨xs, h1, h2⟩ := h
  obtain ⟨x, hx, hb⟩ := h2 j hj
  rcases h1.2 with ⟨e1, e2⟩ | ⟨g, cap, cur, e1, hb', hh, hnc, hcm, hcs, htk⟩
  · omega
  · injection e1 with e1 e2 e3
    subst e1
    have e1 : (⟨g, 0, none⟩ : Addr).add j = ⟨g, 0 + j, none⟩ := by unfold Addr.add; split <;> simp_all
    have hc := h1.cells (g := g) rfl j x hx
    rw [e1, Nat.zero_add] at hc
    obtain ⟨A1, c1, rfl⟩ : ∃ A1 c1, x = .slice A1 pss[j].length c1 := by obtain ⟨A1, c1, e, _⟩ := hb; exact ⟨A1, c1, e⟩
    exact ⟨g, A1, _, c1, rfl, hc, hj, rfl, hb.mono (fun b _ h => h.1)⟩
structure Jj (W : World) (g : Nat) (D : Dv) (ob : List UInt8) (oa xs : List (List UInt8)) (v vb va vl : Value) (w : World) : Prop where
  d : Dsk W g D v w
  b : w.ownsRow W.heap.size 5 1 vb ob.length (byts ob)
  a : Lst w W.heap.size (fun b => b < W.heap.size) va oa
  l : Lst w W.heap.size (fun b => b < W.heap.size) vl xs
  db : ∀ k, foot g v k → vb.ownBlock ≠ some k
  da : ∀ k, foot g v k → va.ownBlock ≠ some k
  dl : ∀ k, foot g v k → vl.ownBlock ≠ some k
  ba : ∀ k, vb.ownBlock = some k → va.ownBlock ≠ some k
  bl : ∀ k, vb.ownBlock = some k → vl.ownBlock ≠ some k
  al : ∀ k, va.ownBlock = some k → vl.ownBlock ≠ some k
section
variable {W w w' : World} {g : Nat} {D D' : Dv} {ob ob' : List UInt8} {oa oa' xs : List (List UInt8)} {v vb va vl v' vb' va' : Value}
theorem Jj.keep (s : Jj W g D ob oa xs v vb va vl w) (o : Only none_ w w') : Jj W g D ob oa xs v vb va vl w' :=
  ⟨s.d.keep o, owns_only s.b o (fun _ _ h => h), s.a.keep o, s.l.keep o, s.db, s.da, s.dl, s.ba, s.bl, s.al⟩
theorem Jj.lt (s : Jj W g D ob oa xs v vb va vl w) : (∀ k, vb.ownBlock = some k → k < w.heap.size) ∧ (∀ k, va.ownBlock = some k → k < w.heap.size) ∧ (∀ k, vl.ownBlock = some k → k < w.heap.size) :=
  ⟨fun k h => (s.b.lt k h).2, fun k h => (s.a.own_lt k h).2, fun k h => (s.l.own_lt k h).2⟩
theorem Jj.foot_old (s : Jj W g D ob oa xs v vb va vl w) {k : Nat} (h : foot g v k) : W.heap.size ≤ k := (s.d.foot_ge h).1
theorem Jj.disk (s : Jj W g D ob oa xs v vb va vl w) (j : Nat) (d' : Dsk W g D' v' w') (o : Only (fun k => foot g v k ∨ k = j) w w') (m : Moved w v v')
    (hj : W.heap.size ≤ j ∧ vb.ownBlock ≠ some j ∧ va.ownBlock ≠ some j ∧ vl.ownBlock ≠ some j) : Jj W g D' ob oa xs v' vb va vl w' := by
  have far : ∀ (u : Value), (∀ k, foot g v k → u.ownBlock ≠ some k) → (∀ k, u.ownBlock = some k → k < w.heap.size) → ∀ k, foot g v' k → u.ownBlock ≠ some k := by
    rintro u h1 h2 k (rfl | hk) e
    · exact h1 _ (.inl rfl) e
    · rcases m k hk with h3 | h3
      · exact h1 _ (.inr h3) e
      · have := h2 k e; omega
  have hT : ∀ b, b < W.heap.size → ¬ (foot g v b ∨ b = j) := fun b hb h => by
    rcases h with h | h
    · have := s.foot_old h; omega
    · omega
  exact ⟨d', owns_only s.b o (fun k hk h => h.elim (fun h => s.db k h hk) (fun h => hj.2.1 (h ▸ hk))), s.a.only o (fun k hk h => h.elim (fun h => s.da k h hk) (fun h => hj.2.2.1 (h ▸ hk))) hT,
    s.l.only o (fun k hk h => h.elim (fun h => s.dl k h hk) (fun h => hj.2.2.2 (h ▸ hk))) hT, far vb s.db s.lt.1, far va s.da s.lt.2.1, far vl s.dl s.lt.2.2, s.ba, s.bl, s.al⟩
theorem Jj.bytes (s : Jj W g D ob oa xs v vb va vl w) (b' : w'.ownsRow W.heap.size 5 1 vb' ob'.length (byts ob')) (o : Only (ownb vb) w w') (m : Moved w vb vb') : Jj W g D ob' oa xs v vb' va vl w' := by
  have far : ∀ (p : Nat → Prop), (∀ k, p k → vb.ownBlock ≠ some k) → (∀ k, p k → k < w.heap.size) → ∀ k, p k → vb'.ownBlock ≠ some k := fun p h1 h2 k hk e => by
    rcases m k e with h3 | h3
    · exact h1 k hk h3
    · have := h2 k hk; omega
  refine ⟨s.d.apart o (fun k hk e => s.db k hk e) (fun k e => (s.b.lt k e).1), b', s.a.only o (fun k hk e => s.ba k e hk) (fun b hb e => by have := (s.b.lt b e).1; omega), s.l.only o (fun k hk e => s.bl k e hk) (fun b hb e => by have := (s.b.lt b e).1; omega),
    far _ s.db (fun k hk => (s.d.foot_ge hk).2), s.da, s.dl, fun k hk e => far (fun k => va.ownBlock = some k) (fun k h e => s.ba k e h) s.lt.2.1 k e hk, fun k hk e => far (fun k => vl.ownBlock = some k) (fun k h e => s.bl k e h) s.lt.2.2 k e hk, s.al⟩
theorem Jj.rows (s : Jj W g D ob oa xs v vb va vl w) (a' : Lst w' W.heap.size (fun b => b < W.heap.size) va' oa') (o : Only (ownb va) w w') (m : Moved w va va') : Jj W g D ob oa' xs v vb va' vl w' := by
  have far : ∀ (p : Nat → Prop), (∀ k, p k → va.ownBlock ≠ some k) → (∀ k, p k → k < w.heap.size) → ∀ k, p k → va'.ownBlock ≠ some k := fun p h1 h2 k hk e => by
    rcases m k e with h3 | h3
    · exact h1 k hk h3
    · have := h2 k hk; omega
  refine ⟨s.d.apart o (fun k hk e => s.da k hk e) (fun k e => (s.a.own_lt k e).1), owns_only s.b o (fun k hk e => s.ba k hk e), a', s.l.only o (fun k hk e => s.al k e hk) (fun b hb e => by have := (s.a.own_lt b e).1; omega),
    s.db, far _ s.da (fun k hk => (s.d.foot_ge hk).2), s.dl, far (fun k => vb.ownBlock = some k) s.ba s.lt.1, s.bl, fun k hk e => far (fun k => vl.ownBlock = some k) (fun k h e => s.al k e h) s.lt.2.2 k e hk⟩
end
end Go.Proofs.YtoohpcomnhfgpaaGreat
end
section
namespace Go.Proofs.YtoohpcomnhfgpaaGreat
open Go.RowKit
set_option maxRecDepth 100000
set_option linter.all false
theorem Jn.foot {W w : World} {g j : Nat} {n : Int} {D : Dv} {v : Value} (d : Dsk W g D v w) (h : Jn w j g n) : ¬ foot g v j := by
  rintro (e | e)
  · rcases h with h | h
    · exact Blk.ne_ h d.bk (by decide) e
    · exact Blk.ne_ h d.bk (by decide) e
  · rcases h with h | h
    · exact own_blk_ne d.ow h (by decide) e
    · exact own_blk_ne d.ow h (by decide) e
end Go.Proofs.YtoohpcomnhfgpaaGreat
end
section
namespace Go.Proofs.YtoohpcomnhfgpaaGreat
open Go.RowKit
set_option maxRecDepth 100000
set_option linter.all false
def opF : List En → Rs → Option Rs
  | [], s => some s
  | x :: l, s => if fullM s.o s.tab x.k = true then none else opF l (rcS s x)
theorem opF_app : ∀ (l m : List En) (s : Rs), opF (l ++ m) s = (opF l s).bind (opF m)
  | [], _, _ => rfl
  | x :: l, m, s => by
    show (if fullM s.o s.tab x.k = true then none else opF (l ++ m) (rcS s x)) = (if fullM s.o s.tab x.k = true then none else opF l (rcS s x)).bind (opF m)
    rw [opF_app l m]
    split <;> rfl
theorem rc_inv (s : Rs) (x : En) : (rcS s x).mks.length ≤ s.mks.length + 1 ∧ (rcS s x).gr.length ≤ s.gr.length + 1 ∧ (RisK s.own → RisK (rcS s x).own) ∧ (rcS s x).D = s.D ∧ (rcS s x).n = s.n ∧ (rcS s x).o = s.o ∧ (rcS s x).site = s.site := by
  have hb := len_bury (enDuty x s.site) s.o.t2 s.gr x
  have hp := mput_len s.mks (mkOf x)
  unfold rcS
  split
  · exact ⟨hp, hb, fun h => by show RisK (if x.s.s = s.site then withK x.k s.own else s.own); split; exact ris_withK h; exact h, rfl, rfl, rfl, rfl⟩
  · exact ⟨Nat.le_succ _, hb, fun h => by show RisK (if x.s.s = s.site then withK x.k s.own else s.own); split; exact ris_withK h; exact h, rfl, rfl, rfl, rfl⟩
theorem opF_inv : ∀ (l : List En) (s s' : Rs), opF l s = some s' → s'.mks.length ≤ s.mks.length + l.length ∧ s'.gr.length ≤ s.gr.length + l.length ∧ (RisK s.own → RisK s'.own) ∧ s'.D = s.D ∧ s'.n = s.n ∧ s'.o = s.o ∧ s'.site = s.site
  | [], s, s', h => by injection h with h; subst h; exact ⟨by simp, by simp, id, rfl, rfl, rfl, rfl⟩
  | x :: l, s, s', h => by
    have h' : (if fullM s.o s.tab x.k = true then none else opF l (rcS s x)) = some s' := h
    split at h'
    · cases h'
    · obtain ⟨a1, a2, a3, a4, a5, a6, a7⟩ := opF_inv l _ _ h'
      obtain ⟨b1, b2, b3, b4, b5, b6, b7⟩ := rc_inv s x
      simp only [List.length_cons]
      exact ⟨by omega, by omega, fun h => a3 (b3 h), a4.trans b4, a5.trans b5, a6.trans b6, a7.trans b7⟩
def blankS (o : Ro) (site : Int) (D : Dv) (n : Int) : Rs := ⟨o, site, 0, [], 0, [], [], [], D, n⟩
theorem opF_rok {l : List En} {o : Ro} {site : Int} {D : Dv} {n : Int} {s : Rs} (h : opF l (blankS o site D n) = some s) (hl : l.length ≤ 60) (hd : D.bs.length + 100 ≤ 1048576) (hn : 0 ≤ n ∧ n ≤ 1000000) : Rky s := by
  obtain ⟨a1, a2, a3, a4, a5, a6, a7⟩ := opF_inv l _ _ h
  have e1 : (blankS o site D n).mks.length = 0 := rfl
  have e2 : (blankS o site D n).gr.length = 0 := rfl
  exact ⟨by omega, by omega, a3 List.Pairwise.nil, by rw [a4]; exact hd, by rw [a5]; exact hn⟩
theorem Rp.of_blank {B w2 w3 : World} {a0 : Ra} {o : Ro} {site n : Int} {D : Dv} {dg j : Nat} {vd : Value} (hb : Bk B a0 o site w2 w3) (hd : Dsk B dg D vd w2) (hj : Jn w2 j dg n) (hg : B.heap.size ≤ j) :
    Rp B { a0 with dg := dg, vd := vd, j := j } (blankS o site D n) ((w3.setCell ⟨a0.r, 11, none⟩ (.pointer (some ⟨dg, 0, none⟩))).setCell ⟨a0.r, 12, none⟩ (.pointer (some ⟨j, 0, none⟩))) := by
  have hB2 : B.heap.size ≤ w2.heap.size := hd.ho.size
  have hr := hb.ge 0 a0.r (by decide) rfl
  have oS : Only (one a0.r) w3 ((w3.setCell ⟨a0.r, 11, none⟩ (.pointer (some ⟨dg, 0, none⟩))).setCell ⟨a0.r, 12, none⟩ (.pointer (some ⟨j, 0, none⟩))) := ((Only.refl (one a0.r) w3).setCell (.inl (show one a0.r a0.r from rfl)) _).setCell (.inl (show one a0.r a0.r from rfl)) _
  have hblk := (hb.bk.set_ 11 (.pointer (some ⟨dg, 0, none⟩))).set_ 12 (.pointer (some ⟨j, 0, none⟩))
  have far : ∀ i k, i < 6 → i ≠ 0 → ft a0 i k → ¬ one a0.r k := fun i k hi h0 hk e => hb.dj i 0 k hi (by decide) h0 hk e
  have hS : ∀ k, one a0.r k → B.heap.size ≤ k := fun k e => by have e' : k = a0.r := e; omega
  have hvt : a0.vt = nilV := hb.v.1
  have hvm : a0.vm = nilV := hb.v.2.1
  have hvg : a0.vg = nilV := hb.v.2.2
  have hd3 := hd.keep hb.o
  have hj3 := hj.only hb.o (fun h => h)
  have hlt6 : ∀ k, foot dg vd k → k < w2.heap.size := fun k hk => (hd.foot_ge hk).2
  have hlt7 : j < w2.heap.size := TabP.lt hj
  have hdd : ∀ k, foot dg vd k → ¬ one a0.r k := fun k hk e => by have e' : k = a0.r := e; have := hlt6 k hk; omega
  refine ⟨?_, Clk.only hb.ck oS (far 1 _ (by decide) (by decide) rfl), ?_, ?_, ?_, hb.ob.only oS (far 5 _ (by decide) (by decide) rfl), hd3.apart oS hdd hS, hj3.only oS (fun e => by have e' : j = a0.r := e; omega), ?_, ?_, ?_⟩
  · simpa [rCells, blankS, w64] using hblk
  · show Se.Tb B a0.tb (roRoom o) (prs []) a0.vt _
    rw [hvt]; exact hb.tb.apart oS (fun k hk => far 2 k (by decide) (by decide) (by show foot a0.tb a0.vt k; rw [hvt]; exact hk)) hS
  · show Rc B.heap.size a0.mx a0.mb [] [] a0.vm _
    rw [hvm]; exact hb.mx.far oS (fun k hk => far 3 k (by decide) (by decide) (by show Ft a0.mx a0.mb a0.vm k; rw [hvm]; exact hk))
  · show Gv B a0.gv a0.gt site o.t2 [] a0.vg _
    rw [hvg]; exact hb.gv.apart oS (fun k hk => far 4 k (by decide) (by decide) (by show gfoot a0.gv a0.gt a0.vg k; rw [hvg]; exact hk)) hS
  · exact (hd3.ho).trans' oS (fun k hk e => by have := hS k e; omega)
  · have h1 := hb.ge 1 a0.ck (by decide) rfl
    have h5 := hb.ge 5 a0.ob (by decide) rfl
    exact ⟨by show B.heap.size ≤ a0.r; omega, by show B.heap.size ≤ a0.ck; omega, by show B.heap.size ≤ a0.ob; omega, hg⟩
  · have lo : ∀ i k, i < 6 → ft { a0 with dg := dg, vd := vd, j := j } i k → ft a0 i k := fun i k hi h => by
      match i, hi with
      | 0, _ => exact h
      | 1, _ => exact h
      | 2, _ => exact h
      | 3, _ => exact h
      | 4, _ => exact h
      | 5, _ => exact h
    have up : ∀ i k, ¬ i < 6 → ft { a0 with dg := dg, vd := vd, j := j } i k → (i = 6 ∧ foot dg vd k) ∨ (i = 7 ∧ k = j) := fun i k hi h => by
      match i, hi with
      | 6, _ => exact .inl ⟨rfl, h⟩
      | 7, _ => exact .inr ⟨rfl, h⟩
      | _ + 8, _ => exact h.elim
    intro p q k hpq hp hq
    by_cases h1 : p < 6
    · by_cases h2 : q < 6
      · exact hb.dj p q k h1 h2 hpq (lo p k h1 hp) (lo q k h2 hq)
      · have e1 := (hb.ge p k h1 (lo p k h1 hp)).1
        rcases up q k h2 hq with ⟨_, e⟩ | ⟨_, e⟩
        · have := hlt6 k e; omega
        · omega
    · by_cases h2 : q < 6
      · have e1 := (hb.ge q k h2 (lo q k h2 hq)).1
        rcases up p k h1 hp with ⟨_, e⟩ | ⟨_, e⟩
        · have := hlt6 k e; omega
        · omega
      · have hf := Jn.foot hd hj
        rcases up p k h1 hp with ⟨e1, e⟩ | ⟨e1, e⟩ <;> rcases up q k h2 hq with ⟨e2, e'⟩ | ⟨e2, e'⟩
        · omega
        · subst e'; exact hf e
        · subst e; exact hf e'
        · omega
end Go.Proofs.YtoohpcomnhfgpaaGreat
end
