/- What Take and Decode of package entry do. No statement of the seat is proved here. -/
import Derived.Test.YtdjondjlengapaaEnW
import Derived.Test.YtdjondjlengapaaEnC
import Derived.Test.YtdjondjlengapaaRes
namespace Go.Proofs.Ytdjondjlengapaa
open Go.RowKit
set_option maxRecDepth 100000

/-- An entry asked for: the first error, what is left, the entry. -/
def takeC (code : Int) (bs : List UInt8) : Int := if enCheck (fieldsF code bs).en = 0 then (fieldsF code bs).a7.1 else first_ (fieldsF code bs).a7.1 4
def takeB (code : Int) (bs : List UInt8) : List UInt8 := (fieldsF code bs).a7.2.1
def takeE (code : Int) (bs : List UInt8) : En := if takeC code bs = 0 then (fieldsF code bs).en else enZero
theorem first_four (c : Int) : first_ c 4 ≠ 0 := by unfold first_; split <;> simp_all
theorem en_cells_one (e : En) : (#[.string e.k, .string e.v, .bool e.d, .int .i64 e.s.c, .int .i64 e.s.s, .int .i64 e.a.c, .int .i64 e.a.s, .int .i64 e.p, .int .i64 e.g] : Array Value).all (·.oneCell') = true := by simp [Value.oneCell']

set_option maxHeartbeats 1600000 in
theorem take_any (g : Nat) (S : Nat → Prop) (code : Int) (bs : List UInt8) (w : World) (hr : Rd w g S code bs) (fr : ∀ b, S b → b < w.heap.size) (hm : bs.length ≤ 140737488355328) :
    Calls Try.prog 15 #[.pointer (some ⟨g, 0, none⟩)] w fun e w' =>
      e = .returned (.agg #[.string (takeE code bs).k, .string (takeE code bs).v, .bool (takeE code bs).d, .int .i64 (takeE code bs).s.c, .int .i64 (takeE code bs).s.s, .int .i64 (takeE code bs).a.c, .int .i64 (takeE code bs).a.s, .int .i64 (takeE code bs).p, .int .i64 (takeE code bs).g]) ∧ Rd w' g S (takeC code bs) (takeB code bs) ∧ Only (one g) w w' := by
  have hg := hr.lt
  have R0 := Lib.hid (Blk.new w 27 #[.string ⟨#[]⟩, .string ⟨#[]⟩, .bool false, .int .i64 0, .int .i64 0, .int .i64 0, .int .i64 0, .int .i64 0, .int .i64 0])
  have o0 := (Only.refl none_ w).alloc (.cells #[.string ⟨#[]⟩, .string ⟨#[]⟩, .bool false, .int .i64 0, .int .i64 0, .int .i64 0, .int .i64 0, .int .i64 0, .int .i64 0] 27)
  have C := take_fields g S code bs (w.alloc (.cells #[.string ⟨#[]⟩, .string ⟨#[]⟩, .bool false, .int .i64 0, .int .i64 0, .int .i64 0, .int .i64 0, .int .i64 0, .int .i64 0] 27)) (hr.only o0 (fun h => h) (fun _ _ h => h)) (fun b hb => Nat.lt_of_lt_of_le (fr b hb) o0.size) hm
  have HD : Hid (takeC code bs = (if enCheck (fieldsF code bs).en = 0 then (fieldsF code bs).a7.1 else first_ (fieldsF code bs).a7.1 4) ∧ takeB code bs = (fieldsF code bs).a7.2.1 ∧ takeE code bs = (if takeC code bs = 0 then (fieldsF code bs).en else enZero)) := ⟨rfl, rfl, rfl⟩
  obtain ⟨f, hf⟩ : ∃ f, fieldsF code bs = f := ⟨_, rfl⟩
  rw [hf] at C HD
  obtain ⟨E, hE⟩ : ∃ E, f.en = E := ⟨_, rfl⟩
  obtain ⟨c7, h7⟩ : ∃ c, f.a7.1 = c := ⟨_, rfl⟩
  obtain ⟨b7, hb7⟩ : ∃ c, f.a7.2.1 = c := ⟨_, rfl⟩
  rw [hE, h7, hb7] at C HD
  obtain ⟨z, hz⟩ : ∃ z, enCheck E = z := ⟨_, rfl⟩
  rw [hz] at HD
  have HZ := Lib.hid hz
  have HG := Lib.hid hg
  have HC := Lib.hid C
  have FR := Lib.hid fr
  have O0 := Lib.hid (o0.of_none (S := one g))
  have ne0 : Hid (∀ k, k = w.heap.size → ¬ one g k) := fun k e e' => by have e'' : k = g := e'; omega
  clear hr fr hm hf hE h7 hb7 hz C hg o0
  by_cases hz0 : z = 0
  · subst hz0
    obtain ⟨hc1, hc2, hc3⟩ := HD.out
    rw [if_pos rfl] at hc1
    rw [hc1] at hc3
    by_cases h0 : c7 = 0
    · subst h0
      rw [if_pos rfl] at hc3
      have HE : Hid (takeC code bs = 0 ∧ takeB code bs = b7 ∧ takeE code bs = E) := ⟨hc1, hc2, hc3⟩
      clear hc1 hc2 hc3 HD
      go_enter Try.func15, Try.ntmps15
      go_wp2_with (first
        | (go_at_call 45; refine HC.out.mono ?_; rintro e w1 ⟨rfl, r1, o1⟩
           have R1 := Lib.hid (R0.out.only o1 (ne0.out _ rfl))
           have O1 := Lib.hid (O0.out.trans o1)
           have D1 := Lib.hid (r1.only ((Only.refl none_ w1).alloc (.cells #[.string E.k, .string E.v, .bool E.d, .int .i64 E.s.c, .int .i64 E.s.s, .int .i64 E.a.c, .int .i64 E.a.s, .int .i64 E.p, .int .i64 E.g] 27)) (fun h => h) (fun _ _ h => h))
           have B1 := Lib.hid (Blk.new w1 27 #[.string E.k, .string E.v, .bool E.d, .int .i64 E.s.c, .int .i64 E.s.s, .int .i64 E.a.c, .int .i64 E.a.s, .int .i64 E.p, .int .i64 E.g])
           have G1 : Hid (w1.heap.size ≠ g) := by have := HG.out; have := o1.size; rw [World.size_alloc] at this; simp only [Hid]; omega
           clear r1 o1)
        | (refine wpl_load rfl 27 _ rfl w1.heap.size rfl 27 #[.string E.k, .string E.v, .bool E.d, .int .i64 E.s.c, .int .i64 E.s.s, .int .i64 E.a.c, .int .i64 E.a.s, .int .i64 E.p, .int .i64 E.g] _ B1.out Try.underlying27 rfl (by kernel_rfl) ?_)
        | (go_at_call 46; refine (en_check E _).mono ?_; rw [HZ.out]; rintro e w2 ⟨rfl, o2⟩
           have oo := ((Only.refl none_ w1).alloc (.cells #[.string E.k, .string E.v, .bool E.d, .int .i64 E.s.c, .int .i64 E.s.s, .int .i64 E.a.c, .int .i64 E.a.s, .int .i64 E.p, .int .i64 E.g] 27)).trans o2
           have R2 := Lib.hid (R1.out.only oo (fun h => h))
           have O2 := Lib.hid (O1.out.trans oo.of_none)
           have D2 := Lib.hid (D1.out.only o2 (fun h => h) (fun _ _ h => h))
           have B2 := Lib.hid (B1.out.only o2 (fun h => h))
           clear oo o2)
        | (go_at_call 17; refine (reader_err g S _ _ _ D2.out).mono ?_; rintro e w4 ⟨rfl, rfl⟩)
        | (refine wpl_load rfl 27 _ rfl w1.heap.size rfl 27 #[.string E.k, .string E.v, .bool E.d, .int .i64 E.s.c, .int .i64 E.s.s, .int .i64 E.a.c, .int .i64 E.a.s, .int .i64 E.p, .int .i64 E.g] _ B2.out Try.underlying27 rfl (by kernel_rfl) ?_)
        | (refine wpList_store_row rfl 27 _ _ rfl w.heap.size #[.string E.k, .string E.v, .bool E.d, .int .i64 E.s.c, .int .i64 E.s.s, .int .i64 E.a.c, .int .i64 E.a.s, .int .i64 E.p, .int .i64 E.g] rfl rfl 27 _ R2.out (by kernel_rfl) rfl (by simp [Value.oneCell']) ?_
           have R5 := Lib.hid (R2.out.setRow #[.string E.k, .string E.v, .bool E.d, .int .i64 E.s.c, .int .i64 E.s.s, .int .i64 E.a.c, .int .i64 E.a.s, .int .i64 E.p, .int .i64 E.g])
           have W5 := Lib.hid ((Only.refl (one w.heap.size) w2).setRow (g := w.heap.size) (.inl (show one w.heap.size w.heap.size from rfl)) #[.string E.k, .string E.v, .bool E.d, .int .i64 E.s.c, .int .i64 E.s.s, .int .i64 E.a.c, .int .i64 E.a.s, .int .i64 E.p, .int .i64 E.g])
           have O5 := Lib.hid (O2.out.setRow (g := w.heap.size) (.inr (Nat.le_refl _)) #[.string E.k, .string E.v, .bool E.d, .int .i64 E.s.c, .int .i64 E.s.s, .int .i64 E.a.c, .int .i64 E.a.s, .int .i64 E.p, .int .i64 E.g])))
      refine bodyPost_ret (results_cell_row rfl _ _ w.heap.size 27 _ (0, 0) _ rfl R5.out Try.underlying27 rfl (by kernel_rfl)) rfl ?_
      have rF := D2.out.only W5.out (fun e => by have e' : g = w.heap.size := e; have := HG.out; omega) (fun b hb e => by have e' : b = w.heap.size := e; have := FR.out b hb; omega)
      rw [HE.out.1, HE.out.2.1, HE.out.2.2]
      exact ⟨rfl, rF, O5.out⟩
    · rw [if_neg h0] at hc3
      have HE : Hid (takeC code bs = c7 ∧ takeB code bs = b7 ∧ takeE code bs = enZero) := ⟨hc1, hc2, hc3⟩
      clear hc1 hc2 hc3 HD
      go_enter Try.func15, Try.ntmps15
      go_wp2_with (first
        | (go_at_call 45; refine HC.out.mono ?_; rintro e w1 ⟨rfl, r1, o1⟩
           have R1 := Lib.hid (R0.out.only o1 (ne0.out _ rfl))
           have O1 := Lib.hid (O0.out.trans o1)
           have D1 := Lib.hid (r1.only ((Only.refl none_ w1).alloc (.cells #[.string E.k, .string E.v, .bool E.d, .int .i64 E.s.c, .int .i64 E.s.s, .int .i64 E.a.c, .int .i64 E.a.s, .int .i64 E.p, .int .i64 E.g] 27)) (fun h => h) (fun _ _ h => h))
           have B1 := Lib.hid (Blk.new w1 27 #[.string E.k, .string E.v, .bool E.d, .int .i64 E.s.c, .int .i64 E.s.s, .int .i64 E.a.c, .int .i64 E.a.s, .int .i64 E.p, .int .i64 E.g])
           have G1 : Hid (w1.heap.size ≠ g) := by have := HG.out; have := o1.size; rw [World.size_alloc] at this; simp only [Hid]; omega
           clear r1 o1)
        | (refine wpl_load rfl 27 _ rfl w1.heap.size rfl 27 #[.string E.k, .string E.v, .bool E.d, .int .i64 E.s.c, .int .i64 E.s.s, .int .i64 E.a.c, .int .i64 E.a.s, .int .i64 E.p, .int .i64 E.g] _ B1.out Try.underlying27 rfl (by kernel_rfl) ?_)
        | (go_at_call 46; refine (en_check E _).mono ?_; rw [HZ.out]; rintro e w2 ⟨rfl, o2⟩
           have oo := ((Only.refl none_ w1).alloc (.cells #[.string E.k, .string E.v, .bool E.d, .int .i64 E.s.c, .int .i64 E.s.s, .int .i64 E.a.c, .int .i64 E.a.s, .int .i64 E.p, .int .i64 E.g] 27)).trans o2
           have R2 := Lib.hid (R1.out.only oo (fun h => h))
           have O2 := Lib.hid (O1.out.trans oo.of_none)
           have D2 := Lib.hid (D1.out.only o2 (fun h => h) (fun _ _ h => h))
           have B2 := Lib.hid (B1.out.only o2 (fun h => h))
           clear oo o2)
        | (go_at_call 17; refine (reader_err g S _ _ _ D2.out).mono ?_; rintro e w4 ⟨rfl, rfl⟩)
        | (refine wpList_store_row rfl 27 _ _ rfl w.heap.size #[.string ⟨#[]⟩, .string ⟨#[]⟩, .bool false, .int .i64 0, .int .i64 0, .int .i64 0, .int .i64 0, .int .i64 0, .int .i64 0] rfl rfl 27 _ R2.out (by kernel_rfl) rfl (by simp [Value.oneCell']) ?_
           have R5 := Lib.hid (R2.out.setRow #[.string ⟨#[]⟩, .string ⟨#[]⟩, .bool false, .int .i64 0, .int .i64 0, .int .i64 0, .int .i64 0, .int .i64 0, .int .i64 0])
           have W5 := Lib.hid ((Only.refl (one w.heap.size) w2).setRow (g := w.heap.size) (.inl (show one w.heap.size w.heap.size from rfl)) #[.string ⟨#[]⟩, .string ⟨#[]⟩, .bool false, .int .i64 0, .int .i64 0, .int .i64 0, .int .i64 0, .int .i64 0, .int .i64 0])
           have O5 := Lib.hid (O2.out.setRow (g := w.heap.size) (.inr (Nat.le_refl _)) #[.string ⟨#[]⟩, .string ⟨#[]⟩, .bool false, .int .i64 0, .int .i64 0, .int .i64 0, .int .i64 0, .int .i64 0, .int .i64 0])))
      refine bodyPost_ret (results_cell_row rfl _ _ w.heap.size 27 _ (0, 0) _ rfl R5.out Try.underlying27 rfl (by kernel_rfl)) rfl ?_
      have rF := D2.out.only W5.out (fun e => by have e' : g = w.heap.size := e; have := HG.out; omega) (fun b hb e => by have e' : b = w.heap.size := e; have := FR.out b hb; omega)
      rw [HE.out.1, HE.out.2.1, HE.out.2.2]
      exact ⟨rfl, rF, O5.out⟩
  · obtain ⟨hc1, hc2, hc3⟩ := HD.out
    rw [if_neg hz0] at hc1
    rw [hc1] at hc3
    have h4 := first_four c7
    rw [if_neg h4] at hc3
    obtain ⟨c8, h8⟩ : ∃ c, first_ c7 4 = c := ⟨_, rfl⟩
    rw [h8] at h4 hc1
    have HE : Hid (takeC code bs = c8 ∧ takeB code bs = b7 ∧ takeE code bs = enZero) := ⟨hc1, hc2, hc3⟩
    have H8 := Lib.hid h8
    clear hc1 hc2 hc3 HD h8
    go_enter Try.func15, Try.ntmps15
    go_wp2_with (first
      | (go_at_call 45; refine HC.out.mono ?_; rintro e w1 ⟨rfl, r1, o1⟩
         have R1 := Lib.hid (R0.out.only o1 (ne0.out _ rfl))
         have O1 := Lib.hid (O0.out.trans o1)
         have D1 := Lib.hid (r1.only ((Only.refl none_ w1).alloc (.cells #[.string E.k, .string E.v, .bool E.d, .int .i64 E.s.c, .int .i64 E.s.s, .int .i64 E.a.c, .int .i64 E.a.s, .int .i64 E.p, .int .i64 E.g] 27)) (fun h => h) (fun _ _ h => h))
         have B1 := Lib.hid (Blk.new w1 27 #[.string E.k, .string E.v, .bool E.d, .int .i64 E.s.c, .int .i64 E.s.s, .int .i64 E.a.c, .int .i64 E.a.s, .int .i64 E.p, .int .i64 E.g])
         have G1 : Hid (w1.heap.size ≠ g) := by have := HG.out; have := o1.size; rw [World.size_alloc] at this; simp only [Hid]; omega
         clear r1 o1)
      | (refine wpl_load rfl 27 _ rfl w1.heap.size rfl 27 #[.string E.k, .string E.v, .bool E.d, .int .i64 E.s.c, .int .i64 E.s.s, .int .i64 E.a.c, .int .i64 E.a.s, .int .i64 E.p, .int .i64 E.g] _ B1.out Try.underlying27 rfl (by kernel_rfl) ?_)
      | (go_at_call 46; refine (en_check E _).mono ?_; rw [HZ.out]; rintro e w2 ⟨rfl, o2⟩
         have oo := ((Only.refl none_ w1).alloc (.cells #[.string E.k, .string E.v, .bool E.d, .int .i64 E.s.c, .int .i64 E.s.s, .int .i64 E.a.c, .int .i64 E.a.s, .int .i64 E.p, .int .i64 E.g] 27)).trans o2
         have R2 := Lib.hid (R1.out.only oo (fun h => h))
         have O2 := Lib.hid (O1.out.trans oo.of_none)
         have D2 := Lib.hid (D1.out.only o2 (fun h => h) (fun _ _ h => h))
         have B2 := Lib.hid (B1.out.only o2 (fun h => h))
         clear oo o2)
      | (go_at_call 47; refine (reader_fail g S _ 4 _ _ D2.out).mono ?_; rw [H8.out]; rintro e w3 ⟨rfl, r3, o3⟩
         have R3 := Lib.hid (R2.out.only o3 (ne0.out _ rfl))
         have O3 := Lib.hid (O2.out.trans o3)
         have D3 := Lib.hid r3
         have B3 := Lib.hid (B2.out.only o3 (fun e => G1.out e))
         clear r3 o3)
      | (go_at_call 17; refine (reader_err g S _ _ _ D3.out).mono ?_; rintro e w4 ⟨rfl, rfl⟩)
      | (refine wpList_store_row rfl 27 _ _ rfl w.heap.size #[.string ⟨#[]⟩, .string ⟨#[]⟩, .bool false, .int .i64 0, .int .i64 0, .int .i64 0, .int .i64 0, .int .i64 0, .int .i64 0] rfl rfl 27 _ R3.out (by kernel_rfl) rfl (by simp [Value.oneCell']) ?_
         have R5 := Lib.hid (R3.out.setRow #[.string ⟨#[]⟩, .string ⟨#[]⟩, .bool false, .int .i64 0, .int .i64 0, .int .i64 0, .int .i64 0, .int .i64 0, .int .i64 0])
         have W5 := Lib.hid ((Only.refl (one w.heap.size) w3).setRow (g := w.heap.size) (.inl (show one w.heap.size w.heap.size from rfl)) #[.string ⟨#[]⟩, .string ⟨#[]⟩, .bool false, .int .i64 0, .int .i64 0, .int .i64 0, .int .i64 0, .int .i64 0, .int .i64 0])
         have O5 := Lib.hid (O3.out.setRow (g := w.heap.size) (.inr (Nat.le_refl _)) #[.string ⟨#[]⟩, .string ⟨#[]⟩, .bool false, .int .i64 0, .int .i64 0, .int .i64 0, .int .i64 0, .int .i64 0, .int .i64 0])))
    refine bodyPost_ret (results_cell_row rfl _ _ w.heap.size 27 _ (0, 0) _ rfl R5.out Try.underlying27 rfl (by kernel_rfl)) rfl ?_
    have rF := D3.out.only W5.out (fun e => by have e' : g = w.heap.size := e; have := HG.out; omega) (fun b hb e => by have e' : b = w.heap.size := e; have := FR.out b hb; omega)
    rw [HE.out.1, HE.out.2.1, HE.out.2.2]
    exact ⟨rfl, rF, O5.out⟩
end Go.Proofs.Ytdjondjlengapaa
