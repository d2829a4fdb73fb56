/- What Decode of package entry does. No statement of the seat is proved here. -/
import Derived.Test.YtdjondjlengapaaEnX
namespace Go.Proofs.Ytdjondjlengapaa
open Go.RowKit
set_option maxRecDepth 100000

def decC (bs : List UInt8) : Int := doneCode (takeC 0 bs) (takeB 0 bs)
def decE (bs : List UInt8) : En := if decC bs = 0 then takeE 0 bs else enZero
theorem only_new {w a b : World} {g : Nat} (h : Only none_ w a) (o : Only (one g) a b) (hg : w.heap.size ≤ g) : Only none_ w b :=
  h.trans' o (fun k hk e => by have e' : k = g := e; omega)

set_option maxHeartbeats 1600000 in
theorem decode_any (A : Option Addr) (L c : Nat) (bs : List UInt8) (S : Nat → Prop) (w : World) (hx : Byt w S (.slice A L c) bs) (hm : bs.length ≤ 140737488355328) :
    Calls Try.prog 11 #[.slice A L c] w fun e w' => e = .returned (.tuple #[.agg #[.string (decE bs).k, .string (decE bs).v, .bool (decE bs).d, .int .i64 (decE bs).s.c, .int .i64 (decE bs).s.s, .int .i64 (decE bs).a.c, .int .i64 (decE bs).a.s, .int .i64 (decE bs).p, .int .i64 (decE bs).g], .int .i64 (decC bs)]) ∧ Only none_ w w' := by
  have R0 := Lib.hid (Blk.new w 27 #[.string ⟨#[]⟩, .string ⟨#[]⟩, .bool false, .int .i64 0, .int .i64 0, .int .i64 0, .int .i64 0, .int .i64 0, .int .i64 0])
  have O0 := Lib.hid ((Only.refl none_ w).alloc (.cells #[.string ⟨#[]⟩, .string ⟨#[]⟩, .bool false, .int .i64 0, .int .i64 0, .int .i64 0, .int .i64 0, .int .i64 0, .int .i64 0] 27))
  have X0 := Lib.hid (hx.alloc (.cells #[.string ⟨#[]⟩, .string ⟨#[]⟩, .bool false, .int .i64 0, .int .i64 0, .int .i64 0, .int .i64 0, .int .i64 0, .int .i64 0] 27))
  have Z0 : Hid (w.heap.size + 1 ≤ (w.alloc (.cells #[.string ⟨#[]⟩, .string ⟨#[]⟩, .bool false, .int .i64 0, .int .i64 0, .int .i64 0, .int .i64 0, .int .i64 0, .int .i64 0] 27)).heap.size) := by simp [Hid]
  have HM := Lib.hid hm
  have HD : Hid (decC bs = doneCode (takeC 0 bs) (takeB 0 bs) ∧ decE bs = (if decC bs = 0 then takeE 0 bs else enZero)) := ⟨rfl, rfl⟩
  have HT : Hid (∀ g S w, Rd w g S 0 bs → (∀ b, S b → b < w.heap.size) → Calls Try.prog 15 #[.pointer (some ⟨g, 0, none⟩)] w fun e w' => e = .returned (.agg #[.string (takeE 0 bs).k, .string (takeE 0 bs).v, .bool (takeE 0 bs).d, .int .i64 (takeE 0 bs).s.c, .int .i64 (takeE 0 bs).s.s, .int .i64 (takeE 0 bs).a.c, .int .i64 (takeE 0 bs).a.s, .int .i64 (takeE 0 bs).p, .int .i64 (takeE 0 bs).g]) ∧ Rd w' g S (takeC 0 bs) (takeB 0 bs) ∧ Only (one g) w w') :=
    fun g S w hr fr => take_any g S 0 bs w hr fr hm
  obtain ⟨E, hE⟩ : ∃ E, takeE 0 bs = E := ⟨_, rfl⟩
  obtain ⟨c7, h7⟩ : ∃ c, takeC 0 bs = c := ⟨_, rfl⟩
  obtain ⟨b7, hb7⟩ : ∃ c, takeB 0 bs = c := ⟨_, rfl⟩
  obtain ⟨z, hz⟩ : ∃ c, doneCode c7 b7 = c := ⟨_, rfl⟩
  rw [hE, h7, hb7] at HT
  rw [hE, h7, hb7, hz] at HD
  have HZ := Lib.hid hz
  clear hx hm hE h7 hb7 hz
  by_cases hz0 : z = 0
  · subst hz0
    have HE : Hid (decC bs = 0 ∧ decE bs = E) := ⟨HD.out.1, by have h1 := HD.out.2; rw [HD.out.1, if_pos rfl] at h1; exact h1⟩
    clear HD
    go_enter Try.func11, Try.ntmps11
    go_wp2_with (first
      | (go_at_call 14; refine (read_any _ bs S _ X0.out HM.out).mono ?_; rintro e w1 ⟨g, S1, rfl, hg, r1, hS1, o1⟩
         have D1 := Lib.hid r1
         have R1 := Lib.hid (R0.out.only o1 (fun h => h))
         have O1 := Lib.hid (O0.out.trans o1)
         have FR := Lib.hid hS1
         have HG : Hid (w.heap.size + 1 ≤ g) := Nat.le_trans Z0.out hg
         clear r1 o1 hg hS1)
      | (go_at_call 15; refine (HT.out g S1 w1 D1.out (fun b hb => (FR.out b hb).2)).mono ?_; rintro e w2 ⟨rfl, r2, o2⟩
         have hgt := HG.out
         have oa := (Only.refl none_ w2).alloc (.cells #[.string E.k, .string E.v, .bool E.d, .int .i64 E.s.c, .int .i64 E.s.s, .int .i64 E.a.c, .int .i64 E.a.s, .int .i64 E.p, .int .i64 E.g] 27)
         have D2 := Lib.hid (r2.only oa (fun h => h) (fun _ _ h => h))
         have R2 := Lib.hid ((R1.out.only o2 (fun e => by have e' : w.heap.size = g := e; omega)).only oa (fun h => h))
         have O2 := Lib.hid ((only_new O1.out o2 (by omega)).trans oa)
         have B2 := Lib.hid (Blk.new w2 27 #[.string E.k, .string E.v, .bool E.d, .int .i64 E.s.c, .int .i64 E.s.s, .int .i64 E.a.c, .int .i64 E.a.s, .int .i64 E.p, .int .i64 E.g])
         have G2 : Hid (w2.heap.size ≠ g) := by have := D1.out.lt; have := o2.size; simp only [Hid]; omega
         clear r2 o2 oa hgt)
      | (go_at_call 41; refine (reader_done g S1 _ _ _ D2.out).mono ?_; rw [HZ.out]; rintro e w3 ⟨rfl, r3, o3⟩
         have hgt := HG.out
         have R3 := Lib.hid (R2.out.only o3 (fun e => by have e' : w.heap.size = g := e; omega))
         have O3 := Lib.hid (only_new O2.out o3 (by omega))
         have B3 := Lib.hid (B2.out.only o3 (fun e => G2.out e))
         clear r3 o3 hgt)
      | (refine wpl_load rfl 27 _ rfl w2.heap.size rfl 27 #[.string E.k, .string E.v, .bool E.d, .int .i64 E.s.c, .int .i64 E.s.s, .int .i64 E.a.c, .int .i64 E.a.s, .int .i64 E.p, .int .i64 E.g] _ B3.out Try.underlying27 rfl (by kernel_rfl) ?_)
      | (refine wpList_store_row rfl 27 _ _ rfl w.heap.size #[.string E.k, .string E.v, .bool E.d, .int .i64 E.s.c, .int .i64 E.s.s, .int .i64 E.a.c, .int .i64 E.a.s, .int .i64 E.p, .int .i64 E.g] rfl rfl 27 _ R3.out (by kernel_rfl) rfl (by simp [Value.oneCell']) ?_
         have R5 := Lib.hid (R3.out.setRow #[.string E.k, .string E.v, .bool E.d, .int .i64 E.s.c, .int .i64 E.s.s, .int .i64 E.a.c, .int .i64 E.a.s, .int .i64 E.p, .int .i64 E.g])
         have O5 := Lib.hid (O3.out.setRow (g := w.heap.size) (.inr (Nat.le_refl _)) #[.string E.k, .string E.v, .bool E.d, .int .i64 E.s.c, .int .i64 E.s.s, .int .i64 E.a.c, .int .i64 E.a.s, .int .i64 E.p, .int .i64 E.g])))
    refine bodyPost_ret (results_cell_tmp rfl _ _ w.heap.size 27 _ _ rfl R5.out Try.underlying27 rfl (by kernel_rfl) (.int .i64 0) rfl) rfl ?_
    rw [HE.out.1, HE.out.2]
    exact ⟨rfl, O5.out⟩
  · have HE : Hid (decC bs = z ∧ decE bs = enZero) := ⟨HD.out.1, by have h1 := HD.out.2; rw [HD.out.1, if_neg hz0] at h1; exact h1⟩
    clear HD
    go_enter Try.func11, Try.ntmps11
    go_wp2_with (first
      | (go_at_call 14; refine (read_any _ bs S _ X0.out HM.out).mono ?_; rintro e w1 ⟨g, S1, rfl, hg, r1, hS1, o1⟩
         have D1 := Lib.hid r1
         have R1 := Lib.hid (R0.out.only o1 (fun h => h))
         have O1 := Lib.hid (O0.out.trans o1)
         have FR := Lib.hid hS1
         have HG : Hid (w.heap.size + 1 ≤ g) := Nat.le_trans Z0.out hg
         clear r1 o1 hg hS1)
      | (go_at_call 15; refine (HT.out g S1 w1 D1.out (fun b hb => (FR.out b hb).2)).mono ?_; rintro e w2 ⟨rfl, r2, o2⟩
         have hgt := HG.out
         have oa := (Only.refl none_ w2).alloc (.cells #[.string E.k, .string E.v, .bool E.d, .int .i64 E.s.c, .int .i64 E.s.s, .int .i64 E.a.c, .int .i64 E.a.s, .int .i64 E.p, .int .i64 E.g] 27)
         have D2 := Lib.hid (r2.only oa (fun h => h) (fun _ _ h => h))
         have R2 := Lib.hid ((R1.out.only o2 (fun e => by have e' : w.heap.size = g := e; omega)).only oa (fun h => h))
         have O2 := Lib.hid ((only_new O1.out o2 (by omega)).trans oa)
         have B2 := Lib.hid (Blk.new w2 27 #[.string E.k, .string E.v, .bool E.d, .int .i64 E.s.c, .int .i64 E.s.s, .int .i64 E.a.c, .int .i64 E.a.s, .int .i64 E.p, .int .i64 E.g])
         have G2 : Hid (w2.heap.size ≠ g) := by have := D1.out.lt; have := o2.size; simp only [Hid]; omega
         clear r2 o2 oa hgt)
      | (go_at_call 41; refine (reader_done g S1 _ _ _ D2.out).mono ?_; rw [HZ.out]; rintro e w3 ⟨rfl, r3, o3⟩
         have hgt := HG.out
         have R3 := Lib.hid (R2.out.only o3 (fun e => by have e' : w.heap.size = g := e; omega))
         have O3 := Lib.hid (only_new O2.out o3 (by omega))
         have B3 := Lib.hid (B2.out.only o3 (fun e => G2.out e))
         clear r3 o3 hgt)
      | (refine wpList_store_row rfl 27 _ _ rfl w.heap.size #[.string ⟨#[]⟩, .string ⟨#[]⟩, .bool false, .int .i64 0, .int .i64 0, .int .i64 0, .int .i64 0, .int .i64 0, .int .i64 0] rfl rfl 27 _ R3.out (by kernel_rfl) rfl (by simp [Value.oneCell']) ?_
         have R5 := Lib.hid (R3.out.setRow #[.string ⟨#[]⟩, .string ⟨#[]⟩, .bool false, .int .i64 0, .int .i64 0, .int .i64 0, .int .i64 0, .int .i64 0, .int .i64 0])
         have O5 := Lib.hid (O3.out.setRow (g := w.heap.size) (.inr (Nat.le_refl _)) #[.string ⟨#[]⟩, .string ⟨#[]⟩, .bool false, .int .i64 0, .int .i64 0, .int .i64 0, .int .i64 0, .int .i64 0, .int .i64 0])))
    refine bodyPost_ret (results_cell_tmp rfl _ _ w.heap.size 27 _ _ rfl R5.out Try.underlying27 rfl (by kernel_rfl) (.int .i64 z) rfl) rfl ?_
    rw [HE.out.1, HE.out.2]
    exact ⟨rfl, O5.out⟩
end Go.Proofs.Ytdjondjlengapaa
