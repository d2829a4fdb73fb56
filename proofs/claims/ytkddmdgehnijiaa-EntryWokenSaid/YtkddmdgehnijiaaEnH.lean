/- What package entry's checked, Put, Delete and Wake do. No statement of the seat is proved here. -/
import Derived.Test.YtkddmdgehnijiaaEnC
import Derived.Test.YtkddmdgehnijiaaEnE
import Derived.Test.YtkddmdgehnijiaaRefT
namespace Go.Proofs.Ytkddmdgehnijiaa
open Go.RowKit
set_option maxRecDepth 100000

theorem blk_more {w : World} {t u : TypeId} (x y : Array Value) : Blk ((w.alloc (.cells x t)).alloc (.cells y u)) (w.heap.size + 1) u y := by have := Blk.new (w.alloc (.cells x t)) u y; simpa using this

set_option maxHeartbeats 1600000 in
theorem en_checked (e : En) (w : World) :
    Calls Try.prog 57 #[.agg #[.string e.k, .string e.v, .bool e.d, .int .i64 e.s.c, .int .i64 e.s.s, .int .i64 e.a.c, .int .i64 e.a.s, .int .i64 e.p, .int .i64 e.g]] w fun E w' => E = .returned (.tuple #[.agg #[.string (enChecked e).1.k, .string (enChecked e).1.v, .bool (enChecked e).1.d, .int .i64 (enChecked e).1.s.c, .int .i64 (enChecked e).1.s.s, .int .i64 (enChecked e).1.a.c, .int .i64 (enChecked e).1.a.s, .int .i64 (enChecked e).1.p, .int .i64 (enChecked e).1.g], .int .i64 (enChecked e).2]) ∧ Only none_ w w' := by
  have O := Lib.hid (((Only.refl none_ w).alloc (.cells #[.string e.k, .string e.v, .bool e.d, .int .i64 e.s.c, .int .i64 e.s.s, .int .i64 e.a.c, .int .i64 e.a.s, .int .i64 e.p, .int .i64 e.g] 35)).alloc (.cells #[.string enZero.k, .string enZero.v, .bool enZero.d, .int .i64 enZero.s.c, .int .i64 enZero.s.s, .int .i64 enZero.a.c, .int .i64 enZero.a.s, .int .i64 enZero.p, .int .i64 enZero.g] 35))
  have BX := Lib.hid ((Blk.new w 35 #[.string e.k, .string e.v, .bool e.d, .int .i64 e.s.c, .int .i64 e.s.s, .int .i64 e.a.c, .int .i64 e.a.s, .int .i64 e.p, .int .i64 e.g]).alloc (.cells #[.string enZero.k, .string enZero.v, .bool enZero.d, .int .i64 enZero.s.c, .int .i64 enZero.s.s, .int .i64 enZero.a.c, .int .i64 enZero.a.s, .int .i64 enZero.p, .int .i64 enZero.g] 35))
  have BZ := Lib.hid (blk_more (w := w) (t := 35) (u := 35) #[.string e.k, .string e.v, .bool e.d, .int .i64 e.s.c, .int .i64 e.s.s, .int .i64 e.a.c, .int .i64 e.a.s, .int .i64 e.p, .int .i64 e.g] #[.string enZero.k, .string enZero.v, .bool enZero.d, .int .i64 enZero.s.c, .int .i64 enZero.s.s, .int .i64 enZero.a.c, .int .i64 enZero.a.s, .int .i64 enZero.p, .int .i64 enZero.g])
  have HC : Hid (enChecked e = if enCheck e = 0 then (e, 0) else (enZero, enCheck e)) := rfl
  simp only [enZero, stZero] at O BX BZ
  obtain ⟨z, hz⟩ : ∃ z, enCheck e = z := ⟨_, rfl⟩
  rw [hz] at HC
  have HZ := Lib.hid hz
  clear hz
  cases h : z != 0
  · have hz0 : z = 0 := by simpa using h
    have HR : Hid (enChecked e = (e, 0)) := by rw [Hid, HC.out, if_pos hz0]
    go_enter Try.func57, Try.ntmps57
    go_wp2_with (go_at_call 15; refine (en_check e _).mono ?_; rintro E w1 ⟨rfl, o1⟩; rw [HZ.out]
                 have O1 := Lib.hid (O.out.trans o1)
                 have B1 := Lib.hid (BZ.out.only o1 (fun h => h))
                 have q := nine_of (BX.out.only o1 (fun h => h))
                 have q1 := nine_of B1.out
                 have z1 := frozen9 B1.out
                 clear o1)
    refine bodyPost_ret (results_cell_tmp rfl _ _ (w.heap.size + 1) 35 _ _ rfl (fill9_blk B1.out _ _ _ _ _ _ _ _ _) Try.underlying35 rfl (by kernel_rfl) _ rfl) rfl ?_
    rw [HR.out]
    exact ⟨rfl, fill9_only O1.out (.inr (by simp)) _ _ _ _ _ _ _ _ _⟩
  · have hz0 : z ≠ 0 := by simpa using h
    have HR : Hid (enChecked e = (enZero, z)) := by rw [Hid, HC.out, if_neg hz0]
    go_enter Try.func57, Try.ntmps57
    go_wp2_with (go_at_call 15; refine (en_check e _).mono ?_; rintro E w1 ⟨rfl, o1⟩; rw [HZ.out]
                 have O1 := Lib.hid (O.out.trans o1)
                 have B1 := Lib.hid (BZ.out.only o1 (fun h => h))
                 have q1 := nine_of B1.out
                 have z1 := frozen9 B1.out
                 clear o1)
    refine bodyPost_ret (results_cell_tmp rfl _ _ (w.heap.size + 1) 35 _ _ rfl (fill9_blk B1.out _ _ _ _ _ _ _ _ _) Try.underlying35 rfl (by kernel_rfl) _ rfl) rfl ?_
    rw [HR.out]
    exact ⟨rfl, fill9_only O1.out (.inr (by simp)) _ _ _ _ _ _ _ _ _⟩

set_option maxHeartbeats 1600000 in
theorem en_put (k v : ByteArray) (s : St) (w : World) :
    Calls Try.prog 27 #[.string k, .string v, .agg #[.int .i64 s.c, .int .i64 s.s]] w fun E w' => E = .returned (.tuple #[.agg #[.string (enChecked ⟨k, v, false, s, s, 0, 0⟩).1.k, .string (enChecked ⟨k, v, false, s, s, 0, 0⟩).1.v, .bool (enChecked ⟨k, v, false, s, s, 0, 0⟩).1.d, .int .i64 (enChecked ⟨k, v, false, s, s, 0, 0⟩).1.s.c, .int .i64 (enChecked ⟨k, v, false, s, s, 0, 0⟩).1.s.s, .int .i64 (enChecked ⟨k, v, false, s, s, 0, 0⟩).1.a.c, .int .i64 (enChecked ⟨k, v, false, s, s, 0, 0⟩).1.a.s, .int .i64 (enChecked ⟨k, v, false, s, s, 0, 0⟩).1.p, .int .i64 (enChecked ⟨k, v, false, s, s, 0, 0⟩).1.g], .int .i64 (enChecked ⟨k, v, false, s, s, 0, 0⟩).2]) ∧ Only none_ w w' := by
  have O := Lib.hid (((Only.refl none_ w).alloc (.cells #[.int .i64 s.c, .int .i64 s.s] 33)).alloc (.cells #[.string enZero.k, .string enZero.v, .bool enZero.d, .int .i64 enZero.s.c, .int .i64 enZero.s.s, .int .i64 enZero.a.c, .int .i64 enZero.a.s, .int .i64 enZero.p, .int .i64 enZero.g] 35))
  have BZ := Lib.hid (blk_more (w := w) (t := 33) (u := 35) #[.int .i64 s.c, .int .i64 s.s] #[.string enZero.k, .string enZero.v, .bool enZero.d, .int .i64 enZero.s.c, .int .i64 enZero.s.s, .int .i64 enZero.a.c, .int .i64 enZero.a.s, .int .i64 enZero.p, .int .i64 enZero.g])
  simp only [enZero, stZero] at O BZ
  have HC := fun w => en_checked ⟨k, v, false, s, s, 0, 0⟩ w
  obtain ⟨r, hr⟩ : ∃ r, enChecked ⟨k, v, false, s, s, 0, 0⟩ = r := ⟨_, rfl⟩
  rw [hr] at HC ⊢
  clear hr
  obtain ⟨f, z⟩ := r
  simp only at HC ⊢
  have HH := Lib.hid HC
  clear HC
  go_enter Try.func27, Try.ntmps27
  go_wp2_with (go_at_call 57; refine (HH.out _).mono ?_; rintro E w1 ⟨rfl, o1⟩
               have O1 := Lib.hid (O.out.trans o1)
               have B1 := Lib.hid (BZ.out.only o1 (fun h => h))
               have q1 := nine_of B1.out
               have z1 := frozen9 B1.out
               clear o1)
  exact bodyPost_ret (results_cell_tmp rfl _ _ (w.heap.size + 1) 35 _ _ rfl (fill9_blk B1.out _ _ _ _ _ _ _ _ _) Try.underlying35 rfl (by kernel_rfl) _ rfl) rfl ⟨rfl, fill9_only O1.out (.inr (by simp)) _ _ _ _ _ _ _ _ _⟩

set_option maxHeartbeats 1600000 in
theorem en_delete (k : ByteArray) (s : St) (p : Int) (w : World) :
    Calls Try.prog 28 #[.string k, .agg #[.int .i64 s.c, .int .i64 s.s], .int .i64 p] w fun E w' => E = .returned (.tuple #[.agg #[.string (enChecked ⟨k, ⟨#[]⟩, true, s, s, p, 0⟩).1.k, .string (enChecked ⟨k, ⟨#[]⟩, true, s, s, p, 0⟩).1.v, .bool (enChecked ⟨k, ⟨#[]⟩, true, s, s, p, 0⟩).1.d, .int .i64 (enChecked ⟨k, ⟨#[]⟩, true, s, s, p, 0⟩).1.s.c, .int .i64 (enChecked ⟨k, ⟨#[]⟩, true, s, s, p, 0⟩).1.s.s, .int .i64 (enChecked ⟨k, ⟨#[]⟩, true, s, s, p, 0⟩).1.a.c, .int .i64 (enChecked ⟨k, ⟨#[]⟩, true, s, s, p, 0⟩).1.a.s, .int .i64 (enChecked ⟨k, ⟨#[]⟩, true, s, s, p, 0⟩).1.p, .int .i64 (enChecked ⟨k, ⟨#[]⟩, true, s, s, p, 0⟩).1.g], .int .i64 (enChecked ⟨k, ⟨#[]⟩, true, s, s, p, 0⟩).2]) ∧ Only none_ w w' := by
  have O := Lib.hid (((Only.refl none_ w).alloc (.cells #[.int .i64 s.c, .int .i64 s.s] 33)).alloc (.cells #[.string enZero.k, .string enZero.v, .bool enZero.d, .int .i64 enZero.s.c, .int .i64 enZero.s.s, .int .i64 enZero.a.c, .int .i64 enZero.a.s, .int .i64 enZero.p, .int .i64 enZero.g] 35))
  have BZ := Lib.hid (blk_more (w := w) (t := 33) (u := 35) #[.int .i64 s.c, .int .i64 s.s] #[.string enZero.k, .string enZero.v, .bool enZero.d, .int .i64 enZero.s.c, .int .i64 enZero.s.s, .int .i64 enZero.a.c, .int .i64 enZero.a.s, .int .i64 enZero.p, .int .i64 enZero.g])
  simp only [enZero, stZero] at O BZ
  have HC := fun w => en_checked ⟨k, ⟨#[]⟩, true, s, s, p, 0⟩ w
  obtain ⟨r, hr⟩ : ∃ r, enChecked ⟨k, ⟨#[]⟩, true, s, s, p, 0⟩ = r := ⟨_, rfl⟩
  rw [hr] at HC ⊢
  clear hr
  obtain ⟨f, z⟩ := r
  simp only at HC ⊢
  have HH := Lib.hid HC
  clear HC
  go_enter Try.func28, Try.ntmps28
  go_wp2_with (go_at_call 57; refine (HH.out _).mono ?_; rintro E w1 ⟨rfl, o1⟩
               have O1 := Lib.hid (O.out.trans o1)
               have B1 := Lib.hid (BZ.out.only o1 (fun h => h))
               have q1 := nine_of B1.out
               have z1 := frozen9 B1.out
               clear o1)
  exact bodyPost_ret (results_cell_tmp rfl _ _ (w.heap.size + 1) 35 _ _ rfl (fill9_blk B1.out _ _ _ _ _ _ _ _ _) Try.underlying35 rfl (by kernel_rfl) _ rfl) rfl ⟨rfl, fill9_only O1.out (.inr (by simp)) _ _ _ _ _ _ _ _ _⟩
end Go.Proofs.Ytkddmdgehnijiaa
