/- A clock in one goroutine: its counter, that is read, set and moved on, its site, and how it is made. No statement of the seat is proved here. -/
import Derived.Test.YtolgjjjclihmkaaStA
import Derived.Laws.LoneSync
namespace Go.Proofs.Ytolgjjjclihmkaa
open Go.RowKit
set_option maxRecDepth 100000

theorem load64 (a : Addr) (n : Int) (w : World) (hc : w.cell? a = some (.int .i64 n)) :
    Calls Try.prog 30 #[.pointer (some a)] w fun e w' => e = .returned (.int .i64 n) ∧ w = w' := by
  have hl := run_call_load (P := Try.prog) Try.func34 (by kernel_rfl) (by kernel_rfl) (by kernel_rfl) .i64 (by kernel_rfl) hc
  go_enter Try.func30, Try.ntmps30
  go_wp2
  go_ret
  exact ⟨rfl, rfl⟩
theorem store64 (a : Addr) (n : Int) (x : Value) (w : World) (hc : w.cell? a = some x) (hz : w.frozen? a = false) :
    Calls Try.prog 28 #[.pointer (some a), .int .i64 n] w fun e w' => e = .returned (.tuple #[]) ∧ w' = w.setCell a (.int .i64 n) := by
  have hst := run_call_store (P := Try.prog) Try.func32 (by kernel_rfl) (by kernel_rfl) (by kernel_rfl) (by kernel_rfl) (k := .i64) (y := n) hc hz
  go_enter Try.func28, Try.ntmps28
  go_wp2
  go_end0
  exact ⟨rfl, rfl⟩
theorem cas64 (a : Addr) (n m : Int) (w : World) (hc : w.cell? a = some (.int .i64 n)) (hz : w.frozen? a = false) :
    Calls Try.prog 33 #[.pointer (some a), .int .i64 n, .int .i64 m] w fun e w' => e = .returned (.bool true) ∧ w' = w.setCell a (.int .i64 m) := by
  have hst := run_call_cas_hit (P := Try.prog) Try.func35 (by kernel_rfl) (by kernel_rfl) (by kernel_rfl) .i64 (by kernel_rfl) (y := m) hc hz
  go_enter Try.func33, Try.ntmps33
  go_wp2
  go_ret
  exact ⟨rfl, rfl⟩

/-- At block g lies a clock of that site, whose counter is n. -/
def Clk (w : World) (g : Nat) (s n : Int) : Prop := Blk w g 67 #[.int .i64 s, .int .i64 n]
section
variable {w w' : World} {g : Nat} {s n : Int}
theorem Clk.site (h : Clk w g s n) : w.cell? ⟨g, 0, none⟩ = some (.int .i64 s) := Blk.cell_ (t := 67) h rfl
theorem Clk.count (h : Clk w g s n) : w.cell? ⟨g, 1, none⟩ = some (.int .i64 n) := Blk.cell_ (t := 67) h rfl
theorem Clk.free (h : Clk w g s n) (i : Nat) : w.frozen? ⟨g, i, none⟩ = false := Blk.frozen (t := 67) h i
theorem Clk.lt (h : Clk w g s n) : g < w.heap.size := Blk.lt (t := 67) h
theorem Clk.only {S : Nat → Prop} (h : Clk w g s n) (ho : Only S w w') (hn : ¬ S g) : Clk w' g s n := Blk.only (t := 67) h ho hn
theorem Clk.set_ (h : Clk w g s n) (m : Int) : Clk (w.setCell ⟨g, 1, none⟩ (.int .i64 m)) g s m := by
  have := Blk.set_ (t := 67) h 1 (.int .i64 m)
  unfold Clk
  simpa using this
theorem Clk.alloc (h : Clk w g s n) (o : Obj) : Clk (w.alloc o) g s n := Blk.alloc (t := 67) h o
end

theorem clk_now (g : Nat) (s n : Int) (w : World) (h : Clk w g s n) :
    Calls Try.prog 22 #[.pointer (some ⟨g, 0, none⟩)] w fun e w' => e = .returned (.int .i64 n) ∧ w = w' := by
  have h0 := h.site
  have h1 := h.count
  have H := Lib.hid h
  clear h
  go_enter Try.func22, Try.ntmps22
  go_wp2_with (go_at_call 30; refine (load64 _ n _ h1).mono ?_; rintro e w' ⟨rfl, rfl⟩)
  go_ret
  exact ⟨rfl, rfl⟩
theorem clk_site (g : Nat) (s n : Int) (w : World) (h : Clk w g s n) :
    Calls Try.prog 23 #[.pointer (some ⟨g, 0, none⟩)] w fun e w' => e = .returned (.int .i64 s) ∧ w = w' := by
  have h0 := h.site
  have H := Lib.hid h
  clear h
  go_enter Try.func23, Try.ntmps23
  go_wp2
  go_ret
  exact ⟨rfl, rfl⟩
theorem clk_move (g : Nat) (s n m : Int) (w : World) (h : Clk w g s n) :
    Calls Try.prog 29 #[.pointer (some ⟨g, 0, none⟩), .int .i64 n, .int .i64 m] w fun e w' => e = .returned (.bool true) ∧ w' = w.setCell ⟨g, 1, none⟩ (.int .i64 m) := by
  have h0 := h.site
  have h1 := h.count
  have h2 := h.free 1
  have H := Lib.hid h
  clear h
  go_enter Try.func29, Try.ntmps29
  go_wp2_with (go_at_call 33; refine (cas64 _ n m _ h1 h2).mono ?_; rintro e w' ⟨rfl, rfl⟩)
  go_ret
  exact ⟨rfl, rfl⟩

theorem clk_new_arg (s n : Int) (w : World) (hs : stSite s = false) :
    Calls Try.prog 16 #[.int .i64 s, .int .i64 n] w fun e w' => e = .returned (.tuple #[.pointer none, .int .i64 1]) ∧ w = w' := by
  have HS := Lib.hid hs
  clear hs
  go_enter Try.func16, Try.ntmps16
  go_wp2_with (go_at_call 25; refine (st_isSite _ _).mono ?_; rintro e w' ⟨rfl, rfl⟩; rw [HS.out])
  go_ret2
  exact ⟨rfl, rfl⟩
theorem clk_new_range (s n : Int) (w : World) (hs : stSite s = true) (hn : n < 0 ∨ 4294967295 < n) :
    Calls Try.prog 16 #[.int .i64 s, .int .i64 n] w fun e w' => e = .returned (.tuple #[.pointer none, .int .i64 2]) ∧ w = w' := by
  have HS := Lib.hid hs
  clear hs
  by_cases h0 : n < 0
  · clear hn
    go_enter Try.func16, Try.ntmps16
    go_wp2_with (go_at_call 25; refine (st_isSite _ _).mono ?_; rintro e w' ⟨rfl, rfl⟩; rw [HS.out])
    go_ret2
    exact ⟨rfl, rfl⟩
  · have h1 : 4294967295 < n := by omega
    clear hn
    go_enter Try.func16, Try.ntmps16
    go_wp2_with (go_at_call 25; refine (st_isSite _ _).mono ?_; rintro e w' ⟨rfl, rfl⟩; rw [HS.out])
    go_ret2
    exact ⟨rfl, rfl⟩
/-- A clock that is made lies in a new block. -/
theorem clk_new (s n : Int) (w : World) (hs : stSite s = true) (h0 : 0 ≤ n) (h1 : n ≤ 4294967295) :
    Calls Try.prog 16 #[.int .i64 s, .int .i64 n] w fun e w' => e = .returned (.tuple #[.pointer (some ⟨w.heap.size, 0, none⟩), .int .i64 0]) ∧ Clk w' w.heap.size s n ∧ Only none_ w w' := by
  have HS := Lib.hid hs
  have HC := Lib.hid (Blk.new w 67 #[.int .i64 s, .int .i64 n])
  have O := Lib.hid ((Only.refl none_ w).alloc (.cells #[.int .i64 s, .int .i64 n] 67))
  clear hs
  go_enter Try.func16, Try.ntmps16
  go_wp2_with (first
    | (go_at_call 25; refine (st_isSite _ _).mono ?_; rintro e w' ⟨rfl, rfl⟩; rw [HS.out])
    | (go_at_call 28; refine (store64 _ n (.int .i64 0) _ (by simp) (by simp)).mono ?_; rintro e w' ⟨rfl, rfl⟩))
  go_ret2
  exact ⟨rfl, HC.out, O.out⟩
end Go.Proofs.Ytolgjjjclihmkaa
