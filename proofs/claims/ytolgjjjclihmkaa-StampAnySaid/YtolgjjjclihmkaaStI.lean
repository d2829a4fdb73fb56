/- Layer 4's example, as every statement of it begins. No statement of the seat is proved here. -/
import Derived.Test.YtolgjjjclihmkaaStD
import Derived.ChangeKeysEq
import Derived.Laws.StructEq
namespace Go.Proofs.Ytolgjjjclihmkaa
open Go.RowKit
set_option maxRecDepth 100000

set_option maxHeartbeats 1600000 in
theorem st_speaks (w : World) :
    Calls Try.prog 9 #[] w fun e w' => e = .returned (.bool true) ∧ Only none_ w w' := by
  have tok : True := trivial
  have G9 : Hid (stGood ⟨9, 0⟩ = true) := by simp [Hid, stGood, stSite]
  go_enter Try.func9, Try.ntmps9
  go_wp2_with (first
    | (go_at_call 16; refine (clk_new 2 5 _ (by decide) (by omega) (by omega)).mono ?_; rintro e w1 ⟨rfl, k1, o1⟩; have K1 := Lib.hid k1; have O1 := Lib.hid o1; have S1 := Lib.hid (K1.out.lt); clear k1 o1)
    | (go_at_call 18; have _t := tok; refine (clk_next _ 2 5 _ K1.out (by omega) (by omega)).mono ?_; rintro e w2 ⟨rfl, k2, o2⟩
       have B2 := Lib.hid (Blk.new w2 27 #[.int .i64 6, .int .i64 2])
       have K2 := Lib.hid (k2.alloc (.cells #[.int .i64 6, .int .i64 2] 27))
       have O2 := Lib.hid (((O1.out.of_none (S := one w.heap.size)).trans o2).alloc (.cells #[.int .i64 6, .int .i64 2] 27))
       have hne : ¬ one w.heap.size w2.heap.size := fun e => by have e : w2.heap.size = w.heap.size := e; have := k2.lt; omega
       have N2 := Lib.hid hne
       clear k2 o2 tok hne)
    | (go_at_call 21; refine (clk_see _ 2 (5 + 1) 9 0 _ K2.out G9.out (by omega)).mono ?_; rintro e w3 ⟨rfl, k3, o3⟩
       have B3 := Lib.hid (B2.out.only o3 N2.out)
       have K3 := Lib.hid k3
       have O3 := Lib.hid (O2.out.trans o3)
       clear k3 o3)
    | (go_at_call 18; refine (clk_next _ 2 9 _ K3.out (by omega) (by omega)).mono ?_; rintro e w4 ⟨rfl, k4, o4⟩
       have B4 := Lib.hid ((B3.out.only o4 N2.out).alloc (.cells #[.int .i64 10, .int .i64 2] 27))
       have O4 := Lib.hid ((O3.out.trans o4).alloc (.cells #[.int .i64 10, .int .i64 2] 27))
       have b0 := B4.out.cell_ (i := 0) rfl
       have b1 := B4.out.cell_ (i := 1) rfl
       clear k4 o4))
  go_ret
  exact ⟨rfl, O4.out.mono (fun g hg e => by have e : g = w.heap.size := e; omega)⟩
end Go.Proofs.Ytolgjjjclihmkaa
