/- An act done with a disk and with the document's one: Turn. No statement of the seat is proved here. -/
import Derived.Test.YtkhckgbhpfjfkaaDkN
import Derived.Deep.RegionWith
namespace Go.Proofs.Ytkhckgbhpfjfkaa
open Go.RowKit
set_option maxRecDepth 100000

section
variable (B W : World) (g : Nat) (v : Value) (d d' dn : Dv) (A X : Option Addr) (n c L e0 : Nat) (s f code m k : Int) (o : Bool) (mbs ys : List UInt8)
  (h : Dsk B g d v W) (hm : Byt W (fun b => ¬ foot g v b) (.slice A n c) mbs) (hx : Byt W (fun b => b < B.heap.size) (.slice X L e0) ys)
include h hm hx

set_option maxHeartbeats 3200000 in
theorem do_turn
    (HA : ∀ w, Dsk B g d v w → Calls Try.prog 74 #[.pointer (some ⟨g, 0, none⟩), .int .i64 m, .int .u8 ((byB ys).toNat : Int)] w fun e w' => e = .returned (.int .i64 code) ∧ Left_ B g v w d' w')
    (HR : ∀ w S, Byt w S (.slice A n c) mbs → Calls Try.prog 76 #[.agg #[.slice A n c, .int .i64 s, .bool o, .int .i64 f], .int .i64 m, .int .u8 ((byB ys).toNat : Int)] w fun e w' => RfE w S w' e dn code) :
    Calls Try.prog 36 #[.pointer (some ⟨g, 0, none⟩), .agg #[.slice A n c, .int .i64 s, .bool o, .int .i64 f], .agg #[.int .i64 5, .int .i64 m, .slice X L e0]] W fun e w' => DoR B W g v d' dn e w' := by
  have Q0 := Lib.hid (Dq.new h hm hx #[.slice A n c, .int .i64 s, .bool o, .int .i64 f] #[.int .i64 5, .int .i64 m, .slice X L e0] #[.slice none 0 0, .int .i64 0, .bool false, .int .i64 0])
  have KA := Lib.hid HA
  have KR := Lib.hid HR
  have y0 := three_of Q0.out.drew.b2
  obtain ⟨bz, hbz⟩ : ∃ z, ((byB ys).toNat : Int) = z := ⟨_, rfl⟩
  have KB := fun w T hx => by_any 5 m X L e0 ys T w hx
  rw [hbz] at KA KR KB
  clear h hm hx HA HR hbz
  go_enter Try.func36, Try.ntmps36
  go_wp2_with fail
  go_region_held3 (fun w' => w'.cell? ⟨W.heap.size + 1, 0, none⟩ = some (.int .i64 5) ∧ w'.cell? ⟨W.heap.size + 1, 1, none⟩ = some (.int .i64 m) ∧ w'.cell? ⟨W.heap.size + 1, 2, none⟩ = some (.slice X L e0))
    (first | with_reducible exact y0 | with_reducible exact y1 | with_reducible exact y2)
    (first
      | (go_at_call 75; refine (KB _ _ Q0.out.drew.bx).mono ?_; rintro e w1 ⟨rfl, o1⟩
         have Q1 := Lib.hid (Q0.out.drew.keep o1)
         have y1 := three_of Q1.out.b2
         clear o1)
      | (go_at_call 74; refine (KA.out _ Q1.out.ds).mono ?_; rintro e w2 ⟨rfl, l2⟩
         obtain ⟨v2, q2⟩ := Q1.out.disk l2
         have Q2 := Lib.hid q2
         have y2 := three_of q2.b2
         clear q2 l2))
  all_goals go_wp2_with fail
  have y3 := three_of Q2.out.drew.b2
  have x3 := four_of Q2.out.drew.b1
  go_region_with (first
    | (go_at_call 75; refine (KB _ _ Q2.out.drew.bx).mono ?_; rintro e w3 ⟨rfl, o3⟩
       have Q3 := Lib.hid (Q2.out.drew.keep o3)
       have y4 := three_of Q3.out.b2
       have x4 := four_of Q3.out.b1
       clear o3)
    | (go_at_call 76; refine (KR.out _ _ Q3.out.bm).mono ?_; rintro e w4 ⟨⟨A2, n2, c2, rfl, b4⟩, o4⟩
       have Q4 := Lib.hid (Q3.out.ref o4 b4)
       have x5 := four_of Q4.out.b1
       have z5 := frozen4 Q4.out.b1
       clear b4 o4))
  all_goals
    have Q5 := Lib.hid ((((Q4.out.set1 0 (.slice A2 n2 c2)).set1 1 (.int .i64 dn.safe)).set1 2 (.bool (!dn.on))).set1 3 (.int .i64 dn.fuse))
    have x6 := four_of (a := .slice A2 n2 c2) (b := .int .i64 dn.safe) (c := .bool (!dn.on)) (d := .int .i64 dn.fuse) Q5.out.b1
    go_wp2_with (first
      | (refine wpList_store_row rfl 74 _ _ rfl (W.heap.size + 1 + 1) #[.slice A2 n2 c2, .int .i64 dn.safe, .bool (!dn.on), .int .i64 dn.fuse] rfl rfl 74 _ Q5.out.b3 (by kernel_rfl) rfl (by simp [Value.oneCell']) ?_
         have Q6 := Lib.hid (Q5.out.row3 #[.slice A2 n2 c2, .int .i64 dn.safe, .bool (!dn.on), .int .i64 dn.fuse])))
    refine bodyPost_ret (results_cell_tmp rfl _ _ (W.heap.size + 1 + 1) 74 _ _ rfl Q6.out.b3 Try.underlying74 rfl (by kernel_rfl) (.bool true) rfl) rfl ?_
    exact Q6.out.done
end
end Go.Proofs.Ytkhckgbhpfjfkaa
