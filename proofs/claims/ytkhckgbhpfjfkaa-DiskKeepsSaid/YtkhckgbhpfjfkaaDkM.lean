/- An act done with a disk and with the document's one: Append, Sync, Trim. No statement of the seat is proved here. -/
import Derived.Test.YtkhckgbhpfjfkaaDkL
namespace Go.Proofs.Ytkhckgbhpfjfkaa
open Go.RowKit
set_option maxRecDepth 100000

section
variable (B W : World) (g : Nat) (v : Value) (d d' dn : Dv) (A X : Option Addr) (n c L e0 : Nat) (s f code m : Int) (o : Bool) (mbs ys : List UInt8)
  (h : Dsk B g d v W) (hm : Byt W (fun b => ¬ foot g v b) (.slice A n c) mbs) (hx : Byt W (fun b => b < B.heap.size) (.slice X L e0) ys)
include h hm hx

set_option maxHeartbeats 1600000 in
theorem do_append
    (HA : ∀ w, Dsk B g d v w → Byt w (fun b => b < B.heap.size) (.slice X L e0) ys → Calls Try.prog 42 #[.pointer (some ⟨g, 0, none⟩), .slice X L e0] w fun e w' => e = .returned (.int .i64 code) ∧ Left_ B g v w d' w')
    (HR : ∀ w S, Byt w S (.slice A n c) mbs → Byt w (fun b => b < B.heap.size) (.slice X L e0) ys → Calls Try.prog 70 #[.agg #[.slice A n c, .int .i64 s, .bool o, .int .i64 f], .slice X L e0] w fun e w' => RfE w S w' e dn code) :
    Calls Try.prog 36 #[.pointer (some ⟨g, 0, none⟩), .agg #[.slice A n c, .int .i64 s, .bool o, .int .i64 f], .agg #[.int .i64 0, .int .i64 m, .slice X L e0]] W fun e w' => DoR B W g v d' dn e w' := by
  have Q0 := Lib.hid (Dq.new h hm hx #[.slice A n c, .int .i64 s, .bool o, .int .i64 f] #[.int .i64 0, .int .i64 m, .slice X L e0] #[.slice none 0 0, .int .i64 0, .bool false, .int .i64 0])
  have KA := Lib.hid HA
  have KR := Lib.hid HR
  clear h hm hx HA HR
  go_enter Try.func36, Try.ntmps36
  go_wp2_with (first
    | (go_at_call 42; refine (KA.out _ Q0.out.ds Q0.out.bx).mono ?_; rintro e w1 ⟨rfl, l1⟩
       obtain ⟨v1, q1⟩ := Q0.out.disk l1
       have Q1 := Lib.hid q1
       have x1 := four_of q1.b1
       have y1 := three_of q1.b2
       clear q1 l1)
    | (go_at_call 70; refine (KR.out _ _ Q1.out.bm Q1.out.bx).mono ?_; rintro e w2 ⟨⟨A2, n2, c2, rfl, b2⟩, o2⟩
       have Q2 := Lib.hid (Q1.out.ref o2 b2)
       clear b2 o2)
    | (refine wpList_store_row rfl 74 _ _ rfl W.heap.size #[.slice A2 n2 c2, .int .i64 dn.safe, .bool (!dn.on), .int .i64 dn.fuse] rfl rfl 74 _ Q2.out.b1 (by kernel_rfl) rfl (by simp [Value.oneCell']) ?_
       have Q3 := Lib.hid (Q2.out.row1 #[.slice A2 n2 c2, .int .i64 dn.safe, .bool (!dn.on), .int .i64 dn.fuse])
       have x3 := four_of Q3.out.b1)
    | (refine wpList_store_row rfl 74 _ _ rfl (W.heap.size + 1 + 1) #[.slice A2 n2 c2, .int .i64 dn.safe, .bool (!dn.on), .int .i64 dn.fuse] rfl rfl 74 _ Q3.out.b3 (by kernel_rfl) rfl (by simp [Value.oneCell']) ?_
       have Q4 := Lib.hid (Q3.out.row3 #[.slice A2 n2 c2, .int .i64 dn.safe, .bool (!dn.on), .int .i64 dn.fuse])))
  refine bodyPost_ret (results_cell_tmp rfl _ _ (W.heap.size + 1 + 1) 74 _ _ rfl Q4.out.b3 Try.underlying74 rfl (by kernel_rfl) (.bool true) rfl) rfl ?_
  exact Q4.out.done

set_option maxHeartbeats 1600000 in
theorem do_sync
    (HA : ∀ w, Dsk B g d v w → Calls Try.prog 43 #[.pointer (some ⟨g, 0, none⟩)] w fun e w' => e = .returned (.int .i64 code) ∧ Left_ B g v w d' w')
    (HR : ∀ w S, Byt w S (.slice A n c) mbs → Calls Try.prog 71 #[.agg #[.slice A n c, .int .i64 s, .bool o, .int .i64 f]] w fun e w' => RfE w S w' e dn code) :
    Calls Try.prog 36 #[.pointer (some ⟨g, 0, none⟩), .agg #[.slice A n c, .int .i64 s, .bool o, .int .i64 f], .agg #[.int .i64 1, .int .i64 m, .slice X L e0]] W fun e w' => DoR B W g v d' dn e w' := by
  have Q0 := Lib.hid (Dq.new h hm hx #[.slice A n c, .int .i64 s, .bool o, .int .i64 f] #[.int .i64 1, .int .i64 m, .slice X L e0] #[.slice none 0 0, .int .i64 0, .bool false, .int .i64 0])
  have KA := Lib.hid HA
  have KR := Lib.hid HR
  clear h hm hx HA HR
  go_enter Try.func36, Try.ntmps36
  go_wp2_with (first
    | (go_at_call 43; refine (KA.out _ Q0.out.ds).mono ?_; rintro e w1 ⟨rfl, l1⟩
       obtain ⟨v1, q1⟩ := Q0.out.disk l1
       have Q1 := Lib.hid q1
       have x1 := four_of q1.b1
       have y1 := three_of q1.b2
       clear q1 l1)
    | (go_at_call 71; refine (KR.out _ _ Q1.out.bm).mono ?_; rintro e w2 ⟨⟨A2, n2, c2, rfl, b2⟩, o2⟩
       have Q2 := Lib.hid (Q1.out.ref o2 b2)
       clear b2 o2)
    | (refine wpList_store_row rfl 74 _ _ rfl W.heap.size #[.slice A2 n2 c2, .int .i64 dn.safe, .bool (!dn.on), .int .i64 dn.fuse] rfl rfl 74 _ Q2.out.b1 (by kernel_rfl) rfl (by simp [Value.oneCell']) ?_
       have Q3 := Lib.hid (Q2.out.row1 #[.slice A2 n2 c2, .int .i64 dn.safe, .bool (!dn.on), .int .i64 dn.fuse])
       have x3 := four_of Q3.out.b1)
    | (refine wpList_store_row rfl 74 _ _ rfl (W.heap.size + 1 + 1) #[.slice A2 n2 c2, .int .i64 dn.safe, .bool (!dn.on), .int .i64 dn.fuse] rfl rfl 74 _ Q3.out.b3 (by kernel_rfl) rfl (by simp [Value.oneCell']) ?_
       have Q4 := Lib.hid (Q3.out.row3 #[.slice A2 n2 c2, .int .i64 dn.safe, .bool (!dn.on), .int .i64 dn.fuse])))
  refine bodyPost_ret (results_cell_tmp rfl _ _ (W.heap.size + 1 + 1) 74 _ _ rfl Q4.out.b3 Try.underlying74 rfl (by kernel_rfl) (.bool true) rfl) rfl ?_
  exact Q4.out.done

set_option maxHeartbeats 1600000 in
theorem do_trim
    (HA : ∀ w, Dsk B g d v w → Calls Try.prog 45 #[.pointer (some ⟨g, 0, none⟩), .int .i64 m] w fun e w' => e = .returned (.int .i64 code) ∧ Left_ B g v w d' w')
    (HR : ∀ w S, Byt w S (.slice A n c) mbs → Calls Try.prog 72 #[.agg #[.slice A n c, .int .i64 s, .bool o, .int .i64 f], .int .i64 m] w fun e w' => RfE w S w' e dn code) :
    Calls Try.prog 36 #[.pointer (some ⟨g, 0, none⟩), .agg #[.slice A n c, .int .i64 s, .bool o, .int .i64 f], .agg #[.int .i64 2, .int .i64 m, .slice X L e0]] W fun e w' => DoR B W g v d' dn e w' := by
  have Q0 := Lib.hid (Dq.new h hm hx #[.slice A n c, .int .i64 s, .bool o, .int .i64 f] #[.int .i64 2, .int .i64 m, .slice X L e0] #[.slice none 0 0, .int .i64 0, .bool false, .int .i64 0])
  have KA := Lib.hid HA
  have KR := Lib.hid HR
  clear h hm hx HA HR
  go_enter Try.func36, Try.ntmps36
  go_wp2_with (first
    | (go_at_call 45; refine (KA.out _ Q0.out.ds).mono ?_; rintro e w1 ⟨rfl, l1⟩
       obtain ⟨v1, q1⟩ := Q0.out.disk l1
       have Q1 := Lib.hid q1
       have x1 := four_of q1.b1
       have y1 := three_of q1.b2
       clear q1 l1)
    | (go_at_call 72; refine (KR.out _ _ Q1.out.bm).mono ?_; rintro e w2 ⟨⟨A2, n2, c2, rfl, b2⟩, o2⟩
       have Q2 := Lib.hid (Q1.out.ref o2 b2)
       clear b2 o2)
    | (refine wpList_store_row rfl 74 _ _ rfl W.heap.size #[.slice A2 n2 c2, .int .i64 dn.safe, .bool (!dn.on), .int .i64 dn.fuse] rfl rfl 74 _ Q2.out.b1 (by kernel_rfl) rfl (by simp [Value.oneCell']) ?_
       have Q3 := Lib.hid (Q2.out.row1 #[.slice A2 n2 c2, .int .i64 dn.safe, .bool (!dn.on), .int .i64 dn.fuse])
       have x3 := four_of Q3.out.b1)
    | (refine wpList_store_row rfl 74 _ _ rfl (W.heap.size + 1 + 1) #[.slice A2 n2 c2, .int .i64 dn.safe, .bool (!dn.on), .int .i64 dn.fuse] rfl rfl 74 _ Q3.out.b3 (by kernel_rfl) rfl (by simp [Value.oneCell']) ?_
       have Q4 := Lib.hid (Q3.out.row3 #[.slice A2 n2 c2, .int .i64 dn.safe, .bool (!dn.on), .int .i64 dn.fuse])))
  refine bodyPost_ret (results_cell_tmp rfl _ _ (W.heap.size + 1 + 1) 74 _ _ rfl Q4.out.b3 Try.underlying74 rfl (by kernel_rfl) (.bool true) rfl) rfl ?_
  exact Q4.out.done
end
end Go.Proofs.Ytkhckgbhpfjfkaa
