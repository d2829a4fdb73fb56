/- An act done with a disk and with the document's one: Fuse, Crash, others. No statement of the seat is proved here. -/
import Derived.Test.YtkhckgbhpfjfkaaDkM
import Derived.Deep.RegionHeld3
namespace Go.Proofs.Ytkhckgbhpfjfkaa
open Go.RowKit
set_option maxRecDepth 100000

section
variable (B W : World) (g : Nat) (v : Value) (d d' dn : Dv) (A X : Option Addr) (n c L e0 : Nat) (s f code m k : Int) (o : Bool) (mbs ys : List UInt8)
  (h : Dsk B g d v W) (hm : Byt W (fun b => ¬ foot g v b) (.slice A n c) mbs) (hx : Byt W (fun b => b < B.heap.size) (.slice X L e0) ys)
include h hm hx

set_option maxHeartbeats 1600000 in
theorem do_other (hk : k < 0 ∨ 5 < k) (hb : mbs = dn.bs) (hs : s = dn.safe) (ho : o = !dn.on) (hf : f = dn.fuse) :
    Calls Try.prog 36 #[.pointer (some ⟨g, 0, none⟩), .agg #[.slice A n c, .int .i64 s, .bool o, .int .i64 f], .agg #[.int .i64 k, .int .i64 m, .slice X L e0]] W fun e w' => DoR B W g v d dn e w' := by
  subst hb hs ho hf
  have Q0 := Lib.hid (Dq.new h hm hx #[.slice A n c, .int .i64 dn.safe, .bool (!dn.on), .int .i64 dn.fuse] #[.int .i64 k, .int .i64 m, .slice X L e0] #[.slice A n c, .int .i64 dn.safe, .bool (!dn.on), .int .i64 dn.fuse])
  have k0 : (k == 0) = false := by simp; omega
  have k1 : (k == 1) = false := by simp; omega
  have k2 : (k == 2) = false := by simp; omega
  have k3 : (k == 3) = false := by simp; omega
  have k4 : (k == 4) = false := by simp; omega
  have k5 : (k == 5) = false := by simp; omega
  clear h hm hx hk
  go_enter Try.func36, Try.ntmps36
  go_wp2_with fail
  refine bodyPost_ret (results_cell_tmp rfl _ _ (W.heap.size + 1 + 1) 74 _ _ rfl Q0.out.b3 Try.underlying74 rfl (by kernel_rfl) (.bool true) rfl) rfl ?_
  exact Q0.out.done

set_option maxHeartbeats 1600000 in
theorem do_fuse (hm1 : -9223372036854775808 ≤ m) (hm2 : m < 9223372036854775808) (hd : d' = { d with fuse := m }) (hb : mbs = dn.bs) (hs : s = dn.safe) (ho : o = !dn.on) (hf : max m (-1) = dn.fuse) :
    Calls Try.prog 36 #[.pointer (some ⟨g, 0, none⟩), .agg #[.slice A n c, .int .i64 s, .bool o, .int .i64 f], .agg #[.int .i64 3, .int .i64 m, .slice X L e0]] W fun e w' => DoR B W g v d' dn e w' := by
  subst hb hs ho hd
  have Q0 := Lib.hid (Dq.new h hm hx #[.slice A n c, .int .i64 dn.safe, .bool (!dn.on), .int .i64 f] #[.int .i64 3, .int .i64 m, .slice X L e0] #[.slice none 0 0, .int .i64 0, .bool false, .int .i64 0])
  have hmx : ∀ ts t w, (Builtin.max_ ts t #[.int .i64 m, .int .i64 (-1)]).run Try.prog w = .ok (.int .i64 dn.fuse) w := fun ts t w => by
    rw [run_max_int2]
    by_cases hk : m < -1
    · rw [if_pos (by omega), show dn.fuse = -1 from by omega]
    · rw [if_neg (by omega), show dn.fuse = m from by omega]
  have C := fun w' (hq : Dsk B g d v w') => power_fuse B g m d v w' hq hm1 hm2
  have y0 := three_of Q0.out.drew.b2
  clear h hm hx hf
  go_enter Try.func36, Try.ntmps36
  go_wp2_with fail
  go_region_held3 (fun w' => w'.cell? ⟨W.heap.size + 1, 0, none⟩ = some (.int .i64 3) ∧ w'.cell? ⟨W.heap.size + 1, 1, none⟩ = some (.int .i64 m) ∧ w'.cell? ⟨W.heap.size + 1, 2, none⟩ = some (.slice X L e0))
    (first | with_reducible exact y0 | with_reducible exact y1)
    (first
      | (go_at_call 44; refine (C _ Q0.out.drew.ds).mono ?_; rintro e w1 ⟨rfl, h1, o1⟩
         obtain ⟨v1, q1⟩ := Q0.out.drew.disk (Left_.one_ h1 o1)
         have Q1 := Lib.hid q1
         have x1 := four_of q1.b1
         have z1 := frozen4 q1.b1
         have y1 := three_of q1.b2
         have Q2 := Lib.hid (q1.set1 3 (.int .i64 dn.fuse))
         have x2 := four_of Q2.out.b1
         clear q1 h1 o1))
  all_goals
    go_wp2_with (first
    | (refine wpList_store_row rfl 74 _ _ rfl (W.heap.size + 1 + 1) #[.slice A n c, .int .i64 dn.safe, .bool (!dn.on), .int .i64 dn.fuse] rfl rfl 74 _ Q2.out.b3 (by kernel_rfl) rfl (by simp [Value.oneCell']) ?_
       have Q4 := Lib.hid (Q2.out.row3 #[.slice A n c, .int .i64 dn.safe, .bool (!dn.on), .int .i64 dn.fuse])))
    refine bodyPost_ret (results_cell_tmp rfl _ _ (W.heap.size + 1 + 1) 74 _ _ rfl Q4.out.b3 Try.underlying74 rfl (by kernel_rfl) (.bool true) rfl) rfl ?_
    exact Q4.out.done

set_option maxHeartbeats 1600000 in
theorem do_crash
    (HA : ∀ w, Dsk B g d v w → Calls Try.prog 41 #[.pointer (some ⟨g, 0, none⟩), .int .i64 m] w fun e w' => e = .returned (.int .i64 code) ∧ Left_ B g v w d' w')
    (HR : ∀ w S, Byt w S (.slice A n c) mbs → Calls Try.prog 73 #[.agg #[.slice A n c, .int .i64 s, .bool o, .int .i64 f], .int .i64 m] w fun e w' => RfE w S w' e dn code) :
    Calls Try.prog 36 #[.pointer (some ⟨g, 0, none⟩), .agg #[.slice A n c, .int .i64 s, .bool o, .int .i64 f], .agg #[.int .i64 4, .int .i64 m, .slice X L e0]] W fun e w' => DoR B W g v d' dn e w' := by
  have Q0 := Lib.hid (Dq.new h hm hx #[.slice A n c, .int .i64 s, .bool o, .int .i64 f] #[.int .i64 4, .int .i64 m, .slice X L e0] #[.slice none 0 0, .int .i64 0, .bool false, .int .i64 0])
  have KA := Lib.hid HA
  have KR := Lib.hid HR
  clear h hm hx HA HR
  go_enter Try.func36, Try.ntmps36
  go_wp2_with (first
    | (go_at_call 73; refine (KR.out _ _ Q0.out.bm).mono ?_; rintro e w1 ⟨⟨A2, n2, c2, rfl, b2⟩, o2⟩
       have Q2 := Lib.hid ((Q0.out.ref o2 b2).keep ((Only.refl none_ w1).alloc (.cells #[.slice A2 n2 c2, .int .i64 dn.safe, .bool (!dn.on), .int .i64 dn.fuse] 74)))
       clear b2 o2)
    | (refine wpList_store_row rfl 74 _ _ rfl W.heap.size #[.slice A2 n2 c2, .int .i64 dn.safe, .bool (!dn.on), .int .i64 dn.fuse] rfl rfl 74 _ Q2.out.b1 (by kernel_rfl) rfl (by simp [Value.oneCell']) ?_
       have Q3 := Lib.hid (Q2.out.row1 #[.slice A2 n2 c2, .int .i64 dn.safe, .bool (!dn.on), .int .i64 dn.fuse])
       have x3 := four_of Q3.out.b1
       have y3 := three_of Q3.out.b2)
    | (go_at_call 41; refine (KA.out _ Q3.out.ds).mono ?_; rintro e w4 ⟨rfl, l4⟩
       obtain ⟨v4, q4⟩ := Q3.out.disk l4
       have Q4 := Lib.hid q4
       have x4 := four_of q4.b1
       clear q4 l4)
    | (refine wpList_store_row rfl 74 _ _ rfl (W.heap.size + 1 + 1) #[.slice A2 n2 c2, .int .i64 dn.safe, .bool (!dn.on), .int .i64 dn.fuse] rfl rfl 74 _ Q4.out.b3 (by kernel_rfl) rfl (by simp [Value.oneCell']) ?_
       have Q5 := Lib.hid (Q4.out.row3 #[.slice A2 n2 c2, .int .i64 dn.safe, .bool (!dn.on), .int .i64 dn.fuse])))
  refine bodyPost_ret (results_cell_tmp rfl _ _ (W.heap.size + 1 + 1) 74 _ _ rfl Q5.out.b3 Try.underlying74 rfl (by kernel_rfl) (.bool true) rfl) rfl ?_
  exact Q5.out.done
end

/-- The bits that an act turns. -/
def byB (ys : List UInt8) : UInt8 := ys.headD 1
theorem by_any (k m : Int) (X : Option Addr) (L e0 : Nat) (ys : List UInt8) (T : Nat → Prop) (w : World) (hx : Byt w T (.slice X L e0) ys) :
    Calls Try.prog 75 #[.agg #[.int .i64 k, .int .i64 m, .slice X L e0]] w fun e w' => e = .returned (.int .u8 ((byB ys).toNat : Int)) ∧ Only none_ w w' := by
  have O := Lib.hid ((Only.refl none_ w).alloc (.cells #[.int .i64 k, .int .i64 m, .slice X L e0] 77))
  obtain ⟨X', e', hv, h1, h2, h3, h4⟩ := hx
  injection hv with e1 e2 e3
  subst e1 e2 e3
  cases ys with
  | nil =>
    clear h3 h4
    go_enter Try.func75, Try.ntmps75
    go_wp2_with fail
    go_ret
    exact ⟨rfl, O.out⟩
  | cons y l =>
    obtain ⟨b, off, rfl, _, hlt, hc⟩ := h4 (by simp)
    have c0 := hc 0 (by simp)
    rw [Nat.add_zero] at c0
    have c1 : (w.alloc (.cells #[.int .i64 k, .int .i64 m, .slice (some ⟨b, off, none⟩) (y :: l).length e0] 77)).cell? ⟨b, off, none⟩ = some (.int .u8 (y.toNat : Int)) := ((O.out.cell (p := ⟨b, off, none⟩) hlt (fun h => h))).trans c0
    obtain ⟨L, hL⟩ : ∃ L, (y :: l).length = L := ⟨_, rfl⟩
    have hp : 0 < L := by rw [← hL]; simp
    have hp2 : (0 : Int) < L := by omega
    rw [hL] at c1 O ⊢
    clear hc h3 h4 c0 hL h1
    go_enter Try.func75, Try.ntmps75
    go_wp2_with fail
    go_ret
    exact ⟨rfl, O.out⟩
end Go.Proofs.Ytkhckgbhpfjfkaa
