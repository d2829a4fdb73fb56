/- The call of WireTells answers yes, and changes nothing that was there. The statement itself is proved in another text. -/
import Derived.Test.YtlieolehpmobfaaGreatDoorWt10
import Derived.Test.YtlieolehpmobfaaGreatDoorWt11
import Derived.Test.YtlieolehpmobfaaGreatDoorWt12
import Derived.Test.YtlieolehpmobfaaGreatDoorWt13
import Derived.Test.YtlieolehpmobfaaGreatDoorWt15
import Derived.Test.YtlieolehpmobfaaGreatDoorWt16
import Derived.Test.YtlieolehpmobfaaGreatDoorWt17
import Derived.Test.YtlieolehpmobfaaGreatDoorWt18
import Derived.Test.YtlieolehpmobfaaGreatDoorWt6
import Derived.Test.YtlieolehpmobfaaGreatDoorWt1
import Derived.Test.YtlieolehpmobfaaGreatDoorWt5
section
namespace Go.Proofs.YtlieolehpmobfaaGreatDoor
open Go.RowKit
set_option linter.all false
set_option maxRecDepth 100000
theorem few_twenty {m : Ms} (h : fewM m = true) : m.ps.length ≤ 20 ∧ m.ms.length ≤ 20 ∧ m.es.length ≤ 20 := by
  simp only [fewM, Bool.and_eq_true, decide_eq_true_eq] at h
  exact ⟨h.1.1.1.1.1, h.1.1.1.1.2, h.1.1.1.2⟩
theorem cells12 {w : World} {g : Nat} {t : TypeId} {a0 a1 a2 a3 a4 a5 a6 a7 a8 a9 a10 a11 : Value} (b : Blk w g t #[a0, a1, a2, a3, a4, a5, a6, a7, a8, a9, a10, a11]) :
    w.cell? ⟨g, 0, none⟩ = some a0 ∧ w.cell? ⟨g, 1, none⟩ = some a1 ∧ w.cell? ⟨g, 2, none⟩ = some a2 ∧ w.cell? ⟨g, 3, none⟩ = some a3 ∧ w.cell? ⟨g, 4, none⟩ = some a4 ∧ w.cell? ⟨g, 5, none⟩ = some a5 ∧ w.cell? ⟨g, 6, none⟩ = some a6 ∧ w.cell? ⟨g, 7, none⟩ = some a7 ∧ w.cell? ⟨g, 8, none⟩ = some a8 ∧ w.cell? ⟨g, 9, none⟩ = some a9 ∧ w.cell? ⟨g, 10, none⟩ = some a10 ∧ w.cell? ⟨g, 11, none⟩ = some a11 :=
  ⟨b.cell_ (i := 0) rfl, b.cell_ (i := 1) rfl, b.cell_ (i := 2) rfl, b.cell_ (i := 3) rfl, b.cell_ (i := 4) rfl, b.cell_ (i := 5) rfl, b.cell_ (i := 6) rfl, b.cell_ (i := 7) rfl, b.cell_ (i := 8) rfl, b.cell_ (i := 9) rfl, b.cell_ (i := 10) rfl, b.cell_ (i := 11) rfl⟩
theorem own_n3 {w : World} {base n k L c : Nat} {t : TypeId} {A : Option Addr} {xs : List Value} (h : w.ownsRow base t k (.slice A L c) n xs) : L = n := by
  rcases h.2 with ⟨h1, h2⟩ | ⟨g, cap, cur, h1, _⟩
  · injection h1 with e1 e2 e3; omega
  · injection h1 with e1 e2 e3
theorem bool_same {b c : Bool} {p : Prop} (h : b = true ↔ p) (k : c = true ↔ p) : b = c := by rw [Bool.eq_iff_iff, h, k]
structure Tw (W : World) (m n : Ms) (vp vm ve up um ue : Value) (w : World) : Prop where
  bx : Blk w W.heap.size 31 #[.int .i64 m.kd, .int .i64 m.pe, .int .i64 m.hp, .bool m.hi, vp, .int .i64 m.nu, .int .u64 (m.su : Int), .int .i64 m.mr.a.c, .int .i64 m.mr.a.s, .string m.mr.k, vm, ve]
  by_ : Blk w (W.heap.size + 1) 31 #[.int .i64 n.kd, .int .i64 n.pe, .int .i64 n.hp, .bool n.hi, up, .int .i64 n.nu, .int .u64 (n.su : Int), .int .i64 n.mr.a.c, .int .i64 n.mr.a.s, .string n.mr.k, um, ue]
  ml : Ml (fun b => b < W.heap.size) m vp vm ve w
  nl : Ml (fun b => b < W.heap.size) n up um ue w
  kd : Kd w
  ho : Only none_ W w
theorem Tw.keep {W w w' : World} {m n : Ms} {vp vm ve up um ue : Value} (t : Tw W m n vp vm ve up um ue w) (o : Only none_ w w') : Tw W m n vp vm ve up um ue w' :=
  ⟨t.bx.only o (fun h => h), t.by_.only o (fun h => h), t.ml.keep o, t.nl.keep o, t.kd.keep o, t.ho.trans o⟩
theorem Tw.new (W : World) (m n : Ms) (vp vm ve up um ue : Value) (hk : Kd W) (hl : Ml (fun b => b < W.heap.size) m vp vm ve W) (hn : Ml (fun b => b < W.heap.size) n up um ue W) : Tw W m n vp vm ve up um ue ((W.alloc (.cells #[.int .i64 m.kd, .int .i64 m.pe, .int .i64 m.hp, .bool m.hi, vp, .int .i64 m.nu, .int .u64 (m.su : Int), .int .i64 m.mr.a.c, .int .i64 m.mr.a.s, .string m.mr.k, vm, ve] 31)).alloc (.cells #[.int .i64 n.kd, .int .i64 n.pe, .int .i64 n.hp, .bool n.hi, up, .int .i64 n.nu, .int .u64 (n.su : Int), .int .i64 n.mr.a.c, .int .i64 n.mr.a.s, .string n.mr.k, um, ue] 31)) := by
  have o := ((Only.refl none_ W).alloc (.cells #[.int .i64 m.kd, .int .i64 m.pe, .int .i64 m.hp, .bool m.hi, vp, .int .i64 m.nu, .int .u64 (m.su : Int), .int .i64 m.mr.a.c, .int .i64 m.mr.a.s, .string m.mr.k, vm, ve] 31)).alloc (.cells #[.int .i64 n.kd, .int .i64 n.pe, .int .i64 n.hp, .bool n.hi, up, .int .i64 n.nu, .int .u64 (n.su : Int), .int .i64 n.mr.a.c, .int .i64 n.mr.a.s, .string n.mr.k, um, ue] 31)
  refine ⟨(Blk.new W _ _).alloc _, ?_, hl.keep o, hn.keep o, hk.keep o, o⟩
  have := Blk.new (W.alloc (.cells #[.int .i64 m.kd, .int .i64 m.pe, .int .i64 m.hp, .bool m.hi, vp, .int .i64 m.nu, .int .u64 (m.su : Int), .int .i64 m.mr.a.c, .int .i64 m.mr.a.s, .string m.mr.k, vm, ve] 31)) 31 #[.int .i64 n.kd, .int .i64 n.pe, .int .i64 n.hp, .bool n.hi, up, .int .i64 n.nu, .int .u64 (n.su : Int), .int .i64 n.mr.a.c, .int .i64 n.mr.a.s, .string n.mr.k, um, ue]
  rwa [World.size_alloc] at this
set_option maxHeartbeats 3200000 in
theorem wtells_no (m n : Ms) (vp vm ve up um ue : Value) (W : World) (hk : Kd W) (hl : Ml (fun b => b < W.heap.size) m vp vm ve W) (hn : Ml (fun b => b < W.heap.size) n up um ue W) (h : ¬ (fewM m = true ∧ fewM n = true)) :
    Calls Tryz.prog 3 #[.agg #[.int .i64 m.kd, .int .i64 m.pe, .int .i64 m.hp, .bool m.hi, vp, .int .i64 m.nu, .int .u64 (m.su : Int), .int .i64 m.mr.a.c, .int .i64 m.mr.a.s, .string m.mr.k, vm, ve], .agg #[.int .i64 n.kd, .int .i64 n.pe, .int .i64 n.hp, .bool n.hi, up, .int .i64 n.nu, .int .u64 (n.su : Int), .int .i64 n.mr.a.c, .int .i64 n.mr.a.s, .string n.mr.k, um, ue]] W fun e w' => e = .returned (.bool true) ∧ Below W.heap.size W w' := by
  obtain ⟨P1, p1, P2, p2, P3, p3, e1, e2, e3⟩ := hl.shape
  obtain ⟨Q1, q1, Q2, q2, Q3, q3, e4, e5, e6⟩ := hn.shape
  subst e1 e2 e3 e4 e5 e6
  have T0 := Lib.hid (Tw.new W m n _ _ _ _ _ _ hk hl hn)
  clear hl hn hk
  have tok1 : True := trivial
  obtain ⟨b1, hb1⟩ : ∃ b, fewM m = b := ⟨_, rfl⟩
  obtain ⟨b2, hb2⟩ : ∃ b, fewM n = b := ⟨_, rfl⟩
  have HB1 := Lib.hid hb1
  have HB2 := Lib.hid hb2
  rw [hb1, hb2] at h
  clear hb1 hb2
  cases b1
  · clear h HB2
    go_enter Tryz.func3, Tryz.ntmps3
    go_wp2_with (first
      | (go_at_call 13; have _t := tok1; clear tok1; refine (wi_speaks _ T0.out.kd).mono ?_; rintro E w1 ⟨rfl, o1⟩
         have T1 := Lib.hid (T0.out.keep o1)
         clear o1)
      | (go_at_call 14; with_reducible refine (lw_few _ m _ _ _ _ T1.out.ml).mono ?_; rintro E w2 ⟨rfl, o2⟩; rw [HB1.out]
         have T2 := Lib.hid (T1.out.keep o2)
         clear o2)
      | (refine wpl_load_if (by rfl) 31 _ rfl W.heap.size rfl 31 #[.int .i64 m.kd, .int .i64 m.pe, .int .i64 m.hp, .bool m.hi, .slice P1 m.ps.length p1, .int .i64 m.nu, .int .u64 (m.su : Int), .int .i64 m.mr.a.c, .int .i64 m.mr.a.s, .string m.mr.k, .slice P2 m.ms.length p2, .slice P3 m.es.length p3] _ T1.out.bx Tryz.underlying31 rfl (by kernel_rfl) ?_)
      | (go_at_call 13; refine (wi_speaks _ T2.out.kd).mono ?_; rintro E w8 ⟨rfl, o8⟩; have O8 := Lib.hid (T2.out.ho.trans o8); clear o8))
    go_ret
    exact ⟨rfl, O8.out.below (Nat.le_refl _) (fun k hk => hk.elim)⟩
  · cases b2
    · clear h
      go_enter Tryz.func3, Tryz.ntmps3
      go_wp2_with (first
        | (go_at_call 13; have _t := tok1; clear tok1; refine (wi_speaks _ T0.out.kd).mono ?_; rintro E w1 ⟨rfl, o1⟩
           have T1 := Lib.hid (T0.out.keep o1)
           clear o1)
        | (go_at_call 14; with_reducible refine (lw_few _ m _ _ _ _ T1.out.ml).mono ?_; rintro E w2 ⟨rfl, o2⟩; rw [HB1.out]
           have T2 := Lib.hid (T1.out.keep o2)
           clear o2)
        | (refine wpl_load_if (by rfl) 31 _ rfl W.heap.size rfl 31 #[.int .i64 m.kd, .int .i64 m.pe, .int .i64 m.hp, .bool m.hi, .slice P1 m.ps.length p1, .int .i64 m.nu, .int .u64 (m.su : Int), .int .i64 m.mr.a.c, .int .i64 m.mr.a.s, .string m.mr.k, .slice P2 m.ms.length p2, .slice P3 m.es.length p3] _ T1.out.bx Tryz.underlying31 rfl (by kernel_rfl) ?_)
        | (go_at_call 14; with_reducible refine (lw_few _ n _ _ _ _ T2.out.nl).mono ?_; rintro E w3 ⟨rfl, o3⟩; rw [HB2.out]
           have T3 := Lib.hid (T2.out.keep o3)
           clear o3)
        | (refine wpl_load_if (by rfl) 31 _ rfl (W.heap.size + 1) rfl 31 #[.int .i64 n.kd, .int .i64 n.pe, .int .i64 n.hp, .bool n.hi, .slice Q1 n.ps.length q1, .int .i64 n.nu, .int .u64 (n.su : Int), .int .i64 n.mr.a.c, .int .i64 n.mr.a.s, .string n.mr.k, .slice Q2 n.ms.length q2, .slice Q3 n.es.length q3] _ T2.out.by_ Tryz.underlying31 rfl (by kernel_rfl) ?_)
        | (go_at_call 13; refine (wi_speaks _ T3.out.kd).mono ?_; rintro E w8 ⟨rfl, o8⟩; have O8 := Lib.hid (T3.out.ho.trans o8); clear o8))
      go_ret
      exact ⟨rfl, O8.out.below (Nat.le_refl _) (fun k hk => hk.elim)⟩
    · exact absurd ⟨rfl, rfl⟩ h
set_option maxHeartbeats 25600000 in
theorem wtells_yes (m n : Ms) (vp vm ve up um ue : Value) (W : World) (hk : Kd W) (hl : Ml (fun b => b < W.heap.size) m vp vm ve W) (hn : Ml (fun b => b < W.heap.size) n up um ue W) (hs : m.su < 18446744073709551616) (hm : fewM m = true) (hm2 : fewM n = true) :
    Calls Tryz.prog 3 #[.agg #[.int .i64 m.kd, .int .i64 m.pe, .int .i64 m.hp, .bool m.hi, vp, .int .i64 m.nu, .int .u64 (m.su : Int), .int .i64 m.mr.a.c, .int .i64 m.mr.a.s, .string m.mr.k, vm, ve], .agg #[.int .i64 n.kd, .int .i64 n.pe, .int .i64 n.hp, .bool n.hi, up, .int .i64 n.nu, .int .u64 (n.su : Int), .int .i64 n.mr.a.c, .int .i64 n.mr.a.s, .string n.mr.k, um, ue]] W fun e w' => e = .returned (.bool true) ∧ Below W.heap.size W w' := by
  obtain ⟨P1, p1, P2, p2, P3, p3, e1, e2, e3⟩ := hl.shape
  obtain ⟨Q1, q1, Q2, q2, Q3, q3, e4, e5, e6⟩ := hn.shape
  subst e1 e2 e3 e4 e5 e6
  have T0 := Lib.hid (Tw.new W m n _ _ _ _ _ _ hk hl hn)
  have f1 := few_twenty hm
  have f2 := few_twenty hm2
  have HB1 : Hid (fewM m = true) := hm
  have HB2 : Hid (fewM n = true) := hm2
  have HW1 : Hid (Few9 m ∧ Few9 n) := ⟨⟨by omega, by omega, by omega⟩, ⟨by omega, by omega, by omega⟩⟩
  have HL1 : Hid (m.ms.length ≤ 1000 ∧ m.es.length ≤ 1000) := ⟨by omega, by omega⟩
  have HL2 : Hid (n.ms.length ≤ 1000 ∧ n.es.length ≤ 1000) := ⟨by omega, by omega⟩
  have H4 : Hid (m.ps.length ≤ 4096 ∧ m.ms.length ≤ 4096 ∧ m.es.length ≤ 4096) := ⟨by omega, by omega, by omega⟩
  have HSU := Lib.hid hs
  clear hl hn hk f1 f2 hm hm2 hs
  obtain ⟨z, hz⟩ : ∃ z, wGood m = z := ⟨_, rfl⟩
  have HZ := Lib.hid hz
  have HG := Lib.hid (fun (S : Nat → Prop) (vp um ue : Value) (w : World) (l : Ml S m vp um ue w) => rd_wgood S m vp um ue w l H4.out)
  have HGW := Lib.hid (fun (S : Nat → Prop) (vp um ue : Value) (w : World) (k : Kd w) (l : Ml S m vp um ue w) => wi_good S m vp um ue w k l H4.out)
  rw [hz] at HG HGW
  obtain ⟨b0, hb0⟩ : ∃ b : Bool, (b = true ↔ m = n) := by
    rcases Classical.em (m = n) with h | h
    · exact ⟨true, ⟨fun _ => h, fun _ => rfl⟩⟩
    · exact ⟨false, ⟨(fun h => by cases h), (fun k => absurd k h)⟩⟩
  have HSR : Hid (∀ (S T : Nat → Prop) (vp vm ve up um ue : Value) (w : World), Ml S m vp vm ve w → Ml T n up um ue w → Calls Tryz.prog 20 #[.agg #[.int .i64 m.kd, .int .i64 m.pe, .int .i64 m.hp, .bool m.hi, vp, .int .i64 m.nu, .int .u64 (m.su : Int), .int .i64 m.mr.a.c, .int .i64 m.mr.a.s, .string m.mr.k, vm, ve], .agg #[.int .i64 n.kd, .int .i64 n.pe, .int .i64 n.hp, .bool n.hi, up, .int .i64 n.nu, .int .u64 (n.su : Int), .int .i64 n.mr.a.c, .int .i64 n.mr.a.s, .string n.mr.k, um, ue]] w fun e w' => e = .returned (.bool b0) ∧ Only none_ w w') :=
    fun S T vp vm ve up um ue w l k => (rf_wsame S T m n vp vm ve up um ue w l k HW1.out.1 HW1.out.2).mono (fun e w' ⟨b, h1, h2, h3⟩ => ⟨by rw [h1, bool_same h2 hb0], h3⟩)
  have HSW : Hid (∀ (S T : Nat → Prop) (vp vm ve up um ue : Value) (w : World), Ml S m vp vm ve w → Ml T n up um ue w → Calls Tryz.prog 19 #[.agg #[.int .i64 m.kd, .int .i64 m.pe, .int .i64 m.hp, .bool m.hi, vp, .int .i64 m.nu, .int .u64 (m.su : Int), .int .i64 m.mr.a.c, .int .i64 m.mr.a.s, .string m.mr.k, vm, ve], .agg #[.int .i64 n.kd, .int .i64 n.pe, .int .i64 n.hp, .bool n.hi, up, .int .i64 n.nu, .int .u64 (n.su : Int), .int .i64 n.mr.a.c, .int .i64 n.mr.a.s, .string n.mr.k, um, ue]] w fun e w' => e = .returned (.bool b0) ∧ Only none_ w w') :=
    fun S T vp vm ve up um ue w l k => (wi_wsame S T m n vp vm ve up um ue w l k HW1.out.1 HW1.out.2).mono (fun e w' ⟨b, h1, h2, h3⟩ => ⟨by rw [h1, bool_same h2 hb0], h3⟩)
  have HSE : Hid (∀ (S T : Nat → Prop) (vp um ue up vm ve : Value) (w : World), Ml S m vp um ue w → Ml T m up vm ve w → Calls Tryz.prog 20 #[.agg #[.int .i64 m.kd, .int .i64 m.pe, .int .i64 m.hp, .bool m.hi, vp, .int .i64 m.nu, .int .u64 (m.su : Int), .int .i64 m.mr.a.c, .int .i64 m.mr.a.s, .string m.mr.k, um, ue], .agg #[.int .i64 m.kd, .int .i64 m.pe, .int .i64 m.hp, .bool m.hi, up, .int .i64 m.nu, .int .u64 (m.su : Int), .int .i64 m.mr.a.c, .int .i64 m.mr.a.s, .string m.mr.k, vm, ve]] w fun e w' => e = .returned (.bool true) ∧ Only none_ w w') :=
    fun S T vp um ue up vm ve w l k => rf_wsame_eq S T m m vp um ue up vm ve w l k HW1.out.1 HW1.out.1 rfl
  have hzz : (z != z) = false := by simp
  have hbb : (b0 != b0) = false := by cases b0 <;> rfl
  clear hz hb0
  by_cases hz0 : z = 0
  · subst hz0
    have HEN := Lib.hid (fun (S : Nat → Prop) (vp um ue : Value) (w : World) (k : Kd w) (l : Ml S m vp um ue w) => wi_encode_ok S m vp um ue w k l H4.out HZ.out HSU.out)
    have HFO : wdC m.kd (wEnc m) = 0 ∧ wdM m.kd (wEnc m) = m := by
      have h := wd_forth HZ.out HSU.out []
      rw [List.append_nil] at h
      exact h
    have H72 := wEnc_720 HZ.out HSU.out
    have HBY := Lib.hid (fun (vp um ue : Value) (w : World) (l : Ml (fun b => b < w.heap.size) m vp um ue w) => rd_wbytes m vp um ue w l (fun i hi hh => good_fits HZ.out HSU.out hi hh))
    have HDE := Lib.hid (fun (A : Option Addr) (k c : Nat) (S : Nat → Prop) (w : World) (h : Byt w S (.slice A k c) (wEnc m)) (hk : Kd w) => wi_decode m.kd A k c (wEnc m) S w h (by omega) hk)
    rw [HFO.1, HFO.2] at HDE
    obtain ⟨es, hes⟩ : ∃ es, wEnc m = es := ⟨_, rfl⟩
    rw [hes] at HEN H72 HBY HDE
    obtain ⟨L5, hL5⟩ : ∃ k, es.length = k := ⟨_, rfl⟩
    have HL5 := Lib.hid hL5
    have h72 : (L5 : Int) ≤ 720 := by omega
    have hd72 : decide ((L5 : Int) ≤ 720) = true := by simpa using h72
    clear HFO H72 hes hL5
    go_enter Tryz.func3, Tryz.ntmps3
    go_wp2_with (first
      | (go_at_call 13; refine (wi_speaks _ T0.out.kd).mono ?_; rintro E w1 ⟨rfl, o1⟩
         have T1 := Lib.hid (T0.out.keep o1)
         clear o1)
      | (go_at_call 14; with_reducible refine (lw_few _ m _ _ _ _ T1.out.ml).mono ?_; rintro E w2 ⟨rfl, o2⟩; rw [HB1.out]
         have T2 := Lib.hid (T1.out.keep o2)
         clear o2)
      | (go_at_call 14; with_reducible refine (lw_few _ n _ _ _ _ T2.out.nl).mono ?_; rintro E w3 ⟨rfl, o3⟩; rw [HB2.out]
         have T3 := Lib.hid (T2.out.keep o3)
         clear o3)
      | (refine wpl_load_if (by rfl) 31 _ rfl (W.heap.size + 1) rfl 31 #[.int .i64 n.kd, .int .i64 n.pe, .int .i64 n.hp, .bool n.hi, .slice Q1 n.ps.length q1, .int .i64 n.nu, .int .u64 (n.su : Int), .int .i64 n.mr.a.c, .int .i64 n.mr.a.s, .string n.mr.k, .slice Q2 n.ms.length q2, .slice Q3 n.es.length q3] _ T2.out.by_ Tryz.underlying31 rfl (by kernel_rfl) ?_)
      | (refine wpl_load_if (by rfl) 31 _ rfl W.heap.size rfl 31 #[.int .i64 m.kd, .int .i64 m.pe, .int .i64 m.hp, .bool m.hi, .slice P1 m.ps.length p1, .int .i64 m.nu, .int .u64 (m.su : Int), .int .i64 m.mr.a.c, .int .i64 m.mr.a.s, .string m.mr.k, .slice P2 m.ms.length p2, .slice P3 m.es.length p3] _ T1.out.bx Tryz.underlying31 rfl (by kernel_rfl) ?_)
      | (have _t := T4; refine wpl_load rfl 31 _ rfl W.heap.size rfl 31 #[.int .i64 m.kd, .int .i64 m.pe, .int .i64 m.hp, .bool m.hi, .slice P1 m.ps.length p1, .int .i64 m.nu, .int .u64 (m.su : Int), .int .i64 m.mr.a.c, .int .i64 m.mr.a.s, .string m.mr.k, .slice P2 m.ms.length p2, .slice P3 m.es.length p3] _ T4.out.bx Tryz.underlying31 rfl (by kernel_rfl) ?_)
      | (have _t := T3; refine wpl_load rfl 31 _ rfl W.heap.size rfl 31 #[.int .i64 m.kd, .int .i64 m.pe, .int .i64 m.hp, .bool m.hi, .slice P1 m.ps.length p1, .int .i64 m.nu, .int .u64 (m.su : Int), .int .i64 m.mr.a.c, .int .i64 m.mr.a.s, .string m.mr.k, .slice P2 m.ms.length p2, .slice P3 m.es.length p3] _ T3.out.bx Tryz.underlying31 rfl (by kernel_rfl) ?_)
      | (go_at_call 15; refine (HG.out _ _ _ _ _ T3.out.ml).mono ?_; rintro E w4 ⟨rfl, o4⟩
         have T4 := Lib.hid (T3.out.keep o4)
         clear o4)
      | (go_at_call 17; refine (lw_of _ m _ _ _ _ T4.out.ml HL1.out).mono ?_; rintro E w9 ⟨uma, uea, rfl, l9, o9⟩
         have L9 := Lib.hid l9
         have T9 := Lib.hid (T4.out.keep o9)
         clear l9 o9)
      | (go_at_call 16; refine (HEN.out _ _ _ _ _ T9.out.kd L9.out).mono ?_; rintro E w5 ⟨A5, n5, c5, rfl, own5, o5⟩
         obtain rfl : L5 = n5 := by have := own_n3 own5; rw [HL5.out] at this; exact this.symm
         have B5 := Lib.hid (Byt.of_own own5)
         have T5 := Lib.hid (T9.out.keep o5)
         clear own5 o5))
    (refine wp_region_free (fun X => Only none_ w5 X) (Only none_) (F := ?_) (by kernel_rfl) 94 (by rfl) (by kernel_rfl) (fun x => ?_) ((Only.refl none_ w5).drew) ?_; rotate_left; (· (simp only [putsL, Act.put, List.setIfInBounds_toArray, List.set_cons_zero, List.set_cons_succ, Nat.reduceAdd]; exact rfl)))
    ((first | refine fr_value (c := ?_) (by rfl) (fun w => Only.refl none_ w) (fun x w0 hS hk => ?_) ?_ | refine fr_value_if (c := ?_) (by rfl) (by rfl) (by rfl) (fun w => Only.refl none_ w) (fun x w0 hS hk => ?_) ?_); rotate_left; (· (have hk2 := hk; (try simp [knAll, Region.binds] at hk2); obtain ⟨y0, y1, y2, y3, y4, y5, y6, y7, y8, y9, y10, y11⟩ := cells12 (T5.out.bx.only hS (fun h => h)); go_simp; try (with_reducible rfl))); try simp only [List.nil_append, List.cons_append])
    ((first | refine fr_some (fun v X => ∃ um ue, v = .agg #[.int .i64 m.kd, .int .i64 m.pe, .int .i64 m.hp, .bool m.hi, .slice P1 m.ps.length p1, .int .i64 m.nu, .int .u64 (m.su : Int), .int .i64 m.mr.a.c, .int .i64 m.mr.a.s, .string m.mr.k, um, ue] ∧ Ml (fun _ => True) m (.slice P1 m.ps.length p1) um ue X) (fun _ _ _ _ _ r ⟨um, ue, h1, h2⟩ => ⟨um, ue, h1, h2.keep r⟩) (by rfl) (fun x w0 hS hk => ?_) ?_ | refine fr_some_if (fun v X => ∃ um ue, v = .agg #[.int .i64 m.kd, .int .i64 m.pe, .int .i64 m.hp, .bool m.hi, .slice P1 m.ps.length p1, .int .i64 m.nu, .int .u64 (m.su : Int), .int .i64 m.mr.a.c, .int .i64 m.mr.a.s, .string m.mr.k, um, ue] ∧ Ml (fun _ => True) m (.slice P1 m.ps.length p1) um ue X) (fun _ _ _ _ _ r ⟨um, ue, h1, h2⟩ => ⟨um, ue, h1, h2.keep r⟩) (by rfl) (by rfl) (by rfl) (fun x w0 hS hk => ?_) ?_); (· (have hk2 := hk; (try simp [knAll, Region.binds] at hk2); skip; refine got_call (f := 17) (args := ?_) (by go_simp; try (with_reducible rfl)) ?_; refine (lw_of _ m _ _ _ _ (T5.out.ml.keep hS) HL1.out).mono ?_; rintro E w9 ⟨um, ue, rfl, l9, o9⟩; exact ⟨_, rfl, ⟨um, ue, rfl, l9.mono (fun _ _ _ => trivial)⟩, hS.trans o9, o9⟩)); try simp only [List.nil_append, List.cons_append])
    ((first | refine fr_some (fun v _ => v = .int .i64 0) (fun _ _ _ _ _ _ h => h) (by rfl) (fun x w0 hS hk => ?_) ?_ | refine fr_some_if (fun v _ => v = .int .i64 0) (fun _ _ _ _ _ _ h => h) (by rfl) (by rfl) (by rfl) (fun x w0 hS hk => ?_) ?_); (· (have hk2 := hk; (try simp [knAll, Region.binds] at hk2); obtain ⟨u1, u2, e1, l1⟩ := kn_at (j := 1) (by rfl) hk (by rfl); simp only [e1]; refine got_call (f := 18) (args := ?_) (by go_simp; try (with_reducible rfl)) ?_; refine (HGW.out _ _ _ _ _ (T5.out.kd.keep hS) l1).mono ?_; rintro E w9 ⟨rfl, o9⟩; exact ⟨_, rfl, rfl, hS.trans o9, o9⟩)); try simp only [List.nil_append, List.cons_append])
    ((first | refine fr_value (c := ?_) (by rfl) (fun w => Only.refl none_ w) (fun x w0 hS hk => ?_) ?_ | refine fr_value_if (c := ?_) (by rfl) (by rfl) (by rfl) (fun w => Only.refl none_ w) (fun x w0 hS hk => ?_) ?_); rotate_left; (· (have hk2 := hk; (try simp [knAll, Region.binds] at hk2); skip; go_simp; try (with_reducible rfl))); try simp only [List.nil_append, List.cons_append])
    ((first | refine fr_value (c := ?_) (by rfl) (fun w => Only.refl none_ w) (fun x w0 hS hk => ?_) ?_ | refine fr_value_if (c := ?_) (by rfl) (by rfl) (by rfl) (fun w => Only.refl none_ w) (fun x w0 hS hk => ?_) ?_); rotate_left; (· (have hk2 := hk; (try simp [knAll, Region.binds] at hk2); skip; go_simp; try (with_reducible rfl))); try simp only [List.nil_append, List.cons_append])
    ((first | refine fr_value (c := ?_) (by rfl) (fun w => Only.refl none_ w) (fun x w0 hS hk => ?_) ?_ | refine fr_value_if (c := ?_) (by rfl) (by rfl) (by rfl) (fun w => Only.refl none_ w) (fun x w0 hS hk => ?_) ?_); rotate_left; (· (have hk2 := hk; (try simp [knAll, Region.binds] at hk2); skip; go_simp; try (with_reducible rfl))); try simp only [List.nil_append, List.cons_append])
    ((first | refine fr_value (c := ?_) (by rfl) (fun w => Only.refl none_ w) (fun x w0 hS hk => ?_) ?_ | refine fr_value_if (c := ?_) (by rfl) (by rfl) (by rfl) (fun w => Only.refl none_ w) (fun x w0 hS hk => ?_) ?_); rotate_left; (· (have hk2 := hk; (try simp [knAll, Region.binds] at hk2); skip; go_simp; try (with_reducible rfl))); try simp only [List.nil_append, List.cons_append])
    ((first | refine fr_value (c := ?_) (by rfl) (fun w => Only.refl none_ w) (fun x w0 hS hk => ?_) ?_ | refine fr_value_if (c := ?_) (by rfl) (by rfl) (by rfl) (fun w => Only.refl none_ w) (fun x w0 hS hk => ?_) ?_); rotate_left; (· (have hk2 := hk; (try simp [knAll, Region.binds] at hk2); skip; go_simp; try (with_reducible rfl))); try simp only [List.nil_append, List.cons_append])
    ((first | refine fr_value (c := ?_) (by rfl) (fun w => Only.refl none_ w) (fun x w0 hS hk => ?_) ?_ | refine fr_value_if (c := ?_) (by rfl) (by rfl) (by rfl) (fun w => Only.refl none_ w) (fun x w0 hS hk => ?_) ?_); rotate_left; (· (have hk2 := hk; (try simp [knAll, Region.binds] at hk2); skip; go_simp; try (with_reducible rfl))); try simp only [List.nil_append, List.cons_append])
    ((first | refine fr_value (c := ?_) (by rfl) (fun w => Only.refl none_ w) (fun x w0 hS hk => ?_) ?_ | refine fr_value_if (c := ?_) (by rfl) (by rfl) (by rfl) (fun w => Only.refl none_ w) (fun x w0 hS hk => ?_) ?_); rotate_left; (· (have hk2 := hk; (try simp [knAll, Region.binds] at hk2); skip; go_simp; try (with_reducible rfl))); try simp only [List.nil_append, List.cons_append])
    ((first | refine fr_value (c := ?_) (by rfl) (fun w => Only.refl none_ w) (fun x w0 hS hk => ?_) ?_ | refine fr_value_if (c := ?_) (by rfl) (by rfl) (by rfl) (fun w => Only.refl none_ w) (fun x w0 hS hk => ?_) ?_); rotate_left; (· (have hk2 := hk; (try simp [knAll, Region.binds] at hk2); skip; go_simp; try (with_reducible rfl))); try simp only [List.nil_append, List.cons_append])
    ((first | refine fr_value (c := ?_) (by rfl) (fun w => Only.refl none_ w) (fun x w0 hS hk => ?_) ?_ | refine fr_value_if (c := ?_) (by rfl) (by rfl) (by rfl) (fun w => Only.refl none_ w) (fun x w0 hS hk => ?_) ?_); rotate_left; (· (have hk2 := hk; (try simp [knAll, Region.binds] at hk2); obtain ⟨y0, y1, y2, y3, y4, y5, y6, y7, y8, y9, y10, y11⟩ := cells12 (T5.out.bx.only hS (fun h => h)); go_simp; try (with_reducible rfl))); try simp only [List.nil_append, List.cons_append])
    ((first | refine fr_some (fun v X => ∃ um ue, v = .agg #[.int .i64 m.kd, .int .i64 m.pe, .int .i64 m.hp, .bool m.hi, .slice P1 m.ps.length p1, .int .i64 m.nu, .int .u64 (m.su : Int), .int .i64 m.mr.a.c, .int .i64 m.mr.a.s, .string m.mr.k, um, ue] ∧ Ml (fun _ => True) m (.slice P1 m.ps.length p1) um ue X) (fun _ _ _ _ _ r ⟨um, ue, h1, h2⟩ => ⟨um, ue, h1, h2.keep r⟩) (by rfl) (fun x w0 hS hk => ?_) ?_ | refine fr_some_if (fun v X => ∃ um ue, v = .agg #[.int .i64 m.kd, .int .i64 m.pe, .int .i64 m.hp, .bool m.hi, .slice P1 m.ps.length p1, .int .i64 m.nu, .int .u64 (m.su : Int), .int .i64 m.mr.a.c, .int .i64 m.mr.a.s, .string m.mr.k, um, ue] ∧ Ml (fun _ => True) m (.slice P1 m.ps.length p1) um ue X) (fun _ _ _ _ _ r ⟨um, ue, h1, h2⟩ => ⟨um, ue, h1, h2.keep r⟩) (by rfl) (by rfl) (by rfl) (fun x w0 hS hk => ?_) ?_); (· (have hk2 := hk; (try simp [knAll, Region.binds] at hk2); skip; refine got_call (f := 17) (args := ?_) (by go_simp; try (with_reducible rfl)) ?_; refine (lw_of _ m _ _ _ _ (T5.out.ml.keep hS) HL1.out).mono ?_; rintro E w9 ⟨um, ue, rfl, l9, o9⟩; exact ⟨_, rfl, ⟨um, ue, rfl, l9.mono (fun _ _ _ => trivial)⟩, hS.trans o9, o9⟩)); try simp only [List.nil_append, List.cons_append])
    ((first | refine fr_value (c := ?_) (by rfl) (fun w => Only.refl none_ w) (fun x w0 hS hk => ?_) ?_ | refine fr_value_if (c := ?_) (by rfl) (by rfl) (by rfl) (fun w => Only.refl none_ w) (fun x w0 hS hk => ?_) ?_); rotate_left; (· (have hk2 := hk; (try simp [knAll, Region.binds] at hk2); obtain ⟨y0, y1, y2, y3, y4, y5, y6, y7, y8, y9, y10, y11⟩ := cells12 (T5.out.by_.only hS (fun h => h)); go_simp; try (with_reducible rfl))); try simp only [List.nil_append, List.cons_append])
    ((first | refine fr_some (fun v X => ∃ um ue, v = .agg #[.int .i64 n.kd, .int .i64 n.pe, .int .i64 n.hp, .bool n.hi, .slice Q1 n.ps.length q1, .int .i64 n.nu, .int .u64 (n.su : Int), .int .i64 n.mr.a.c, .int .i64 n.mr.a.s, .string n.mr.k, um, ue] ∧ Ml (fun _ => True) n (.slice Q1 n.ps.length q1) um ue X) (fun _ _ _ _ _ r ⟨um, ue, h1, h2⟩ => ⟨um, ue, h1, h2.keep r⟩) (by rfl) (fun x w0 hS hk => ?_) ?_ | refine fr_some_if (fun v X => ∃ um ue, v = .agg #[.int .i64 n.kd, .int .i64 n.pe, .int .i64 n.hp, .bool n.hi, .slice Q1 n.ps.length q1, .int .i64 n.nu, .int .u64 (n.su : Int), .int .i64 n.mr.a.c, .int .i64 n.mr.a.s, .string n.mr.k, um, ue] ∧ Ml (fun _ => True) n (.slice Q1 n.ps.length q1) um ue X) (fun _ _ _ _ _ r ⟨um, ue, h1, h2⟩ => ⟨um, ue, h1, h2.keep r⟩) (by rfl) (by rfl) (by rfl) (fun x w0 hS hk => ?_) ?_); (· (have hk2 := hk; (try simp [knAll, Region.binds] at hk2); skip; refine got_call (f := 17) (args := ?_) (by go_simp; try (with_reducible rfl)) ?_; refine (lw_of _ n _ _ _ _ (T5.out.nl.keep hS) HL2.out).mono ?_; rintro E w9 ⟨um, ue, rfl, l9, o9⟩; exact ⟨_, rfl, ⟨um, ue, rfl, l9.mono (fun _ _ _ => trivial)⟩, hS.trans o9, o9⟩)); try simp only [List.nil_append, List.cons_append])
    ((first | refine fr_some (fun v _ => v = .bool b0) (fun _ _ _ _ _ _ h => h) (by rfl) (fun x w0 hS hk => ?_) ?_ | refine fr_some_if (fun v _ => v = .bool b0) (fun _ _ _ _ _ _ h => h) (by rfl) (by rfl) (by rfl) (fun x w0 hS hk => ?_) ?_); (· (have hk2 := hk; (try simp [knAll, Region.binds] at hk2); obtain ⟨u1, u2, e1, l1⟩ := kn_at (j := 12) (by rfl) hk (by rfl); obtain ⟨u3, u4, e2, l2⟩ := kn_at (j := 14) (by rfl) hk (by rfl); simp only [e1, e2]; refine got_call (f := 19) (args := ?_) (by go_simp; try (with_reducible rfl)) ?_; refine (HSW.out _ _ _ _ _ _ _ _ _ l1 l2).mono ?_; rintro E w9 ⟨rfl, o9⟩; exact ⟨_, rfl, rfl, hS.trans o9, o9⟩)); try simp only [List.nil_append, List.cons_append])
    ((first | refine fr_value (c := ?_) (by rfl) (fun w => Only.refl none_ w) (fun x w0 hS hk => ?_) ?_ | refine fr_value_if (c := ?_) (by rfl) (by rfl) (by rfl) (fun w => Only.refl none_ w) (fun x w0 hS hk => ?_) ?_); rotate_left; (· (have hk2 := hk; (try simp [knAll, Region.binds] at hk2); obtain ⟨y0, y1, y2, y3, y4, y5, y6, y7, y8, y9, y10, y11⟩ := cells12 (T5.out.bx.only hS (fun h => h)); go_simp; try (with_reducible rfl))); try simp only [List.nil_append, List.cons_append])
    ((first | refine fr_value (c := ?_) (by rfl) (fun w => Only.refl none_ w) (fun x w0 hS hk => ?_) ?_ | refine fr_value_if (c := ?_) (by rfl) (by rfl) (by rfl) (fun w => Only.refl none_ w) (fun x w0 hS hk => ?_) ?_); rotate_left; (· (have hk2 := hk; (try simp [knAll, Region.binds] at hk2); obtain ⟨y0, y1, y2, y3, y4, y5, y6, y7, y8, y9, y10, y11⟩ := cells12 (T5.out.by_.only hS (fun h => h)); go_simp; try (with_reducible rfl))); try simp only [List.nil_append, List.cons_append])
    ((first | refine fr_some (fun v _ => v = .bool b0) (fun _ _ _ _ _ _ h => h) (by rfl) (fun x w0 hS hk => ?_) ?_ | refine fr_some_if (fun v _ => v = .bool b0) (fun _ _ _ _ _ _ h => h) (by rfl) (by rfl) (by rfl) (fun x w0 hS hk => ?_) ?_); (· (have hk2 := hk; (try simp [knAll, Region.binds] at hk2); skip; refine got_call (f := 20) (args := ?_) (by go_simp; try (with_reducible rfl)) ?_; refine (HSR.out _ _ _ _ _ _ _ _ _ (T5.out.ml.keep hS) (T5.out.nl.keep hS)).mono ?_; rintro E w9 ⟨rfl, o9⟩; exact ⟨_, rfl, rfl, hS.trans o9, o9⟩)); try simp only [List.nil_append, List.cons_append])
    ((first | refine fr_value (c := ?_) (by rfl) (fun w => Only.refl none_ w) (fun x w0 hS hk => ?_) ?_ | refine fr_value_if (c := ?_) (by rfl) (by rfl) (by rfl) (fun w => Only.refl none_ w) (fun x w0 hS hk => ?_) ?_); rotate_left; (· (have hk2 := hk; (try simp [knAll, Region.binds] at hk2); skip; go_simp; try (with_reducible rfl))); try simp only [List.nil_append, List.cons_append])
    ((first | refine fr_value (c := ?_) (by rfl) (fun w => Only.refl none_ w) (fun x w0 hS hk => ?_) ?_ | refine fr_value_if (c := ?_) (by rfl) (by rfl) (by rfl) (fun w => Only.refl none_ w) (fun x w0 hS hk => ?_) ?_); rotate_left; (· (have hk2 := hk; (try simp [knAll, Region.binds] at hk2); skip; go_simp; try (with_reducible rfl))); try simp only [List.nil_append, List.cons_append])
    ((first | refine fr_value (c := ?_) (by rfl) (fun w => Only.refl none_ w) (fun x w0 hS hk => ?_) ?_ | refine fr_value_if (c := ?_) (by rfl) (by rfl) (by rfl) (fun w => Only.refl none_ w) (fun x w0 hS hk => ?_) ?_); rotate_left; (· (have hk2 := hk; (try simp [knAll, Region.binds] at hk2); skip; go_simp; try (with_reducible rfl))); try simp only [List.nil_append, List.cons_append])
    ((first | refine fr_value (c := ?_) (by rfl) (fun w => Only.refl none_ w) (fun x w0 hS hk => ?_) ?_ | refine fr_value_if (c := ?_) (by rfl) (by rfl) (by rfl) (fun w => Only.refl none_ w) (fun x w0 hS hk => ?_) ?_); rotate_left; (· (have hk2 := hk; (try simp [knAll, Region.binds] at hk2); skip; go_simp; try (with_reducible rfl))); try simp only [List.nil_append, List.cons_append])
    ((first | refine fr_value (c := ?_) (by rfl) (fun w => Only.refl none_ w) (fun x w0 hS hk => ?_) ?_ | refine fr_value_if (c := ?_) (by rfl) (by rfl) (by rfl) (fun w => Only.refl none_ w) (fun x w0 hS hk => ?_) ?_); rotate_left; (· (have hk2 := hk; (try simp [knAll, Region.binds] at hk2); obtain ⟨y0, y1, y2, y3, y4, y5, y6, y7, y8, y9, y10, y11⟩ := cells12 (T5.out.bx.only hS (fun h => h)); go_simp; try (with_reducible rfl))); try simp only [List.nil_append, List.cons_append])
    ((first | refine fr_some (fun v _ => v = .string (nmK m.kd)) (fun _ _ _ _ _ _ h => h) (by rfl) (fun x w0 hS hk => ?_) ?_ | refine fr_some_if (fun v _ => v = .string (nmK m.kd)) (fun _ _ _ _ _ _ h => h) (by rfl) (by rfl) (by rfl) (fun x w0 hS hk => ?_) ?_); (· (have hk2 := hk; (try simp [knAll, Region.binds] at hk2); skip; refine got_call (f := 21) (args := ?_) (by go_simp; try (with_reducible rfl)) ?_; refine (wi_name m.kd _ (T5.out.kd.keep hS)).mono ?_; rintro E w9 ⟨rfl, o9⟩; exact ⟨_, rfl, rfl, hS.trans o9, o9⟩)); try simp only [List.nil_append, List.cons_append])
    ((first | refine fr_value (c := ?_) (by rfl) (fun w => Only.refl none_ w) (fun x w0 hS hk => ?_) ?_ | refine fr_value_if (c := ?_) (by rfl) (by rfl) (by rfl) (fun w => Only.refl none_ w) (fun x w0 hS hk => ?_) ?_); rotate_left; (· (have hk2 := hk; (try simp [knAll, Region.binds] at hk2); skip; go_simp; try (with_reducible rfl))); try simp only [List.nil_append, List.cons_append])
    ((first | refine fr_value (c := ?_) (by rfl) (fun w => Only.refl none_ w) (fun x w0 hS hk => ?_) ?_ | refine fr_value_if (c := ?_) (by rfl) (by rfl) (by rfl) (fun w => Only.refl none_ w) (fun x w0 hS hk => ?_) ?_); rotate_left; (· (have hk2 := hk; (try simp [knAll, Region.binds] at hk2); obtain ⟨y0, y1, y2, y3, y4, y5, y6, y7, y8, y9, y10, y11⟩ := cells12 (T5.out.bx.only hS (fun h => h)); go_simp; try (with_reducible rfl))); try simp only [List.nil_append, List.cons_append])
    ((first | refine fr_some (fun v _ => v = .string (nmK m.kd)) (fun _ _ _ _ _ _ h => h) (by rfl) (fun x w0 hS hk => ?_) ?_ | refine fr_some_if (fun v _ => v = .string (nmK m.kd)) (fun _ _ _ _ _ _ h => h) (by rfl) (by rfl) (by rfl) (fun x w0 hS hk => ?_) ?_); (· (have hk2 := hk; (try simp [knAll, Region.binds] at hk2); skip; refine got_call (f := 22) (args := ?_) (by go_simp; try (with_reducible rfl)) ?_; refine (rd_name m.kd _).mono ?_; rintro E w9 ⟨rfl, o9⟩; exact ⟨_, rfl, rfl, hS.trans o9, o9⟩)); try simp only [List.nil_append, List.cons_append])
    ((first | refine fr_value (c := ?_) (by rfl) (fun w => Only.refl none_ w) (fun x w0 hS hk => ?_) ?_ | refine fr_value_if (c := ?_) (by rfl) (by rfl) (by rfl) (fun w => Only.refl none_ w) (fun x w0 hS hk => ?_) ?_); rotate_left; (· (have hk2 := hk; (try simp [knAll, Region.binds] at hk2); skip; go_simp; try (with_reducible rfl))); try simp only [List.nil_append, List.cons_append])
    ((first | refine fr_value (c := ?_) (by rfl) (fun w => Only.refl none_ w) (fun x w0 hS hk => ?_) ?_ | refine fr_value_if (c := ?_) (by rfl) (by rfl) (by rfl) (fun w => Only.refl none_ w) (fun x w0 hS hk => ?_) ?_); rotate_left; (· (have hk2 := hk; (try simp [knAll, Region.binds] at hk2); skip; go_simp; try (with_reducible rfl))); try simp only [List.nil_append, List.cons_append])
    (refine fr_end ?_; intro x w9 hS hk)
    have e29 := kn_end_at 29 hk (by rfl)
    rw [Nat.zero_add] at e29
    clear hk
    rw [e29]
    clear e29
    have TA := Lib.hid (T5.out.keep hS)
    have BA := Lib.hid (B5.out.only hS (fun _ _ h => h))
    have k0 := TA.out.bx.cell_ (i := 0) rfl
    clear hS T5 B5
    go_wp2_with (first
      | (go_at_call 23; refine (HDE.out _ _ _ _ _ BA.out TA.out.kd).mono ?_; rintro E w7 ⟨va, vb, vc, rfl, l7, o7⟩
         obtain ⟨D1, d1, D2, d2, D3, d3, g1, g2, g3⟩ := l7.shape
         subst g1 g2 g3
         have oa := (Only.refl none_ w7).alloc (.cells #[.int .i64 m.kd, .int .i64 m.pe, .int .i64 m.hp, .bool m.hi, .slice D1 m.ps.length d1, .int .i64 m.nu, .int .u64 (m.su : Int), .int .i64 m.mr.a.c, .int .i64 m.mr.a.s, .string m.mr.k, .slice D2 m.ms.length d2, .slice D3 m.es.length d3] 45)
         have L8 := Lib.hid ((l7.keep oa).mono (T := fun _ => True) (fun _ _ _ => trivial))
         have N8 := Lib.hid (Blk.new w7 45 #[.int .i64 m.kd, .int .i64 m.pe, .int .i64 m.hp, .bool m.hi, .slice D1 m.ps.length d1, .int .i64 m.nu, .int .u64 (m.su : Int), .int .i64 m.mr.a.c, .int .i64 m.mr.a.s, .string m.mr.k, .slice D2 m.ms.length d2, .slice D3 m.es.length d3])
         have T8 := Lib.hid ((TA.out.keep o7).keep oa)
         have B8 := Lib.hid ((BA.out.only o7 (fun _ _ h => h)).only oa (fun _ _ h => h))
         clear l7 o7 oa)
      | (refine wpl_new rfl rfl 45 rfl _ _ rfl #[.int .i64 m.kd, .int .i64 m.pe, .int .i64 m.hp, .bool m.hi, .slice D1 m.ps.length d1, .int .i64 m.nu, .int .u64 (m.su : Int), .int .i64 m.mr.a.c, .int .i64 m.mr.a.s, .string m.mr.k, .slice D2 m.ms.length d2, .slice D3 m.es.length d3] rfl rfl (by kernel_rfl) (ms_one _ _ _ _ _ _ _ _ _ _) ?_))
    generalize w7.heap.size = b9 at *
    generalize w7.alloc (.cells #[.int .i64 m.kd, .int .i64 m.pe, .int .i64 m.hp, .bool m.hi, .slice D1 m.ps.length d1, .int .i64 m.nu, .int .u64 (m.su : Int), .int .i64 m.mr.a.c, .int .i64 m.mr.a.s, .string m.mr.k, .slice D2 m.ms.length d2, .slice D3 m.es.length d3] 45) = w8 at *
    (refine wp_region_free (fun X => Only none_ w8 X) (Only none_) (F := ?_) (by kernel_rfl) 94 (by rfl) (by kernel_rfl) (fun x => ?_) ((Only.refl none_ w8).drew) ?_; rotate_left; (· (simp only [putsL, Act.put, List.setIfInBounds_toArray, List.set_cons_zero, List.set_cons_succ, Nat.reduceAdd]; exact rfl)))
    ((first | refine fr_value (c := ?_) (by rfl) (fun w => Only.refl none_ w) (fun x w0 hS hk => ?_) ?_ | refine fr_value_if (c := ?_) (by rfl) (by rfl) (by rfl) (fun w => Only.refl none_ w) (fun x w0 hS hk => ?_) ?_); rotate_left; (· (have hk2 := hk; (try simp [knAll, Region.binds] at hk2); skip; go_simp; try (with_reducible rfl))); try simp only [List.nil_append, List.cons_append])
    ((first | refine fr_value (c := ?_) (by rfl) (fun w => Only.refl none_ w) (fun x w0 hS hk => ?_) ?_ | refine fr_value_if (c := ?_) (by rfl) (by rfl) (by rfl) (fun w => Only.refl none_ w) (fun x w0 hS hk => ?_) ?_); rotate_left; (· (have hk2 := hk; (try simp [knAll, Region.binds] at hk2); have kb := run_bytes_string w0 _ _ _ (B8.out.only hS (fun _ _ h => h)); go_simp; try (with_reducible rfl))); try simp only [List.nil_append, List.cons_append])
    ((first | refine fr_value (c := ?_) (by rfl) (fun w => Only.refl none_ w) (fun x w0 hS hk => ?_) ?_ | refine fr_value_if (c := ?_) (by rfl) (by rfl) (by rfl) (fun w => Only.refl none_ w) (fun x w0 hS hk => ?_) ?_); rotate_left; (· (have hk2 := hk; (try simp [knAll, Region.binds] at hk2); obtain ⟨y0, y1, y2, y3, y4, y5, y6, y7, y8, y9, y10, y11⟩ := cells12 (T8.out.bx.only hS (fun h => h)); go_simp; try (with_reducible rfl))); try simp only [List.nil_append, List.cons_append])
    ((first | refine fr_some (fun v X => ∃ A k c, v = .slice A k c ∧ X.ownsRow W.heap.size 5 1 (.slice A k c) es.length (byts es)) (fun _ _ _ _ _ r ⟨A, k, c, h1, h2⟩ => ⟨A, k, c, h1, owns_only h2 r (fun _ _ h => h)⟩) (by rfl) (fun x w0 hS hk => ?_) ?_ | refine fr_some_if (fun v X => ∃ A k c, v = .slice A k c ∧ X.ownsRow W.heap.size 5 1 (.slice A k c) es.length (byts es)) (fun _ _ _ _ _ r ⟨A, k, c, h1, h2⟩ => ⟨A, k, c, h1, owns_only h2 r (fun _ _ h => h)⟩) (by rfl) (by rfl) (by rfl) (fun x w0 hS hk => ?_) ?_); (· (have hk2 := hk; (try simp [knAll, Region.binds] at hk2); skip; refine got_call (f := 24) (args := ?_) (by go_simp; try (with_reducible rfl)) ?_; refine (HBY.out _ _ _ _ ((T8.out.ml.keep hS).mono (fun b _ hb => Nat.lt_of_lt_of_le hb (T8.out.ho.trans hS).size))).mono ?_; rintro E w9 ⟨A9, k9, c9, rfl, own9, o9⟩; exact ⟨_, rfl, ⟨A9, k9, c9, rfl, owns_base own9 (T8.out.ho.trans hS).size⟩, hS.trans o9, o9⟩)); try simp only [List.nil_append, List.cons_append])
    ((first | refine fr_value (c := ?_) (by rfl) (fun w => Only.refl none_ w) (fun x w0 hS hk => ?_) ?_ | refine fr_value_if (c := ?_) (by rfl) (by rfl) (by rfl) (fun w => Only.refl none_ w) (fun x w0 hS hk => ?_) ?_); rotate_left; (· (have hk2 := hk; (try simp [knAll, Region.binds] at hk2); obtain ⟨A9, k9, c9, e9, own9⟩ := kn_at (j := 3) (by rfl) hk (by rfl); simp only [e9]; have kb := run_bytes_string w0 _ _ _ (Byt.of_own own9); go_simp; try (with_reducible rfl))); try simp only [List.nil_append, List.cons_append])
    ((first | refine fr_value (c := ?_) (by rfl) (fun w => Only.refl none_ w) (fun x w0 hS hk => ?_) ?_ | refine fr_value_if (c := ?_) (by rfl) (by rfl) (by rfl) (fun w => Only.refl none_ w) (fun x w0 hS hk => ?_) ?_); rotate_left; (· (have hk2 := hk; (try simp [knAll, Region.binds] at hk2); skip; go_simp; try (with_reducible rfl))); try simp only [List.nil_append, List.cons_append])
    ((first | refine fr_value (c := ?_) (by rfl) (fun w => Only.refl none_ w) (fun x w0 hS hk => ?_) ?_ | refine fr_value_if (c := ?_) (by rfl) (by rfl) (by rfl) (fun w => Only.refl none_ w) (fun x w0 hS hk => ?_) ?_); rotate_left; (· (have hk2 := hk; (try simp [knAll, Region.binds] at hk2); skip; go_simp; try (with_reducible rfl))); try simp only [List.nil_append, List.cons_append])
    ((first | refine fr_value (c := ?_) (by rfl) (fun w => Only.refl none_ w) (fun x w0 hS hk => ?_) ?_ | refine fr_value_if (c := ?_) (by rfl) (by rfl) (by rfl) (fun w => Only.refl none_ w) (fun x w0 hS hk => ?_) ?_); rotate_left; (· (have hk2 := hk; (try simp [knAll, Region.binds] at hk2); skip; go_simp; try (with_reducible rfl))); try simp only [List.nil_append, List.cons_append])
    ((first | refine fr_value (c := ?_) (by rfl) (fun w => Only.refl none_ w) (fun x w0 hS hk => ?_) ?_ | refine fr_value_if (c := ?_) (by rfl) (by rfl) (by rfl) (fun w => Only.refl none_ w) (fun x w0 hS hk => ?_) ?_); rotate_left; (· (have hk2 := hk; (try simp [knAll, Region.binds] at hk2); skip; go_simp; try (with_reducible rfl))); try simp only [List.nil_append, List.cons_append])
    ((first | refine fr_value (c := ?_) (by rfl) (fun w => Only.refl none_ w) (fun x w0 hS hk => ?_) ?_ | refine fr_value_if (c := ?_) (by rfl) (by rfl) (by rfl) (fun w => Only.refl none_ w) (fun x w0 hS hk => ?_) ?_); rotate_left; (· (have hk2 := hk; (try simp [knAll, Region.binds] at hk2); skip; go_simp; try (with_reducible rfl))); try simp only [List.nil_append, List.cons_append])
    ((first | refine fr_value (c := ?_) (by rfl) (fun w => Only.refl none_ w) (fun x w0 hS hk => ?_) ?_ | refine fr_value_if (c := ?_) (by rfl) (by rfl) (by rfl) (fun w => Only.refl none_ w) (fun x w0 hS hk => ?_) ?_); rotate_left; (· (have hk2 := hk; (try simp [knAll, Region.binds] at hk2); skip; go_simp; try (with_reducible rfl))); try simp only [List.nil_append, List.cons_append])
    ((first | refine fr_value (c := ?_) (by rfl) (fun w => Only.refl none_ w) (fun x w0 hS hk => ?_) ?_ | refine fr_value_if (c := ?_) (by rfl) (by rfl) (by rfl) (fun w => Only.refl none_ w) (fun x w0 hS hk => ?_) ?_); rotate_left; (· (have hk2 := hk; (try simp [knAll, Region.binds] at hk2); skip; go_simp; try (with_reducible rfl))); try simp only [List.nil_append, List.cons_append])
    ((first | refine fr_value (c := ?_) (by rfl) (fun w => Only.refl none_ w) (fun x w0 hS hk => ?_) ?_ | refine fr_value_if (c := ?_) (by rfl) (by rfl) (by rfl) (fun w => Only.refl none_ w) (fun x w0 hS hk => ?_) ?_); rotate_left; (· (have hk2 := hk; (try simp [knAll, Region.binds] at hk2); skip; go_simp; try (with_reducible rfl))); try simp only [List.nil_append, List.cons_append])
    ((first | refine fr_value (c := ?_) (by rfl) (fun w => Only.refl none_ w) (fun x w0 hS hk => ?_) ?_ | refine fr_value_if (c := ?_) (by rfl) (by rfl) (by rfl) (fun w => Only.refl none_ w) (fun x w0 hS hk => ?_) ?_); rotate_left; (· (have hk2 := hk; (try simp [knAll, Region.binds] at hk2); skip; go_simp; try (with_reducible rfl))); try simp only [List.nil_append, List.cons_append])
    ((first | refine fr_value (c := ?_) (by rfl) (fun w => Only.refl none_ w) (fun x w0 hS hk => ?_) ?_ | refine fr_value_if (c := ?_) (by rfl) (by rfl) (by rfl) (fun w => Only.refl none_ w) (fun x w0 hS hk => ?_) ?_); rotate_left; (· (have hk2 := hk; (try simp [knAll, Region.binds] at hk2); skip; go_simp; try (with_reducible rfl))); try simp only [List.nil_append, List.cons_append])
    ((first | refine fr_value (c := ?_) (by rfl) (fun w => Only.refl none_ w) (fun x w0 hS hk => ?_) ?_ | refine fr_value_if (c := ?_) (by rfl) (by rfl) (by rfl) (fun w => Only.refl none_ w) (fun x w0 hS hk => ?_) ?_); rotate_left; (· (have hk2 := hk; (try simp [knAll, Region.binds] at hk2); skip; go_simp; try (with_reducible rfl))); try simp only [List.nil_append, List.cons_append])
    ((first | refine fr_value (c := ?_) (by rfl) (fun w => Only.refl none_ w) (fun x w0 hS hk => ?_) ?_ | refine fr_value_if (c := ?_) (by rfl) (by rfl) (by rfl) (fun w => Only.refl none_ w) (fun x w0 hS hk => ?_) ?_); rotate_left; (· (have hk2 := hk; (try simp [knAll, Region.binds] at hk2); obtain ⟨y0, y1, y2, y3, y4, y5, y6, y7, y8, y9, y10, y11⟩ := cells12 (N8.out.only hS (fun h => h)); go_simp; try (with_reducible rfl))); try simp only [List.nil_append, List.cons_append])
    ((first | refine fr_some (fun v X => ∃ um ue, v = .agg #[.int .i64 m.kd, .int .i64 m.pe, .int .i64 m.hp, .bool m.hi, .slice D1 m.ps.length d1, .int .i64 m.nu, .int .u64 (m.su : Int), .int .i64 m.mr.a.c, .int .i64 m.mr.a.s, .string m.mr.k, um, ue] ∧ Ml (fun _ => True) m (.slice D1 m.ps.length d1) um ue X) (fun _ _ _ _ _ r ⟨um, ue, h1, h2⟩ => ⟨um, ue, h1, h2.keep r⟩) (by rfl) (fun x w0 hS hk => ?_) ?_ | refine fr_some_if (fun v X => ∃ um ue, v = .agg #[.int .i64 m.kd, .int .i64 m.pe, .int .i64 m.hp, .bool m.hi, .slice D1 m.ps.length d1, .int .i64 m.nu, .int .u64 (m.su : Int), .int .i64 m.mr.a.c, .int .i64 m.mr.a.s, .string m.mr.k, um, ue] ∧ Ml (fun _ => True) m (.slice D1 m.ps.length d1) um ue X) (fun _ _ _ _ _ r ⟨um, ue, h1, h2⟩ => ⟨um, ue, h1, h2.keep r⟩) (by rfl) (by rfl) (by rfl) (fun x w0 hS hk => ?_) ?_); (· (have hk2 := hk; (try simp [knAll, Region.binds] at hk2); skip; refine got_call (f := 25) (args := ?_) (by go_simp; try (with_reducible rfl)) ?_; refine (lw_to _ m _ _ _ _ (L8.out.keep hS) HL1.out).mono ?_; rintro E w9 ⟨um, ue, rfl, l9, o9⟩; exact ⟨_, rfl, ⟨um, ue, rfl, l9.mono (fun _ _ _ => trivial)⟩, hS.trans o9, o9⟩)); try simp only [List.nil_append, List.cons_append])
    ((first | refine fr_value (c := ?_) (by rfl) (fun w => Only.refl none_ w) (fun x w0 hS hk => ?_) ?_ | refine fr_value_if (c := ?_) (by rfl) (by rfl) (by rfl) (fun w => Only.refl none_ w) (fun x w0 hS hk => ?_) ?_); rotate_left; (· (have hk2 := hk; (try simp [knAll, Region.binds] at hk2); obtain ⟨y0, y1, y2, y3, y4, y5, y6, y7, y8, y9, y10, y11⟩ := cells12 (T8.out.bx.only hS (fun h => h)); go_simp; try (with_reducible rfl))); try simp only [List.nil_append, List.cons_append])
    ((first | refine fr_some (fun v _ => v = .bool true) (fun _ _ _ _ _ _ h => h) (by rfl) (fun x w0 hS hk => ?_) ?_ | refine fr_some_if (fun v _ => v = .bool true) (fun _ _ _ _ _ _ h => h) (by rfl) (by rfl) (by rfl) (fun x w0 hS hk => ?_) ?_); (· (have hk2 := hk; (try simp [knAll, Region.binds] at hk2); obtain ⟨u1, u2, e1, l1⟩ := kn_at (j := 17) (by rfl) hk (by rfl); simp only [e1]; refine got_call (f := 20) (args := ?_) (by go_simp; try (with_reducible rfl)) ?_; refine (HSE.out _ _ _ _ _ _ _ _ _ l1 (T8.out.ml.keep hS)).mono ?_; rintro E w9 ⟨rfl, o9⟩; exact ⟨_, rfl, rfl, hS.trans o9, o9⟩)); try simp only [List.nil_append, List.cons_append])
    ((first | refine fr_value (c := ?_) (by rfl) (fun w => Only.refl none_ w) (fun x w0 hS hk => ?_) ?_ | refine fr_value_if (c := ?_) (by rfl) (by rfl) (by rfl) (fun w => Only.refl none_ w) (fun x w0 hS hk => ?_) ?_); rotate_left; (· (have hk2 := hk; (try simp [knAll, Region.binds] at hk2); skip; go_simp; try (with_reducible rfl))); try simp only [List.nil_append, List.cons_append])
    ((first | refine fr_value (c := ?_) (by rfl) (fun w => Only.refl none_ w) (fun x w0 hS hk => ?_) ?_ | refine fr_value_if (c := ?_) (by rfl) (by rfl) (by rfl) (fun w => Only.refl none_ w) (fun x w0 hS hk => ?_) ?_); rotate_left; (· (have hk2 := hk; (try simp [knAll, Region.binds] at hk2); skip; go_simp; try (with_reducible rfl))); try simp only [List.nil_append, List.cons_append])
    (refine fr_end ?_; intro x w9 hS hk)
    have e21 := kn_end_at 21 hk (by rfl)
    rw [Nat.zero_add] at e21
    clear hk
    go_wp2_with fail
    go_ret
    exact ⟨by show Ending.returned (x 21) = _; rw [e21], (T8.out.ho.trans hS).below (Nat.le_refl _) (fun k hk => hk.elim)⟩
  · have hzb : (z != 0) = true := by simpa using hz0
    have HEN : Hid (∀ (S : Nat → Prop) (vp um ue : Value) (w : World), Kd w → Ml S m vp um ue w → Calls Tryz.prog 16 #[.agg #[.int .i64 m.kd, .int .i64 m.pe, .int .i64 m.hp, .bool m.hi, vp, .int .i64 m.nu, .int .u64 (m.su : Int), .int .i64 m.mr.a.c, .int .i64 m.mr.a.s, .string m.mr.k, um, ue]] w fun E w' => E = .returned (.tuple #[.slice none 0 0, .int .i64 z]) ∧ Only none_ w w') := fun S vp um ue w k l => by
      have := wi_encode_no S m vp um ue w k l H4.out (by rw [HZ.out]; exact hz0)
      rw [HZ.out] at this
      exact this
    clear hz0
    go_enter Tryz.func3, Tryz.ntmps3
    go_wp2_with (first
      | (go_at_call 13; refine (wi_speaks _ T0.out.kd).mono ?_; rintro E w1 ⟨rfl, o1⟩
         have T1 := Lib.hid (T0.out.keep o1)
         clear o1)
      | (go_at_call 14; with_reducible refine (lw_few _ m _ _ _ _ T1.out.ml).mono ?_; rintro E w2 ⟨rfl, o2⟩; rw [HB1.out]
         have T2 := Lib.hid (T1.out.keep o2)
         clear o2)
      | (go_at_call 14; with_reducible refine (lw_few _ n _ _ _ _ T2.out.nl).mono ?_; rintro E w3 ⟨rfl, o3⟩; rw [HB2.out]
         have T3 := Lib.hid (T2.out.keep o3)
         clear o3)
      | (refine wpl_load_if (by rfl) 31 _ rfl (W.heap.size + 1) rfl 31 #[.int .i64 n.kd, .int .i64 n.pe, .int .i64 n.hp, .bool n.hi, .slice Q1 n.ps.length q1, .int .i64 n.nu, .int .u64 (n.su : Int), .int .i64 n.mr.a.c, .int .i64 n.mr.a.s, .string n.mr.k, .slice Q2 n.ms.length q2, .slice Q3 n.es.length q3] _ T2.out.by_ Tryz.underlying31 rfl (by kernel_rfl) ?_)
      | (refine wpl_load_if (by rfl) 31 _ rfl W.heap.size rfl 31 #[.int .i64 m.kd, .int .i64 m.pe, .int .i64 m.hp, .bool m.hi, .slice P1 m.ps.length p1, .int .i64 m.nu, .int .u64 (m.su : Int), .int .i64 m.mr.a.c, .int .i64 m.mr.a.s, .string m.mr.k, .slice P2 m.ms.length p2, .slice P3 m.es.length p3] _ T1.out.bx Tryz.underlying31 rfl (by kernel_rfl) ?_)
      | (have _t := T4; refine wpl_load rfl 31 _ rfl W.heap.size rfl 31 #[.int .i64 m.kd, .int .i64 m.pe, .int .i64 m.hp, .bool m.hi, .slice P1 m.ps.length p1, .int .i64 m.nu, .int .u64 (m.su : Int), .int .i64 m.mr.a.c, .int .i64 m.mr.a.s, .string m.mr.k, .slice P2 m.ms.length p2, .slice P3 m.es.length p3] _ T4.out.bx Tryz.underlying31 rfl (by kernel_rfl) ?_)
      | (have _t := T3; refine wpl_load rfl 31 _ rfl W.heap.size rfl 31 #[.int .i64 m.kd, .int .i64 m.pe, .int .i64 m.hp, .bool m.hi, .slice P1 m.ps.length p1, .int .i64 m.nu, .int .u64 (m.su : Int), .int .i64 m.mr.a.c, .int .i64 m.mr.a.s, .string m.mr.k, .slice P2 m.ms.length p2, .slice P3 m.es.length p3] _ T3.out.bx Tryz.underlying31 rfl (by kernel_rfl) ?_)
      | (go_at_call 15; refine (HG.out _ _ _ _ _ T3.out.ml).mono ?_; rintro E w4 ⟨rfl, o4⟩
         have T4 := Lib.hid (T3.out.keep o4)
         clear o4)
      | (go_at_call 17; refine (lw_of _ m _ _ _ _ T4.out.ml HL1.out).mono ?_; rintro E w9 ⟨uma, uea, rfl, l9, o9⟩
         have L9 := Lib.hid l9
         have T9 := Lib.hid (T4.out.keep o9)
         clear l9 o9)
      | (go_at_call 16; refine (HEN.out _ _ _ _ _ T9.out.kd L9.out).mono ?_; rintro E w5 ⟨rfl, o5⟩
         have T5 := Lib.hid (T9.out.keep o5)
         clear o5))
    (refine wp_region_free (fun X => Only none_ w5 X) (Only none_) (F := ?_) (by kernel_rfl) 94 (by rfl) (by kernel_rfl) (fun x => ?_) ((Only.refl none_ w5).drew) ?_; rotate_left; (· (simp only [putsL, Act.put, List.setIfInBounds_toArray, List.set_cons_zero, List.set_cons_succ, Nat.reduceAdd]; exact rfl)))
    ((first | refine fr_value (c := ?_) (by rfl) (fun w => Only.refl none_ w) (fun x w0 hS hk => ?_) ?_ | refine fr_value_if (c := ?_) (by rfl) (by rfl) (by rfl) (fun w => Only.refl none_ w) (fun x w0 hS hk => ?_) ?_); rotate_left; (· (have hk2 := hk; (try simp [knAll, Region.binds] at hk2); obtain ⟨y0, y1, y2, y3, y4, y5, y6, y7, y8, y9, y10, y11⟩ := cells12 (T5.out.bx.only hS (fun h => h)); go_simp; try (with_reducible rfl))); try simp only [List.nil_append, List.cons_append])
    ((first | refine fr_some (fun v X => ∃ um ue, v = .agg #[.int .i64 m.kd, .int .i64 m.pe, .int .i64 m.hp, .bool m.hi, .slice P1 m.ps.length p1, .int .i64 m.nu, .int .u64 (m.su : Int), .int .i64 m.mr.a.c, .int .i64 m.mr.a.s, .string m.mr.k, um, ue] ∧ Ml (fun _ => True) m (.slice P1 m.ps.length p1) um ue X) (fun _ _ _ _ _ r ⟨um, ue, h1, h2⟩ => ⟨um, ue, h1, h2.keep r⟩) (by rfl) (fun x w0 hS hk => ?_) ?_ | refine fr_some_if (fun v X => ∃ um ue, v = .agg #[.int .i64 m.kd, .int .i64 m.pe, .int .i64 m.hp, .bool m.hi, .slice P1 m.ps.length p1, .int .i64 m.nu, .int .u64 (m.su : Int), .int .i64 m.mr.a.c, .int .i64 m.mr.a.s, .string m.mr.k, um, ue] ∧ Ml (fun _ => True) m (.slice P1 m.ps.length p1) um ue X) (fun _ _ _ _ _ r ⟨um, ue, h1, h2⟩ => ⟨um, ue, h1, h2.keep r⟩) (by rfl) (by rfl) (by rfl) (fun x w0 hS hk => ?_) ?_); (· (have hk2 := hk; (try simp [knAll, Region.binds] at hk2); skip; refine got_call (f := 17) (args := ?_) (by go_simp; try (with_reducible rfl)) ?_; refine (lw_of _ m _ _ _ _ (T5.out.ml.keep hS) HL1.out).mono ?_; rintro E w9 ⟨um, ue, rfl, l9, o9⟩; exact ⟨_, rfl, ⟨um, ue, rfl, l9.mono (fun _ _ _ => trivial)⟩, hS.trans o9, o9⟩)); try simp only [List.nil_append, List.cons_append])
    ((first | refine fr_some (fun v _ => v = .int .i64 z) (fun _ _ _ _ _ _ h => h) (by rfl) (fun x w0 hS hk => ?_) ?_ | refine fr_some_if (fun v _ => v = .int .i64 z) (fun _ _ _ _ _ _ h => h) (by rfl) (by rfl) (by rfl) (fun x w0 hS hk => ?_) ?_); (· (have hk2 := hk; (try simp [knAll, Region.binds] at hk2); obtain ⟨u1, u2, e1, l1⟩ := kn_at (j := 1) (by rfl) hk (by rfl); simp only [e1]; refine got_call (f := 18) (args := ?_) (by go_simp; try (with_reducible rfl)) ?_; refine (HGW.out _ _ _ _ _ (T5.out.kd.keep hS) l1).mono ?_; rintro E w9 ⟨rfl, o9⟩; exact ⟨_, rfl, rfl, hS.trans o9, o9⟩)); try simp only [List.nil_append, List.cons_append])
    ((first | refine fr_value (c := ?_) (by rfl) (fun w => Only.refl none_ w) (fun x w0 hS hk => ?_) ?_ | refine fr_value_if (c := ?_) (by rfl) (by rfl) (by rfl) (fun w => Only.refl none_ w) (fun x w0 hS hk => ?_) ?_); rotate_left; (· (have hk2 := hk; (try simp [knAll, Region.binds] at hk2); skip; go_simp; try (with_reducible rfl))); try simp only [List.nil_append, List.cons_append])
    ((first | refine fr_value (c := ?_) (by rfl) (fun w => Only.refl none_ w) (fun x w0 hS hk => ?_) ?_ | refine fr_value_if (c := ?_) (by rfl) (by rfl) (by rfl) (fun w => Only.refl none_ w) (fun x w0 hS hk => ?_) ?_); rotate_left; (· (have hk2 := hk; (try simp [knAll, Region.binds] at hk2); skip; go_simp; try (with_reducible rfl))); try simp only [List.nil_append, List.cons_append])
    ((first | refine fr_value (c := ?_) (by rfl) (fun w => Only.refl none_ w) (fun x w0 hS hk => ?_) ?_ | refine fr_value_if (c := ?_) (by rfl) (by rfl) (by rfl) (fun w => Only.refl none_ w) (fun x w0 hS hk => ?_) ?_); rotate_left; (· (have hk2 := hk; (try simp [knAll, Region.binds] at hk2); skip; go_simp; try (with_reducible rfl))); try simp only [List.nil_append, List.cons_append])
    ((first | refine fr_value (c := ?_) (by rfl) (fun w => Only.refl none_ w) (fun x w0 hS hk => ?_) ?_ | refine fr_value_if (c := ?_) (by rfl) (by rfl) (by rfl) (fun w => Only.refl none_ w) (fun x w0 hS hk => ?_) ?_); rotate_left; (· (have hk2 := hk; (try simp [knAll, Region.binds] at hk2); skip; go_simp; try (with_reducible rfl))); try simp only [List.nil_append, List.cons_append])
    ((first | refine fr_value (c := ?_) (by rfl) (fun w => Only.refl none_ w) (fun x w0 hS hk => ?_) ?_ | refine fr_value_if (c := ?_) (by rfl) (by rfl) (by rfl) (fun w => Only.refl none_ w) (fun x w0 hS hk => ?_) ?_); rotate_left; (· (have hk2 := hk; (try simp [knAll, Region.binds] at hk2); skip; go_simp; try (with_reducible rfl))); try simp only [List.nil_append, List.cons_append])
    ((first | refine fr_value (c := ?_) (by rfl) (fun w => Only.refl none_ w) (fun x w0 hS hk => ?_) ?_ | refine fr_value_if (c := ?_) (by rfl) (by rfl) (by rfl) (fun w => Only.refl none_ w) (fun x w0 hS hk => ?_) ?_); rotate_left; (· (have hk2 := hk; (try simp [knAll, Region.binds] at hk2); skip; go_simp; try (with_reducible rfl))); try simp only [List.nil_append, List.cons_append])
    ((first | refine fr_value (c := ?_) (by rfl) (fun w => Only.refl none_ w) (fun x w0 hS hk => ?_) ?_ | refine fr_value_if (c := ?_) (by rfl) (by rfl) (by rfl) (fun w => Only.refl none_ w) (fun x w0 hS hk => ?_) ?_); rotate_left; (· (have hk2 := hk; (try simp [knAll, Region.binds] at hk2); skip; go_simp; try (with_reducible rfl))); try simp only [List.nil_append, List.cons_append])
    ((first | refine fr_value (c := ?_) (by rfl) (fun w => Only.refl none_ w) (fun x w0 hS hk => ?_) ?_ | refine fr_value_if (c := ?_) (by rfl) (by rfl) (by rfl) (fun w => Only.refl none_ w) (fun x w0 hS hk => ?_) ?_); rotate_left; (· (have hk2 := hk; (try simp [knAll, Region.binds] at hk2); skip; go_simp; try (with_reducible rfl))); try simp only [List.nil_append, List.cons_append])
    ((first | refine fr_value (c := ?_) (by rfl) (fun w => Only.refl none_ w) (fun x w0 hS hk => ?_) ?_ | refine fr_value_if (c := ?_) (by rfl) (by rfl) (by rfl) (fun w => Only.refl none_ w) (fun x w0 hS hk => ?_) ?_); rotate_left; (· (have hk2 := hk; (try simp [knAll, Region.binds] at hk2); obtain ⟨y0, y1, y2, y3, y4, y5, y6, y7, y8, y9, y10, y11⟩ := cells12 (T5.out.bx.only hS (fun h => h)); go_simp; try (with_reducible rfl))); try simp only [List.nil_append, List.cons_append])
    ((first | refine fr_some (fun v X => ∃ um ue, v = .agg #[.int .i64 m.kd, .int .i64 m.pe, .int .i64 m.hp, .bool m.hi, .slice P1 m.ps.length p1, .int .i64 m.nu, .int .u64 (m.su : Int), .int .i64 m.mr.a.c, .int .i64 m.mr.a.s, .string m.mr.k, um, ue] ∧ Ml (fun _ => True) m (.slice P1 m.ps.length p1) um ue X) (fun _ _ _ _ _ r ⟨um, ue, h1, h2⟩ => ⟨um, ue, h1, h2.keep r⟩) (by rfl) (fun x w0 hS hk => ?_) ?_ | refine fr_some_if (fun v X => ∃ um ue, v = .agg #[.int .i64 m.kd, .int .i64 m.pe, .int .i64 m.hp, .bool m.hi, .slice P1 m.ps.length p1, .int .i64 m.nu, .int .u64 (m.su : Int), .int .i64 m.mr.a.c, .int .i64 m.mr.a.s, .string m.mr.k, um, ue] ∧ Ml (fun _ => True) m (.slice P1 m.ps.length p1) um ue X) (fun _ _ _ _ _ r ⟨um, ue, h1, h2⟩ => ⟨um, ue, h1, h2.keep r⟩) (by rfl) (by rfl) (by rfl) (fun x w0 hS hk => ?_) ?_); (· (have hk2 := hk; (try simp [knAll, Region.binds] at hk2); skip; refine got_call (f := 17) (args := ?_) (by go_simp; try (with_reducible rfl)) ?_; refine (lw_of _ m _ _ _ _ (T5.out.ml.keep hS) HL1.out).mono ?_; rintro E w9 ⟨um, ue, rfl, l9, o9⟩; exact ⟨_, rfl, ⟨um, ue, rfl, l9.mono (fun _ _ _ => trivial)⟩, hS.trans o9, o9⟩)); try simp only [List.nil_append, List.cons_append])
    ((first | refine fr_value (c := ?_) (by rfl) (fun w => Only.refl none_ w) (fun x w0 hS hk => ?_) ?_ | refine fr_value_if (c := ?_) (by rfl) (by rfl) (by rfl) (fun w => Only.refl none_ w) (fun x w0 hS hk => ?_) ?_); rotate_left; (· (have hk2 := hk; (try simp [knAll, Region.binds] at hk2); obtain ⟨y0, y1, y2, y3, y4, y5, y6, y7, y8, y9, y10, y11⟩ := cells12 (T5.out.by_.only hS (fun h => h)); go_simp; try (with_reducible rfl))); try simp only [List.nil_append, List.cons_append])
    ((first | refine fr_some (fun v X => ∃ um ue, v = .agg #[.int .i64 n.kd, .int .i64 n.pe, .int .i64 n.hp, .bool n.hi, .slice Q1 n.ps.length q1, .int .i64 n.nu, .int .u64 (n.su : Int), .int .i64 n.mr.a.c, .int .i64 n.mr.a.s, .string n.mr.k, um, ue] ∧ Ml (fun _ => True) n (.slice Q1 n.ps.length q1) um ue X) (fun _ _ _ _ _ r ⟨um, ue, h1, h2⟩ => ⟨um, ue, h1, h2.keep r⟩) (by rfl) (fun x w0 hS hk => ?_) ?_ | refine fr_some_if (fun v X => ∃ um ue, v = .agg #[.int .i64 n.kd, .int .i64 n.pe, .int .i64 n.hp, .bool n.hi, .slice Q1 n.ps.length q1, .int .i64 n.nu, .int .u64 (n.su : Int), .int .i64 n.mr.a.c, .int .i64 n.mr.a.s, .string n.mr.k, um, ue] ∧ Ml (fun _ => True) n (.slice Q1 n.ps.length q1) um ue X) (fun _ _ _ _ _ r ⟨um, ue, h1, h2⟩ => ⟨um, ue, h1, h2.keep r⟩) (by rfl) (by rfl) (by rfl) (fun x w0 hS hk => ?_) ?_); (· (have hk2 := hk; (try simp [knAll, Region.binds] at hk2); skip; refine got_call (f := 17) (args := ?_) (by go_simp; try (with_reducible rfl)) ?_; refine (lw_of _ n _ _ _ _ (T5.out.nl.keep hS) HL2.out).mono ?_; rintro E w9 ⟨um, ue, rfl, l9, o9⟩; exact ⟨_, rfl, ⟨um, ue, rfl, l9.mono (fun _ _ _ => trivial)⟩, hS.trans o9, o9⟩)); try simp only [List.nil_append, List.cons_append])
    ((first | refine fr_some (fun v _ => v = .bool b0) (fun _ _ _ _ _ _ h => h) (by rfl) (fun x w0 hS hk => ?_) ?_ | refine fr_some_if (fun v _ => v = .bool b0) (fun _ _ _ _ _ _ h => h) (by rfl) (by rfl) (by rfl) (fun x w0 hS hk => ?_) ?_); (· (have hk2 := hk; (try simp [knAll, Region.binds] at hk2); obtain ⟨u1, u2, e1, l1⟩ := kn_at (j := 12) (by rfl) hk (by rfl); obtain ⟨u3, u4, e2, l2⟩ := kn_at (j := 14) (by rfl) hk (by rfl); simp only [e1, e2]; refine got_call (f := 19) (args := ?_) (by go_simp; try (with_reducible rfl)) ?_; refine (HSW.out _ _ _ _ _ _ _ _ _ l1 l2).mono ?_; rintro E w9 ⟨rfl, o9⟩; exact ⟨_, rfl, rfl, hS.trans o9, o9⟩)); try simp only [List.nil_append, List.cons_append])
    ((first | refine fr_value (c := ?_) (by rfl) (fun w => Only.refl none_ w) (fun x w0 hS hk => ?_) ?_ | refine fr_value_if (c := ?_) (by rfl) (by rfl) (by rfl) (fun w => Only.refl none_ w) (fun x w0 hS hk => ?_) ?_); rotate_left; (· (have hk2 := hk; (try simp [knAll, Region.binds] at hk2); obtain ⟨y0, y1, y2, y3, y4, y5, y6, y7, y8, y9, y10, y11⟩ := cells12 (T5.out.bx.only hS (fun h => h)); go_simp; try (with_reducible rfl))); try simp only [List.nil_append, List.cons_append])
    ((first | refine fr_value (c := ?_) (by rfl) (fun w => Only.refl none_ w) (fun x w0 hS hk => ?_) ?_ | refine fr_value_if (c := ?_) (by rfl) (by rfl) (by rfl) (fun w => Only.refl none_ w) (fun x w0 hS hk => ?_) ?_); rotate_left; (· (have hk2 := hk; (try simp [knAll, Region.binds] at hk2); obtain ⟨y0, y1, y2, y3, y4, y5, y6, y7, y8, y9, y10, y11⟩ := cells12 (T5.out.by_.only hS (fun h => h)); go_simp; try (with_reducible rfl))); try simp only [List.nil_append, List.cons_append])
    ((first | refine fr_some (fun v _ => v = .bool b0) (fun _ _ _ _ _ _ h => h) (by rfl) (fun x w0 hS hk => ?_) ?_ | refine fr_some_if (fun v _ => v = .bool b0) (fun _ _ _ _ _ _ h => h) (by rfl) (by rfl) (by rfl) (fun x w0 hS hk => ?_) ?_); (· (have hk2 := hk; (try simp [knAll, Region.binds] at hk2); skip; refine got_call (f := 20) (args := ?_) (by go_simp; try (with_reducible rfl)) ?_; refine (HSR.out _ _ _ _ _ _ _ _ _ (T5.out.ml.keep hS) (T5.out.nl.keep hS)).mono ?_; rintro E w9 ⟨rfl, o9⟩; exact ⟨_, rfl, rfl, hS.trans o9, o9⟩)); try simp only [List.nil_append, List.cons_append])
    ((first | refine fr_value (c := ?_) (by rfl) (fun w => Only.refl none_ w) (fun x w0 hS hk => ?_) ?_ | refine fr_value_if (c := ?_) (by rfl) (by rfl) (by rfl) (fun w => Only.refl none_ w) (fun x w0 hS hk => ?_) ?_); rotate_left; (· (have hk2 := hk; (try simp [knAll, Region.binds] at hk2); skip; go_simp; try (with_reducible rfl))); try simp only [List.nil_append, List.cons_append])
    ((first | refine fr_value (c := ?_) (by rfl) (fun w => Only.refl none_ w) (fun x w0 hS hk => ?_) ?_ | refine fr_value_if (c := ?_) (by rfl) (by rfl) (by rfl) (fun w => Only.refl none_ w) (fun x w0 hS hk => ?_) ?_); rotate_left; (· (have hk2 := hk; (try simp [knAll, Region.binds] at hk2); skip; go_simp; try (with_reducible rfl))); try simp only [List.nil_append, List.cons_append])
    ((first | refine fr_value (c := ?_) (by rfl) (fun w => Only.refl none_ w) (fun x w0 hS hk => ?_) ?_ | refine fr_value_if (c := ?_) (by rfl) (by rfl) (by rfl) (fun w => Only.refl none_ w) (fun x w0 hS hk => ?_) ?_); rotate_left; (· (have hk2 := hk; (try simp [knAll, Region.binds] at hk2); skip; go_simp; try (with_reducible rfl))); try simp only [List.nil_append, List.cons_append])
    ((first | refine fr_value (c := ?_) (by rfl) (fun w => Only.refl none_ w) (fun x w0 hS hk => ?_) ?_ | refine fr_value_if (c := ?_) (by rfl) (by rfl) (by rfl) (fun w => Only.refl none_ w) (fun x w0 hS hk => ?_) ?_); rotate_left; (· (have hk2 := hk; (try simp [knAll, Region.binds] at hk2); skip; go_simp; try (with_reducible rfl))); try simp only [List.nil_append, List.cons_append])
    ((first | refine fr_value (c := ?_) (by rfl) (fun w => Only.refl none_ w) (fun x w0 hS hk => ?_) ?_ | refine fr_value_if (c := ?_) (by rfl) (by rfl) (by rfl) (fun w => Only.refl none_ w) (fun x w0 hS hk => ?_) ?_); rotate_left; (· (have hk2 := hk; (try simp [knAll, Region.binds] at hk2); obtain ⟨y0, y1, y2, y3, y4, y5, y6, y7, y8, y9, y10, y11⟩ := cells12 (T5.out.bx.only hS (fun h => h)); go_simp; try (with_reducible rfl))); try simp only [List.nil_append, List.cons_append])
    ((first | refine fr_some (fun v _ => v = .string (nmK m.kd)) (fun _ _ _ _ _ _ h => h) (by rfl) (fun x w0 hS hk => ?_) ?_ | refine fr_some_if (fun v _ => v = .string (nmK m.kd)) (fun _ _ _ _ _ _ h => h) (by rfl) (by rfl) (by rfl) (fun x w0 hS hk => ?_) ?_); (· (have hk2 := hk; (try simp [knAll, Region.binds] at hk2); skip; refine got_call (f := 21) (args := ?_) (by go_simp; try (with_reducible rfl)) ?_; refine (wi_name m.kd _ (T5.out.kd.keep hS)).mono ?_; rintro E w9 ⟨rfl, o9⟩; exact ⟨_, rfl, rfl, hS.trans o9, o9⟩)); try simp only [List.nil_append, List.cons_append])
    ((first | refine fr_value (c := ?_) (by rfl) (fun w => Only.refl none_ w) (fun x w0 hS hk => ?_) ?_ | refine fr_value_if (c := ?_) (by rfl) (by rfl) (by rfl) (fun w => Only.refl none_ w) (fun x w0 hS hk => ?_) ?_); rotate_left; (· (have hk2 := hk; (try simp [knAll, Region.binds] at hk2); skip; go_simp; try (with_reducible rfl))); try simp only [List.nil_append, List.cons_append])
    ((first | refine fr_value (c := ?_) (by rfl) (fun w => Only.refl none_ w) (fun x w0 hS hk => ?_) ?_ | refine fr_value_if (c := ?_) (by rfl) (by rfl) (by rfl) (fun w => Only.refl none_ w) (fun x w0 hS hk => ?_) ?_); rotate_left; (· (have hk2 := hk; (try simp [knAll, Region.binds] at hk2); obtain ⟨y0, y1, y2, y3, y4, y5, y6, y7, y8, y9, y10, y11⟩ := cells12 (T5.out.bx.only hS (fun h => h)); go_simp; try (with_reducible rfl))); try simp only [List.nil_append, List.cons_append])
    ((first | refine fr_some (fun v _ => v = .string (nmK m.kd)) (fun _ _ _ _ _ _ h => h) (by rfl) (fun x w0 hS hk => ?_) ?_ | refine fr_some_if (fun v _ => v = .string (nmK m.kd)) (fun _ _ _ _ _ _ h => h) (by rfl) (by rfl) (by rfl) (fun x w0 hS hk => ?_) ?_); (· (have hk2 := hk; (try simp [knAll, Region.binds] at hk2); skip; refine got_call (f := 22) (args := ?_) (by go_simp; try (with_reducible rfl)) ?_; refine (rd_name m.kd _).mono ?_; rintro E w9 ⟨rfl, o9⟩; exact ⟨_, rfl, rfl, hS.trans o9, o9⟩)); try simp only [List.nil_append, List.cons_append])
    ((first | refine fr_value (c := ?_) (by rfl) (fun w => Only.refl none_ w) (fun x w0 hS hk => ?_) ?_ | refine fr_value_if (c := ?_) (by rfl) (by rfl) (by rfl) (fun w => Only.refl none_ w) (fun x w0 hS hk => ?_) ?_); rotate_left; (· (have hk2 := hk; (try simp [knAll, Region.binds] at hk2); skip; go_simp; try (with_reducible rfl))); try simp only [List.nil_append, List.cons_append])
    ((first | refine fr_value (c := ?_) (by rfl) (fun w => Only.refl none_ w) (fun x w0 hS hk => ?_) ?_ | refine fr_value_if (c := ?_) (by rfl) (by rfl) (by rfl) (fun w => Only.refl none_ w) (fun x w0 hS hk => ?_) ?_); rotate_left; (· (have hk2 := hk; (try simp [knAll, Region.binds] at hk2); skip; go_simp; try (with_reducible rfl))); try simp only [List.nil_append, List.cons_append])
    (refine fr_end ?_; intro x w9 hS hk)
    have e29 := kn_end_at 29 hk (by rfl)
    rw [Nat.zero_add] at e29
    clear hk
    rw [e29]
    clear e29
    have OZ := Lib.hid (T5.out.ho.trans hS)
    clear hS
    go_wp2_with fail
    go_ret
    exact ⟨rfl, OZ.out.below (Nat.le_refl _) (fun k hk => hk.elim)⟩
end Go.Proofs.YtlieolehpmobfaaGreatDoor
end
