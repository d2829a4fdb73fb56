/- Texts of mine, one behind the other: WiJ, WiTr. No statement of the seat is proved here. -/
import Derived.Test.YtlieolehpmobfaaGreatDoorWt11
import Derived.Test.YtlieolehpmobfaaGreatDoorWt5
section
namespace Go.Proofs.YtlieolehpmobfaaGreatDoor
open Go.RowKit
set_option linter.all false
set_option maxRecDepth 100000
theorem Ms.eq {a b : Ms} (h1 : a.kd = b.kd) (h2 : a.pe = b.pe) (h3 : a.hp = b.hp) (h4 : a.hi = b.hi) (h5 : a.nu = b.nu) (h6 : a.su = b.su) (h7 : a.mr = b.mr) (h8 : a.ps = b.ps) (h9 : a.ms = b.ms) (h0 : a.es = b.es) : a = b := by
  cases a; cases b; simp_all
def Few9 (m : Ms) : Prop := m.ps.length ≤ 4096 ∧ m.ms.length ≤ 4096 ∧ m.es.length ≤ 4096
set_option maxHeartbeats 6400000 in
theorem rf_wsame_eq (S T : Nat → Prop) (m n : Ms) (vp vm ve up um ue : Value) (w : World) (hm : Ml S m vp vm ve w) (hn : Ml T n up um ue w) (h1 : Few9 m) (h2 : Few9 n) (he : m = n):
    Calls Tryz.prog 20 #[.agg #[.int .i64 m.kd, .int .i64 m.pe, .int .i64 m.hp, .bool m.hi, vp, .int .i64 m.nu, .int .u64 (m.su : Int), .int .i64 m.mr.a.c, .int .i64 m.mr.a.s, .string m.mr.k, vm, ve], .agg #[.int .i64 n.kd, .int .i64 n.pe, .int .i64 n.hp, .bool n.hi, up, .int .i64 n.nu, .int .u64 (n.su : Int), .int .i64 n.mr.a.c, .int .i64 n.mr.a.s, .string n.mr.k, um, ue]] w fun e w' => e = .returned (.bool true) ∧ Only none_ w w' := by
  obtain ⟨⟨A1, c1, ea1, _⟩, ⟨B1, d1, eb1, _⟩, ⟨C1, e1, ec1, _⟩⟩ := id hm
  obtain ⟨⟨A2, c2, ea2, _⟩, ⟨B2, d2, eb2, _⟩, ⟨C2, e2, ec2, _⟩⟩ := id hn
  subst ea1 eb1 ec1 ea2 eb2 ec2
  have OB := Lib.hid (((Only.refl none_ w).alloc (.cells #[.int .i64 m.kd, .int .i64 m.pe, .int .i64 m.hp, .bool m.hi, .slice A1 m.ps.length c1, .int .i64 m.nu, .int .u64 (m.su : Int), .int .i64 m.mr.a.c, .int .i64 m.mr.a.s, .string m.mr.k, .slice B1 m.ms.length d1, .slice C1 m.es.length e1] 31)).alloc (.cells #[.int .i64 n.kd, .int .i64 n.pe, .int .i64 n.hp, .bool n.hi, .slice A2 n.ps.length c2, .int .i64 n.nu, .int .u64 (n.su : Int), .int .i64 n.mr.a.c, .int .i64 n.mr.a.s, .string n.mr.k, .slice B2 n.ms.length d2, .slice C2 n.es.length e2] 31))
  have HM := Lib.hid (fun (w' : World) (o : Only none_ w w') => hm.keep o)
  have HN := Lib.hid (fun (w' : World) (o : Only none_ w w') => hn.keep o)
  have H1 := Lib.hid h1
  have H2 := Lib.hid h2
  have XB1 : Hid (Blk ((w.alloc (.cells #[.int .i64 m.kd, .int .i64 m.pe, .int .i64 m.hp, .bool m.hi, .slice A1 m.ps.length c1, .int .i64 m.nu, .int .u64 (m.su : Int), .int .i64 m.mr.a.c, .int .i64 m.mr.a.s, .string m.mr.k, .slice B1 m.ms.length d1, .slice C1 m.es.length e1] 31)).alloc (.cells #[.int .i64 n.kd, .int .i64 n.pe, .int .i64 n.hp, .bool n.hi, .slice A2 n.ps.length c2, .int .i64 n.nu, .int .u64 (n.su : Int), .int .i64 n.mr.a.c, .int .i64 n.mr.a.s, .string n.mr.k, .slice B2 n.ms.length d2, .slice C2 n.es.length e2] 31)) w.heap.size 31 #[.int .i64 m.kd, .int .i64 m.pe, .int .i64 m.hp, .bool m.hi, .slice A1 m.ps.length c1, .int .i64 m.nu, .int .u64 (m.su : Int), .int .i64 m.mr.a.c, .int .i64 m.mr.a.s, .string m.mr.k, .slice B1 m.ms.length d1, .slice C1 m.es.length e1]) := (Blk.new w _ _).alloc _
  have XB2 : Hid (Blk ((w.alloc (.cells #[.int .i64 m.kd, .int .i64 m.pe, .int .i64 m.hp, .bool m.hi, .slice A1 m.ps.length c1, .int .i64 m.nu, .int .u64 (m.su : Int), .int .i64 m.mr.a.c, .int .i64 m.mr.a.s, .string m.mr.k, .slice B1 m.ms.length d1, .slice C1 m.es.length e1] 31)).alloc (.cells #[.int .i64 n.kd, .int .i64 n.pe, .int .i64 n.hp, .bool n.hi, .slice A2 n.ps.length c2, .int .i64 n.nu, .int .u64 (n.su : Int), .int .i64 n.mr.a.c, .int .i64 n.mr.a.s, .string n.mr.k, .slice B2 n.ms.length d2, .slice C2 n.es.length e2] 31)) (w.heap.size + 1) 31 #[.int .i64 n.kd, .int .i64 n.pe, .int .i64 n.hp, .bool n.hi, .slice A2 n.ps.length c2, .int .i64 n.nu, .int .u64 (n.su : Int), .int .i64 n.mr.a.c, .int .i64 n.mr.a.s, .string n.mr.k, .slice B2 n.ms.length d2, .slice C2 n.es.length e2]) := by have := Blk.new (w.alloc (.cells #[.int .i64 m.kd, .int .i64 m.pe, .int .i64 m.hp, .bool m.hi, .slice A1 m.ps.length c1, .int .i64 m.nu, .int .u64 (m.su : Int), .int .i64 m.mr.a.c, .int .i64 m.mr.a.s, .string m.mr.k, .slice B1 m.ms.length d1, .slice C1 m.es.length e1] 31)) 31 #[.int .i64 n.kd, .int .i64 n.pe, .int .i64 n.hp, .bool n.hi, .slice A2 n.ps.length c2, .int .i64 n.nu, .int .u64 (n.su : Int), .int .i64 n.mr.a.c, .int .i64 n.mr.a.s, .string n.mr.k, .slice B2 n.ms.length d2, .slice C2 n.es.length e2]; rwa [World.size_alloc] at this
  clear hm hn h1 h2
  subst he
  have r6 := fun w => neqR w m.mr m.mr
  rw [(mkSame_iff _ _).2 rfl] at r6
  have r0 : (m.kd != m.kd) = false := by simp
  go_enter Tryz.func20, Tryz.ntmps20
  go_wp2_with (first
    | (go_at_call 71; refine (rl_int S T m.ps m.ps _ _ _ (HM.out _ OB.out).p (HN.out _ OB.out).p ⟨H1.out.1, H2.out.1⟩).mono ?_; rintro E w3 ⟨b, rfl, hb, o0⟩; obtain rfl : b = true := hb.2 rfl
       have O0 := Lib.hid (OB.out.trans o0)
       have P0 := Lib.hid ((Only.refl none_ _).trans o0)
       have k0x10 := (XB1.out.only P0.out (fun h => h)).cell_ (i := 10) rfl
       have k0x11 := (XB1.out.only P0.out (fun h => h)).cell_ (i := 11) rfl
       have k0y10 := (XB2.out.only P0.out (fun h => h)).cell_ (i := 10) rfl
       have k0y11 := (XB2.out.only P0.out (fun h => h)).cell_ (i := 11) rfl
       clear o0)
    | (go_at_call 72; refine (rl_mk S T m.ms m.ms _ _ _ (HM.out _ O0.out).q (HN.out _ O0.out).q ⟨H1.out.2.1, H2.out.2.1⟩).mono ?_; rintro E w4 ⟨b, rfl, hb, o1⟩; obtain rfl : b = true := hb.2 rfl
       have O1 := Lib.hid (O0.out.trans o1)
       have P1 := Lib.hid (P0.out.trans o1)
       have k1x10 := (XB1.out.only P1.out (fun h => h)).cell_ (i := 10) rfl
       have k1x11 := (XB1.out.only P1.out (fun h => h)).cell_ (i := 11) rfl
       have k1y10 := (XB2.out.only P1.out (fun h => h)).cell_ (i := 10) rfl
       have k1y11 := (XB2.out.only P1.out (fun h => h)).cell_ (i := 11) rfl
       clear o1)
    | (go_at_call 73; refine (rl_en S T m.es m.es _ _ _ (HM.out _ O1.out).r (HN.out _ O1.out).r ⟨H1.out.2.2, H2.out.2.2⟩).mono ?_; rintro E w5 ⟨b, rfl, hb, o2⟩; obtain rfl : b = true := hb.2 rfl
       have O2 := Lib.hid (O1.out.trans o2)
       have P2 := Lib.hid (P1.out.trans o2)
       have k2x10 := (XB1.out.only P2.out (fun h => h)).cell_ (i := 10) rfl
       have k2x11 := (XB1.out.only P2.out (fun h => h)).cell_ (i := 11) rfl
       have k2y10 := (XB2.out.only P2.out (fun h => h)).cell_ (i := 10) rfl
       have k2y11 := (XB2.out.only P2.out (fun h => h)).cell_ (i := 11) rfl
       clear o2))
  go_ret
  exact ⟨rfl, O2.out⟩
set_option maxHeartbeats 6400000 in
theorem wi_same_eq (S T : Nat → Prop) (m n : Ms) (vp vm ve up um ue : Value) (w : World) (hm : Ml S m vp vm ve w) (hn : Ml T n up um ue w) (h1 : Few9 m) (h2 : Few9 n) (he : m = n):
    Calls Tryz.prog 19 #[.agg #[.int .i64 m.kd, .int .i64 m.pe, .int .i64 m.hp, .bool m.hi, vp, .int .i64 m.nu, .int .u64 (m.su : Int), .int .i64 m.mr.a.c, .int .i64 m.mr.a.s, .string m.mr.k, vm, ve], .agg #[.int .i64 n.kd, .int .i64 n.pe, .int .i64 n.hp, .bool n.hi, up, .int .i64 n.nu, .int .u64 (n.su : Int), .int .i64 n.mr.a.c, .int .i64 n.mr.a.s, .string n.mr.k, um, ue]] w fun e w' => e = .returned (.bool true) ∧ Only none_ w w' := by
  obtain ⟨⟨A1, c1, ea1, _⟩, ⟨B1, d1, eb1, _⟩, ⟨C1, e1, ec1, _⟩⟩ := id hm
  obtain ⟨⟨A2, c2, ea2, _⟩, ⟨B2, d2, eb2, _⟩, ⟨C2, e2, ec2, _⟩⟩ := id hn
  subst ea1 eb1 ec1 ea2 eb2 ec2
  have OB := Lib.hid (((Only.refl none_ w).alloc (.cells #[.int .i64 m.kd, .int .i64 m.pe, .int .i64 m.hp, .bool m.hi, .slice A1 m.ps.length c1, .int .i64 m.nu, .int .u64 (m.su : Int), .int .i64 m.mr.a.c, .int .i64 m.mr.a.s, .string m.mr.k, .slice B1 m.ms.length d1, .slice C1 m.es.length e1] 45)).alloc (.cells #[.int .i64 n.kd, .int .i64 n.pe, .int .i64 n.hp, .bool n.hi, .slice A2 n.ps.length c2, .int .i64 n.nu, .int .u64 (n.su : Int), .int .i64 n.mr.a.c, .int .i64 n.mr.a.s, .string n.mr.k, .slice B2 n.ms.length d2, .slice C2 n.es.length e2] 45))
  have HM := Lib.hid (fun (w' : World) (o : Only none_ w w') => hm.keep o)
  have HN := Lib.hid (fun (w' : World) (o : Only none_ w w') => hn.keep o)
  have H1 := Lib.hid h1
  have H2 := Lib.hid h2
  have XB1 : Hid (Blk ((w.alloc (.cells #[.int .i64 m.kd, .int .i64 m.pe, .int .i64 m.hp, .bool m.hi, .slice A1 m.ps.length c1, .int .i64 m.nu, .int .u64 (m.su : Int), .int .i64 m.mr.a.c, .int .i64 m.mr.a.s, .string m.mr.k, .slice B1 m.ms.length d1, .slice C1 m.es.length e1] 45)).alloc (.cells #[.int .i64 n.kd, .int .i64 n.pe, .int .i64 n.hp, .bool n.hi, .slice A2 n.ps.length c2, .int .i64 n.nu, .int .u64 (n.su : Int), .int .i64 n.mr.a.c, .int .i64 n.mr.a.s, .string n.mr.k, .slice B2 n.ms.length d2, .slice C2 n.es.length e2] 45)) w.heap.size 45 #[.int .i64 m.kd, .int .i64 m.pe, .int .i64 m.hp, .bool m.hi, .slice A1 m.ps.length c1, .int .i64 m.nu, .int .u64 (m.su : Int), .int .i64 m.mr.a.c, .int .i64 m.mr.a.s, .string m.mr.k, .slice B1 m.ms.length d1, .slice C1 m.es.length e1]) := (Blk.new w _ _).alloc _
  have XB2 : Hid (Blk ((w.alloc (.cells #[.int .i64 m.kd, .int .i64 m.pe, .int .i64 m.hp, .bool m.hi, .slice A1 m.ps.length c1, .int .i64 m.nu, .int .u64 (m.su : Int), .int .i64 m.mr.a.c, .int .i64 m.mr.a.s, .string m.mr.k, .slice B1 m.ms.length d1, .slice C1 m.es.length e1] 45)).alloc (.cells #[.int .i64 n.kd, .int .i64 n.pe, .int .i64 n.hp, .bool n.hi, .slice A2 n.ps.length c2, .int .i64 n.nu, .int .u64 (n.su : Int), .int .i64 n.mr.a.c, .int .i64 n.mr.a.s, .string n.mr.k, .slice B2 n.ms.length d2, .slice C2 n.es.length e2] 45)) (w.heap.size + 1) 45 #[.int .i64 n.kd, .int .i64 n.pe, .int .i64 n.hp, .bool n.hi, .slice A2 n.ps.length c2, .int .i64 n.nu, .int .u64 (n.su : Int), .int .i64 n.mr.a.c, .int .i64 n.mr.a.s, .string n.mr.k, .slice B2 n.ms.length d2, .slice C2 n.es.length e2]) := by have := Blk.new (w.alloc (.cells #[.int .i64 m.kd, .int .i64 m.pe, .int .i64 m.hp, .bool m.hi, .slice A1 m.ps.length c1, .int .i64 m.nu, .int .u64 (m.su : Int), .int .i64 m.mr.a.c, .int .i64 m.mr.a.s, .string m.mr.k, .slice B1 m.ms.length d1, .slice C1 m.es.length e1] 45)) 45 #[.int .i64 n.kd, .int .i64 n.pe, .int .i64 n.hp, .bool n.hi, .slice A2 n.ps.length c2, .int .i64 n.nu, .int .u64 (n.su : Int), .int .i64 n.mr.a.c, .int .i64 n.mr.a.s, .string n.mr.k, .slice B2 n.ms.length d2, .slice C2 n.es.length e2]; rwa [World.size_alloc] at this
  clear hm hn h1 h2
  subst he
  have r6 := fun w => eqlA w m.mr m.mr
  rw [(mkSame_iff _ _).2 rfl] at r6
  have r0 : (m.kd != m.kd) = false := by simp
  go_enter Tryz.func19, Tryz.ntmps19
  go_wp2_with (first
    | (go_at_call 68; refine (pl_int S T m.ps m.ps _ _ _ (HM.out _ OB.out).p (HN.out _ OB.out).p ⟨H1.out.1, H2.out.1⟩).mono ?_; rintro E w3 ⟨b, rfl, hb, o0⟩; obtain rfl : b = true := hb.2 rfl
       have O0 := Lib.hid (OB.out.trans o0)
       have P0 := Lib.hid ((Only.refl none_ _).trans o0)
       have k0x10 := (XB1.out.only P0.out (fun h => h)).cell_ (i := 10) rfl
       have k0x11 := (XB1.out.only P0.out (fun h => h)).cell_ (i := 11) rfl
       have k0y10 := (XB2.out.only P0.out (fun h => h)).cell_ (i := 10) rfl
       have k0y11 := (XB2.out.only P0.out (fun h => h)).cell_ (i := 11) rfl
       clear o0)
    | (go_at_call 69; refine (pl_mk S T m.ms m.ms _ _ _ (HM.out _ O0.out).q (HN.out _ O0.out).q ⟨H1.out.2.1, H2.out.2.1⟩).mono ?_; rintro E w4 ⟨b, rfl, hb, o1⟩; obtain rfl : b = true := hb.2 rfl
       have O1 := Lib.hid (O0.out.trans o1)
       have P1 := Lib.hid (P0.out.trans o1)
       have k1x10 := (XB1.out.only P1.out (fun h => h)).cell_ (i := 10) rfl
       have k1x11 := (XB1.out.only P1.out (fun h => h)).cell_ (i := 11) rfl
       have k1y10 := (XB2.out.only P1.out (fun h => h)).cell_ (i := 10) rfl
       have k1y11 := (XB2.out.only P1.out (fun h => h)).cell_ (i := 11) rfl
       clear o1)
    | (go_at_call 70; refine (pl_en S T m.es m.es _ _ _ (HM.out _ O1.out).r (HN.out _ O1.out).r ⟨H1.out.2.2, H2.out.2.2⟩).mono ?_; rintro E w5 ⟨b, rfl, hb, o2⟩; obtain rfl : b = true := hb.2 rfl
       have O2 := Lib.hid (O1.out.trans o2)
       have P2 := Lib.hid (P1.out.trans o2)
       have k2x10 := (XB1.out.only P2.out (fun h => h)).cell_ (i := 10) rfl
       have k2x11 := (XB1.out.only P2.out (fun h => h)).cell_ (i := 11) rfl
       have k2y10 := (XB2.out.only P2.out (fun h => h)).cell_ (i := 10) rfl
       have k2y11 := (XB2.out.only P2.out (fun h => h)).cell_ (i := 11) rfl
       clear o2))
  go_ret
  exact ⟨rfl, O2.out⟩
end Go.Proofs.YtlieolehpmobfaaGreatDoor
end
section
namespace Go.Proofs.YtlieolehpmobfaaGreatDoor
open Go.RowKit
set_option linter.all false
set_option maxRecDepth 100000
set_option maxHeartbeats 6400000 in
theorem rf_wdiff0 (S T : Nat → Prop) (m n : Ms) (vp vm ve up um ue : Value) (w : World) (hm : Ml S m vp vm ve w) (hn : Ml T n up um ue w) (h1 : Few9 m) (h2 : Few9 n)  (q0 : ¬ m.kd = n.kd) :
    Calls Tryz.prog 20 #[.agg #[.int .i64 m.kd, .int .i64 m.pe, .int .i64 m.hp, .bool m.hi, vp, .int .i64 m.nu, .int .u64 (m.su : Int), .int .i64 m.mr.a.c, .int .i64 m.mr.a.s, .string m.mr.k, vm, ve], .agg #[.int .i64 n.kd, .int .i64 n.pe, .int .i64 n.hp, .bool n.hi, up, .int .i64 n.nu, .int .u64 (n.su : Int), .int .i64 n.mr.a.c, .int .i64 n.mr.a.s, .string n.mr.k, um, ue]] w fun e w' => e = .returned (.bool false) ∧ Only none_ w w' := by
  obtain ⟨⟨A1, c1, ea1, _⟩, ⟨B1, d1, eb1, _⟩, ⟨C1, e1, ec1, _⟩⟩ := id hm
  obtain ⟨⟨A2, c2, ea2, _⟩, ⟨B2, d2, eb2, _⟩, ⟨C2, e2, ec2, _⟩⟩ := id hn
  subst ea1 eb1 ec1 ea2 eb2 ec2
  have OB := Lib.hid (((Only.refl none_ w).alloc (.cells #[.int .i64 m.kd, .int .i64 m.pe, .int .i64 m.hp, .bool m.hi, .slice A1 m.ps.length c1, .int .i64 m.nu, .int .u64 (m.su : Int), .int .i64 m.mr.a.c, .int .i64 m.mr.a.s, .string m.mr.k, .slice B1 m.ms.length d1, .slice C1 m.es.length e1] 31)).alloc (.cells #[.int .i64 n.kd, .int .i64 n.pe, .int .i64 n.hp, .bool n.hi, .slice A2 n.ps.length c2, .int .i64 n.nu, .int .u64 (n.su : Int), .int .i64 n.mr.a.c, .int .i64 n.mr.a.s, .string n.mr.k, .slice B2 n.ms.length d2, .slice C2 n.es.length e2] 31))
  have HM := Lib.hid (fun (w' : World) (o : Only none_ w w') => hm.keep o)
  have HN := Lib.hid (fun (w' : World) (o : Only none_ w w') => hn.keep o)
  have H1 := Lib.hid h1
  have H2 := Lib.hid h2
  have XB1 : Hid (Blk ((w.alloc (.cells #[.int .i64 m.kd, .int .i64 m.pe, .int .i64 m.hp, .bool m.hi, .slice A1 m.ps.length c1, .int .i64 m.nu, .int .u64 (m.su : Int), .int .i64 m.mr.a.c, .int .i64 m.mr.a.s, .string m.mr.k, .slice B1 m.ms.length d1, .slice C1 m.es.length e1] 31)).alloc (.cells #[.int .i64 n.kd, .int .i64 n.pe, .int .i64 n.hp, .bool n.hi, .slice A2 n.ps.length c2, .int .i64 n.nu, .int .u64 (n.su : Int), .int .i64 n.mr.a.c, .int .i64 n.mr.a.s, .string n.mr.k, .slice B2 n.ms.length d2, .slice C2 n.es.length e2] 31)) w.heap.size 31 #[.int .i64 m.kd, .int .i64 m.pe, .int .i64 m.hp, .bool m.hi, .slice A1 m.ps.length c1, .int .i64 m.nu, .int .u64 (m.su : Int), .int .i64 m.mr.a.c, .int .i64 m.mr.a.s, .string m.mr.k, .slice B1 m.ms.length d1, .slice C1 m.es.length e1]) := (Blk.new w _ _).alloc _
  have XB2 : Hid (Blk ((w.alloc (.cells #[.int .i64 m.kd, .int .i64 m.pe, .int .i64 m.hp, .bool m.hi, .slice A1 m.ps.length c1, .int .i64 m.nu, .int .u64 (m.su : Int), .int .i64 m.mr.a.c, .int .i64 m.mr.a.s, .string m.mr.k, .slice B1 m.ms.length d1, .slice C1 m.es.length e1] 31)).alloc (.cells #[.int .i64 n.kd, .int .i64 n.pe, .int .i64 n.hp, .bool n.hi, .slice A2 n.ps.length c2, .int .i64 n.nu, .int .u64 (n.su : Int), .int .i64 n.mr.a.c, .int .i64 n.mr.a.s, .string n.mr.k, .slice B2 n.ms.length d2, .slice C2 n.es.length e2] 31)) (w.heap.size + 1) 31 #[.int .i64 n.kd, .int .i64 n.pe, .int .i64 n.hp, .bool n.hi, .slice A2 n.ps.length c2, .int .i64 n.nu, .int .u64 (n.su : Int), .int .i64 n.mr.a.c, .int .i64 n.mr.a.s, .string n.mr.k, .slice B2 n.ms.length d2, .slice C2 n.es.length e2]) := by have := Blk.new (w.alloc (.cells #[.int .i64 m.kd, .int .i64 m.pe, .int .i64 m.hp, .bool m.hi, .slice A1 m.ps.length c1, .int .i64 m.nu, .int .u64 (m.su : Int), .int .i64 m.mr.a.c, .int .i64 m.mr.a.s, .string m.mr.k, .slice B1 m.ms.length d1, .slice C1 m.es.length e1] 31)) 31 #[.int .i64 n.kd, .int .i64 n.pe, .int .i64 n.hp, .bool n.hi, .slice A2 n.ps.length c2, .int .i64 n.nu, .int .u64 (n.su : Int), .int .i64 n.mr.a.c, .int .i64 n.mr.a.s, .string n.mr.k, .slice B2 n.ms.length d2, .slice C2 n.es.length e2]; rwa [World.size_alloc] at this
  clear hm hn h1 h2
  have r0 : (m.kd != n.kd) = true := by simp [q0]
  clear q0
  go_enter Tryz.func20, Tryz.ntmps20
  go_wp2_with fail
  go_ret
  exact ⟨rfl, OB.out⟩
set_option maxHeartbeats 6400000 in
theorem rf_wdiff1 (S T : Nat → Prop) (m n : Ms) (vp vm ve up um ue : Value) (w : World) (hm : Ml S m vp vm ve w) (hn : Ml T n up um ue w) (h1 : Few9 m) (h2 : Few9 n) (q0 : m.kd = n.kd) (q1 : ¬ m.pe = n.pe) :
    Calls Tryz.prog 20 #[.agg #[.int .i64 m.kd, .int .i64 m.pe, .int .i64 m.hp, .bool m.hi, vp, .int .i64 m.nu, .int .u64 (m.su : Int), .int .i64 m.mr.a.c, .int .i64 m.mr.a.s, .string m.mr.k, vm, ve], .agg #[.int .i64 n.kd, .int .i64 n.pe, .int .i64 n.hp, .bool n.hi, up, .int .i64 n.nu, .int .u64 (n.su : Int), .int .i64 n.mr.a.c, .int .i64 n.mr.a.s, .string n.mr.k, um, ue]] w fun e w' => e = .returned (.bool false) ∧ Only none_ w w' := by
  obtain ⟨⟨A1, c1, ea1, _⟩, ⟨B1, d1, eb1, _⟩, ⟨C1, e1, ec1, _⟩⟩ := id hm
  obtain ⟨⟨A2, c2, ea2, _⟩, ⟨B2, d2, eb2, _⟩, ⟨C2, e2, ec2, _⟩⟩ := id hn
  subst ea1 eb1 ec1 ea2 eb2 ec2
  have OB := Lib.hid (((Only.refl none_ w).alloc (.cells #[.int .i64 m.kd, .int .i64 m.pe, .int .i64 m.hp, .bool m.hi, .slice A1 m.ps.length c1, .int .i64 m.nu, .int .u64 (m.su : Int), .int .i64 m.mr.a.c, .int .i64 m.mr.a.s, .string m.mr.k, .slice B1 m.ms.length d1, .slice C1 m.es.length e1] 31)).alloc (.cells #[.int .i64 n.kd, .int .i64 n.pe, .int .i64 n.hp, .bool n.hi, .slice A2 n.ps.length c2, .int .i64 n.nu, .int .u64 (n.su : Int), .int .i64 n.mr.a.c, .int .i64 n.mr.a.s, .string n.mr.k, .slice B2 n.ms.length d2, .slice C2 n.es.length e2] 31))
  have HM := Lib.hid (fun (w' : World) (o : Only none_ w w') => hm.keep o)
  have HN := Lib.hid (fun (w' : World) (o : Only none_ w w') => hn.keep o)
  have H1 := Lib.hid h1
  have H2 := Lib.hid h2
  have XB1 : Hid (Blk ((w.alloc (.cells #[.int .i64 m.kd, .int .i64 m.pe, .int .i64 m.hp, .bool m.hi, .slice A1 m.ps.length c1, .int .i64 m.nu, .int .u64 (m.su : Int), .int .i64 m.mr.a.c, .int .i64 m.mr.a.s, .string m.mr.k, .slice B1 m.ms.length d1, .slice C1 m.es.length e1] 31)).alloc (.cells #[.int .i64 n.kd, .int .i64 n.pe, .int .i64 n.hp, .bool n.hi, .slice A2 n.ps.length c2, .int .i64 n.nu, .int .u64 (n.su : Int), .int .i64 n.mr.a.c, .int .i64 n.mr.a.s, .string n.mr.k, .slice B2 n.ms.length d2, .slice C2 n.es.length e2] 31)) w.heap.size 31 #[.int .i64 m.kd, .int .i64 m.pe, .int .i64 m.hp, .bool m.hi, .slice A1 m.ps.length c1, .int .i64 m.nu, .int .u64 (m.su : Int), .int .i64 m.mr.a.c, .int .i64 m.mr.a.s, .string m.mr.k, .slice B1 m.ms.length d1, .slice C1 m.es.length e1]) := (Blk.new w _ _).alloc _
  have XB2 : Hid (Blk ((w.alloc (.cells #[.int .i64 m.kd, .int .i64 m.pe, .int .i64 m.hp, .bool m.hi, .slice A1 m.ps.length c1, .int .i64 m.nu, .int .u64 (m.su : Int), .int .i64 m.mr.a.c, .int .i64 m.mr.a.s, .string m.mr.k, .slice B1 m.ms.length d1, .slice C1 m.es.length e1] 31)).alloc (.cells #[.int .i64 n.kd, .int .i64 n.pe, .int .i64 n.hp, .bool n.hi, .slice A2 n.ps.length c2, .int .i64 n.nu, .int .u64 (n.su : Int), .int .i64 n.mr.a.c, .int .i64 n.mr.a.s, .string n.mr.k, .slice B2 n.ms.length d2, .slice C2 n.es.length e2] 31)) (w.heap.size + 1) 31 #[.int .i64 n.kd, .int .i64 n.pe, .int .i64 n.hp, .bool n.hi, .slice A2 n.ps.length c2, .int .i64 n.nu, .int .u64 (n.su : Int), .int .i64 n.mr.a.c, .int .i64 n.mr.a.s, .string n.mr.k, .slice B2 n.ms.length d2, .slice C2 n.es.length e2]) := by have := Blk.new (w.alloc (.cells #[.int .i64 m.kd, .int .i64 m.pe, .int .i64 m.hp, .bool m.hi, .slice A1 m.ps.length c1, .int .i64 m.nu, .int .u64 (m.su : Int), .int .i64 m.mr.a.c, .int .i64 m.mr.a.s, .string m.mr.k, .slice B1 m.ms.length d1, .slice C1 m.es.length e1] 31)) 31 #[.int .i64 n.kd, .int .i64 n.pe, .int .i64 n.hp, .bool n.hi, .slice A2 n.ps.length c2, .int .i64 n.nu, .int .u64 (n.su : Int), .int .i64 n.mr.a.c, .int .i64 n.mr.a.s, .string n.mr.k, .slice B2 n.ms.length d2, .slice C2 n.es.length e2]; rwa [World.size_alloc] at this
  clear hm hn h1 h2
  have r0 : (m.kd != n.kd) = false := by simp [q0]
  clear q0
  have r1 : (m.pe != n.pe) = true := by simp [q1]
  clear q1
  go_enter Tryz.func20, Tryz.ntmps20
  go_wp2_with fail
  go_ret
  exact ⟨rfl, OB.out⟩
set_option maxHeartbeats 6400000 in
theorem rf_wdiff2 (S T : Nat → Prop) (m n : Ms) (vp vm ve up um ue : Value) (w : World) (hm : Ml S m vp vm ve w) (hn : Ml T n up um ue w) (h1 : Few9 m) (h2 : Few9 n) (q0 : m.kd = n.kd) (q1 : m.pe = n.pe) (q2 : ¬ m.hp = n.hp) :
    Calls Tryz.prog 20 #[.agg #[.int .i64 m.kd, .int .i64 m.pe, .int .i64 m.hp, .bool m.hi, vp, .int .i64 m.nu, .int .u64 (m.su : Int), .int .i64 m.mr.a.c, .int .i64 m.mr.a.s, .string m.mr.k, vm, ve], .agg #[.int .i64 n.kd, .int .i64 n.pe, .int .i64 n.hp, .bool n.hi, up, .int .i64 n.nu, .int .u64 (n.su : Int), .int .i64 n.mr.a.c, .int .i64 n.mr.a.s, .string n.mr.k, um, ue]] w fun e w' => e = .returned (.bool false) ∧ Only none_ w w' := by
  obtain ⟨⟨A1, c1, ea1, _⟩, ⟨B1, d1, eb1, _⟩, ⟨C1, e1, ec1, _⟩⟩ := id hm
  obtain ⟨⟨A2, c2, ea2, _⟩, ⟨B2, d2, eb2, _⟩, ⟨C2, e2, ec2, _⟩⟩ := id hn
  subst ea1 eb1 ec1 ea2 eb2 ec2
  have OB := Lib.hid (((Only.refl none_ w).alloc (.cells #[.int .i64 m.kd, .int .i64 m.pe, .int .i64 m.hp, .bool m.hi, .slice A1 m.ps.length c1, .int .i64 m.nu, .int .u64 (m.su : Int), .int .i64 m.mr.a.c, .int .i64 m.mr.a.s, .string m.mr.k, .slice B1 m.ms.length d1, .slice C1 m.es.length e1] 31)).alloc (.cells #[.int .i64 n.kd, .int .i64 n.pe, .int .i64 n.hp, .bool n.hi, .slice A2 n.ps.length c2, .int .i64 n.nu, .int .u64 (n.su : Int), .int .i64 n.mr.a.c, .int .i64 n.mr.a.s, .string n.mr.k, .slice B2 n.ms.length d2, .slice C2 n.es.length e2] 31))
  have HM := Lib.hid (fun (w' : World) (o : Only none_ w w') => hm.keep o)
  have HN := Lib.hid (fun (w' : World) (o : Only none_ w w') => hn.keep o)
  have H1 := Lib.hid h1
  have H2 := Lib.hid h2
  have XB1 : Hid (Blk ((w.alloc (.cells #[.int .i64 m.kd, .int .i64 m.pe, .int .i64 m.hp, .bool m.hi, .slice A1 m.ps.length c1, .int .i64 m.nu, .int .u64 (m.su : Int), .int .i64 m.mr.a.c, .int .i64 m.mr.a.s, .string m.mr.k, .slice B1 m.ms.length d1, .slice C1 m.es.length e1] 31)).alloc (.cells #[.int .i64 n.kd, .int .i64 n.pe, .int .i64 n.hp, .bool n.hi, .slice A2 n.ps.length c2, .int .i64 n.nu, .int .u64 (n.su : Int), .int .i64 n.mr.a.c, .int .i64 n.mr.a.s, .string n.mr.k, .slice B2 n.ms.length d2, .slice C2 n.es.length e2] 31)) w.heap.size 31 #[.int .i64 m.kd, .int .i64 m.pe, .int .i64 m.hp, .bool m.hi, .slice A1 m.ps.length c1, .int .i64 m.nu, .int .u64 (m.su : Int), .int .i64 m.mr.a.c, .int .i64 m.mr.a.s, .string m.mr.k, .slice B1 m.ms.length d1, .slice C1 m.es.length e1]) := (Blk.new w _ _).alloc _
  have XB2 : Hid (Blk ((w.alloc (.cells #[.int .i64 m.kd, .int .i64 m.pe, .int .i64 m.hp, .bool m.hi, .slice A1 m.ps.length c1, .int .i64 m.nu, .int .u64 (m.su : Int), .int .i64 m.mr.a.c, .int .i64 m.mr.a.s, .string m.mr.k, .slice B1 m.ms.length d1, .slice C1 m.es.length e1] 31)).alloc (.cells #[.int .i64 n.kd, .int .i64 n.pe, .int .i64 n.hp, .bool n.hi, .slice A2 n.ps.length c2, .int .i64 n.nu, .int .u64 (n.su : Int), .int .i64 n.mr.a.c, .int .i64 n.mr.a.s, .string n.mr.k, .slice B2 n.ms.length d2, .slice C2 n.es.length e2] 31)) (w.heap.size + 1) 31 #[.int .i64 n.kd, .int .i64 n.pe, .int .i64 n.hp, .bool n.hi, .slice A2 n.ps.length c2, .int .i64 n.nu, .int .u64 (n.su : Int), .int .i64 n.mr.a.c, .int .i64 n.mr.a.s, .string n.mr.k, .slice B2 n.ms.length d2, .slice C2 n.es.length e2]) := by have := Blk.new (w.alloc (.cells #[.int .i64 m.kd, .int .i64 m.pe, .int .i64 m.hp, .bool m.hi, .slice A1 m.ps.length c1, .int .i64 m.nu, .int .u64 (m.su : Int), .int .i64 m.mr.a.c, .int .i64 m.mr.a.s, .string m.mr.k, .slice B1 m.ms.length d1, .slice C1 m.es.length e1] 31)) 31 #[.int .i64 n.kd, .int .i64 n.pe, .int .i64 n.hp, .bool n.hi, .slice A2 n.ps.length c2, .int .i64 n.nu, .int .u64 (n.su : Int), .int .i64 n.mr.a.c, .int .i64 n.mr.a.s, .string n.mr.k, .slice B2 n.ms.length d2, .slice C2 n.es.length e2]; rwa [World.size_alloc] at this
  clear hm hn h1 h2
  have r0 : (m.kd != n.kd) = false := by simp [q0]
  clear q0
  have r1 : (m.pe != n.pe) = false := by simp [q1]
  clear q1
  have r2 : (m.hp != n.hp) = true := by simp [q2]
  clear q2
  go_enter Tryz.func20, Tryz.ntmps20
  go_wp2_with fail
  go_ret
  exact ⟨rfl, OB.out⟩
set_option maxHeartbeats 6400000 in
theorem rf_wdiff3 (S T : Nat → Prop) (m n : Ms) (vp vm ve up um ue : Value) (w : World) (hm : Ml S m vp vm ve w) (hn : Ml T n up um ue w) (h1 : Few9 m) (h2 : Few9 n) (q0 : m.kd = n.kd) (q1 : m.pe = n.pe) (q2 : m.hp = n.hp) (q3 : ¬ m.hi = n.hi) :
    Calls Tryz.prog 20 #[.agg #[.int .i64 m.kd, .int .i64 m.pe, .int .i64 m.hp, .bool m.hi, vp, .int .i64 m.nu, .int .u64 (m.su : Int), .int .i64 m.mr.a.c, .int .i64 m.mr.a.s, .string m.mr.k, vm, ve], .agg #[.int .i64 n.kd, .int .i64 n.pe, .int .i64 n.hp, .bool n.hi, up, .int .i64 n.nu, .int .u64 (n.su : Int), .int .i64 n.mr.a.c, .int .i64 n.mr.a.s, .string n.mr.k, um, ue]] w fun e w' => e = .returned (.bool false) ∧ Only none_ w w' := by
  obtain ⟨⟨A1, c1, ea1, _⟩, ⟨B1, d1, eb1, _⟩, ⟨C1, e1, ec1, _⟩⟩ := id hm
  obtain ⟨⟨A2, c2, ea2, _⟩, ⟨B2, d2, eb2, _⟩, ⟨C2, e2, ec2, _⟩⟩ := id hn
  subst ea1 eb1 ec1 ea2 eb2 ec2
  have OB := Lib.hid (((Only.refl none_ w).alloc (.cells #[.int .i64 m.kd, .int .i64 m.pe, .int .i64 m.hp, .bool m.hi, .slice A1 m.ps.length c1, .int .i64 m.nu, .int .u64 (m.su : Int), .int .i64 m.mr.a.c, .int .i64 m.mr.a.s, .string m.mr.k, .slice B1 m.ms.length d1, .slice C1 m.es.length e1] 31)).alloc (.cells #[.int .i64 n.kd, .int .i64 n.pe, .int .i64 n.hp, .bool n.hi, .slice A2 n.ps.length c2, .int .i64 n.nu, .int .u64 (n.su : Int), .int .i64 n.mr.a.c, .int .i64 n.mr.a.s, .string n.mr.k, .slice B2 n.ms.length d2, .slice C2 n.es.length e2] 31))
  have HM := Lib.hid (fun (w' : World) (o : Only none_ w w') => hm.keep o)
  have HN := Lib.hid (fun (w' : World) (o : Only none_ w w') => hn.keep o)
  have H1 := Lib.hid h1
  have H2 := Lib.hid h2
  have XB1 : Hid (Blk ((w.alloc (.cells #[.int .i64 m.kd, .int .i64 m.pe, .int .i64 m.hp, .bool m.hi, .slice A1 m.ps.length c1, .int .i64 m.nu, .int .u64 (m.su : Int), .int .i64 m.mr.a.c, .int .i64 m.mr.a.s, .string m.mr.k, .slice B1 m.ms.length d1, .slice C1 m.es.length e1] 31)).alloc (.cells #[.int .i64 n.kd, .int .i64 n.pe, .int .i64 n.hp, .bool n.hi, .slice A2 n.ps.length c2, .int .i64 n.nu, .int .u64 (n.su : Int), .int .i64 n.mr.a.c, .int .i64 n.mr.a.s, .string n.mr.k, .slice B2 n.ms.length d2, .slice C2 n.es.length e2] 31)) w.heap.size 31 #[.int .i64 m.kd, .int .i64 m.pe, .int .i64 m.hp, .bool m.hi, .slice A1 m.ps.length c1, .int .i64 m.nu, .int .u64 (m.su : Int), .int .i64 m.mr.a.c, .int .i64 m.mr.a.s, .string m.mr.k, .slice B1 m.ms.length d1, .slice C1 m.es.length e1]) := (Blk.new w _ _).alloc _
  have XB2 : Hid (Blk ((w.alloc (.cells #[.int .i64 m.kd, .int .i64 m.pe, .int .i64 m.hp, .bool m.hi, .slice A1 m.ps.length c1, .int .i64 m.nu, .int .u64 (m.su : Int), .int .i64 m.mr.a.c, .int .i64 m.mr.a.s, .string m.mr.k, .slice B1 m.ms.length d1, .slice C1 m.es.length e1] 31)).alloc (.cells #[.int .i64 n.kd, .int .i64 n.pe, .int .i64 n.hp, .bool n.hi, .slice A2 n.ps.length c2, .int .i64 n.nu, .int .u64 (n.su : Int), .int .i64 n.mr.a.c, .int .i64 n.mr.a.s, .string n.mr.k, .slice B2 n.ms.length d2, .slice C2 n.es.length e2] 31)) (w.heap.size + 1) 31 #[.int .i64 n.kd, .int .i64 n.pe, .int .i64 n.hp, .bool n.hi, .slice A2 n.ps.length c2, .int .i64 n.nu, .int .u64 (n.su : Int), .int .i64 n.mr.a.c, .int .i64 n.mr.a.s, .string n.mr.k, .slice B2 n.ms.length d2, .slice C2 n.es.length e2]) := by have := Blk.new (w.alloc (.cells #[.int .i64 m.kd, .int .i64 m.pe, .int .i64 m.hp, .bool m.hi, .slice A1 m.ps.length c1, .int .i64 m.nu, .int .u64 (m.su : Int), .int .i64 m.mr.a.c, .int .i64 m.mr.a.s, .string m.mr.k, .slice B1 m.ms.length d1, .slice C1 m.es.length e1] 31)) 31 #[.int .i64 n.kd, .int .i64 n.pe, .int .i64 n.hp, .bool n.hi, .slice A2 n.ps.length c2, .int .i64 n.nu, .int .u64 (n.su : Int), .int .i64 n.mr.a.c, .int .i64 n.mr.a.s, .string n.mr.k, .slice B2 n.ms.length d2, .slice C2 n.es.length e2]; rwa [World.size_alloc] at this
  clear hm hn h1 h2
  have r0 : (m.kd != n.kd) = false := by simp [q0]
  clear q0
  have r1 : (m.pe != n.pe) = false := by simp [q1]
  clear q1
  have r2 : (m.hp != n.hp) = false := by simp [q2]
  clear q2
  obtain ⟨bm, hbm⟩ : ∃ b, m.hi = b := ⟨_, rfl⟩
  obtain ⟨bn, hbn⟩ : ∃ b, n.hi = b := ⟨_, rfl⟩
  rw [hbm, hbn] at q3
  rw [hbm, hbn] at OB XB1 XB2 ⊢
  clear hbm hbn
  cases bm <;> cases bn
  · exact absurd rfl q3
  · clear q3
    go_enter Tryz.func20, Tryz.ntmps20
    go_wp2_with fail
    go_ret
    exact ⟨rfl, OB.out⟩
  · clear q3
    go_enter Tryz.func20, Tryz.ntmps20
    go_wp2_with fail
    go_ret
    exact ⟨rfl, OB.out⟩
  · exact absurd rfl q3
set_option maxHeartbeats 6400000 in
theorem rf_wdiff4 (S T : Nat → Prop) (m n : Ms) (vp vm ve up um ue : Value) (w : World) (hm : Ml S m vp vm ve w) (hn : Ml T n up um ue w) (h1 : Few9 m) (h2 : Few9 n) (q0 : m.kd = n.kd) (q1 : m.pe = n.pe) (q2 : m.hp = n.hp) (q3 : m.hi = n.hi) (q4 : ¬ m.nu = n.nu) :
    Calls Tryz.prog 20 #[.agg #[.int .i64 m.kd, .int .i64 m.pe, .int .i64 m.hp, .bool m.hi, vp, .int .i64 m.nu, .int .u64 (m.su : Int), .int .i64 m.mr.a.c, .int .i64 m.mr.a.s, .string m.mr.k, vm, ve], .agg #[.int .i64 n.kd, .int .i64 n.pe, .int .i64 n.hp, .bool n.hi, up, .int .i64 n.nu, .int .u64 (n.su : Int), .int .i64 n.mr.a.c, .int .i64 n.mr.a.s, .string n.mr.k, um, ue]] w fun e w' => e = .returned (.bool false) ∧ Only none_ w w' := by
  obtain ⟨⟨A1, c1, ea1, _⟩, ⟨B1, d1, eb1, _⟩, ⟨C1, e1, ec1, _⟩⟩ := id hm
  obtain ⟨⟨A2, c2, ea2, _⟩, ⟨B2, d2, eb2, _⟩, ⟨C2, e2, ec2, _⟩⟩ := id hn
  subst ea1 eb1 ec1 ea2 eb2 ec2
  have OB := Lib.hid (((Only.refl none_ w).alloc (.cells #[.int .i64 m.kd, .int .i64 m.pe, .int .i64 m.hp, .bool m.hi, .slice A1 m.ps.length c1, .int .i64 m.nu, .int .u64 (m.su : Int), .int .i64 m.mr.a.c, .int .i64 m.mr.a.s, .string m.mr.k, .slice B1 m.ms.length d1, .slice C1 m.es.length e1] 31)).alloc (.cells #[.int .i64 n.kd, .int .i64 n.pe, .int .i64 n.hp, .bool n.hi, .slice A2 n.ps.length c2, .int .i64 n.nu, .int .u64 (n.su : Int), .int .i64 n.mr.a.c, .int .i64 n.mr.a.s, .string n.mr.k, .slice B2 n.ms.length d2, .slice C2 n.es.length e2] 31))
  have HM := Lib.hid (fun (w' : World) (o : Only none_ w w') => hm.keep o)
  have HN := Lib.hid (fun (w' : World) (o : Only none_ w w') => hn.keep o)
  have H1 := Lib.hid h1
  have H2 := Lib.hid h2
  have XB1 : Hid (Blk ((w.alloc (.cells #[.int .i64 m.kd, .int .i64 m.pe, .int .i64 m.hp, .bool m.hi, .slice A1 m.ps.length c1, .int .i64 m.nu, .int .u64 (m.su : Int), .int .i64 m.mr.a.c, .int .i64 m.mr.a.s, .string m.mr.k, .slice B1 m.ms.length d1, .slice C1 m.es.length e1] 31)).alloc (.cells #[.int .i64 n.kd, .int .i64 n.pe, .int .i64 n.hp, .bool n.hi, .slice A2 n.ps.length c2, .int .i64 n.nu, .int .u64 (n.su : Int), .int .i64 n.mr.a.c, .int .i64 n.mr.a.s, .string n.mr.k, .slice B2 n.ms.length d2, .slice C2 n.es.length e2] 31)) w.heap.size 31 #[.int .i64 m.kd, .int .i64 m.pe, .int .i64 m.hp, .bool m.hi, .slice A1 m.ps.length c1, .int .i64 m.nu, .int .u64 (m.su : Int), .int .i64 m.mr.a.c, .int .i64 m.mr.a.s, .string m.mr.k, .slice B1 m.ms.length d1, .slice C1 m.es.length e1]) := (Blk.new w _ _).alloc _
  have XB2 : Hid (Blk ((w.alloc (.cells #[.int .i64 m.kd, .int .i64 m.pe, .int .i64 m.hp, .bool m.hi, .slice A1 m.ps.length c1, .int .i64 m.nu, .int .u64 (m.su : Int), .int .i64 m.mr.a.c, .int .i64 m.mr.a.s, .string m.mr.k, .slice B1 m.ms.length d1, .slice C1 m.es.length e1] 31)).alloc (.cells #[.int .i64 n.kd, .int .i64 n.pe, .int .i64 n.hp, .bool n.hi, .slice A2 n.ps.length c2, .int .i64 n.nu, .int .u64 (n.su : Int), .int .i64 n.mr.a.c, .int .i64 n.mr.a.s, .string n.mr.k, .slice B2 n.ms.length d2, .slice C2 n.es.length e2] 31)) (w.heap.size + 1) 31 #[.int .i64 n.kd, .int .i64 n.pe, .int .i64 n.hp, .bool n.hi, .slice A2 n.ps.length c2, .int .i64 n.nu, .int .u64 (n.su : Int), .int .i64 n.mr.a.c, .int .i64 n.mr.a.s, .string n.mr.k, .slice B2 n.ms.length d2, .slice C2 n.es.length e2]) := by have := Blk.new (w.alloc (.cells #[.int .i64 m.kd, .int .i64 m.pe, .int .i64 m.hp, .bool m.hi, .slice A1 m.ps.length c1, .int .i64 m.nu, .int .u64 (m.su : Int), .int .i64 m.mr.a.c, .int .i64 m.mr.a.s, .string m.mr.k, .slice B1 m.ms.length d1, .slice C1 m.es.length e1] 31)) 31 #[.int .i64 n.kd, .int .i64 n.pe, .int .i64 n.hp, .bool n.hi, .slice A2 n.ps.length c2, .int .i64 n.nu, .int .u64 (n.su : Int), .int .i64 n.mr.a.c, .int .i64 n.mr.a.s, .string n.mr.k, .slice B2 n.ms.length d2, .slice C2 n.es.length e2]; rwa [World.size_alloc] at this
  clear hm hn h1 h2
  have r0 : (m.kd != n.kd) = false := by simp [q0]
  clear q0
  have r1 : (m.pe != n.pe) = false := by simp [q1]
  clear q1
  have r2 : (m.hp != n.hp) = false := by simp [q2]
  clear q2
  rw [q3] at OB XB1 XB2 ⊢
  clear q3
  have r4 : (m.nu != n.nu) = true := by simp [q4]
  clear q4
  go_enter Tryz.func20, Tryz.ntmps20
  go_wp2_with fail
  go_ret
  exact ⟨rfl, OB.out⟩
set_option maxHeartbeats 6400000 in
theorem rf_wdiff5 (S T : Nat → Prop) (m n : Ms) (vp vm ve up um ue : Value) (w : World) (hm : Ml S m vp vm ve w) (hn : Ml T n up um ue w) (h1 : Few9 m) (h2 : Few9 n) (q0 : m.kd = n.kd) (q1 : m.pe = n.pe) (q2 : m.hp = n.hp) (q3 : m.hi = n.hi) (q4 : m.nu = n.nu) (q5 : ¬ m.su = n.su) :
    Calls Tryz.prog 20 #[.agg #[.int .i64 m.kd, .int .i64 m.pe, .int .i64 m.hp, .bool m.hi, vp, .int .i64 m.nu, .int .u64 (m.su : Int), .int .i64 m.mr.a.c, .int .i64 m.mr.a.s, .string m.mr.k, vm, ve], .agg #[.int .i64 n.kd, .int .i64 n.pe, .int .i64 n.hp, .bool n.hi, up, .int .i64 n.nu, .int .u64 (n.su : Int), .int .i64 n.mr.a.c, .int .i64 n.mr.a.s, .string n.mr.k, um, ue]] w fun e w' => e = .returned (.bool false) ∧ Only none_ w w' := by
  obtain ⟨⟨A1, c1, ea1, _⟩, ⟨B1, d1, eb1, _⟩, ⟨C1, e1, ec1, _⟩⟩ := id hm
  obtain ⟨⟨A2, c2, ea2, _⟩, ⟨B2, d2, eb2, _⟩, ⟨C2, e2, ec2, _⟩⟩ := id hn
  subst ea1 eb1 ec1 ea2 eb2 ec2
  have OB := Lib.hid (((Only.refl none_ w).alloc (.cells #[.int .i64 m.kd, .int .i64 m.pe, .int .i64 m.hp, .bool m.hi, .slice A1 m.ps.length c1, .int .i64 m.nu, .int .u64 (m.su : Int), .int .i64 m.mr.a.c, .int .i64 m.mr.a.s, .string m.mr.k, .slice B1 m.ms.length d1, .slice C1 m.es.length e1] 31)).alloc (.cells #[.int .i64 n.kd, .int .i64 n.pe, .int .i64 n.hp, .bool n.hi, .slice A2 n.ps.length c2, .int .i64 n.nu, .int .u64 (n.su : Int), .int .i64 n.mr.a.c, .int .i64 n.mr.a.s, .string n.mr.k, .slice B2 n.ms.length d2, .slice C2 n.es.length e2] 31))
  have HM := Lib.hid (fun (w' : World) (o : Only none_ w w') => hm.keep o)
  have HN := Lib.hid (fun (w' : World) (o : Only none_ w w') => hn.keep o)
  have H1 := Lib.hid h1
  have H2 := Lib.hid h2
  have XB1 : Hid (Blk ((w.alloc (.cells #[.int .i64 m.kd, .int .i64 m.pe, .int .i64 m.hp, .bool m.hi, .slice A1 m.ps.length c1, .int .i64 m.nu, .int .u64 (m.su : Int), .int .i64 m.mr.a.c, .int .i64 m.mr.a.s, .string m.mr.k, .slice B1 m.ms.length d1, .slice C1 m.es.length e1] 31)).alloc (.cells #[.int .i64 n.kd, .int .i64 n.pe, .int .i64 n.hp, .bool n.hi, .slice A2 n.ps.length c2, .int .i64 n.nu, .int .u64 (n.su : Int), .int .i64 n.mr.a.c, .int .i64 n.mr.a.s, .string n.mr.k, .slice B2 n.ms.length d2, .slice C2 n.es.length e2] 31)) w.heap.size 31 #[.int .i64 m.kd, .int .i64 m.pe, .int .i64 m.hp, .bool m.hi, .slice A1 m.ps.length c1, .int .i64 m.nu, .int .u64 (m.su : Int), .int .i64 m.mr.a.c, .int .i64 m.mr.a.s, .string m.mr.k, .slice B1 m.ms.length d1, .slice C1 m.es.length e1]) := (Blk.new w _ _).alloc _
  have XB2 : Hid (Blk ((w.alloc (.cells #[.int .i64 m.kd, .int .i64 m.pe, .int .i64 m.hp, .bool m.hi, .slice A1 m.ps.length c1, .int .i64 m.nu, .int .u64 (m.su : Int), .int .i64 m.mr.a.c, .int .i64 m.mr.a.s, .string m.mr.k, .slice B1 m.ms.length d1, .slice C1 m.es.length e1] 31)).alloc (.cells #[.int .i64 n.kd, .int .i64 n.pe, .int .i64 n.hp, .bool n.hi, .slice A2 n.ps.length c2, .int .i64 n.nu, .int .u64 (n.su : Int), .int .i64 n.mr.a.c, .int .i64 n.mr.a.s, .string n.mr.k, .slice B2 n.ms.length d2, .slice C2 n.es.length e2] 31)) (w.heap.size + 1) 31 #[.int .i64 n.kd, .int .i64 n.pe, .int .i64 n.hp, .bool n.hi, .slice A2 n.ps.length c2, .int .i64 n.nu, .int .u64 (n.su : Int), .int .i64 n.mr.a.c, .int .i64 n.mr.a.s, .string n.mr.k, .slice B2 n.ms.length d2, .slice C2 n.es.length e2]) := by have := Blk.new (w.alloc (.cells #[.int .i64 m.kd, .int .i64 m.pe, .int .i64 m.hp, .bool m.hi, .slice A1 m.ps.length c1, .int .i64 m.nu, .int .u64 (m.su : Int), .int .i64 m.mr.a.c, .int .i64 m.mr.a.s, .string m.mr.k, .slice B1 m.ms.length d1, .slice C1 m.es.length e1] 31)) 31 #[.int .i64 n.kd, .int .i64 n.pe, .int .i64 n.hp, .bool n.hi, .slice A2 n.ps.length c2, .int .i64 n.nu, .int .u64 (n.su : Int), .int .i64 n.mr.a.c, .int .i64 n.mr.a.s, .string n.mr.k, .slice B2 n.ms.length d2, .slice C2 n.es.length e2]; rwa [World.size_alloc] at this
  clear hm hn h1 h2
  have r0 : (m.kd != n.kd) = false := by simp [q0]
  clear q0
  have r1 : (m.pe != n.pe) = false := by simp [q1]
  clear q1
  have r2 : (m.hp != n.hp) = false := by simp [q2]
  clear q2
  rw [q3] at OB XB1 XB2 ⊢
  clear q3
  have r4 : (m.nu != n.nu) = false := by simp [q4]
  clear q4
  have r5 : ((m.su : Int) != (n.su : Int)) = true := bne_iff_ne.2 (fun h => q5 (Int.ofNat_inj.1 h))
  clear q5
  go_enter Tryz.func20, Tryz.ntmps20
  go_wp2_with fail
  go_ret
  exact ⟨rfl, OB.out⟩
set_option maxHeartbeats 6400000 in
theorem rf_wdiff6 (S T : Nat → Prop) (m n : Ms) (vp vm ve up um ue : Value) (w : World) (hm : Ml S m vp vm ve w) (hn : Ml T n up um ue w) (h1 : Few9 m) (h2 : Few9 n) (q0 : m.kd = n.kd) (q1 : m.pe = n.pe) (q2 : m.hp = n.hp) (q3 : m.hi = n.hi) (q4 : m.nu = n.nu) (q5 : m.su = n.su) (q6 : ¬ m.mr = n.mr) :
    Calls Tryz.prog 20 #[.agg #[.int .i64 m.kd, .int .i64 m.pe, .int .i64 m.hp, .bool m.hi, vp, .int .i64 m.nu, .int .u64 (m.su : Int), .int .i64 m.mr.a.c, .int .i64 m.mr.a.s, .string m.mr.k, vm, ve], .agg #[.int .i64 n.kd, .int .i64 n.pe, .int .i64 n.hp, .bool n.hi, up, .int .i64 n.nu, .int .u64 (n.su : Int), .int .i64 n.mr.a.c, .int .i64 n.mr.a.s, .string n.mr.k, um, ue]] w fun e w' => e = .returned (.bool false) ∧ Only none_ w w' := by
  obtain ⟨⟨A1, c1, ea1, _⟩, ⟨B1, d1, eb1, _⟩, ⟨C1, e1, ec1, _⟩⟩ := id hm
  obtain ⟨⟨A2, c2, ea2, _⟩, ⟨B2, d2, eb2, _⟩, ⟨C2, e2, ec2, _⟩⟩ := id hn
  subst ea1 eb1 ec1 ea2 eb2 ec2
  have OB := Lib.hid (((Only.refl none_ w).alloc (.cells #[.int .i64 m.kd, .int .i64 m.pe, .int .i64 m.hp, .bool m.hi, .slice A1 m.ps.length c1, .int .i64 m.nu, .int .u64 (m.su : Int), .int .i64 m.mr.a.c, .int .i64 m.mr.a.s, .string m.mr.k, .slice B1 m.ms.length d1, .slice C1 m.es.length e1] 31)).alloc (.cells #[.int .i64 n.kd, .int .i64 n.pe, .int .i64 n.hp, .bool n.hi, .slice A2 n.ps.length c2, .int .i64 n.nu, .int .u64 (n.su : Int), .int .i64 n.mr.a.c, .int .i64 n.mr.a.s, .string n.mr.k, .slice B2 n.ms.length d2, .slice C2 n.es.length e2] 31))
  have HM := Lib.hid (fun (w' : World) (o : Only none_ w w') => hm.keep o)
  have HN := Lib.hid (fun (w' : World) (o : Only none_ w w') => hn.keep o)
  have H1 := Lib.hid h1
  have H2 := Lib.hid h2
  have XB1 : Hid (Blk ((w.alloc (.cells #[.int .i64 m.kd, .int .i64 m.pe, .int .i64 m.hp, .bool m.hi, .slice A1 m.ps.length c1, .int .i64 m.nu, .int .u64 (m.su : Int), .int .i64 m.mr.a.c, .int .i64 m.mr.a.s, .string m.mr.k, .slice B1 m.ms.length d1, .slice C1 m.es.length e1] 31)).alloc (.cells #[.int .i64 n.kd, .int .i64 n.pe, .int .i64 n.hp, .bool n.hi, .slice A2 n.ps.length c2, .int .i64 n.nu, .int .u64 (n.su : Int), .int .i64 n.mr.a.c, .int .i64 n.mr.a.s, .string n.mr.k, .slice B2 n.ms.length d2, .slice C2 n.es.length e2] 31)) w.heap.size 31 #[.int .i64 m.kd, .int .i64 m.pe, .int .i64 m.hp, .bool m.hi, .slice A1 m.ps.length c1, .int .i64 m.nu, .int .u64 (m.su : Int), .int .i64 m.mr.a.c, .int .i64 m.mr.a.s, .string m.mr.k, .slice B1 m.ms.length d1, .slice C1 m.es.length e1]) := (Blk.new w _ _).alloc _
  have XB2 : Hid (Blk ((w.alloc (.cells #[.int .i64 m.kd, .int .i64 m.pe, .int .i64 m.hp, .bool m.hi, .slice A1 m.ps.length c1, .int .i64 m.nu, .int .u64 (m.su : Int), .int .i64 m.mr.a.c, .int .i64 m.mr.a.s, .string m.mr.k, .slice B1 m.ms.length d1, .slice C1 m.es.length e1] 31)).alloc (.cells #[.int .i64 n.kd, .int .i64 n.pe, .int .i64 n.hp, .bool n.hi, .slice A2 n.ps.length c2, .int .i64 n.nu, .int .u64 (n.su : Int), .int .i64 n.mr.a.c, .int .i64 n.mr.a.s, .string n.mr.k, .slice B2 n.ms.length d2, .slice C2 n.es.length e2] 31)) (w.heap.size + 1) 31 #[.int .i64 n.kd, .int .i64 n.pe, .int .i64 n.hp, .bool n.hi, .slice A2 n.ps.length c2, .int .i64 n.nu, .int .u64 (n.su : Int), .int .i64 n.mr.a.c, .int .i64 n.mr.a.s, .string n.mr.k, .slice B2 n.ms.length d2, .slice C2 n.es.length e2]) := by have := Blk.new (w.alloc (.cells #[.int .i64 m.kd, .int .i64 m.pe, .int .i64 m.hp, .bool m.hi, .slice A1 m.ps.length c1, .int .i64 m.nu, .int .u64 (m.su : Int), .int .i64 m.mr.a.c, .int .i64 m.mr.a.s, .string m.mr.k, .slice B1 m.ms.length d1, .slice C1 m.es.length e1] 31)) 31 #[.int .i64 n.kd, .int .i64 n.pe, .int .i64 n.hp, .bool n.hi, .slice A2 n.ps.length c2, .int .i64 n.nu, .int .u64 (n.su : Int), .int .i64 n.mr.a.c, .int .i64 n.mr.a.s, .string n.mr.k, .slice B2 n.ms.length d2, .slice C2 n.es.length e2]; rwa [World.size_alloc] at this
  clear hm hn h1 h2
  have r0 : (m.kd != n.kd) = false := by simp [q0]
  clear q0
  have r1 : (m.pe != n.pe) = false := by simp [q1]
  clear q1
  have r2 : (m.hp != n.hp) = false := by simp [q2]
  clear q2
  rw [q3] at OB XB1 XB2 ⊢
  clear q3
  have r4 : (m.nu != n.nu) = false := by simp [q4]
  clear q4
  have r5 : ((m.su : Int) != (n.su : Int)) = false := by simp [q5]
  clear q5
  have r6 := fun w => neqR w m.mr n.mr
  rw [show mkSame m.mr n.mr = false from by rw [Bool.eq_false_iff]; exact fun h => q6 ((mkSame_iff _ _).1 h)] at r6
  clear q6
  go_enter Tryz.func20, Tryz.ntmps20
  go_wp2_with fail
  go_ret
  exact ⟨rfl, OB.out⟩
set_option maxHeartbeats 6400000 in
theorem rf_wdiff7 (S T : Nat → Prop) (m n : Ms) (vp vm ve up um ue : Value) (w : World) (hm : Ml S m vp vm ve w) (hn : Ml T n up um ue w) (h1 : Few9 m) (h2 : Few9 n) (q0 : m.kd = n.kd) (q1 : m.pe = n.pe) (q2 : m.hp = n.hp) (q3 : m.hi = n.hi) (q4 : m.nu = n.nu) (q5 : m.su = n.su) (q6 : m.mr = n.mr)  (q7 : ¬ m.ps = n.ps) :
    Calls Tryz.prog 20 #[.agg #[.int .i64 m.kd, .int .i64 m.pe, .int .i64 m.hp, .bool m.hi, vp, .int .i64 m.nu, .int .u64 (m.su : Int), .int .i64 m.mr.a.c, .int .i64 m.mr.a.s, .string m.mr.k, vm, ve], .agg #[.int .i64 n.kd, .int .i64 n.pe, .int .i64 n.hp, .bool n.hi, up, .int .i64 n.nu, .int .u64 (n.su : Int), .int .i64 n.mr.a.c, .int .i64 n.mr.a.s, .string n.mr.k, um, ue]] w fun e w' => e = .returned (.bool false) ∧ Only none_ w w' := by
  obtain ⟨⟨A1, c1, ea1, _⟩, ⟨B1, d1, eb1, _⟩, ⟨C1, e1, ec1, _⟩⟩ := id hm
  obtain ⟨⟨A2, c2, ea2, _⟩, ⟨B2, d2, eb2, _⟩, ⟨C2, e2, ec2, _⟩⟩ := id hn
  subst ea1 eb1 ec1 ea2 eb2 ec2
  have OB := Lib.hid (((Only.refl none_ w).alloc (.cells #[.int .i64 m.kd, .int .i64 m.pe, .int .i64 m.hp, .bool m.hi, .slice A1 m.ps.length c1, .int .i64 m.nu, .int .u64 (m.su : Int), .int .i64 m.mr.a.c, .int .i64 m.mr.a.s, .string m.mr.k, .slice B1 m.ms.length d1, .slice C1 m.es.length e1] 31)).alloc (.cells #[.int .i64 n.kd, .int .i64 n.pe, .int .i64 n.hp, .bool n.hi, .slice A2 n.ps.length c2, .int .i64 n.nu, .int .u64 (n.su : Int), .int .i64 n.mr.a.c, .int .i64 n.mr.a.s, .string n.mr.k, .slice B2 n.ms.length d2, .slice C2 n.es.length e2] 31))
  have HM := Lib.hid (fun (w' : World) (o : Only none_ w w') => hm.keep o)
  have HN := Lib.hid (fun (w' : World) (o : Only none_ w w') => hn.keep o)
  have H1 := Lib.hid h1
  have H2 := Lib.hid h2
  have XB1 : Hid (Blk ((w.alloc (.cells #[.int .i64 m.kd, .int .i64 m.pe, .int .i64 m.hp, .bool m.hi, .slice A1 m.ps.length c1, .int .i64 m.nu, .int .u64 (m.su : Int), .int .i64 m.mr.a.c, .int .i64 m.mr.a.s, .string m.mr.k, .slice B1 m.ms.length d1, .slice C1 m.es.length e1] 31)).alloc (.cells #[.int .i64 n.kd, .int .i64 n.pe, .int .i64 n.hp, .bool n.hi, .slice A2 n.ps.length c2, .int .i64 n.nu, .int .u64 (n.su : Int), .int .i64 n.mr.a.c, .int .i64 n.mr.a.s, .string n.mr.k, .slice B2 n.ms.length d2, .slice C2 n.es.length e2] 31)) w.heap.size 31 #[.int .i64 m.kd, .int .i64 m.pe, .int .i64 m.hp, .bool m.hi, .slice A1 m.ps.length c1, .int .i64 m.nu, .int .u64 (m.su : Int), .int .i64 m.mr.a.c, .int .i64 m.mr.a.s, .string m.mr.k, .slice B1 m.ms.length d1, .slice C1 m.es.length e1]) := (Blk.new w _ _).alloc _
  have XB2 : Hid (Blk ((w.alloc (.cells #[.int .i64 m.kd, .int .i64 m.pe, .int .i64 m.hp, .bool m.hi, .slice A1 m.ps.length c1, .int .i64 m.nu, .int .u64 (m.su : Int), .int .i64 m.mr.a.c, .int .i64 m.mr.a.s, .string m.mr.k, .slice B1 m.ms.length d1, .slice C1 m.es.length e1] 31)).alloc (.cells #[.int .i64 n.kd, .int .i64 n.pe, .int .i64 n.hp, .bool n.hi, .slice A2 n.ps.length c2, .int .i64 n.nu, .int .u64 (n.su : Int), .int .i64 n.mr.a.c, .int .i64 n.mr.a.s, .string n.mr.k, .slice B2 n.ms.length d2, .slice C2 n.es.length e2] 31)) (w.heap.size + 1) 31 #[.int .i64 n.kd, .int .i64 n.pe, .int .i64 n.hp, .bool n.hi, .slice A2 n.ps.length c2, .int .i64 n.nu, .int .u64 (n.su : Int), .int .i64 n.mr.a.c, .int .i64 n.mr.a.s, .string n.mr.k, .slice B2 n.ms.length d2, .slice C2 n.es.length e2]) := by have := Blk.new (w.alloc (.cells #[.int .i64 m.kd, .int .i64 m.pe, .int .i64 m.hp, .bool m.hi, .slice A1 m.ps.length c1, .int .i64 m.nu, .int .u64 (m.su : Int), .int .i64 m.mr.a.c, .int .i64 m.mr.a.s, .string m.mr.k, .slice B1 m.ms.length d1, .slice C1 m.es.length e1] 31)) 31 #[.int .i64 n.kd, .int .i64 n.pe, .int .i64 n.hp, .bool n.hi, .slice A2 n.ps.length c2, .int .i64 n.nu, .int .u64 (n.su : Int), .int .i64 n.mr.a.c, .int .i64 n.mr.a.s, .string n.mr.k, .slice B2 n.ms.length d2, .slice C2 n.es.length e2]; rwa [World.size_alloc] at this
  clear hm hn h1 h2
  have r0 : (m.kd != n.kd) = false := by simp [q0]
  clear q0
  have r1 : (m.pe != n.pe) = false := by simp [q1]
  clear q1
  have r2 : (m.hp != n.hp) = false := by simp [q2]
  clear q2
  rw [q3] at OB XB1 XB2 ⊢
  clear q3
  have r4 : (m.nu != n.nu) = false := by simp [q4]
  clear q4
  have r5 : ((m.su : Int) != (n.su : Int)) = false := by simp [q5]
  clear q5
  have r6 := fun w => neqR w m.mr n.mr
  rw [show mkSame m.mr n.mr = true from (mkSame_iff _ _).2 q6] at r6
  clear q6
  have QN := Lib.hid q7
  clear q7
  go_enter Tryz.func20, Tryz.ntmps20
  go_wp2_with (first
    | (go_at_call 71; refine (rl_int S T m.ps n.ps _ _ _ (HM.out _ OB.out).p (HN.out _ OB.out).p ⟨H1.out.1, H2.out.1⟩).mono ?_; rintro E w3 ⟨b, rfl, hb, o0⟩; obtain rfl : b = false := by rw [Bool.eq_false_iff]; exact fun h => QN.out (hb.1 h)
       clear hb
       have O0 := Lib.hid (OB.out.trans o0)
       have P0 := Lib.hid ((Only.refl none_ _).trans o0)
       have k0x10 := (XB1.out.only P0.out (fun h => h)).cell_ (i := 10) rfl
       have k0x11 := (XB1.out.only P0.out (fun h => h)).cell_ (i := 11) rfl
       have k0y10 := (XB2.out.only P0.out (fun h => h)).cell_ (i := 10) rfl
       have k0y11 := (XB2.out.only P0.out (fun h => h)).cell_ (i := 11) rfl
       clear o0))
  go_ret
  exact ⟨rfl, O0.out⟩
set_option maxHeartbeats 6400000 in
theorem rf_wdiff8 (S T : Nat → Prop) (m n : Ms) (vp vm ve up um ue : Value) (w : World) (hm : Ml S m vp vm ve w) (hn : Ml T n up um ue w) (h1 : Few9 m) (h2 : Few9 n) (q0 : m.kd = n.kd) (q1 : m.pe = n.pe) (q2 : m.hp = n.hp) (q3 : m.hi = n.hi) (q4 : m.nu = n.nu) (q5 : m.su = n.su) (q6 : m.mr = n.mr) (q7 : m.ps = n.ps) (q8 : ¬ m.ms = n.ms) :
    Calls Tryz.prog 20 #[.agg #[.int .i64 m.kd, .int .i64 m.pe, .int .i64 m.hp, .bool m.hi, vp, .int .i64 m.nu, .int .u64 (m.su : Int), .int .i64 m.mr.a.c, .int .i64 m.mr.a.s, .string m.mr.k, vm, ve], .agg #[.int .i64 n.kd, .int .i64 n.pe, .int .i64 n.hp, .bool n.hi, up, .int .i64 n.nu, .int .u64 (n.su : Int), .int .i64 n.mr.a.c, .int .i64 n.mr.a.s, .string n.mr.k, um, ue]] w fun e w' => e = .returned (.bool false) ∧ Only none_ w w' := by
  obtain ⟨⟨A1, c1, ea1, _⟩, ⟨B1, d1, eb1, _⟩, ⟨C1, e1, ec1, _⟩⟩ := id hm
  obtain ⟨⟨A2, c2, ea2, _⟩, ⟨B2, d2, eb2, _⟩, ⟨C2, e2, ec2, _⟩⟩ := id hn
  subst ea1 eb1 ec1 ea2 eb2 ec2
  have OB := Lib.hid (((Only.refl none_ w).alloc (.cells #[.int .i64 m.kd, .int .i64 m.pe, .int .i64 m.hp, .bool m.hi, .slice A1 m.ps.length c1, .int .i64 m.nu, .int .u64 (m.su : Int), .int .i64 m.mr.a.c, .int .i64 m.mr.a.s, .string m.mr.k, .slice B1 m.ms.length d1, .slice C1 m.es.length e1] 31)).alloc (.cells #[.int .i64 n.kd, .int .i64 n.pe, .int .i64 n.hp, .bool n.hi, .slice A2 n.ps.length c2, .int .i64 n.nu, .int .u64 (n.su : Int), .int .i64 n.mr.a.c, .int .i64 n.mr.a.s, .string n.mr.k, .slice B2 n.ms.length d2, .slice C2 n.es.length e2] 31))
  have HM := Lib.hid (fun (w' : World) (o : Only none_ w w') => hm.keep o)
  have HN := Lib.hid (fun (w' : World) (o : Only none_ w w') => hn.keep o)
  have H1 := Lib.hid h1
  have H2 := Lib.hid h2
  have XB1 : Hid (Blk ((w.alloc (.cells #[.int .i64 m.kd, .int .i64 m.pe, .int .i64 m.hp, .bool m.hi, .slice A1 m.ps.length c1, .int .i64 m.nu, .int .u64 (m.su : Int), .int .i64 m.mr.a.c, .int .i64 m.mr.a.s, .string m.mr.k, .slice B1 m.ms.length d1, .slice C1 m.es.length e1] 31)).alloc (.cells #[.int .i64 n.kd, .int .i64 n.pe, .int .i64 n.hp, .bool n.hi, .slice A2 n.ps.length c2, .int .i64 n.nu, .int .u64 (n.su : Int), .int .i64 n.mr.a.c, .int .i64 n.mr.a.s, .string n.mr.k, .slice B2 n.ms.length d2, .slice C2 n.es.length e2] 31)) w.heap.size 31 #[.int .i64 m.kd, .int .i64 m.pe, .int .i64 m.hp, .bool m.hi, .slice A1 m.ps.length c1, .int .i64 m.nu, .int .u64 (m.su : Int), .int .i64 m.mr.a.c, .int .i64 m.mr.a.s, .string m.mr.k, .slice B1 m.ms.length d1, .slice C1 m.es.length e1]) := (Blk.new w _ _).alloc _
  have XB2 : Hid (Blk ((w.alloc (.cells #[.int .i64 m.kd, .int .i64 m.pe, .int .i64 m.hp, .bool m.hi, .slice A1 m.ps.length c1, .int .i64 m.nu, .int .u64 (m.su : Int), .int .i64 m.mr.a.c, .int .i64 m.mr.a.s, .string m.mr.k, .slice B1 m.ms.length d1, .slice C1 m.es.length e1] 31)).alloc (.cells #[.int .i64 n.kd, .int .i64 n.pe, .int .i64 n.hp, .bool n.hi, .slice A2 n.ps.length c2, .int .i64 n.nu, .int .u64 (n.su : Int), .int .i64 n.mr.a.c, .int .i64 n.mr.a.s, .string n.mr.k, .slice B2 n.ms.length d2, .slice C2 n.es.length e2] 31)) (w.heap.size + 1) 31 #[.int .i64 n.kd, .int .i64 n.pe, .int .i64 n.hp, .bool n.hi, .slice A2 n.ps.length c2, .int .i64 n.nu, .int .u64 (n.su : Int), .int .i64 n.mr.a.c, .int .i64 n.mr.a.s, .string n.mr.k, .slice B2 n.ms.length d2, .slice C2 n.es.length e2]) := by have := Blk.new (w.alloc (.cells #[.int .i64 m.kd, .int .i64 m.pe, .int .i64 m.hp, .bool m.hi, .slice A1 m.ps.length c1, .int .i64 m.nu, .int .u64 (m.su : Int), .int .i64 m.mr.a.c, .int .i64 m.mr.a.s, .string m.mr.k, .slice B1 m.ms.length d1, .slice C1 m.es.length e1] 31)) 31 #[.int .i64 n.kd, .int .i64 n.pe, .int .i64 n.hp, .bool n.hi, .slice A2 n.ps.length c2, .int .i64 n.nu, .int .u64 (n.su : Int), .int .i64 n.mr.a.c, .int .i64 n.mr.a.s, .string n.mr.k, .slice B2 n.ms.length d2, .slice C2 n.es.length e2]; rwa [World.size_alloc] at this
  clear hm hn h1 h2
  have r0 : (m.kd != n.kd) = false := by simp [q0]
  clear q0
  have r1 : (m.pe != n.pe) = false := by simp [q1]
  clear q1
  have r2 : (m.hp != n.hp) = false := by simp [q2]
  clear q2
  rw [q3] at OB XB1 XB2 ⊢
  clear q3
  have r4 : (m.nu != n.nu) = false := by simp [q4]
  clear q4
  have r5 : ((m.su : Int) != (n.su : Int)) = false := by simp [q5]
  clear q5
  have r6 := fun w => neqR w m.mr n.mr
  rw [show mkSame m.mr n.mr = true from (mkSame_iff _ _).2 q6] at r6
  clear q6
  have Q7 := Lib.hid q7
  clear q7
  have QN := Lib.hid q8
  clear q8
  go_enter Tryz.func20, Tryz.ntmps20
  go_wp2_with (first
    | (go_at_call 71; refine (rl_int S T m.ps n.ps _ _ _ (HM.out _ OB.out).p (HN.out _ OB.out).p ⟨H1.out.1, H2.out.1⟩).mono ?_; rintro E w3 ⟨b, rfl, hb, o0⟩; obtain rfl : b = true := hb.2 Q7.out
       clear hb
       have O0 := Lib.hid (OB.out.trans o0)
       have P0 := Lib.hid ((Only.refl none_ _).trans o0)
       have k0x10 := (XB1.out.only P0.out (fun h => h)).cell_ (i := 10) rfl
       have k0x11 := (XB1.out.only P0.out (fun h => h)).cell_ (i := 11) rfl
       have k0y10 := (XB2.out.only P0.out (fun h => h)).cell_ (i := 10) rfl
       have k0y11 := (XB2.out.only P0.out (fun h => h)).cell_ (i := 11) rfl
       clear o0)
    | (go_at_call 72; refine (rl_mk S T m.ms n.ms _ _ _ (HM.out _ O0.out).q (HN.out _ O0.out).q ⟨H1.out.2.1, H2.out.2.1⟩).mono ?_; rintro E w4 ⟨b, rfl, hb, o1⟩; obtain rfl : b = false := by rw [Bool.eq_false_iff]; exact fun h => QN.out (hb.1 h)
       clear hb
       have O1 := Lib.hid (O0.out.trans o1)
       have P1 := Lib.hid (P0.out.trans o1)
       have k1x10 := (XB1.out.only P1.out (fun h => h)).cell_ (i := 10) rfl
       have k1x11 := (XB1.out.only P1.out (fun h => h)).cell_ (i := 11) rfl
       have k1y10 := (XB2.out.only P1.out (fun h => h)).cell_ (i := 10) rfl
       have k1y11 := (XB2.out.only P1.out (fun h => h)).cell_ (i := 11) rfl
       clear o1))
  go_ret
  exact ⟨rfl, O1.out⟩
set_option maxHeartbeats 6400000 in
theorem rf_wdiff9 (S T : Nat → Prop) (m n : Ms) (vp vm ve up um ue : Value) (w : World) (hm : Ml S m vp vm ve w) (hn : Ml T n up um ue w) (h1 : Few9 m) (h2 : Few9 n) (q0 : m.kd = n.kd) (q1 : m.pe = n.pe) (q2 : m.hp = n.hp) (q3 : m.hi = n.hi) (q4 : m.nu = n.nu) (q5 : m.su = n.su) (q6 : m.mr = n.mr) (q7 : m.ps = n.ps) (q8 : m.ms = n.ms) (q9 : ¬ m.es = n.es) :
    Calls Tryz.prog 20 #[.agg #[.int .i64 m.kd, .int .i64 m.pe, .int .i64 m.hp, .bool m.hi, vp, .int .i64 m.nu, .int .u64 (m.su : Int), .int .i64 m.mr.a.c, .int .i64 m.mr.a.s, .string m.mr.k, vm, ve], .agg #[.int .i64 n.kd, .int .i64 n.pe, .int .i64 n.hp, .bool n.hi, up, .int .i64 n.nu, .int .u64 (n.su : Int), .int .i64 n.mr.a.c, .int .i64 n.mr.a.s, .string n.mr.k, um, ue]] w fun e w' => e = .returned (.bool false) ∧ Only none_ w w' := by
  obtain ⟨⟨A1, c1, ea1, _⟩, ⟨B1, d1, eb1, _⟩, ⟨C1, e1, ec1, _⟩⟩ := id hm
  obtain ⟨⟨A2, c2, ea2, _⟩, ⟨B2, d2, eb2, _⟩, ⟨C2, e2, ec2, _⟩⟩ := id hn
  subst ea1 eb1 ec1 ea2 eb2 ec2
  have OB := Lib.hid (((Only.refl none_ w).alloc (.cells #[.int .i64 m.kd, .int .i64 m.pe, .int .i64 m.hp, .bool m.hi, .slice A1 m.ps.length c1, .int .i64 m.nu, .int .u64 (m.su : Int), .int .i64 m.mr.a.c, .int .i64 m.mr.a.s, .string m.mr.k, .slice B1 m.ms.length d1, .slice C1 m.es.length e1] 31)).alloc (.cells #[.int .i64 n.kd, .int .i64 n.pe, .int .i64 n.hp, .bool n.hi, .slice A2 n.ps.length c2, .int .i64 n.nu, .int .u64 (n.su : Int), .int .i64 n.mr.a.c, .int .i64 n.mr.a.s, .string n.mr.k, .slice B2 n.ms.length d2, .slice C2 n.es.length e2] 31))
  have HM := Lib.hid (fun (w' : World) (o : Only none_ w w') => hm.keep o)
  have HN := Lib.hid (fun (w' : World) (o : Only none_ w w') => hn.keep o)
  have H1 := Lib.hid h1
  have H2 := Lib.hid h2
  have XB1 : Hid (Blk ((w.alloc (.cells #[.int .i64 m.kd, .int .i64 m.pe, .int .i64 m.hp, .bool m.hi, .slice A1 m.ps.length c1, .int .i64 m.nu, .int .u64 (m.su : Int), .int .i64 m.mr.a.c, .int .i64 m.mr.a.s, .string m.mr.k, .slice B1 m.ms.length d1, .slice C1 m.es.length e1] 31)).alloc (.cells #[.int .i64 n.kd, .int .i64 n.pe, .int .i64 n.hp, .bool n.hi, .slice A2 n.ps.length c2, .int .i64 n.nu, .int .u64 (n.su : Int), .int .i64 n.mr.a.c, .int .i64 n.mr.a.s, .string n.mr.k, .slice B2 n.ms.length d2, .slice C2 n.es.length e2] 31)) w.heap.size 31 #[.int .i64 m.kd, .int .i64 m.pe, .int .i64 m.hp, .bool m.hi, .slice A1 m.ps.length c1, .int .i64 m.nu, .int .u64 (m.su : Int), .int .i64 m.mr.a.c, .int .i64 m.mr.a.s, .string m.mr.k, .slice B1 m.ms.length d1, .slice C1 m.es.length e1]) := (Blk.new w _ _).alloc _
  have XB2 : Hid (Blk ((w.alloc (.cells #[.int .i64 m.kd, .int .i64 m.pe, .int .i64 m.hp, .bool m.hi, .slice A1 m.ps.length c1, .int .i64 m.nu, .int .u64 (m.su : Int), .int .i64 m.mr.a.c, .int .i64 m.mr.a.s, .string m.mr.k, .slice B1 m.ms.length d1, .slice C1 m.es.length e1] 31)).alloc (.cells #[.int .i64 n.kd, .int .i64 n.pe, .int .i64 n.hp, .bool n.hi, .slice A2 n.ps.length c2, .int .i64 n.nu, .int .u64 (n.su : Int), .int .i64 n.mr.a.c, .int .i64 n.mr.a.s, .string n.mr.k, .slice B2 n.ms.length d2, .slice C2 n.es.length e2] 31)) (w.heap.size + 1) 31 #[.int .i64 n.kd, .int .i64 n.pe, .int .i64 n.hp, .bool n.hi, .slice A2 n.ps.length c2, .int .i64 n.nu, .int .u64 (n.su : Int), .int .i64 n.mr.a.c, .int .i64 n.mr.a.s, .string n.mr.k, .slice B2 n.ms.length d2, .slice C2 n.es.length e2]) := by have := Blk.new (w.alloc (.cells #[.int .i64 m.kd, .int .i64 m.pe, .int .i64 m.hp, .bool m.hi, .slice A1 m.ps.length c1, .int .i64 m.nu, .int .u64 (m.su : Int), .int .i64 m.mr.a.c, .int .i64 m.mr.a.s, .string m.mr.k, .slice B1 m.ms.length d1, .slice C1 m.es.length e1] 31)) 31 #[.int .i64 n.kd, .int .i64 n.pe, .int .i64 n.hp, .bool n.hi, .slice A2 n.ps.length c2, .int .i64 n.nu, .int .u64 (n.su : Int), .int .i64 n.mr.a.c, .int .i64 n.mr.a.s, .string n.mr.k, .slice B2 n.ms.length d2, .slice C2 n.es.length e2]; rwa [World.size_alloc] at this
  clear hm hn h1 h2
  have r0 : (m.kd != n.kd) = false := by simp [q0]
  clear q0
  have r1 : (m.pe != n.pe) = false := by simp [q1]
  clear q1
  have r2 : (m.hp != n.hp) = false := by simp [q2]
  clear q2
  rw [q3] at OB XB1 XB2 ⊢
  clear q3
  have r4 : (m.nu != n.nu) = false := by simp [q4]
  clear q4
  have r5 : ((m.su : Int) != (n.su : Int)) = false := by simp [q5]
  clear q5
  have r6 := fun w => neqR w m.mr n.mr
  rw [show mkSame m.mr n.mr = true from (mkSame_iff _ _).2 q6] at r6
  clear q6
  have Q7 := Lib.hid q7
  clear q7
  have Q8 := Lib.hid q8
  clear q8
  have QN := Lib.hid q9
  clear q9
  go_enter Tryz.func20, Tryz.ntmps20
  go_wp2_with (first
    | (go_at_call 71; refine (rl_int S T m.ps n.ps _ _ _ (HM.out _ OB.out).p (HN.out _ OB.out).p ⟨H1.out.1, H2.out.1⟩).mono ?_; rintro E w3 ⟨b, rfl, hb, o0⟩; obtain rfl : b = true := hb.2 Q7.out
       clear hb
       have O0 := Lib.hid (OB.out.trans o0)
       have P0 := Lib.hid ((Only.refl none_ _).trans o0)
       have k0x10 := (XB1.out.only P0.out (fun h => h)).cell_ (i := 10) rfl
       have k0x11 := (XB1.out.only P0.out (fun h => h)).cell_ (i := 11) rfl
       have k0y10 := (XB2.out.only P0.out (fun h => h)).cell_ (i := 10) rfl
       have k0y11 := (XB2.out.only P0.out (fun h => h)).cell_ (i := 11) rfl
       clear o0)
    | (go_at_call 72; refine (rl_mk S T m.ms n.ms _ _ _ (HM.out _ O0.out).q (HN.out _ O0.out).q ⟨H1.out.2.1, H2.out.2.1⟩).mono ?_; rintro E w4 ⟨b, rfl, hb, o1⟩; obtain rfl : b = true := hb.2 Q8.out
       clear hb
       have O1 := Lib.hid (O0.out.trans o1)
       have P1 := Lib.hid (P0.out.trans o1)
       have k1x10 := (XB1.out.only P1.out (fun h => h)).cell_ (i := 10) rfl
       have k1x11 := (XB1.out.only P1.out (fun h => h)).cell_ (i := 11) rfl
       have k1y10 := (XB2.out.only P1.out (fun h => h)).cell_ (i := 10) rfl
       have k1y11 := (XB2.out.only P1.out (fun h => h)).cell_ (i := 11) rfl
       clear o1)
    | (go_at_call 73; refine (rl_en S T m.es n.es _ _ _ (HM.out _ O1.out).r (HN.out _ O1.out).r ⟨H1.out.2.2, H2.out.2.2⟩).mono ?_; rintro E w5 ⟨b, rfl, hb, o2⟩; obtain rfl : b = false := by rw [Bool.eq_false_iff]; exact fun h => QN.out (hb.1 h)
       clear hb
       have O2 := Lib.hid (O1.out.trans o2)
       have P2 := Lib.hid (P1.out.trans o2)
       have k2x10 := (XB1.out.only P2.out (fun h => h)).cell_ (i := 10) rfl
       have k2x11 := (XB1.out.only P2.out (fun h => h)).cell_ (i := 11) rfl
       have k2y10 := (XB2.out.only P2.out (fun h => h)).cell_ (i := 10) rfl
       have k2y11 := (XB2.out.only P2.out (fun h => h)).cell_ (i := 11) rfl
       clear o2))
  go_ret
  exact ⟨rfl, O2.out⟩
theorem rf_wsame (S T : Nat → Prop) (m n : Ms) (vp vm ve up um ue : Value) (w : World) (hm : Ml S m vp vm ve w) (hn : Ml T n up um ue w) (h1 : Few9 m) (h2 : Few9 n) :
    Calls Tryz.prog 20 #[.agg #[.int .i64 m.kd, .int .i64 m.pe, .int .i64 m.hp, .bool m.hi, vp, .int .i64 m.nu, .int .u64 (m.su : Int), .int .i64 m.mr.a.c, .int .i64 m.mr.a.s, .string m.mr.k, vm, ve], .agg #[.int .i64 n.kd, .int .i64 n.pe, .int .i64 n.hp, .bool n.hi, up, .int .i64 n.nu, .int .u64 (n.su : Int), .int .i64 n.mr.a.c, .int .i64 n.mr.a.s, .string n.mr.k, um, ue]] w fun e w' => ∃ b : Bool, e = .returned (.bool b) ∧ (b = true ↔ m = n) ∧ Only none_ w w' := by
  rcases Classical.em (m.kd = n.kd) with q0 | q0
  rotate_left
  · exact (rf_wdiff0 S T m n vp vm ve up um ue w hm hn h1 h2 q0).mono (fun e w' ⟨h, o⟩ => ⟨false, h, ⟨(fun h => by cases h), (fun h => absurd (by rw [h]) q0)⟩, o⟩)
  rcases Classical.em (m.pe = n.pe) with q1 | q1
  rotate_left
  · exact (rf_wdiff1 S T m n vp vm ve up um ue w hm hn h1 h2 q0 q1).mono (fun e w' ⟨h, o⟩ => ⟨false, h, ⟨(fun h => by cases h), (fun h => absurd (by rw [h]) q1)⟩, o⟩)
  rcases Classical.em (m.hp = n.hp) with q2 | q2
  rotate_left
  · exact (rf_wdiff2 S T m n vp vm ve up um ue w hm hn h1 h2 q0 q1 q2).mono (fun e w' ⟨h, o⟩ => ⟨false, h, ⟨(fun h => by cases h), (fun h => absurd (by rw [h]) q2)⟩, o⟩)
  rcases Classical.em (m.hi = n.hi) with q3 | q3
  rotate_left
  · exact (rf_wdiff3 S T m n vp vm ve up um ue w hm hn h1 h2 q0 q1 q2 q3).mono (fun e w' ⟨h, o⟩ => ⟨false, h, ⟨(fun h => by cases h), (fun h => absurd (by rw [h]) q3)⟩, o⟩)
  rcases Classical.em (m.nu = n.nu) with q4 | q4
  rotate_left
  · exact (rf_wdiff4 S T m n vp vm ve up um ue w hm hn h1 h2 q0 q1 q2 q3 q4).mono (fun e w' ⟨h, o⟩ => ⟨false, h, ⟨(fun h => by cases h), (fun h => absurd (by rw [h]) q4)⟩, o⟩)
  rcases Classical.em (m.su = n.su) with q5 | q5
  rotate_left
  · exact (rf_wdiff5 S T m n vp vm ve up um ue w hm hn h1 h2 q0 q1 q2 q3 q4 q5).mono (fun e w' ⟨h, o⟩ => ⟨false, h, ⟨(fun h => by cases h), (fun h => absurd (by rw [h]) q5)⟩, o⟩)
  rcases Classical.em (m.mr = n.mr) with q6 | q6
  rotate_left
  · exact (rf_wdiff6 S T m n vp vm ve up um ue w hm hn h1 h2 q0 q1 q2 q3 q4 q5 q6).mono (fun e w' ⟨h, o⟩ => ⟨false, h, ⟨(fun h => by cases h), (fun h => absurd (by rw [h]) q6)⟩, o⟩)
  rcases Classical.em (m.ps = n.ps) with q7 | q7
  rotate_left
  · exact (rf_wdiff7 S T m n vp vm ve up um ue w hm hn h1 h2 q0 q1 q2 q3 q4 q5 q6 q7).mono (fun e w' ⟨h, o⟩ => ⟨false, h, ⟨(fun h => by cases h), (fun h => absurd (by rw [h]) q7)⟩, o⟩)
  rcases Classical.em (m.ms = n.ms) with q8 | q8
  rotate_left
  · exact (rf_wdiff8 S T m n vp vm ve up um ue w hm hn h1 h2 q0 q1 q2 q3 q4 q5 q6 q7 q8).mono (fun e w' ⟨h, o⟩ => ⟨false, h, ⟨(fun h => by cases h), (fun h => absurd (by rw [h]) q8)⟩, o⟩)
  rcases Classical.em (m.es = n.es) with q9 | q9
  rotate_left
  · exact (rf_wdiff9 S T m n vp vm ve up um ue w hm hn h1 h2 q0 q1 q2 q3 q4 q5 q6 q7 q8 q9).mono (fun e w' ⟨h, o⟩ => ⟨false, h, ⟨(fun h => by cases h), (fun h => absurd (by rw [h]) q9)⟩, o⟩)
  exact (rf_wsame_eq S T m n vp vm ve up um ue w hm hn h1 h2 (Ms.eq q0 q1 q2 q3 q4 q5 q6 q7 q8 q9)).mono (fun e w' ⟨h, o⟩ => ⟨true, h, ⟨fun _ => Ms.eq q0 q1 q2 q3 q4 q5 q6 q7 q8 q9, fun _ => rfl⟩, o⟩)
end Go.Proofs.YtlieolehpmobfaaGreatDoor
end
