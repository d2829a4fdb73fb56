/- Texts of mine, one behind the other: WiTp, WiT. No statement of the seat is proved here. -/
import Derived.Test.YtlieolehpmobfaaGreatDoorWt12
import Derived.Test.YtlieolehpmobfaaGreatDoorWt6
import Derived.Test.YtlieolehpmobfaaGreatDoorWt7
import Derived.Test.YtlieolehpmobfaaGreatDoorWt3
section
namespace Go.Proofs.YtlieolehpmobfaaGreatDoor
open Go.RowKit
set_option linter.all false
set_option maxRecDepth 100000
set_option maxHeartbeats 6400000 in
theorem wi_wdiff0 (S T : Nat → Prop) (m n : Ms) (vp vm ve up um ue : Value) (w : World) (hm : Ml S m vp vm ve w) (hn : Ml T n up um ue w) (h1 : Few9 m) (h2 : Few9 n)  (q0 : ¬ m.kd = n.kd) :
    Calls Tryz.prog 19 #[.agg #[.int .i64 m.kd, .int .i64 m.pe, .int .i64 m.hp, .bool m.hi, vp, .int .i64 m.nu, .int .u64 (m.su : Int), .int .i64 m.mr.a.c, .int .i64 m.mr.a.s, .string m.mr.k, vm, ve], .agg #[.int .i64 n.kd, .int .i64 n.pe, .int .i64 n.hp, .bool n.hi, up, .int .i64 n.nu, .int .u64 (n.su : Int), .int .i64 n.mr.a.c, .int .i64 n.mr.a.s, .string n.mr.k, um, ue]] w fun e w' => e = .returned (.bool false) ∧ Only none_ w w' := by
  obtain ⟨⟨A1, c1, ea1, _⟩, ⟨B1, d1, eb1, _⟩, ⟨C1, e1, ec1, _⟩⟩ := id hm
  obtain ⟨⟨A2, c2, ea2, _⟩, ⟨B2, d2, eb2, _⟩, ⟨C2, e2, ec2, _⟩⟩ := id hn
  subst ea1 eb1 ec1 ea2 eb2 ec2
  have OB := Lib.hid (((Only.refl none_ w).alloc (.cells #[.int .i64 m.kd, .int .i64 m.pe, .int .i64 m.hp, .bool m.hi, .slice A1 m.ps.length c1, .int .i64 m.nu, .int .u64 (m.su : Int), .int .i64 m.mr.a.c, .int .i64 m.mr.a.s, .string m.mr.k, .slice B1 m.ms.length d1, .slice C1 m.es.length e1] 45)).alloc (.cells #[.int .i64 n.kd, .int .i64 n.pe, .int .i64 n.hp, .bool n.hi, .slice A2 n.ps.length c2, .int .i64 n.nu, .int .u64 (n.su : Int), .int .i64 n.mr.a.c, .int .i64 n.mr.a.s, .string n.mr.k, .slice B2 n.ms.length d2, .slice C2 n.es.length e2] 45))
  have HM := Lib.hid (fun (w' : World) (o : Only none_ w w') => hm.keep o)
  have HN := Lib.hid (fun (w' : World) (o : Only none_ w w') => hn.keep o)
  have H1 := Lib.hid h1
  have H2 := Lib.hid h2
  have XB1 : Hid (Blk ((w.alloc (.cells #[.int .i64 m.kd, .int .i64 m.pe, .int .i64 m.hp, .bool m.hi, .slice A1 m.ps.length c1, .int .i64 m.nu, .int .u64 (m.su : Int), .int .i64 m.mr.a.c, .int .i64 m.mr.a.s, .string m.mr.k, .slice B1 m.ms.length d1, .slice C1 m.es.length e1] 45)).alloc (.cells #[.int .i64 n.kd, .int .i64 n.pe, .int .i64 n.hp, .bool n.hi, .slice A2 n.ps.length c2, .int .i64 n.nu, .int .u64 (n.su : Int), .int .i64 n.mr.a.c, .int .i64 n.mr.a.s, .string n.mr.k, .slice B2 n.ms.length d2, .slice C2 n.es.length e2] 45)) w.heap.size 45 #[.int .i64 m.kd, .int .i64 m.pe, .int .i64 m.hp, .bool m.hi, .slice A1 m.ps.length c1, .int .i64 m.nu, .int .u64 (m.su : Int), .int .i64 m.mr.a.c, .int .i64 m.mr.a.s, .string m.mr.k, .slice B1 m.ms.length d1, .slice C1 m.es.length e1]) := (Blk.new w _ _).alloc _
  have XB2 : Hid (Blk ((w.alloc (.cells #[.int .i64 m.kd, .int .i64 m.pe, .int .i64 m.hp, .bool m.hi, .slice A1 m.ps.length c1, .int .i64 m.nu, .int .u64 (m.su : Int), .int .i64 m.mr.a.c, .int .i64 m.mr.a.s, .string m.mr.k, .slice B1 m.ms.length d1, .slice C1 m.es.length e1] 45)).alloc (.cells #[.int .i64 n.kd, .int .i64 n.pe, .int .i64 n.hp, .bool n.hi, .slice A2 n.ps.length c2, .int .i64 n.nu, .int .u64 (n.su : Int), .int .i64 n.mr.a.c, .int .i64 n.mr.a.s, .string n.mr.k, .slice B2 n.ms.length d2, .slice C2 n.es.length e2] 45)) (w.heap.size + 1) 45 #[.int .i64 n.kd, .int .i64 n.pe, .int .i64 n.hp, .bool n.hi, .slice A2 n.ps.length c2, .int .i64 n.nu, .int .u64 (n.su : Int), .int .i64 n.mr.a.c, .int .i64 n.mr.a.s, .string n.mr.k, .slice B2 n.ms.length d2, .slice C2 n.es.length e2]) := by have := Blk.new (w.alloc (.cells #[.int .i64 m.kd, .int .i64 m.pe, .int .i64 m.hp, .bool m.hi, .slice A1 m.ps.length c1, .int .i64 m.nu, .int .u64 (m.su : Int), .int .i64 m.mr.a.c, .int .i64 m.mr.a.s, .string m.mr.k, .slice B1 m.ms.length d1, .slice C1 m.es.length e1] 45)) 45 #[.int .i64 n.kd, .int .i64 n.pe, .int .i64 n.hp, .bool n.hi, .slice A2 n.ps.length c2, .int .i64 n.nu, .int .u64 (n.su : Int), .int .i64 n.mr.a.c, .int .i64 n.mr.a.s, .string n.mr.k, .slice B2 n.ms.length d2, .slice C2 n.es.length e2]; rwa [World.size_alloc] at this
  clear hm hn h1 h2
  have r0 : (m.kd == n.kd) = false := by simp [q0]
  clear q0
  go_enter Tryz.func19, Tryz.ntmps19
  go_wp2_with fail
  go_ret
  exact ⟨rfl, OB.out⟩
set_option maxHeartbeats 6400000 in
theorem wi_wdiff1 (S T : Nat → Prop) (m n : Ms) (vp vm ve up um ue : Value) (w : World) (hm : Ml S m vp vm ve w) (hn : Ml T n up um ue w) (h1 : Few9 m) (h2 : Few9 n) (q0 : m.kd = n.kd) (q1 : ¬ m.pe = n.pe) :
    Calls Tryz.prog 19 #[.agg #[.int .i64 m.kd, .int .i64 m.pe, .int .i64 m.hp, .bool m.hi, vp, .int .i64 m.nu, .int .u64 (m.su : Int), .int .i64 m.mr.a.c, .int .i64 m.mr.a.s, .string m.mr.k, vm, ve], .agg #[.int .i64 n.kd, .int .i64 n.pe, .int .i64 n.hp, .bool n.hi, up, .int .i64 n.nu, .int .u64 (n.su : Int), .int .i64 n.mr.a.c, .int .i64 n.mr.a.s, .string n.mr.k, um, ue]] w fun e w' => e = .returned (.bool false) ∧ Only none_ w w' := by
  obtain ⟨⟨A1, c1, ea1, _⟩, ⟨B1, d1, eb1, _⟩, ⟨C1, e1, ec1, _⟩⟩ := id hm
  obtain ⟨⟨A2, c2, ea2, _⟩, ⟨B2, d2, eb2, _⟩, ⟨C2, e2, ec2, _⟩⟩ := id hn
  subst ea1 eb1 ec1 ea2 eb2 ec2
  have OB := Lib.hid (((Only.refl none_ w).alloc (.cells #[.int .i64 m.kd, .int .i64 m.pe, .int .i64 m.hp, .bool m.hi, .slice A1 m.ps.length c1, .int .i64 m.nu, .int .u64 (m.su : Int), .int .i64 m.mr.a.c, .int .i64 m.mr.a.s, .string m.mr.k, .slice B1 m.ms.length d1, .slice C1 m.es.length e1] 45)).alloc (.cells #[.int .i64 n.kd, .int .i64 n.pe, .int .i64 n.hp, .bool n.hi, .slice A2 n.ps.length c2, .int .i64 n.nu, .int .u64 (n.su : Int), .int .i64 n.mr.a.c, .int .i64 n.mr.a.s, .string n.mr.k, .slice B2 n.ms.length d2, .slice C2 n.es.length e2] 45))
  have HM := Lib.hid (fun (w' : World) (o : Only none_ w w') => hm.keep o)
  have HN := Lib.hid (fun (w' : World) (o : Only none_ w w') => hn.keep o)
  have H1 := Lib.hid h1
  have H2 := Lib.hid h2
  have XB1 : Hid (Blk ((w.alloc (.cells #[.int .i64 m.kd, .int .i64 m.pe, .int .i64 m.hp, .bool m.hi, .slice A1 m.ps.length c1, .int .i64 m.nu, .int .u64 (m.su : Int), .int .i64 m.mr.a.c, .int .i64 m.mr.a.s, .string m.mr.k, .slice B1 m.ms.length d1, .slice C1 m.es.length e1] 45)).alloc (.cells #[.int .i64 n.kd, .int .i64 n.pe, .int .i64 n.hp, .bool n.hi, .slice A2 n.ps.length c2, .int .i64 n.nu, .int .u64 (n.su : Int), .int .i64 n.mr.a.c, .int .i64 n.mr.a.s, .string n.mr.k, .slice B2 n.ms.length d2, .slice C2 n.es.length e2] 45)) w.heap.size 45 #[.int .i64 m.kd, .int .i64 m.pe, .int .i64 m.hp, .bool m.hi, .slice A1 m.ps.length c1, .int .i64 m.nu, .int .u64 (m.su : Int), .int .i64 m.mr.a.c, .int .i64 m.mr.a.s, .string m.mr.k, .slice B1 m.ms.length d1, .slice C1 m.es.length e1]) := (Blk.new w _ _).alloc _
  have XB2 : Hid (Blk ((w.alloc (.cells #[.int .i64 m.kd, .int .i64 m.pe, .int .i64 m.hp, .bool m.hi, .slice A1 m.ps.length c1, .int .i64 m.nu, .int .u64 (m.su : Int), .int .i64 m.mr.a.c, .int .i64 m.mr.a.s, .string m.mr.k, .slice B1 m.ms.length d1, .slice C1 m.es.length e1] 45)).alloc (.cells #[.int .i64 n.kd, .int .i64 n.pe, .int .i64 n.hp, .bool n.hi, .slice A2 n.ps.length c2, .int .i64 n.nu, .int .u64 (n.su : Int), .int .i64 n.mr.a.c, .int .i64 n.mr.a.s, .string n.mr.k, .slice B2 n.ms.length d2, .slice C2 n.es.length e2] 45)) (w.heap.size + 1) 45 #[.int .i64 n.kd, .int .i64 n.pe, .int .i64 n.hp, .bool n.hi, .slice A2 n.ps.length c2, .int .i64 n.nu, .int .u64 (n.su : Int), .int .i64 n.mr.a.c, .int .i64 n.mr.a.s, .string n.mr.k, .slice B2 n.ms.length d2, .slice C2 n.es.length e2]) := by have := Blk.new (w.alloc (.cells #[.int .i64 m.kd, .int .i64 m.pe, .int .i64 m.hp, .bool m.hi, .slice A1 m.ps.length c1, .int .i64 m.nu, .int .u64 (m.su : Int), .int .i64 m.mr.a.c, .int .i64 m.mr.a.s, .string m.mr.k, .slice B1 m.ms.length d1, .slice C1 m.es.length e1] 45)) 45 #[.int .i64 n.kd, .int .i64 n.pe, .int .i64 n.hp, .bool n.hi, .slice A2 n.ps.length c2, .int .i64 n.nu, .int .u64 (n.su : Int), .int .i64 n.mr.a.c, .int .i64 n.mr.a.s, .string n.mr.k, .slice B2 n.ms.length d2, .slice C2 n.es.length e2]; rwa [World.size_alloc] at this
  clear hm hn h1 h2
  have r0 : (m.kd == n.kd) = true := by simp [q0]
  clear q0
  have r1 : (m.pe == n.pe) = false := by simp [q1]
  clear q1
  go_enter Tryz.func19, Tryz.ntmps19
  go_wp2_with fail
  go_ret
  exact ⟨rfl, OB.out⟩
set_option maxHeartbeats 6400000 in
theorem wi_wdiff2 (S T : Nat → Prop) (m n : Ms) (vp vm ve up um ue : Value) (w : World) (hm : Ml S m vp vm ve w) (hn : Ml T n up um ue w) (h1 : Few9 m) (h2 : Few9 n) (q0 : m.kd = n.kd) (q1 : m.pe = n.pe) (q2 : ¬ m.hp = n.hp) :
    Calls Tryz.prog 19 #[.agg #[.int .i64 m.kd, .int .i64 m.pe, .int .i64 m.hp, .bool m.hi, vp, .int .i64 m.nu, .int .u64 (m.su : Int), .int .i64 m.mr.a.c, .int .i64 m.mr.a.s, .string m.mr.k, vm, ve], .agg #[.int .i64 n.kd, .int .i64 n.pe, .int .i64 n.hp, .bool n.hi, up, .int .i64 n.nu, .int .u64 (n.su : Int), .int .i64 n.mr.a.c, .int .i64 n.mr.a.s, .string n.mr.k, um, ue]] w fun e w' => e = .returned (.bool false) ∧ Only none_ w w' := by
  obtain ⟨⟨A1, c1, ea1, _⟩, ⟨B1, d1, eb1, _⟩, ⟨C1, e1, ec1, _⟩⟩ := id hm
  obtain ⟨⟨A2, c2, ea2, _⟩, ⟨B2, d2, eb2, _⟩, ⟨C2, e2, ec2, _⟩⟩ := id hn
  subst ea1 eb1 ec1 ea2 eb2 ec2
  have OB := Lib.hid (((Only.refl none_ w).alloc (.cells #[.int .i64 m.kd, .int .i64 m.pe, .int .i64 m.hp, .bool m.hi, .slice A1 m.ps.length c1, .int .i64 m.nu, .int .u64 (m.su : Int), .int .i64 m.mr.a.c, .int .i64 m.mr.a.s, .string m.mr.k, .slice B1 m.ms.length d1, .slice C1 m.es.length e1] 45)).alloc (.cells #[.int .i64 n.kd, .int .i64 n.pe, .int .i64 n.hp, .bool n.hi, .slice A2 n.ps.length c2, .int .i64 n.nu, .int .u64 (n.su : Int), .int .i64 n.mr.a.c, .int .i64 n.mr.a.s, .string n.mr.k, .slice B2 n.ms.length d2, .slice C2 n.es.length e2] 45))
  have HM := Lib.hid (fun (w' : World) (o : Only none_ w w') => hm.keep o)
  have HN := Lib.hid (fun (w' : World) (o : Only none_ w w') => hn.keep o)
  have H1 := Lib.hid h1
  have H2 := Lib.hid h2
  have XB1 : Hid (Blk ((w.alloc (.cells #[.int .i64 m.kd, .int .i64 m.pe, .int .i64 m.hp, .bool m.hi, .slice A1 m.ps.length c1, .int .i64 m.nu, .int .u64 (m.su : Int), .int .i64 m.mr.a.c, .int .i64 m.mr.a.s, .string m.mr.k, .slice B1 m.ms.length d1, .slice C1 m.es.length e1] 45)).alloc (.cells #[.int .i64 n.kd, .int .i64 n.pe, .int .i64 n.hp, .bool n.hi, .slice A2 n.ps.length c2, .int .i64 n.nu, .int .u64 (n.su : Int), .int .i64 n.mr.a.c, .int .i64 n.mr.a.s, .string n.mr.k, .slice B2 n.ms.length d2, .slice C2 n.es.length e2] 45)) w.heap.size 45 #[.int .i64 m.kd, .int .i64 m.pe, .int .i64 m.hp, .bool m.hi, .slice A1 m.ps.length c1, .int .i64 m.nu, .int .u64 (m.su : Int), .int .i64 m.mr.a.c, .int .i64 m.mr.a.s, .string m.mr.k, .slice B1 m.ms.length d1, .slice C1 m.es.length e1]) := (Blk.new w _ _).alloc _
  have XB2 : Hid (Blk ((w.alloc (.cells #[.int .i64 m.kd, .int .i64 m.pe, .int .i64 m.hp, .bool m.hi, .slice A1 m.ps.length c1, .int .i64 m.nu, .int .u64 (m.su : Int), .int .i64 m.mr.a.c, .int .i64 m.mr.a.s, .string m.mr.k, .slice B1 m.ms.length d1, .slice C1 m.es.length e1] 45)).alloc (.cells #[.int .i64 n.kd, .int .i64 n.pe, .int .i64 n.hp, .bool n.hi, .slice A2 n.ps.length c2, .int .i64 n.nu, .int .u64 (n.su : Int), .int .i64 n.mr.a.c, .int .i64 n.mr.a.s, .string n.mr.k, .slice B2 n.ms.length d2, .slice C2 n.es.length e2] 45)) (w.heap.size + 1) 45 #[.int .i64 n.kd, .int .i64 n.pe, .int .i64 n.hp, .bool n.hi, .slice A2 n.ps.length c2, .int .i64 n.nu, .int .u64 (n.su : Int), .int .i64 n.mr.a.c, .int .i64 n.mr.a.s, .string n.mr.k, .slice B2 n.ms.length d2, .slice C2 n.es.length e2]) := by have := Blk.new (w.alloc (.cells #[.int .i64 m.kd, .int .i64 m.pe, .int .i64 m.hp, .bool m.hi, .slice A1 m.ps.length c1, .int .i64 m.nu, .int .u64 (m.su : Int), .int .i64 m.mr.a.c, .int .i64 m.mr.a.s, .string m.mr.k, .slice B1 m.ms.length d1, .slice C1 m.es.length e1] 45)) 45 #[.int .i64 n.kd, .int .i64 n.pe, .int .i64 n.hp, .bool n.hi, .slice A2 n.ps.length c2, .int .i64 n.nu, .int .u64 (n.su : Int), .int .i64 n.mr.a.c, .int .i64 n.mr.a.s, .string n.mr.k, .slice B2 n.ms.length d2, .slice C2 n.es.length e2]; rwa [World.size_alloc] at this
  clear hm hn h1 h2
  have r0 : (m.kd == n.kd) = true := by simp [q0]
  clear q0
  have r1 : (m.pe == n.pe) = true := by simp [q1]
  clear q1
  have r2 : (m.hp == n.hp) = false := by simp [q2]
  clear q2
  go_enter Tryz.func19, Tryz.ntmps19
  go_wp2_with fail
  go_ret
  exact ⟨rfl, OB.out⟩
set_option maxHeartbeats 6400000 in
theorem wi_wdiff3 (S T : Nat → Prop) (m n : Ms) (vp vm ve up um ue : Value) (w : World) (hm : Ml S m vp vm ve w) (hn : Ml T n up um ue w) (h1 : Few9 m) (h2 : Few9 n) (q0 : m.kd = n.kd) (q1 : m.pe = n.pe) (q2 : m.hp = n.hp) (q3 : ¬ m.hi = n.hi) :
    Calls Tryz.prog 19 #[.agg #[.int .i64 m.kd, .int .i64 m.pe, .int .i64 m.hp, .bool m.hi, vp, .int .i64 m.nu, .int .u64 (m.su : Int), .int .i64 m.mr.a.c, .int .i64 m.mr.a.s, .string m.mr.k, vm, ve], .agg #[.int .i64 n.kd, .int .i64 n.pe, .int .i64 n.hp, .bool n.hi, up, .int .i64 n.nu, .int .u64 (n.su : Int), .int .i64 n.mr.a.c, .int .i64 n.mr.a.s, .string n.mr.k, um, ue]] w fun e w' => e = .returned (.bool false) ∧ Only none_ w w' := by
  obtain ⟨⟨A1, c1, ea1, _⟩, ⟨B1, d1, eb1, _⟩, ⟨C1, e1, ec1, _⟩⟩ := id hm
  obtain ⟨⟨A2, c2, ea2, _⟩, ⟨B2, d2, eb2, _⟩, ⟨C2, e2, ec2, _⟩⟩ := id hn
  subst ea1 eb1 ec1 ea2 eb2 ec2
  have OB := Lib.hid (((Only.refl none_ w).alloc (.cells #[.int .i64 m.kd, .int .i64 m.pe, .int .i64 m.hp, .bool m.hi, .slice A1 m.ps.length c1, .int .i64 m.nu, .int .u64 (m.su : Int), .int .i64 m.mr.a.c, .int .i64 m.mr.a.s, .string m.mr.k, .slice B1 m.ms.length d1, .slice C1 m.es.length e1] 45)).alloc (.cells #[.int .i64 n.kd, .int .i64 n.pe, .int .i64 n.hp, .bool n.hi, .slice A2 n.ps.length c2, .int .i64 n.nu, .int .u64 (n.su : Int), .int .i64 n.mr.a.c, .int .i64 n.mr.a.s, .string n.mr.k, .slice B2 n.ms.length d2, .slice C2 n.es.length e2] 45))
  have HM := Lib.hid (fun (w' : World) (o : Only none_ w w') => hm.keep o)
  have HN := Lib.hid (fun (w' : World) (o : Only none_ w w') => hn.keep o)
  have H1 := Lib.hid h1
  have H2 := Lib.hid h2
  have XB1 : Hid (Blk ((w.alloc (.cells #[.int .i64 m.kd, .int .i64 m.pe, .int .i64 m.hp, .bool m.hi, .slice A1 m.ps.length c1, .int .i64 m.nu, .int .u64 (m.su : Int), .int .i64 m.mr.a.c, .int .i64 m.mr.a.s, .string m.mr.k, .slice B1 m.ms.length d1, .slice C1 m.es.length e1] 45)).alloc (.cells #[.int .i64 n.kd, .int .i64 n.pe, .int .i64 n.hp, .bool n.hi, .slice A2 n.ps.length c2, .int .i64 n.nu, .int .u64 (n.su : Int), .int .i64 n.mr.a.c, .int .i64 n.mr.a.s, .string n.mr.k, .slice B2 n.ms.length d2, .slice C2 n.es.length e2] 45)) w.heap.size 45 #[.int .i64 m.kd, .int .i64 m.pe, .int .i64 m.hp, .bool m.hi, .slice A1 m.ps.length c1, .int .i64 m.nu, .int .u64 (m.su : Int), .int .i64 m.mr.a.c, .int .i64 m.mr.a.s, .string m.mr.k, .slice B1 m.ms.length d1, .slice C1 m.es.length e1]) := (Blk.new w _ _).alloc _
  have XB2 : Hid (Blk ((w.alloc (.cells #[.int .i64 m.kd, .int .i64 m.pe, .int .i64 m.hp, .bool m.hi, .slice A1 m.ps.length c1, .int .i64 m.nu, .int .u64 (m.su : Int), .int .i64 m.mr.a.c, .int .i64 m.mr.a.s, .string m.mr.k, .slice B1 m.ms.length d1, .slice C1 m.es.length e1] 45)).alloc (.cells #[.int .i64 n.kd, .int .i64 n.pe, .int .i64 n.hp, .bool n.hi, .slice A2 n.ps.length c2, .int .i64 n.nu, .int .u64 (n.su : Int), .int .i64 n.mr.a.c, .int .i64 n.mr.a.s, .string n.mr.k, .slice B2 n.ms.length d2, .slice C2 n.es.length e2] 45)) (w.heap.size + 1) 45 #[.int .i64 n.kd, .int .i64 n.pe, .int .i64 n.hp, .bool n.hi, .slice A2 n.ps.length c2, .int .i64 n.nu, .int .u64 (n.su : Int), .int .i64 n.mr.a.c, .int .i64 n.mr.a.s, .string n.mr.k, .slice B2 n.ms.length d2, .slice C2 n.es.length e2]) := by have := Blk.new (w.alloc (.cells #[.int .i64 m.kd, .int .i64 m.pe, .int .i64 m.hp, .bool m.hi, .slice A1 m.ps.length c1, .int .i64 m.nu, .int .u64 (m.su : Int), .int .i64 m.mr.a.c, .int .i64 m.mr.a.s, .string m.mr.k, .slice B1 m.ms.length d1, .slice C1 m.es.length e1] 45)) 45 #[.int .i64 n.kd, .int .i64 n.pe, .int .i64 n.hp, .bool n.hi, .slice A2 n.ps.length c2, .int .i64 n.nu, .int .u64 (n.su : Int), .int .i64 n.mr.a.c, .int .i64 n.mr.a.s, .string n.mr.k, .slice B2 n.ms.length d2, .slice C2 n.es.length e2]; rwa [World.size_alloc] at this
  clear hm hn h1 h2
  have r0 : (m.kd == n.kd) = true := by simp [q0]
  clear q0
  have r1 : (m.pe == n.pe) = true := by simp [q1]
  clear q1
  have r2 : (m.hp == n.hp) = true := by simp [q2]
  clear q2
  obtain ⟨bm, hbm⟩ : ∃ b, m.hi = b := ⟨_, rfl⟩
  obtain ⟨bn, hbn⟩ : ∃ b, n.hi = b := ⟨_, rfl⟩
  rw [hbm, hbn] at q3
  rw [hbm, hbn] at OB XB1 XB2 ⊢
  clear hbm hbn
  cases bm <;> cases bn
  · exact absurd rfl q3
  · clear q3
    go_enter Tryz.func19, Tryz.ntmps19
    go_wp2_with fail
    go_ret
    exact ⟨rfl, OB.out⟩
  · clear q3
    go_enter Tryz.func19, Tryz.ntmps19
    go_wp2_with fail
    go_ret
    exact ⟨rfl, OB.out⟩
  · exact absurd rfl q3
set_option maxHeartbeats 6400000 in
theorem wi_wdiff4 (S T : Nat → Prop) (m n : Ms) (vp vm ve up um ue : Value) (w : World) (hm : Ml S m vp vm ve w) (hn : Ml T n up um ue w) (h1 : Few9 m) (h2 : Few9 n) (q0 : m.kd = n.kd) (q1 : m.pe = n.pe) (q2 : m.hp = n.hp) (q3 : m.hi = n.hi) (q4 : ¬ m.nu = n.nu) :
    Calls Tryz.prog 19 #[.agg #[.int .i64 m.kd, .int .i64 m.pe, .int .i64 m.hp, .bool m.hi, vp, .int .i64 m.nu, .int .u64 (m.su : Int), .int .i64 m.mr.a.c, .int .i64 m.mr.a.s, .string m.mr.k, vm, ve], .agg #[.int .i64 n.kd, .int .i64 n.pe, .int .i64 n.hp, .bool n.hi, up, .int .i64 n.nu, .int .u64 (n.su : Int), .int .i64 n.mr.a.c, .int .i64 n.mr.a.s, .string n.mr.k, um, ue]] w fun e w' => e = .returned (.bool false) ∧ Only none_ w w' := by
  obtain ⟨⟨A1, c1, ea1, _⟩, ⟨B1, d1, eb1, _⟩, ⟨C1, e1, ec1, _⟩⟩ := id hm
  obtain ⟨⟨A2, c2, ea2, _⟩, ⟨B2, d2, eb2, _⟩, ⟨C2, e2, ec2, _⟩⟩ := id hn
  subst ea1 eb1 ec1 ea2 eb2 ec2
  have OB := Lib.hid (((Only.refl none_ w).alloc (.cells #[.int .i64 m.kd, .int .i64 m.pe, .int .i64 m.hp, .bool m.hi, .slice A1 m.ps.length c1, .int .i64 m.nu, .int .u64 (m.su : Int), .int .i64 m.mr.a.c, .int .i64 m.mr.a.s, .string m.mr.k, .slice B1 m.ms.length d1, .slice C1 m.es.length e1] 45)).alloc (.cells #[.int .i64 n.kd, .int .i64 n.pe, .int .i64 n.hp, .bool n.hi, .slice A2 n.ps.length c2, .int .i64 n.nu, .int .u64 (n.su : Int), .int .i64 n.mr.a.c, .int .i64 n.mr.a.s, .string n.mr.k, .slice B2 n.ms.length d2, .slice C2 n.es.length e2] 45))
  have HM := Lib.hid (fun (w' : World) (o : Only none_ w w') => hm.keep o)
  have HN := Lib.hid (fun (w' : World) (o : Only none_ w w') => hn.keep o)
  have H1 := Lib.hid h1
  have H2 := Lib.hid h2
  have XB1 : Hid (Blk ((w.alloc (.cells #[.int .i64 m.kd, .int .i64 m.pe, .int .i64 m.hp, .bool m.hi, .slice A1 m.ps.length c1, .int .i64 m.nu, .int .u64 (m.su : Int), .int .i64 m.mr.a.c, .int .i64 m.mr.a.s, .string m.mr.k, .slice B1 m.ms.length d1, .slice C1 m.es.length e1] 45)).alloc (.cells #[.int .i64 n.kd, .int .i64 n.pe, .int .i64 n.hp, .bool n.hi, .slice A2 n.ps.length c2, .int .i64 n.nu, .int .u64 (n.su : Int), .int .i64 n.mr.a.c, .int .i64 n.mr.a.s, .string n.mr.k, .slice B2 n.ms.length d2, .slice C2 n.es.length e2] 45)) w.heap.size 45 #[.int .i64 m.kd, .int .i64 m.pe, .int .i64 m.hp, .bool m.hi, .slice A1 m.ps.length c1, .int .i64 m.nu, .int .u64 (m.su : Int), .int .i64 m.mr.a.c, .int .i64 m.mr.a.s, .string m.mr.k, .slice B1 m.ms.length d1, .slice C1 m.es.length e1]) := (Blk.new w _ _).alloc _
  have XB2 : Hid (Blk ((w.alloc (.cells #[.int .i64 m.kd, .int .i64 m.pe, .int .i64 m.hp, .bool m.hi, .slice A1 m.ps.length c1, .int .i64 m.nu, .int .u64 (m.su : Int), .int .i64 m.mr.a.c, .int .i64 m.mr.a.s, .string m.mr.k, .slice B1 m.ms.length d1, .slice C1 m.es.length e1] 45)).alloc (.cells #[.int .i64 n.kd, .int .i64 n.pe, .int .i64 n.hp, .bool n.hi, .slice A2 n.ps.length c2, .int .i64 n.nu, .int .u64 (n.su : Int), .int .i64 n.mr.a.c, .int .i64 n.mr.a.s, .string n.mr.k, .slice B2 n.ms.length d2, .slice C2 n.es.length e2] 45)) (w.heap.size + 1) 45 #[.int .i64 n.kd, .int .i64 n.pe, .int .i64 n.hp, .bool n.hi, .slice A2 n.ps.length c2, .int .i64 n.nu, .int .u64 (n.su : Int), .int .i64 n.mr.a.c, .int .i64 n.mr.a.s, .string n.mr.k, .slice B2 n.ms.length d2, .slice C2 n.es.length e2]) := by have := Blk.new (w.alloc (.cells #[.int .i64 m.kd, .int .i64 m.pe, .int .i64 m.hp, .bool m.hi, .slice A1 m.ps.length c1, .int .i64 m.nu, .int .u64 (m.su : Int), .int .i64 m.mr.a.c, .int .i64 m.mr.a.s, .string m.mr.k, .slice B1 m.ms.length d1, .slice C1 m.es.length e1] 45)) 45 #[.int .i64 n.kd, .int .i64 n.pe, .int .i64 n.hp, .bool n.hi, .slice A2 n.ps.length c2, .int .i64 n.nu, .int .u64 (n.su : Int), .int .i64 n.mr.a.c, .int .i64 n.mr.a.s, .string n.mr.k, .slice B2 n.ms.length d2, .slice C2 n.es.length e2]; rwa [World.size_alloc] at this
  clear hm hn h1 h2
  have r0 : (m.kd == n.kd) = true := by simp [q0]
  clear q0
  have r1 : (m.pe == n.pe) = true := by simp [q1]
  clear q1
  have r2 : (m.hp == n.hp) = true := by simp [q2]
  clear q2
  rw [q3] at OB XB1 XB2 ⊢
  clear q3
  have r4 : (m.nu == n.nu) = false := by simp [q4]
  clear q4
  go_enter Tryz.func19, Tryz.ntmps19
  go_wp2_with fail
  go_ret
  exact ⟨rfl, OB.out⟩
set_option maxHeartbeats 6400000 in
theorem wi_wdiff5 (S T : Nat → Prop) (m n : Ms) (vp vm ve up um ue : Value) (w : World) (hm : Ml S m vp vm ve w) (hn : Ml T n up um ue w) (h1 : Few9 m) (h2 : Few9 n) (q0 : m.kd = n.kd) (q1 : m.pe = n.pe) (q2 : m.hp = n.hp) (q3 : m.hi = n.hi) (q4 : m.nu = n.nu) (q5 : ¬ m.su = n.su) :
    Calls Tryz.prog 19 #[.agg #[.int .i64 m.kd, .int .i64 m.pe, .int .i64 m.hp, .bool m.hi, vp, .int .i64 m.nu, .int .u64 (m.su : Int), .int .i64 m.mr.a.c, .int .i64 m.mr.a.s, .string m.mr.k, vm, ve], .agg #[.int .i64 n.kd, .int .i64 n.pe, .int .i64 n.hp, .bool n.hi, up, .int .i64 n.nu, .int .u64 (n.su : Int), .int .i64 n.mr.a.c, .int .i64 n.mr.a.s, .string n.mr.k, um, ue]] w fun e w' => e = .returned (.bool false) ∧ Only none_ w w' := by
  obtain ⟨⟨A1, c1, ea1, _⟩, ⟨B1, d1, eb1, _⟩, ⟨C1, e1, ec1, _⟩⟩ := id hm
  obtain ⟨⟨A2, c2, ea2, _⟩, ⟨B2, d2, eb2, _⟩, ⟨C2, e2, ec2, _⟩⟩ := id hn
  subst ea1 eb1 ec1 ea2 eb2 ec2
  have OB := Lib.hid (((Only.refl none_ w).alloc (.cells #[.int .i64 m.kd, .int .i64 m.pe, .int .i64 m.hp, .bool m.hi, .slice A1 m.ps.length c1, .int .i64 m.nu, .int .u64 (m.su : Int), .int .i64 m.mr.a.c, .int .i64 m.mr.a.s, .string m.mr.k, .slice B1 m.ms.length d1, .slice C1 m.es.length e1] 45)).alloc (.cells #[.int .i64 n.kd, .int .i64 n.pe, .int .i64 n.hp, .bool n.hi, .slice A2 n.ps.length c2, .int .i64 n.nu, .int .u64 (n.su : Int), .int .i64 n.mr.a.c, .int .i64 n.mr.a.s, .string n.mr.k, .slice B2 n.ms.length d2, .slice C2 n.es.length e2] 45))
  have HM := Lib.hid (fun (w' : World) (o : Only none_ w w') => hm.keep o)
  have HN := Lib.hid (fun (w' : World) (o : Only none_ w w') => hn.keep o)
  have H1 := Lib.hid h1
  have H2 := Lib.hid h2
  have XB1 : Hid (Blk ((w.alloc (.cells #[.int .i64 m.kd, .int .i64 m.pe, .int .i64 m.hp, .bool m.hi, .slice A1 m.ps.length c1, .int .i64 m.nu, .int .u64 (m.su : Int), .int .i64 m.mr.a.c, .int .i64 m.mr.a.s, .string m.mr.k, .slice B1 m.ms.length d1, .slice C1 m.es.length e1] 45)).alloc (.cells #[.int .i64 n.kd, .int .i64 n.pe, .int .i64 n.hp, .bool n.hi, .slice A2 n.ps.length c2, .int .i64 n.nu, .int .u64 (n.su : Int), .int .i64 n.mr.a.c, .int .i64 n.mr.a.s, .string n.mr.k, .slice B2 n.ms.length d2, .slice C2 n.es.length e2] 45)) w.heap.size 45 #[.int .i64 m.kd, .int .i64 m.pe, .int .i64 m.hp, .bool m.hi, .slice A1 m.ps.length c1, .int .i64 m.nu, .int .u64 (m.su : Int), .int .i64 m.mr.a.c, .int .i64 m.mr.a.s, .string m.mr.k, .slice B1 m.ms.length d1, .slice C1 m.es.length e1]) := (Blk.new w _ _).alloc _
  have XB2 : Hid (Blk ((w.alloc (.cells #[.int .i64 m.kd, .int .i64 m.pe, .int .i64 m.hp, .bool m.hi, .slice A1 m.ps.length c1, .int .i64 m.nu, .int .u64 (m.su : Int), .int .i64 m.mr.a.c, .int .i64 m.mr.a.s, .string m.mr.k, .slice B1 m.ms.length d1, .slice C1 m.es.length e1] 45)).alloc (.cells #[.int .i64 n.kd, .int .i64 n.pe, .int .i64 n.hp, .bool n.hi, .slice A2 n.ps.length c2, .int .i64 n.nu, .int .u64 (n.su : Int), .int .i64 n.mr.a.c, .int .i64 n.mr.a.s, .string n.mr.k, .slice B2 n.ms.length d2, .slice C2 n.es.length e2] 45)) (w.heap.size + 1) 45 #[.int .i64 n.kd, .int .i64 n.pe, .int .i64 n.hp, .bool n.hi, .slice A2 n.ps.length c2, .int .i64 n.nu, .int .u64 (n.su : Int), .int .i64 n.mr.a.c, .int .i64 n.mr.a.s, .string n.mr.k, .slice B2 n.ms.length d2, .slice C2 n.es.length e2]) := by have := Blk.new (w.alloc (.cells #[.int .i64 m.kd, .int .i64 m.pe, .int .i64 m.hp, .bool m.hi, .slice A1 m.ps.length c1, .int .i64 m.nu, .int .u64 (m.su : Int), .int .i64 m.mr.a.c, .int .i64 m.mr.a.s, .string m.mr.k, .slice B1 m.ms.length d1, .slice C1 m.es.length e1] 45)) 45 #[.int .i64 n.kd, .int .i64 n.pe, .int .i64 n.hp, .bool n.hi, .slice A2 n.ps.length c2, .int .i64 n.nu, .int .u64 (n.su : Int), .int .i64 n.mr.a.c, .int .i64 n.mr.a.s, .string n.mr.k, .slice B2 n.ms.length d2, .slice C2 n.es.length e2]; rwa [World.size_alloc] at this
  clear hm hn h1 h2
  have r0 : (m.kd == n.kd) = true := by simp [q0]
  clear q0
  have r1 : (m.pe == n.pe) = true := by simp [q1]
  clear q1
  have r2 : (m.hp == n.hp) = true := by simp [q2]
  clear q2
  rw [q3] at OB XB1 XB2 ⊢
  clear q3
  have r4 : (m.nu == n.nu) = true := by simp [q4]
  clear q4
  have r5 : ((m.su : Int) == (n.su : Int)) = false := beq_eq_false_iff_ne.2 (fun h => q5 (Int.ofNat_inj.1 h))
  clear q5
  go_enter Tryz.func19, Tryz.ntmps19
  go_wp2_with fail
  go_ret
  exact ⟨rfl, OB.out⟩
set_option maxHeartbeats 6400000 in
theorem wi_wdiff6 (S T : Nat → Prop) (m n : Ms) (vp vm ve up um ue : Value) (w : World) (hm : Ml S m vp vm ve w) (hn : Ml T n up um ue w) (h1 : Few9 m) (h2 : Few9 n) (q0 : m.kd = n.kd) (q1 : m.pe = n.pe) (q2 : m.hp = n.hp) (q3 : m.hi = n.hi) (q4 : m.nu = n.nu) (q5 : m.su = n.su) (q6 : ¬ m.mr = n.mr) :
    Calls Tryz.prog 19 #[.agg #[.int .i64 m.kd, .int .i64 m.pe, .int .i64 m.hp, .bool m.hi, vp, .int .i64 m.nu, .int .u64 (m.su : Int), .int .i64 m.mr.a.c, .int .i64 m.mr.a.s, .string m.mr.k, vm, ve], .agg #[.int .i64 n.kd, .int .i64 n.pe, .int .i64 n.hp, .bool n.hi, up, .int .i64 n.nu, .int .u64 (n.su : Int), .int .i64 n.mr.a.c, .int .i64 n.mr.a.s, .string n.mr.k, um, ue]] w fun e w' => e = .returned (.bool false) ∧ Only none_ w w' := by
  obtain ⟨⟨A1, c1, ea1, _⟩, ⟨B1, d1, eb1, _⟩, ⟨C1, e1, ec1, _⟩⟩ := id hm
  obtain ⟨⟨A2, c2, ea2, _⟩, ⟨B2, d2, eb2, _⟩, ⟨C2, e2, ec2, _⟩⟩ := id hn
  subst ea1 eb1 ec1 ea2 eb2 ec2
  have OB := Lib.hid (((Only.refl none_ w).alloc (.cells #[.int .i64 m.kd, .int .i64 m.pe, .int .i64 m.hp, .bool m.hi, .slice A1 m.ps.length c1, .int .i64 m.nu, .int .u64 (m.su : Int), .int .i64 m.mr.a.c, .int .i64 m.mr.a.s, .string m.mr.k, .slice B1 m.ms.length d1, .slice C1 m.es.length e1] 45)).alloc (.cells #[.int .i64 n.kd, .int .i64 n.pe, .int .i64 n.hp, .bool n.hi, .slice A2 n.ps.length c2, .int .i64 n.nu, .int .u64 (n.su : Int), .int .i64 n.mr.a.c, .int .i64 n.mr.a.s, .string n.mr.k, .slice B2 n.ms.length d2, .slice C2 n.es.length e2] 45))
  have HM := Lib.hid (fun (w' : World) (o : Only none_ w w') => hm.keep o)
  have HN := Lib.hid (fun (w' : World) (o : Only none_ w w') => hn.keep o)
  have H1 := Lib.hid h1
  have H2 := Lib.hid h2
  have XB1 : Hid (Blk ((w.alloc (.cells #[.int .i64 m.kd, .int .i64 m.pe, .int .i64 m.hp, .bool m.hi, .slice A1 m.ps.length c1, .int .i64 m.nu, .int .u64 (m.su : Int), .int .i64 m.mr.a.c, .int .i64 m.mr.a.s, .string m.mr.k, .slice B1 m.ms.length d1, .slice C1 m.es.length e1] 45)).alloc (.cells #[.int .i64 n.kd, .int .i64 n.pe, .int .i64 n.hp, .bool n.hi, .slice A2 n.ps.length c2, .int .i64 n.nu, .int .u64 (n.su : Int), .int .i64 n.mr.a.c, .int .i64 n.mr.a.s, .string n.mr.k, .slice B2 n.ms.length d2, .slice C2 n.es.length e2] 45)) w.heap.size 45 #[.int .i64 m.kd, .int .i64 m.pe, .int .i64 m.hp, .bool m.hi, .slice A1 m.ps.length c1, .int .i64 m.nu, .int .u64 (m.su : Int), .int .i64 m.mr.a.c, .int .i64 m.mr.a.s, .string m.mr.k, .slice B1 m.ms.length d1, .slice C1 m.es.length e1]) := (Blk.new w _ _).alloc _
  have XB2 : Hid (Blk ((w.alloc (.cells #[.int .i64 m.kd, .int .i64 m.pe, .int .i64 m.hp, .bool m.hi, .slice A1 m.ps.length c1, .int .i64 m.nu, .int .u64 (m.su : Int), .int .i64 m.mr.a.c, .int .i64 m.mr.a.s, .string m.mr.k, .slice B1 m.ms.length d1, .slice C1 m.es.length e1] 45)).alloc (.cells #[.int .i64 n.kd, .int .i64 n.pe, .int .i64 n.hp, .bool n.hi, .slice A2 n.ps.length c2, .int .i64 n.nu, .int .u64 (n.su : Int), .int .i64 n.mr.a.c, .int .i64 n.mr.a.s, .string n.mr.k, .slice B2 n.ms.length d2, .slice C2 n.es.length e2] 45)) (w.heap.size + 1) 45 #[.int .i64 n.kd, .int .i64 n.pe, .int .i64 n.hp, .bool n.hi, .slice A2 n.ps.length c2, .int .i64 n.nu, .int .u64 (n.su : Int), .int .i64 n.mr.a.c, .int .i64 n.mr.a.s, .string n.mr.k, .slice B2 n.ms.length d2, .slice C2 n.es.length e2]) := by have := Blk.new (w.alloc (.cells #[.int .i64 m.kd, .int .i64 m.pe, .int .i64 m.hp, .bool m.hi, .slice A1 m.ps.length c1, .int .i64 m.nu, .int .u64 (m.su : Int), .int .i64 m.mr.a.c, .int .i64 m.mr.a.s, .string m.mr.k, .slice B1 m.ms.length d1, .slice C1 m.es.length e1] 45)) 45 #[.int .i64 n.kd, .int .i64 n.pe, .int .i64 n.hp, .bool n.hi, .slice A2 n.ps.length c2, .int .i64 n.nu, .int .u64 (n.su : Int), .int .i64 n.mr.a.c, .int .i64 n.mr.a.s, .string n.mr.k, .slice B2 n.ms.length d2, .slice C2 n.es.length e2]; rwa [World.size_alloc] at this
  clear hm hn h1 h2
  have r0 : (m.kd == n.kd) = true := by simp [q0]
  clear q0
  have r1 : (m.pe == n.pe) = true := by simp [q1]
  clear q1
  have r2 : (m.hp == n.hp) = true := by simp [q2]
  clear q2
  rw [q3] at OB XB1 XB2 ⊢
  clear q3
  have r4 : (m.nu == n.nu) = true := by simp [q4]
  clear q4
  have r5 : ((m.su : Int) == (n.su : Int)) = true := by simp [q5]
  clear q5
  have r6 := fun w => eqlA w m.mr n.mr
  rw [show mkSame m.mr n.mr = false from by rw [Bool.eq_false_iff]; exact fun h => q6 ((mkSame_iff _ _).1 h)] at r6
  clear q6
  go_enter Tryz.func19, Tryz.ntmps19
  go_wp2_with fail
  go_ret
  exact ⟨rfl, OB.out⟩
set_option maxHeartbeats 6400000 in
theorem wi_wdiff7 (S T : Nat → Prop) (m n : Ms) (vp vm ve up um ue : Value) (w : World) (hm : Ml S m vp vm ve w) (hn : Ml T n up um ue w) (h1 : Few9 m) (h2 : Few9 n) (q0 : m.kd = n.kd) (q1 : m.pe = n.pe) (q2 : m.hp = n.hp) (q3 : m.hi = n.hi) (q4 : m.nu = n.nu) (q5 : m.su = n.su) (q6 : m.mr = n.mr)  (q7 : ¬ m.ps = n.ps) :
    Calls Tryz.prog 19 #[.agg #[.int .i64 m.kd, .int .i64 m.pe, .int .i64 m.hp, .bool m.hi, vp, .int .i64 m.nu, .int .u64 (m.su : Int), .int .i64 m.mr.a.c, .int .i64 m.mr.a.s, .string m.mr.k, vm, ve], .agg #[.int .i64 n.kd, .int .i64 n.pe, .int .i64 n.hp, .bool n.hi, up, .int .i64 n.nu, .int .u64 (n.su : Int), .int .i64 n.mr.a.c, .int .i64 n.mr.a.s, .string n.mr.k, um, ue]] w fun e w' => e = .returned (.bool false) ∧ Only none_ w w' := by
  obtain ⟨⟨A1, c1, ea1, _⟩, ⟨B1, d1, eb1, _⟩, ⟨C1, e1, ec1, _⟩⟩ := id hm
  obtain ⟨⟨A2, c2, ea2, _⟩, ⟨B2, d2, eb2, _⟩, ⟨C2, e2, ec2, _⟩⟩ := id hn
  subst ea1 eb1 ec1 ea2 eb2 ec2
  have OB := Lib.hid (((Only.refl none_ w).alloc (.cells #[.int .i64 m.kd, .int .i64 m.pe, .int .i64 m.hp, .bool m.hi, .slice A1 m.ps.length c1, .int .i64 m.nu, .int .u64 (m.su : Int), .int .i64 m.mr.a.c, .int .i64 m.mr.a.s, .string m.mr.k, .slice B1 m.ms.length d1, .slice C1 m.es.length e1] 45)).alloc (.cells #[.int .i64 n.kd, .int .i64 n.pe, .int .i64 n.hp, .bool n.hi, .slice A2 n.ps.length c2, .int .i64 n.nu, .int .u64 (n.su : Int), .int .i64 n.mr.a.c, .int .i64 n.mr.a.s, .string n.mr.k, .slice B2 n.ms.length d2, .slice C2 n.es.length e2] 45))
  have HM := Lib.hid (fun (w' : World) (o : Only none_ w w') => hm.keep o)
  have HN := Lib.hid (fun (w' : World) (o : Only none_ w w') => hn.keep o)
  have H1 := Lib.hid h1
  have H2 := Lib.hid h2
  have XB1 : Hid (Blk ((w.alloc (.cells #[.int .i64 m.kd, .int .i64 m.pe, .int .i64 m.hp, .bool m.hi, .slice A1 m.ps.length c1, .int .i64 m.nu, .int .u64 (m.su : Int), .int .i64 m.mr.a.c, .int .i64 m.mr.a.s, .string m.mr.k, .slice B1 m.ms.length d1, .slice C1 m.es.length e1] 45)).alloc (.cells #[.int .i64 n.kd, .int .i64 n.pe, .int .i64 n.hp, .bool n.hi, .slice A2 n.ps.length c2, .int .i64 n.nu, .int .u64 (n.su : Int), .int .i64 n.mr.a.c, .int .i64 n.mr.a.s, .string n.mr.k, .slice B2 n.ms.length d2, .slice C2 n.es.length e2] 45)) w.heap.size 45 #[.int .i64 m.kd, .int .i64 m.pe, .int .i64 m.hp, .bool m.hi, .slice A1 m.ps.length c1, .int .i64 m.nu, .int .u64 (m.su : Int), .int .i64 m.mr.a.c, .int .i64 m.mr.a.s, .string m.mr.k, .slice B1 m.ms.length d1, .slice C1 m.es.length e1]) := (Blk.new w _ _).alloc _
  have XB2 : Hid (Blk ((w.alloc (.cells #[.int .i64 m.kd, .int .i64 m.pe, .int .i64 m.hp, .bool m.hi, .slice A1 m.ps.length c1, .int .i64 m.nu, .int .u64 (m.su : Int), .int .i64 m.mr.a.c, .int .i64 m.mr.a.s, .string m.mr.k, .slice B1 m.ms.length d1, .slice C1 m.es.length e1] 45)).alloc (.cells #[.int .i64 n.kd, .int .i64 n.pe, .int .i64 n.hp, .bool n.hi, .slice A2 n.ps.length c2, .int .i64 n.nu, .int .u64 (n.su : Int), .int .i64 n.mr.a.c, .int .i64 n.mr.a.s, .string n.mr.k, .slice B2 n.ms.length d2, .slice C2 n.es.length e2] 45)) (w.heap.size + 1) 45 #[.int .i64 n.kd, .int .i64 n.pe, .int .i64 n.hp, .bool n.hi, .slice A2 n.ps.length c2, .int .i64 n.nu, .int .u64 (n.su : Int), .int .i64 n.mr.a.c, .int .i64 n.mr.a.s, .string n.mr.k, .slice B2 n.ms.length d2, .slice C2 n.es.length e2]) := by have := Blk.new (w.alloc (.cells #[.int .i64 m.kd, .int .i64 m.pe, .int .i64 m.hp, .bool m.hi, .slice A1 m.ps.length c1, .int .i64 m.nu, .int .u64 (m.su : Int), .int .i64 m.mr.a.c, .int .i64 m.mr.a.s, .string m.mr.k, .slice B1 m.ms.length d1, .slice C1 m.es.length e1] 45)) 45 #[.int .i64 n.kd, .int .i64 n.pe, .int .i64 n.hp, .bool n.hi, .slice A2 n.ps.length c2, .int .i64 n.nu, .int .u64 (n.su : Int), .int .i64 n.mr.a.c, .int .i64 n.mr.a.s, .string n.mr.k, .slice B2 n.ms.length d2, .slice C2 n.es.length e2]; rwa [World.size_alloc] at this
  clear hm hn h1 h2
  have r0 : (m.kd == n.kd) = true := by simp [q0]
  clear q0
  have r1 : (m.pe == n.pe) = true := by simp [q1]
  clear q1
  have r2 : (m.hp == n.hp) = true := by simp [q2]
  clear q2
  rw [q3] at OB XB1 XB2 ⊢
  clear q3
  have r4 : (m.nu == n.nu) = true := by simp [q4]
  clear q4
  have r5 : ((m.su : Int) == (n.su : Int)) = true := by simp [q5]
  clear q5
  have r6 := fun w => eqlA w m.mr n.mr
  rw [show mkSame m.mr n.mr = true from (mkSame_iff _ _).2 q6] at r6
  clear q6
  have QN := Lib.hid q7
  clear q7
  go_enter Tryz.func19, Tryz.ntmps19
  go_wp2_with (first
    | (go_at_call 68; refine (pl_int S T m.ps n.ps _ _ _ (HM.out _ OB.out).p (HN.out _ OB.out).p ⟨H1.out.1, H2.out.1⟩).mono ?_; rintro E w3 ⟨b, rfl, hb, o0⟩; obtain rfl : b = false := by rw [Bool.eq_false_iff]; exact fun h => QN.out (hb.1 h)
       clear hb
       have O0 := Lib.hid (OB.out.trans o0)
       have P0 := Lib.hid ((Only.refl none_ _).trans o0)
       have k0x10 := (XB1.out.only P0.out (fun h => h)).cell_ (i := 10) rfl
       have k0x11 := (XB1.out.only P0.out (fun h => h)).cell_ (i := 11) rfl
       have k0y10 := (XB2.out.only P0.out (fun h => h)).cell_ (i := 10) rfl
       have k0y11 := (XB2.out.only P0.out (fun h => h)).cell_ (i := 11) rfl
       clear o0))
  go_ret
  exact ⟨rfl, O0.out⟩
set_option maxHeartbeats 6400000 in
theorem wi_wdiff8 (S T : Nat → Prop) (m n : Ms) (vp vm ve up um ue : Value) (w : World) (hm : Ml S m vp vm ve w) (hn : Ml T n up um ue w) (h1 : Few9 m) (h2 : Few9 n) (q0 : m.kd = n.kd) (q1 : m.pe = n.pe) (q2 : m.hp = n.hp) (q3 : m.hi = n.hi) (q4 : m.nu = n.nu) (q5 : m.su = n.su) (q6 : m.mr = n.mr) (q7 : m.ps = n.ps) (q8 : ¬ m.ms = n.ms) :
    Calls Tryz.prog 19 #[.agg #[.int .i64 m.kd, .int .i64 m.pe, .int .i64 m.hp, .bool m.hi, vp, .int .i64 m.nu, .int .u64 (m.su : Int), .int .i64 m.mr.a.c, .int .i64 m.mr.a.s, .string m.mr.k, vm, ve], .agg #[.int .i64 n.kd, .int .i64 n.pe, .int .i64 n.hp, .bool n.hi, up, .int .i64 n.nu, .int .u64 (n.su : Int), .int .i64 n.mr.a.c, .int .i64 n.mr.a.s, .string n.mr.k, um, ue]] w fun e w' => e = .returned (.bool false) ∧ Only none_ w w' := by
  obtain ⟨⟨A1, c1, ea1, _⟩, ⟨B1, d1, eb1, _⟩, ⟨C1, e1, ec1, _⟩⟩ := id hm
  obtain ⟨⟨A2, c2, ea2, _⟩, ⟨B2, d2, eb2, _⟩, ⟨C2, e2, ec2, _⟩⟩ := id hn
  subst ea1 eb1 ec1 ea2 eb2 ec2
  have OB := Lib.hid (((Only.refl none_ w).alloc (.cells #[.int .i64 m.kd, .int .i64 m.pe, .int .i64 m.hp, .bool m.hi, .slice A1 m.ps.length c1, .int .i64 m.nu, .int .u64 (m.su : Int), .int .i64 m.mr.a.c, .int .i64 m.mr.a.s, .string m.mr.k, .slice B1 m.ms.length d1, .slice C1 m.es.length e1] 45)).alloc (.cells #[.int .i64 n.kd, .int .i64 n.pe, .int .i64 n.hp, .bool n.hi, .slice A2 n.ps.length c2, .int .i64 n.nu, .int .u64 (n.su : Int), .int .i64 n.mr.a.c, .int .i64 n.mr.a.s, .string n.mr.k, .slice B2 n.ms.length d2, .slice C2 n.es.length e2] 45))
  have HM := Lib.hid (fun (w' : World) (o : Only none_ w w') => hm.keep o)
  have HN := Lib.hid (fun (w' : World) (o : Only none_ w w') => hn.keep o)
  have H1 := Lib.hid h1
  have H2 := Lib.hid h2
  have XB1 : Hid (Blk ((w.alloc (.cells #[.int .i64 m.kd, .int .i64 m.pe, .int .i64 m.hp, .bool m.hi, .slice A1 m.ps.length c1, .int .i64 m.nu, .int .u64 (m.su : Int), .int .i64 m.mr.a.c, .int .i64 m.mr.a.s, .string m.mr.k, .slice B1 m.ms.length d1, .slice C1 m.es.length e1] 45)).alloc (.cells #[.int .i64 n.kd, .int .i64 n.pe, .int .i64 n.hp, .bool n.hi, .slice A2 n.ps.length c2, .int .i64 n.nu, .int .u64 (n.su : Int), .int .i64 n.mr.a.c, .int .i64 n.mr.a.s, .string n.mr.k, .slice B2 n.ms.length d2, .slice C2 n.es.length e2] 45)) w.heap.size 45 #[.int .i64 m.kd, .int .i64 m.pe, .int .i64 m.hp, .bool m.hi, .slice A1 m.ps.length c1, .int .i64 m.nu, .int .u64 (m.su : Int), .int .i64 m.mr.a.c, .int .i64 m.mr.a.s, .string m.mr.k, .slice B1 m.ms.length d1, .slice C1 m.es.length e1]) := (Blk.new w _ _).alloc _
  have XB2 : Hid (Blk ((w.alloc (.cells #[.int .i64 m.kd, .int .i64 m.pe, .int .i64 m.hp, .bool m.hi, .slice A1 m.ps.length c1, .int .i64 m.nu, .int .u64 (m.su : Int), .int .i64 m.mr.a.c, .int .i64 m.mr.a.s, .string m.mr.k, .slice B1 m.ms.length d1, .slice C1 m.es.length e1] 45)).alloc (.cells #[.int .i64 n.kd, .int .i64 n.pe, .int .i64 n.hp, .bool n.hi, .slice A2 n.ps.length c2, .int .i64 n.nu, .int .u64 (n.su : Int), .int .i64 n.mr.a.c, .int .i64 n.mr.a.s, .string n.mr.k, .slice B2 n.ms.length d2, .slice C2 n.es.length e2] 45)) (w.heap.size + 1) 45 #[.int .i64 n.kd, .int .i64 n.pe, .int .i64 n.hp, .bool n.hi, .slice A2 n.ps.length c2, .int .i64 n.nu, .int .u64 (n.su : Int), .int .i64 n.mr.a.c, .int .i64 n.mr.a.s, .string n.mr.k, .slice B2 n.ms.length d2, .slice C2 n.es.length e2]) := by have := Blk.new (w.alloc (.cells #[.int .i64 m.kd, .int .i64 m.pe, .int .i64 m.hp, .bool m.hi, .slice A1 m.ps.length c1, .int .i64 m.nu, .int .u64 (m.su : Int), .int .i64 m.mr.a.c, .int .i64 m.mr.a.s, .string m.mr.k, .slice B1 m.ms.length d1, .slice C1 m.es.length e1] 45)) 45 #[.int .i64 n.kd, .int .i64 n.pe, .int .i64 n.hp, .bool n.hi, .slice A2 n.ps.length c2, .int .i64 n.nu, .int .u64 (n.su : Int), .int .i64 n.mr.a.c, .int .i64 n.mr.a.s, .string n.mr.k, .slice B2 n.ms.length d2, .slice C2 n.es.length e2]; rwa [World.size_alloc] at this
  clear hm hn h1 h2
  have r0 : (m.kd == n.kd) = true := by simp [q0]
  clear q0
  have r1 : (m.pe == n.pe) = true := by simp [q1]
  clear q1
  have r2 : (m.hp == n.hp) = true := by simp [q2]
  clear q2
  rw [q3] at OB XB1 XB2 ⊢
  clear q3
  have r4 : (m.nu == n.nu) = true := by simp [q4]
  clear q4
  have r5 : ((m.su : Int) == (n.su : Int)) = true := by simp [q5]
  clear q5
  have r6 := fun w => eqlA w m.mr n.mr
  rw [show mkSame m.mr n.mr = true from (mkSame_iff _ _).2 q6] at r6
  clear q6
  have Q7 := Lib.hid q7
  clear q7
  have QN := Lib.hid q8
  clear q8
  go_enter Tryz.func19, Tryz.ntmps19
  go_wp2_with (first
    | (go_at_call 68; refine (pl_int S T m.ps n.ps _ _ _ (HM.out _ OB.out).p (HN.out _ OB.out).p ⟨H1.out.1, H2.out.1⟩).mono ?_; rintro E w3 ⟨b, rfl, hb, o0⟩; obtain rfl : b = true := hb.2 Q7.out
       clear hb
       have O0 := Lib.hid (OB.out.trans o0)
       have P0 := Lib.hid ((Only.refl none_ _).trans o0)
       have k0x10 := (XB1.out.only P0.out (fun h => h)).cell_ (i := 10) rfl
       have k0x11 := (XB1.out.only P0.out (fun h => h)).cell_ (i := 11) rfl
       have k0y10 := (XB2.out.only P0.out (fun h => h)).cell_ (i := 10) rfl
       have k0y11 := (XB2.out.only P0.out (fun h => h)).cell_ (i := 11) rfl
       clear o0)
    | (go_at_call 69; refine (pl_mk S T m.ms n.ms _ _ _ (HM.out _ O0.out).q (HN.out _ O0.out).q ⟨H1.out.2.1, H2.out.2.1⟩).mono ?_; rintro E w4 ⟨b, rfl, hb, o1⟩; obtain rfl : b = false := by rw [Bool.eq_false_iff]; exact fun h => QN.out (hb.1 h)
       clear hb
       have O1 := Lib.hid (O0.out.trans o1)
       have P1 := Lib.hid (P0.out.trans o1)
       have k1x10 := (XB1.out.only P1.out (fun h => h)).cell_ (i := 10) rfl
       have k1x11 := (XB1.out.only P1.out (fun h => h)).cell_ (i := 11) rfl
       have k1y10 := (XB2.out.only P1.out (fun h => h)).cell_ (i := 10) rfl
       have k1y11 := (XB2.out.only P1.out (fun h => h)).cell_ (i := 11) rfl
       clear o1))
  go_ret
  exact ⟨rfl, O1.out⟩
set_option maxHeartbeats 6400000 in
theorem wi_wdiff9 (S T : Nat → Prop) (m n : Ms) (vp vm ve up um ue : Value) (w : World) (hm : Ml S m vp vm ve w) (hn : Ml T n up um ue w) (h1 : Few9 m) (h2 : Few9 n) (q0 : m.kd = n.kd) (q1 : m.pe = n.pe) (q2 : m.hp = n.hp) (q3 : m.hi = n.hi) (q4 : m.nu = n.nu) (q5 : m.su = n.su) (q6 : m.mr = n.mr) (q7 : m.ps = n.ps) (q8 : m.ms = n.ms) (q9 : ¬ m.es = n.es) :
    Calls Tryz.prog 19 #[.agg #[.int .i64 m.kd, .int .i64 m.pe, .int .i64 m.hp, .bool m.hi, vp, .int .i64 m.nu, .int .u64 (m.su : Int), .int .i64 m.mr.a.c, .int .i64 m.mr.a.s, .string m.mr.k, vm, ve], .agg #[.int .i64 n.kd, .int .i64 n.pe, .int .i64 n.hp, .bool n.hi, up, .int .i64 n.nu, .int .u64 (n.su : Int), .int .i64 n.mr.a.c, .int .i64 n.mr.a.s, .string n.mr.k, um, ue]] w fun e w' => e = .returned (.bool false) ∧ Only none_ w w' := by
  obtain ⟨⟨A1, c1, ea1, _⟩, ⟨B1, d1, eb1, _⟩, ⟨C1, e1, ec1, _⟩⟩ := id hm
  obtain ⟨⟨A2, c2, ea2, _⟩, ⟨B2, d2, eb2, _⟩, ⟨C2, e2, ec2, _⟩⟩ := id hn
  subst ea1 eb1 ec1 ea2 eb2 ec2
  have OB := Lib.hid (((Only.refl none_ w).alloc (.cells #[.int .i64 m.kd, .int .i64 m.pe, .int .i64 m.hp, .bool m.hi, .slice A1 m.ps.length c1, .int .i64 m.nu, .int .u64 (m.su : Int), .int .i64 m.mr.a.c, .int .i64 m.mr.a.s, .string m.mr.k, .slice B1 m.ms.length d1, .slice C1 m.es.length e1] 45)).alloc (.cells #[.int .i64 n.kd, .int .i64 n.pe, .int .i64 n.hp, .bool n.hi, .slice A2 n.ps.length c2, .int .i64 n.nu, .int .u64 (n.su : Int), .int .i64 n.mr.a.c, .int .i64 n.mr.a.s, .string n.mr.k, .slice B2 n.ms.length d2, .slice C2 n.es.length e2] 45))
  have HM := Lib.hid (fun (w' : World) (o : Only none_ w w') => hm.keep o)
  have HN := Lib.hid (fun (w' : World) (o : Only none_ w w') => hn.keep o)
  have H1 := Lib.hid h1
  have H2 := Lib.hid h2
  have XB1 : Hid (Blk ((w.alloc (.cells #[.int .i64 m.kd, .int .i64 m.pe, .int .i64 m.hp, .bool m.hi, .slice A1 m.ps.length c1, .int .i64 m.nu, .int .u64 (m.su : Int), .int .i64 m.mr.a.c, .int .i64 m.mr.a.s, .string m.mr.k, .slice B1 m.ms.length d1, .slice C1 m.es.length e1] 45)).alloc (.cells #[.int .i64 n.kd, .int .i64 n.pe, .int .i64 n.hp, .bool n.hi, .slice A2 n.ps.length c2, .int .i64 n.nu, .int .u64 (n.su : Int), .int .i64 n.mr.a.c, .int .i64 n.mr.a.s, .string n.mr.k, .slice B2 n.ms.length d2, .slice C2 n.es.length e2] 45)) w.heap.size 45 #[.int .i64 m.kd, .int .i64 m.pe, .int .i64 m.hp, .bool m.hi, .slice A1 m.ps.length c1, .int .i64 m.nu, .int .u64 (m.su : Int), .int .i64 m.mr.a.c, .int .i64 m.mr.a.s, .string m.mr.k, .slice B1 m.ms.length d1, .slice C1 m.es.length e1]) := (Blk.new w _ _).alloc _
  have XB2 : Hid (Blk ((w.alloc (.cells #[.int .i64 m.kd, .int .i64 m.pe, .int .i64 m.hp, .bool m.hi, .slice A1 m.ps.length c1, .int .i64 m.nu, .int .u64 (m.su : Int), .int .i64 m.mr.a.c, .int .i64 m.mr.a.s, .string m.mr.k, .slice B1 m.ms.length d1, .slice C1 m.es.length e1] 45)).alloc (.cells #[.int .i64 n.kd, .int .i64 n.pe, .int .i64 n.hp, .bool n.hi, .slice A2 n.ps.length c2, .int .i64 n.nu, .int .u64 (n.su : Int), .int .i64 n.mr.a.c, .int .i64 n.mr.a.s, .string n.mr.k, .slice B2 n.ms.length d2, .slice C2 n.es.length e2] 45)) (w.heap.size + 1) 45 #[.int .i64 n.kd, .int .i64 n.pe, .int .i64 n.hp, .bool n.hi, .slice A2 n.ps.length c2, .int .i64 n.nu, .int .u64 (n.su : Int), .int .i64 n.mr.a.c, .int .i64 n.mr.a.s, .string n.mr.k, .slice B2 n.ms.length d2, .slice C2 n.es.length e2]) := by have := Blk.new (w.alloc (.cells #[.int .i64 m.kd, .int .i64 m.pe, .int .i64 m.hp, .bool m.hi, .slice A1 m.ps.length c1, .int .i64 m.nu, .int .u64 (m.su : Int), .int .i64 m.mr.a.c, .int .i64 m.mr.a.s, .string m.mr.k, .slice B1 m.ms.length d1, .slice C1 m.es.length e1] 45)) 45 #[.int .i64 n.kd, .int .i64 n.pe, .int .i64 n.hp, .bool n.hi, .slice A2 n.ps.length c2, .int .i64 n.nu, .int .u64 (n.su : Int), .int .i64 n.mr.a.c, .int .i64 n.mr.a.s, .string n.mr.k, .slice B2 n.ms.length d2, .slice C2 n.es.length e2]; rwa [World.size_alloc] at this
  clear hm hn h1 h2
  have r0 : (m.kd == n.kd) = true := by simp [q0]
  clear q0
  have r1 : (m.pe == n.pe) = true := by simp [q1]
  clear q1
  have r2 : (m.hp == n.hp) = true := by simp [q2]
  clear q2
  rw [q3] at OB XB1 XB2 ⊢
  clear q3
  have r4 : (m.nu == n.nu) = true := by simp [q4]
  clear q4
  have r5 : ((m.su : Int) == (n.su : Int)) = true := by simp [q5]
  clear q5
  have r6 := fun w => eqlA w m.mr n.mr
  rw [show mkSame m.mr n.mr = true from (mkSame_iff _ _).2 q6] at r6
  clear q6
  have Q7 := Lib.hid q7
  clear q7
  have Q8 := Lib.hid q8
  clear q8
  have QN := Lib.hid q9
  clear q9
  go_enter Tryz.func19, Tryz.ntmps19
  go_wp2_with (first
    | (go_at_call 68; refine (pl_int S T m.ps n.ps _ _ _ (HM.out _ OB.out).p (HN.out _ OB.out).p ⟨H1.out.1, H2.out.1⟩).mono ?_; rintro E w3 ⟨b, rfl, hb, o0⟩; obtain rfl : b = true := hb.2 Q7.out
       clear hb
       have O0 := Lib.hid (OB.out.trans o0)
       have P0 := Lib.hid ((Only.refl none_ _).trans o0)
       have k0x10 := (XB1.out.only P0.out (fun h => h)).cell_ (i := 10) rfl
       have k0x11 := (XB1.out.only P0.out (fun h => h)).cell_ (i := 11) rfl
       have k0y10 := (XB2.out.only P0.out (fun h => h)).cell_ (i := 10) rfl
       have k0y11 := (XB2.out.only P0.out (fun h => h)).cell_ (i := 11) rfl
       clear o0)
    | (go_at_call 69; refine (pl_mk S T m.ms n.ms _ _ _ (HM.out _ O0.out).q (HN.out _ O0.out).q ⟨H1.out.2.1, H2.out.2.1⟩).mono ?_; rintro E w4 ⟨b, rfl, hb, o1⟩; obtain rfl : b = true := hb.2 Q8.out
       clear hb
       have O1 := Lib.hid (O0.out.trans o1)
       have P1 := Lib.hid (P0.out.trans o1)
       have k1x10 := (XB1.out.only P1.out (fun h => h)).cell_ (i := 10) rfl
       have k1x11 := (XB1.out.only P1.out (fun h => h)).cell_ (i := 11) rfl
       have k1y10 := (XB2.out.only P1.out (fun h => h)).cell_ (i := 10) rfl
       have k1y11 := (XB2.out.only P1.out (fun h => h)).cell_ (i := 11) rfl
       clear o1)
    | (go_at_call 70; refine (pl_en S T m.es n.es _ _ _ (HM.out _ O1.out).r (HN.out _ O1.out).r ⟨H1.out.2.2, H2.out.2.2⟩).mono ?_; rintro E w5 ⟨b, rfl, hb, o2⟩; obtain rfl : b = false := by rw [Bool.eq_false_iff]; exact fun h => QN.out (hb.1 h)
       clear hb
       have O2 := Lib.hid (O1.out.trans o2)
       have P2 := Lib.hid (P1.out.trans o2)
       have k2x10 := (XB1.out.only P2.out (fun h => h)).cell_ (i := 10) rfl
       have k2x11 := (XB1.out.only P2.out (fun h => h)).cell_ (i := 11) rfl
       have k2y10 := (XB2.out.only P2.out (fun h => h)).cell_ (i := 10) rfl
       have k2y11 := (XB2.out.only P2.out (fun h => h)).cell_ (i := 11) rfl
       clear o2))
  go_ret
  exact ⟨rfl, O2.out⟩
theorem wi_wsame (S T : Nat → Prop) (m n : Ms) (vp vm ve up um ue : Value) (w : World) (hm : Ml S m vp vm ve w) (hn : Ml T n up um ue w) (h1 : Few9 m) (h2 : Few9 n) :
    Calls Tryz.prog 19 #[.agg #[.int .i64 m.kd, .int .i64 m.pe, .int .i64 m.hp, .bool m.hi, vp, .int .i64 m.nu, .int .u64 (m.su : Int), .int .i64 m.mr.a.c, .int .i64 m.mr.a.s, .string m.mr.k, vm, ve], .agg #[.int .i64 n.kd, .int .i64 n.pe, .int .i64 n.hp, .bool n.hi, up, .int .i64 n.nu, .int .u64 (n.su : Int), .int .i64 n.mr.a.c, .int .i64 n.mr.a.s, .string n.mr.k, um, ue]] w fun e w' => ∃ b : Bool, e = .returned (.bool b) ∧ (b = true ↔ m = n) ∧ Only none_ w w' := by
  rcases Classical.em (m.kd = n.kd) with q0 | q0
  rotate_left
  · exact (wi_wdiff0 S T m n vp vm ve up um ue w hm hn h1 h2 q0).mono (fun e w' ⟨h, o⟩ => ⟨false, h, ⟨(fun h => by cases h), (fun h => absurd (by rw [h]) q0)⟩, o⟩)
  rcases Classical.em (m.pe = n.pe) with q1 | q1
  rotate_left
  · exact (wi_wdiff1 S T m n vp vm ve up um ue w hm hn h1 h2 q0 q1).mono (fun e w' ⟨h, o⟩ => ⟨false, h, ⟨(fun h => by cases h), (fun h => absurd (by rw [h]) q1)⟩, o⟩)
  rcases Classical.em (m.hp = n.hp) with q2 | q2
  rotate_left
  · exact (wi_wdiff2 S T m n vp vm ve up um ue w hm hn h1 h2 q0 q1 q2).mono (fun e w' ⟨h, o⟩ => ⟨false, h, ⟨(fun h => by cases h), (fun h => absurd (by rw [h]) q2)⟩, o⟩)
  rcases Classical.em (m.hi = n.hi) with q3 | q3
  rotate_left
  · exact (wi_wdiff3 S T m n vp vm ve up um ue w hm hn h1 h2 q0 q1 q2 q3).mono (fun e w' ⟨h, o⟩ => ⟨false, h, ⟨(fun h => by cases h), (fun h => absurd (by rw [h]) q3)⟩, o⟩)
  rcases Classical.em (m.nu = n.nu) with q4 | q4
  rotate_left
  · exact (wi_wdiff4 S T m n vp vm ve up um ue w hm hn h1 h2 q0 q1 q2 q3 q4).mono (fun e w' ⟨h, o⟩ => ⟨false, h, ⟨(fun h => by cases h), (fun h => absurd (by rw [h]) q4)⟩, o⟩)
  rcases Classical.em (m.su = n.su) with q5 | q5
  rotate_left
  · exact (wi_wdiff5 S T m n vp vm ve up um ue w hm hn h1 h2 q0 q1 q2 q3 q4 q5).mono (fun e w' ⟨h, o⟩ => ⟨false, h, ⟨(fun h => by cases h), (fun h => absurd (by rw [h]) q5)⟩, o⟩)
  rcases Classical.em (m.mr = n.mr) with q6 | q6
  rotate_left
  · exact (wi_wdiff6 S T m n vp vm ve up um ue w hm hn h1 h2 q0 q1 q2 q3 q4 q5 q6).mono (fun e w' ⟨h, o⟩ => ⟨false, h, ⟨(fun h => by cases h), (fun h => absurd (by rw [h]) q6)⟩, o⟩)
  rcases Classical.em (m.ps = n.ps) with q7 | q7
  rotate_left
  · exact (wi_wdiff7 S T m n vp vm ve up um ue w hm hn h1 h2 q0 q1 q2 q3 q4 q5 q6 q7).mono (fun e w' ⟨h, o⟩ => ⟨false, h, ⟨(fun h => by cases h), (fun h => absurd (by rw [h]) q7)⟩, o⟩)
  rcases Classical.em (m.ms = n.ms) with q8 | q8
  rotate_left
  · exact (wi_wdiff8 S T m n vp vm ve up um ue w hm hn h1 h2 q0 q1 q2 q3 q4 q5 q6 q7 q8).mono (fun e w' ⟨h, o⟩ => ⟨false, h, ⟨(fun h => by cases h), (fun h => absurd (by rw [h]) q8)⟩, o⟩)
  rcases Classical.em (m.es = n.es) with q9 | q9
  rotate_left
  · exact (wi_wdiff9 S T m n vp vm ve up um ue w hm hn h1 h2 q0 q1 q2 q3 q4 q5 q6 q7 q8 q9).mono (fun e w' ⟨h, o⟩ => ⟨false, h, ⟨(fun h => by cases h), (fun h => absurd (by rw [h]) q9)⟩, o⟩)
  exact (wi_same_eq S T m n vp vm ve up um ue w hm hn h1 h2 (Ms.eq q0 q1 q2 q3 q4 q5 q6 q7 q8 q9)).mono (fun e w' ⟨h, o⟩ => ⟨true, h, ⟨fun _ => Ms.eq q0 q1 q2 q3 q4 q5 q6 q7 q8 q9, fun _ => rfl⟩, o⟩)
end Go.Proofs.YtlieolehpmobfaaGreatDoor
end
section
namespace Go.Proofs.YtlieolehpmobfaaGreatDoor
open Go.RowKit
set_option linter.all false
set_option maxRecDepth 100000
set_option maxHeartbeats 1600000 in
theorem rd_in (S : Nat → Prop) (k : Int) (l : List Int) (v : Value) (w : World) (h : Cel w S v l.length 1 (l.flatMap intI)) (hl : l.length ≤ 4096) :
    Calls Tryz.prog 178 #[.int .i64 k, v] w fun e w' => e = .returned (.bool (l.any fun x => x == k)) ∧ Only none_ w w' := by
  obtain ⟨n, hn⟩ : ∃ n, l.length = n := ⟨_, rfl⟩
  rw [hn] at h hl
  obtain ⟨A, c, rfl, _⟩ := id h
  have HA := Lib.hid (fun (w' : World) (o : Only none_ w w') => h.only o (fun _ _ h => h))
  have HN := Lib.hid hn
  clear h hn
  go_enter Tryz.func178, Tryz.ntmps178
  go_wp2_with fail
  go_loopw [5] (fun s9 wr => ∃ i : Nat, i ≤ n ∧ s9 = .int .i64 i ∧ Only none_ w wr ∧ (l.take i).any (fun x => x == k) = false) (fun s9 _ => n - (intOf s9).toNat)
  case atStart => exact ⟨0, by omega, rfl, Only.refl _ _, by simp⟩
  case round =>
    obtain ⟨i, hi, rfl, o, hall⟩ := hrel
    have HAL := Lib.hid hall
    have O := Lib.hid o
    clear hall
    by_cases hlt : i < n
    · have hin : i < l.length := by have := HN.out; omega
      obtain ⟨x, hx⟩ : ∃ x, l[i]? = some x := ⟨_, List.getElem?_eq_getElem hin⟩
      obtain ⟨b, off, hA, _, _, hc⟩ := in_elem intI_len (by decide) (HA.out _ o) HN.out hx
      subst hA
      have k0 := hc _ (Only.refl none_ _) 0 (.int .i64 x) rfl
      rw [Nat.mul_one, Nat.add_zero] at k0
      have HX := Lib.hid hx
      clear o hc hx
      by_cases hp : x = k
      · have hpb : (x == k) = true := by simpa using hp
        have HE : Hid ((l.any fun x => x == k) = true) := List.any_eq_true.2 ⟨x, List.mem_of_getElem? HX.out, hpb⟩
        clear hp
        go_wp2_with fail
        go_ret
        exact ⟨by rw [HE.out]; rfl, O.out⟩
      · have hpb : (x == k) = false := by simpa using hp
        have HP := Lib.hid hpb
        clear hp
        go_wp2_with fail
        go_roundw
        case rel => exact ⟨i + 1, by omega, by go_num, O.out, by
          rw [List.take_add_one, HX.out]
          simp only [Option.toList_some, List.any_append, HAL.out, List.any_cons, List.any_nil, HP.out]; rfl⟩
        case measure => simp [intOf]; omega
    · have hin : l.take i = l := List.take_of_length_le (by have := HN.out; omega)
      rw [hin] at HAL
      clear o hin
      go_wp2_with fail
      go_ret
      exact ⟨by rw [HAL.out]; rfl, O.out⟩
set_option maxHeartbeats 1600000 in
theorem rd_has0 (k : Int) (w : World) : Calls Tryz.prog 76 #[.int .i64 k, .int .i64 0] w fun e w' => e = .returned (.bool (wHas k 0)) ∧ Only none_ w w' := by
  have C : Hid (Cel (w.alloc (.cells #[.int .i64 2, .int .i64 7] 3)) (fun b => b = w.heap.size) (.slice (some ⟨w.heap.size, 0, none⟩) 2 2) 2 1 (([2, 7] : List Int).flatMap intI)) := cel_made w 3 1 2 #[.int .i64 2, .int .i64 7] rfl (by simp [maxLen])
  have OA := Lib.hid ((Only.refl none_ w).alloc (.cells #[.int .i64 2, .int .i64 7] 3))
  have HE : Hid ((([2, 7] : List Int).any fun x => x == k) = wHas k 0) := by
    rw [Hid, show wHas k 0 = (k == 2 || k == 7) from rfl]
    have hc : ∀ a : Int, (a == k) = (k == a) := fun a => by rw [Bool.eq_iff_iff, beq_iff_eq, beq_iff_eq]; exact ⟨Eq.symm, Eq.symm⟩
    simp only [List.any_cons, List.any_nil, Bool.or_false, hc, Bool.or_assoc]
  go_enter Tryz.func76, Tryz.ntmps76
  go_wp2_with (first
    | (go_at_call 178; refine (rd_in _ k [2, 7] _ _ C.out (by decide)).mono ?_; rw [HE.out]; rintro E w9 ⟨rfl, o9⟩; have O9 := Lib.hid (OA.out.trans o9); clear o9))
  go_ret
  exact ⟨rfl, O9.out⟩
set_option maxHeartbeats 1600000 in
theorem rd_has1 (k : Int) (w : World) : Calls Tryz.prog 76 #[.int .i64 k, .int .i64 1] w fun e w' => e = .returned (.bool (wHas k 1)) ∧ Only none_ w w' := by
  have C : Hid (Cel (w.alloc (.cells #[.int .i64 2, .int .i64 7] 3)) (fun b => b = w.heap.size) (.slice (some ⟨w.heap.size, 0, none⟩) 2 2) 2 1 (([2, 7] : List Int).flatMap intI)) := cel_made w 3 1 2 #[.int .i64 2, .int .i64 7] rfl (by simp [maxLen])
  have OA := Lib.hid ((Only.refl none_ w).alloc (.cells #[.int .i64 2, .int .i64 7] 3))
  have HE : Hid ((([2, 7] : List Int).any fun x => x == k) = wHas k 1) := by
    rw [Hid, show wHas k 1 = (k == 2 || k == 7) from rfl]
    have hc : ∀ a : Int, (a == k) = (k == a) := fun a => by rw [Bool.eq_iff_iff, beq_iff_eq, beq_iff_eq]; exact ⟨Eq.symm, Eq.symm⟩
    simp only [List.any_cons, List.any_nil, Bool.or_false, hc, Bool.or_assoc]
  go_enter Tryz.func76, Tryz.ntmps76
  go_wp2_with (first
    | (go_at_call 178; refine (rd_in _ k [2, 7] _ _ C.out (by decide)).mono ?_; rw [HE.out]; rintro E w9 ⟨rfl, o9⟩; have O9 := Lib.hid (OA.out.trans o9); clear o9))
  go_ret
  exact ⟨rfl, O9.out⟩
set_option maxHeartbeats 1600000 in
theorem rd_has2 (k : Int) (w : World) : Calls Tryz.prog 76 #[.int .i64 k, .int .i64 2] w fun e w' => e = .returned (.bool (wHas k 2)) ∧ Only none_ w w' := by
  go_enter Tryz.func76, Tryz.ntmps76
  go_wp2_with fail
  go_ret
  exact ⟨rfl, Only.refl _ _⟩
set_option maxHeartbeats 1600000 in
theorem rd_has3 (k : Int) (w : World) : Calls Tryz.prog 76 #[.int .i64 k, .int .i64 3] w fun e w' => e = .returned (.bool (wHas k 3)) ∧ Only none_ w w' := by
  have C : Hid (Cel (w.alloc (.cells #[.int .i64 7, .int .i64 8] 3)) (fun b => b = w.heap.size) (.slice (some ⟨w.heap.size, 0, none⟩) 2 2) 2 1 (([7, 8] : List Int).flatMap intI)) := cel_made w 3 1 2 #[.int .i64 7, .int .i64 8] rfl (by simp [maxLen])
  have OA := Lib.hid ((Only.refl none_ w).alloc (.cells #[.int .i64 7, .int .i64 8] 3))
  have HE : Hid ((([7, 8] : List Int).any fun x => x == k) = wHas k 3) := by
    rw [Hid, show wHas k 3 = (k == 7 || k == 8) from rfl]
    have hc : ∀ a : Int, (a == k) = (k == a) := fun a => by rw [Bool.eq_iff_iff, beq_iff_eq, beq_iff_eq]; exact ⟨Eq.symm, Eq.symm⟩
    simp only [List.any_cons, List.any_nil, Bool.or_false, hc, Bool.or_assoc]
  go_enter Tryz.func76, Tryz.ntmps76
  go_wp2_with (first
    | (go_at_call 178; refine (rd_in _ k [7, 8] _ _ C.out (by decide)).mono ?_; rw [HE.out]; rintro E w9 ⟨rfl, o9⟩; have O9 := Lib.hid (OA.out.trans o9); clear o9))
  go_ret
  exact ⟨rfl, O9.out⟩
set_option maxHeartbeats 1600000 in
theorem rd_has4 (k : Int) (w : World) : Calls Tryz.prog 76 #[.int .i64 k, .int .i64 4] w fun e w' => e = .returned (.bool (wHas k 4)) ∧ Only none_ w w' := by
  have C : Hid (Cel (w.alloc (.cells #[.int .i64 16, .int .i64 17, .int .i64 18, .int .i64 19] 3)) (fun b => b = w.heap.size) (.slice (some ⟨w.heap.size, 0, none⟩) 4 4) 4 1 (([16, 17, 18, 19] : List Int).flatMap intI)) := cel_made w 3 1 4 #[.int .i64 16, .int .i64 17, .int .i64 18, .int .i64 19] rfl (by simp [maxLen])
  have OA := Lib.hid ((Only.refl none_ w).alloc (.cells #[.int .i64 16, .int .i64 17, .int .i64 18, .int .i64 19] 3))
  have HE : Hid ((([16, 17, 18, 19] : List Int).any fun x => x == k) = wHas k 4) := by
    rw [Hid, show wHas k 4 = (k == 16 || k == 17 || k == 18 || k == 19) from rfl]
    have hc : ∀ a : Int, (a == k) = (k == a) := fun a => by rw [Bool.eq_iff_iff, beq_iff_eq, beq_iff_eq]; exact ⟨Eq.symm, Eq.symm⟩
    simp only [List.any_cons, List.any_nil, Bool.or_false, hc, Bool.or_assoc]
  go_enter Tryz.func76, Tryz.ntmps76
  go_wp2_with (first
    | (go_at_call 178; refine (rd_in _ k [16, 17, 18, 19] _ _ C.out (by decide)).mono ?_; rw [HE.out]; rintro E w9 ⟨rfl, o9⟩; have O9 := Lib.hid (OA.out.trans o9); clear o9))
  go_ret
  exact ⟨rfl, O9.out⟩
set_option maxHeartbeats 1600000 in
theorem rd_has5 (k : Int) (w : World) : Calls Tryz.prog 76 #[.int .i64 k, .int .i64 5] w fun e w' => e = .returned (.bool (wHas k 5)) ∧ Only none_ w w' := by
  have C : Hid (Cel (w.alloc (.cells #[.int .i64 16, .int .i64 17, .int .i64 19] 3)) (fun b => b = w.heap.size) (.slice (some ⟨w.heap.size, 0, none⟩) 3 3) 3 1 (([16, 17, 19] : List Int).flatMap intI)) := cel_made w 3 1 3 #[.int .i64 16, .int .i64 17, .int .i64 19] rfl (by simp [maxLen])
  have OA := Lib.hid ((Only.refl none_ w).alloc (.cells #[.int .i64 16, .int .i64 17, .int .i64 19] 3))
  have HE : Hid ((([16, 17, 19] : List Int).any fun x => x == k) = wHas k 5) := by
    rw [Hid, show wHas k 5 = (k == 16 || k == 17 || k == 19) from rfl]
    have hc : ∀ a : Int, (a == k) = (k == a) := fun a => by rw [Bool.eq_iff_iff, beq_iff_eq, beq_iff_eq]; exact ⟨Eq.symm, Eq.symm⟩
    simp only [List.any_cons, List.any_nil, Bool.or_false, hc, Bool.or_assoc]
  go_enter Tryz.func76, Tryz.ntmps76
  go_wp2_with (first
    | (go_at_call 178; refine (rd_in _ k [16, 17, 19] _ _ C.out (by decide)).mono ?_; rw [HE.out]; rintro E w9 ⟨rfl, o9⟩; have O9 := Lib.hid (OA.out.trans o9); clear o9))
  go_ret
  exact ⟨rfl, O9.out⟩
set_option maxHeartbeats 1600000 in
theorem rd_has6 (k : Int) (w : World) : Calls Tryz.prog 76 #[.int .i64 k, .int .i64 6] w fun e w' => e = .returned (.bool (wHas k 6)) ∧ Only none_ w w' := by
  have C : Hid (Cel (w.alloc (.cells #[.int .i64 18, .int .i64 19] 3)) (fun b => b = w.heap.size) (.slice (some ⟨w.heap.size, 0, none⟩) 2 2) 2 1 (([18, 19] : List Int).flatMap intI)) := cel_made w 3 1 2 #[.int .i64 18, .int .i64 19] rfl (by simp [maxLen])
  have OA := Lib.hid ((Only.refl none_ w).alloc (.cells #[.int .i64 18, .int .i64 19] 3))
  have HE : Hid ((([18, 19] : List Int).any fun x => x == k) = wHas k 6) := by
    rw [Hid, show wHas k 6 = (k == 18 || k == 19) from rfl]
    have hc : ∀ a : Int, (a == k) = (k == a) := fun a => by rw [Bool.eq_iff_iff, beq_iff_eq, beq_iff_eq]; exact ⟨Eq.symm, Eq.symm⟩
    simp only [List.any_cons, List.any_nil, Bool.or_false, hc, Bool.or_assoc]
  go_enter Tryz.func76, Tryz.ntmps76
  go_wp2_with (first
    | (go_at_call 178; refine (rd_in _ k [18, 19] _ _ C.out (by decide)).mono ?_; rw [HE.out]; rintro E w9 ⟨rfl, o9⟩; have O9 := Lib.hid (OA.out.trans o9); clear o9))
  go_ret
  exact ⟨rfl, O9.out⟩
set_option maxHeartbeats 1600000 in
theorem rd_has7 (k : Int) (w : World) : Calls Tryz.prog 76 #[.int .i64 k, .int .i64 7] w fun e w' => e = .returned (.bool (wHas k 7)) ∧ Only none_ w w' := by
  have C : Hid (Cel (w.alloc (.cells #[.int .i64 11, .int .i64 12, .int .i64 15] 3)) (fun b => b = w.heap.size) (.slice (some ⟨w.heap.size, 0, none⟩) 3 3) 3 1 (([11, 12, 15] : List Int).flatMap intI)) := cel_made w 3 1 3 #[.int .i64 11, .int .i64 12, .int .i64 15] rfl (by simp [maxLen])
  have OA := Lib.hid ((Only.refl none_ w).alloc (.cells #[.int .i64 11, .int .i64 12, .int .i64 15] 3))
  have HE : Hid ((([11, 12, 15] : List Int).any fun x => x == k) = wHas k 7) := by
    rw [Hid, show wHas k 7 = (k == 11 || k == 12 || k == 15) from rfl]
    have hc : ∀ a : Int, (a == k) = (k == a) := fun a => by rw [Bool.eq_iff_iff, beq_iff_eq, beq_iff_eq]; exact ⟨Eq.symm, Eq.symm⟩
    simp only [List.any_cons, List.any_nil, Bool.or_false, hc, Bool.or_assoc]
  go_enter Tryz.func76, Tryz.ntmps76
  go_wp2_with (first
    | (go_at_call 178; refine (rd_in _ k [11, 12, 15] _ _ C.out (by decide)).mono ?_; rw [HE.out]; rintro E w9 ⟨rfl, o9⟩; have O9 := Lib.hid (OA.out.trans o9); clear o9))
  go_ret
  exact ⟨rfl, O9.out⟩
set_option maxHeartbeats 1600000 in
theorem rd_has8 (k : Int) (w : World) : Calls Tryz.prog 76 #[.int .i64 k, .int .i64 8] w fun e w' => e = .returned (.bool (wHas k 8)) ∧ Only none_ w w' := by
  have C : Hid (Cel (w.alloc (.cells #[.int .i64 10, .int .i64 14, .int .i64 15, .int .i64 16, .int .i64 17, .int .i64 18, .int .i64 19] 3)) (fun b => b = w.heap.size) (.slice (some ⟨w.heap.size, 0, none⟩) 7 7) 7 1 (([10, 14, 15, 16, 17, 18, 19] : List Int).flatMap intI)) := cel_made w 3 1 7 #[.int .i64 10, .int .i64 14, .int .i64 15, .int .i64 16, .int .i64 17, .int .i64 18, .int .i64 19] rfl (by simp [maxLen])
  have OA := Lib.hid ((Only.refl none_ w).alloc (.cells #[.int .i64 10, .int .i64 14, .int .i64 15, .int .i64 16, .int .i64 17, .int .i64 18, .int .i64 19] 3))
  have HE : Hid ((([10, 14, 15, 16, 17, 18, 19] : List Int).any fun x => x == k) = wHas k 8) := by
    rw [Hid, show wHas k 8 = (k == 10 || k == 14 || k == 15 || k == 16 || k == 17 || k == 18 || k == 19) from rfl]
    have hc : ∀ a : Int, (a == k) = (k == a) := fun a => by rw [Bool.eq_iff_iff, beq_iff_eq, beq_iff_eq]; exact ⟨Eq.symm, Eq.symm⟩
    simp only [List.any_cons, List.any_nil, Bool.or_false, hc, Bool.or_assoc]
  go_enter Tryz.func76, Tryz.ntmps76
  go_wp2_with (first
    | (go_at_call 178; refine (rd_in _ k [10, 14, 15, 16, 17, 18, 19] _ _ C.out (by decide)).mono ?_; rw [HE.out]; rintro E w9 ⟨rfl, o9⟩; have O9 := Lib.hid (OA.out.trans o9); clear o9))
  go_ret
  exact ⟨rfl, O9.out⟩
theorem rd_has_w (i : Nat) (hi : i < 9) (k : Int) (w : World) : Calls Tryz.prog 76 #[.int .i64 k, .int .i64 i] w fun e w' => e = .returned (.bool (wHas k i)) ∧ Only none_ w w' := by
  rcases nine_ways hi with rfl | rfl | rfl | rfl | rfl | rfl | rfl | rfl | rfl
  · exact rd_has0 k w
  · exact rd_has1 k w
  · exact rd_has2 k w
  · exact rd_has3 k w
  · exact rd_has4 k w
  · exact rd_has5 k w
  · exact rd_has6 k w
  · exact rd_has7 k w
  · exact rd_has8 k w
def mLo (k : Int) (i : Nat) : Int := if wHas k i = true then wLo k else 0
def mUp (k : Int) (i : Nat) : Int := if wHas k i = true then wUp k else 0
set_option maxHeartbeats 3200000 in
theorem rd_gmark (x : Mk) (w : World) : Calls Tryz.prog 58 #[.agg #[.int .i64 x.a.c, .int .i64 x.a.s, .string x.k]] w fun e w' => e = .returned (.bool (mkGood x)) ∧ Only none_ w w' := by
  obtain ⟨⟨xc, xs⟩, xk⟩ := x
  show Calls Tryz.prog 58 #[.agg #[.int .i64 xc, .int .i64 xs, .string xk]] w _
  have B := Blk.new w 27 #[.int .i64 xc, .int .i64 xs, .string xk]
  have HB := Lib.hid B
  have O := Lib.hid ((Only.refl none_ w).alloc (.cells #[.int .i64 xc, .int .i64 xs, .string xk] 27))
  have c0 := B.cell_ (i := 0) rfl
  have c1 := B.cell_ (i := 1) rfl
  have c2 := B.cell_ (i := 2) rfl
  obtain ⟨gb, hg⟩ : ∃ b, stGood ⟨xc, xs⟩ = b := ⟨_, rfl⟩
  have HG := Lib.hid hg
  have HM : Hid (mkGood ⟨⟨xc, xs⟩, xk⟩ = (gb && decide (1 ≤ xk.size) && decide (xk.size ≤ 16))) := by rw [Hid, mkGood]; dsimp only; rw [hg]
  clear B hg
  cases gb
  · go_enter Tryz.func58, Tryz.ntmps58
    go_wp2_with (first
      | (go_at_call 111; refine (rf_good _ _ _).mono ?_; rintro E w9 ⟨rfl, o9⟩; rw [HG.out]; have O9 := Lib.hid (O.out.trans o9); clear o9))
    go_ret
    exact ⟨by rw [HM.out]; rfl, O9.out⟩
  · by_cases h1 : (1 : Int) ≤ (xk.size : Int)
    · have HM2 : Hid (mkGood ⟨⟨xc, xs⟩, xk⟩ = decide ((xk.size : Int) ≤ 16)) := by
        rw [Hid, HM.out, Bool.eq_iff_iff]
        simp only [Bool.true_and, Bool.and_eq_true, decide_eq_true_eq]
        omega
      clear HM
      go_enter Tryz.func58, Tryz.ntmps58
      go_wp2_with (first
        | (go_at_call 111; refine (rf_good _ _ _).mono ?_; rintro E w9 ⟨rfl, o9⟩; rw [HG.out]; have O9 := Lib.hid (O.out.trans o9)
           have b9 := HB.out.only o9 (fun h => h)
           have k2 := b9.cell_ (i := 2) rfl
           clear o9 b9))
      go_ret
      exact ⟨by rw [HM2.out]; rfl, O9.out⟩
    · have HM2 : Hid (mkGood ⟨⟨xc, xs⟩, xk⟩ = false) := by
        rw [Hid, HM.out]
        have : ¬ 1 ≤ xk.size := by omega
        simp [this]
      clear HM
      go_enter Tryz.func58, Tryz.ntmps58
      go_wp2_with (first
        | (go_at_call 111; refine (rf_good _ _ _).mono ?_; rintro E w9 ⟨rfl, o9⟩; rw [HG.out]; have O9 := Lib.hid (O.out.trans o9)
           have b9 := HB.out.only o9 (fun h => h)
           have k2 := b9.cell_ (i := 2) rfl
           clear o9 b9))
      go_ret
      exact ⟨by rw [HM2.out]; rfl, O9.out⟩
set_option maxHeartbeats 3200000 in
theorem rd_many (k : Int) (i : Nat) (hi : i = 7 ∨ i = 8) (z : Int) (hz : z = i) (w : World) : Calls Tryz.prog 110 #[.int .i64 k, .int .i64 z] w fun e w' => e = .returned (.tuple #[.int .i64 (mLo k i), .int .i64 (mUp k i)]) ∧ Only none_ w w' := by
  obtain ⟨hb, hh⟩ : ∃ b, wHas k i = b := ⟨_, rfl⟩
  have HH := Lib.hid (rd_has_w i (by omega) k)
  rw [hh, ← hz] at HH
  have H0 : Hid (wHas k i = hb) := hh
  have HI := Lib.hid hi
  clear hh hz hi
  cases hb
  · have E1 : Hid (mLo k i = 0 ∧ mUp k i = 0) := by rw [Hid, mLo, mUp, H0.out]; exact ⟨rfl, rfl⟩
    go_enter Tryz.func110, Tryz.ntmps110
    go_wp2_with (first
      | (go_at_call 76; refine (HH.out _).mono ?_; rintro E w9 ⟨rfl, o9⟩; have O9 := Lib.hid o9; clear o9))
    go_ret2
    rw [E1.out.1, E1.out.2]
    exact ⟨rfl, O9.out⟩
  · have E1 : Hid (mLo k i = wLo k ∧ mUp k i = wUp k) := by rw [Hid, mLo, mUp, H0.out]; exact ⟨rfl, rfl⟩
    have hw : k = 10 ∨ k = 11 ∨ k = 12 ∨ k = 14 ∨ k = 15 ∨ k = 16 ∨ k = 17 ∨ k = 18 ∨ k = 19 := by
      have h0 := H0.out
      rcases HI.out with rfl | rfl <;> simp only [wHas, Bool.or_eq_true, beq_iff_eq] at h0 <;> omega
    rcases hw with rfl | rfl | rfl | rfl | rfl | rfl | rfl | rfl | rfl
    all_goals
      rw [E1.out.1, E1.out.2]
      go_enter Tryz.func110, Tryz.ntmps110
      go_wp2_with (first
        | (go_at_call 76; refine (HH.out _).mono ?_; rintro E w9 ⟨rfl, o9⟩; have O9 := Lib.hid o9; clear o9))
      go_ret2
      exact ⟨rfl, O9.out⟩
end Go.Proofs.YtlieolehpmobfaaGreatDoor
end
