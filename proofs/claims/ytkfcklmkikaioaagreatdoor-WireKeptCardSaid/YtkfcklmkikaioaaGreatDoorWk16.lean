/- Texts of mine, one behind the other: WiJ, Open, WiL. No statement of the seat is proved here. -/
import Derived.Test.YtkfcklmkikaioaaGreatDoorWk15
import Derived.Test.YtkfcklmkikaioaaGreatDoorWk7
import Derived.Test.YtkfcklmkikaioaaGreatDoorWk1
import Derived.ProofKit
import Derived.OpenShut
import Derived.ShutString
import Derived.ChangeOld
import Derived.Test.YtkfcklmkikaioaaGreatDoorWk10
import Derived.Test.YtkfcklmkikaioaaGreatDoorRows
import Derived.LaidMore
section
namespace Go.Proofs.YtkfcklmkikaioaaGreatDoor
open Go.RowKit
set_option linter.all false
set_option maxRecDepth 100000
theorem Ms.eq {a b : Ms} (h1 : a.kd = b.kd) (h2 : a.pe = b.pe) (h3 : a.hp = b.hp) (h4 : a.hi = b.hi) (h5 : a.nu = b.nu) (h6 : a.su = b.su) (h7 : a.mr = b.mr) (h8 : a.ps = b.ps) (h9 : a.ms = b.ms) (h0 : a.es = b.es) : a = b := by
  cases a; cases b; simp_all
def Few9 (m : Ms) : Prop := m.ps.length ≤ 4096 ∧ m.ms.length ≤ 4096 ∧ m.es.length ≤ 4096
set_option maxHeartbeats 6400000 in
theorem rf_wsame_eq (S T : Nat → Prop) (m n : Ms) (vp vm ve up um ue : Value) (w : World) (hm : Ml S m vp vm ve w) (hn : Ml T n up um ue w) (h1 : Few9 m) (h2 : Few9 n) (he : m = n):
    Calls Tryz.prog 14 #[.agg #[.int .i64 m.kd, .int .i64 m.pe, .int .i64 m.hp, .bool m.hi, vp, .int .i64 m.nu, .int .u64 (m.su : Int), .int .i64 m.mr.a.c, .int .i64 m.mr.a.s, .string m.mr.k, vm, ve], .agg #[.int .i64 n.kd, .int .i64 n.pe, .int .i64 n.hp, .bool n.hi, up, .int .i64 n.nu, .int .u64 (n.su : Int), .int .i64 n.mr.a.c, .int .i64 n.mr.a.s, .string n.mr.k, um, ue]] w fun e w' => e = .returned (.bool true) ∧ Only none_ w w' := by
  obtain ⟨⟨A1, c1, ea1, _⟩, ⟨B1, d1, eb1, _⟩, ⟨C1, e1, ec1, _⟩⟩ := id hm
  obtain ⟨⟨A2, c2, ea2, _⟩, ⟨B2, d2, eb2, _⟩, ⟨C2, e2, ec2, _⟩⟩ := id hn
  subst ea1 eb1 ec1 ea2 eb2 ec2
  have OB := Lib.hid (((Only.refl none_ w).alloc (.cells #[.int .i64 m.kd, .int .i64 m.pe, .int .i64 m.hp, .bool m.hi, .slice A1 m.ps.length c1, .int .i64 m.nu, .int .u64 (m.su : Int), .int .i64 m.mr.a.c, .int .i64 m.mr.a.s, .string m.mr.k, .slice B1 m.ms.length d1, .slice C1 m.es.length e1] 31)).alloc (.cells #[.int .i64 n.kd, .int .i64 n.pe, .int .i64 n.hp, .bool n.hi, .slice A2 n.ps.length c2, .int .i64 n.nu, .int .u64 (n.su : Int), .int .i64 n.mr.a.c, .int .i64 n.mr.a.s, .string n.mr.k, .slice B2 n.ms.length d2, .slice C2 n.es.length e2] 31))
  have HM := Lib.hid (fun (w' : World) (o : Only none_ w w') => hm.keep o)
  have HN := Lib.hid (fun (w' : World) (o : Only none_ w w') => hn.keep o)
  have H1 := Lib.hid h1
  have H2 := Lib.hid h2
  have XB1 : Hid (Blk ((w.alloc (.cells #[.int .i64 m.kd, .int .i64 m.pe, .int .i64 m.hp, .bool m.hi, .slice A1 m.ps.length c1, .int .i64 m.nu, .int .u64 (m.su : Int), .int .i64 m.mr.a.c, .int .i64 m.mr.a.s, .string m.mr.k, .slice B1 m.ms.length d1, .slice C1 m.es.length e1] 31)).alloc (.cells #[.int .i64 n.kd, .int .i64 n.pe, .int .i64 n.hp, .bool n.hi, .slice A2 n.ps.length c2, .int .i64 n.nu, .int .u64 (n.su : Int), .int .i64 n.mr.a.c, .int .i64 n.mr.a.s, .string n.mr.k, .slice B2 n.ms.length d2, .slice C2 n.es.length e2] 31)) w.heap.size 31 #[.int .i64 m.kd, .int .i64 m.pe, .int .i64 m.hp, .bool m.hi, .slice A1 m.ps.length c1, .int .i64 m.nu, .int .u64 (m.su : Int), .int .i64 m.mr.a.c, .int .i64 m.mr.a.s, .string m.mr.k, .slice B1 m.ms.length d1, .slice C1 m.es.length e1]) := (Blk.new w _ _).alloc _
  have XB2 : Hid (Blk ((w.alloc (.cells #[.int .i64 m.kd, .int .i64 m.pe, .int .i64 m.hp, .bool m.hi, .slice A1 m.ps.length c1, .int .i64 m.nu, .int .u64 (m.su : Int), .int .i64 m.mr.a.c, .int .i64 m.mr.a.s, .string m.mr.k, .slice B1 m.ms.length d1, .slice C1 m.es.length e1] 31)).alloc (.cells #[.int .i64 n.kd, .int .i64 n.pe, .int .i64 n.hp, .bool n.hi, .slice A2 n.ps.length c2, .int .i64 n.nu, .int .u64 (n.su : Int), .int .i64 n.mr.a.c, .int .i64 n.mr.a.s, .string n.mr.k, .slice B2 n.ms.length d2, .slice C2 n.es.length e2] 31)) (w.heap.size + 1) 31 #[.int .i64 n.kd, .int .i64 n.pe, .int .i64 n.hp, .bool n.hi, .slice A2 n.ps.length c2, .int .i64 n.nu, .int .u64 (n.su : Int), .int .i64 n.mr.a.c, .int .i64 n.mr.a.s, .string n.mr.k, .slice B2 n.ms.length d2, .slice C2 n.es.length e2]) := by have := Blk.new (w.alloc (.cells #[.int .i64 m.kd, .int .i64 m.pe, .int .i64 m.hp, .bool m.hi, .slice A1 m.ps.length c1, .int .i64 m.nu, .int .u64 (m.su : Int), .int .i64 m.mr.a.c, .int .i64 m.mr.a.s, .string m.mr.k, .slice B1 m.ms.length d1, .slice C1 m.es.length e1] 31)) 31 #[.int .i64 n.kd, .int .i64 n.pe, .int .i64 n.hp, .bool n.hi, .slice A2 n.ps.length c2, .int .i64 n.nu, .int .u64 (n.su : Int), .int .i64 n.mr.a.c, .int .i64 n.mr.a.s, .string n.mr.k, .slice B2 n.ms.length d2, .slice C2 n.es.length e2]; rwa [World.size_alloc] at this
  clear hm hn h1 h2
  subst he
  have r6 := fun w => neqR w m.mr m.mr
  rw [(mkSame_iff _ _).2 rfl] at r6
  have r0 : (m.kd != m.kd) = false := by simp
  go_enter Tryz.func14, Tryz.ntmps14
  go_wp2_with (first
    | (go_at_call 38; refine (rl_int S T m.ps m.ps _ _ _ (HM.out _ OB.out).p (HN.out _ OB.out).p ⟨H1.out.1, H2.out.1⟩).mono ?_; rintro E w3 ⟨b, rfl, hb, o0⟩; obtain rfl : b = true := hb.2 rfl
       have O0 := Lib.hid (OB.out.trans o0)
       have P0 := Lib.hid ((Only.refl none_ _).trans o0)
       have k0x10 := (XB1.out.only P0.out (fun h => h)).cell_ (i := 10) rfl
       have k0x11 := (XB1.out.only P0.out (fun h => h)).cell_ (i := 11) rfl
       have k0y10 := (XB2.out.only P0.out (fun h => h)).cell_ (i := 10) rfl
       have k0y11 := (XB2.out.only P0.out (fun h => h)).cell_ (i := 11) rfl
       clear o0)
    | (go_at_call 39; refine (rl_mk S T m.ms m.ms _ _ _ (HM.out _ O0.out).q (HN.out _ O0.out).q ⟨H1.out.2.1, H2.out.2.1⟩).mono ?_; rintro E w4 ⟨b, rfl, hb, o1⟩; obtain rfl : b = true := hb.2 rfl
       have O1 := Lib.hid (O0.out.trans o1)
       have P1 := Lib.hid (P0.out.trans o1)
       have k1x10 := (XB1.out.only P1.out (fun h => h)).cell_ (i := 10) rfl
       have k1x11 := (XB1.out.only P1.out (fun h => h)).cell_ (i := 11) rfl
       have k1y10 := (XB2.out.only P1.out (fun h => h)).cell_ (i := 10) rfl
       have k1y11 := (XB2.out.only P1.out (fun h => h)).cell_ (i := 11) rfl
       clear o1)
    | (go_at_call 40; refine (rl_en S T m.es m.es _ _ _ (HM.out _ O1.out).r (HN.out _ O1.out).r ⟨H1.out.2.2, H2.out.2.2⟩).mono ?_; rintro E w5 ⟨b, rfl, hb, o2⟩; obtain rfl : b = true := hb.2 rfl
       have O2 := Lib.hid (O1.out.trans o2)
       have P2 := Lib.hid (P1.out.trans o2)
       have k2x10 := (XB1.out.only P2.out (fun h => h)).cell_ (i := 10) rfl
       have k2x11 := (XB1.out.only P2.out (fun h => h)).cell_ (i := 11) rfl
       have k2y10 := (XB2.out.only P2.out (fun h => h)).cell_ (i := 10) rfl
       have k2y11 := (XB2.out.only P2.out (fun h => h)).cell_ (i := 11) rfl
       clear o2))
  go_ret
  exact ⟨rfl, O2.out⟩
set_option maxHeartbeats 6400000 in
theorem wi_same_eq (S T : Nat → Prop) (m n : Ms) (vp vm ve up um ue : Value) (w : World) (hm : Ml S m vp vm ve w) (hn : Ml T n up um ue w) (h1 : Few9 m) (h2 : Few9 n) (he : m = n):
    Calls Tryz.prog 13 #[.agg #[.int .i64 m.kd, .int .i64 m.pe, .int .i64 m.hp, .bool m.hi, vp, .int .i64 m.nu, .int .u64 (m.su : Int), .int .i64 m.mr.a.c, .int .i64 m.mr.a.s, .string m.mr.k, vm, ve], .agg #[.int .i64 n.kd, .int .i64 n.pe, .int .i64 n.hp, .bool n.hi, up, .int .i64 n.nu, .int .u64 (n.su : Int), .int .i64 n.mr.a.c, .int .i64 n.mr.a.s, .string n.mr.k, um, ue]] w fun e w' => e = .returned (.bool true) ∧ Only none_ w w' := by
  obtain ⟨⟨A1, c1, ea1, _⟩, ⟨B1, d1, eb1, _⟩, ⟨C1, e1, ec1, _⟩⟩ := id hm
  obtain ⟨⟨A2, c2, ea2, _⟩, ⟨B2, d2, eb2, _⟩, ⟨C2, e2, ec2, _⟩⟩ := id hn
  subst ea1 eb1 ec1 ea2 eb2 ec2
  have OB := Lib.hid (((Only.refl none_ w).alloc (.cells #[.int .i64 m.kd, .int .i64 m.pe, .int .i64 m.hp, .bool m.hi, .slice A1 m.ps.length c1, .int .i64 m.nu, .int .u64 (m.su : Int), .int .i64 m.mr.a.c, .int .i64 m.mr.a.s, .string m.mr.k, .slice B1 m.ms.length d1, .slice C1 m.es.length e1] 45)).alloc (.cells #[.int .i64 n.kd, .int .i64 n.pe, .int .i64 n.hp, .bool n.hi, .slice A2 n.ps.length c2, .int .i64 n.nu, .int .u64 (n.su : Int), .int .i64 n.mr.a.c, .int .i64 n.mr.a.s, .string n.mr.k, .slice B2 n.ms.length d2, .slice C2 n.es.length e2] 45))
  have HM := Lib.hid (fun (w' : World) (o : Only none_ w w') => hm.keep o)
  have HN := Lib.hid (fun (w' : World) (o : Only none_ w w') => hn.keep o)
  have H1 := Lib.hid h1
  have H2 := Lib.hid h2
  have XB1 : Hid (Blk ((w.alloc (.cells #[.int .i64 m.kd, .int .i64 m.pe, .int .i64 m.hp, .bool m.hi, .slice A1 m.ps.length c1, .int .i64 m.nu, .int .u64 (m.su : Int), .int .i64 m.mr.a.c, .int .i64 m.mr.a.s, .string m.mr.k, .slice B1 m.ms.length d1, .slice C1 m.es.length e1] 45)).alloc (.cells #[.int .i64 n.kd, .int .i64 n.pe, .int .i64 n.hp, .bool n.hi, .slice A2 n.ps.length c2, .int .i64 n.nu, .int .u64 (n.su : Int), .int .i64 n.mr.a.c, .int .i64 n.mr.a.s, .string n.mr.k, .slice B2 n.ms.length d2, .slice C2 n.es.length e2] 45)) w.heap.size 45 #[.int .i64 m.kd, .int .i64 m.pe, .int .i64 m.hp, .bool m.hi, .slice A1 m.ps.length c1, .int .i64 m.nu, .int .u64 (m.su : Int), .int .i64 m.mr.a.c, .int .i64 m.mr.a.s, .string m.mr.k, .slice B1 m.ms.length d1, .slice C1 m.es.length e1]) := (Blk.new w _ _).alloc _
  have XB2 : Hid (Blk ((w.alloc (.cells #[.int .i64 m.kd, .int .i64 m.pe, .int .i64 m.hp, .bool m.hi, .slice A1 m.ps.length c1, .int .i64 m.nu, .int .u64 (m.su : Int), .int .i64 m.mr.a.c, .int .i64 m.mr.a.s, .string m.mr.k, .slice B1 m.ms.length d1, .slice C1 m.es.length e1] 45)).alloc (.cells #[.int .i64 n.kd, .int .i64 n.pe, .int .i64 n.hp, .bool n.hi, .slice A2 n.ps.length c2, .int .i64 n.nu, .int .u64 (n.su : Int), .int .i64 n.mr.a.c, .int .i64 n.mr.a.s, .string n.mr.k, .slice B2 n.ms.length d2, .slice C2 n.es.length e2] 45)) (w.heap.size + 1) 45 #[.int .i64 n.kd, .int .i64 n.pe, .int .i64 n.hp, .bool n.hi, .slice A2 n.ps.length c2, .int .i64 n.nu, .int .u64 (n.su : Int), .int .i64 n.mr.a.c, .int .i64 n.mr.a.s, .string n.mr.k, .slice B2 n.ms.length d2, .slice C2 n.es.length e2]) := by have := Blk.new (w.alloc (.cells #[.int .i64 m.kd, .int .i64 m.pe, .int .i64 m.hp, .bool m.hi, .slice A1 m.ps.length c1, .int .i64 m.nu, .int .u64 (m.su : Int), .int .i64 m.mr.a.c, .int .i64 m.mr.a.s, .string m.mr.k, .slice B1 m.ms.length d1, .slice C1 m.es.length e1] 45)) 45 #[.int .i64 n.kd, .int .i64 n.pe, .int .i64 n.hp, .bool n.hi, .slice A2 n.ps.length c2, .int .i64 n.nu, .int .u64 (n.su : Int), .int .i64 n.mr.a.c, .int .i64 n.mr.a.s, .string n.mr.k, .slice B2 n.ms.length d2, .slice C2 n.es.length e2]; rwa [World.size_alloc] at this
  clear hm hn h1 h2
  subst he
  have r6 := fun w => eqlA w m.mr m.mr
  rw [(mkSame_iff _ _).2 rfl] at r6
  have r0 : (m.kd != m.kd) = false := by simp
  go_enter Tryz.func13, Tryz.ntmps13
  go_wp2_with (first
    | (go_at_call 35; refine (pl_int S T m.ps m.ps _ _ _ (HM.out _ OB.out).p (HN.out _ OB.out).p ⟨H1.out.1, H2.out.1⟩).mono ?_; rintro E w3 ⟨b, rfl, hb, o0⟩; obtain rfl : b = true := hb.2 rfl
       have O0 := Lib.hid (OB.out.trans o0)
       have P0 := Lib.hid ((Only.refl none_ _).trans o0)
       have k0x10 := (XB1.out.only P0.out (fun h => h)).cell_ (i := 10) rfl
       have k0x11 := (XB1.out.only P0.out (fun h => h)).cell_ (i := 11) rfl
       have k0y10 := (XB2.out.only P0.out (fun h => h)).cell_ (i := 10) rfl
       have k0y11 := (XB2.out.only P0.out (fun h => h)).cell_ (i := 11) rfl
       clear o0)
    | (go_at_call 36; refine (pl_mk S T m.ms m.ms _ _ _ (HM.out _ O0.out).q (HN.out _ O0.out).q ⟨H1.out.2.1, H2.out.2.1⟩).mono ?_; rintro E w4 ⟨b, rfl, hb, o1⟩; obtain rfl : b = true := hb.2 rfl
       have O1 := Lib.hid (O0.out.trans o1)
       have P1 := Lib.hid (P0.out.trans o1)
       have k1x10 := (XB1.out.only P1.out (fun h => h)).cell_ (i := 10) rfl
       have k1x11 := (XB1.out.only P1.out (fun h => h)).cell_ (i := 11) rfl
       have k1y10 := (XB2.out.only P1.out (fun h => h)).cell_ (i := 10) rfl
       have k1y11 := (XB2.out.only P1.out (fun h => h)).cell_ (i := 11) rfl
       clear o1)
    | (go_at_call 37; refine (pl_en S T m.es m.es _ _ _ (HM.out _ O1.out).r (HN.out _ O1.out).r ⟨H1.out.2.2, H2.out.2.2⟩).mono ?_; rintro E w5 ⟨b, rfl, hb, o2⟩; obtain rfl : b = true := hb.2 rfl
       have O2 := Lib.hid (O1.out.trans o2)
       have P2 := Lib.hid (P1.out.trans o2)
       have k2x10 := (XB1.out.only P2.out (fun h => h)).cell_ (i := 10) rfl
       have k2x11 := (XB1.out.only P2.out (fun h => h)).cell_ (i := 11) rfl
       have k2y10 := (XB2.out.only P2.out (fun h => h)).cell_ (i := 10) rfl
       have k2y11 := (XB2.out.only P2.out (fun h => h)).cell_ (i := 11) rfl
       clear o2))
  go_ret
  exact ⟨rfl, O2.out⟩
end Go.Proofs.YtkfcklmkikaioaaGreatDoor
end
section
namespace Go.Proofs.YtkfcklmkikaioaaGreatDoor
open Go.ChangeShapes Go.WideShapes Go.ChangeAt Go.RowKit
set_option linter.unusedVariables false
theorem byt_in {w : World} {A : Option Addr} {len cap : Nat} {zs : List Int} (hl : len ≤ cap) (hm : cap ≤ maxLen) (hz : zs.length = cap) {x : Addr} (hA : A = some x)
    (hc : ∀ i, i < zs.length → w.cell? (x.add i) = some (.int .u8 (zs.getD i 0))) (hw : ∀ n ∈ zs, (Lit.int .u8 n).wf = true) :
    Byt w (fun b => b < w.heap.size) (.slice A len cap) ((zs.take len).map fun z => UInt8.ofNat z.toNat) := by
  subst hA
  have hn : ((zs.take len).map fun z => UInt8.ofNat z.toNat).length = len := by simp; omega
  refine ⟨_, cap, by rw [hn], by omega, hm, by simp, fun hp => ?_⟩
  rw [hn] at hp
  obtain ⟨b, off, spot⟩ := x
  have h0 := hc 0 (by omega)
  have hspot : spot = none := by simpa [Addr.add] using World.cell?_spot h0
  subst hspot
  refine ⟨b, off, rfl, World.block_lt_of_cell? w _ (by simpa [Addr.add] using h0), World.block_lt_of_cell? w _ (by simpa [Addr.add] using h0), fun j hj => ?_⟩
  rw [hn] at hj
  have h1 := hc j (by omega)
  have e2 : (⟨b, off, none⟩ : Addr).add j = ⟨b, off + j, none⟩ := by unfold Addr.add; split <;> simp_all
  rw [e2] at h1
  rw [h1]
  have hjl : j < zs.length := by omega
  have hwf := hw zs[j] (List.getElem_mem hjl)
  have hb := bounds_u8 hwf
  simp only [byt, List.getElem_map, List.getElem_take, List.getD_eq_getElem?_getD, List.getElem?_eq_getElem hjl, Option.getD_some]
  congr 2
  have : (UInt8.ofNat zs[j].toNat).toNat = zs[j].toNat := by simp; omega
  rw [this]
  omega
theorem byt_arg {H : Type} {enc : TypeId × Value → H} {W : World} {a : Option Addr} {len cap : Nat} {d : DataW H} {p : List MemPlace} (h : DataW.Trod enc Tryz.prog W 0 (fun _ => true) true 35 (.slice a len cap) d p) :
    ∃ bs, len = bs.length ∧ Byt W (fun b => b < W.heap.size) (.slice a len cap) bs := by
  obtain ⟨fuel, hf⟩ := h
  rcases open_ints Tryz.underlying35 Tryz.underlying5 (by kernel_rfl) hf with ⟨hcs, _⟩ | ⟨x, l, c, zs, hcs, _, hl, hm, hz, _, hcell, hwz⟩
  · simp [Value.cells] at hcs
    obtain ⟨rfl, rfl, rfl⟩ := hcs
    exact ⟨[], rfl, Byt.nil _ _⟩
  · simp [Value.cells] at hcs
    obtain ⟨rfl, rfl, rfl⟩ := hcs
    have hz' : zs.length = cap := by simpa using hz
    exact ⟨_, by simp; omega, byt_in hl hm hz' rfl hcell hwz⟩
end Go.Proofs.YtkfcklmkikaioaaGreatDoor
end
section
namespace Go.Proofs.YtkfcklmkikaioaaGreatDoor
open Go.Joins Go.ChangeShapes Go.WideShapes Go.ChangeAt Go.RowKit
set_option linter.all false
set_option maxRecDepth 100000
theorem gKinds : Tryz.prog.globalNamed "quidnunc/wire.kinds" = some 0 := by kernel_rfl
theorem tKinds : (Tryz.prog.globals[0]?).map (·.type) = some 78 := by kernel_rfl
def laidK {H : Type} : List (String × DataW H) := [("quidnunc/wire.kinds", Rows.laid_quidnunc_wire_kinds)]
theorem shape_cells {H : Type} {enc : TypeId × Value → H} {W : World} {sp : Nat → Bool} {held : Bool} (m : Nat) (cs : List Value) (x : DataW H × List MemPlace) (h : DataW.trod enc Tryz.prog W 0 sp held m 77 cs = some x) :
    ∃ (s : ByteArray) (a b c : Int), cs = [.string s, .int .i64 a, .int .i64 b, .int .i64 c] ∧ x.1 = .agg [.lit (.string s.data.toList), .lit (.int .i64 a), .lit (.int .i64 b), .lit (.int .i64 c)] := by
  obtain ⟨y0, y1, y2, y3, n, hx, hlen, g0, g1, g2, g3⟩ := trod_struct4 Tryz.underlying77 h
  have c4 : Tryz.prog.cellsOf 77 = 4 := by kernel_rfl
  have e9 : Tryz.prog.cellsOf 9 = 1 := by kernel_rfl
  have e3 : Tryz.prog.cellsOf 3 = 1 := by kernel_rfl
  rw [c4] at hlen
  match cs, hlen with
  | [c0, c1, c2, c3], _ =>
      simp only [e9, e3, List.drop_zero, List.drop_succ_cons, List.take_succ_cons, List.take_zero] at g0 g1 g2 g3
      obtain ⟨s, q0, r0, _⟩ := DataW.trod_string Tryz.underlying9 g0
      obtain ⟨a, q1, r1, _⟩ := DataW.trod_int Tryz.underlying3 g1
      obtain ⟨b, q2, r2, _⟩ := DataW.trod_int Tryz.underlying3 g2
      obtain ⟨c, q3, r3, _⟩ := DataW.trod_int Tryz.underlying3 g3
      simp only [List.cons.injEq, and_true] at q0 q1 q2 q3
      subst q0 q1 q2 q3 r0 r1 r2 r3
      exact ⟨s, a, b, c, rfl, by rw [hx]⟩
theorem kinds_at {H : Type} : ∀ k : Nat, k < 20 → (match (Rows.laid_quidnunc_wire_kinds : DataW H) with | .agg l => l[k]? | _ => none) = some (.agg [.lit (.string (wNm k).data.toList), .lit (.int .i64 (wFld k)), .lit (.int .i64 (wLo k)), .lit (.int .i64 (wUp k))]) := by
  intro k hk
  rcases (by omega : k = 0 ∨ k = 1 ∨ k = 2 ∨ k = 3 ∨ k = 4 ∨ k = 5 ∨ k = 6 ∨ k = 7 ∨ k = 8 ∨ k = 9 ∨ k = 10 ∨ k = 11 ∨ k = 12 ∨ k = 13 ∨ k = 14 ∨ k = 15 ∨ k = 16 ∨ k = 17 ∨ k = 18 ∨ k = 19) with rfl | rfl | rfl | rfl | rfl | rfl | rfl | rfl | rfl | rfl | rfl | rfl | rfl | rfl | rfl | rfl | rfl | rfl | rfl | rfl
  all_goals rfl
theorem kd_of_laid {W : World} (h : laidMetH Tryz.prog laidK W) : Kd W := by
  rw [MakeChecks.laidMetH_plain _ _ _ (by kernel_rfl)] at h
  obtain ⟨ps, ⟨g0, t0, cs0, f0, p0, q0, hg0, ht0, hv0, hd0, _, _⟩, _, _⟩ := h
  obtain rfl := Option.some.inj (gKinds.symm.trans hg0)
  obtain rfl := Option.some.inj (tKinds.symm.trans ht0)
  obtain ⟨xs, m1, _, hx1, hlen, hn3, hel⟩ := DataW.trod_array Tryz.underlying78 hd0
  have c4 : Tryz.prog.cellsOf 77 = 4 := by kernel_rfl
  have hc : ∀ k : Nat, k < 20 → ∀ j u, (shRow (wNm k) (wFld k) (wLo k) (wUp k)).toList[j]? = some u → W.cell? ⟨0, k * 4 + j, none⟩ = some u := by
    intro k hk j u hu
    obtain ⟨y, hy⟩ : ∃ y, xs[k]? = some y := ⟨_, List.getElem?_eq_getElem (by omega)⟩
    have g := hel k hk
    rw [hy, c4] at g
    obtain ⟨s, a, b, c, e1, e2⟩ := shape_cells m1 _ y g
    have hkk := kinds_at (H := Unit) k hk
    have hxx : (Rows.laid_quidnunc_wire_kinds : DataW Unit) = .agg (xs.map (·.1)) := (Prod.mk.inj hx1).1
    rw [hxx] at hkk
    simp only [List.getElem?_map, hy, Option.map_some, Option.some.injEq] at hkk
    rw [e2] at hkk
    simp only [DataW.agg.injEq, List.cons.injEq, DataW.lit.injEq, Lit.string.injEq, Lit.int.injEq, true_and, and_true] at hkk
    obtain ⟨h1, h2, h3, h4⟩ := hkk
    have hs : s = wNm k := key_ext h1
    subst hs h2 h3 h4
    rw [World.var?_cell hg0 hv0, ← Array.getElem?_toList]
    have hj : j < 4 := (List.getElem?_eq_some_iff.1 hu).1
    have e3 := congrArg (fun l => l[j]?) e1
    simp only [List.getElem?_take, List.getElem?_drop, hj, if_true] at e3
    rw [e3]
    exact hu
  refine ⟨?_, hc⟩
  have h0 := hc 0 (by omega) 0 _ rfl
  unfold World.cell? at h0
  by_cases hz : 0 < W.heap.size
  · exact hz
  · have e : W.heap[0]? = none := Array.getElem?_eq_none (by omega)
    simp [e] at h0
theorem door_met (os : Os) (args : Array Value) : laidMetH Tryz.prog laidK ((World.doorLaid Tryz.prog 400 os).forCall (fun _ _ => 0) ⟨#[], args, []⟩).memory :=
  laidMetH_of_parts3 (fuel := 8) (laidMet_of_run' 8 (by kernel_rfl) (by kernel_rfl)) (by kernel_rfl) (by kernel_rfl)
end Go.Proofs.YtkfcklmkikaioaaGreatDoor
end
