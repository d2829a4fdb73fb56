/- Texts of mine, one behind the other: WiO, WiI. No statement of the seat is proved here. -/
import Derived.Test.YtlieolehpmobfaaGreatDoorWt10
import Derived.Test.YtlieolehpmobfaaGreatDoorWt6
import Derived.Test.YtlieolehpmobfaaGreatDoorWt3
section
namespace Go.Proofs.YtlieolehpmobfaaGreatDoor
open Go.RowKit
set_option linter.all false
set_option maxRecDepth 100000
structure Ty (w : World) (b1 b2 b3 : Nat) (m : Ms) (vp vm ve um ue : Value) (dm : List Mk) (de : List En) (X : World) : Prop where
  x1 : Blk X b1 31 #[.int .i64 m.kd, .int .i64 m.pe, .int .i64 m.hp, .bool m.hi, vp, .int .i64 m.nu, .int .u64 (m.su : Int), .int .i64 m.mr.a.c, .int .i64 m.mr.a.s, .string m.mr.k, vm, ve]
  x2 : Blk X b2 45 #[.int .i64 0, .int .i64 0, .int .i64 0, .bool false, .slice none 0 0, .int .i64 0, .int .u64 0, .int .i64 0, .int .i64 0, .string ⟨#[]⟩, .slice none 0 0, .slice none 0 0]
  x3 : Blk X b3 45 #[.int .i64 m.kd, .int .i64 m.pe, .int .i64 m.hp, .bool m.hi, vp, .int .i64 m.nu, .int .u64 (m.su : Int), .int .i64 m.mr.a.c, .int .i64 m.mr.a.s, .string m.mr.k, um, ue]
  om : X.ownsRow w.heap.size 41 3 um dm.length (dm.flatMap mkI)
  oe : X.ownsRow w.heap.size 147 9 ue de.length (de.flatMap enRow)
  ho : Only none_ w X
  ge : w.heap.size ≤ b1 ∧ w.heap.size ≤ b2 ∧ w.heap.size ≤ b3 ∧ b1 ≠ b2 ∧ b1 ≠ b3 ∧ b2 ≠ b3
section
variable {w X X' : World} {b1 b2 b3 : Nat} {m : Ms} {vp vm ve um ue um' ue' : Value} {dm : List Mk} {de : List En}
theorem Ty.keep (h : Ty w b1 b2 b3 m vp vm ve um ue dm de X) (o : Only none_ X X') : Ty w b1 b2 b3 m vp vm ve um ue dm de X' :=
  ⟨h.x1.only o (fun h => h), h.x2.only o (fun h => h), h.x3.only o (fun h => h), owns_only h.om o (fun _ _ h => h), owns_only h.oe o (fun _ _ h => h), h.ho.trans o, h.ge⟩
theorem Ty.mark (h : Ty w b1 b2 b3 m vp vm ve um ue dm de X) (x : Mk) {n : Nat} {p : List Value} (own : X'.ownsRow w.heap.size 41 3 um' n p) (hn : n = dm.length + 1) (hp : p = dm.flatMap mkI ++ mkI x) (hg : X.grownBy X' um.ownBlock) :
    Ty w b1 b2 b3 m vp vm ve um' ue (dm ++ [x]) de (X'.setCell ⟨b3, 10, none⟩ um') := by
  subst hn hp
  have o : Only (fun b => um.ownBlock = some b) X X' := (Only.refl _ X).grown hg (fun k hk => .inl hk)
  have y1 := h.x1.only o (fun e => own_blk_ne h.om h.x1 (by decide) e)
  have y2 := h.x2.only o (fun e => own_blk_ne h.om h.x2 (by decide) e)
  have y3 := h.x3.only o (fun e => own_blk_ne h.om h.x3 (by decide) e)
  have ye := owns_only h.oe o (fun b hb e => own_apart h.oe h.om (by decide) b hb e)
  have oc : Only (one b3) X' (X'.setCell ⟨b3, 10, none⟩ um') := (Only.refl (one b3) X').setCell (p := ⟨b3, 10, none⟩) (.inl rfl) um'
  have g := h.ge
  refine ⟨y1.only oc (fun e => by have e' : b1 = b3 := e; exact g.2.2.2.2.1 e'), y2.only oc (fun e => by have e' : b2 = b3 := e; exact g.2.2.2.2.2 e'), by simpa using y3.set_ 10 um', ?_, owns_only ye oc (fun b hb e => by have e' : b = b3 := e; subst e'; exact own_blk_ne ye y3 (by decide) hb),
    (h.ho.grown hg (fun k hk => .inr (h.om.lt k hk).1)).setCell (p := ⟨b3, 10, none⟩) (.inr g.2.2.1) um', g⟩
  have z := owns_only own oc (fun b hb e => by have e' : b = b3 := e; subst e'; exact own_blk_ne own y3 (by decide) hb)
  rw [List.length_append, List.flatMap_append]
  simpa using z
theorem Ty.entry (h : Ty w b1 b2 b3 m vp vm ve um ue dm de X) (x : En) {n : Nat} {p : List Value} (own : X'.ownsRow w.heap.size 147 9 ue' n p) (hn : n = de.length + 1) (hp : p = de.flatMap enRow ++ enRow x) (hg : X.grownBy X' ue.ownBlock) :
    Ty w b1 b2 b3 m vp vm ve um ue' dm (de ++ [x]) (X'.setCell ⟨b3, 11, none⟩ ue') := by
  subst hn hp
  have o : Only (fun b => ue.ownBlock = some b) X X' := (Only.refl _ X).grown hg (fun k hk => .inl hk)
  have y1 := h.x1.only o (fun e => own_blk_ne h.oe h.x1 (by decide) e)
  have y2 := h.x2.only o (fun e => own_blk_ne h.oe h.x2 (by decide) e)
  have y3 := h.x3.only o (fun e => own_blk_ne h.oe h.x3 (by decide) e)
  have ye := owns_only h.om o (fun b hb e => own_apart h.om h.oe (by decide) b hb e)
  have oc : Only (one b3) X' (X'.setCell ⟨b3, 11, none⟩ ue') := (Only.refl (one b3) X').setCell (p := ⟨b3, 11, none⟩) (.inl rfl) ue'
  have g := h.ge
  refine ⟨y1.only oc (fun e => by have e' : b1 = b3 := e; exact g.2.2.2.2.1 e'), y2.only oc (fun e => by have e' : b2 = b3 := e; exact g.2.2.2.2.2 e'), by simpa using y3.set_ 11 ue', owns_only ye oc (fun b hb e => by have e' : b = b3 := e; subst e'; exact own_blk_ne ye y3 (by decide) hb), ?_,
    (h.ho.grown hg (fun k hk => .inr (h.oe.lt k hk).1)).setCell (p := ⟨b3, 11, none⟩) (.inr g.2.2.1) ue', g⟩
  have z := owns_only own oc (fun b hb e => by have e' : b = b3 := e; subst e'; exact own_blk_ne own y3 (by decide) hb)
  rw [List.length_append, List.flatMap_append]
  simpa using z
end
set_option maxHeartbeats 6400000 in
theorem lw_of (S : Nat → Prop) (m : Ms) (vp vm ve : Value) (w : World) (hl : Ml S m vp vm ve w) (hf : m.ms.length ≤ 1000 ∧ m.es.length ≤ 1000) :
    Calls Tryz.prog 17 #[.agg #[.int .i64 m.kd, .int .i64 m.pe, .int .i64 m.hp, .bool m.hi, vp, .int .i64 m.nu, .int .u64 (m.su : Int), .int .i64 m.mr.a.c, .int .i64 m.mr.a.s, .string m.mr.k, vm, ve]] w fun e w' => ∃ um ue, e = .returned (.agg #[.int .i64 m.kd, .int .i64 m.pe, .int .i64 m.hp, .bool m.hi, vp, .int .i64 m.nu, .int .u64 (m.su : Int), .int .i64 m.mr.a.c, .int .i64 m.mr.a.s, .string m.mr.k, um, ue]) ∧ Ml (fun b => S b ∨ w.heap.size ≤ b) m vp um ue w' ∧ Only none_ w w' := by
  have HL := Lib.hid (fun (w' : World) (o : Only none_ w w') => hl.keep o)
  obtain ⟨⟨A1, c1, ea, _⟩, ⟨A2, c2, eb, _⟩, ⟨A3, c3, ec, _⟩⟩ := hl
  obtain ⟨n1, hn1⟩ : ∃ n, m.ps.length = n := ⟨_, rfl⟩
  obtain ⟨n2, hn2⟩ : ∃ n, m.ms.length = n := ⟨_, rfl⟩
  obtain ⟨n3, hn3⟩ : ∃ n, m.es.length = n := ⟨_, rfl⟩
  rw [hn1] at ea
  rw [hn2] at eb hf
  rw [hn3] at ec hf
  subst ea eb ec
  obtain ⟨hf2, hf3⟩ := hf
  have N2 := Lib.hid hn2
  have N3 := Lib.hid hn3
  clear hn1 hn2 hn3
  obtain ⟨i0, hi0, hz0, hz1, hz2⟩ := rinfo_parts amark_info
  obtain ⟨j0, hj0, hy0, hy1, hy2⟩ := rinfo_parts aent_info
  obtain ⟨w0, hw0⟩ : ∃ w0, (w.alloc (.cells #[.int .i64 m.kd, .int .i64 m.pe, .int .i64 m.hp, .bool m.hi, .slice A1 n1 c1, .int .i64 m.nu, .int .u64 (m.su : Int), .int .i64 m.mr.a.c, .int .i64 m.mr.a.s, .string m.mr.k, .slice A2 n2 c2, .slice A3 n3 c3] 31)).alloc (.cells #[.int .i64 0, .int .i64 0, .int .i64 0, .bool false, .slice none 0 0, .int .i64 0, .int .u64 0, .int .i64 0, .int .i64 0, .string ⟨#[]⟩, .slice none 0 0, .slice none 0 0] 45) = w0 := ⟨_, rfl⟩
  have X1 : Hid (Blk w0 w.heap.size 31 #[.int .i64 m.kd, .int .i64 m.pe, .int .i64 m.hp, .bool m.hi, .slice A1 n1 c1, .int .i64 m.nu, .int .u64 (m.su : Int), .int .i64 m.mr.a.c, .int .i64 m.mr.a.s, .string m.mr.k, .slice A2 n2 c2, .slice A3 n3 c3]) := by rw [Hid, ← hw0]; exact (Blk.new w _ _).alloc _
  have X2 : Hid (Blk w0 (w.heap.size + 1) 45 #[.int .i64 0, .int .i64 0, .int .i64 0, .bool false, .slice none 0 0, .int .i64 0, .int .u64 0, .int .i64 0, .int .i64 0, .string ⟨#[]⟩, .slice none 0 0, .slice none 0 0]) := by
    rw [Hid, ← hw0]; have := Blk.new (w.alloc (.cells #[.int .i64 m.kd, .int .i64 m.pe, .int .i64 m.hp, .bool m.hi, .slice A1 n1 c1, .int .i64 m.nu, .int .u64 (m.su : Int), .int .i64 m.mr.a.c, .int .i64 m.mr.a.s, .string m.mr.k, .slice A2 n2 c2, .slice A3 n3 c3] 31)) 45 #[.int .i64 0, .int .i64 0, .int .i64 0, .bool false, .slice none 0 0, .int .i64 0, .int .u64 0, .int .i64 0, .int .i64 0, .string ⟨#[]⟩, .slice none 0 0, .slice none 0 0]; rwa [World.size_alloc] at this
  have O0 : Hid (Only none_ w w0) := by rw [Hid, ← hw0]; exact ((Only.refl none_ w).alloc _).alloc _
  have Z0 : Hid (w0.heap.size = w.heap.size + 2) := by rw [Hid, ← hw0]; simp
  have HW := Lib.hid hw0
  clear hw0
  go_enter Tryz.func17, Tryz.ntmps17
  go_upto_region 1 with fail
  rw [HW.out]
  (refine wp_region_free_tail (fun X => Only none_ w0 X) (Only none_) (F := ?_) (by kernel_rfl) 19 57 (by rfl) (by kernel_rfl) (fun x => ?_) ((Only.refl none_ w0).drew) ?_; rotate_left; (· (simp only [List.take_succ_cons, List.take_zero, putsL, Act.put, List.setIfInBounds_toArray, List.set_cons_zero, List.set_cons_succ, Nat.reduceAdd]; exact rfl)); simp only [List.take_succ_cons, List.take_zero, List.drop_succ_cons, List.drop_zero])
  repeat (first
    | ((first | refine fr_some (fun v _ => v = .agg #[.int .i64 m.mr.a.c, .int .i64 m.mr.a.s, .string m.mr.k]) (fun _ _ _ _ _ _ h => h) (by rfl) (fun x w0 hS hk => ?_) ?_ | refine fr_some_if (fun v _ => v = .agg #[.int .i64 m.mr.a.c, .int .i64 m.mr.a.s, .string m.mr.k]) (fun _ _ _ _ _ _ h => h) (by rfl) (by rfl) (by rfl) (fun x w0 hS hk => ?_) ?_); (· (have hk2 := hk; (try simp [knAll, Region.binds] at hk2); skip; refine got_call (f := 64) (args := ?_) (by go_simp; try (with_reducible rfl)) ?_; refine (mk_of m.mr _).mono ?_; rintro E w8 ⟨rfl, o8⟩; exact ⟨_, rfl, rfl, hS.trans o8, o8⟩)); try simp only [List.nil_append, List.cons_append])
    | ((first | refine fr_some (fun v X => ∃ b, v = .pointer (some ⟨b, 0, none⟩) ∧ w0.heap.size ≤ b ∧ Blk X b 45 #[.int .i64 0, .int .i64 0, .int .i64 0, .bool false, .slice none 0 0, .int .i64 0, .int .u64 0, .int .i64 0, .int .i64 0, .string ⟨#[]⟩, .slice none 0 0, .slice none 0 0]) (fun _ _ _ _ _ r ⟨b, h1, h2, h3⟩ => ⟨b, h1, h2, h3.only r (fun h => h)⟩) (by rfl) (fun x w0 hS hk => ?_) ?_ | refine fr_some_if (fun v X => ∃ b, v = .pointer (some ⟨b, 0, none⟩) ∧ w0.heap.size ≤ b ∧ Blk X b 45 #[.int .i64 0, .int .i64 0, .int .i64 0, .bool false, .slice none 0 0, .int .i64 0, .int .u64 0, .int .i64 0, .int .i64 0, .string ⟨#[]⟩, .slice none 0 0, .slice none 0 0]) (fun _ _ _ _ _ r ⟨b, h1, h2, h3⟩ => ⟨b, h1, h2, h3.only r (fun h => h)⟩) (by rfl) (by rfl) (by rfl) (fun x w0 hS hk => ?_) ?_); (· (have hk2 := hk; (try simp [knAll, Region.binds] at hk2); skip; refine got_value (v := ?_) (w' := ?_) (by go_simp; (first | with_reducible rfl | (refine ⟨?_, ?_⟩; with_reducible rfl; with_reducible rfl))) ?_; exact ⟨⟨_, rfl, hS.size, Blk.new _ _ _⟩, hS.alloc _, (Only.refl none_ _).alloc _⟩)); try simp only [List.nil_append, List.cons_append])
    | ((first | refine fr_value (c := ?_) (by rfl) (fun w => Only.refl none_ w) (fun x w0 hS hk => ?_) ?_ | refine fr_value_if (c := ?_) (by rfl) (by rfl) (by rfl) (fun w => Only.refl none_ w) (fun x w0 hS hk => ?_) ?_); rotate_left; (· (have hk2 := hk; (try simp [knAll, Region.binds] at hk2); have y := X1.out.only hS (fun h => h); have y0 := y.cell_ (i := 0) rfl; have y1 := y.cell_ (i := 1) rfl; have y2 := y.cell_ (i := 2) rfl; have y3 := y.cell_ (i := 3) rfl; have y4 := y.cell_ (i := 4) rfl; have y5 := y.cell_ (i := 5) rfl; have y6 := y.cell_ (i := 6) rfl; have y7 := y.cell_ (i := 7) rfl; have y8 := y.cell_ (i := 8) rfl; have y9 := y.cell_ (i := 9) rfl; go_simp; try (with_reducible rfl))); try simp only [List.nil_append, List.cons_append]))
  (refine fr_end ?_; intro x w9 hS hk)
  obtain ⟨b3, e18, h18, B18⟩ := kn_end_at 18 hk (by rfl)
  have e17 := kn_end_at 17 hk (by rfl)
  rw [Nat.zero_add] at e17 e18
  rw [e17, e18]
  clear hk e17 e18
  refine wpList_store_row rfl 45 _ _ rfl b3 #[.int .i64 m.kd, .int .i64 m.pe, .int .i64 m.hp, .bool m.hi, .slice A1 n1 c1, .int .i64 m.nu, .int .u64 (m.su : Int), .int .i64 m.mr.a.c, .int .i64 m.mr.a.s, .string m.mr.k, .slice none 0 0, .slice none 0 0] rfl rfl _ _ B18 (by kernel_rfl) rfl (ms_one _ _ _ _ _ _ _ _ _ _) ?_
  have hsz := X2.out.lt
  have hz0 := Z0.out
  have O1 : Only none_ w0 (w9.setRow b3 #[.int .i64 m.kd, .int .i64 m.pe, .int .i64 m.hp, .bool m.hi, .slice A1 n1 c1, .int .i64 m.nu, .int .u64 (m.su : Int), .int .i64 m.mr.a.c, .int .i64 m.mr.a.s, .string m.mr.k, .slice none 0 0, .slice none 0 0]) := hS.setRow (.inr h18) _
  have T1 : Hid (Ty w w.heap.size (w.heap.size + 1) b3 m (.slice A1 n1 c1) (.slice A2 n2 c2) (.slice A3 n3 c3) (.slice none 0 0) (.slice none 0 0) [] [] (w9.setRow b3 #[.int .i64 m.kd, .int .i64 m.pe, .int .i64 m.hp, .bool m.hi, .slice A1 n1 c1, .int .i64 m.nu, .int .u64 (m.su : Int), .int .i64 m.mr.a.c, .int .i64 m.mr.a.s, .string m.mr.k, .slice none 0 0, .slice none 0 0])) :=
    ⟨X1.out.only O1 (fun h => h), X2.out.only O1 (fun h => h), B18.setRow _, World.ownsRow_nil _ _ _ _, World.ownsRow_nil _ _ _ _, O0.out.trans O1, ⟨by omega, by omega, by omega, by omega, by omega, by omega⟩⟩
  clear hS B18 h18 hsz hz0 O1 X1 X2 O0 Z0 HW
  generalize w9.setRow b3 #[.int .i64 m.kd, .int .i64 m.pe, .int .i64 m.hp, .bool m.hi, .slice A1 n1 c1, .int .i64 m.nu, .int .u64 (m.su : Int), .int .i64 m.mr.a.c, .int .i64 m.mr.a.s, .string m.mr.k, .slice none 0 0, .slice none 0 0] = w10 at *
  obtain ⟨b1, hb1⟩ : ∃ b, w.heap.size = b := ⟨_, rfl⟩
  obtain ⟨b2, hb2⟩ : ∃ b, w.heap.size + 1 = b := ⟨_, rfl⟩
  rw [hb2, hb1] at T1 ⊢
  have k10 := T1.out.x1.cell_ (i := 10) rfl
  clear hb1 hb2
  go_wp2_with fail
  go_loopw [29] (fun s29 wr => ∃ i : Nat, i ≤ n2 ∧ s29 = .int .i64 i ∧ ∃ um, Ty w b1 b2 b3 m (.slice A1 n1 c1) (.slice A2 n2 c2) (.slice A3 n3 c3) um (.slice none 0 0) (m.ms.take i) [] wr) (fun s29 _ => n2 - (intOf s29).toNat)
  case atStart => exact ⟨0, by omega, rfl, _, by rw [List.take_zero]; exact T1.out⟩
  case round =>
    obtain ⟨i, hi, rfl, um, t⟩ := hrel
    obtain ⟨u, hu⟩ : ∃ u, u = um := ⟨_, rfl⟩
    have T2 := Lib.hid t
    by_cases hlt : i < n2
    · have hin : i < m.ms.length := by have := N2.out; omega
      obtain ⟨xm, hx⟩ : ∃ x, m.ms[i]? = some x := ⟨_, List.getElem?_eq_getElem hin⟩
      have hq := (HL.out _ t.ho).q
      rw [N2.out] at hq
      obtain ⟨a0, off0, hA, _, _, hc⟩ := in_elem mkI_len (by decide) hq N2.out hx
      subst hA
      have HCI : Hid (∀ j u, (#[.int .i64 xm.a.c, .int .i64 xm.a.s, .string xm.k] : Array Value).toList[j]? = some u → wr.cell? ⟨a0, off0 + i * 3 + j, none⟩ = some u) := fun j u hu => hc _ (Only.refl none_ _) j u hu
      have hsn : m.ms.take (i + 1) = m.ms.take i ++ [xm] := by rw [List.take_add_one, hx]; rfl
      obtain ⟨d, hd⟩ : ∃ d, m.ms.take i = d := ⟨_, rfl⟩
      have hdl : d.length = i := by rw [← hd, List.length_take]; have := N2.out; omega
      rw [hd] at T2 hsn t
      obtain ⟨A5, k5, hs5⟩ : ∃ A c, um = .slice A i c := by
        rcases t.om.2 with ⟨e, h0⟩ | ⟨_, _, _, e, _⟩
        · exact ⟨none, 0, by rw [e, ← hdl, h0]⟩
        · rw [hdl] at e; exact ⟨_, _, e⟩
      subst hs5
      have HSN := Lib.hid hsn
      have HDL := Lib.hid hdl
      have HLN : Hid (i + 1 ≤ maxLen ∧ (i + 1) * 32 ≤ 140737488355328) := by simp only [Hid, maxLen]; omega
      have N3b := Lib.hid (Blk.new wr 27 #[.int .i64 xm.a.c, .int .i64 xm.a.s, .string xm.k])
      have OX := Lib.hid ((Only.refl none_ wr).alloc (.cells #[.int .i64 xm.a.c, .int .i64 xm.a.s, .string xm.k] 27))
      clear hq hc hx hsn hd hdl t hu u
      go_upto_region 5 with (first
        | (refine wpl_piece rfl 27 _ rfl a0 (off0 + i * 3) rfl #[.int .i64 xm.a.c, .int .i64 xm.a.s, .string xm.k] _ HCI.out Tryz.underlying27 rfl (by kernel_rfl) ?_)
        | (refine wpl_new rfl rfl 27 rfl _ _ rfl #[.int .i64 xm.a.c, .int .i64 xm.a.s, .string xm.k] rfl rfl (by kernel_rfl) (mkI_one5 xm) ?_))
      generalize wr.heap.size = nb at *
      generalize wr.alloc (.cells #[.int .i64 xm.a.c, .int .i64 xm.a.s, .string xm.k] 27) = w3 at *
      have T3 := Lib.hid (T2.out.keep OX.out)
      (refine wp_region_free_tail (fun X => Only none_ w3 X) (Only none_) (F := ?_) (by kernel_rfl) 5 57 (by rfl) (by kernel_rfl) (fun x => ?_) ((Only.refl none_ w3).drew) ?_; rotate_left; (· (simp only [List.take_succ_cons, List.take_zero, putsL, Act.put, List.setIfInBounds_toArray, List.set_cons_zero, List.set_cons_succ, Nat.reduceAdd]; exact rfl)); simp only [List.take_succ_cons, List.take_zero, List.drop_succ_cons, List.drop_zero])
      repeat (first
        | ((first | refine fr_some (fun v _ => v = .agg #[.int .i64 xm.a.c, .int .i64 xm.a.s, .string xm.k]) (fun _ _ _ _ _ _ h => h) (by rfl) (fun x w0 hS hk => ?_) ?_ | refine fr_some_if (fun v _ => v = .agg #[.int .i64 xm.a.c, .int .i64 xm.a.s, .string xm.k]) (fun _ _ _ _ _ _ h => h) (by rfl) (by rfl) (by rfl) (fun x w0 hS hk => ?_) ?_); (· (have hk2 := hk; (try simp [knAll, Region.binds] at hk2); skip; refine got_call (f := 64) (args := ?_) (by go_simp; try (with_reducible rfl)) ?_; refine (mk_of xm _).mono ?_; rintro E w8 ⟨rfl, o8⟩; exact ⟨_, rfl, rfl, hS.trans o8, o8⟩)); try simp only [List.nil_append, List.cons_append])
        | ((first | refine fr_value (c := ?_) (by rfl) (fun w => Only.refl none_ w) (fun x w0 hS hk => ?_) ?_ | refine fr_value_if (c := ?_) (by rfl) (by rfl) (by rfl) (fun w => Only.refl none_ w) (fun x w0 hS hk => ?_) ?_); rotate_left; (· (have hk2 := hk; (try simp [knAll, Region.binds] at hk2); have q0 := (N3b.out.only hS (fun h => h)).cell_ (i := 0) rfl; have q1 := (N3b.out.only hS (fun h => h)).cell_ (i := 1) rfl; have q2 := (N3b.out.only hS (fun h => h)).cell_ (i := 2) rfl; have y := T3.out.x3.only hS (fun h => h); have y1 := y.cell_ (i := 10) rfl; go_simp; try (with_reducible rfl))); try simp only [List.nil_append, List.cons_append])
        | ((first | refine fr_some (fun v X => ∃ g, v = .slice (some ⟨g, 0, none⟩) 1 1 ∧ Blk X g 41 #[.int .i64 xm.a.c, .int .i64 xm.a.s, .string xm.k]) (fun _ _ _ _ _ r ⟨g, h1, h2⟩ => ⟨g, h1, h2.only r (fun h => h)⟩) (by rfl) (fun x w0 hS hk => ?_) ?_ | refine fr_some_if (fun v X => ∃ g, v = .slice (some ⟨g, 0, none⟩) 1 1 ∧ Blk X g 41 #[.int .i64 xm.a.c, .int .i64 xm.a.s, .string xm.k]) (fun _ _ _ _ _ r ⟨g, h1, h2⟩ => ⟨g, h1, h2.only r (fun h => h)⟩) (by rfl) (by rfl) (by rfl) (fun x w0 hS hk => ?_) ?_); (· (have hk2 := hk; (try simp [knAll, Region.binds] at hk2); have e3 := kn_at (j := 3) (by rfl) hk (by rfl); refine got_value (v := ?_) (w' := ?_) (by go_simp; (first | with_reducible rfl | (refine ⟨?_, ?_⟩; with_reducible rfl; with_reducible rfl))) ?_; exact ⟨⟨_, rfl, Blk.new _ _ _⟩, hS.alloc _, (Only.refl none_ _).alloc _⟩)); try simp only [List.nil_append, List.cons_append]))
      (refine fr_end ?_; intro x w9 hS hk)
      obtain ⟨g9, e10, bk9⟩ := kn_end_at 4 hk (by rfl)
      have e1 := kn_end_at 1 hk (by rfl)
      rw [Nat.zero_add] at e1 e10
      rw [e1, e10]
      have T4 := Lib.hid (T3.out.keep hS)
      have C9 : Hid (Cel w9 (fun j => j = g9) (.slice (some ⟨g9, 0, none⟩) 1 1) 1 3 (mkI xm)) := one_elem bk9 rfl
      clear hk e1 e10 hS bk9
      refine wpList_append_cel _ rfl (.tmp 34) (.tmp 37) 42 rfl w.heap.size 41 i0 _ 3 32 Tryz.underlying42 hi0 hz0 hz1 hz2 rfl (by omega) (.slice A5 i k5) i _ rfl (by have := T4.out.om; rw [HDL.out] at this; exact this) _ _ 1 _ rfl C9.out (mkI_one' xm) HLN.out.1 HLN.out.2 T4.out.ho.size ?_
      intro A6 n6 k6 w6 hown hgrow hmv
      have T6 : Hid (Ty w b1 b2 b3 m (.slice A1 n1 c1) _ (.slice A3 n3 c3) (.slice A6 n6 k6) (.slice none 0 0) (d ++ [xm]) [] (w6.setCell ⟨b3, 10, none⟩ (.slice A6 n6 k6))) :=
        T4.out.mark xm hown (by rw [HDL.out]) rfl hgrow
      have o6 : Only (fun b => (Value.slice A5 i k5).ownBlock = some b) w9 w6 := (Only.refl _ w9).grown hgrow (fun k hk => .inl hk)
      have y6 := T4.out.x3.only o6 (fun e => own_blk_ne T4.out.om T4.out.x3 (by decide) e)
      have c6 := y6.cell_ (i := 10) rfl
      have f6 := y6.frozen 10
      clear hown hgrow hmv o6 y6
      go_wp2_with fail
      go_roundw
      case rel => exact ⟨i + 1, by omega, by go_num, _, by rw [HSN.out]; exact T6.out⟩
      case measure => simp [intOf]; omega
    · obtain rfl : n2 = i := by omega
      rw [List.take_of_length_le (by have := N2.out; omega)] at T2
      obtain ⟨A7, c7, e7⟩ : ∃ A c, um = .slice A m.ms.length c := by
        rcases T2.out.om.2 with ⟨e, h0⟩ | ⟨_, _, _, e, _⟩
        · exact ⟨none, 0, by rw [e, h0]⟩
        · exact ⟨_, _, e⟩
      have TA := T2
      clear t hu u T2 T1 k10
      have k11 := TA.out.x1.cell_ (i := 11) rfl
      go_wp2_with fail
      go_loopw [44] (fun s44 wr => ∃ i : Nat, i ≤ n3 ∧ s44 = .int .i64 i ∧ ∃ ue, Ty w b1 b2 b3 m (.slice A1 n1 c1) (.slice A2 n2 c2) (.slice A3 n3 c3) um ue m.ms (m.es.take i) wr) (fun s44 _ => n3 - (intOf s44).toNat)
      case atStart => exact ⟨0, by omega, rfl, _, by rw [List.take_zero]; exact TA.out⟩
      case round =>
        obtain ⟨i, hi, rfl, ue, t⟩ := hrel
        obtain ⟨u, hu⟩ : ∃ u, u = ue := ⟨_, rfl⟩
        have TB := Lib.hid t
        by_cases hlt : i < n3
        · have hin : i < m.es.length := by have := N3.out; omega
          obtain ⟨xm, hx⟩ : ∃ x, m.es[i]? = some x := ⟨_, List.getElem?_eq_getElem hin⟩
          have hq := (HL.out _ t.ho).r
          rw [N3.out] at hq
          obtain ⟨a0, off0, hA, _, _, hc⟩ := in_elem enRow_length (by decide) hq N3.out hx
          subst hA
          have HCI : Hid (∀ j u, (#[.string xm.k, .string xm.v, .bool xm.d, .int .i64 xm.s.c, .int .i64 xm.s.s, .int .i64 xm.a.c, .int .i64 xm.a.s, .int .i64 xm.p, .int .i64 xm.g] : Array Value).toList[j]? = some u → wr.cell? ⟨a0, off0 + i * 9 + j, none⟩ = some u) := fun j u hu => hc _ (Only.refl none_ _) j u hu
          have hsn : m.es.take (i + 1) = m.es.take i ++ [xm] := by rw [List.take_add_one, hx]; rfl
          obtain ⟨d, hd⟩ : ∃ d, m.es.take i = d := ⟨_, rfl⟩
          have hdl : d.length = i := by rw [← hd, List.length_take]; have := N3.out; omega
          rw [hd] at TB hsn t
          obtain ⟨A5, k5, hs5⟩ : ∃ A c, ue = .slice A i c := by
            rcases t.oe.2 with ⟨e, h0⟩ | ⟨_, _, _, e, _⟩
            · exact ⟨none, 0, by rw [e, ← hdl, h0]⟩
            · rw [hdl] at e; exact ⟨_, _, e⟩
          subst hs5
          have HSN := Lib.hid hsn
          have HDL := Lib.hid hdl
          have HLN : Hid (i + 1 ≤ maxLen ∧ (i + 1) * 88 ≤ 140737488355328) := by simp only [Hid, maxLen]; omega
          have N5b := Lib.hid (Blk.new wr 123 #[.string xm.k, .string xm.v, .bool xm.d, .int .i64 xm.s.c, .int .i64 xm.s.s, .int .i64 xm.a.c, .int .i64 xm.a.s, .int .i64 xm.p, .int .i64 xm.g])
          have OX := Lib.hid ((Only.refl none_ wr).alloc (.cells #[.string xm.k, .string xm.v, .bool xm.d, .int .i64 xm.s.c, .int .i64 xm.s.s, .int .i64 xm.a.c, .int .i64 xm.a.s, .int .i64 xm.p, .int .i64 xm.g] 123))
          clear hq hc hx hsn hd hdl t hu u
          go_upto_region 10 with (first
            | (refine wpl_piece rfl 123 _ rfl a0 (off0 + i * 9) rfl #[.string xm.k, .string xm.v, .bool xm.d, .int .i64 xm.s.c, .int .i64 xm.s.s, .int .i64 xm.a.c, .int .i64 xm.a.s, .int .i64 xm.p, .int .i64 xm.g] _ HCI.out Tryz.underlying123 rfl (by kernel_rfl) ?_)
            | (refine wpl_new rfl rfl 123 rfl _ _ rfl #[.string xm.k, .string xm.v, .bool xm.d, .int .i64 xm.s.c, .int .i64 xm.s.s, .int .i64 xm.a.c, .int .i64 xm.a.s, .int .i64 xm.p, .int .i64 xm.g] rfl rfl (by kernel_rfl) (en_cells_one xm) ?_))
          generalize wr.heap.size = nb at *
          generalize wr.alloc (.cells #[.string xm.k, .string xm.v, .bool xm.d, .int .i64 xm.s.c, .int .i64 xm.s.s, .int .i64 xm.a.c, .int .i64 xm.a.s, .int .i64 xm.p, .int .i64 xm.g] 123) = w3 at *
          have T3 := Lib.hid (TB.out.keep OX.out)
          (refine wp_region_free_tail (fun X => Only none_ w3 X) (Only none_) (F := ?_) (by kernel_rfl) 5 57 (by rfl) (by kernel_rfl) (fun x => ?_) ((Only.refl none_ w3).drew) ?_; rotate_left; (· (simp only [List.take_succ_cons, List.take_zero, putsL, Act.put, List.setIfInBounds_toArray, List.set_cons_zero, List.set_cons_succ, Nat.reduceAdd]; exact rfl)); simp only [List.take_succ_cons, List.take_zero, List.drop_succ_cons, List.drop_zero])
          repeat (first
            | ((first | refine fr_some (fun v _ => v = .agg #[.string xm.k, .string xm.v, .bool xm.d, .int .i64 xm.s.c, .int .i64 xm.s.s, .int .i64 xm.a.c, .int .i64 xm.a.s, .int .i64 xm.p, .int .i64 xm.g]) (fun _ _ _ _ _ _ h => h) (by rfl) (fun x w0 hS hk => ?_) ?_ | refine fr_some_if (fun v _ => v = .agg #[.string xm.k, .string xm.v, .bool xm.d, .int .i64 xm.s.c, .int .i64 xm.s.s, .int .i64 xm.a.c, .int .i64 xm.a.s, .int .i64 xm.p, .int .i64 xm.g]) (fun _ _ _ _ _ _ h => h) (by rfl) (by rfl) (by rfl) (fun x w0 hS hk => ?_) ?_); (· (have hk2 := hk; (try simp [knAll, Region.binds] at hk2); skip; refine got_call (f := 65) (args := ?_) (by go_simp; try (with_reducible rfl)) ?_; refine (en_of xm _).mono ?_; rintro E w8 ⟨rfl, o8⟩; exact ⟨_, rfl, rfl, hS.trans o8, o8⟩)); try simp only [List.nil_append, List.cons_append])
            | ((first | refine fr_value (c := ?_) (by rfl) (fun w => Only.refl none_ w) (fun x w0 hS hk => ?_) ?_ | refine fr_value_if (c := ?_) (by rfl) (by rfl) (by rfl) (fun w => Only.refl none_ w) (fun x w0 hS hk => ?_) ?_); rotate_left; (· (have hk2 := hk; (try simp [knAll, Region.binds] at hk2); have q0 := (N5b.out.only hS (fun h => h)).cell_ (i := 0) rfl; have q1 := (N5b.out.only hS (fun h => h)).cell_ (i := 1) rfl; have q2 := (N5b.out.only hS (fun h => h)).cell_ (i := 2) rfl; have q3 := (N5b.out.only hS (fun h => h)).cell_ (i := 3) rfl; have q4 := (N5b.out.only hS (fun h => h)).cell_ (i := 4) rfl; have q5 := (N5b.out.only hS (fun h => h)).cell_ (i := 5) rfl; have q6 := (N5b.out.only hS (fun h => h)).cell_ (i := 6) rfl; have q7 := (N5b.out.only hS (fun h => h)).cell_ (i := 7) rfl; have q8 := (N5b.out.only hS (fun h => h)).cell_ (i := 8) rfl; have y := T3.out.x3.only hS (fun h => h); have y1 := y.cell_ (i := 11) rfl; go_simp; try (with_reducible rfl))); try simp only [List.nil_append, List.cons_append])
            | ((first | refine fr_some (fun v X => ∃ g, v = .slice (some ⟨g, 0, none⟩) 1 1 ∧ Blk X g 147 #[.string xm.k, .string xm.v, .bool xm.d, .int .i64 xm.s.c, .int .i64 xm.s.s, .int .i64 xm.a.c, .int .i64 xm.a.s, .int .i64 xm.p, .int .i64 xm.g]) (fun _ _ _ _ _ r ⟨g, h1, h2⟩ => ⟨g, h1, h2.only r (fun h => h)⟩) (by rfl) (fun x w0 hS hk => ?_) ?_ | refine fr_some_if (fun v X => ∃ g, v = .slice (some ⟨g, 0, none⟩) 1 1 ∧ Blk X g 147 #[.string xm.k, .string xm.v, .bool xm.d, .int .i64 xm.s.c, .int .i64 xm.s.s, .int .i64 xm.a.c, .int .i64 xm.a.s, .int .i64 xm.p, .int .i64 xm.g]) (fun _ _ _ _ _ r ⟨g, h1, h2⟩ => ⟨g, h1, h2.only r (fun h => h)⟩) (by rfl) (by rfl) (by rfl) (fun x w0 hS hk => ?_) ?_); (· (have hk2 := hk; (try simp [knAll, Region.binds] at hk2); have e3 := kn_at (j := 3) (by rfl) hk (by rfl); refine got_value (v := ?_) (w' := ?_) (by go_simp; (first | with_reducible rfl | (refine ⟨?_, ?_⟩; with_reducible rfl; with_reducible rfl))) ?_; exact ⟨⟨_, rfl, Blk.new _ _ _⟩, hS.alloc _, (Only.refl none_ _).alloc _⟩)); try simp only [List.nil_append, List.cons_append]))
          (refine fr_end ?_; intro x w9 hS hk)
          obtain ⟨g9, e10, bk9⟩ := kn_end_at 4 hk (by rfl)
          have e1 := kn_end_at 1 hk (by rfl)
          rw [Nat.zero_add] at e1 e10
          rw [e1, e10]
          have T4 := Lib.hid (T3.out.keep hS)
          have C9 : Hid (Cel w9 (fun j => j = g9) (.slice (some ⟨g9, 0, none⟩) 1 1) 1 9 (enRow xm)) := one_elem bk9 rfl
          clear hk e1 e10 hS bk9
          refine wpList_append_cel _ rfl (.tmp 49) (.tmp 52) 43 rfl w.heap.size 147 j0 _ 9 88 Tryz.underlying43 hj0 hy0 hy1 hy2 rfl (by omega) (.slice A5 i k5) i _ rfl (by have := T4.out.oe; rw [HDL.out] at this; exact this) _ _ 1 _ rfl C9.out (enRow_one xm) HLN.out.1 HLN.out.2 T4.out.ho.size ?_
          intro A6 n6 k6 w6 hown hgrow hmv
          have T6 : Hid (Ty w b1 b2 b3 m (.slice A1 n1 c1) (.slice A2 n2 c2) _ um (.slice A6 n6 k6) m.ms (d ++ [xm]) (w6.setCell ⟨b3, 11, none⟩ (.slice A6 n6 k6))) :=
            T4.out.entry xm hown (by rw [HDL.out]) rfl hgrow
          have o6 : Only (fun b => (Value.slice A5 i k5).ownBlock = some b) w9 w6 := (Only.refl _ w9).grown hgrow (fun k hk => .inl hk)
          have y6 := T4.out.x3.only o6 (fun e => own_blk_ne T4.out.oe T4.out.x3 (by decide) e)
          have c6 := y6.cell_ (i := 11) rfl
          have f6 := y6.frozen 11
          clear hown hgrow hmv o6 y6
          go_wp2_with fail
          go_roundw
          case rel => exact ⟨i + 1, by omega, by go_num, _, by rw [HSN.out]; exact T6.out⟩
          case measure => simp [intOf]; omega
        · obtain rfl : n3 = i := by omega
          rw [List.take_of_length_le (by have := N3.out; omega)] at TB
          obtain ⟨A8, c8, e8⟩ : ∃ A c, ue = .slice A m.es.length c := by
            rcases TB.out.oe.2 with ⟨e, h0⟩ | ⟨_, _, _, e, _⟩
            · exact ⟨none, 0, by rw [e, h0]⟩
            · exact ⟨_, _, e⟩
          subst e7 e8
          clear t hu u
          go_wp2_with (first
            | (refine wpl_load rfl 45 _ rfl b3 rfl 45 #[.int .i64 m.kd, .int .i64 m.pe, .int .i64 m.hp, .bool m.hi, .slice A1 n1 c1, .int .i64 m.nu, .int .u64 (m.su : Int), .int .i64 m.mr.a.c, .int .i64 m.mr.a.s, .string m.mr.k, .slice A7 m.ms.length c7, .slice A8 m.es.length c8] _ TB.out.x3 Tryz.underlying45 rfl (by kernel_rfl) ?_)
            | (refine wpList_store_row rfl 45 _ _ rfl b2 #[.int .i64 m.kd, .int .i64 m.pe, .int .i64 m.hp, .bool m.hi, .slice A1 n1 c1, .int .i64 m.nu, .int .u64 (m.su : Int), .int .i64 m.mr.a.c, .int .i64 m.mr.a.s, .string m.mr.k, .slice A7 m.ms.length c7, .slice A8 m.es.length c8] rfl rfl 45 _ TB.out.x2 (by kernel_rfl) rfl (ms_one _ _ _ _ _ _ _ _ _ _) ?_
               have R5 := Lib.hid (TB.out.x2.setRow #[.int .i64 m.kd, .int .i64 m.pe, .int .i64 m.hp, .bool m.hi, .slice A1 n1 c1, .int .i64 m.nu, .int .u64 (m.su : Int), .int .i64 m.mr.a.c, .int .i64 m.mr.a.s, .string m.mr.k, .slice A7 m.ms.length c7, .slice A8 m.es.length c8])
               have O5 := Lib.hid (TB.out.ho.setRow (g := b2) (.inr TB.out.ge.2.1) #[.int .i64 m.kd, .int .i64 m.pe, .int .i64 m.hp, .bool m.hi, .slice A1 n1 c1, .int .i64 m.nu, .int .u64 (m.su : Int), .int .i64 m.mr.a.c, .int .i64 m.mr.a.s, .string m.mr.k, .slice A7 m.ms.length c7, .slice A8 m.es.length c8])
               have M5 := Lib.hid ((Only.refl (one b2) wr).setRow (g := b2) (.inl rfl) #[.int .i64 m.kd, .int .i64 m.pe, .int .i64 m.hp, .bool m.hi, .slice A1 n1 c1, .int .i64 m.nu, .int .u64 (m.su : Int), .int .i64 m.mr.a.c, .int .i64 m.mr.a.s, .string m.mr.k, .slice A7 m.ms.length c7, .slice A8 m.es.length c8])))
          refine bodyPost_ret (results_cell_row rfl _ _ b2 45 _ (0, 0) _ rfl R5.out Tryz.underlying45 rfl (by kernel_rfl)) rfl ?_
          have g := TB.out.ge
          have hp := (HL.out _ O5.out).p
          exact ⟨_, _, rfl, ⟨hp.mono (fun b _ hb => .inl hb), ((Cel.of_own (owns_only TB.out.om M5.out (fun b hb e => own_blk_ne TB.out.om TB.out.x2 (by decide) (by rw [← (show b = b2 from e)]; exact hb)))).mono (fun b _ hb => .inr (TB.out.om.lt b hb).1)),
            ((Cel.of_own (owns_only TB.out.oe M5.out (fun b hb e => own_blk_ne TB.out.oe TB.out.x2 (by decide) (by rw [← (show b = b2 from e)]; exact hb)))).mono (fun b _ hb => .inr (TB.out.oe.lt b hb).1))⟩, O5.out⟩
end Go.Proofs.YtlieolehpmobfaaGreatDoor
end
section
namespace Go.Proofs.YtlieolehpmobfaaGreatDoor
open Go.RowKit
set_option linter.all false
set_option maxRecDepth 100000
theorem take_more {α : Type} {a b : List α} {i : Nat} {x : α} (h : a.take i = b.take i) (ha : a[i]? = some x) (hb : b[i]? = some x) : a.take (i + 1) = b.take (i + 1) := by
  rw [List.take_add_one, List.take_add_one, h, ha, hb]
theorem neq_int (x y : Int) (h : x ≠ y) : (x != y) = true := by simpa using h
set_option maxHeartbeats 3200000 in
theorem rl_int (S T : Nat → Prop) (l1 l2 : List Int) (v1 v2 : Value) (w : World) (h1 : Cel w S v1 l1.length 1 (l1.flatMap intI)) (h2 : Cel w T v2 l2.length 1 (l2.flatMap intI)) (hl : l1.length ≤ 4096 ∧ l2.length ≤ 4096) :
    Calls Tryz.prog 71 #[v1, v2] w fun e w' => ∃ b : Bool, e = .returned (.bool b) ∧ (b = true ↔ l1 = l2) ∧ Only none_ w w' := by
  obtain ⟨A, c, e1, _⟩ := id h1
  obtain ⟨A', c', e2, _⟩ := id h2
  subst e1 e2
  have HA := Lib.hid (fun (w' : World) (o : Only none_ w w') => h1.only o (fun _ _ h => h))
  have HB := Lib.hid (fun (w' : World) (o : Only none_ w w') => h2.only o (fun _ _ h => h))
  by_cases hne : l1.length = l2.length
  · obtain ⟨n, hn⟩ : ∃ n, l1.length = n := ⟨_, rfl⟩
    have hn2 : l2.length = n := hne.symm.trans hn
    rw [hn] at HA hl
    rw [hn2] at HB
    rw [hn, hn2]
    have hn9 : n ≤ 4096 := hl.1
    have HN := Lib.hid hn
    have HN2 := Lib.hid hn2
    have heq : ((n : Int) != (n : Int)) = false := by simp
    clear h1 h2 hne hn hn2 hl
    go_enter Tryz.func71, Tryz.ntmps71
    go_wp2_with fail
    go_loopw [5] (fun s wr => ∃ i : Nat, i ≤ n ∧ s = .int .i64 i ∧ Only none_ w wr ∧ l1.take i = l2.take i) (fun s _ => n - (intOf s).toNat)
    case atStart => exact ⟨0, by omega, rfl, Only.refl _ _, rfl⟩
    case round =>
      obtain ⟨i, hi, rfl, o, htk⟩ := hrel
      have O := Lib.hid o
      have HT := Lib.hid htk
      clear htk
      by_cases hlt : i < n
      · have hin : i < l1.length := by have := HN.out; omega
        have hin2 : i < l2.length := by have := HN2.out; omega
        obtain ⟨x, hx⟩ : ∃ x, l1[i]? = some x := ⟨_, List.getElem?_eq_getElem hin⟩
        obtain ⟨y, hy⟩ : ∃ y, l2[i]? = some y := ⟨_, List.getElem?_eq_getElem hin2⟩
        obtain ⟨a0, off0, hA, _, _, c0⟩ := in_elem intI_len (by decide) (HA.out _ o) HN.out hx
        obtain ⟨b0, off1, hB, _, _, c1⟩ := in_elem intI_len (by decide) (HB.out _ o) HN2.out hy
        subst hA hB
        have HX := Lib.hid hx
        have HY := Lib.hid hy
        have HK : Hid (∀ w', Only none_ wr w' → (∀ j u, (intI x)[j]? = some u → w'.cell? ⟨a0, off0 + i * 1 + j, none⟩ = some u) ∧ (∀ j u, (intI y)[j]? = some u → w'.cell? ⟨b0, off1 + i * 1 + j, none⟩ = some u)) := fun w' o' => ⟨c0 w' o', c1 w' o'⟩
        clear c0 c1 hx hy o
        by_cases hxy : x = y
        · subst hxy
          have hne : (x != x) = false := by simp
          go_wp2_with fail
          (refine wp_region_steady (fun w' => Only none_ wr w') 9 (by kernel_rfl) (by kernel_rfl) ((Only.refl none_ wr).drew) ?_; simp only [List.take_succ_cons, List.take_zero, List.drop_succ_cons, List.drop_zero])
          repeat (first
            | (refine sd_value (v := ?_) (by rfl) (fun w0 hS => ?_) ?_; rotate_left; (· (have p0 := (HK.out _ hS).1 0 _ rfl; have q0 := (HK.out _ hS).2 0 _ rfl; simp only [Nat.add_zero, Nat.mul_one] at p0 q0; go_simp; try (with_reducible rfl))); try simp only [Act.put, List.setIfInBounds_toArray, List.set_cons_zero, List.set_cons_succ]))
          refine sd_nil ?_
          intro w3 t3
          have T3 := Lib.hid t3
          clear t3
          go_wp2_with fail
          go_roundw
          case rel => exact ⟨i + 1, by omega, by go_num, O.out.trans T3.out, take_more HT.out HX.out HY.out⟩
          case measure => simp [intOf]; omega
        · have HNE : Hid (¬ l1 = l2) := fun e => hxy (by have a := HX.out; rw [e, HY.out] at a; exact (Option.some.inj a).symm)
          have hne : (x != y) = true := neq_int x y hxy
          clear hxy
          go_wp2_with fail
          (refine wp_region_steady (fun w' => Only none_ wr w') 9 (by kernel_rfl) (by kernel_rfl) ((Only.refl none_ wr).drew) ?_; simp only [List.take_succ_cons, List.take_zero, List.drop_succ_cons, List.drop_zero])
          repeat (first
            | (refine sd_value (v := ?_) (by rfl) (fun w0 hS => ?_) ?_; rotate_left; (· (have p0 := (HK.out _ hS).1 0 _ rfl; have q0 := (HK.out _ hS).2 0 _ rfl; simp only [Nat.add_zero, Nat.mul_one] at p0 q0; go_simp; try (with_reducible rfl))); try simp only [Act.put, List.setIfInBounds_toArray, List.set_cons_zero, List.set_cons_succ]))
          refine sd_nil ?_
          intro w3 t3
          have T3 := Lib.hid t3
          clear t3
          go_wp2_with fail
          go_ret
          exact ⟨false, rfl, ⟨(fun h => by cases h), fun h => absurd h HNE.out⟩, O.out.trans T3.out⟩
      · have hin : l1 = l2 := by
          have a := HT.out
          rwa [List.take_of_length_le (by have := HN.out; omega), List.take_of_length_le (by have := HN2.out; omega)] at a
        have HE := Lib.hid hin
        clear o hin
        go_wp2_with fail
        go_ret
        exact ⟨true, rfl, ⟨fun _ => HE.out, fun _ => rfl⟩, O.out⟩
  · have hb : ((l1.length : Int) != (l2.length : Int)) = true := neq_int _ _ (fun e => hne (by omega))
    have HNE : Hid (¬ l1 = l2) := fun e => hne (by rw [e])
    clear hne h1 h2 HA HB hl
    go_enter Tryz.func71, Tryz.ntmps71
    go_wp2_with fail
    go_ret
    exact ⟨false, rfl, ⟨(fun h => by cases h), fun h => absurd h HNE.out⟩, Only.refl _ _⟩
set_option maxHeartbeats 3200000 in
theorem rl_mk (S T : Nat → Prop) (l1 l2 : List Mk) (v1 v2 : Value) (w : World) (h1 : Cel w S v1 l1.length 3 (l1.flatMap mkI)) (h2 : Cel w T v2 l2.length 3 (l2.flatMap mkI)) (hl : l1.length ≤ 4096 ∧ l2.length ≤ 4096) :
    Calls Tryz.prog 72 #[v1, v2] w fun e w' => ∃ b : Bool, e = .returned (.bool b) ∧ (b = true ↔ l1 = l2) ∧ Only none_ w w' := by
  obtain ⟨A, c, e1, _⟩ := id h1
  obtain ⟨A', c', e2, _⟩ := id h2
  subst e1 e2
  have HA := Lib.hid (fun (w' : World) (o : Only none_ w w') => h1.only o (fun _ _ h => h))
  have HB := Lib.hid (fun (w' : World) (o : Only none_ w w') => h2.only o (fun _ _ h => h))
  by_cases hne : l1.length = l2.length
  · obtain ⟨n, hn⟩ : ∃ n, l1.length = n := ⟨_, rfl⟩
    have hn2 : l2.length = n := hne.symm.trans hn
    rw [hn] at HA hl
    rw [hn2] at HB
    rw [hn, hn2]
    have hn9 : n ≤ 4096 := hl.1
    have HN := Lib.hid hn
    have HN2 := Lib.hid hn2
    have heq : ((n : Int) != (n : Int)) = false := by simp
    clear h1 h2 hne hn hn2 hl
    go_enter Tryz.func72, Tryz.ntmps72
    go_wp2_with fail
    go_loopw [5] (fun s wr => ∃ i : Nat, i ≤ n ∧ s = .int .i64 i ∧ Only none_ w wr ∧ l1.take i = l2.take i) (fun s _ => n - (intOf s).toNat)
    case atStart => exact ⟨0, by omega, rfl, Only.refl _ _, rfl⟩
    case round =>
      obtain ⟨i, hi, rfl, o, htk⟩ := hrel
      have O := Lib.hid o
      have HT := Lib.hid htk
      clear htk
      by_cases hlt : i < n
      · have hin : i < l1.length := by have := HN.out; omega
        have hin2 : i < l2.length := by have := HN2.out; omega
        obtain ⟨x, hx⟩ : ∃ x, l1[i]? = some x := ⟨_, List.getElem?_eq_getElem hin⟩
        obtain ⟨y, hy⟩ : ∃ y, l2[i]? = some y := ⟨_, List.getElem?_eq_getElem hin2⟩
        obtain ⟨a0, off0, hA, _, _, c0⟩ := in_elem mkI_len (by decide) (HA.out _ o) HN.out hx
        obtain ⟨b0, off1, hB, _, _, c1⟩ := in_elem mkI_len (by decide) (HB.out _ o) HN2.out hy
        subst hA hB
        have HX := Lib.hid hx
        have HY := Lib.hid hy
        have HK : Hid (∀ w', Only none_ wr w' → (∀ j u, (mkI x)[j]? = some u → w'.cell? ⟨a0, off0 + i * 3 + j, none⟩ = some u) ∧ (∀ j u, (mkI y)[j]? = some u → w'.cell? ⟨b0, off1 + i * 3 + j, none⟩ = some u)) := fun w' o' => ⟨c0 w' o', c1 w' o'⟩
        clear c0 c1 hx hy o
        by_cases hxy : x = y
        · subst hxy
          have hne := fun w => neqR w x x
          rw [(mkSame_iff _ _).2 rfl] at hne
          obtain ⟨⟨xc, xs⟩, xk⟩ := x
          simp only [] at hne HK
          go_wp2_with fail
          (refine wp_region_steady (fun w' => Only none_ wr w') 9 (by kernel_rfl) (by kernel_rfl) ((Only.refl none_ wr).drew) ?_; simp only [List.take_succ_cons, List.take_zero, List.drop_succ_cons, List.drop_zero])
          repeat (first
            | (refine sd_value (v := ?_) (by rfl) (fun w0 hS => ?_) ?_; rotate_left; (· (have p0 := (HK.out _ hS).1 0 _ rfl; have p1 := (HK.out _ hS).1 1 _ rfl; have p2 := (HK.out _ hS).1 2 _ rfl; have q0 := (HK.out _ hS).2 0 _ rfl; have q1 := (HK.out _ hS).2 1 _ rfl; have q2 := (HK.out _ hS).2 2 _ rfl; simp only [Nat.add_zero, Nat.mul_one] at p0 q0; go_simp; try (with_reducible rfl))); try simp only [Act.put, List.setIfInBounds_toArray, List.set_cons_zero, List.set_cons_succ]))
          refine sd_nil ?_
          intro w3 t3
          have T3 := Lib.hid t3
          clear t3
          go_wp2_with fail
          go_roundw
          case rel => exact ⟨i + 1, by omega, by go_num, O.out.trans T3.out, take_more HT.out HX.out HY.out⟩
          case measure => simp [intOf]; omega
        · have HNE : Hid (¬ l1 = l2) := fun e => hxy (by have a := HX.out; rw [e, HY.out] at a; exact (Option.some.inj a).symm)
          have hne := fun w => neqR w x y
          rw [show mkSame x y = false from by rw [Bool.eq_false_iff]; exact fun h => hxy ((mkSame_iff _ _).1 h)] at hne
          obtain ⟨⟨xc, xs⟩, xk⟩ := x
          obtain ⟨⟨yc, ys⟩, yk⟩ := y
          simp only [] at hne HK
          clear hxy
          go_wp2_with fail
          (refine wp_region_steady (fun w' => Only none_ wr w') 9 (by kernel_rfl) (by kernel_rfl) ((Only.refl none_ wr).drew) ?_; simp only [List.take_succ_cons, List.take_zero, List.drop_succ_cons, List.drop_zero])
          repeat (first
            | (refine sd_value (v := ?_) (by rfl) (fun w0 hS => ?_) ?_; rotate_left; (· (have p0 := (HK.out _ hS).1 0 _ rfl; have p1 := (HK.out _ hS).1 1 _ rfl; have p2 := (HK.out _ hS).1 2 _ rfl; have q0 := (HK.out _ hS).2 0 _ rfl; have q1 := (HK.out _ hS).2 1 _ rfl; have q2 := (HK.out _ hS).2 2 _ rfl; simp only [Nat.add_zero, Nat.mul_one] at p0 q0; go_simp; try (with_reducible rfl))); try simp only [Act.put, List.setIfInBounds_toArray, List.set_cons_zero, List.set_cons_succ]))
          refine sd_nil ?_
          intro w3 t3
          have T3 := Lib.hid t3
          clear t3
          go_wp2_with fail
          go_ret
          exact ⟨false, rfl, ⟨(fun h => by cases h), fun h => absurd h HNE.out⟩, O.out.trans T3.out⟩
      · have hin : l1 = l2 := by
          have a := HT.out
          rwa [List.take_of_length_le (by have := HN.out; omega), List.take_of_length_le (by have := HN2.out; omega)] at a
        have HE := Lib.hid hin
        clear o hin
        go_wp2_with fail
        go_ret
        exact ⟨true, rfl, ⟨fun _ => HE.out, fun _ => rfl⟩, O.out⟩
  · have hb : ((l1.length : Int) != (l2.length : Int)) = true := neq_int _ _ (fun e => hne (by omega))
    have HNE : Hid (¬ l1 = l2) := fun e => hne (by rw [e])
    clear hne h1 h2 HA HB hl
    go_enter Tryz.func72, Tryz.ntmps72
    go_wp2_with fail
    go_ret
    exact ⟨false, rfl, ⟨(fun h => by cases h), fun h => absurd h HNE.out⟩, Only.refl _ _⟩
set_option maxHeartbeats 3200000 in
theorem rl_en (S T : Nat → Prop) (l1 l2 : List En) (v1 v2 : Value) (w : World) (h1 : Cel w S v1 l1.length 9 (l1.flatMap enRow)) (h2 : Cel w T v2 l2.length 9 (l2.flatMap enRow)) (hl : l1.length ≤ 4096 ∧ l2.length ≤ 4096) :
    Calls Tryz.prog 73 #[v1, v2] w fun e w' => ∃ b : Bool, e = .returned (.bool b) ∧ (b = true ↔ l1 = l2) ∧ Only none_ w w' := by
  obtain ⟨A, c, e1, _⟩ := id h1
  obtain ⟨A', c', e2, _⟩ := id h2
  subst e1 e2
  have HA := Lib.hid (fun (w' : World) (o : Only none_ w w') => h1.only o (fun _ _ h => h))
  have HB := Lib.hid (fun (w' : World) (o : Only none_ w w') => h2.only o (fun _ _ h => h))
  by_cases hne : l1.length = l2.length
  · obtain ⟨n, hn⟩ : ∃ n, l1.length = n := ⟨_, rfl⟩
    have hn2 : l2.length = n := hne.symm.trans hn
    rw [hn] at HA hl
    rw [hn2] at HB
    rw [hn, hn2]
    have hn9 : n ≤ 4096 := hl.1
    have HN := Lib.hid hn
    have HN2 := Lib.hid hn2
    have heq : ((n : Int) != (n : Int)) = false := by simp
    clear h1 h2 hne hn hn2 hl
    go_enter Tryz.func73, Tryz.ntmps73
    go_wp2_with fail
    go_loopw [5] (fun s wr => ∃ i : Nat, i ≤ n ∧ s = .int .i64 i ∧ Only none_ w wr ∧ l1.take i = l2.take i) (fun s _ => n - (intOf s).toNat)
    case atStart => exact ⟨0, by omega, rfl, Only.refl _ _, rfl⟩
    case round =>
      obtain ⟨i, hi, rfl, o, htk⟩ := hrel
      have O := Lib.hid o
      have HT := Lib.hid htk
      clear htk
      by_cases hlt : i < n
      · have hin : i < l1.length := by have := HN.out; omega
        have hin2 : i < l2.length := by have := HN2.out; omega
        obtain ⟨x, hx⟩ : ∃ x, l1[i]? = some x := ⟨_, List.getElem?_eq_getElem hin⟩
        obtain ⟨y, hy⟩ : ∃ y, l2[i]? = some y := ⟨_, List.getElem?_eq_getElem hin2⟩
        obtain ⟨a0, off0, hA, _, _, c0⟩ := in_elem enRow_length (by decide) (HA.out _ o) HN.out hx
        obtain ⟨b0, off1, hB, _, _, c1⟩ := in_elem enRow_length (by decide) (HB.out _ o) HN2.out hy
        subst hA hB
        have HX := Lib.hid hx
        have HY := Lib.hid hy
        have HK : Hid (∀ w', Only none_ wr w' → (∀ j u, (enRow x)[j]? = some u → w'.cell? ⟨a0, off0 + i * 9 + j, none⟩ = some u) ∧ (∀ j u, (enRow y)[j]? = some u → w'.cell? ⟨b0, off1 + i * 9 + j, none⟩ = some u)) := fun w' o' => ⟨c0 w' o', c1 w' o'⟩
        clear c0 c1 hx hy o
        by_cases hxy : x = y
        · subst hxy
          have hne := fun w => neq_of (eq_ref_entry w x x 9997)
          rw [enEq_refl] at hne
          obtain ⟨xk, xv, xd, ⟨xsc, xss⟩, ⟨xac, xas⟩, xp, xg⟩ := x
          simp only [] at hne HK
          go_wp2_with fail
          (refine wp_region_steady (fun w' => Only none_ wr w') 9 (by kernel_rfl) (by kernel_rfl) ((Only.refl none_ wr).drew) ?_; simp only [List.take_succ_cons, List.take_zero, List.drop_succ_cons, List.drop_zero])
          repeat (first
            | (refine sd_value (v := ?_) (by rfl) (fun w0 hS => ?_) ?_; rotate_left; (· (have p0 := (HK.out _ hS).1 0 _ rfl; have p1 := (HK.out _ hS).1 1 _ rfl; have p2 := (HK.out _ hS).1 2 _ rfl; have p3 := (HK.out _ hS).1 3 _ rfl; have p4 := (HK.out _ hS).1 4 _ rfl; have p5 := (HK.out _ hS).1 5 _ rfl; have p6 := (HK.out _ hS).1 6 _ rfl; have p7 := (HK.out _ hS).1 7 _ rfl; have p8 := (HK.out _ hS).1 8 _ rfl; have q0 := (HK.out _ hS).2 0 _ rfl; have q1 := (HK.out _ hS).2 1 _ rfl; have q2 := (HK.out _ hS).2 2 _ rfl; have q3 := (HK.out _ hS).2 3 _ rfl; have q4 := (HK.out _ hS).2 4 _ rfl; have q5 := (HK.out _ hS).2 5 _ rfl; have q6 := (HK.out _ hS).2 6 _ rfl; have q7 := (HK.out _ hS).2 7 _ rfl; have q8 := (HK.out _ hS).2 8 _ rfl; simp only [Nat.add_zero, Nat.mul_one] at p0 q0; go_simp; try (with_reducible rfl))); try simp only [Act.put, List.setIfInBounds_toArray, List.set_cons_zero, List.set_cons_succ]))
          refine sd_nil ?_
          intro w3 t3
          have T3 := Lib.hid t3
          clear t3
          go_wp2_with fail
          go_roundw
          case rel => exact ⟨i + 1, by omega, by go_num, O.out.trans T3.out, take_more HT.out HX.out HY.out⟩
          case measure => simp [intOf]; omega
        · have HNE : Hid (¬ l1 = l2) := fun e => hxy (by have a := HX.out; rw [e, HY.out] at a; exact (Option.some.inj a).symm)
          have hne := fun w => neq_of (eq_ref_entry w x y 9997)
          rw [show enEq x y = false from by rw [Bool.eq_false_iff]; exact fun h => hxy ((enEq_iff _ _).1 h)] at hne
          obtain ⟨xk, xv, xd, ⟨xsc, xss⟩, ⟨xac, xas⟩, xp, xg⟩ := x
          obtain ⟨yk, yv, yd, ⟨ysc, yss⟩, ⟨yac, yas⟩, yp, yg⟩ := y
          simp only [] at hne HK
          clear hxy
          go_wp2_with fail
          (refine wp_region_steady (fun w' => Only none_ wr w') 9 (by kernel_rfl) (by kernel_rfl) ((Only.refl none_ wr).drew) ?_; simp only [List.take_succ_cons, List.take_zero, List.drop_succ_cons, List.drop_zero])
          repeat (first
            | (refine sd_value (v := ?_) (by rfl) (fun w0 hS => ?_) ?_; rotate_left; (· (have p0 := (HK.out _ hS).1 0 _ rfl; have p1 := (HK.out _ hS).1 1 _ rfl; have p2 := (HK.out _ hS).1 2 _ rfl; have p3 := (HK.out _ hS).1 3 _ rfl; have p4 := (HK.out _ hS).1 4 _ rfl; have p5 := (HK.out _ hS).1 5 _ rfl; have p6 := (HK.out _ hS).1 6 _ rfl; have p7 := (HK.out _ hS).1 7 _ rfl; have p8 := (HK.out _ hS).1 8 _ rfl; have q0 := (HK.out _ hS).2 0 _ rfl; have q1 := (HK.out _ hS).2 1 _ rfl; have q2 := (HK.out _ hS).2 2 _ rfl; have q3 := (HK.out _ hS).2 3 _ rfl; have q4 := (HK.out _ hS).2 4 _ rfl; have q5 := (HK.out _ hS).2 5 _ rfl; have q6 := (HK.out _ hS).2 6 _ rfl; have q7 := (HK.out _ hS).2 7 _ rfl; have q8 := (HK.out _ hS).2 8 _ rfl; simp only [Nat.add_zero, Nat.mul_one] at p0 q0; go_simp; try (with_reducible rfl))); try simp only [Act.put, List.setIfInBounds_toArray, List.set_cons_zero, List.set_cons_succ]))
          refine sd_nil ?_
          intro w3 t3
          have T3 := Lib.hid t3
          clear t3
          go_wp2_with fail
          go_ret
          exact ⟨false, rfl, ⟨(fun h => by cases h), fun h => absurd h HNE.out⟩, O.out.trans T3.out⟩
      · have hin : l1 = l2 := by
          have a := HT.out
          rwa [List.take_of_length_le (by have := HN.out; omega), List.take_of_length_le (by have := HN2.out; omega)] at a
        have HE := Lib.hid hin
        clear o hin
        go_wp2_with fail
        go_ret
        exact ⟨true, rfl, ⟨fun _ => HE.out, fun _ => rfl⟩, O.out⟩
  · have hb : ((l1.length : Int) != (l2.length : Int)) = true := neq_int _ _ (fun e => hne (by omega))
    have HNE : Hid (¬ l1 = l2) := fun e => hne (by rw [e])
    clear hne h1 h2 HA HB hl
    go_enter Tryz.func73, Tryz.ntmps73
    go_wp2_with fail
    go_ret
    exact ⟨false, rfl, ⟨(fun h => by cases h), fun h => absurd h HNE.out⟩, Only.refl _ _⟩
set_option maxHeartbeats 3200000 in
theorem pl_int (S T : Nat → Prop) (l1 l2 : List Int) (v1 v2 : Value) (w : World) (h1 : Cel w S v1 l1.length 1 (l1.flatMap intI)) (h2 : Cel w T v2 l2.length 1 (l2.flatMap intI)) (hl : l1.length ≤ 4096 ∧ l2.length ≤ 4096) :
    Calls Tryz.prog 68 #[v1, v2] w fun e w' => ∃ b : Bool, e = .returned (.bool b) ∧ (b = true ↔ l1 = l2) ∧ Only none_ w w' := by
  obtain ⟨A, c, e1, _⟩ := id h1
  obtain ⟨A', c', e2, _⟩ := id h2
  subst e1 e2
  have HA := Lib.hid (fun (w' : World) (o : Only none_ w w') => h1.only o (fun _ _ h => h))
  have HB := Lib.hid (fun (w' : World) (o : Only none_ w w') => h2.only o (fun _ _ h => h))
  by_cases hne : l1.length = l2.length
  · obtain ⟨n, hn⟩ : ∃ n, l1.length = n := ⟨_, rfl⟩
    have hn2 : l2.length = n := hne.symm.trans hn
    rw [hn] at HA hl
    rw [hn2] at HB
    rw [hn, hn2]
    have hn9 : n ≤ 4096 := hl.1
    have HN := Lib.hid hn
    have HN2 := Lib.hid hn2
    have heq : ((n : Int) != (n : Int)) = false := by simp
    clear h1 h2 hne hn hn2 hl
    go_enter Tryz.func68, Tryz.ntmps68
    go_wp2_with fail
    go_loopw [13] (fun s wr => ∃ i : Nat, i ≤ n ∧ s = .int .i64 i ∧ Only none_ w wr ∧ l1.take i = l2.take i) (fun s _ => n - (intOf s).toNat)
    case atStart => exact ⟨0, by omega, rfl, Only.refl _ _, rfl⟩
    case round =>
      obtain ⟨i, hi, rfl, o, htk⟩ := hrel
      have O := Lib.hid o
      have HT := Lib.hid htk
      clear htk
      by_cases hlt : i < n
      · have hin : i < l1.length := by have := HN.out; omega
        have hin2 : i < l2.length := by have := HN2.out; omega
        obtain ⟨x, hx⟩ : ∃ x, l1[i]? = some x := ⟨_, List.getElem?_eq_getElem hin⟩
        obtain ⟨y, hy⟩ : ∃ y, l2[i]? = some y := ⟨_, List.getElem?_eq_getElem hin2⟩
        obtain ⟨a0, off0, hA, _, _, c0⟩ := in_elem intI_len (by decide) (HA.out _ o) HN.out hx
        obtain ⟨b0, off1, hB, _, _, c1⟩ := in_elem intI_len (by decide) (HB.out _ o) HN2.out hy
        subst hA hB
        have HX := Lib.hid hx
        have HY := Lib.hid hy
        have HK : Hid (∀ w', Only none_ wr w' → (∀ j u, (intI x)[j]? = some u → w'.cell? ⟨a0, off0 + i * 1 + j, none⟩ = some u) ∧ (∀ j u, (intI y)[j]? = some u → w'.cell? ⟨b0, off1 + i * 1 + j, none⟩ = some u)) := fun w' o' => ⟨c0 w' o', c1 w' o'⟩
        clear c0 c1 hx hy o
        by_cases hxy : x = y
        · subst hxy
          have hne : (x != x) = false := by simp
          go_wp2_with fail
          (refine wp_region_steady (fun w' => Only none_ wr w') 9 (by kernel_rfl) (by kernel_rfl) ((Only.refl none_ wr).drew) ?_; simp only [List.take_succ_cons, List.take_zero, List.drop_succ_cons, List.drop_zero])
          repeat (first
            | (refine sd_value (v := ?_) (by rfl) (fun w0 hS => ?_) ?_; rotate_left; (· (have p0 := (HK.out _ hS).1 0 _ rfl; have q0 := (HK.out _ hS).2 0 _ rfl; simp only [Nat.add_zero, Nat.mul_one] at p0 q0; go_simp; try (with_reducible rfl))); try simp only [Act.put, List.setIfInBounds_toArray, List.set_cons_zero, List.set_cons_succ]))
          refine sd_nil ?_
          intro w3 t3
          have T3 := Lib.hid t3
          clear t3
          go_wp2_with fail
          go_roundw
          case rel => exact ⟨i + 1, by omega, by go_num, O.out.trans T3.out, take_more HT.out HX.out HY.out⟩
          case measure => simp [intOf]; omega
        · have HNE : Hid (¬ l1 = l2) := fun e => hxy (by have a := HX.out; rw [e, HY.out] at a; exact (Option.some.inj a).symm)
          have hne : (x != y) = true := neq_int x y hxy
          clear hxy
          go_wp2_with fail
          (refine wp_region_steady (fun w' => Only none_ wr w') 9 (by kernel_rfl) (by kernel_rfl) ((Only.refl none_ wr).drew) ?_; simp only [List.take_succ_cons, List.take_zero, List.drop_succ_cons, List.drop_zero])
          repeat (first
            | (refine sd_value (v := ?_) (by rfl) (fun w0 hS => ?_) ?_; rotate_left; (· (have p0 := (HK.out _ hS).1 0 _ rfl; have q0 := (HK.out _ hS).2 0 _ rfl; simp only [Nat.add_zero, Nat.mul_one] at p0 q0; go_simp; try (with_reducible rfl))); try simp only [Act.put, List.setIfInBounds_toArray, List.set_cons_zero, List.set_cons_succ]))
          refine sd_nil ?_
          intro w3 t3
          have T3 := Lib.hid t3
          clear t3
          go_wp2_with fail
          go_ret
          exact ⟨false, rfl, ⟨(fun h => by cases h), fun h => absurd h HNE.out⟩, O.out.trans T3.out⟩
      · have hin : l1 = l2 := by
          have a := HT.out
          rwa [List.take_of_length_le (by have := HN.out; omega), List.take_of_length_le (by have := HN2.out; omega)] at a
        have HE := Lib.hid hin
        clear o hin
        go_wp2_with fail
        go_ret
        exact ⟨true, rfl, ⟨fun _ => HE.out, fun _ => rfl⟩, O.out⟩
  · have hb : ((l1.length : Int) != (l2.length : Int)) = true := neq_int _ _ (fun e => hne (by omega))
    have HNE : Hid (¬ l1 = l2) := fun e => hne (by rw [e])
    clear hne h1 h2 HA HB hl
    go_enter Tryz.func68, Tryz.ntmps68
    go_wp2_with fail
    go_ret
    exact ⟨false, rfl, ⟨(fun h => by cases h), fun h => absurd h HNE.out⟩, Only.refl _ _⟩
set_option maxHeartbeats 3200000 in
theorem pl_mk (S T : Nat → Prop) (l1 l2 : List Mk) (v1 v2 : Value) (w : World) (h1 : Cel w S v1 l1.length 3 (l1.flatMap mkI)) (h2 : Cel w T v2 l2.length 3 (l2.flatMap mkI)) (hl : l1.length ≤ 4096 ∧ l2.length ≤ 4096) :
    Calls Tryz.prog 69 #[v1, v2] w fun e w' => ∃ b : Bool, e = .returned (.bool b) ∧ (b = true ↔ l1 = l2) ∧ Only none_ w w' := by
  obtain ⟨A, c, e1, _⟩ := id h1
  obtain ⟨A', c', e2, _⟩ := id h2
  subst e1 e2
  have HA := Lib.hid (fun (w' : World) (o : Only none_ w w') => h1.only o (fun _ _ h => h))
  have HB := Lib.hid (fun (w' : World) (o : Only none_ w w') => h2.only o (fun _ _ h => h))
  by_cases hne : l1.length = l2.length
  · obtain ⟨n, hn⟩ : ∃ n, l1.length = n := ⟨_, rfl⟩
    have hn2 : l2.length = n := hne.symm.trans hn
    rw [hn] at HA hl
    rw [hn2] at HB
    rw [hn, hn2]
    have hn9 : n ≤ 4096 := hl.1
    have HN := Lib.hid hn
    have HN2 := Lib.hid hn2
    have heq : ((n : Int) != (n : Int)) = false := by simp
    clear h1 h2 hne hn hn2 hl
    go_enter Tryz.func69, Tryz.ntmps69
    go_wp2_with fail
    go_loopw [13] (fun s wr => ∃ i : Nat, i ≤ n ∧ s = .int .i64 i ∧ Only none_ w wr ∧ l1.take i = l2.take i) (fun s _ => n - (intOf s).toNat)
    case atStart => exact ⟨0, by omega, rfl, Only.refl _ _, rfl⟩
    case round =>
      obtain ⟨i, hi, rfl, o, htk⟩ := hrel
      have O := Lib.hid o
      have HT := Lib.hid htk
      clear htk
      by_cases hlt : i < n
      · have hin : i < l1.length := by have := HN.out; omega
        have hin2 : i < l2.length := by have := HN2.out; omega
        obtain ⟨x, hx⟩ : ∃ x, l1[i]? = some x := ⟨_, List.getElem?_eq_getElem hin⟩
        obtain ⟨y, hy⟩ : ∃ y, l2[i]? = some y := ⟨_, List.getElem?_eq_getElem hin2⟩
        obtain ⟨a0, off0, hA, _, _, c0⟩ := in_elem mkI_len (by decide) (HA.out _ o) HN.out hx
        obtain ⟨b0, off1, hB, _, _, c1⟩ := in_elem mkI_len (by decide) (HB.out _ o) HN2.out hy
        subst hA hB
        have HX := Lib.hid hx
        have HY := Lib.hid hy
        have HK : Hid (∀ w', Only none_ wr w' → (∀ j u, (mkI x)[j]? = some u → w'.cell? ⟨a0, off0 + i * 3 + j, none⟩ = some u) ∧ (∀ j u, (mkI y)[j]? = some u → w'.cell? ⟨b0, off1 + i * 3 + j, none⟩ = some u)) := fun w' o' => ⟨c0 w' o', c1 w' o'⟩
        clear c0 c1 hx hy o
        by_cases hxy : x = y
        · subst hxy
          have hne := fun w => neqA w x x
          rw [(mkSame_iff _ _).2 rfl] at hne
          obtain ⟨⟨xc, xs⟩, xk⟩ := x
          simp only [] at hne HK
          go_wp2_with fail
          (refine wp_region_steady (fun w' => Only none_ wr w') 9 (by kernel_rfl) (by kernel_rfl) ((Only.refl none_ wr).drew) ?_; simp only [List.take_succ_cons, List.take_zero, List.drop_succ_cons, List.drop_zero])
          repeat (first
            | (refine sd_value (v := ?_) (by rfl) (fun w0 hS => ?_) ?_; rotate_left; (· (have p0 := (HK.out _ hS).1 0 _ rfl; have p1 := (HK.out _ hS).1 1 _ rfl; have p2 := (HK.out _ hS).1 2 _ rfl; have q0 := (HK.out _ hS).2 0 _ rfl; have q1 := (HK.out _ hS).2 1 _ rfl; have q2 := (HK.out _ hS).2 2 _ rfl; simp only [Nat.add_zero, Nat.mul_one] at p0 q0; go_simp; try (with_reducible rfl))); try simp only [Act.put, List.setIfInBounds_toArray, List.set_cons_zero, List.set_cons_succ]))
          refine sd_nil ?_
          intro w3 t3
          have T3 := Lib.hid t3
          clear t3
          go_wp2_with fail
          go_roundw
          case rel => exact ⟨i + 1, by omega, by go_num, O.out.trans T3.out, take_more HT.out HX.out HY.out⟩
          case measure => simp [intOf]; omega
        · have HNE : Hid (¬ l1 = l2) := fun e => hxy (by have a := HX.out; rw [e, HY.out] at a; exact (Option.some.inj a).symm)
          have hne := fun w => neqA w x y
          rw [show mkSame x y = false from by rw [Bool.eq_false_iff]; exact fun h => hxy ((mkSame_iff _ _).1 h)] at hne
          obtain ⟨⟨xc, xs⟩, xk⟩ := x
          obtain ⟨⟨yc, ys⟩, yk⟩ := y
          simp only [] at hne HK
          clear hxy
          go_wp2_with fail
          (refine wp_region_steady (fun w' => Only none_ wr w') 9 (by kernel_rfl) (by kernel_rfl) ((Only.refl none_ wr).drew) ?_; simp only [List.take_succ_cons, List.take_zero, List.drop_succ_cons, List.drop_zero])
          repeat (first
            | (refine sd_value (v := ?_) (by rfl) (fun w0 hS => ?_) ?_; rotate_left; (· (have p0 := (HK.out _ hS).1 0 _ rfl; have p1 := (HK.out _ hS).1 1 _ rfl; have p2 := (HK.out _ hS).1 2 _ rfl; have q0 := (HK.out _ hS).2 0 _ rfl; have q1 := (HK.out _ hS).2 1 _ rfl; have q2 := (HK.out _ hS).2 2 _ rfl; simp only [Nat.add_zero, Nat.mul_one] at p0 q0; go_simp; try (with_reducible rfl))); try simp only [Act.put, List.setIfInBounds_toArray, List.set_cons_zero, List.set_cons_succ]))
          refine sd_nil ?_
          intro w3 t3
          have T3 := Lib.hid t3
          clear t3
          go_wp2_with fail
          go_ret
          exact ⟨false, rfl, ⟨(fun h => by cases h), fun h => absurd h HNE.out⟩, O.out.trans T3.out⟩
      · have hin : l1 = l2 := by
          have a := HT.out
          rwa [List.take_of_length_le (by have := HN.out; omega), List.take_of_length_le (by have := HN2.out; omega)] at a
        have HE := Lib.hid hin
        clear o hin
        go_wp2_with fail
        go_ret
        exact ⟨true, rfl, ⟨fun _ => HE.out, fun _ => rfl⟩, O.out⟩
  · have hb : ((l1.length : Int) != (l2.length : Int)) = true := neq_int _ _ (fun e => hne (by omega))
    have HNE : Hid (¬ l1 = l2) := fun e => hne (by rw [e])
    clear hne h1 h2 HA HB hl
    go_enter Tryz.func69, Tryz.ntmps69
    go_wp2_with fail
    go_ret
    exact ⟨false, rfl, ⟨(fun h => by cases h), fun h => absurd h HNE.out⟩, Only.refl _ _⟩
set_option maxHeartbeats 3200000 in
theorem pl_en (S T : Nat → Prop) (l1 l2 : List En) (v1 v2 : Value) (w : World) (h1 : Cel w S v1 l1.length 9 (l1.flatMap enRow)) (h2 : Cel w T v2 l2.length 9 (l2.flatMap enRow)) (hl : l1.length ≤ 4096 ∧ l2.length ≤ 4096) :
    Calls Tryz.prog 70 #[v1, v2] w fun e w' => ∃ b : Bool, e = .returned (.bool b) ∧ (b = true ↔ l1 = l2) ∧ Only none_ w w' := by
  obtain ⟨A, c, e1, _⟩ := id h1
  obtain ⟨A', c', e2, _⟩ := id h2
  subst e1 e2
  have HA := Lib.hid (fun (w' : World) (o : Only none_ w w') => h1.only o (fun _ _ h => h))
  have HB := Lib.hid (fun (w' : World) (o : Only none_ w w') => h2.only o (fun _ _ h => h))
  by_cases hne : l1.length = l2.length
  · obtain ⟨n, hn⟩ : ∃ n, l1.length = n := ⟨_, rfl⟩
    have hn2 : l2.length = n := hne.symm.trans hn
    rw [hn] at HA hl
    rw [hn2] at HB
    rw [hn, hn2]
    have hn9 : n ≤ 4096 := hl.1
    have HN := Lib.hid hn
    have HN2 := Lib.hid hn2
    have heq : ((n : Int) != (n : Int)) = false := by simp
    clear h1 h2 hne hn hn2 hl
    go_enter Tryz.func70, Tryz.ntmps70
    go_wp2_with fail
    go_loopw [13] (fun s wr => ∃ i : Nat, i ≤ n ∧ s = .int .i64 i ∧ Only none_ w wr ∧ l1.take i = l2.take i) (fun s _ => n - (intOf s).toNat)
    case atStart => exact ⟨0, by omega, rfl, Only.refl _ _, rfl⟩
    case round =>
      obtain ⟨i, hi, rfl, o, htk⟩ := hrel
      have O := Lib.hid o
      have HT := Lib.hid htk
      clear htk
      by_cases hlt : i < n
      · have hin : i < l1.length := by have := HN.out; omega
        have hin2 : i < l2.length := by have := HN2.out; omega
        obtain ⟨x, hx⟩ : ∃ x, l1[i]? = some x := ⟨_, List.getElem?_eq_getElem hin⟩
        obtain ⟨y, hy⟩ : ∃ y, l2[i]? = some y := ⟨_, List.getElem?_eq_getElem hin2⟩
        obtain ⟨a0, off0, hA, _, _, c0⟩ := in_elem enRow_length (by decide) (HA.out _ o) HN.out hx
        obtain ⟨b0, off1, hB, _, _, c1⟩ := in_elem enRow_length (by decide) (HB.out _ o) HN2.out hy
        subst hA hB
        have HX := Lib.hid hx
        have HY := Lib.hid hy
        have HK : Hid (∀ w', Only none_ wr w' → (∀ j u, (enRow x)[j]? = some u → w'.cell? ⟨a0, off0 + i * 9 + j, none⟩ = some u) ∧ (∀ j u, (enRow y)[j]? = some u → w'.cell? ⟨b0, off1 + i * 9 + j, none⟩ = some u)) := fun w' o' => ⟨c0 w' o', c1 w' o'⟩
        clear c0 c1 hx hy o
        by_cases hxy : x = y
        · subst hxy
          have hne := fun w => neq_of (eq_api_entry w x x 9997)
          rw [enEq_refl] at hne
          obtain ⟨xk, xv, xd, ⟨xsc, xss⟩, ⟨xac, xas⟩, xp, xg⟩ := x
          simp only [] at hne HK
          go_wp2_with fail
          (refine wp_region_steady (fun w' => Only none_ wr w') 9 (by kernel_rfl) (by kernel_rfl) ((Only.refl none_ wr).drew) ?_; simp only [List.take_succ_cons, List.take_zero, List.drop_succ_cons, List.drop_zero])
          repeat (first
            | (refine sd_value (v := ?_) (by rfl) (fun w0 hS => ?_) ?_; rotate_left; (· (have p0 := (HK.out _ hS).1 0 _ rfl; have p1 := (HK.out _ hS).1 1 _ rfl; have p2 := (HK.out _ hS).1 2 _ rfl; have p3 := (HK.out _ hS).1 3 _ rfl; have p4 := (HK.out _ hS).1 4 _ rfl; have p5 := (HK.out _ hS).1 5 _ rfl; have p6 := (HK.out _ hS).1 6 _ rfl; have p7 := (HK.out _ hS).1 7 _ rfl; have p8 := (HK.out _ hS).1 8 _ rfl; have q0 := (HK.out _ hS).2 0 _ rfl; have q1 := (HK.out _ hS).2 1 _ rfl; have q2 := (HK.out _ hS).2 2 _ rfl; have q3 := (HK.out _ hS).2 3 _ rfl; have q4 := (HK.out _ hS).2 4 _ rfl; have q5 := (HK.out _ hS).2 5 _ rfl; have q6 := (HK.out _ hS).2 6 _ rfl; have q7 := (HK.out _ hS).2 7 _ rfl; have q8 := (HK.out _ hS).2 8 _ rfl; simp only [Nat.add_zero, Nat.mul_one] at p0 q0; go_simp; try (with_reducible rfl))); try simp only [Act.put, List.setIfInBounds_toArray, List.set_cons_zero, List.set_cons_succ]))
          refine sd_nil ?_
          intro w3 t3
          have T3 := Lib.hid t3
          clear t3
          go_wp2_with fail
          go_roundw
          case rel => exact ⟨i + 1, by omega, by go_num, O.out.trans T3.out, take_more HT.out HX.out HY.out⟩
          case measure => simp [intOf]; omega
        · have HNE : Hid (¬ l1 = l2) := fun e => hxy (by have a := HX.out; rw [e, HY.out] at a; exact (Option.some.inj a).symm)
          have hne := fun w => neq_of (eq_api_entry w x y 9997)
          rw [show enEq x y = false from by rw [Bool.eq_false_iff]; exact fun h => hxy ((enEq_iff _ _).1 h)] at hne
          obtain ⟨xk, xv, xd, ⟨xsc, xss⟩, ⟨xac, xas⟩, xp, xg⟩ := x
          obtain ⟨yk, yv, yd, ⟨ysc, yss⟩, ⟨yac, yas⟩, yp, yg⟩ := y
          simp only [] at hne HK
          clear hxy
          go_wp2_with fail
          (refine wp_region_steady (fun w' => Only none_ wr w') 9 (by kernel_rfl) (by kernel_rfl) ((Only.refl none_ wr).drew) ?_; simp only [List.take_succ_cons, List.take_zero, List.drop_succ_cons, List.drop_zero])
          repeat (first
            | (refine sd_value (v := ?_) (by rfl) (fun w0 hS => ?_) ?_; rotate_left; (· (have p0 := (HK.out _ hS).1 0 _ rfl; have p1 := (HK.out _ hS).1 1 _ rfl; have p2 := (HK.out _ hS).1 2 _ rfl; have p3 := (HK.out _ hS).1 3 _ rfl; have p4 := (HK.out _ hS).1 4 _ rfl; have p5 := (HK.out _ hS).1 5 _ rfl; have p6 := (HK.out _ hS).1 6 _ rfl; have p7 := (HK.out _ hS).1 7 _ rfl; have p8 := (HK.out _ hS).1 8 _ rfl; have q0 := (HK.out _ hS).2 0 _ rfl; have q1 := (HK.out _ hS).2 1 _ rfl; have q2 := (HK.out _ hS).2 2 _ rfl; have q3 := (HK.out _ hS).2 3 _ rfl; have q4 := (HK.out _ hS).2 4 _ rfl; have q5 := (HK.out _ hS).2 5 _ rfl; have q6 := (HK.out _ hS).2 6 _ rfl; have q7 := (HK.out _ hS).2 7 _ rfl; have q8 := (HK.out _ hS).2 8 _ rfl; simp only [Nat.add_zero, Nat.mul_one] at p0 q0; go_simp; try (with_reducible rfl))); try simp only [Act.put, List.setIfInBounds_toArray, List.set_cons_zero, List.set_cons_succ]))
          refine sd_nil ?_
          intro w3 t3
          have T3 := Lib.hid t3
          clear t3
          go_wp2_with fail
          go_ret
          exact ⟨false, rfl, ⟨(fun h => by cases h), fun h => absurd h HNE.out⟩, O.out.trans T3.out⟩
      · have hin : l1 = l2 := by
          have a := HT.out
          rwa [List.take_of_length_le (by have := HN.out; omega), List.take_of_length_le (by have := HN2.out; omega)] at a
        have HE := Lib.hid hin
        clear o hin
        go_wp2_with fail
        go_ret
        exact ⟨true, rfl, ⟨fun _ => HE.out, fun _ => rfl⟩, O.out⟩
  · have hb : ((l1.length : Int) != (l2.length : Int)) = true := neq_int _ _ (fun e => hne (by omega))
    have HNE : Hid (¬ l1 = l2) := fun e => hne (by rw [e])
    clear hne h1 h2 HA HB hl
    go_enter Tryz.func70, Tryz.ntmps70
    go_wp2_with fail
    go_ret
    exact ⟨false, rfl, ⟨(fun h => by cases h), fun h => absurd h HNE.out⟩, Only.refl _ _⟩
end Go.Proofs.YtlieolehpmobfaaGreatDoor
end
