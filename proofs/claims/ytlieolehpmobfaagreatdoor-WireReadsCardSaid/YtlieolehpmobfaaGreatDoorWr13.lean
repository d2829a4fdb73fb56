/- Texts of mine, one behind the other: WiYo, WiZ, WiZe, WiDa, WiT. No statement of the seat is proved here. -/
import Derived.Test.YtlieolehpmobfaaGreatDoorWr12
import Derived.Test.YtlieolehpmobfaaGreatDoorWr10
import Derived.Test.YtlieolehpmobfaaGreatDoorWr4
import Derived.Test.YtlieolehpmobfaaGreatDoorWr6
import Derived.Test.YtlieolehpmobfaaGreatDoorWr2
section
namespace Go.Proofs.YtlieolehpmobfaaGreatDoor
open Go.RowKit
set_option linter.all false
set_option maxRecDepth 100000
section
variable {α : Type} {f : α → List Value} {k : Nat} {e : TypeId} {W w w' : World} {cs ms : Array Value} {v v' : Value} {l : List α}
theorem Ox.two (t : Ox f k e W cs ms v l w) (he : e ≠ 169) (ty : TypeId) (z0 : Array Value) {w3 : World} (o : Only none_ (w.alloc (.cells z0 ty)) w3) (cs3 z3 : Array Value) :
    Ox f k e W cs3 ms v l ((w3.setRow W.heap.size cs3).setRow w.heap.size z3) ∧ Blk ((w3.setRow W.heap.size cs3).setRow w.heap.size z3) w.heap.size ty z3 := by
  have T3 := (t.keep ((Only.refl none_ w).alloc (.cells z0 ty))).keep o
  have T4 := T3.row he cs3
  have X := ((Blk.new w ty z0).only o (fun h => h)).setRow_far (g' := W.heap.size) (by have := t.oz.c0.lt; omega) cs3
  have o4 : Only (one w.heap.size) (w3.setRow W.heap.size cs3) ((w3.setRow W.heap.size cs3).setRow w.heap.size z3) := (Only.refl (one w.heap.size) _).setRow (g := w.heap.size) (.inl rfl) z3
  have h0 := t.oz.c0.lt
  have h1 := t.oz.c1.lt
  have h2 := t.oz.c2.lt
  have h3 := t.oz.c3.lt
  refine ⟨⟨⟨T4.oz.c0.only o4 (fun h => ?_), T4.oz.c1.only o4 (fun h => ?_), T4.oz.c2.only o4 (fun h => ?_), T4.oz.c3.only o4 (fun h => ?_), T4.oz.ho.setRow (.inr (by omega)) z3⟩, ?_⟩, X.setRow z3⟩
  · have h' : W.heap.size = w.heap.size := h
    omega
  · have h' : W.heap.size + 1 = w.heap.size := h
    omega
  · have h' : W.heap.size + 1 + 1 = w.heap.size := h
    omega
  · have h' : W.heap.size + 1 + 1 + 1 = w.heap.size := h
    omega
  · exact owns_only T4.ow o4 (fun b hb h => by have h' : b = w.heap.size := h; have := (t.ow.lt b hb).2; omega)
end
end Go.Proofs.YtlieolehpmobfaaGreatDoor
end
section
namespace Go.Proofs.YtlieolehpmobfaaGreatDoor
open Go.RowKit
set_option linter.all false
set_option maxRecDepth 100000
theorem rmark_info7 : (Tryz.prog.info? 27).map (fun i => (i.zero, i.size, i.bytes)) = some (some (.agg #[.int .i64 0, .int .i64 0, .string ⟨#[]⟩]), 3, 32) := by kernel_rfl
set_option maxHeartbeats 6400000 in
theorem rk_one7 (A : Option Addr) (c p0 : Nat) (bs r : List UInt8) (err : Int) (S S2 : Nat → Prop) (m : Ms) (vp vm ve : Value) (w : World) (h : Byt w S (.slice A bs.length c) bs) (hS : ∀ b, S b → b < w.heap.size) (hr : Rest bs r) (hp0 : p0 = bs.length - r.length) (hL : bs.length ≤ 100000) (hl : Ml S2 m vp vm ve w) (hz : m.ms = []) (hv : vm = .slice none 0 0) :
    Calls Tryz.prog 82 #[.agg #[.slice A bs.length c, .int .i64 (p0 : Int), .int .i64 err], .agg #[.int .i64 m.kd, .int .i64 m.pe, .int .i64 m.hp, .bool m.hi, vp, .int .i64 m.nu, .int .u64 (m.su : Int), .int .i64 m.mr.a.c, .int .i64 m.mr.a.s, .string m.mr.k, vm, ve], .int .i64 7] w fun E w' =>
      ∃ (q : Nat) (vp' vm' ve' : Value), E = .returned (.tuple #[.agg #[.slice A bs.length c, .int .i64 (q : Int), .int .i64 (fieldR 7 err r m).1], .agg #[.int .i64 (fieldR 7 err r m).2.2.kd, .int .i64 (fieldR 7 err r m).2.2.pe, .int .i64 (fieldR 7 err r m).2.2.hp, .bool (fieldR 7 err r m).2.2.hi, vp', .int .i64 (fieldR 7 err r m).2.2.nu, .int .u64 ((fieldR 7 err r m).2.2.su : Int), .int .i64 (fieldR 7 err r m).2.2.mr.a.c, .int .i64 (fieldR 7 err r m).2.2.mr.a.s, .string (fieldR 7 err r m).2.2.mr.k, vm', ve']]) ∧ q = bs.length - (fieldR 7 err r m).2.1.length ∧ Rest bs (fieldR 7 err r m).2.1 ∧ Ml (fun b => S2 b ∨ w.heap.size ≤ b) (fieldR 7 err r m).2.2 vp' vm' ve' w' ∧ Only none_ w w' ∧ vp' = vp ∧ ve' = ve := by
  obtain ⟨i0, hi0, hz0, hz1, hz2⟩ := rinfo_parts rmark_info7
  subst hv
  obtain ⟨A1, c1, A2, c2, A3, c3, ea, eb, ec⟩ := hl.shape
  clear eb
  subst ea ec
  obtain ⟨w0, hw0⟩ : ∃ w0, (((w.alloc (.cells #[.slice A bs.length c, .int .i64 (p0 : Int), .int .i64 err] 169)).alloc (.cells #[.int .i64 m.kd, .int .i64 m.pe, .int .i64 m.hp, .bool m.hi, .slice A1 m.ps.length c1, .int .i64 m.nu, .int .u64 (m.su : Int), .int .i64 m.mr.a.c, .int .i64 m.mr.a.s, .string m.mr.k, .slice none 0 0, .slice A3 m.es.length c3] 31)).alloc (.cells #[.slice none 0 0, .int .i64 0, .int .i64 0] 169)).alloc (.cells #[.int .i64 0, .int .i64 0, .int .i64 0, .bool false, .slice none 0 0, .int .i64 0, .int .u64 0, .int .i64 0, .int .i64 0, .string ⟨#[]⟩, .slice none 0 0, .slice none 0 0] 31) = w0 := ⟨_, rfl⟩
  have T0 : Hid (Oz w #[.slice A bs.length c, .int .i64 (p0 : Int), .int .i64 err] #[.int .i64 m.kd, .int .i64 m.pe, .int .i64 m.hp, .bool m.hi, .slice A1 m.ps.length c1, .int .i64 m.nu, .int .u64 (m.su : Int), .int .i64 m.mr.a.c, .int .i64 m.mr.a.s, .string m.mr.k, .slice none 0 0, .slice A3 m.es.length c3] w0) := by rw [Hid, ← hw0]; exact Oz.new w _ _
  have HW := Lib.hid hw0
  have HL := Lib.hid (fun (w' : World) (o : Only none_ w w') => (hl.keep o).mono (T := fun b => S2 b ∨ w.heap.size ≤ b) (fun _ _ h => .inl h))
  have HB := Lib.hid (fun (w' : World) (o : Only none_ w w') => h.only o (fun _ _ h => h))
  have HSS := Lib.hid (fun (w' : World) (o : Only none_ w w') (b : Nat) (hb : S b) => Nat.lt_of_lt_of_le (hS b hb) o.size)
  have HLL := Lib.hid hL
  have C1 := Lib.hid (rk_many A c p0 bs r err S _ (HB.out w0 T0.out.ho) (HSS.out w0 T0.out.ho) hr hp0 hL)
  have hk8 := lenR_lt err r
  have HF : Hid (fieldR 7 err r m = ((listR markR (lenR err r).2.2 (lenR err r).1 (lenR err r).2.1).1, (listR markR (lenR err r).2.2 (lenR err r).1 (lenR err r).2.1).2.1, { m with ms := (listR markR (lenR err r).2.2 (lenR err r).1 (lenR err r).2.1).2.2 })) := rfl
  obtain ⟨⟨e1, r1, n1⟩, ha1⟩ : ∃ a, lenR err r = a := ⟨_, rfl⟩
  rw [ha1] at C1 HF hk8
  dsimp only at C1 HF hk8
  clear h hS hr hp0 hL hl hw0 ha1 hz
  go_enter Tryz.func82, Tryz.ntmps82
  go_upto_region 1 with fail
  rw [HW.out]
  go_wp2_with (first
    | (refine wpl_load rfl 169 _ rfl w.heap.size rfl 169 #[.slice A bs.length c, .int .i64 (p0 : Int), .int .i64 err] _ T0.out.c0 Tryz.underlying169 rfl (by kernel_rfl) ?_)
    | (go_at_call 185; refine C1.out.mono ?_; rintro E w1 ⟨q1, rfl, hq1, hr1, o1⟩
       have T1 := Lib.hid (T0.out.keep o1)
       have Q1 := Lib.hid hq1
       have R1 := Lib.hid hr1
       clear hq1 hr1 o1)
    | (refine wpList_store_row rfl 169 _ _ rfl w.heap.size #[.slice A bs.length c, .int .i64 (q1 : Int), .int .i64 e1] rfl rfl 169 _ T1.out.c0 (by kernel_rfl) rfl (by simp [Value.oneCell']) ?_
       have T2 : Hid (Ox mkI 3 27 w #[.slice A bs.length c, .int .i64 (q1 : Int), .int .i64 e1] #[.int .i64 m.kd, .int .i64 m.pe, .int .i64 m.hp, .bool m.hi, .slice A1 m.ps.length c1, .int .i64 m.nu, .int .u64 (m.su : Int), .int .i64 m.mr.a.c, .int .i64 m.mr.a.s, .string m.mr.k, .slice none 0 0, .slice A3 m.es.length c3] (.slice none 0 0) ([] : List Mk) (w1.setRow w.heap.size #[.slice A bs.length c, .int .i64 (q1 : Int), .int .i64 e1])) := ⟨T1.out.row #[.slice A bs.length c, .int .i64 (q1 : Int), .int .i64 e1], World.ownsRow_nil _ _ _ _⟩))
  generalize w1.setRow w.heap.size #[.slice A bs.length c, .int .i64 (q1 : Int), .int .i64 e1] = w2 at *
  go_loopw [11] (fun s10 wr => ∃ i : Nat, i ≤ n1 ∧ s10 = .int .i64 i ∧ ∃ (q : Nat) (v : Value), q = bs.length - (listR markR i e1 r1).2.1.length ∧ Rest bs (listR markR i e1 r1).2.1 ∧
    Ox mkI 3 27 w #[.slice A bs.length c, .int .i64 (q : Int), .int .i64 (listR markR i e1 r1).1] #[.int .i64 m.kd, .int .i64 m.pe, .int .i64 m.hp, .bool m.hi, .slice A1 m.ps.length c1, .int .i64 m.nu, .int .u64 (m.su : Int), .int .i64 m.mr.a.c, .int .i64 m.mr.a.s, .string m.mr.k, v, .slice A3 m.es.length c3] v (listR markR i e1 r1).2.2 wr) (fun s10 _ => n1 - (intOf s10).toNat)
  case atStart => exact ⟨0, by omega, rfl, q1, _, Q1.out, R1.out, T2.out⟩
  case round =>
    obtain ⟨i, hi, rfl, q, v, hq, hrr, t⟩ := hrel
    obtain ⟨A5, cp, hs⟩ : ∃ A c, v = .slice A (listR markR i e1 r1).2.2.length c := by
      rcases t.ow.2 with ⟨e, h0⟩ | ⟨_, _, _, e, _⟩
      · exact ⟨none, 0, by rw [e, h0]⟩
      · exact ⟨_, _, e⟩
    subst hs
    have hct := listR_count markR e1 r1 i
    by_cases hlt : i < n1
    · have hlt' : (i : Int) < (n1 : Int) := by omega
      have HSN : Hid (listR markR (i + 1) e1 r1 = ((markR (listR markR i e1 r1).1 (listR markR i e1 r1).2.1).1, (markR (listR markR i e1 r1).1 (listR markR i e1 r1).2.1).2.1, (listR markR i e1 r1).2.2 ++ [(markR (listR markR i e1 r1).1 (listR markR i e1 r1).2.1).2.2])) := rfl
      obtain ⟨⟨e2, r2, l2⟩, hs2⟩ : ∃ a, listR markR i e1 r1 = a := ⟨_, rfl⟩
      rw [hs2] at hct hq hrr t HSN
      dsimp only at hct hq hrr t HSN
      rw [hct] at t
      obtain ⟨wa, hwa⟩ : ∃ wa, wr.alloc (.cells #[.int .i64 0, .int .i64 0, .string ⟨#[]⟩] 27) = wa := ⟨_, rfl⟩
      have ta : Ox mkI 3 27 w #[.slice A bs.length c, .int .i64 (q : Int), .int .i64 e2] #[.int .i64 m.kd, .int .i64 m.pe, .int .i64 m.hp, .bool m.hi, .slice A1 m.ps.length c1, .int .i64 m.nu, .int .u64 (m.su : Int), .int .i64 m.mr.a.c, .int .i64 m.mr.a.s, .string m.mr.k, .slice A5 i cp, .slice A3 m.es.length c3] (.slice A5 i cp) l2 wa := by rw [← hwa]; exact t.keep ((Only.refl none_ wr).alloc _)
      have C := Lib.hid (rk_mark A c q bs r2 e2 S wa (HB.out wa ta.oz.ho) (HSS.out wa ta.oz.ho) hrr hq HLL.out)
      have HN : Hid (markR e2 r2 = ((markR e2 r2).1, (markR e2 r2).2.1, (markR e2 r2).2.2)) := rfl
      obtain ⟨e3, he3⟩ : ∃ a, (markR e2 r2).1 = a := ⟨_, rfl⟩
      obtain ⟨r3, hr3⟩ : ∃ a, (markR e2 r2).2.1 = a := ⟨_, rfl⟩
      obtain ⟨x, hx3⟩ : ∃ a, (markR e2 r2).2.2 = a := ⟨_, rfl⟩
      rw [he3, hr3, hx3] at C HN
      rw [HN.out] at HSN
      dsimp only at HSN
      have HTWO := Lib.hid (fun (w3 : World) (o : Only none_ wa w3) (cs3 z3 : Array Value) => t.two (by decide) 27 #[.int .i64 0, .int .i64 0, .string ⟨#[]⟩] (hwa ▸ o) cs3 z3)
      have TA := Lib.hid ta
      have XA : Hid (Blk wa wr.heap.size 27 #[.int .i64 0, .int .i64 0, .string ⟨#[]⟩]) := by rw [Hid, ← hwa]; exact Blk.new wr _ _
      have HWA := Lib.hid hwa
      have HC0 := Lib.hid t.oz.c0.lt
      have HCT := Lib.hid hct
      have HLN : Hid (i + 1 ≤ maxLen ∧ (i + 1) * 32 ≤ 140737488355328) := by simp only [Hid, maxLen]; omega
      have HONE : Hid (∀ u ∈ mkI x, u.oneCell' = true) := by intro u hu; simp [mkI] at hu; rcases hu with rfl | rfl | rfl <;> rfl
      clear t ta hct hs2 hq hrr HF hwa he3 hr3 hx3
      go_wp2_with (first
        | (refine wpl_new rfl rfl 27 rfl _ _ rfl #[.int .i64 0, .int .i64 0, .string ⟨#[]⟩] rfl rfl (by kernel_rfl) (by simp [Value.oneCell']) ?_; rw [HWA.out])
        | (refine wpl_load rfl 169 _ rfl w.heap.size rfl 169 #[.slice A bs.length c, .int .i64 (q : Int), .int .i64 e2] _ TA.out.oz.c0 Tryz.underlying169 rfl (by kernel_rfl) ?_)
        | (go_at_call 186; refine C.out.mono ?_; rintro E w3 ⟨q3, rfl, hq3, hr3, o3⟩
           have T3 := Lib.hid (TA.out.keep o3)
           have X3 := Lib.hid (XA.out.only o3 (fun h => h))
           have T5 := Lib.hid (HTWO.out w3 o3 #[.slice A bs.length c, .int .i64 (q3 : Int), .int .i64 e3] #[.int .i64 x.a.c, .int .i64 x.a.s, .string x.k])
           have hz3 : ((w3.setRow w.heap.size #[.slice A bs.length c, .int .i64 (q3 : Int), .int .i64 e3]).setRow wr.heap.size #[.int .i64 x.a.c, .int .i64 x.a.s, .string x.k]).heap.size = w3.heap.size := by simp [World.setRow]
           have Q3 := Lib.hid hq3
           have R3 := Lib.hid hr3
           clear hq3 hr3 o3)
        | (refine wpList_store_row rfl 169 _ _ rfl w.heap.size #[.slice A bs.length c, .int .i64 (q3 : Int), .int .i64 e3] rfl rfl 169 _ T3.out.oz.c0 (by kernel_rfl) rfl (by simp [Value.oneCell']) ?_
           have X4 := Lib.hid (X3.out.setRow_far (g' := w.heap.size) (by have := HC0.out; omega) #[.slice A bs.length c, .int .i64 (q3 : Int), .int .i64 e3]))
        | (refine wpList_store_row rfl 27 _ _ rfl wr.heap.size #[.int .i64 x.a.c, .int .i64 x.a.s, .string x.k] rfl rfl 27 _ X4.out (by kernel_rfl) rfl (by simp [Value.oneCell']) ?_
           have X5 := Lib.hid T5.out.2
           have T5 := Lib.hid T5.out.1
           generalize (w3.setRow w.heap.size #[.slice A bs.length c, .int .i64 (q3 : Int), .int .i64 e3]).setRow wr.heap.size #[.int .i64 x.a.c, .int .i64 x.a.s, .string x.k] = w5 at *
           have k4 := T5.out.oz.c1.cell_ (i := 10) rfl)
        | (refine wpl_load rfl 27 _ rfl wr.heap.size rfl 27 #[.int .i64 x.a.c, .int .i64 x.a.s, .string x.k] _ X5.out Tryz.underlying27 rfl (by kernel_rfl) ?_
           have T6 := Lib.hid (T5.out.keep ((Only.refl none_ _).alloc (.cells #[.int .i64 x.a.c, .int .i64 x.a.s, .string x.k] 27)))
           have C6 : Hid (Cel (w5.alloc (.cells #[.int .i64 x.a.c, .int .i64 x.a.s, .string x.k] 27)) (fun b => b = w3.heap.size) (.slice (some ⟨w3.heap.size, 0, none⟩) 1 1) 1 3 (mkI x)) := by
             have hc := cel_made w5 27 3 1 #[.int .i64 x.a.c, .int .i64 x.a.s, .string x.k] rfl (by simp [maxLen])
             rw [hz3] at hc
             exact hc)
        | (at_builtin; refine wpList_append_cel _ rfl (.tmp 135) (.tmp 137) 28 rfl w.heap.size 27 i0 _ 3 32 Tryz.underlying28 hi0 hz0 hz1 hz2 rfl (by omega) (.slice A5 i cp) i _ rfl (by have := T6.out.ow; rw [HCT.out] at this; exact this) _ _ 1 _ rfl C6.out HONE.out HLN.out.1 HLN.out.2 T6.out.oz.ho.size ?_
           intro A6 n6 k6 w6 hown hgrow hmv
           have y6 := T6.out.oz.c1.only ((Only.refl (fun b => (Value.slice A5 i cp).ownBlock = some b) _).grown hgrow (fun k hk => .inl hk)) (fun e => own_blk_ne T6.out.ow T6.out.oz.c1 (by decide) e)
           have c6 := y6.cell_ (i := 10) rfl
           have f6 := y6.frozen 10
           have T7 := Lib.hid (Ox.cast (ms' := #[.int .i64 m.kd, .int .i64 m.pe, .int .i64 m.hp, .bool m.hi, .slice A1 m.ps.length c1, .int .i64 m.nu, .int .u64 (m.su : Int), .int .i64 m.mr.a.c, .int .i64 m.mr.a.s, .string m.mr.k, .slice A6 n6 k6, .slice A3 m.es.length c3]) (T6.out.app (by decide) (by decide) 10 x hown (by rw [HCT.out]) rfl hgrow) (by simp))
           clear hown hgrow hmv y6))
      go_roundw
      case rel => exact ⟨i + 1, by omega, by go_num, q3, _, by rw [HSN.out]; exact Q3.out, by rw [HSN.out]; exact R3.out, by rw [HSN.out]; exact T7.out⟩
      case measure => simp [intOf]; omega
    · obtain rfl : n1 = i := by omega
      obtain ⟨⟨e2, r2, l2⟩, hs2⟩ : ∃ a, listR markR n1 e1 r1 = a := ⟨_, rfl⟩
      rw [hs2] at hct hq hrr t HF
      dsimp only at hct hq hrr t HF
      have T := Lib.hid t
      have Q := Lib.hid hq
      have R := Lib.hid hrr
      clear t hq hrr hct hs2
      go_upto_region 41 with fail
      have TD := Lib.hid T.out.oz.drew
      refine wp_region_any (by kernel_rfl) ?_
      try (change wpAny _ _ _ _ _ _ _ (World.drew _))
      refine wpAny_ready (rs := [0, 1]) (by decide +kernel) (by simp) ?_
      refine AllReady.cons rfl (fun K hK => ?_) ?_
      · refine step_load_row (by simp [Region.wanted]) 169 _ rfl w.heap.size rfl 169 #[.slice A bs.length c, .int .i64 (q : Int), .int .i64 e2] _ TD.out.c0 Tryz.underlying169 rfl (by kernel_rfl) ?_
        refine hK _ _ ?_
        clear hK K
        try simp only [Act.put, List.getElem_toArray, List.getElem_cons_zero, List.getElem_cons_succ, List.setIfInBounds_toArray, List.set_cons_zero, List.set_cons_succ]
        refine wpAny_ready (rs := [1, 2]) (by decide +kernel) (by simp) ?_
        refine AllReady.cons rfl (fun K hK => ?_) ?_
        · refine step_load_row (by simp [Region.wanted]) 31 _ rfl (w.heap.size + 1) rfl 31 #[.int .i64 m.kd, .int .i64 m.pe, .int .i64 m.hp, .bool m.hi, .slice A1 m.ps.length c1, .int .i64 m.nu, .int .u64 (m.su : Int), .int .i64 m.mr.a.c, .int .i64 m.mr.a.s, .string m.mr.k, .slice A5 l2.length cp, .slice A3 m.es.length c3] _ TD.out.c1 Tryz.underlying31 rfl (by kernel_rfl) ?_
          refine hK _ _ ?_
          clear hK K
          try simp only [Act.put, List.getElem_toArray, List.getElem_cons_zero, List.getElem_cons_succ, List.setIfInBounds_toArray, List.set_cons_zero, List.set_cons_succ]
          refine wpAny_ready (rs := [2]) (by decide +kernel) (by simp) ?_
          refine AllReady.cons rfl (fun K hK => ?_) AllReady.nil
          refine step_store_all (by simp [Region.wanted]) 169 _ _ rfl (w.heap.size + 1 + 1) #[.slice A bs.length c, .int .i64 (q : Int), .int .i64 e2] rfl rfl 169 _ TD.out.c2 (by kernel_rfl) rfl (by simp [Value.oneCell']) ?_
          refine hK _ _ ?_
          clear hK K
          try simp only [Act.put, List.getElem_toArray, List.getElem_cons_zero, List.getElem_cons_succ, List.setIfInBounds_toArray, List.set_cons_zero, List.set_cons_succ]
          refine wpAny_ready (rs := [3]) (by decide +kernel) (by simp) ?_
          refine AllReady.cons rfl (fun K hK => ?_) AllReady.nil
          refine step_store_all (by simp [Region.wanted]) 31 _ _ rfl (w.heap.size + 1 + 1 + 1) #[.int .i64 m.kd, .int .i64 m.pe, .int .i64 m.hp, .bool m.hi, .slice A1 m.ps.length c1, .int .i64 m.nu, .int .u64 (m.su : Int), .int .i64 m.mr.a.c, .int .i64 m.mr.a.s, .string m.mr.k, .slice A5 l2.length cp, .slice A3 m.es.length c3] rfl rfl 31 _ TD.out.mid.2 (by kernel_rfl) rfl (by simp [Value.oneCell']) ?_
          refine hK _ _ ?_
          clear hK K
          try simp only [Act.put, List.getElem_toArray, List.getElem_cons_zero, List.getElem_cons_succ, List.setIfInBounds_toArray, List.set_cons_zero, List.set_cons_succ]
          refine wpAny_done (by kernel_rfl) ?_ _
          go_wp2_with fail
          refine bodyPost_ret (results_cell_cell rfl _ _ (w.heap.size + 1 + 1) (w.heap.size + 1 + 1 + 1) 169 31 _ _ _ _ rfl TD.out.fin.1 rfl TD.out.fin.2.1 Tryz.underlying169 rfl (by kernel_rfl) Tryz.underlying31 rfl (by kernel_rfl)) rfl ?_
          have ML := HL.out _ TD.out.fin.2.2
          have OWN := T.out.fin (S2 := S2) (by decide) (by decide)
          rw [HF.out]
          exact ⟨q, _, _, _, rfl, Q.out, R.out, ⟨ML.p, OWN, ML.r⟩, TD.out.fin.2.2, rfl, rfl⟩
        refine AllReady.cons rfl (fun K hK => ?_) AllReady.nil
        refine step_store_all (by simp [Region.wanted]) 169 _ _ rfl (w.heap.size + 1 + 1) #[.slice A bs.length c, .int .i64 (q : Int), .int .i64 e2] rfl rfl 169 _ TD.out.c2 (by kernel_rfl) rfl (by simp [Value.oneCell']) ?_
        refine hK _ _ ?_
        clear hK K
        try simp only [Act.put, List.getElem_toArray, List.getElem_cons_zero, List.getElem_cons_succ, List.setIfInBounds_toArray, List.set_cons_zero, List.set_cons_succ]
        refine wpAny_ready (rs := [1]) (by decide +kernel) (by simp) ?_
        refine AllReady.cons rfl (fun K hK => ?_) AllReady.nil
        refine step_load_row (by simp [Region.wanted]) 31 _ rfl (w.heap.size + 1) rfl 31 #[.int .i64 m.kd, .int .i64 m.pe, .int .i64 m.hp, .bool m.hi, .slice A1 m.ps.length c1, .int .i64 m.nu, .int .u64 (m.su : Int), .int .i64 m.mr.a.c, .int .i64 m.mr.a.s, .string m.mr.k, .slice A5 l2.length cp, .slice A3 m.es.length c3] _ TD.out.mid.1 Tryz.underlying31 rfl (by kernel_rfl) ?_
        refine hK _ _ ?_
        clear hK K
        try simp only [Act.put, List.getElem_toArray, List.getElem_cons_zero, List.getElem_cons_succ, List.setIfInBounds_toArray, List.set_cons_zero, List.set_cons_succ]
        refine wpAny_ready (rs := [3]) (by decide +kernel) (by simp) ?_
        refine AllReady.cons rfl (fun K hK => ?_) AllReady.nil
        refine step_store_all (by simp [Region.wanted]) 31 _ _ rfl (w.heap.size + 1 + 1 + 1) #[.int .i64 m.kd, .int .i64 m.pe, .int .i64 m.hp, .bool m.hi, .slice A1 m.ps.length c1, .int .i64 m.nu, .int .u64 (m.su : Int), .int .i64 m.mr.a.c, .int .i64 m.mr.a.s, .string m.mr.k, .slice A5 l2.length cp, .slice A3 m.es.length c3] rfl rfl 31 _ TD.out.mid.2 (by kernel_rfl) rfl (by simp [Value.oneCell']) ?_
        refine hK _ _ ?_
        clear hK K
        try simp only [Act.put, List.getElem_toArray, List.getElem_cons_zero, List.getElem_cons_succ, List.setIfInBounds_toArray, List.set_cons_zero, List.set_cons_succ]
        refine wpAny_done (by kernel_rfl) ?_ _
        go_wp2_with fail
        refine bodyPost_ret (results_cell_cell rfl _ _ (w.heap.size + 1 + 1) (w.heap.size + 1 + 1 + 1) 169 31 _ _ _ _ rfl TD.out.fin.1 rfl TD.out.fin.2.1 Tryz.underlying169 rfl (by kernel_rfl) Tryz.underlying31 rfl (by kernel_rfl)) rfl ?_
        have ML := HL.out _ TD.out.fin.2.2
        have OWN := T.out.fin (S2 := S2) (by decide) (by decide)
        rw [HF.out]
        exact ⟨q, _, _, _, rfl, Q.out, R.out, ⟨ML.p, OWN, ML.r⟩, TD.out.fin.2.2, rfl, rfl⟩
      refine AllReady.cons rfl (fun K hK => ?_) AllReady.nil
      refine step_load_row (by simp [Region.wanted]) 31 _ rfl (w.heap.size + 1) rfl 31 #[.int .i64 m.kd, .int .i64 m.pe, .int .i64 m.hp, .bool m.hi, .slice A1 m.ps.length c1, .int .i64 m.nu, .int .u64 (m.su : Int), .int .i64 m.mr.a.c, .int .i64 m.mr.a.s, .string m.mr.k, .slice A5 l2.length cp, .slice A3 m.es.length c3] _ TD.out.c1 Tryz.underlying31 rfl (by kernel_rfl) ?_
      refine hK _ _ ?_
      clear hK K
      try simp only [Act.put, List.getElem_toArray, List.getElem_cons_zero, List.getElem_cons_succ, List.setIfInBounds_toArray, List.set_cons_zero, List.set_cons_succ]
      refine wpAny_ready (rs := [0]) (by decide +kernel) (by simp) ?_
      refine AllReady.cons rfl (fun K hK => ?_) AllReady.nil
      refine step_load_row (by simp [Region.wanted]) 169 _ rfl w.heap.size rfl 169 #[.slice A bs.length c, .int .i64 (q : Int), .int .i64 e2] _ TD.out.c0 Tryz.underlying169 rfl (by kernel_rfl) ?_
      refine hK _ _ ?_
      clear hK K
      try simp only [Act.put, List.getElem_toArray, List.getElem_cons_zero, List.getElem_cons_succ, List.setIfInBounds_toArray, List.set_cons_zero, List.set_cons_succ]
      refine wpAny_ready (rs := [2]) (by decide +kernel) (by simp) ?_
      refine AllReady.cons rfl (fun K hK => ?_) AllReady.nil
      refine step_store_all (by simp [Region.wanted]) 169 _ _ rfl (w.heap.size + 1 + 1) #[.slice A bs.length c, .int .i64 (q : Int), .int .i64 e2] rfl rfl 169 _ TD.out.c2 (by kernel_rfl) rfl (by simp [Value.oneCell']) ?_
      refine hK _ _ ?_
      clear hK K
      try simp only [Act.put, List.getElem_toArray, List.getElem_cons_zero, List.getElem_cons_succ, List.setIfInBounds_toArray, List.set_cons_zero, List.set_cons_succ]
      refine wpAny_ready (rs := [3]) (by decide +kernel) (by simp) ?_
      refine AllReady.cons rfl (fun K hK => ?_) AllReady.nil
      refine step_store_all (by simp [Region.wanted]) 31 _ _ rfl (w.heap.size + 1 + 1 + 1) #[.int .i64 m.kd, .int .i64 m.pe, .int .i64 m.hp, .bool m.hi, .slice A1 m.ps.length c1, .int .i64 m.nu, .int .u64 (m.su : Int), .int .i64 m.mr.a.c, .int .i64 m.mr.a.s, .string m.mr.k, .slice A5 l2.length cp, .slice A3 m.es.length c3] rfl rfl 31 _ TD.out.mid.2 (by kernel_rfl) rfl (by simp [Value.oneCell']) ?_
      refine hK _ _ ?_
      clear hK K
      try simp only [Act.put, List.getElem_toArray, List.getElem_cons_zero, List.getElem_cons_succ, List.setIfInBounds_toArray, List.set_cons_zero, List.set_cons_succ]
      refine wpAny_done (by kernel_rfl) ?_ _
      go_wp2_with fail
      refine bodyPost_ret (results_cell_cell rfl _ _ (w.heap.size + 1 + 1) (w.heap.size + 1 + 1 + 1) 169 31 _ _ _ _ rfl TD.out.fin.1 rfl TD.out.fin.2.1 Tryz.underlying169 rfl (by kernel_rfl) Tryz.underlying31 rfl (by kernel_rfl)) rfl ?_
      have ML := HL.out _ TD.out.fin.2.2
      have OWN := T.out.fin (S2 := S2) (by decide) (by decide)
      rw [HF.out]
      exact ⟨q, _, _, _, rfl, Q.out, R.out, ⟨ML.p, OWN, ML.r⟩, TD.out.fin.2.2, rfl, rfl⟩
end Go.Proofs.YtlieolehpmobfaaGreatDoor
end
section
namespace Go.Proofs.YtlieolehpmobfaaGreatDoor
open Go.RowKit
set_option linter.all false
set_option maxRecDepth 100000
theorem rent_info8 : (Tryz.prog.info? 123).map (fun i => (i.zero, i.size, i.bytes)) = some (some (.agg #[.string ⟨#[]⟩, .string ⟨#[]⟩, .bool false, .int .i64 0, .int .i64 0, .int .i64 0, .int .i64 0, .int .i64 0, .int .i64 0]), 9, 88) := by kernel_rfl
set_option maxHeartbeats 6400000 in
theorem rk_one8 (A : Option Addr) (c p0 : Nat) (bs r : List UInt8) (err : Int) (S S2 : Nat → Prop) (m : Ms) (vp vm ve : Value) (w : World) (h : Byt w S (.slice A bs.length c) bs) (hS : ∀ b, S b → b < w.heap.size) (hr : Rest bs r) (hp0 : p0 = bs.length - r.length) (hL : bs.length ≤ 100000) (hl : Ml S2 m vp vm ve w) (hz : m.es = []) (hv : ve = .slice none 0 0) :
    Calls Tryz.prog 82 #[.agg #[.slice A bs.length c, .int .i64 (p0 : Int), .int .i64 err], .agg #[.int .i64 m.kd, .int .i64 m.pe, .int .i64 m.hp, .bool m.hi, vp, .int .i64 m.nu, .int .u64 (m.su : Int), .int .i64 m.mr.a.c, .int .i64 m.mr.a.s, .string m.mr.k, vm, ve], .int .i64 8] w fun E w' =>
      ∃ (q : Nat) (vp' vm' ve' : Value), E = .returned (.tuple #[.agg #[.slice A bs.length c, .int .i64 (q : Int), .int .i64 (fieldR 8 err r m).1], .agg #[.int .i64 (fieldR 8 err r m).2.2.kd, .int .i64 (fieldR 8 err r m).2.2.pe, .int .i64 (fieldR 8 err r m).2.2.hp, .bool (fieldR 8 err r m).2.2.hi, vp', .int .i64 (fieldR 8 err r m).2.2.nu, .int .u64 ((fieldR 8 err r m).2.2.su : Int), .int .i64 (fieldR 8 err r m).2.2.mr.a.c, .int .i64 (fieldR 8 err r m).2.2.mr.a.s, .string (fieldR 8 err r m).2.2.mr.k, vm', ve']]) ∧ q = bs.length - (fieldR 8 err r m).2.1.length ∧ Rest bs (fieldR 8 err r m).2.1 ∧ Ml (fun b => S2 b ∨ w.heap.size ≤ b) (fieldR 8 err r m).2.2 vp' vm' ve' w' ∧ Only none_ w w' ∧ vp' = vp ∧ vm' = vm := by
  obtain ⟨i0, hi0, hz0, hz1, hz2⟩ := rinfo_parts rent_info8
  subst hv
  obtain ⟨A1, c1, A2, c2, A3, c3, ea, eb, ec⟩ := hl.shape
  clear ec
  subst ea eb
  obtain ⟨w0, hw0⟩ : ∃ w0, (((w.alloc (.cells #[.slice A bs.length c, .int .i64 (p0 : Int), .int .i64 err] 169)).alloc (.cells #[.int .i64 m.kd, .int .i64 m.pe, .int .i64 m.hp, .bool m.hi, .slice A1 m.ps.length c1, .int .i64 m.nu, .int .u64 (m.su : Int), .int .i64 m.mr.a.c, .int .i64 m.mr.a.s, .string m.mr.k, .slice A2 m.ms.length c2, .slice none 0 0] 31)).alloc (.cells #[.slice none 0 0, .int .i64 0, .int .i64 0] 169)).alloc (.cells #[.int .i64 0, .int .i64 0, .int .i64 0, .bool false, .slice none 0 0, .int .i64 0, .int .u64 0, .int .i64 0, .int .i64 0, .string ⟨#[]⟩, .slice none 0 0, .slice none 0 0] 31) = w0 := ⟨_, rfl⟩
  have T0 : Hid (Oz w #[.slice A bs.length c, .int .i64 (p0 : Int), .int .i64 err] #[.int .i64 m.kd, .int .i64 m.pe, .int .i64 m.hp, .bool m.hi, .slice A1 m.ps.length c1, .int .i64 m.nu, .int .u64 (m.su : Int), .int .i64 m.mr.a.c, .int .i64 m.mr.a.s, .string m.mr.k, .slice A2 m.ms.length c2, .slice none 0 0] w0) := by rw [Hid, ← hw0]; exact Oz.new w _ _
  have HW := Lib.hid hw0
  have HL := Lib.hid (fun (w' : World) (o : Only none_ w w') => (hl.keep o).mono (T := fun b => S2 b ∨ w.heap.size ≤ b) (fun _ _ h => .inl h))
  have HB := Lib.hid (fun (w' : World) (o : Only none_ w w') => h.only o (fun _ _ h => h))
  have HSS := Lib.hid (fun (w' : World) (o : Only none_ w w') (b : Nat) (hb : S b) => Nat.lt_of_lt_of_le (hS b hb) o.size)
  have HLL := Lib.hid hL
  have C1 := Lib.hid (rk_many A c p0 bs r err S _ (HB.out w0 T0.out.ho) (HSS.out w0 T0.out.ho) hr hp0 hL)
  have hk8 := lenR_lt err r
  have HF : Hid (fieldR 8 err r m = ((listR entR (lenR err r).2.2 (lenR err r).1 (lenR err r).2.1).1, (listR entR (lenR err r).2.2 (lenR err r).1 (lenR err r).2.1).2.1, { m with es := (listR entR (lenR err r).2.2 (lenR err r).1 (lenR err r).2.1).2.2 })) := rfl
  obtain ⟨⟨e1, r1, n1⟩, ha1⟩ : ∃ a, lenR err r = a := ⟨_, rfl⟩
  rw [ha1] at C1 HF hk8
  dsimp only at C1 HF hk8
  clear h hS hr hp0 hL hl hw0 ha1 hz
  go_enter Tryz.func82, Tryz.ntmps82
  go_upto_region 1 with fail
  rw [HW.out]
  go_wp2_with (first
    | (refine wpl_load rfl 169 _ rfl w.heap.size rfl 169 #[.slice A bs.length c, .int .i64 (p0 : Int), .int .i64 err] _ T0.out.c0 Tryz.underlying169 rfl (by kernel_rfl) ?_)
    | (go_at_call 185; refine C1.out.mono ?_; rintro E w1 ⟨q1, rfl, hq1, hr1, o1⟩
       have T1 := Lib.hid (T0.out.keep o1)
       have Q1 := Lib.hid hq1
       have R1 := Lib.hid hr1
       clear hq1 hr1 o1)
    | (refine wpList_store_row rfl 169 _ _ rfl w.heap.size #[.slice A bs.length c, .int .i64 (q1 : Int), .int .i64 e1] rfl rfl 169 _ T1.out.c0 (by kernel_rfl) rfl (by simp [Value.oneCell']) ?_
       have T2 : Hid (Ox enRow 9 123 w #[.slice A bs.length c, .int .i64 (q1 : Int), .int .i64 e1] #[.int .i64 m.kd, .int .i64 m.pe, .int .i64 m.hp, .bool m.hi, .slice A1 m.ps.length c1, .int .i64 m.nu, .int .u64 (m.su : Int), .int .i64 m.mr.a.c, .int .i64 m.mr.a.s, .string m.mr.k, .slice A2 m.ms.length c2, .slice none 0 0] (.slice none 0 0) ([] : List En) (w1.setRow w.heap.size #[.slice A bs.length c, .int .i64 (q1 : Int), .int .i64 e1])) := ⟨T1.out.row #[.slice A bs.length c, .int .i64 (q1 : Int), .int .i64 e1], World.ownsRow_nil _ _ _ _⟩))
  generalize w1.setRow w.heap.size #[.slice A bs.length c, .int .i64 (q1 : Int), .int .i64 e1] = w2 at *
  go_loopw [13] (fun s10 wr => ∃ i : Nat, i ≤ n1 ∧ s10 = .int .i64 i ∧ ∃ (q : Nat) (v : Value), q = bs.length - (listR entR i e1 r1).2.1.length ∧ Rest bs (listR entR i e1 r1).2.1 ∧
    Ox enRow 9 123 w #[.slice A bs.length c, .int .i64 (q : Int), .int .i64 (listR entR i e1 r1).1] #[.int .i64 m.kd, .int .i64 m.pe, .int .i64 m.hp, .bool m.hi, .slice A1 m.ps.length c1, .int .i64 m.nu, .int .u64 (m.su : Int), .int .i64 m.mr.a.c, .int .i64 m.mr.a.s, .string m.mr.k, .slice A2 m.ms.length c2, v] v (listR entR i e1 r1).2.2 wr) (fun s10 _ => n1 - (intOf s10).toNat)
  case atStart => exact ⟨0, by omega, rfl, q1, _, Q1.out, R1.out, T2.out⟩
  case round =>
    obtain ⟨i, hi, rfl, q, v, hq, hrr, t⟩ := hrel
    obtain ⟨A5, cp, hs⟩ : ∃ A c, v = .slice A (listR entR i e1 r1).2.2.length c := by
      rcases t.ow.2 with ⟨e, h0⟩ | ⟨_, _, _, e, _⟩
      · exact ⟨none, 0, by rw [e, h0]⟩
      · exact ⟨_, _, e⟩
    subst hs
    have hct := listR_count entR e1 r1 i
    by_cases hlt : i < n1
    · have hlt' : (i : Int) < (n1 : Int) := by omega
      have HSN : Hid (listR entR (i + 1) e1 r1 = ((entR (listR entR i e1 r1).1 (listR entR i e1 r1).2.1).1, (entR (listR entR i e1 r1).1 (listR entR i e1 r1).2.1).2.1, (listR entR i e1 r1).2.2 ++ [(entR (listR entR i e1 r1).1 (listR entR i e1 r1).2.1).2.2])) := rfl
      obtain ⟨⟨e2, r2, l2⟩, hs2⟩ : ∃ a, listR entR i e1 r1 = a := ⟨_, rfl⟩
      rw [hs2] at hct hq hrr t HSN
      dsimp only at hct hq hrr t HSN
      rw [hct] at t
      obtain ⟨wa, hwa⟩ : ∃ wa, wr.alloc (.cells #[.string ⟨#[]⟩, .string ⟨#[]⟩, .bool false, .int .i64 0, .int .i64 0, .int .i64 0, .int .i64 0, .int .i64 0, .int .i64 0] 123) = wa := ⟨_, rfl⟩
      have ta : Ox enRow 9 123 w #[.slice A bs.length c, .int .i64 (q : Int), .int .i64 e2] #[.int .i64 m.kd, .int .i64 m.pe, .int .i64 m.hp, .bool m.hi, .slice A1 m.ps.length c1, .int .i64 m.nu, .int .u64 (m.su : Int), .int .i64 m.mr.a.c, .int .i64 m.mr.a.s, .string m.mr.k, .slice A2 m.ms.length c2, .slice A5 i cp] (.slice A5 i cp) l2 wa := by rw [← hwa]; exact t.keep ((Only.refl none_ wr).alloc _)
      have C := Lib.hid (rf_take A c q bs r2 e2 S wa (HB.out wa ta.oz.ho) (HSS.out wa ta.oz.ho) hrr hq HLL.out)
      have HN : Hid (entR e2 r2 = ((takeC e2 r2), (takeB e2 r2), (takeE e2 r2))) := rfl
      obtain ⟨e3, he3⟩ : ∃ a, (takeC e2 r2) = a := ⟨_, rfl⟩
      obtain ⟨r3, hr3⟩ : ∃ a, (takeB e2 r2) = a := ⟨_, rfl⟩
      obtain ⟨x, hx3⟩ : ∃ a, (takeE e2 r2) = a := ⟨_, rfl⟩
      rw [he3, hr3, hx3] at C HN
      rw [HN.out] at HSN
      dsimp only at HSN
      have HTWO := Lib.hid (fun (w3 : World) (o : Only none_ wa w3) (cs3 z3 : Array Value) => t.two (by decide) 123 #[.string ⟨#[]⟩, .string ⟨#[]⟩, .bool false, .int .i64 0, .int .i64 0, .int .i64 0, .int .i64 0, .int .i64 0, .int .i64 0] (hwa ▸ o) cs3 z3)
      have TA := Lib.hid ta
      have XA : Hid (Blk wa wr.heap.size 123 #[.string ⟨#[]⟩, .string ⟨#[]⟩, .bool false, .int .i64 0, .int .i64 0, .int .i64 0, .int .i64 0, .int .i64 0, .int .i64 0]) := by rw [Hid, ← hwa]; exact Blk.new wr _ _
      have HWA := Lib.hid hwa
      have HC0 := Lib.hid t.oz.c0.lt
      have HCT := Lib.hid hct
      have HLN : Hid (i + 1 ≤ maxLen ∧ (i + 1) * 88 ≤ 140737488355328) := by simp only [Hid, maxLen]; omega
      have HONE : Hid (∀ u ∈ enRow x, u.oneCell' = true) := by intro u hu; simp [enRow] at hu; rcases hu with rfl | rfl | rfl | rfl | rfl | rfl | rfl | rfl | rfl <;> rfl
      clear t ta hct hs2 hq hrr HF hwa he3 hr3 hx3
      go_wp2_with (first
        | (refine wpl_new rfl rfl 123 rfl _ _ rfl #[.string ⟨#[]⟩, .string ⟨#[]⟩, .bool false, .int .i64 0, .int .i64 0, .int .i64 0, .int .i64 0, .int .i64 0, .int .i64 0] rfl rfl (by kernel_rfl) (by simp [Value.oneCell']) ?_; rw [HWA.out])
        | (refine wpl_load rfl 169 _ rfl w.heap.size rfl 169 #[.slice A bs.length c, .int .i64 (q : Int), .int .i64 e2] _ TA.out.oz.c0 Tryz.underlying169 rfl (by kernel_rfl) ?_)
        | (go_at_call 187; refine C.out.mono ?_; rintro E w3 ⟨q3, rfl, hq3, hr3, o3⟩
           have T3 := Lib.hid (TA.out.keep o3)
           have X3 := Lib.hid (XA.out.only o3 (fun h => h))
           have T5 := Lib.hid (HTWO.out w3 o3 #[.slice A bs.length c, .int .i64 (q3 : Int), .int .i64 e3] #[.string x.k, .string x.v, .bool x.d, .int .i64 x.s.c, .int .i64 x.s.s, .int .i64 x.a.c, .int .i64 x.a.s, .int .i64 x.p, .int .i64 x.g])
           have hz3 : ((w3.setRow w.heap.size #[.slice A bs.length c, .int .i64 (q3 : Int), .int .i64 e3]).setRow wr.heap.size #[.string x.k, .string x.v, .bool x.d, .int .i64 x.s.c, .int .i64 x.s.s, .int .i64 x.a.c, .int .i64 x.a.s, .int .i64 x.p, .int .i64 x.g]).heap.size = w3.heap.size := by simp [World.setRow]
           have Q3 := Lib.hid hq3
           have R3 := Lib.hid hr3
           clear hq3 hr3 o3)
        | (refine wpList_store_row rfl 169 _ _ rfl w.heap.size #[.slice A bs.length c, .int .i64 (q3 : Int), .int .i64 e3] rfl rfl 169 _ T3.out.oz.c0 (by kernel_rfl) rfl (by simp [Value.oneCell']) ?_
           have X4 := Lib.hid (X3.out.setRow_far (g' := w.heap.size) (by have := HC0.out; omega) #[.slice A bs.length c, .int .i64 (q3 : Int), .int .i64 e3]))
        | (refine wpList_store_row rfl 123 _ _ rfl wr.heap.size #[.string x.k, .string x.v, .bool x.d, .int .i64 x.s.c, .int .i64 x.s.s, .int .i64 x.a.c, .int .i64 x.a.s, .int .i64 x.p, .int .i64 x.g] rfl rfl 123 _ X4.out (by kernel_rfl) rfl (by simp [Value.oneCell']) ?_
           have X5 := Lib.hid T5.out.2
           have T5 := Lib.hid T5.out.1
           generalize (w3.setRow w.heap.size #[.slice A bs.length c, .int .i64 (q3 : Int), .int .i64 e3]).setRow wr.heap.size #[.string x.k, .string x.v, .bool x.d, .int .i64 x.s.c, .int .i64 x.s.s, .int .i64 x.a.c, .int .i64 x.a.s, .int .i64 x.p, .int .i64 x.g] = w5 at *
           have k4 := T5.out.oz.c1.cell_ (i := 11) rfl)
        | (refine wpl_load rfl 123 _ rfl wr.heap.size rfl 123 #[.string x.k, .string x.v, .bool x.d, .int .i64 x.s.c, .int .i64 x.s.s, .int .i64 x.a.c, .int .i64 x.a.s, .int .i64 x.p, .int .i64 x.g] _ X5.out Tryz.underlying123 rfl (by kernel_rfl) ?_
           have T6 := Lib.hid (T5.out.keep ((Only.refl none_ _).alloc (.cells #[.string x.k, .string x.v, .bool x.d, .int .i64 x.s.c, .int .i64 x.s.s, .int .i64 x.a.c, .int .i64 x.a.s, .int .i64 x.p, .int .i64 x.g] 123)))
           have C6 : Hid (Cel (w5.alloc (.cells #[.string x.k, .string x.v, .bool x.d, .int .i64 x.s.c, .int .i64 x.s.s, .int .i64 x.a.c, .int .i64 x.a.s, .int .i64 x.p, .int .i64 x.g] 123)) (fun b => b = w3.heap.size) (.slice (some ⟨w3.heap.size, 0, none⟩) 1 1) 1 9 (enRow x)) := by
             have hc := cel_made w5 123 9 1 #[.string x.k, .string x.v, .bool x.d, .int .i64 x.s.c, .int .i64 x.s.s, .int .i64 x.a.c, .int .i64 x.a.s, .int .i64 x.p, .int .i64 x.g] rfl (by simp [maxLen])
             rw [hz3] at hc
             exact hc)
        | (at_builtin; refine wpList_append_cel _ rfl (.tmp 33) (.tmp 35) 29 rfl w.heap.size 123 i0 _ 9 88 Tryz.underlying29 hi0 hz0 hz1 hz2 rfl (by omega) (.slice A5 i cp) i _ rfl (by have := T6.out.ow; rw [HCT.out] at this; exact this) _ _ 1 _ rfl C6.out HONE.out HLN.out.1 HLN.out.2 T6.out.oz.ho.size ?_
           intro A6 n6 k6 w6 hown hgrow hmv
           have y6 := T6.out.oz.c1.only ((Only.refl (fun b => (Value.slice A5 i cp).ownBlock = some b) _).grown hgrow (fun k hk => .inl hk)) (fun e => own_blk_ne T6.out.ow T6.out.oz.c1 (by decide) e)
           have c6 := y6.cell_ (i := 11) rfl
           have f6 := y6.frozen 11
           have T7 := Lib.hid (Ox.cast (ms' := #[.int .i64 m.kd, .int .i64 m.pe, .int .i64 m.hp, .bool m.hi, .slice A1 m.ps.length c1, .int .i64 m.nu, .int .u64 (m.su : Int), .int .i64 m.mr.a.c, .int .i64 m.mr.a.s, .string m.mr.k, .slice A2 m.ms.length c2, .slice A6 n6 k6]) (T6.out.app (by decide) (by decide) 11 x hown (by rw [HCT.out]) rfl hgrow) (by simp))
           clear hown hgrow hmv y6))
      go_roundw
      case rel => exact ⟨i + 1, by omega, by go_num, q3, _, by rw [HSN.out]; exact Q3.out, by rw [HSN.out]; exact R3.out, by rw [HSN.out]; exact T7.out⟩
      case measure => simp [intOf]; omega
    · obtain rfl : n1 = i := by omega
      obtain ⟨⟨e2, r2, l2⟩, hs2⟩ : ∃ a, listR entR n1 e1 r1 = a := ⟨_, rfl⟩
      rw [hs2] at hct hq hrr t HF
      dsimp only at hct hq hrr t HF
      have T := Lib.hid t
      have Q := Lib.hid hq
      have R := Lib.hid hrr
      clear t hq hrr hct hs2
      go_upto_region 41 with fail
      have TD := Lib.hid T.out.oz.drew
      refine wp_region_any (by kernel_rfl) ?_
      try (change wpAny _ _ _ _ _ _ _ (World.drew _))
      refine wpAny_ready (rs := [0, 1]) (by decide +kernel) (by simp) ?_
      refine AllReady.cons rfl (fun K hK => ?_) ?_
      · refine step_load_row (by simp [Region.wanted]) 169 _ rfl w.heap.size rfl 169 #[.slice A bs.length c, .int .i64 (q : Int), .int .i64 e2] _ TD.out.c0 Tryz.underlying169 rfl (by kernel_rfl) ?_
        refine hK _ _ ?_
        clear hK K
        try simp only [Act.put, List.getElem_toArray, List.getElem_cons_zero, List.getElem_cons_succ, List.setIfInBounds_toArray, List.set_cons_zero, List.set_cons_succ]
        refine wpAny_ready (rs := [1, 2]) (by decide +kernel) (by simp) ?_
        refine AllReady.cons rfl (fun K hK => ?_) ?_
        · refine step_load_row (by simp [Region.wanted]) 31 _ rfl (w.heap.size + 1) rfl 31 #[.int .i64 m.kd, .int .i64 m.pe, .int .i64 m.hp, .bool m.hi, .slice A1 m.ps.length c1, .int .i64 m.nu, .int .u64 (m.su : Int), .int .i64 m.mr.a.c, .int .i64 m.mr.a.s, .string m.mr.k, .slice A2 m.ms.length c2, .slice A5 l2.length cp] _ TD.out.c1 Tryz.underlying31 rfl (by kernel_rfl) ?_
          refine hK _ _ ?_
          clear hK K
          try simp only [Act.put, List.getElem_toArray, List.getElem_cons_zero, List.getElem_cons_succ, List.setIfInBounds_toArray, List.set_cons_zero, List.set_cons_succ]
          refine wpAny_ready (rs := [2]) (by decide +kernel) (by simp) ?_
          refine AllReady.cons rfl (fun K hK => ?_) AllReady.nil
          refine step_store_all (by simp [Region.wanted]) 169 _ _ rfl (w.heap.size + 1 + 1) #[.slice A bs.length c, .int .i64 (q : Int), .int .i64 e2] rfl rfl 169 _ TD.out.c2 (by kernel_rfl) rfl (by simp [Value.oneCell']) ?_
          refine hK _ _ ?_
          clear hK K
          try simp only [Act.put, List.getElem_toArray, List.getElem_cons_zero, List.getElem_cons_succ, List.setIfInBounds_toArray, List.set_cons_zero, List.set_cons_succ]
          refine wpAny_ready (rs := [3]) (by decide +kernel) (by simp) ?_
          refine AllReady.cons rfl (fun K hK => ?_) AllReady.nil
          refine step_store_all (by simp [Region.wanted]) 31 _ _ rfl (w.heap.size + 1 + 1 + 1) #[.int .i64 m.kd, .int .i64 m.pe, .int .i64 m.hp, .bool m.hi, .slice A1 m.ps.length c1, .int .i64 m.nu, .int .u64 (m.su : Int), .int .i64 m.mr.a.c, .int .i64 m.mr.a.s, .string m.mr.k, .slice A2 m.ms.length c2, .slice A5 l2.length cp] rfl rfl 31 _ TD.out.mid.2 (by kernel_rfl) rfl (by simp [Value.oneCell']) ?_
          refine hK _ _ ?_
          clear hK K
          try simp only [Act.put, List.getElem_toArray, List.getElem_cons_zero, List.getElem_cons_succ, List.setIfInBounds_toArray, List.set_cons_zero, List.set_cons_succ]
          refine wpAny_done (by kernel_rfl) ?_ _
          go_wp2_with fail
          refine bodyPost_ret (results_cell_cell rfl _ _ (w.heap.size + 1 + 1) (w.heap.size + 1 + 1 + 1) 169 31 _ _ _ _ rfl TD.out.fin.1 rfl TD.out.fin.2.1 Tryz.underlying169 rfl (by kernel_rfl) Tryz.underlying31 rfl (by kernel_rfl)) rfl ?_
          have ML := HL.out _ TD.out.fin.2.2
          have OWN := T.out.fin (S2 := S2) (by decide) (by decide)
          rw [HF.out]
          exact ⟨q, _, _, _, rfl, Q.out, R.out, ⟨ML.p, ML.q, OWN⟩, TD.out.fin.2.2, rfl, rfl⟩
        refine AllReady.cons rfl (fun K hK => ?_) AllReady.nil
        refine step_store_all (by simp [Region.wanted]) 169 _ _ rfl (w.heap.size + 1 + 1) #[.slice A bs.length c, .int .i64 (q : Int), .int .i64 e2] rfl rfl 169 _ TD.out.c2 (by kernel_rfl) rfl (by simp [Value.oneCell']) ?_
        refine hK _ _ ?_
        clear hK K
        try simp only [Act.put, List.getElem_toArray, List.getElem_cons_zero, List.getElem_cons_succ, List.setIfInBounds_toArray, List.set_cons_zero, List.set_cons_succ]
        refine wpAny_ready (rs := [1]) (by decide +kernel) (by simp) ?_
        refine AllReady.cons rfl (fun K hK => ?_) AllReady.nil
        refine step_load_row (by simp [Region.wanted]) 31 _ rfl (w.heap.size + 1) rfl 31 #[.int .i64 m.kd, .int .i64 m.pe, .int .i64 m.hp, .bool m.hi, .slice A1 m.ps.length c1, .int .i64 m.nu, .int .u64 (m.su : Int), .int .i64 m.mr.a.c, .int .i64 m.mr.a.s, .string m.mr.k, .slice A2 m.ms.length c2, .slice A5 l2.length cp] _ TD.out.mid.1 Tryz.underlying31 rfl (by kernel_rfl) ?_
        refine hK _ _ ?_
        clear hK K
        try simp only [Act.put, List.getElem_toArray, List.getElem_cons_zero, List.getElem_cons_succ, List.setIfInBounds_toArray, List.set_cons_zero, List.set_cons_succ]
        refine wpAny_ready (rs := [3]) (by decide +kernel) (by simp) ?_
        refine AllReady.cons rfl (fun K hK => ?_) AllReady.nil
        refine step_store_all (by simp [Region.wanted]) 31 _ _ rfl (w.heap.size + 1 + 1 + 1) #[.int .i64 m.kd, .int .i64 m.pe, .int .i64 m.hp, .bool m.hi, .slice A1 m.ps.length c1, .int .i64 m.nu, .int .u64 (m.su : Int), .int .i64 m.mr.a.c, .int .i64 m.mr.a.s, .string m.mr.k, .slice A2 m.ms.length c2, .slice A5 l2.length cp] rfl rfl 31 _ TD.out.mid.2 (by kernel_rfl) rfl (by simp [Value.oneCell']) ?_
        refine hK _ _ ?_
        clear hK K
        try simp only [Act.put, List.getElem_toArray, List.getElem_cons_zero, List.getElem_cons_succ, List.setIfInBounds_toArray, List.set_cons_zero, List.set_cons_succ]
        refine wpAny_done (by kernel_rfl) ?_ _
        go_wp2_with fail
        refine bodyPost_ret (results_cell_cell rfl _ _ (w.heap.size + 1 + 1) (w.heap.size + 1 + 1 + 1) 169 31 _ _ _ _ rfl TD.out.fin.1 rfl TD.out.fin.2.1 Tryz.underlying169 rfl (by kernel_rfl) Tryz.underlying31 rfl (by kernel_rfl)) rfl ?_
        have ML := HL.out _ TD.out.fin.2.2
        have OWN := T.out.fin (S2 := S2) (by decide) (by decide)
        rw [HF.out]
        exact ⟨q, _, _, _, rfl, Q.out, R.out, ⟨ML.p, ML.q, OWN⟩, TD.out.fin.2.2, rfl, rfl⟩
      refine AllReady.cons rfl (fun K hK => ?_) AllReady.nil
      refine step_load_row (by simp [Region.wanted]) 31 _ rfl (w.heap.size + 1) rfl 31 #[.int .i64 m.kd, .int .i64 m.pe, .int .i64 m.hp, .bool m.hi, .slice A1 m.ps.length c1, .int .i64 m.nu, .int .u64 (m.su : Int), .int .i64 m.mr.a.c, .int .i64 m.mr.a.s, .string m.mr.k, .slice A2 m.ms.length c2, .slice A5 l2.length cp] _ TD.out.c1 Tryz.underlying31 rfl (by kernel_rfl) ?_
      refine hK _ _ ?_
      clear hK K
      try simp only [Act.put, List.getElem_toArray, List.getElem_cons_zero, List.getElem_cons_succ, List.setIfInBounds_toArray, List.set_cons_zero, List.set_cons_succ]
      refine wpAny_ready (rs := [0]) (by decide +kernel) (by simp) ?_
      refine AllReady.cons rfl (fun K hK => ?_) AllReady.nil
      refine step_load_row (by simp [Region.wanted]) 169 _ rfl w.heap.size rfl 169 #[.slice A bs.length c, .int .i64 (q : Int), .int .i64 e2] _ TD.out.c0 Tryz.underlying169 rfl (by kernel_rfl) ?_
      refine hK _ _ ?_
      clear hK K
      try simp only [Act.put, List.getElem_toArray, List.getElem_cons_zero, List.getElem_cons_succ, List.setIfInBounds_toArray, List.set_cons_zero, List.set_cons_succ]
      refine wpAny_ready (rs := [2]) (by decide +kernel) (by simp) ?_
      refine AllReady.cons rfl (fun K hK => ?_) AllReady.nil
      refine step_store_all (by simp [Region.wanted]) 169 _ _ rfl (w.heap.size + 1 + 1) #[.slice A bs.length c, .int .i64 (q : Int), .int .i64 e2] rfl rfl 169 _ TD.out.c2 (by kernel_rfl) rfl (by simp [Value.oneCell']) ?_
      refine hK _ _ ?_
      clear hK K
      try simp only [Act.put, List.getElem_toArray, List.getElem_cons_zero, List.getElem_cons_succ, List.setIfInBounds_toArray, List.set_cons_zero, List.set_cons_succ]
      refine wpAny_ready (rs := [3]) (by decide +kernel) (by simp) ?_
      refine AllReady.cons rfl (fun K hK => ?_) AllReady.nil
      refine step_store_all (by simp [Region.wanted]) 31 _ _ rfl (w.heap.size + 1 + 1 + 1) #[.int .i64 m.kd, .int .i64 m.pe, .int .i64 m.hp, .bool m.hi, .slice A1 m.ps.length c1, .int .i64 m.nu, .int .u64 (m.su : Int), .int .i64 m.mr.a.c, .int .i64 m.mr.a.s, .string m.mr.k, .slice A2 m.ms.length c2, .slice A5 l2.length cp] rfl rfl 31 _ TD.out.mid.2 (by kernel_rfl) rfl (by simp [Value.oneCell']) ?_
      refine hK _ _ ?_
      clear hK K
      try simp only [Act.put, List.getElem_toArray, List.getElem_cons_zero, List.getElem_cons_succ, List.setIfInBounds_toArray, List.set_cons_zero, List.set_cons_succ]
      refine wpAny_done (by kernel_rfl) ?_ _
      go_wp2_with fail
      refine bodyPost_ret (results_cell_cell rfl _ _ (w.heap.size + 1 + 1) (w.heap.size + 1 + 1 + 1) 169 31 _ _ _ _ rfl TD.out.fin.1 rfl TD.out.fin.2.1 Tryz.underlying169 rfl (by kernel_rfl) Tryz.underlying31 rfl (by kernel_rfl)) rfl ?_
      have ML := HL.out _ TD.out.fin.2.2
      have OWN := T.out.fin (S2 := S2) (by decide) (by decide)
      rw [HF.out]
      exact ⟨q, _, _, _, rfl, Q.out, R.out, ⟨ML.p, ML.q, OWN⟩, TD.out.fin.2.2, rfl, rfl⟩
end Go.Proofs.YtlieolehpmobfaaGreatDoor
end
section
namespace Go.Proofs.YtlieolehpmobfaaGreatDoor
open Go.RowKit
set_option linter.all false
set_option maxRecDepth 100000
theorem rk_any (i : Nat) (hi : i < 9) (A : Option Addr) (c p0 : Nat) (bs r : List UInt8) (err : Int) (S S2 : Nat → Prop) (m : Ms) (vp vm ve : Value) (w : World) (h : Byt w S (.slice A bs.length c) bs) (hS : ∀ b, S b → b < w.heap.size) (hr : Rest bs r) (hp0 : p0 = bs.length - r.length) (hL : bs.length ≤ 100000) (hl : Ml S2 m vp vm ve w)
    (n3 : i ≤ 3 → m.ps = [] ∧ vp = .slice none 0 0) (n7 : i ≤ 7 → m.ms = [] ∧ vm = .slice none 0 0) (n8 : i ≤ 8 → m.es = [] ∧ ve = .slice none 0 0) :
    Calls Tryz.prog 82 #[.agg #[.slice A bs.length c, .int .i64 (p0 : Int), .int .i64 err], .agg #[.int .i64 m.kd, .int .i64 m.pe, .int .i64 m.hp, .bool m.hi, vp, .int .i64 m.nu, .int .u64 (m.su : Int), .int .i64 m.mr.a.c, .int .i64 m.mr.a.s, .string m.mr.k, vm, ve], .int .i64 (i : Int)] w fun E w' =>
      ∃ (q : Nat) (vp' vm' ve' : Value), E = .returned (.tuple #[.agg #[.slice A bs.length c, .int .i64 (q : Int), .int .i64 (fieldR i err r m).1], .agg #[.int .i64 (fieldR i err r m).2.2.kd, .int .i64 (fieldR i err r m).2.2.pe, .int .i64 (fieldR i err r m).2.2.hp, .bool (fieldR i err r m).2.2.hi, vp', .int .i64 (fieldR i err r m).2.2.nu, .int .u64 ((fieldR i err r m).2.2.su : Int), .int .i64 (fieldR i err r m).2.2.mr.a.c, .int .i64 (fieldR i err r m).2.2.mr.a.s, .string (fieldR i err r m).2.2.mr.k, vm', ve']]) ∧ q = bs.length - (fieldR i err r m).2.1.length ∧ Rest bs (fieldR i err r m).2.1 ∧ Ml (fun b => S2 b ∨ w.heap.size ≤ b) (fieldR i err r m).2.2 vp' vm' ve' w' ∧ Only none_ w w' ∧
        (i < 3 → (fieldR i err r m).2.2.ps = [] ∧ vp' = .slice none 0 0) ∧ (i < 7 → (fieldR i err r m).2.2.ms = [] ∧ vm' = .slice none 0 0) ∧ (i < 8 → (fieldR i err r m).2.2.es = [] ∧ ve' = .slice none 0 0) := by
  match i, hi with
  | 0, _ => exact (rk_one0 A c p0 bs r err S S2 m vp vm ve w h hS hr hp0 hL hl).mono (fun E w' ⟨q, vp', vm', ve', hE, hq, hR, hM, ho, a3, a7, a8⟩ => ⟨q, vp', vm', ve', hE, hq, hR, hM, ho, fun _ => ⟨(n3 (by omega)).1, a3.trans (n3 (by omega)).2⟩, fun _ => ⟨(n7 (by omega)).1, a7.trans (n7 (by omega)).2⟩, fun _ => ⟨(n8 (by omega)).1, a8.trans (n8 (by omega)).2⟩⟩)
  | 1, _ => exact (rk_one1 A c p0 bs r err S S2 m vp vm ve w h hS hr hp0 hL hl).mono (fun E w' ⟨q, vp', vm', ve', hE, hq, hR, hM, ho, a3, a7, a8⟩ => ⟨q, vp', vm', ve', hE, hq, hR, hM, ho, fun _ => ⟨(n3 (by omega)).1, a3.trans (n3 (by omega)).2⟩, fun _ => ⟨(n7 (by omega)).1, a7.trans (n7 (by omega)).2⟩, fun _ => ⟨(n8 (by omega)).1, a8.trans (n8 (by omega)).2⟩⟩)
  | 2, _ => exact (rk_one2 A c p0 bs r err S S2 m vp vm ve w h hS hr hp0 hL hl).mono (fun E w' ⟨q, vp', vm', ve', hE, hq, hR, hM, ho, a3, a7, a8⟩ => ⟨q, vp', vm', ve', hE, hq, hR, hM, ho, fun _ => ⟨(n3 (by omega)).1, a3.trans (n3 (by omega)).2⟩, fun _ => ⟨(n7 (by omega)).1, a7.trans (n7 (by omega)).2⟩, fun _ => ⟨(n8 (by omega)).1, a8.trans (n8 (by omega)).2⟩⟩)
  | 3, _ => exact (rk_one3 A c p0 bs r err S S2 m vp vm ve w h hS hr hp0 hL hl (n3 (by omega)).1 (n3 (by omega)).2).mono (fun E w' ⟨q, vp', vm', ve', hE, hq, hR, hM, ho, a7, a8⟩ => ⟨q, vp', vm', ve', hE, hq, hR, hM, ho, fun h => absurd h (by omega), fun _ => ⟨(n7 (by omega)).1, a7.trans (n7 (by omega)).2⟩, fun _ => ⟨(n8 (by omega)).1, a8.trans (n8 (by omega)).2⟩⟩)
  | 4, _ => exact (rk_one4 A c p0 bs r err S S2 m vp vm ve w h hS hr hp0 hL hl).mono (fun E w' ⟨q, vp', vm', ve', hE, hq, hR, hM, ho, a3, a7, a8⟩ => ⟨q, vp', vm', ve', hE, hq, hR, hM, ho, fun h => absurd h (by omega), fun _ => ⟨(n7 (by omega)).1, a7.trans (n7 (by omega)).2⟩, fun _ => ⟨(n8 (by omega)).1, a8.trans (n8 (by omega)).2⟩⟩)
  | 5, _ => exact (rk_one5 A c p0 bs r err S S2 m vp vm ve w h hS hr hp0 hL hl).mono (fun E w' ⟨q, vp', vm', ve', hE, hq, hR, hM, ho, a3, a7, a8⟩ => ⟨q, vp', vm', ve', hE, hq, hR, hM, ho, fun h => absurd h (by omega), fun _ => ⟨(n7 (by omega)).1, a7.trans (n7 (by omega)).2⟩, fun _ => ⟨(n8 (by omega)).1, a8.trans (n8 (by omega)).2⟩⟩)
  | 6, _ => exact (rk_one6 A c p0 bs r err S S2 m vp vm ve w h hS hr hp0 hL hl).mono (fun E w' ⟨q, vp', vm', ve', hE, hq, hR, hM, ho, a3, a7, a8⟩ => ⟨q, vp', vm', ve', hE, hq, hR, hM, ho, fun h => absurd h (by omega), fun _ => ⟨(n7 (by omega)).1, a7.trans (n7 (by omega)).2⟩, fun _ => ⟨(n8 (by omega)).1, a8.trans (n8 (by omega)).2⟩⟩)
  | 7, _ => exact (rk_one7 A c p0 bs r err S S2 m vp vm ve w h hS hr hp0 hL hl (n7 (by omega)).1 (n7 (by omega)).2).mono (fun E w' ⟨q, vp', vm', ve', hE, hq, hR, hM, ho, a3, a8⟩ => ⟨q, vp', vm', ve', hE, hq, hR, hM, ho, fun h => absurd h (by omega), fun h => absurd h (by omega), fun _ => ⟨(n8 (by omega)).1, a8.trans (n8 (by omega)).2⟩⟩)
  | 8, _ => exact (rk_one8 A c p0 bs r err S S2 m vp vm ve w h hS hr hp0 hL hl (n8 (by omega)).1 (n8 (by omega)).2).mono (fun E w' ⟨q, vp', vm', ve', hE, hq, hR, hM, ho, a3, a7⟩ => ⟨q, vp', vm', ve', hE, hq, hR, hM, ho, fun h => absurd h (by omega), fun h => absurd h (by omega), fun h => absurd h (by omega)⟩)
end Go.Proofs.YtlieolehpmobfaaGreatDoor
end
section
namespace Go.Proofs.YtlieolehpmobfaaGreatDoor
open Go.RowKit
set_option linter.all false
set_option maxRecDepth 100000
set_option maxHeartbeats 1600000 in
theorem rd_in (S : Nat → Prop) (k : Int) (l : List Int) (v : Value) (w : World) (h : Cel w S v l.length 1 (l.flatMap intI)) (hl : l.length ≤ 4096) :
    Calls Tryz.prog 178 #[.int .i64 k, v] w fun e w' => e = .returned (.bool (l.any fun x => x == k)) ∧ Only none_ w w' := by
  obtain ⟨n, hn⟩ : ∃ n, l.length = n := ⟨_, rfl⟩
  rw [hn] at h hl
  obtain ⟨A, c, rfl, _⟩ := id h
  have HA := Lib.hid (fun (w' : World) (o : Only none_ w w') => h.only o (fun _ _ h => h))
  have HN := Lib.hid hn
  clear h hn
  go_enter Tryz.func178, Tryz.ntmps178
  go_wp2_with fail
  go_loopw [5] (fun s9 wr => ∃ i : Nat, i ≤ n ∧ s9 = .int .i64 i ∧ Only none_ w wr ∧ (l.take i).any (fun x => x == k) = false) (fun s9 _ => n - (intOf s9).toNat)
  case atStart => exact ⟨0, by omega, rfl, Only.refl _ _, by simp⟩
  case round =>
    obtain ⟨i, hi, rfl, o, hall⟩ := hrel
    have HAL := Lib.hid hall
    have O := Lib.hid o
    clear hall
    by_cases hlt : i < n
    · have hin : i < l.length := by have := HN.out; omega
      obtain ⟨x, hx⟩ : ∃ x, l[i]? = some x := ⟨_, List.getElem?_eq_getElem hin⟩
      obtain ⟨b, off, hA, _, _, hc⟩ := in_elem intI_len (by decide) (HA.out _ o) HN.out hx
      subst hA
      have k0 := hc _ (Only.refl none_ _) 0 (.int .i64 x) rfl
      rw [Nat.mul_one, Nat.add_zero] at k0
      have HX := Lib.hid hx
      clear o hc hx
      by_cases hp : x = k
      · have hpb : (x == k) = true := by simpa using hp
        have HE : Hid ((l.any fun x => x == k) = true) := List.any_eq_true.2 ⟨x, List.mem_of_getElem? HX.out, hpb⟩
        clear hp
        go_wp2_with fail
        go_ret
        exact ⟨by rw [HE.out]; rfl, O.out⟩
      · have hpb : (x == k) = false := by simpa using hp
        have HP := Lib.hid hpb
        clear hp
        go_wp2_with fail
        go_roundw
        case rel => exact ⟨i + 1, by omega, by go_num, O.out, by
          rw [List.take_add_one, HX.out]
          simp only [Option.toList_some, List.any_append, HAL.out, List.any_cons, List.any_nil, HP.out]; rfl⟩
        case measure => simp [intOf]; omega
    · have hin : l.take i = l := List.take_of_length_le (by have := HN.out; omega)
      rw [hin] at HAL
      clear o hin
      go_wp2_with fail
      go_ret
      exact ⟨by rw [HAL.out]; rfl, O.out⟩
set_option maxHeartbeats 1600000 in
theorem rd_has0 (k : Int) (w : World) : Calls Tryz.prog 76 #[.int .i64 k, .int .i64 0] w fun e w' => e = .returned (.bool (wHas k 0)) ∧ Only none_ w w' := by
  have C : Hid (Cel (w.alloc (.cells #[.int .i64 2, .int .i64 7] 3)) (fun b => b = w.heap.size) (.slice (some ⟨w.heap.size, 0, none⟩) 2 2) 2 1 (([2, 7] : List Int).flatMap intI)) := cel_made w 3 1 2 #[.int .i64 2, .int .i64 7] rfl (by simp [maxLen])
  have OA := Lib.hid ((Only.refl none_ w).alloc (.cells #[.int .i64 2, .int .i64 7] 3))
  have HE : Hid ((([2, 7] : List Int).any fun x => x == k) = wHas k 0) := by
    rw [Hid, show wHas k 0 = (k == 2 || k == 7) from rfl]
    have hc : ∀ a : Int, (a == k) = (k == a) := fun a => by rw [Bool.eq_iff_iff, beq_iff_eq, beq_iff_eq]; exact ⟨Eq.symm, Eq.symm⟩
    simp only [List.any_cons, List.any_nil, Bool.or_false, hc, Bool.or_assoc]
  go_enter Tryz.func76, Tryz.ntmps76
  go_wp2_with (first
    | (go_at_call 178; refine (rd_in _ k [2, 7] _ _ C.out (by decide)).mono ?_; rw [HE.out]; rintro E w9 ⟨rfl, o9⟩; have O9 := Lib.hid (OA.out.trans o9); clear o9))
  go_ret
  exact ⟨rfl, O9.out⟩
set_option maxHeartbeats 1600000 in
theorem rd_has1 (k : Int) (w : World) : Calls Tryz.prog 76 #[.int .i64 k, .int .i64 1] w fun e w' => e = .returned (.bool (wHas k 1)) ∧ Only none_ w w' := by
  have C : Hid (Cel (w.alloc (.cells #[.int .i64 2, .int .i64 7] 3)) (fun b => b = w.heap.size) (.slice (some ⟨w.heap.size, 0, none⟩) 2 2) 2 1 (([2, 7] : List Int).flatMap intI)) := cel_made w 3 1 2 #[.int .i64 2, .int .i64 7] rfl (by simp [maxLen])
  have OA := Lib.hid ((Only.refl none_ w).alloc (.cells #[.int .i64 2, .int .i64 7] 3))
  have HE : Hid ((([2, 7] : List Int).any fun x => x == k) = wHas k 1) := by
    rw [Hid, show wHas k 1 = (k == 2 || k == 7) from rfl]
    have hc : ∀ a : Int, (a == k) = (k == a) := fun a => by rw [Bool.eq_iff_iff, beq_iff_eq, beq_iff_eq]; exact ⟨Eq.symm, Eq.symm⟩
    simp only [List.any_cons, List.any_nil, Bool.or_false, hc, Bool.or_assoc]
  go_enter Tryz.func76, Tryz.ntmps76
  go_wp2_with (first
    | (go_at_call 178; refine (rd_in _ k [2, 7] _ _ C.out (by decide)).mono ?_; rw [HE.out]; rintro E w9 ⟨rfl, o9⟩; have O9 := Lib.hid (OA.out.trans o9); clear o9))
  go_ret
  exact ⟨rfl, O9.out⟩
set_option maxHeartbeats 1600000 in
theorem rd_has2 (k : Int) (w : World) : Calls Tryz.prog 76 #[.int .i64 k, .int .i64 2] w fun e w' => e = .returned (.bool (wHas k 2)) ∧ Only none_ w w' := by
  go_enter Tryz.func76, Tryz.ntmps76
  go_wp2_with fail
  go_ret
  exact ⟨rfl, Only.refl _ _⟩
set_option maxHeartbeats 1600000 in
theorem rd_has3 (k : Int) (w : World) : Calls Tryz.prog 76 #[.int .i64 k, .int .i64 3] w fun e w' => e = .returned (.bool (wHas k 3)) ∧ Only none_ w w' := by
  have C : Hid (Cel (w.alloc (.cells #[.int .i64 7, .int .i64 8] 3)) (fun b => b = w.heap.size) (.slice (some ⟨w.heap.size, 0, none⟩) 2 2) 2 1 (([7, 8] : List Int).flatMap intI)) := cel_made w 3 1 2 #[.int .i64 7, .int .i64 8] rfl (by simp [maxLen])
  have OA := Lib.hid ((Only.refl none_ w).alloc (.cells #[.int .i64 7, .int .i64 8] 3))
  have HE : Hid ((([7, 8] : List Int).any fun x => x == k) = wHas k 3) := by
    rw [Hid, show wHas k 3 = (k == 7 || k == 8) from rfl]
    have hc : ∀ a : Int, (a == k) = (k == a) := fun a => by rw [Bool.eq_iff_iff, beq_iff_eq, beq_iff_eq]; exact ⟨Eq.symm, Eq.symm⟩
    simp only [List.any_cons, List.any_nil, Bool.or_false, hc, Bool.or_assoc]
  go_enter Tryz.func76, Tryz.ntmps76
  go_wp2_with (first
    | (go_at_call 178; refine (rd_in _ k [7, 8] _ _ C.out (by decide)).mono ?_; rw [HE.out]; rintro E w9 ⟨rfl, o9⟩; have O9 := Lib.hid (OA.out.trans o9); clear o9))
  go_ret
  exact ⟨rfl, O9.out⟩
set_option maxHeartbeats 1600000 in
theorem rd_has4 (k : Int) (w : World) : Calls Tryz.prog 76 #[.int .i64 k, .int .i64 4] w fun e w' => e = .returned (.bool (wHas k 4)) ∧ Only none_ w w' := by
  have C : Hid (Cel (w.alloc (.cells #[.int .i64 16, .int .i64 17, .int .i64 18, .int .i64 19] 3)) (fun b => b = w.heap.size) (.slice (some ⟨w.heap.size, 0, none⟩) 4 4) 4 1 (([16, 17, 18, 19] : List Int).flatMap intI)) := cel_made w 3 1 4 #[.int .i64 16, .int .i64 17, .int .i64 18, .int .i64 19] rfl (by simp [maxLen])
  have OA := Lib.hid ((Only.refl none_ w).alloc (.cells #[.int .i64 16, .int .i64 17, .int .i64 18, .int .i64 19] 3))
  have HE : Hid ((([16, 17, 18, 19] : List Int).any fun x => x == k) = wHas k 4) := by
    rw [Hid, show wHas k 4 = (k == 16 || k == 17 || k == 18 || k == 19) from rfl]
    have hc : ∀ a : Int, (a == k) = (k == a) := fun a => by rw [Bool.eq_iff_iff, beq_iff_eq, beq_iff_eq]; exact ⟨Eq.symm, Eq.symm⟩
    simp only [List.any_cons, List.any_nil, Bool.or_false, hc, Bool.or_assoc]
  go_enter Tryz.func76, Tryz.ntmps76
  go_wp2_with (first
    | (go_at_call 178; refine (rd_in _ k [16, 17, 18, 19] _ _ C.out (by decide)).mono ?_; rw [HE.out]; rintro E w9 ⟨rfl, o9⟩; have O9 := Lib.hid (OA.out.trans o9); clear o9))
  go_ret
  exact ⟨rfl, O9.out⟩
set_option maxHeartbeats 1600000 in
theorem rd_has5 (k : Int) (w : World) : Calls Tryz.prog 76 #[.int .i64 k, .int .i64 5] w fun e w' => e = .returned (.bool (wHas k 5)) ∧ Only none_ w w' := by
  have C : Hid (Cel (w.alloc (.cells #[.int .i64 16, .int .i64 17, .int .i64 19] 3)) (fun b => b = w.heap.size) (.slice (some ⟨w.heap.size, 0, none⟩) 3 3) 3 1 (([16, 17, 19] : List Int).flatMap intI)) := cel_made w 3 1 3 #[.int .i64 16, .int .i64 17, .int .i64 19] rfl (by simp [maxLen])
  have OA := Lib.hid ((Only.refl none_ w).alloc (.cells #[.int .i64 16, .int .i64 17, .int .i64 19] 3))
  have HE : Hid ((([16, 17, 19] : List Int).any fun x => x == k) = wHas k 5) := by
    rw [Hid, show wHas k 5 = (k == 16 || k == 17 || k == 19) from rfl]
    have hc : ∀ a : Int, (a == k) = (k == a) := fun a => by rw [Bool.eq_iff_iff, beq_iff_eq, beq_iff_eq]; exact ⟨Eq.symm, Eq.symm⟩
    simp only [List.any_cons, List.any_nil, Bool.or_false, hc, Bool.or_assoc]
  go_enter Tryz.func76, Tryz.ntmps76
  go_wp2_with (first
    | (go_at_call 178; refine (rd_in _ k [16, 17, 19] _ _ C.out (by decide)).mono ?_; rw [HE.out]; rintro E w9 ⟨rfl, o9⟩; have O9 := Lib.hid (OA.out.trans o9); clear o9))
  go_ret
  exact ⟨rfl, O9.out⟩
set_option maxHeartbeats 1600000 in
theorem rd_has6 (k : Int) (w : World) : Calls Tryz.prog 76 #[.int .i64 k, .int .i64 6] w fun e w' => e = .returned (.bool (wHas k 6)) ∧ Only none_ w w' := by
  have C : Hid (Cel (w.alloc (.cells #[.int .i64 18, .int .i64 19] 3)) (fun b => b = w.heap.size) (.slice (some ⟨w.heap.size, 0, none⟩) 2 2) 2 1 (([18, 19] : List Int).flatMap intI)) := cel_made w 3 1 2 #[.int .i64 18, .int .i64 19] rfl (by simp [maxLen])
  have OA := Lib.hid ((Only.refl none_ w).alloc (.cells #[.int .i64 18, .int .i64 19] 3))
  have HE : Hid ((([18, 19] : List Int).any fun x => x == k) = wHas k 6) := by
    rw [Hid, show wHas k 6 = (k == 18 || k == 19) from rfl]
    have hc : ∀ a : Int, (a == k) = (k == a) := fun a => by rw [Bool.eq_iff_iff, beq_iff_eq, beq_iff_eq]; exact ⟨Eq.symm, Eq.symm⟩
    simp only [List.any_cons, List.any_nil, Bool.or_false, hc, Bool.or_assoc]
  go_enter Tryz.func76, Tryz.ntmps76
  go_wp2_with (first
    | (go_at_call 178; refine (rd_in _ k [18, 19] _ _ C.out (by decide)).mono ?_; rw [HE.out]; rintro E w9 ⟨rfl, o9⟩; have O9 := Lib.hid (OA.out.trans o9); clear o9))
  go_ret
  exact ⟨rfl, O9.out⟩
set_option maxHeartbeats 1600000 in
theorem rd_has7 (k : Int) (w : World) : Calls Tryz.prog 76 #[.int .i64 k, .int .i64 7] w fun e w' => e = .returned (.bool (wHas k 7)) ∧ Only none_ w w' := by
  have C : Hid (Cel (w.alloc (.cells #[.int .i64 11, .int .i64 12, .int .i64 15] 3)) (fun b => b = w.heap.size) (.slice (some ⟨w.heap.size, 0, none⟩) 3 3) 3 1 (([11, 12, 15] : List Int).flatMap intI)) := cel_made w 3 1 3 #[.int .i64 11, .int .i64 12, .int .i64 15] rfl (by simp [maxLen])
  have OA := Lib.hid ((Only.refl none_ w).alloc (.cells #[.int .i64 11, .int .i64 12, .int .i64 15] 3))
  have HE : Hid ((([11, 12, 15] : List Int).any fun x => x == k) = wHas k 7) := by
    rw [Hid, show wHas k 7 = (k == 11 || k == 12 || k == 15) from rfl]
    have hc : ∀ a : Int, (a == k) = (k == a) := fun a => by rw [Bool.eq_iff_iff, beq_iff_eq, beq_iff_eq]; exact ⟨Eq.symm, Eq.symm⟩
    simp only [List.any_cons, List.any_nil, Bool.or_false, hc, Bool.or_assoc]
  go_enter Tryz.func76, Tryz.ntmps76
  go_wp2_with (first
    | (go_at_call 178; refine (rd_in _ k [11, 12, 15] _ _ C.out (by decide)).mono ?_; rw [HE.out]; rintro E w9 ⟨rfl, o9⟩; have O9 := Lib.hid (OA.out.trans o9); clear o9))
  go_ret
  exact ⟨rfl, O9.out⟩
set_option maxHeartbeats 1600000 in
theorem rd_has8 (k : Int) (w : World) : Calls Tryz.prog 76 #[.int .i64 k, .int .i64 8] w fun e w' => e = .returned (.bool (wHas k 8)) ∧ Only none_ w w' := by
  have C : Hid (Cel (w.alloc (.cells #[.int .i64 10, .int .i64 14, .int .i64 15, .int .i64 16, .int .i64 17, .int .i64 18, .int .i64 19] 3)) (fun b => b = w.heap.size) (.slice (some ⟨w.heap.size, 0, none⟩) 7 7) 7 1 (([10, 14, 15, 16, 17, 18, 19] : List Int).flatMap intI)) := cel_made w 3 1 7 #[.int .i64 10, .int .i64 14, .int .i64 15, .int .i64 16, .int .i64 17, .int .i64 18, .int .i64 19] rfl (by simp [maxLen])
  have OA := Lib.hid ((Only.refl none_ w).alloc (.cells #[.int .i64 10, .int .i64 14, .int .i64 15, .int .i64 16, .int .i64 17, .int .i64 18, .int .i64 19] 3))
  have HE : Hid ((([10, 14, 15, 16, 17, 18, 19] : List Int).any fun x => x == k) = wHas k 8) := by
    rw [Hid, show wHas k 8 = (k == 10 || k == 14 || k == 15 || k == 16 || k == 17 || k == 18 || k == 19) from rfl]
    have hc : ∀ a : Int, (a == k) = (k == a) := fun a => by rw [Bool.eq_iff_iff, beq_iff_eq, beq_iff_eq]; exact ⟨Eq.symm, Eq.symm⟩
    simp only [List.any_cons, List.any_nil, Bool.or_false, hc, Bool.or_assoc]
  go_enter Tryz.func76, Tryz.ntmps76
  go_wp2_with (first
    | (go_at_call 178; refine (rd_in _ k [10, 14, 15, 16, 17, 18, 19] _ _ C.out (by decide)).mono ?_; rw [HE.out]; rintro E w9 ⟨rfl, o9⟩; have O9 := Lib.hid (OA.out.trans o9); clear o9))
  go_ret
  exact ⟨rfl, O9.out⟩
theorem rd_has_w (i : Nat) (hi : i < 9) (k : Int) (w : World) : Calls Tryz.prog 76 #[.int .i64 k, .int .i64 i] w fun e w' => e = .returned (.bool (wHas k i)) ∧ Only none_ w w' := by
  rcases nine_ways hi with rfl | rfl | rfl | rfl | rfl | rfl | rfl | rfl | rfl
  · exact rd_has0 k w
  · exact rd_has1 k w
  · exact rd_has2 k w
  · exact rd_has3 k w
  · exact rd_has4 k w
  · exact rd_has5 k w
  · exact rd_has6 k w
  · exact rd_has7 k w
  · exact rd_has8 k w
def mLo (k : Int) (i : Nat) : Int := if wHas k i = true then wLo k else 0
def mUp (k : Int) (i : Nat) : Int := if wHas k i = true then wUp k else 0
set_option maxHeartbeats 3200000 in
theorem rd_gmark (x : Mk) (w : World) : Calls Tryz.prog 58 #[.agg #[.int .i64 x.a.c, .int .i64 x.a.s, .string x.k]] w fun e w' => e = .returned (.bool (mkGood x)) ∧ Only none_ w w' := by
  obtain ⟨⟨xc, xs⟩, xk⟩ := x
  show Calls Tryz.prog 58 #[.agg #[.int .i64 xc, .int .i64 xs, .string xk]] w _
  have B := Blk.new w 27 #[.int .i64 xc, .int .i64 xs, .string xk]
  have HB := Lib.hid B
  have O := Lib.hid ((Only.refl none_ w).alloc (.cells #[.int .i64 xc, .int .i64 xs, .string xk] 27))
  have c0 := B.cell_ (i := 0) rfl
  have c1 := B.cell_ (i := 1) rfl
  have c2 := B.cell_ (i := 2) rfl
  obtain ⟨gb, hg⟩ : ∃ b, stGood ⟨xc, xs⟩ = b := ⟨_, rfl⟩
  have HG := Lib.hid hg
  have HM : Hid (mkGood ⟨⟨xc, xs⟩, xk⟩ = (gb && decide (1 ≤ xk.size) && decide (xk.size ≤ 16))) := by rw [Hid, mkGood]; dsimp only; rw [hg]
  clear B hg
  cases gb
  · go_enter Tryz.func58, Tryz.ntmps58
    go_wp2_with (first
      | (go_at_call 111; refine (rf_good _ _ _).mono ?_; rintro E w9 ⟨rfl, o9⟩; rw [HG.out]; have O9 := Lib.hid (O.out.trans o9); clear o9))
    go_ret
    exact ⟨by rw [HM.out]; rfl, O9.out⟩
  · by_cases h1 : (1 : Int) ≤ (xk.size : Int)
    · have HM2 : Hid (mkGood ⟨⟨xc, xs⟩, xk⟩ = decide ((xk.size : Int) ≤ 16)) := by
        rw [Hid, HM.out, Bool.eq_iff_iff]
        simp only [Bool.true_and, Bool.and_eq_true, decide_eq_true_eq]
        omega
      clear HM
      go_enter Tryz.func58, Tryz.ntmps58
      go_wp2_with (first
        | (go_at_call 111; refine (rf_good _ _ _).mono ?_; rintro E w9 ⟨rfl, o9⟩; rw [HG.out]; have O9 := Lib.hid (O.out.trans o9)
           have b9 := HB.out.only o9 (fun h => h)
           have k2 := b9.cell_ (i := 2) rfl
           clear o9 b9))
      go_ret
      exact ⟨by rw [HM2.out]; rfl, O9.out⟩
    · have HM2 : Hid (mkGood ⟨⟨xc, xs⟩, xk⟩ = false) := by
        rw [Hid, HM.out]
        have : ¬ 1 ≤ xk.size := by omega
        simp [this]
      clear HM
      go_enter Tryz.func58, Tryz.ntmps58
      go_wp2_with (first
        | (go_at_call 111; refine (rf_good _ _ _).mono ?_; rintro E w9 ⟨rfl, o9⟩; rw [HG.out]; have O9 := Lib.hid (O.out.trans o9)
           have b9 := HB.out.only o9 (fun h => h)
           have k2 := b9.cell_ (i := 2) rfl
           clear o9 b9))
      go_ret
      exact ⟨by rw [HM2.out]; rfl, O9.out⟩
set_option maxHeartbeats 3200000 in
theorem rd_many (k : Int) (i : Nat) (hi : i = 7 ∨ i = 8) (z : Int) (hz : z = i) (w : World) : Calls Tryz.prog 110 #[.int .i64 k, .int .i64 z] w fun e w' => e = .returned (.tuple #[.int .i64 (mLo k i), .int .i64 (mUp k i)]) ∧ Only none_ w w' := by
  obtain ⟨hb, hh⟩ : ∃ b, wHas k i = b := ⟨_, rfl⟩
  have HH := Lib.hid (rd_has_w i (by omega) k)
  rw [hh, ← hz] at HH
  have H0 : Hid (wHas k i = hb) := hh
  have HI := Lib.hid hi
  clear hh hz hi
  cases hb
  · have E1 : Hid (mLo k i = 0 ∧ mUp k i = 0) := by rw [Hid, mLo, mUp, H0.out]; exact ⟨rfl, rfl⟩
    go_enter Tryz.func110, Tryz.ntmps110
    go_wp2_with (first
      | (go_at_call 76; refine (HH.out _).mono ?_; rintro E w9 ⟨rfl, o9⟩; have O9 := Lib.hid o9; clear o9))
    go_ret2
    rw [E1.out.1, E1.out.2]
    exact ⟨rfl, O9.out⟩
  · have E1 : Hid (mLo k i = wLo k ∧ mUp k i = wUp k) := by rw [Hid, mLo, mUp, H0.out]; exact ⟨rfl, rfl⟩
    have hw : k = 10 ∨ k = 11 ∨ k = 12 ∨ k = 14 ∨ k = 15 ∨ k = 16 ∨ k = 17 ∨ k = 18 ∨ k = 19 := by
      have h0 := H0.out
      rcases HI.out with rfl | rfl <;> simp only [wHas, Bool.or_eq_true, beq_iff_eq] at h0 <;> omega
    rcases hw with rfl | rfl | rfl | rfl | rfl | rfl | rfl | rfl | rfl
    all_goals
      rw [E1.out.1, E1.out.2]
      go_enter Tryz.func110, Tryz.ntmps110
      go_wp2_with (first
        | (go_at_call 76; refine (HH.out _).mono ?_; rintro E w9 ⟨rfl, o9⟩; have O9 := Lib.hid o9; clear o9))
      go_ret2
      exact ⟨rfl, O9.out⟩
end Go.Proofs.YtlieolehpmobfaaGreatDoor
end
