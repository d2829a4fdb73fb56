/- Texts of mine, one behind the other: WiY. No statement of the seat is proved here. -/
import Derived.Test.YtlieolehpmobfaaGreatDoorWr11
import Derived.Test.YtlieolehpmobfaaGreatDoorWr5
section
namespace Go.Proofs.YtlieolehpmobfaaGreatDoor
open Go.RowKit
set_option linter.all false
set_option maxRecDepth 100000
structure Ox {α : Type} (f : α → List Value) (k : Nat) (e : TypeId) (W : World) (cs ms : Array Value) (v : Value) (l : List α) (w : World) : Prop where
  oz : Oz W cs ms w
  ow : w.ownsRow W.heap.size e k v l.length (l.flatMap f)
section
variable {α : Type} {f : α → List Value} {k : Nat} {e : TypeId} {W w w' : World} {cs ms : Array Value} {v v' : Value} {l : List α}
theorem Ox.keep (t : Ox f k e W cs ms v l w) (o : Only none_ w w') : Ox f k e W cs ms v l w' := ⟨t.oz.keep o, owns_only t.ow o (fun _ _ h => h)⟩
theorem Ox.row (t : Ox f k e W cs ms v l w) (he : e ≠ 169) (z : Array Value) : Ox f k e W z ms v l (w.setRow W.heap.size z) :=
  ⟨t.oz.row z, owns_only t.ow ((Only.refl (one W.heap.size) w).setRow (g := W.heap.size) (.inl rfl) z) (fun b hb h => by have h' : b = W.heap.size := h; subst h'; exact own_blk_ne t.ow t.oz.c0 he hb)⟩
theorem Ox.app (t : Ox f k e W cs ms v l w) (hc : e ≠ 169) (hm : e ≠ 31) (j : Nat) (x : α) {n : Nat} {p : List Value} (own : w'.ownsRow W.heap.size e k v' n p) (hn : n = l.length + 1) (hp : p = l.flatMap f ++ f x) (hg : w.grownBy w' v.ownBlock) :
    Ox f k e W cs (ms.setIfInBounds j v') v' (l ++ [x]) (w'.setCell ⟨W.heap.size + 1, j, none⟩ v') := by
  subst hn hp
  have o : Only (fun b => v.ownBlock = some b) w w' := (Only.refl _ w).grown hg (fun k hk => .inl hk)
  have z : Oz W cs ms w' := ⟨t.oz.c0.only o (fun h => own_blk_ne t.ow t.oz.c0 hc h), t.oz.c1.only o (fun h => own_blk_ne t.ow t.oz.c1 hm h), t.oz.c2.only o (fun h => own_blk_ne t.ow t.oz.c2 hc h), t.oz.c3.only o (fun h => own_blk_ne t.ow t.oz.c3 hm h), t.oz.ho.grown hg (fun k hk => .inr (t.ow.lt k hk).1)⟩
  refine ⟨z.set j v', ?_⟩
  have q := owns_only own ((Only.refl (one (W.heap.size + 1)) w').setCell (p := ⟨W.heap.size + 1, j, none⟩) (.inl rfl) v') (fun b hb h => by have h' : b = W.heap.size + 1 := h; subst h'; exact own_blk_ne own z.c1 hm hb)
  rw [List.length_append, List.flatMap_append]
  simpa using q
theorem Ox.fin {S2 : Nat → Prop} (t : Ox f k e W cs ms v l w) (hc : e ≠ 169) (hm : e ≠ 31) : Cel ((w.drew.setRow (W.heap.size + 1 + 1) cs).setRow (W.heap.size + 1 + 1 + 1) ms) (fun b => S2 b ∨ W.heap.size ≤ b) v l.length k (l.flatMap f) := by
  have a := owns_only t.ow (((Only.refl (one (W.heap.size + 1 + 1)) w).drew).setRow (g := W.heap.size + 1 + 1) (.inl rfl) cs) (fun b hb h => by have h' : b = W.heap.size + 1 + 1 := h; subst h'; exact own_blk_ne t.ow t.oz.c2 hc hb)
  have b := owns_only a ((Only.refl (one (W.heap.size + 1 + 1 + 1)) _).setRow (g := W.heap.size + 1 + 1 + 1) (.inl rfl) ms) (fun b hb h => by have h' : b = W.heap.size + 1 + 1 + 1 := h; subst h'; exact own_blk_ne a t.oz.drew.mid.2 hm hb)
  exact (Cel.of_own b).mono (fun k _ hk => .inr (b.lt k hk).1)
theorem Ox.cast {ms' : Array Value} (t : Ox f k e W cs ms v l w) (h : ms = ms') : Ox f k e W cs ms' v l w := h ▸ t
end
set_option maxHeartbeats 6400000 in
theorem rk_one3 (A : Option Addr) (c p0 : Nat) (bs r : List UInt8) (err : Int) (S S2 : Nat → Prop) (m : Ms) (vp vm ve : Value) (w : World) (h : Byt w S (.slice A bs.length c) bs) (hS : ∀ b, S b → b < w.heap.size) (hr : Rest bs r) (hp0 : p0 = bs.length - r.length) (hL : bs.length ≤ 100000) (hl : Ml S2 m vp vm ve w) (hz : m.ps = []) (hv : vp = .slice none 0 0) :
    Calls Tryz.prog 82 #[.agg #[.slice A bs.length c, .int .i64 (p0 : Int), .int .i64 err], .agg #[.int .i64 m.kd, .int .i64 m.pe, .int .i64 m.hp, .bool m.hi, vp, .int .i64 m.nu, .int .u64 (m.su : Int), .int .i64 m.mr.a.c, .int .i64 m.mr.a.s, .string m.mr.k, vm, ve], .int .i64 3] w fun E w' =>
      ∃ (q : Nat) (vp' vm' ve' : Value), E = .returned (.tuple #[.agg #[.slice A bs.length c, .int .i64 (q : Int), .int .i64 (fieldR 3 err r m).1], .agg #[.int .i64 (fieldR 3 err r m).2.2.kd, .int .i64 (fieldR 3 err r m).2.2.pe, .int .i64 (fieldR 3 err r m).2.2.hp, .bool (fieldR 3 err r m).2.2.hi, vp', .int .i64 (fieldR 3 err r m).2.2.nu, .int .u64 ((fieldR 3 err r m).2.2.su : Int), .int .i64 (fieldR 3 err r m).2.2.mr.a.c, .int .i64 (fieldR 3 err r m).2.2.mr.a.s, .string (fieldR 3 err r m).2.2.mr.k, vm', ve']]) ∧ q = bs.length - (fieldR 3 err r m).2.1.length ∧ Rest bs (fieldR 3 err r m).2.1 ∧ Ml (fun b => S2 b ∨ w.heap.size ≤ b) (fieldR 3 err r m).2.2 vp' vm' ve' w' ∧ Only none_ w w' ∧ vm' = vm ∧ ve' = ve := by
  obtain ⟨i0, hi0, hz0, hz1, hz2⟩ := rinfo_parts int_info2
  subst hv
  obtain ⟨A1, c1, A2, c2, A3, c3, ea, eb, ec⟩ := hl.shape
  clear ea
  subst eb ec
  obtain ⟨w0, hw0⟩ : ∃ w0, (((w.alloc (.cells #[.slice A bs.length c, .int .i64 (p0 : Int), .int .i64 err] 169)).alloc (.cells #[.int .i64 m.kd, .int .i64 m.pe, .int .i64 m.hp, .bool m.hi, .slice none 0 0, .int .i64 m.nu, .int .u64 (m.su : Int), .int .i64 m.mr.a.c, .int .i64 m.mr.a.s, .string m.mr.k, .slice A2 m.ms.length c2, .slice A3 m.es.length c3] 31)).alloc (.cells #[.slice none 0 0, .int .i64 0, .int .i64 0] 169)).alloc (.cells #[.int .i64 0, .int .i64 0, .int .i64 0, .bool false, .slice none 0 0, .int .i64 0, .int .u64 0, .int .i64 0, .int .i64 0, .string ⟨#[]⟩, .slice none 0 0, .slice none 0 0] 31) = w0 := ⟨_, rfl⟩
  have T0 : Hid (Oz w #[.slice A bs.length c, .int .i64 (p0 : Int), .int .i64 err] #[.int .i64 m.kd, .int .i64 m.pe, .int .i64 m.hp, .bool m.hi, .slice none 0 0, .int .i64 m.nu, .int .u64 (m.su : Int), .int .i64 m.mr.a.c, .int .i64 m.mr.a.s, .string m.mr.k, .slice A2 m.ms.length c2, .slice A3 m.es.length c3] w0) := by rw [Hid, ← hw0]; exact Oz.new w _ _
  have HW := Lib.hid hw0
  have HL := Lib.hid (fun (w' : World) (o : Only none_ w w') => (hl.keep o).mono (T := fun b => S2 b ∨ w.heap.size ≤ b) (fun _ _ h => .inl h))
  have HB := Lib.hid (fun (w' : World) (o : Only none_ w w') => h.only o (fun _ _ h => h))
  have HSS := Lib.hid (fun (w' : World) (o : Only none_ w w') (b : Nat) (hb : S b) => Nat.lt_of_lt_of_le (hS b hb) o.size)
  have HLL := Lib.hid hL
  have C1 := Lib.hid (rk_many A c p0 bs r err S _ (HB.out w0 T0.out.ho) (HSS.out w0 T0.out.ho) hr hp0 hL)
  have hk8 := lenR_lt err r
  have HF : Hid (fieldR 3 err r m = ((listR nodeR (lenR err r).2.2 (lenR err r).1 (lenR err r).2.1).1, (listR nodeR (lenR err r).2.2 (lenR err r).1 (lenR err r).2.1).2.1, { m with ps := (listR nodeR (lenR err r).2.2 (lenR err r).1 (lenR err r).2.1).2.2 })) := rfl
  obtain ⟨⟨e1, r1, n1⟩, ha1⟩ : ∃ a, lenR err r = a := ⟨_, rfl⟩
  rw [ha1] at C1 HF hk8
  dsimp only at C1 HF hk8
  clear h hS hr hp0 hL hl hw0 ha1 hz
  go_enter Tryz.func82, Tryz.ntmps82
  go_upto_region 1 with fail
  rw [HW.out]
  go_wp2_with (first
    | (refine wpl_load rfl 169 _ rfl w.heap.size rfl 169 #[.slice A bs.length c, .int .i64 (p0 : Int), .int .i64 err] _ T0.out.c0 Tryz.underlying169 rfl (by kernel_rfl) ?_)
    | (go_at_call 185; refine C1.out.mono ?_; rintro E w1 ⟨q1, rfl, hq1, hr1, o1⟩
       have T1 := Lib.hid (T0.out.keep o1)
       have Q1 := Lib.hid hq1
       have R1 := Lib.hid hr1
       clear hq1 hr1 o1)
    | (refine wpList_store_row rfl 169 _ _ rfl w.heap.size #[.slice A bs.length c, .int .i64 (q1 : Int), .int .i64 e1] rfl rfl 169 _ T1.out.c0 (by kernel_rfl) rfl (by simp [Value.oneCell']) ?_
       have T2 : Hid (Ox intI 1 3 w #[.slice A bs.length c, .int .i64 (q1 : Int), .int .i64 e1] #[.int .i64 m.kd, .int .i64 m.pe, .int .i64 m.hp, .bool m.hi, .slice none 0 0, .int .i64 m.nu, .int .u64 (m.su : Int), .int .i64 m.mr.a.c, .int .i64 m.mr.a.s, .string m.mr.k, .slice A2 m.ms.length c2, .slice A3 m.es.length c3] (.slice none 0 0) ([] : List Int) (w1.setRow w.heap.size #[.slice A bs.length c, .int .i64 (q1 : Int), .int .i64 e1])) := ⟨T1.out.row #[.slice A bs.length c, .int .i64 (q1 : Int), .int .i64 e1], World.ownsRow_nil _ _ _ _⟩))
  generalize w1.setRow w.heap.size #[.slice A bs.length c, .int .i64 (q1 : Int), .int .i64 e1] = w2 at *
  go_loopw [10] (fun s10 wr => ∃ i : Nat, i ≤ n1 ∧ s10 = .int .i64 i ∧ ∃ (q : Nat) (v : Value), q = bs.length - (listR nodeR i e1 r1).2.1.length ∧ Rest bs (listR nodeR i e1 r1).2.1 ∧
    Ox intI 1 3 w #[.slice A bs.length c, .int .i64 (q : Int), .int .i64 (listR nodeR i e1 r1).1] #[.int .i64 m.kd, .int .i64 m.pe, .int .i64 m.hp, .bool m.hi, v, .int .i64 m.nu, .int .u64 (m.su : Int), .int .i64 m.mr.a.c, .int .i64 m.mr.a.s, .string m.mr.k, .slice A2 m.ms.length c2, .slice A3 m.es.length c3] v (listR nodeR i e1 r1).2.2 wr) (fun s10 _ => n1 - (intOf s10).toNat)
  case atStart => exact ⟨0, by omega, rfl, q1, _, Q1.out, R1.out, T2.out⟩
  case round =>
    obtain ⟨i, hi, rfl, q, v, hq, hrr, t⟩ := hrel
    obtain ⟨A5, cp, hs⟩ : ∃ A c, v = .slice A (listR nodeR i e1 r1).2.2.length c := by
      rcases t.ow.2 with ⟨e, h0⟩ | ⟨_, _, _, e, _⟩
      · exact ⟨none, 0, by rw [e, h0]⟩
      · exact ⟨_, _, e⟩
    subst hs
    have hct := listR_count nodeR e1 r1 i
    by_cases hlt : i < n1
    · have hlt' : (i : Int) < (n1 : Int) := by omega
      have HSN : Hid (listR nodeR (i + 1) e1 r1 = ((nodeR (listR nodeR i e1 r1).1 (listR nodeR i e1 r1).2.1).1, (nodeR (listR nodeR i e1 r1).1 (listR nodeR i e1 r1).2.1).2.1, (listR nodeR i e1 r1).2.2 ++ [(nodeR (listR nodeR i e1 r1).1 (listR nodeR i e1 r1).2.1).2.2])) := rfl
      obtain ⟨⟨e2, r2, l2⟩, hs2⟩ : ∃ a, listR nodeR i e1 r1 = a := ⟨_, rfl⟩
      rw [hs2] at hct hq hrr t HSN
      dsimp only at hct hq hrr t HSN
      rw [hct] at t
      have hlt2 := numR_lt e2 r2 1
      have HN : Hid (nodeR e2 r2 = ((numR e2 r2 1).1, (numR e2 r2 1).2.1, ((numR e2 r2 1).2.2 : Int))) := rfl
      have C := Lib.hid (rest_take (err := e2) (HB.out wr t.oz.ho) (HSS.out wr t.oz.ho) hrr HLL.out q hq 1 (by omega))
      obtain ⟨⟨e3, r3, x⟩, hs3⟩ : ∃ a, numR e2 r2 1 = a := ⟨_, rfl⟩
      rw [show ((1 : Nat) : Int) = 1 from rfl, hs3] at hlt2
      rw [hs3] at C HN
      dsimp only at C HN hlt2
      rw [HN.out] at HSN
      dsimp only at HSN
      have hw : IntKind.i64.wrap (x : Int) = (x : Int) := IntWalk.i64_in _ (by omega)
      have T := Lib.hid t
      have HCT := Lib.hid hct
      have HLN : Hid (i + 1 ≤ maxLen ∧ (i + 1) * 8 ≤ 140737488355328) := by simp only [Hid, maxLen]; omega
      have HONE : Hid (∀ u ∈ intI (x : Int), u.oneCell' = true) := by intro u hu; simp [intI] at hu; rcases hu with rfl; rfl
      clear t hct hs2 hs3 hq hrr hlt2 HF
      go_wp2_with (first
        | (refine wpl_load rfl 169 _ rfl w.heap.size rfl 169 #[.slice A bs.length c, .int .i64 (q : Int), .int .i64 e2] _ T.out.oz.c0 Tryz.underlying169 rfl (by kernel_rfl) ?_)
        | (go_at_call 183; refine C.out.mono ?_; rintro E w3 ⟨q3, rfl, hq3, hr3, o3⟩
           have T3 := Lib.hid (T.out.keep o3)
           have Q3 := Lib.hid hq3
           have R3 := Lib.hid hr3
           clear hq3 hr3 o3)
        | (refine wpList_store_row rfl 169 _ _ rfl w.heap.size #[.slice A bs.length c, .int .i64 (q3 : Int), .int .i64 e3] rfl rfl 169 _ T3.out.oz.c0 (by kernel_rfl) rfl (by simp [Value.oneCell']) ?_
           have T4 := Lib.hid (T3.out.row (by decide) #[.slice A bs.length c, .int .i64 (q3 : Int), .int .i64 e3])
           have k4 := T4.out.oz.c1.cell_ (i := 4) rfl
           have T5 := Lib.hid (T4.out.keep ((Only.refl none_ _).alloc (.cells #[.int .i64 (x : Int)] 3)))
           have C5 : Hid (Cel ((w3.setRow w.heap.size #[.slice A bs.length c, .int .i64 (q3 : Int), .int .i64 e3]).alloc (.cells #[.int .i64 (x : Int)] 3)) (fun b => b = w3.heap.size) (.slice (some ⟨w3.heap.size, 0, none⟩) 1 1) 1 1 (intI (x : Int))) := by
             have hc := cel_made (w3.setRow w.heap.size #[.slice A bs.length c, .int .i64 (q3 : Int), .int .i64 e3]) 3 1 1 #[.int .i64 (x : Int)] rfl (by simp [maxLen])
             have hz : (w3.setRow w.heap.size #[.slice A bs.length c, .int .i64 (q3 : Int), .int .i64 e3]).heap.size = w3.heap.size := by simp [World.setRow]
             rw [hz] at hc
             exact hc)
        | (at_builtin; refine wpList_append_cel _ rfl (.tmp 84) (.tmp 87) 22 rfl w.heap.size 3 i0 _ 1 8 Tryz.underlying22 hi0 hz0 hz1 hz2 rfl (by omega) (.slice A5 i cp) i _ rfl (by have := T5.out.ow; rw [HCT.out] at this; exact this) _ _ 1 _ rfl C5.out HONE.out HLN.out.1 HLN.out.2 T5.out.oz.ho.size ?_
           intro A6 n6 k6 w6 hown hgrow hmv
           have y6 := T5.out.oz.c1.only ((Only.refl (fun b => (Value.slice A5 i cp).ownBlock = some b) _).grown hgrow (fun k hk => .inl hk)) (fun e => own_blk_ne T5.out.ow T5.out.oz.c1 (by decide) e)
           have c6 := y6.cell_ (i := 4) rfl
           have f6 := y6.frozen 4
           have T6 := Lib.hid (Ox.cast (ms' := #[.int .i64 m.kd, .int .i64 m.pe, .int .i64 m.hp, .bool m.hi, .slice A6 n6 k6, .int .i64 m.nu, .int .u64 (m.su : Int), .int .i64 m.mr.a.c, .int .i64 m.mr.a.s, .string m.mr.k, .slice A2 m.ms.length c2, .slice A3 m.es.length c3]) (T5.out.app (by decide) (by decide) 4 (x : Int) hown (by rw [HCT.out]) rfl hgrow) (by simp))
           clear hown hgrow hmv y6))
      go_roundw
      case rel => exact ⟨i + 1, by omega, by go_num, q3, _, by rw [HSN.out]; exact Q3.out, by rw [HSN.out]; exact R3.out, by rw [HSN.out]; exact T6.out⟩
      case measure => simp [intOf]; omega
    · obtain rfl : n1 = i := by omega
      obtain ⟨⟨e2, r2, l2⟩, hs2⟩ : ∃ a, listR nodeR n1 e1 r1 = a := ⟨_, rfl⟩
      rw [hs2] at hct hq hrr t HF
      dsimp only at hct hq hrr t HF
      have T := Lib.hid t
      have Q := Lib.hid hq
      have R := Lib.hid hrr
      clear t hq hrr hct hs2
      go_upto_region 41 with fail
      have TD := Lib.hid T.out.oz.drew
      refine wp_region_any (by kernel_rfl) ?_
      try (change wpAny _ _ _ _ _ _ _ (World.drew _))
      refine wpAny_ready (rs := [0, 1]) (by decide +kernel) (by simp) ?_
      refine AllReady.cons rfl (fun K hK => ?_) ?_
      · refine step_load_row (by simp [Region.wanted]) 169 _ rfl w.heap.size rfl 169 #[.slice A bs.length c, .int .i64 (q : Int), .int .i64 e2] _ TD.out.c0 Tryz.underlying169 rfl (by kernel_rfl) ?_
        refine hK _ _ ?_
        clear hK K
        try simp only [Act.put, List.getElem_toArray, List.getElem_cons_zero, List.getElem_cons_succ, List.setIfInBounds_toArray, List.set_cons_zero, List.set_cons_succ]
        refine wpAny_ready (rs := [1, 2]) (by decide +kernel) (by simp) ?_
        refine AllReady.cons rfl (fun K hK => ?_) ?_
        · refine step_load_row (by simp [Region.wanted]) 31 _ rfl (w.heap.size + 1) rfl 31 #[.int .i64 m.kd, .int .i64 m.pe, .int .i64 m.hp, .bool m.hi, .slice A5 l2.length cp, .int .i64 m.nu, .int .u64 (m.su : Int), .int .i64 m.mr.a.c, .int .i64 m.mr.a.s, .string m.mr.k, .slice A2 m.ms.length c2, .slice A3 m.es.length c3] _ TD.out.c1 Tryz.underlying31 rfl (by kernel_rfl) ?_
          refine hK _ _ ?_
          clear hK K
          try simp only [Act.put, List.getElem_toArray, List.getElem_cons_zero, List.getElem_cons_succ, List.setIfInBounds_toArray, List.set_cons_zero, List.set_cons_succ]
          refine wpAny_ready (rs := [2]) (by decide +kernel) (by simp) ?_
          refine AllReady.cons rfl (fun K hK => ?_) AllReady.nil
          refine step_store_all (by simp [Region.wanted]) 169 _ _ rfl (w.heap.size + 1 + 1) #[.slice A bs.length c, .int .i64 (q : Int), .int .i64 e2] rfl rfl 169 _ TD.out.c2 (by kernel_rfl) rfl (by simp [Value.oneCell']) ?_
          refine hK _ _ ?_
          clear hK K
          try simp only [Act.put, List.getElem_toArray, List.getElem_cons_zero, List.getElem_cons_succ, List.setIfInBounds_toArray, List.set_cons_zero, List.set_cons_succ]
          refine wpAny_ready (rs := [3]) (by decide +kernel) (by simp) ?_
          refine AllReady.cons rfl (fun K hK => ?_) AllReady.nil
          refine step_store_all (by simp [Region.wanted]) 31 _ _ rfl (w.heap.size + 1 + 1 + 1) #[.int .i64 m.kd, .int .i64 m.pe, .int .i64 m.hp, .bool m.hi, .slice A5 l2.length cp, .int .i64 m.nu, .int .u64 (m.su : Int), .int .i64 m.mr.a.c, .int .i64 m.mr.a.s, .string m.mr.k, .slice A2 m.ms.length c2, .slice A3 m.es.length c3] rfl rfl 31 _ TD.out.mid.2 (by kernel_rfl) rfl (by simp [Value.oneCell']) ?_
          refine hK _ _ ?_
          clear hK K
          try simp only [Act.put, List.getElem_toArray, List.getElem_cons_zero, List.getElem_cons_succ, List.setIfInBounds_toArray, List.set_cons_zero, List.set_cons_succ]
          refine wpAny_done (by kernel_rfl) ?_ _
          go_wp2_with fail
          refine bodyPost_ret (results_cell_cell rfl _ _ (w.heap.size + 1 + 1) (w.heap.size + 1 + 1 + 1) 169 31 _ _ _ _ rfl TD.out.fin.1 rfl TD.out.fin.2.1 Tryz.underlying169 rfl (by kernel_rfl) Tryz.underlying31 rfl (by kernel_rfl)) rfl ?_
          have ML := HL.out _ TD.out.fin.2.2
          have OWN := T.out.fin (S2 := S2) (by decide) (by decide)
          rw [HF.out]
          exact ⟨q, _, _, _, rfl, Q.out, R.out, ⟨OWN, ML.q, ML.r⟩, TD.out.fin.2.2, rfl, rfl⟩
        refine AllReady.cons rfl (fun K hK => ?_) AllReady.nil
        refine step_store_all (by simp [Region.wanted]) 169 _ _ rfl (w.heap.size + 1 + 1) #[.slice A bs.length c, .int .i64 (q : Int), .int .i64 e2] rfl rfl 169 _ TD.out.c2 (by kernel_rfl) rfl (by simp [Value.oneCell']) ?_
        refine hK _ _ ?_
        clear hK K
        try simp only [Act.put, List.getElem_toArray, List.getElem_cons_zero, List.getElem_cons_succ, List.setIfInBounds_toArray, List.set_cons_zero, List.set_cons_succ]
        refine wpAny_ready (rs := [1]) (by decide +kernel) (by simp) ?_
        refine AllReady.cons rfl (fun K hK => ?_) AllReady.nil
        refine step_load_row (by simp [Region.wanted]) 31 _ rfl (w.heap.size + 1) rfl 31 #[.int .i64 m.kd, .int .i64 m.pe, .int .i64 m.hp, .bool m.hi, .slice A5 l2.length cp, .int .i64 m.nu, .int .u64 (m.su : Int), .int .i64 m.mr.a.c, .int .i64 m.mr.a.s, .string m.mr.k, .slice A2 m.ms.length c2, .slice A3 m.es.length c3] _ TD.out.mid.1 Tryz.underlying31 rfl (by kernel_rfl) ?_
        refine hK _ _ ?_
        clear hK K
        try simp only [Act.put, List.getElem_toArray, List.getElem_cons_zero, List.getElem_cons_succ, List.setIfInBounds_toArray, List.set_cons_zero, List.set_cons_succ]
        refine wpAny_ready (rs := [3]) (by decide +kernel) (by simp) ?_
        refine AllReady.cons rfl (fun K hK => ?_) AllReady.nil
        refine step_store_all (by simp [Region.wanted]) 31 _ _ rfl (w.heap.size + 1 + 1 + 1) #[.int .i64 m.kd, .int .i64 m.pe, .int .i64 m.hp, .bool m.hi, .slice A5 l2.length cp, .int .i64 m.nu, .int .u64 (m.su : Int), .int .i64 m.mr.a.c, .int .i64 m.mr.a.s, .string m.mr.k, .slice A2 m.ms.length c2, .slice A3 m.es.length c3] rfl rfl 31 _ TD.out.mid.2 (by kernel_rfl) rfl (by simp [Value.oneCell']) ?_
        refine hK _ _ ?_
        clear hK K
        try simp only [Act.put, List.getElem_toArray, List.getElem_cons_zero, List.getElem_cons_succ, List.setIfInBounds_toArray, List.set_cons_zero, List.set_cons_succ]
        refine wpAny_done (by kernel_rfl) ?_ _
        go_wp2_with fail
        refine bodyPost_ret (results_cell_cell rfl _ _ (w.heap.size + 1 + 1) (w.heap.size + 1 + 1 + 1) 169 31 _ _ _ _ rfl TD.out.fin.1 rfl TD.out.fin.2.1 Tryz.underlying169 rfl (by kernel_rfl) Tryz.underlying31 rfl (by kernel_rfl)) rfl ?_
        have ML := HL.out _ TD.out.fin.2.2
        have OWN := T.out.fin (S2 := S2) (by decide) (by decide)
        rw [HF.out]
        exact ⟨q, _, _, _, rfl, Q.out, R.out, ⟨OWN, ML.q, ML.r⟩, TD.out.fin.2.2, rfl, rfl⟩
      refine AllReady.cons rfl (fun K hK => ?_) AllReady.nil
      refine step_load_row (by simp [Region.wanted]) 31 _ rfl (w.heap.size + 1) rfl 31 #[.int .i64 m.kd, .int .i64 m.pe, .int .i64 m.hp, .bool m.hi, .slice A5 l2.length cp, .int .i64 m.nu, .int .u64 (m.su : Int), .int .i64 m.mr.a.c, .int .i64 m.mr.a.s, .string m.mr.k, .slice A2 m.ms.length c2, .slice A3 m.es.length c3] _ TD.out.c1 Tryz.underlying31 rfl (by kernel_rfl) ?_
      refine hK _ _ ?_
      clear hK K
      try simp only [Act.put, List.getElem_toArray, List.getElem_cons_zero, List.getElem_cons_succ, List.setIfInBounds_toArray, List.set_cons_zero, List.set_cons_succ]
      refine wpAny_ready (rs := [0]) (by decide +kernel) (by simp) ?_
      refine AllReady.cons rfl (fun K hK => ?_) AllReady.nil
      refine step_load_row (by simp [Region.wanted]) 169 _ rfl w.heap.size rfl 169 #[.slice A bs.length c, .int .i64 (q : Int), .int .i64 e2] _ TD.out.c0 Tryz.underlying169 rfl (by kernel_rfl) ?_
      refine hK _ _ ?_
      clear hK K
      try simp only [Act.put, List.getElem_toArray, List.getElem_cons_zero, List.getElem_cons_succ, List.setIfInBounds_toArray, List.set_cons_zero, List.set_cons_succ]
      refine wpAny_ready (rs := [2]) (by decide +kernel) (by simp) ?_
      refine AllReady.cons rfl (fun K hK => ?_) AllReady.nil
      refine step_store_all (by simp [Region.wanted]) 169 _ _ rfl (w.heap.size + 1 + 1) #[.slice A bs.length c, .int .i64 (q : Int), .int .i64 e2] rfl rfl 169 _ TD.out.c2 (by kernel_rfl) rfl (by simp [Value.oneCell']) ?_
      refine hK _ _ ?_
      clear hK K
      try simp only [Act.put, List.getElem_toArray, List.getElem_cons_zero, List.getElem_cons_succ, List.setIfInBounds_toArray, List.set_cons_zero, List.set_cons_succ]
      refine wpAny_ready (rs := [3]) (by decide +kernel) (by simp) ?_
      refine AllReady.cons rfl (fun K hK => ?_) AllReady.nil
      refine step_store_all (by simp [Region.wanted]) 31 _ _ rfl (w.heap.size + 1 + 1 + 1) #[.int .i64 m.kd, .int .i64 m.pe, .int .i64 m.hp, .bool m.hi, .slice A5 l2.length cp, .int .i64 m.nu, .int .u64 (m.su : Int), .int .i64 m.mr.a.c, .int .i64 m.mr.a.s, .string m.mr.k, .slice A2 m.ms.length c2, .slice A3 m.es.length c3] rfl rfl 31 _ TD.out.mid.2 (by kernel_rfl) rfl (by simp [Value.oneCell']) ?_
      refine hK _ _ ?_
      clear hK K
      try simp only [Act.put, List.getElem_toArray, List.getElem_cons_zero, List.getElem_cons_succ, List.setIfInBounds_toArray, List.set_cons_zero, List.set_cons_succ]
      refine wpAny_done (by kernel_rfl) ?_ _
      go_wp2_with fail
      refine bodyPost_ret (results_cell_cell rfl _ _ (w.heap.size + 1 + 1) (w.heap.size + 1 + 1 + 1) 169 31 _ _ _ _ rfl TD.out.fin.1 rfl TD.out.fin.2.1 Tryz.underlying169 rfl (by kernel_rfl) Tryz.underlying31 rfl (by kernel_rfl)) rfl ?_
      have ML := HL.out _ TD.out.fin.2.2
      have OWN := T.out.fin (S2 := S2) (by decide) (by decide)
      rw [HF.out]
      exact ⟨q, _, _, _, rfl, Q.out, R.out, ⟨OWN, ML.q, ML.r⟩, TD.out.fin.2.2, rfl, rfl⟩
end Go.Proofs.YtlieolehpmobfaaGreatDoor
end
