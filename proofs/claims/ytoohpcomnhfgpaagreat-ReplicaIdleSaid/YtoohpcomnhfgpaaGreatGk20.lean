/- Texts of mine, one behind the other: RpTl, RpRo, RpFw, RpNo, RpGs, RpDc, RpLp, Lif, StEo, EnEo, RpGw, OpenO, OpenRp. No statement of the seat is proved here. -/
import Derived.Test.YtoohpcomnhfgpaaGreatGk19
import Derived.Test.YtoohpcomnhfgpaaGreatGk2
import Derived.Test.YtoohpcomnhfgpaaGreatGk18
import Derived.Test.YtoohpcomnhfgpaaGreatGk8
import Derived.Test.YtoohpcomnhfgpaaGreatGk12
import Derived.Test.YtoohpcomnhfgpaaGreatGk5
import Derived.LoopTactic
import Derived.Test.YtoohpcomnhfgpaaGreatGk11
import Derived.Test.YtoohpcomnhfgpaaGreatGk13
import Derived.Test.YtoohpcomnhfgpaaGreatGk3
import Derived.Test.YtoohpcomnhfgpaaGreatGk15
import Derived.Test.YtoohpcomnhfgpaaGreatGk1
import Derived.Laws.Tables
section
namespace Go.Proofs.YtoohpcomnhfgpaaGreat
open Go.RowKit
set_option maxRecDepth 100000
set_option linter.all false
set_option maxHeartbeats 6400000 in
theorem rp_tick_off (B : World) (a : Ra) (s : Rs) (w : World) (h : Rp B a s w) (h1 : s.o.t1 = 0) :
    Calls Tryz.prog 47 #[.pointer (some ⟨a.r, 0, none⟩)] w fun E w' => E = .returned (.slice none 0 0) ∧ LeftP B a w s w' := by
  have q3 : w.cell? ⟨a.r, 3, none⟩ = some (.int .i64 0) := by have := h.bk.cell_ (i := 3) rfl; rw [← h1]; exact this
  have H := Lib.hid h
  clear h h1
  go_enter Tryz.func47, Tryz.ntmps47
  go_wp2_with fail
  go_ret
  exact ⟨rfl, LeftP.same H.out⟩
set_option maxHeartbeats 51200000 in
theorem rp_tick_on (B : World) (a : Ra) (s : Rs) (w : World) (h : Rp B a s w) (hr : RisE s.tab) (hT : ∀ e ∈ s.tab, enCheck e = 0) (hg : ∀ y ∈ s.gr, 0 ≤ y.g ∧ y.g < s.o.t2) (ht2 : s.o.t2 ≤ 2147483647) (h1 : s.o.t1 ≠ 0) :
    Calls Tryz.prog 47 #[.pointer (some ⟨a.r, 0, none⟩)] w fun E w' => ∃ vs, E = .returned vs ∧ w'.ownsRow w.heap.size 9 1 vs (gnE s.o.t1 s.tab).length ((gnE s.o.t1 s.tab).map .string) ∧ LeftP B a w (s.tab.foldl tkS { s with gr := (tickE s.o.t2 s.gr).1 }) w' := by
  obtain ⟨i0, hi0, hz0, hz1, hz2⟩ := info_parts str_info
  obtain ⟨r, hr0⟩ : ∃ r, a.r = r := ⟨_, rfl⟩
  have C0 := Lib.hid (Cy.begin h)
  have HTI := Lib.hid (gv_tick B a.gv a.gt s.site s.o.t2 s.gr a.vg w h.gv hg ht2)
  have HST := Lib.hid (fun (w' : World) (hL : LeftG B a.gv a.gt s.site s.o.t2 a.vg w (tickE s.o.t2 s.gr).1 w') => h.gv_set hL)
  obtain ⟨t1, ht1⟩ : ∃ t, s.o.t1 = t := ⟨_, rfl⟩
  obtain ⟨gv, hgv⟩ : ∃ g, a.gv = g := ⟨_, rfl⟩
  have q3 : w.cell? ⟨r, 3, none⟩ = some (.int .i64 s.o.t1) := h.at_ hr0 (i := 3) rfl
  have q9 : w.cell? ⟨r, 9, none⟩ = some (.pointer (some ⟨a.gv, 0, none⟩)) := h.at_ hr0 (i := 9) rfl
  rw [ht1] at q3 h1
  have h1b : (t1 == 0) = false := by simpa using h1
  obtain ⟨s1, hs1⟩ : ∃ s1, { s with gr := (tickE s.o.t2 s.gr).1 } = s1 := ⟨_, rfl⟩
  obtain ⟨l, hl⟩ : ∃ l, s.tab = l := ⟨_, rfl⟩
  have f1 : s1.tab = l := by rw [← hs1]; exact hl
  have f2 : s1.o.t1 = t1 := by rw [← hs1]; exact ht1
  have hml : l.length ≤ 4096 := by have := h.tb.ml; rwa [prs_length, hl] at this
  rw [hs1] at HST ⊢
  rw [hl] at hr hT ⊢
  rw [hr0, ht1]
  rw [hgv] at q9 HTI HST
  have HF := Lib.hid (And.intro f1 f2)
  have HR := Lib.hid hr
  have HCK := Lib.hid hT
  have HML := Lib.hid hml
  have HR0 := Lib.hid hr0
  clear h hg ht2 hs1 hl f1 f2 hr hT hml hr0 ht1 hgv
  go_enter Tryz.func47, Tryz.ntmps47
  go_wp2_with (first
    | (go_at_call 98; refine HTI.out.mono ?_; rintro E w1 ⟨vs0, rfl, _, hL⟩
       obtain ⟨a1, c1, e1, _⟩ := C0.out.step (HST.out _ hL)
       have C1 := Lib.hid c1
       have e1r : a1.r = r := e1.trans HR0.out
       have hcall := ct_entries B a1 s1 w1 c1.r
       rw [e1r] at hcall
       have HEN := Lib.hid hcall
       clear c1 e1 hL hcall)
    | (go_at_call 40; refine HEN.out.mono ?_; rintro E w2 ⟨v', rfl, own2, o2⟩
       obtain ⟨A, n, c, rfl⟩ := own_shape own2
       rw [HF.out.1] at own2
       have hn : l.length = n := (own_count own2).symm
       rw [hn] at own2
       have F2 := Lib.hid (And.intro own2 o2)
       clear own2 o2))
  have hsz : w.heap.size ≤ w1.heap.size := C1.out.o.size
  have T0 : Hid (Tik B w a a1 s1 l A n c [] (.slice none 0 0) w2) := ⟨C1.out.keep F2.out.2, owns_base F2.out.1 hsz, World.ownsRow_nil _ _ _ _, fun k hk hf => by
    have h1 := (F2.out.1.lt k hk).1
    have h2 := (C1.out.r.all_ge hf).2
    omega, fun k hk => by cases hk⟩
  have HN := Lib.hid hn
  clear HEN HTI HST C0 C1 F2 hn hsz q3 q9
  go_loopw [23, 3] (fun vi v3 X => ∃ (i : Nat) (ai : Ra) (v : Value), i ≤ n ∧ vi = .int .i64 (i : Int) ∧ v3 = v ∧ ai.r = r ∧ Tik B w a ai ((l.take i).foldl tkS s1) l A n c (gnE t1 (l.take i)) v X) (fun vi _ _ => n - (intOf vi).toNat)
  case atStart => exact ⟨0, a1, _, Nat.zero_le _, rfl, rfl, e1r, T0.out⟩
  case round =>
    obtain ⟨i, ai, v, hi, rfl, rfl, hri, ht⟩ := hrel
    by_cases hlt : i < n
    · obtain ⟨x, hx⟩ : ∃ x, l[i]? = some x := ⟨l[i]'(by have := HN.out; omega), List.getElem?_eq_getElem _⟩
      have hck := HCK.out x (List.mem_of_getElem? hx)
      have HHS := Lib.hid (fold_has (s := s1) HR.out HF.out.1 hx)
      have HSN := Lib.hid (tks_snoc (s := s1) hx t1)
      have HSO : Hid (((l.take i).foldl tkS s1).o.t1 = t1) := by rw [Hid, fold_o]; exact HF.out.2
      obtain ⟨b, off, hA, _, _, hc⟩ := in_elem enRow_length (by decide) (Cel.of_own ht.e) HN.out hx
      obtain ⟨si, hsi⟩ : ∃ si, (l.take i).foldl tkS s1 = si := ⟨_, rfl⟩
      obtain ⟨gn, hgn⟩ : ∃ g, gnE t1 (l.take i) = g := ⟨_, rfl⟩
      rw [hsi] at HHS HSN HSO ht
      rw [hgn] at HSN ht
      obtain ⟨A3, n3, c3, rfl⟩ := own_shape ht.g
      have hn3 := own_count ht.g
      have hgl : gn.length ≤ 4096 := by
        rw [← hgn]
        have h1 := List.length_filter_le (goesM t1) (l.take i)
        have h2 := HML.out
        rw [List.length_take] at h1
        unfold gnE
        rw [List.length_map]; omega
      have HCX : Hid (∀ j u, (#[.string x.k, .string x.v, .bool x.d, .int .i64 x.s.c, .int .i64 x.s.s, .int .i64 x.a.c, .int .i64 x.a.s, .int .i64 x.p, .int .i64 x.g] : Array Value).toList[j]? = some u → wr.cell? ⟨b, off + i * 9 + j, none⟩ = some u) := fun j u hu => hc _ (Only.refl _ _) j u hu
      have T1 := Lib.hid (ht.keep ((Only.refl none_ wr).alloc (.cells #[.string x.k, .string x.v, .bool x.d, .int .i64 x.s.c, .int .i64 x.s.s, .int .i64 x.a.c, .int .i64 x.a.s, .int .i64 x.p, .int .i64 x.g] 82)))
      have N1 := Lib.hid (Bn.new (t := 82) (cs := #[.string x.k, .string x.v, .bool x.d, .int .i64 x.s.c, .int .i64 x.s.s, .int .i64 x.a.c, .int .i64 x.a.s, .int .i64 x.p, .int .i64 x.g]) ht.cy.r)
      have hki : (i : Int) < (n : Int) := by omega
      have hnm : n ≤ 4096 := by have h1 := HN.out; have h2 := HML.out; omega
      have hxg : 0 ≤ x.g + 1 ∧ x.g + 1 ≤ 2147483648 := by
        cases hd : x.d with
        | false => have := ((check_of hck).2.2.2.2.2.2.1 hd).2.2; omega
        | true => have := (check_of hck).2.2.2.2.2.2.2 hd; omega
      obtain ⟨g1, hg1⟩ : ∃ g, x.g + 1 = g := ⟨_, rfl⟩
      have hw1 : IntKind.i64.wrap (x.g + 1) = g1 := (IntWalk.i64_in _ (by omega)).trans hg1
      have HG1 := Lib.hid hg1
      have HN3 := Lib.hid (And.intro hn3 hgl)
      have HKS : Hid (x.k.size ≤ maxLen) := by have := (check_of hck).2.1; simp only [Hid, maxLen]; omega
      have ONE1 := Lib.hid (en_cells_one x)
      clear ht hc hx hsi hgn hn3 hgl hck hxg hg1
      obtain ⟨xk, xv, xd, ⟨xsc, xss⟩, ⟨xac, xas⟩, xp, xg⟩ := x
      dsimp only at HCX T1 N1 HG1 HHS HSN HKS hw1 ONE1
      subst hA
      go_upto_region 8 with (first
        | (with_reducible refine wpl_piece rfl 82 _ rfl b (off + i * 9) rfl #[.string xk, .string xv, .bool xd, .int .i64 xsc, .int .i64 xss, .int .i64 xac, .int .i64 xas, .int .i64 xp, .int .i64 xg] _ HCX.out Tryz.underlying82 rfl (by kernel_rfl) ?_)
        | (with_reducible refine wpl_new rfl rfl 82 rfl _ _ rfl #[.string xk, .string xv, .bool xd, .int .i64 xsc, .int .i64 xss, .int .i64 xac, .int .i64 xas, .int .i64 xp, .int .i64 xg] rfl rfl (by kernel_rfl) ONE1.out ?_))
      generalize wr.heap.size = h7 at *
      generalize wr.alloc (.cells #[.string xk, .string xv, .bool xd, .int .i64 xsc, .int .i64 xss, .int .i64 xac, .int .i64 xas, .int .i64 xp, .int .i64 xg] 82) = w1 at *
      have e2 := N1.out.b.cell_ (i := 2) rfl
      have e8 := N1.out.b.cell_ (i := 8) rfl
      have q3 : w1.cell? ⟨r, 3, none⟩ = some (.int .i64 t1) := by have h1 : w1.cell? ⟨r, 3, none⟩ = some (.int .i64 si.o.t1) := T1.out.cy.r.at_ hri (i := 3) rfl; rw [HSO.out] at h1; exact h1
      cases xd with
      | false =>
        have HR1 : Hid ((l.take (i + 1)).foldl tkS s1 = si ∧ gnE t1 (l.take (i + 1)) = gn) := ⟨HSN.out.1.trans (if_pos rfl), HSN.out.2.trans (if_neg (by simp [goesM]))⟩
        go_wp2_with fail
        go_roundw
        case rel => exact ⟨i + 1, ai, _, by omega, by go_num, rfl, hri, by rw [HR1.out.1, HR1.out.2]; exact T1.out⟩
        case measure => simp [intOf]; omega
      | true =>
        by_cases hgt : g1 < t1
        · have HR1 : Hid ((l.take (i + 1)).foldl tkS s1 = { si with tab := setE ⟨xk, xv, true, ⟨xsc, xss⟩, ⟨xac, xas⟩, xp, g1⟩ si.tab } ∧ gnE t1 (l.take (i + 1)) = gn) := by
            refine ⟨HSN.out.1.trans ?_, HSN.out.2.trans (if_neg ?_)⟩
            · unfold tkS
              rw [if_neg (by simp), if_pos (by rw [HSO.out, HG1.out]; exact hgt), HG1.out]
            · simp only [goesM, Bool.true_and, decide_eq_true_eq]; have := HG1.out; omega
          go_wp2_with fail
          (refine wp_region_steady (fun X => Only none_ w1 X) 5 (by kernel_rfl) (by kernel_rfl) ((Only.refl none_ w1).drew) ?_; simp only [List.take_succ_cons, List.take_zero, List.drop_succ_cons, List.drop_zero])
          repeat (first
            | (refine sd_value (v := ?_) (by rfl) (fun w0 hS => ?_) ?_; rotate_left; (· (have qq := nine_of (N1.out.keep hS).b; go_simp; try (with_reducible rfl))); try simp only [Act.put, List.setIfInBounds_toArray, List.set_cons_zero, List.set_cons_succ]))
          refine sd_nil ?_
          intro w3 t3
          have T3 := Lib.hid (T1.out.keep t3)
          clear t3
          go_wp2_with (first
            | (go_at_call 99; have hcall := ct_age B ai si ⟨xk, xv, true, ⟨xsc, xss⟩, ⟨xac, xas⟩, xp, xg⟩ g1 _ T3.out.cy.r HHS.out; rw [hri] at hcall; refine hcall.mono ?_; clear hcall; rintro E w4 ⟨rfl, L4⟩
               obtain ⟨a4, t4, e4, _⟩ := T3.out.step L4
               have T4 := Lib.hid t4
               clear t4 L4))
          go_roundw
          case rel => exact ⟨i + 1, a4, _, by omega, by go_num, rfl, e4.trans hri, by rw [HR1.out.1, HR1.out.2]; exact T4.out⟩
          case measure => simp [intOf]; omega
        · have HR1 : Hid ((l.take (i + 1)).foldl tkS s1 = { si with tab := dropE si.tab xk, z := si.z - hsh ⟨xk, xv, true, ⟨xsc, xss⟩, ⟨xac, xas⟩, xp, xg⟩, mks := dropM si.mks xk } ∧ gnE t1 (l.take (i + 1)) = gn ++ [xk]) := by
            refine ⟨HSN.out.1.trans ?_, HSN.out.2.trans (if_pos ?_)⟩
            · unfold tkS
              rw [if_neg (by simp), if_neg (by rw [HSO.out, HG1.out]; exact hgt)]
            · simp only [goesM, Bool.true_and, decide_eq_true_eq]; have := HG1.out; omega
          go_wp2_with fail
          (refine wp_region_steady (fun X => Only none_ w1 X) 4 (by kernel_rfl) (by kernel_rfl) ((Only.refl none_ w1).drew) ?_; simp only [List.take_succ_cons, List.take_zero, List.drop_succ_cons, List.drop_zero])
          repeat (first
            | (refine sd_value (v := ?_) (by rfl) (fun w0 hS => ?_) ?_; rotate_left; (· (have qq := nine_of (N1.out.keep hS).b; go_simp; try (with_reducible rfl))); try simp only [Act.put, List.setIfInBounds_toArray, List.set_cons_zero, List.set_cons_succ]))
          refine sd_nil ?_
          intro w3 t3
          have T3 := Lib.hid (T1.out.keep t3)
          have N3 := Lib.hid (N1.out.keep t3)
          clear t3 e2 e8
          have CMF := Lib.hid (fun (X : World) => cel_made X 9 1 1 #[.string xk] rfl (by simp [maxLen]))
          have ONE : Hid (∀ u ∈ (#[.string xk] : Array Value).toList, u.oneCell' = true) := by
            intro u hu
            simp only [List.mem_cons, List.not_mem_nil, or_false] at hu
            subst hu
            rfl
          have HLN : Hid (gn.length + 1 ≤ maxLen ∧ (gn.length + 1) * 16 ≤ 140737488355328) := by have := HN3.out.2; simp only [Hid, maxLen]; omega
          go_wp2_with (first
            | (go_at_call 100; have hcall := ct_drop B ai si ⟨xk, xv, true, ⟨xsc, xss⟩, ⟨xac, xas⟩, xp, xg⟩ _ T3.out.cy.r HKS.out; rw [hri] at hcall; refine hcall.mono ?_; clear hcall; rintro E w4 ⟨rfl, L4⟩
               obtain ⟨a4, t4, e4, b4⟩ := T3.out.step L4
               have T4 := Lib.hid t4
               have k0 := (b4 _ _ _ N3.out).b.cell_ (i := 0) rfl
               have T5 := Lib.hid (t4.keep ((Only.refl none_ w4).alloc (.cells #[.string xk] 9)))
               clear t4 L4 b4)
            | (at_builtin; refine wpList_append_cel _ rfl (.tmp 35) (.tmp 38) 38 rfl w.heap.size 9 i0 _ 1 16 Tryz.underlying38 hi0 hz0 hz1 hz2 rfl (by omega) (.slice A3 n3 c3) gn.length _ rfl T5.out.g _ _ 1 _ rfl (CMF.out w4) ONE.out HLN.out.1 HLN.out.2 (by have := T5.out.cy.o.size; exact this) ?_
               intro A6 n6 c6 w6 hown6 hgrow6 hmv6
               have T6 : Hid (Tik B w a a4 _ l _ n c (gn ++ [xk]) (.slice A6 n6 c6) w6) := T5.out.app (by rw [List.length_append, List.map_append]; exact hown6) hgrow6 hmv6
               clear hown6 hgrow6 hmv6))
          go_roundw
          case rel => exact ⟨i + 1, a4, _, by omega, by go_num, rfl, e4.trans hri, by rw [HR1.out.1, HR1.out.2]; exact T6.out⟩
          case measure => simp [intOf]; omega
    · obtain rfl : i = n := by omega
      have hin : l.take i = l := List.take_of_length_le (by have := HN.out; omega)
      rw [hin] at ht
      have HT := Lib.hid ht
      clear ht
      go_wp2_with fail
      go_ret
      exact ⟨_, rfl, HT.out.g, HT.out.cy.left⟩
end Go.Proofs.YtoohpcomnhfgpaaGreat
end
section
namespace Go.Proofs.YtoohpcomnhfgpaaGreat
open Go.RowKit
set_option maxRecDepth 100000
set_option linter.all false
theorem dv_open {log : List En} (hl : ∀ e ∈ log, enCheck e = 0) (hn : log.length ≤ 60) :
    (jnRead (dvOf (log.map encB)).bs).2.2 = 0 ∧ (jnRead (dvOf (log.map encB)).bs).1 = log.map encB ∧ opD (dvOf (log.map encB)) = dvOf (log.map encB) ∧ (dvOf (log.map encB)).bs.length + 100 ≤ 1048576 := by
  have hr : ∀ r ∈ log.map encB, Rok r := fun r hr => by
    obtain ⟨e, he, rfl⟩ := List.mem_map.1 hr
    exact enc_rok (hl e he)
  obtain ⟨h1, h2, h3⟩ := open_all (log.map encB) hr
  have h4 := read_all (log.map encB) hr
  have h5 := flatB_le _ hr
  rw [List.length_map] at h5
  have h6 : (dvOf (log.map encB)).bs = flatB (log.map encB) := rfl
  refine ⟨by rw [h6, h4], h3, h2, ?_⟩
  rw [h6]; omega
theorem rp_reopen (B : World) (dg : Nat) (vd : Value) (log : List En) (site : Int) (o : Ro) (w : World) (h : Dsk B dg (dvOf (log.map encB)) vd w) (hl : ∀ e ∈ log, enCheck e = 0) (hn : log.length ≤ 60) (ho : roBad o = false) (hs : 0 ≤ site ∧ site < o.n) :
    Calls Tryz.prog 15 #[.int .i64 site, .agg #[.int .i64 o.n, .int .i64 o.q, .int .i64 o.r, .int .i64 o.t1, .int .i64 o.t2], .pointer (some ⟨dg, 0, none⟩)] w fun E w' => OpP B w dg vd (dvOf (log.map encB)) (opF log (blankS o site (dvOf (log.map encB)) log.length)) E w' := by
  obtain ⟨h1, h2, h3, h4⟩ := dv_open hl hn
  have := rp_open B dg (dvOf (log.map encB)) vd site o log w h rfl h1 (show (-1 : Int) ≠ 0 by decide) h2 hl hn ho hs (by rw [h3]; exact h4)
  rw [h3] at this
  exact this
end Go.Proofs.YtoohpcomnhfgpaaGreat
end
section
namespace Go.Proofs.YtoohpcomnhfgpaaGreat
open Go.RowKit
set_option maxRecDepth 100000
set_option linter.all false
structure Pa where
  kind : Int
  k : ByteArray
  v : ByteArray
  e : En
def paRow (x : Pa) : List Value := .int .i64 x.kind :: .string x.k :: .string x.v :: enRow x.e
theorem paRow_length (x : Pa) : (paRow x).length = 12 := rfl
abbrev paA (a : Pa) : Array Value := #[.int .i64 a.kind, .string a.k, .string a.v, .string a.e.k, .string a.e.v, .bool a.e.d, .int .i64 a.e.s.c, .int .i64 a.e.s.s, .int .i64 a.e.a.c, .int .i64 a.e.a.s, .int .i64 a.e.p, .int .i64 a.e.g]
theorem pa_one (a : Pa) : (paA a).all (·.oneCell') = true := by simp [Value.oneCell']
theorem pa_entry {w : World} {b : Nat} {t : TypeId} {a : Pa} (h : Blk w b t (paA a)) : ∀ j u, (#[.string a.e.k, .string a.e.v, .bool a.e.d, .int .i64 a.e.s.c, .int .i64 a.e.s.s, .int .i64 a.e.a.c, .int .i64 a.e.a.s, .int .i64 a.e.p, .int .i64 a.e.g] : Array Value).toList[j]? = some u → w.cell? ⟨b, 3 + j, none⟩ = some u := fun j u hu => by
  rw [h.cell (3 + j), Nat.add_comm]
  simpa using hu
def paShort (a : Pa) : Bool := decide (a.k.size ≤ 40) && decide (a.v.size ≤ 60) && enShort a.e
theorem paShort_succ {l : List Pa} {k : Nat} {e : Pa} (h : l[k]? = some e) : (l.take (k + 1)).all paShort = ((l.take k).all paShort && paShort e) := by
  obtain ⟨hk, hb⟩ := List.getElem?_eq_some_iff.1 h
  rw [List.take_succ_eq_append_getElem hk, List.all_append, hb]
  simp
set_option maxHeartbeats 6400000 in
theorem rp_few (v : Value) (l : List Pa) (m : Nat) (w : World) (S : Nat → Prop) (hx : Cel w S v l.length 12 (l.flatMap paRow)) :
    Calls Tryz.prog 13 #[v, .int .i64 (m : Int)] w fun E w' => E = .returned (.bool (l.all paShort && decide (l.length ≤ m))) ∧ Only none_ w w' := by
  have hx0 := hx
  obtain ⟨A, c, rfl, _, h2, h3, _, h4⟩ := hx
  obtain ⟨L, hL⟩ : ∃ L, l.length = L := ⟨_, rfl⟩
  rw [hL] at h2 h4 hx0 ⊢
  have HX := Lib.hid hx0
  have HL := Lib.hid hL
  have hLm : L ≤ 9223372036854775807 := by simp only [maxLen] at h3; omega
  have O0 := Lib.hid (Only.refl none_ w)
  clear h4 hL hx0
  go_enter Tryz.func13, Tryz.ntmps13
  go_wp2_with fail
  go_loopw [9] (fun i wr => ∃ k : Nat, k ≤ L ∧ i = .int .i64 (k : Int) ∧ (l.take k).all paShort = true ∧ Only none_ w wr) (fun i _ => L - (intOf i).toNat)
  case atStart => exact ⟨0, Nat.zero_le _, rfl, by simp, O0.out⟩
  case round =>
    obtain ⟨k, hk, rfl, hall, ho⟩ := hrel
    have HW := Lib.hid ho
    have HA := Lib.hid hall
    clear ho hall
    by_cases hlt : k < L
    · obtain ⟨a, ha⟩ : ∃ a, l[k]? = some a := ⟨l[k]'(by have := HL.out; omega), List.getElem?_eq_getElem _⟩
      obtain ⟨b, off, hA, _, hb, hc⟩ := in_elem paRow_length (by decide) HX.out HL.out ha
      subst hA
      have HC : Hid (∀ j u, (paA a).toList[j]? = some u → wr.cell? ⟨b, off + k * 12 + j, none⟩ = some u) := fun j u hu => hc _ HW.out j u hu
      have HS := Lib.hid (paShort_succ ha)
      have hmem : a ∈ l := List.mem_of_getElem? ha
      have BA := Lib.hid (Blk.new wr 52 (paA a))
      obtain ⟨s, hs⟩ : ∃ s, enShort a.e = s := ⟨_, rfl⟩
      have HSS := Lib.hid hs
      have HF : Hid (paShort a = false → l.all paShort = false) := by intro e; rw [List.all_eq_false]; exact ⟨a, hmem, by simp [e]⟩
      have HP : Hid (paShort a = (decide (a.k.size ≤ 40) && decide (a.v.size ≤ 60) && s)) := by rw [← hs]; rfl
      clear ha hc hmem hs
      have hki : (k : Int) < (L : Int) := by omega
      by_cases hk1 : 40 < a.k.size
      · have hk2 : (40 : Int) < (a.k.size : Int) := by omega
        have HF2 : Hid (l.all paShort = false) := HF.out (by rw [HP.out, decide_eq_false (by omega)]; rfl)
        go_wp2_with (first
          | (refine wpl_piece rfl 52 _ rfl b (off + k * 12) rfl (paA a) _ HC.out Tryz.underlying52 rfl (by kernel_rfl) ?_)
          | (refine wpl_new rfl rfl 52 rfl _ _ rfl (paA a) rfl rfl (by kernel_rfl) (pa_one a) ?_))
        go_ret
        exact ⟨by rw [HF2.out]; rfl, HW.out.alloc _⟩
      · have hk2 : ¬ (40 : Int) < (a.k.size : Int) := by omega
        by_cases hv1 : 60 < a.v.size
        · have hv2 : (60 : Int) < (a.v.size : Int) := by omega
          have HF2 : Hid (l.all paShort = false) := HF.out (by rw [HP.out, decide_eq_false (p := a.v.size ≤ 60) (by omega), Bool.and_false]; rfl)
          go_wp2_with (first
            | (refine wpl_piece rfl 52 _ rfl b (off + k * 12) rfl (paA a) _ HC.out Tryz.underlying52 rfl (by kernel_rfl) ?_)
            | (refine wpl_new rfl rfl 52 rfl _ _ rfl (paA a) rfl rfl (by kernel_rfl) (pa_one a) ?_))
          go_ret
          exact ⟨by rw [HF2.out]; rfl, HW.out.alloc _⟩
        · have hv2 : ¬ (60 : Int) < (a.v.size : Int) := by omega
          have HP2 : Hid (paShort a = s) := by rw [Hid, HP.out, decide_eq_true (by omega), decide_eq_true (by omega)]; rfl
          rw [HP2.out] at HS
          cases s with
          | false =>
            have HF2 : Hid (l.all paShort = false) := HF.out HP2.out
            clear HF
            go_wp2_with (first
              | (refine wpl_piece rfl 52 _ rfl b (off + k * 12) rfl (paA a) _ HC.out Tryz.underlying52 rfl (by kernel_rfl) ?_)
              | (refine wpl_new rfl rfl 52 rfl _ _ rfl (paA a) rfl rfl (by kernel_rfl) (pa_one a) ?_)
              | (refine wpl_piece rfl 50 _ rfl wr.heap.size 3 rfl #[.string a.e.k, .string a.e.v, .bool a.e.d, .int .i64 a.e.s.c, .int .i64 a.e.s.s, .int .i64 a.e.a.c, .int .i64 a.e.a.s, .int .i64 a.e.p, .int .i64 a.e.g] _ (pa_entry BA.out) Tryz.underlying50 rfl (by kernel_rfl) ?_)
              | (go_at_call 34; refine (rf_short a.e _).mono ?_; rw [HSS.out]; rintro E w5 ⟨rfl, o5⟩; have O5 := Lib.hid ((HW.out.alloc _).trans o5); clear o5))
            go_ret
            exact ⟨by rw [HF2.out]; rfl, O5.out⟩
          | true =>
            clear HF
            go_wp2_with (first
              | (refine wpl_piece rfl 52 _ rfl b (off + k * 12) rfl (paA a) _ HC.out Tryz.underlying52 rfl (by kernel_rfl) ?_)
              | (refine wpl_new rfl rfl 52 rfl _ _ rfl (paA a) rfl rfl (by kernel_rfl) (pa_one a) ?_)
              | (refine wpl_piece rfl 50 _ rfl wr.heap.size 3 rfl #[.string a.e.k, .string a.e.v, .bool a.e.d, .int .i64 a.e.s.c, .int .i64 a.e.s.s, .int .i64 a.e.a.c, .int .i64 a.e.a.s, .int .i64 a.e.p, .int .i64 a.e.g] _ (pa_entry BA.out) Tryz.underlying50 rfl (by kernel_rfl) ?_)
              | (go_at_call 34; refine (rf_short a.e _).mono ?_; rw [HSS.out]; rintro E w5 ⟨rfl, o5⟩; have O5 := Lib.hid ((HW.out.alloc _).trans o5); clear o5))
            go_roundw
            case rel => exact ⟨k + 1, by omega, by go_num, by rw [HS.out, HA.out]; rfl, O5.out⟩
            case measure => simp [intOf]; omega
    · obtain rfl : k = L := by omega
      have HT : Hid (l.all paShort = true) := by have := HA.out; rwa [← HL.out, List.take_length] at this
      by_cases h40 : k ≤ m
      · have hz : Hid (decide (k ≤ m) = true) := by simp [Hid, h40]
        have hd : decide ((k : Int) ≤ (m : Int)) = true := by simp; omega
        go_wp2_with fail
        go_ret
        exact ⟨by rw [HT.out, hz.out]; rfl, HW.out⟩
      · have hz : Hid (decide (k ≤ m) = false) := by simp [Hid]; omega
        have hd : decide ((k : Int) ≤ (m : Int)) = false := by simp; omega
        go_wp2_with fail
        go_ret
        exact ⟨by rw [HT.out, hz.out]; rfl, HW.out⟩
end Go.Proofs.YtoohpcomnhfgpaaGreat
end
section
namespace Go.Proofs.YtoohpcomnhfgpaaGreat
open Go.RowKit
set_option maxRecDepth 100000
set_option linter.all false
def notedL (l : List ByteArray) (k : ByteArray) : List ByteArray := if hasK l k = true then l else l ++ [k]
theorem hasK_take {l : List ByteArray} {k x : ByteArray} {i : Nat} (hx : l[i]? = some x) : hasK (l.take (i + 1)) k = (hasK (l.take i) k || decide (x = k)) := by
  obtain ⟨hi, he⟩ := List.getElem?_eq_some_iff.1 hx
  rw [List.take_succ_eq_append_getElem hi, he]
  simp [hasK]
theorem map_flat (l : List ByteArray) : l.map Value.string = l.flatMap (fun x => [Value.string x]) := by
  induction l with
  | nil => rfl
  | cons x r ih => rw [List.map_cons, List.flatMap_cons, ih]; rfl
set_option maxHeartbeats 6400000 in
theorem rp_noted (base : Nat) (v : Value) (l : List ByteArray) (k : ByteArray) (w : World) (h : w.ownsRow base 9 1 v l.length (l.map .string)) (hb : base ≤ w.heap.size) (hl : l.length ≤ 1000) :
    Calls Tryz.prog 45 #[v, .string k] w fun E w' => ∃ v', E = .returned v' ∧ w'.ownsRow base 9 1 v' (notedL l k).length ((notedL l k).map .string) ∧ Only (ownb v) w w' ∧ Moved w v v' := by
  obtain ⟨i0, hi0, hz0, hz1, hz2⟩ := info_parts str_info
  obtain ⟨A, n, c, rfl⟩ := own_shape h
  have hn := own_count h
  have H := Lib.hid h
  have HN := Lib.hid hn
  have HB := Lib.hid hb
  have HFM := Lib.hid (map_flat l)
  have hnm : n ≤ 1000 := by omega
  clear h hn hb hl
  go_enter Tryz.func45, Tryz.ntmps45
  go_wp2_with fail
  go_loopw [9] (fun i wr => ∃ j : Nat, j ≤ n ∧ i = .int .i64 (j : Int) ∧ hasK (l.take j) k = false ∧ Only none_ w wr) (fun i _ => n - (intOf i).toNat)
  case atStart => exact ⟨0, Nat.zero_le _, rfl, rfl, Only.refl _ _⟩
  case round =>
    obtain ⟨j, hj, rfl, hno, ho⟩ := hrel
    have HNO := Lib.hid hno
    have HO := Lib.hid ho
    have HW := Lib.hid (owns_only H.out ho (fun _ _ h => h))
    clear hno ho
    by_cases hlt : j < n
    · obtain ⟨x, hx⟩ : ∃ x, l[j]? = some x := ⟨l[j]'(by have := HN.out; omega), List.getElem?_eq_getElem _⟩
      obtain ⟨b, hA, hc⟩ := own_elem (f := fun x : ByteArray => [Value.string x]) (k := 1) (fun _ => rfl) (by decide) (by have := HW.out; rw [HFM.out, ← HN.out] at this; exact this) HN.out.symm hx
      have hcx := hc 0 _ rfl
      rw [Nat.mul_one, Nat.add_zero] at hcx
      have HT := Lib.hid (hasK_take (k := k) hx)
      have hm : x ∈ l := List.mem_of_getElem? hx
      have hji : (j : Int) < (n : Int) := by omega
      clear hc hx
      subst hA
      by_cases he : x = k
      · have hh : hasK l k = true := (hasK_iff l k).2 (he ▸ hm)
        have hbq : (x.toList == k.toList) = true := by rw [he]; exact beq_self_eq_true _
        have HR : Hid (notedL l k = l) := if_pos hh
        clear he hm hh
        go_wp2_with fail
        go_ret
        exact ⟨_, rfl, by rw [HR.out]; exact HW.out, HO.out.of_none, fun k hk => .inl hk⟩
      · have hbq : (x.toList == k.toList) = false := by
          cases hq : (x.toList == k.toList) with
          | false => rfl
          | true => exact absurd (str_eq.1 hq) he
        have HT2 : Hid (hasK (l.take (j + 1)) k = false) := by rw [Hid, HT.out, HNO.out, decide_eq_false he]; rfl
        clear he hm
        go_wp2_with fail
        go_roundw
        case rel => exact ⟨j + 1, by omega, by go_num, HT2.out, HO.out⟩
        case measure => simp [intOf]; omega
    · obtain rfl : j = n := by omega
      have HR : Hid (notedL l k = l ++ [k]) := by
        have h1 := HNO.out
        rw [List.take_of_length_le (by have := HN.out; omega)] at h1
        exact if_neg (by rw [h1]; simp)
      have O3 := Lib.hid ((Only.refl none_ wr).alloc (.cells #[.string k] 9))
      have OW3 := Lib.hid (owns_only HW.out O3.out (fun _ _ h => h))
      have CM := Lib.hid (cel_made wr 9 1 1 #[.string k] rfl (by simp [maxLen]))
      have ONE : Hid (∀ u ∈ (#[.string k] : Array Value).toList, u.oneCell' = true) := by
        intro u hu
        simp only [List.mem_cons, List.not_mem_nil, or_false] at hu
        subst hu
        rfl
      have HLN : Hid (l.length + 1 ≤ maxLen ∧ (l.length + 1) * 16 ≤ 140737488355328) := by have := HN.out; simp only [Hid, maxLen]; omega
      go_wp2_with (first
        | (at_builtin; refine wpList_append_cel _ rfl (.tmp 18) (.tmp 20) 38 rfl base 9 i0 _ 1 16 Tryz.underlying38 hi0 hz0 hz1 hz2 rfl (by omega) (.slice A j c) l.length _ rfl OW3.out _ _ 1 _ rfl CM.out ONE.out HLN.out.1 HLN.out.2 (by rw [World.size_alloc]; have := HB.out; have := HO.out.size; omega) ?_
           intro A6 n6 c6 w6 hown6 hgrow6 hmv6
           have F6 := Lib.hid (And.intro hown6 (And.intro hgrow6 hmv6))
           clear hown6 hgrow6 hmv6))
      go_ret
      refine ⟨_, rfl, ?_, ((HO.out.trans O3.out).of_none).trans' ((Only.refl (ownb (.slice A j c)) _).grown F6.out.2.1 (fun k hk => .inl hk)) (fun _ _ h => h), fun k hk => (F6.out.2.2 k hk).imp id (fun h => by rw [World.size_alloc] at h; have := HO.out.size; omega)⟩
      rw [HR.out, List.length_append, List.map_append]
      exact F6.out.1
end Go.Proofs.YtoohpcomnhfgpaaGreat
end
section
namespace Go.Proofs.YtoohpcomnhfgpaaGreat
open Go.RowKit
set_option maxRecDepth 100000
set_option linter.all false
set_option maxHeartbeats 3200000 in
theorem rp_graves (B : World) (a : Ra) (s : Rs) (w : World) (h : Rp B a s w) :
    Calls Tryz.prog 50 #[.pointer (some ⟨a.r, 0, none⟩)] w fun E w' => ∃ v', E = .returned v' ∧ w'.ownsRow w.heap.size 82 9 v' s.gr.length (s.gr.flatMap enRow) ∧ Only none_ w w' := by
  have q9 : w.cell? ⟨a.r, 9, none⟩ = some (.pointer (some ⟨a.gv, 0, none⟩)) := h.bk.cell_ (i := 9) rfl
  have HG := Lib.hid (gv_all B a.gv a.gt s.site s.o.t2 s.gr a.vg w h.gv)
  clear h
  go_enter Tryz.func50, Tryz.ntmps50
  go_wp2_with (first
    | (go_at_call 102; refine HG.out.mono ?_; rintro E w1 ⟨v1, rfl, own1, o1⟩
       have F1 := Lib.hid (And.intro own1 o1)
       clear own1 o1))
  go_ret
  exact ⟨_, rfl, F1.out.1, F1.out.2⟩
set_option maxHeartbeats 3200000 in
theorem rp_of (o : Ro) (w : World) :
    Calls Tryz.prog 16 #[.agg #[.int .i64 o.n, .int .i64 o.q, .int .i64 o.r, .int .i64 o.t1, .int .i64 o.t2]] w fun E w' => E = .returned (.agg #[.int .i64 o.n, .int .i64 o.q, .int .i64 o.r, .int .i64 o.t1, .int .i64 o.t2]) ∧ Only none_ w w' := by
  go_enter Tryz.func16, Tryz.ntmps16
  go_wp2_with fail
  have b := Blk.new (w.alloc (.cells #[.int .i64 o.n, .int .i64 o.q, .int .i64 o.r, .int .i64 o.t1, .int .i64 o.t2] 23)) 33 #[.int .i64 o.n, .int .i64 o.q, .int .i64 o.r, .int .i64 o.t1, .int .i64 o.t2]
  rw [World.size_alloc] at b
  exact bodyPost_ret (results_cell_row rfl _ _ (w.heap.size + 1) 33 _ (0, 0) _ rfl b Tryz.underlying33 rfl (by kernel_rfl)) rfl ⟨rfl, ((Only.refl none_ w).alloc _).alloc _⟩
end Go.Proofs.YtoohpcomnhfgpaaGreat
end
section
namespace Go.Proofs.YtoohpcomnhfgpaaGreat
open Go.RowKit
set_option maxRecDepth 100000
set_option linter.all false
set_option maxHeartbeats 1600000 in
theorem rd_room (o : Ro) (w : World) (hr : 0 ≤ roRoom o ∧ roRoom o ≤ 768) :
    Calls Tryz.prog 48 #[.agg #[.int .i64 o.n, .int .i64 o.q, .int .i64 o.r, .int .i64 o.t1, .int .i64 o.t2]] w fun E w' => E = .returned (.int .i64 (roRoom o)) ∧ Only none_ w w' := by
  have hw : IntKind.i64.wrap (o.n * o.q) = roRoom o := IntWalk.i64_in _ (by have : roRoom o = o.n * o.q := rfl; omega)
  go_enter Tryz.func48, Tryz.ntmps48
  go_wp2_with fail
  go_ret
  exact ⟨rfl, (Only.refl none_ w).alloc _⟩
theorem rd_bad {n q r t1 t2 : Int} (h : ¬ ((1 ≤ n ∧ n ≤ 12) ∧ (1 ≤ q ∧ q ≤ 64) ∧ (1 ≤ r ∧ r ≤ n) ∧ (0 ≤ t1 ∧ t1 ≤ 2147483647) ∧ (t1 ≤ t2 ∧ t2 ≤ 2147483647) ∧ (t1 = 0 → t2 = 0))) : roCheck ⟨n, q, r, t1, t2⟩ = 14 := by
  unfold roCheck
  rw [if_pos]
  cases hb : roBad ⟨n, q, r, t1, t2⟩ with
  | true => rfl
  | false => exact absurd (ro_ok hb) h
theorem rd_good {n q r t1 t2 : Int} (h1 : 1 ≤ n ∧ n ≤ 12) (h2 : 1 ≤ q ∧ q ≤ 64) (h3 : 1 ≤ r ∧ r ≤ n) (h4 : 0 ≤ t1 ∧ t1 ≤ 2147483647) (h5 : t1 ≤ t2 ∧ t2 ≤ 2147483647) (h6 : t1 = 0 → t2 = 0) : roCheck ⟨n, q, r, t1, t2⟩ = 0 := by
  unfold roCheck
  rw [if_neg]
  simp only [roBad, Bool.not_eq_true', Bool.not_eq_false, Bool.and_eq_true, decide_eq_true_eq]
  refine ⟨⟨⟨⟨h1, h2⟩, h3⟩, h4⟩, h5.1, ?_⟩
  split
  · next h => have := h6 h; omega
  · exact h5.2
set_option maxHeartbeats 12800000 in
theorem rd_check (o : Ro) (w : World) :
    Calls Tryz.prog 19 #[.agg #[.int .i64 o.n, .int .i64 o.q, .int .i64 o.r, .int .i64 o.t1, .int .i64 o.t2]] w fun E w' => E = .returned (.int .i64 (roCheck o)) ∧ Only none_ w w' := by
  obtain ⟨n, q, r, t1, t2⟩ := o
  dsimp only
  by_cases h0 : n < 1
  · have d0 : decide (n < 1) = true := decide_eq_true h0
    have hv : Hid (roCheck ⟨n, q, r, t1, t2⟩ = 14) := rd_bad (by omega)
    try clear hz2
    try clear hz
    go_enter Tryz.func19, Tryz.ntmps19
    go_wp2_with fail
    go_ret
    exact ⟨by rw [hv.out]; rfl, (Only.refl none_ w).alloc _⟩
  · have d0 : decide (n < 1) = false := decide_eq_false h0
    by_cases h1 : 12 < n
    · have d1 : decide (12 < n) = true := decide_eq_true h1
      have hv : Hid (roCheck ⟨n, q, r, t1, t2⟩ = 14) := rd_bad (by omega)
      try clear hz2
      try clear hz
      go_enter Tryz.func19, Tryz.ntmps19
      go_wp2_with fail
      go_ret
      exact ⟨by rw [hv.out]; rfl, (Only.refl none_ w).alloc _⟩
    · have d1 : decide (12 < n) = false := decide_eq_false h1
      by_cases h2 : q < 1
      · have d2 : decide (q < 1) = true := decide_eq_true h2
        have hv : Hid (roCheck ⟨n, q, r, t1, t2⟩ = 14) := rd_bad (by omega)
        try clear hz2
        try clear hz
        go_enter Tryz.func19, Tryz.ntmps19
        go_wp2_with fail
        go_ret
        exact ⟨by rw [hv.out]; rfl, (Only.refl none_ w).alloc _⟩
      · have d2 : decide (q < 1) = false := decide_eq_false h2
        by_cases h3 : 64 < q
        · have d3 : decide (64 < q) = true := decide_eq_true h3
          have hv : Hid (roCheck ⟨n, q, r, t1, t2⟩ = 14) := rd_bad (by omega)
          try clear hz2
          try clear hz
          go_enter Tryz.func19, Tryz.ntmps19
          go_wp2_with fail
          go_ret
          exact ⟨by rw [hv.out]; rfl, (Only.refl none_ w).alloc _⟩
        · have d3 : decide (64 < q) = false := decide_eq_false h3
          by_cases h4 : r < 1
          · have d4 : decide (r < 1) = true := decide_eq_true h4
            have hv : Hid (roCheck ⟨n, q, r, t1, t2⟩ = 14) := rd_bad (by omega)
            try clear hz2
            try clear hz
            go_enter Tryz.func19, Tryz.ntmps19
            go_wp2_with fail
            go_ret
            exact ⟨by rw [hv.out]; rfl, (Only.refl none_ w).alloc _⟩
          · have d4 : decide (r < 1) = false := decide_eq_false h4
            by_cases h5 : n < r
            · have d5 : decide (n < r) = true := decide_eq_true h5
              have hv : Hid (roCheck ⟨n, q, r, t1, t2⟩ = 14) := rd_bad (by omega)
              try clear hz2
              try clear hz
              go_enter Tryz.func19, Tryz.ntmps19
              go_wp2_with fail
              go_ret
              exact ⟨by rw [hv.out]; rfl, (Only.refl none_ w).alloc _⟩
            · have d5 : decide (n < r) = false := decide_eq_false h5
              by_cases h6 : t1 < 0
              · have d6 : decide (t1 < 0) = true := decide_eq_true h6
                have hv : Hid (roCheck ⟨n, q, r, t1, t2⟩ = 14) := rd_bad (by omega)
                try clear hz2
                try clear hz
                go_enter Tryz.func19, Tryz.ntmps19
                go_wp2_with fail
                go_ret
                exact ⟨by rw [hv.out]; rfl, (Only.refl none_ w).alloc _⟩
              · have d6 : decide (t1 < 0) = false := decide_eq_false h6
                by_cases h7 : 2147483647 < t1
                · have d7 : decide (2147483647 < t1) = true := decide_eq_true h7
                  have hv : Hid (roCheck ⟨n, q, r, t1, t2⟩ = 14) := rd_bad (by omega)
                  try clear hz2
                  try clear hz
                  go_enter Tryz.func19, Tryz.ntmps19
                  go_wp2_with fail
                  go_ret
                  exact ⟨by rw [hv.out]; rfl, (Only.refl none_ w).alloc _⟩
                · have d7 : decide (2147483647 < t1) = false := decide_eq_false h7
                  by_cases hz : t1 = 0
                  · have zb : (t1 == 0) = true := by simpa using hz
                    by_cases hz2 : t2 = 0
                    · have zc : (t2 != 0) = false := by simp [hz2]
                      by_cases k1 : t2 < t1
                      · have e1 : decide (t2 < t1) = true := decide_eq_true k1
                        have hv : Hid (roCheck ⟨n, q, r, t1, t2⟩ = 14) := rd_bad (by omega)
                        try clear hz2
                        try clear hz
                        go_enter Tryz.func19, Tryz.ntmps19
                        go_wp2_with fail
                        go_ret
                        exact ⟨by rw [hv.out]; rfl, (Only.refl none_ w).alloc _⟩
                      · have e1 : decide (t2 < t1) = false := decide_eq_false k1
                        by_cases k2 : 2147483647 < t2
                        · have e2 : decide (2147483647 < t2) = true := decide_eq_true k2
                          have hv : Hid (roCheck ⟨n, q, r, t1, t2⟩ = 14) := rd_bad (by omega)
                          try clear hz2
                          try clear hz
                          go_enter Tryz.func19, Tryz.ntmps19
                          go_wp2_with fail
                          go_ret
                          exact ⟨by rw [hv.out]; rfl, (Only.refl none_ w).alloc _⟩
                        · have e2 : decide (2147483647 < t2) = false := decide_eq_false k2
                          have hv : Hid (roCheck ⟨n, q, r, t1, t2⟩ = 0) := rd_good (by omega) (by omega) (by omega) (by omega) (by omega) (fun _ => hz2)
                          try clear hz2
                          try clear hz
                          go_enter Tryz.func19, Tryz.ntmps19
                          go_wp2_with fail
                          go_ret
                          exact ⟨by rw [hv.out]; rfl, (Only.refl none_ w).alloc _⟩
                    · have zc : (t2 != 0) = true := by simpa using hz2
                      have hv : Hid (roCheck ⟨n, q, r, t1, t2⟩ = 14) := rd_bad (fun e => hz2 (e.2.2.2.2.2 hz))
                      try clear hz2
                      try clear hz
                      go_enter Tryz.func19, Tryz.ntmps19
                      go_wp2_with fail
                      go_ret
                      exact ⟨by rw [hv.out]; rfl, (Only.refl none_ w).alloc _⟩
                  · have zb : (t1 == 0) = false := by simpa using hz
                    by_cases k1 : t2 < t1
                    · have e1 : decide (t2 < t1) = true := decide_eq_true k1
                      have hv : Hid (roCheck ⟨n, q, r, t1, t2⟩ = 14) := rd_bad (by omega)
                      try clear hz2
                      try clear hz
                      go_enter Tryz.func19, Tryz.ntmps19
                      go_wp2_with fail
                      go_ret
                      exact ⟨by rw [hv.out]; rfl, (Only.refl none_ w).alloc _⟩
                    · have e1 : decide (t2 < t1) = false := decide_eq_false k1
                      by_cases k2 : 2147483647 < t2
                      · have e2 : decide (2147483647 < t2) = true := decide_eq_true k2
                        have hv : Hid (roCheck ⟨n, q, r, t1, t2⟩ = 14) := rd_bad (by omega)
                        try clear hz2
                        try clear hz
                        go_enter Tryz.func19, Tryz.ntmps19
                        go_wp2_with fail
                        go_ret
                        exact ⟨by rw [hv.out]; rfl, (Only.refl none_ w).alloc _⟩
                      · have e2 : decide (2147483647 < t2) = false := decide_eq_false k2
                        have hv : Hid (roCheck ⟨n, q, r, t1, t2⟩ = 0) := rd_good (by omega) (by omega) (by omega) (by omega) (by omega) (fun e => absurd e hz)
                        try clear hz2
                        try clear hz
                        go_enter Tryz.func19, Tryz.ntmps19
                        go_wp2_with fail
                        go_ret
                        exact ⟨by rw [hv.out]; rfl, (Only.refl none_ w).alloc _⟩
end Go.Proofs.YtoohpcomnhfgpaaGreat
end
section
namespace Go.Proofs.YtoohpcomnhfgpaaGreat
open Go.RowKit
set_option maxRecDepth 100000
set_option linter.all false
structure Rq (B : World) (o : Ro) (dg : Nat) (a : Ra) (s : Rs) (log : List En) (r m : Nat) (X : World) : Prop where
  p : Rp B a s X
  hr : a.r = r
  hd : a.dg = dg
  wf : Wf log s
  n : log.length ≤ m
  ho : s.o = o
  hs : s.site = 0
structure Ol (a a' : Ra) (X X' : World) : Prop where
  o : Only (allF a) X X'
  f : ∀ k, allF a' k → allF a k ∨ X.heap.size ≤ k
structure Ks (B : World) (a : Ra) (v : Value) (keys : List ByteArray) (X : World) : Prop where
  own : X.ownsRow B.heap.size 9 1 v keys.length (keys.map .string)
  ap : ∀ b, v.ownBlock = some b → ¬ allF a b
section
variable {B X X' : World} {o : Ro} {dg r m m' n : Nat} {a a' : Ra} {s s' : Rs} {log log' : List En} {v v' : Value} {keys keys' : List ByteArray} {t : TypeId} {cs : Array Value} {x : En} {z kd : Int}
theorem Rq.keep (h : Rq B o dg a s log r m X) (k : Only none_ X X') : Rq B o dg a s log r m X' := ⟨h.p.keep k, h.hr, h.hd, h.wf, h.n, h.ho, h.hs⟩
theorem Rq.left (h : Rq B o dg a s log r m X) (L : LeftP B a X s' X') (wf : Wf log' s') (hn : log'.length ≤ m') (e1 : s'.o = s.o) (e2 : s'.site = s.site) : ∃ a', Rq B o dg a' s' log' r m' X' ∧ Ol a a' X X' := by
  obtain ⟨a', r1, o1, f1, g1, g2⟩ := L
  exact ⟨a', ⟨r1, g1.trans h.hr, g2.trans h.hd, wf, hn, e1.trans h.ho, e2.trans h.hs⟩, ⟨o1, f1⟩⟩
theorem Ol.bn (h : Ol a a' X X') (b : Bn a n t cs X) : Bn a' n t cs X' := ⟨b.b.only h.o b.n, fun hf => by
  rcases h.f n hf with h1 | h1
  · exact b.n h1
  · have := b.b.lt; omega⟩
theorem Ol.ks (h : Ol a a' X X') (k : Ks B a v keys X) : Ks B a' v keys X' := ⟨owns_only k.own h.o (fun b hb => k.ap b hb), fun b hb hf => by
  rcases h.f b hf with h1 | h1
  · exact k.ap b hb h1
  · have := (k.own.lt b hb).2; omega⟩
theorem Ks.keep (k : Ks B a v keys X) (o : Only none_ X X') : Ks B a v keys X' := ⟨owns_only k.own o (fun _ _ h => h), k.ap⟩
theorem Ks.nil (B : World) (a : Ra) (X : World) : Ks B a (.slice none 0 0) [] X := ⟨World.ownsRow_nil _ _ _ _, fun b hb => by cases hb⟩
theorem Rq.kset (h : Rq B o dg a s log r m X) (k : Ks B a v keys X) (hO : Only (ownb v) X X') : Rq B o dg a s log r m X' :=
  ⟨h.p.apart hO (fun b hf e => k.ap b e hf) (fun b e => (k.own.lt b e).1), h.hr, h.hd, h.wf, h.n, h.ho, h.hs⟩
theorem Bn.kset (b : Bn a n t cs X) (k : Ks B a v keys X) (ht : 9 ≠ t) (hO : Only (ownb v) X X') : Bn a n t cs X' :=
  ⟨b.b.only hO (fun e => own_blk_ne k.own b.b ht e), b.n⟩
theorem Ks.noted (h : Rp B a s X) (k : Ks B a v keys X) (hw : X'.ownsRow B.heap.size 9 1 v' keys'.length (keys'.map .string)) (hm : Moved X v v') : Ks B a v' keys' X' :=
  ⟨hw, fun b hb hf => by
    rcases hm b hb with h1 | h1
    · exact k.ap b h1 hf
    · have := (h.all_ge hf).2; omega⟩
theorem Rq.put (h : Rq B o dg a s log r m X) (hm : m ≤ 60) {k u : ByteArray} (hp : putRs s k u = (s', x, z)) (wf : Wf log' s') (hn : log'.length ≤ m') :
    Calls Tryz.prog 44 #[.pointer (some ⟨r, 0, none⟩), .string k, .string u] X fun E X' => E = .returned (.tuple #[.agg #[.string x.k, .string x.v, .bool x.d, .int .i64 x.s.c, .int .i64 x.s.s, .int .i64 x.a.c, .int .i64 x.a.s, .int .i64 x.p, .int .i64 x.g], .int .i64 z]) ∧ ∃ a', Rq B o dg a' s' log' r m' X' ∧ Ol a a' X X' := by
  have := rp_put B a s k u X h.p h.wf.c h.wf.site (h.wf.rky (Nat.le_trans h.n hm))
  have po := put_o (s := s) (k := k) (v := u)
  rw [hp] at this po
  rw [h.hr] at this
  refine this.mono ?_
  rintro E X' ⟨rfl, L⟩
  exact ⟨rfl, h.left L wf hn po.1 po.2⟩
theorem Rq.del (h : Rq B o dg a s log r m X) (hm : m ≤ 60) {k : ByteArray} (hp : delRs s k = (s', x, z)) (wf : Wf log' s') (hn : log'.length ≤ m') :
    Calls Tryz.prog 46 #[.pointer (some ⟨r, 0, none⟩), .string k] X fun E X' => E = .returned (.tuple #[.agg #[.string x.k, .string x.v, .bool x.d, .int .i64 x.s.c, .int .i64 x.s.s, .int .i64 x.a.c, .int .i64 x.a.s, .int .i64 x.p, .int .i64 x.g], .int .i64 z]) ∧ ∃ a', Rq B o dg a' s' log' r m' X' ∧ Ol a a' X X' := by
  have := rp_delete B a s k X h.p h.wf.c h.wf.site (h.wf.rky (Nat.le_trans h.n hm))
  have po := del_o (s := s) (k := k)
  rw [hp] at this po
  rw [h.hr] at this
  refine this.mono ?_
  rintro E X' ⟨rfl, L⟩
  exact ⟨rfl, h.left L wf hn po.1 po.2⟩
theorem Rq.mrg (h : Rq B o dg a s log r m X) (hm : m ≤ 60) {e : En} (hp : mgR s e = (s', kd, x, z)) (wf : Wf log' s') (hn : log'.length ≤ m') :
    Calls Tryz.prog 35 #[.pointer (some ⟨r, 0, none⟩), .agg #[.string e.k, .string e.v, .bool e.d, .int .i64 e.s.c, .int .i64 e.s.s, .int .i64 e.a.c, .int .i64 e.a.s, .int .i64 e.p, .int .i64 e.g]] X fun E X' => E = .returned (.tuple #[.int .i64 kd, .agg #[.string x.k, .string x.v, .bool x.d, .int .i64 x.s.c, .int .i64 x.s.s, .int .i64 x.a.c, .int .i64 x.a.s, .int .i64 x.p, .int .i64 x.g], .int .i64 z]) ∧ ∃ a', Rq B o dg a' s' log' r m' X' ∧ Ol a a' X X' := by
  have := rp_merge B a s e X h.p (h.wf.rky (Nat.le_trans h.n hm)) h.wf.gok h.wf.tabok
  have po := mg_o (s := s) (x := e)
  rw [hp] at this po
  rw [h.hr] at this
  refine this.mono ?_
  rintro E X' ⟨rfl, L⟩
  exact ⟨rfl, h.left L wf hn po.1 po.2⟩
theorem Rq.tick (h : Rq B o dg a s log r m X) :
    Calls Tryz.prog 47 #[.pointer (some ⟨r, 0, none⟩)] X fun E X' => ∃ vs, E = .returned vs ∧ ∃ a', Rq B o dg a' (tickS s) log r m X' ∧ Ol a a' X X' := by
  have ht := h.wf.tick
  by_cases h1 : s.o.t1 = 0
  · have := rp_tick_off B a s X h.p h1
    rw [h.hr] at this
    have e : tickS s = s := if_pos h1
    refine this.mono ?_
    rintro E X' ⟨rfl, L⟩
    exact ⟨_, rfl, h.left (by rw [e]; exact L) ht.1 h.n ht.2.2.2.1 ht.2.2.2.2⟩
  · have hro := ro_ok h.wf.o
    have := rp_tick_on B a s X h.p h.wf.ris h.wf.tabok (fun y hy => ⟨((check_of (h.wf.g y hy).1).2.2.2.2.2.2.2 (h.wf.g y hy).2.1).2.2.1, h.wf.gt y hy⟩) hro.2.2.2.2.1.2 h1
    rw [h.hr] at this
    have e : tickS s = s.tab.foldl tkS { s with gr := (tickE s.o.t2 s.gr).1 } := if_neg h1
    refine this.mono ?_
    rintro E X' ⟨vs, rfl, _, L⟩
    exact ⟨vs, rfl, h.left (by rw [e]; exact L) ht.1 h.n ht.2.2.2.1 ht.2.2.2.2⟩
theorem Rq.dsk (h : Rq B o dg a s log r m X) : Dsk B dg (dvOf (log.map encB)) a.vd X := by
  have := h.p.dk
  rw [h.hd, h.wf.D] at this
  exact this
theorem ft_dg (h : a.dg = dg) {k : Nat} (hk : foot dg a.vd k) : allF a k := ⟨6, by rw [← h] at hk; exact hk⟩
theorem Rq.reopen (h : Rq B o dg a s log r m X) (hm : m ≤ 60) (hop : opF log (blankS o 0 (dvOf (log.map encB)) log.length) = some s') :
    Calls Tryz.prog 15 #[.int .i64 0, .agg #[.int .i64 o.n, .int .i64 o.q, .int .i64 o.r, .int .i64 o.t1, .int .i64 o.t2], .pointer (some ⟨dg, 0, none⟩)] X fun E X' => ∃ a' r', E = .returned (.tuple #[.pointer (some ⟨r', 0, none⟩), .int .i64 0]) ∧ Rq B o dg a' s' log r' m X' ∧ Ol a a' X X' := by
  have hob : roBad o = false := by rw [← h.ho]; exact h.wf.o
  have hsi : (0 : Int) ≤ 0 ∧ 0 < o.n := ⟨Int.le_refl _, by have := (ro_ok hob).1; omega⟩
  have := rp_reopen B dg a.vd log 0 o X h.dsk h.wf.lg (Nat.le_trans h.n hm) hob hsi
  rw [hop] at this
  have hw := Wf.open hob hsi h.wf.lg
  rw [hop] at hw
  refine this.mono ?_
  rintro E X' ⟨a', rfl, hR, hdg, hO, hf⟩
  exact ⟨a', a'.r, rfl, ⟨hR, rfl, hdg, hw.1, h.n, hw.2.2.1, hw.2.2.2⟩, ⟨hO.mono (fun k _ hk => ft_dg h.hd hk), fun k hk => (hf k hk).imp (ft_dg h.hd) id⟩⟩
theorem Rq.reopen_no (h : Rq B o dg a s log r m X) (hm : m ≤ 60) (hop : opF log (blankS o 0 (dvOf (log.map encB)) log.length) = none) :
    Calls Tryz.prog 15 #[.int .i64 0, .agg #[.int .i64 o.n, .int .i64 o.q, .int .i64 o.r, .int .i64 o.t1, .int .i64 o.t2], .pointer (some ⟨dg, 0, none⟩)] X fun E X' => E = .returned (.tuple #[.pointer none, .int .i64 12]) ∧ Only (allF a) X X' := by
  have hob : roBad o = false := by rw [← h.ho]; exact h.wf.o
  have hsi : (0 : Int) ≤ 0 ∧ 0 < o.n := ⟨Int.le_refl _, by have := (ro_ok hob).1; omega⟩
  have := rp_reopen B dg a.vd log 0 o X h.dsk h.wf.lg (Nat.le_trans h.n hm) hob hsi
  rw [hop] at this
  refine this.mono ?_
  rintro E X' ⟨rfl, v', _, hO, _⟩
  exact ⟨rfl, hO.mono (fun k _ hk => ft_dg h.hd hk)⟩
theorem Rq.box (h : Rq B o dg a s log r m X) (b : Bn a n t cs X) (hB : B.heap.size ≤ n) (hO : Only (one n) X X') : Rq B o dg a s log r m X' :=
  ⟨h.p.apart hO (fun k hf e => b.n (by rw [← (show k = n from e)]; exact hf)) (fun k e => by rw [show k = n from e]; exact hB), h.hr, h.hd, h.wf, h.n, h.ho, h.hs⟩
theorem Ks.box (k : Ks B a v keys X) (b : Blk X n t cs) (ht : 9 ≠ t) (hO : Only (one n) X X') : Ks B a v keys X' :=
  ⟨owns_only k.own hO (fun g hg e => own_blk_ne k.own b ht (by rw [← (show g = n from e)]; exact hg)), k.ap⟩
theorem only_rowP (X : World) (n : Nat) (cs : Array Value) : Only (one n) X (X.setRow n cs) := (Only.refl (one n) X).setRow (.inl (show n = n from rfl)) _
theorem stamp_piece (h : Blk X n t #[.string x.k, .string x.v, .bool x.d, .int .i64 x.s.c, .int .i64 x.s.s, .int .i64 x.a.c, .int .i64 x.a.s, .int .i64 x.p, .int .i64 x.g]) {c1 s1 : Int} (hs : x.s = ⟨c1, s1⟩) : ∀ j u, (#[.int .i64 c1, .int .i64 s1] : Array Value).toList[j]? = some u → X.cell? ⟨n, 3 + j, none⟩ = some u := by
  intro j u hu
  refine (h.cell (3 + j)).trans ?_
  have e1 : x.s.c = c1 := by rw [hs]
  have e2 : x.s.s = s1 := by rw [hs]
  rw [← e1, ← e2] at hu
  match j, hu with
  | 0, hu => simpa using hu
  | 1, hu => simpa using hu
  | j + 2, hu => simp at hu
theorem noted_sub {k : ByteArray} : (∀ y ∈ keys, y ∈ notedL keys k) ∧ k ∈ notedL keys k ∧ (notedL keys k).length ≤ keys.length + 1 := by
  unfold notedL
  split
  · next hh => exact ⟨fun y hy => hy, (hasK_iff _ _).1 hh, Nat.le_succ _⟩
  · exact ⟨fun y hy => List.mem_append_left _ hy, List.mem_append_right _ (List.mem_singleton.2 rfl), by simp⟩
theorem live_key {l : List En} {k : ByteArray} (h : liveM l k = true) : ∃ e ∈ l, e.k = k := by
  unfold liveM at h
  split at h
  · cases h
  · next e hl => exact ⟨e, (look_some hl).1, (look_some hl).2⟩
theorem rq_first {w : World} {g : Nat} (hob : roBad o = false) (hd : Dsk w g ⟨true, -1, [], 0⟩ (.slice none 0 0) X) :
    Calls Tryz.prog 15 #[.int .i64 0, .agg #[.int .i64 o.n, .int .i64 o.q, .int .i64 o.r, .int .i64 o.t1, .int .i64 o.t2], .pointer (some ⟨g, 0, none⟩)] X fun E X' => ∃ a' r', E = .returned (.tuple #[.pointer (some ⟨r', 0, none⟩), .int .i64 0]) ∧ Rq w o g a' (blankS o 0 (dvOf []) 0) [] r' 0 X' ∧ Only (foot g (.slice none 0 0)) X X' ∧ ∀ k, allF a' k → foot g (.slice none 0 0) k ∨ X.heap.size ≤ k := by
  have hsi : (0 : Int) ≤ 0 ∧ 0 < o.n := ⟨Int.le_refl _, by have := (ro_ok hob).1; omega⟩
  have := rp_reopen w g (.slice none 0 0) [] 0 o X hd (fun e he => by cases he) (by decide) hob hsi
  refine this.mono ?_
  rintro E X' ⟨a', rfl, hR, hdg, hO, hf⟩
  exact ⟨a', a'.r, rfl, ⟨hR, rfl, hdg, wf_blank hob hsi, Nat.le_refl _, rfl, rfl⟩, hO, hf⟩
end
end Go.Proofs.YtoohpcomnhfgpaaGreat
end
section
namespace Go.Proofs.YtoohpcomnhfgpaaGreat
open Go.RowKit
set_option maxRecDepth 100000
set_option linter.all false
theorem wpl_load_if {P : Program} {ops : Array Oper} {Q : Exit → Act → World → Prop} {rest : List Oper} {o : Oper} {a : Act} {w : World} (hw : Region.wanted o (yielded ops a.tmps) = true) (ty : TypeId) (x : Operand) (ho : o.op = .load ty x)
    (g : Nat) (hx : a.eval x = .pointer (some ⟨g, 0, none⟩)) (t : TypeId) (cs : Array Value) (d : TypeDesc) (hg : Blk w g t cs)
    (hu : P.underlying ty = some d) (hd : (match d with | .struct _ | .array _ _ => true | _ => false) = true) (hi : (P.info? ty).map (·.size) = some cs.size)
    (h : wpList P ops Q rest (a.put o.dst (.agg cs)) w) : wpList P ops Q (o :: rest) a w := by
  show (if Region.wanted o (yielded ops a.tmps) then o.wp P a w (wpList P ops Q rest) Q ∨ _ else _)
  rw [if_pos hw]
  exact .inl (wp_load_row ty x ho g hx t cs (0, 0) d hg hu hd hi h)
end Go.Proofs.YtoohpcomnhfgpaaGreat
end
section
namespace Go.Proofs.YtoohpcomnhfgpaaGreat
open Go.RowKit
set_option maxRecDepth 100000
theorem st_of (c s : Int) (w : World) :
    Calls Tryz.prog 80 #[.agg #[.int .i64 c, .int .i64 s]] w fun e w' => e = .returned (.agg #[.int .i64 c, .int .i64 s]) ∧ Only none_ w w' := by
  have O := Lib.hid (((Only.refl none_ w).alloc (.cells #[.int .i64 c, .int .i64 s] 48)).alloc (.cells #[.int .i64 c, .int .i64 s] 80))
  go_enter Tryz.func80, Tryz.ntmps80
  go_wp2_with fail
  exact bodyPost_ret (v := .agg #[.int .i64 c, .int .i64 s]) (by simp [results, Tryz.results80, go_sem]) rfl ⟨rfl, O.out⟩
end Go.Proofs.YtoohpcomnhfgpaaGreat
end
section
namespace Go.Proofs.YtoohpcomnhfgpaaGreat
open Go.RowKit
set_option linter.all false
set_option maxRecDepth 100000
set_option maxHeartbeats 1600000 in
theorem en_of (e : En) (w : World) :
    Calls Tryz.prog 36 #[.agg #[.string e.k, .string e.v, .bool e.d, .int .i64 e.s.c, .int .i64 e.s.s, .int .i64 e.a.c, .int .i64 e.a.s, .int .i64 e.p, .int .i64 e.g]] w fun E w' => E = .returned (.agg #[.string e.k, .string e.v, .bool e.d, .int .i64 e.s.c, .int .i64 e.s.s, .int .i64 e.a.c, .int .i64 e.a.s, .int .i64 e.p, .int .i64 e.g]) ∧ Only none_ w w' := by
  have O := Lib.hid (((Only.refl none_ w).alloc (.cells #[.string e.k, .string e.v, .bool e.d, .int .i64 e.s.c, .int .i64 e.s.s, .int .i64 e.a.c, .int .i64 e.a.s, .int .i64 e.p, .int .i64 e.g] 50)).alloc (.cells #[.string enZero.k, .string enZero.v, .bool enZero.d, .int .i64 enZero.s.c, .int .i64 enZero.s.s, .int .i64 enZero.a.c, .int .i64 enZero.a.s, .int .i64 enZero.p, .int .i64 enZero.g] 82))
  have B := Blk.new (w.alloc (.cells #[.string e.k, .string e.v, .bool e.d, .int .i64 e.s.c, .int .i64 e.s.s, .int .i64 e.a.c, .int .i64 e.a.s, .int .i64 e.p, .int .i64 e.g] 50)) 82 #[.string enZero.k, .string enZero.v, .bool enZero.d, .int .i64 enZero.s.c, .int .i64 enZero.s.s, .int .i64 enZero.a.c, .int .i64 enZero.a.s, .int .i64 enZero.p, .int .i64 enZero.g]
  rw [World.size_alloc] at B
  have T : Hid (Bo ((w.alloc (.cells #[.string e.k, .string e.v, .bool e.d, .int .i64 e.s.c, .int .i64 e.s.s, .int .i64 e.a.c, .int .i64 e.a.s, .int .i64 e.p, .int .i64 e.g] 50)).alloc (.cells #[.string enZero.k, .string enZero.v, .bool enZero.d, .int .i64 enZero.s.c, .int .i64 enZero.s.s, .int .i64 enZero.a.c, .int .i64 enZero.a.s, .int .i64 enZero.p, .int .i64 enZero.g] 82)) w.heap.size (w.heap.size + 1) 50 82 e enZero ((w.alloc (.cells #[.string e.k, .string e.v, .bool e.d, .int .i64 e.s.c, .int .i64 e.s.s, .int .i64 e.a.c, .int .i64 e.a.s, .int .i64 e.p, .int .i64 e.g] 50)).alloc (.cells #[.string enZero.k, .string enZero.v, .bool enZero.d, .int .i64 enZero.s.c, .int .i64 enZero.s.s, .int .i64 enZero.a.c, .int .i64 enZero.a.s, .int .i64 enZero.p, .int .i64 enZero.g] 82))) :=
    ⟨(Blk.new w _ _).alloc _, B, Only.refl _ _⟩
  clear B
  simp only [enZero, stZero] at O T
  go_enter Tryz.func36, Tryz.ntmps36
  go_wp2_with fail
  have hne : w.heap.size ≠ w.heap.size + 1 := by omega
  have hge : w.heap.size ≤ w.heap.size + 1 := by omega
  have HN := Lib.hid hne
  have HGE := Lib.hid hge
  clear hne hge
  generalize (w.alloc _).alloc _ = W2 at *
  have t2 := T.out.keep (Only.refl none_ W2).drew
  (refine wp_region_steady (fun w' => Bo W2 w.heap.size (w.heap.size + 1) 50 82 e enZero w') 16 (by kernel_rfl) (by kernel_rfl) (t2) ?_; simp only [List.take_succ_cons, List.take_zero, List.drop_succ_cons, List.drop_zero])
  repeat (first
    | (refine sd_value (v := ?_) (by rfl) (fun w0 hS => ?_) ?_; rotate_left; (· (have hc := hS.cells; go_simp; try (with_reducible rfl))); try simp only [Act.put, List.setIfInBounds_toArray, List.set_cons_zero, List.set_cons_succ])
    | (refine sd_call (v := ?_) (f := 80) (args := ?_) (by rfl) (fun w0 hS => ?_) (fun w0 hS => ?_) ?_; rotate_left 2; (· (have hc := hS.cells; go_simp; try (with_reducible rfl))); (· (refine (st_of _ _ _).mono ?_; rintro E w2 ⟨rfl, o2⟩; refine ⟨?_, hS.keep o2⟩; rfl)); try simp only [Act.put, List.setIfInBounds_toArray, List.set_cons_zero, List.set_cons_succ]))
  refine sd_nil ?_
  intro w5 t5
  have q5 := nine_of t5.y
  have z5 := frozen9 t5.y
  simp only [enZero, stZero] at q5
  go_wp2_with fail
  exact bodyPost_ret (results_cell_row rfl _ _ (w.heap.size + 1) 82 _ (0, 0) _ rfl (fill9_blk t5.y _ _ _ _ _ _ _ _ _) Tryz.underlying82 rfl (by kernel_rfl)) rfl ⟨rfl, fill9_only (O.out.trans t5.ho) (.inr HGE.out) _ _ _ _ _ _ _ _ _⟩
end Go.Proofs.YtoohpcomnhfgpaaGreat
end
section
namespace Go.Proofs.YtoohpcomnhfgpaaGreat
open Go.RowKit
set_option maxRecDepth 100000
set_option linter.all false
def Ovr (l : List En) (k : ByteArray) (ov : En) : Prop := (∃ y ∈ l, y.k = k ∧ ov = y) ∨ ((∀ y ∈ l, y.k ≠ k) ∧ ov = enZero)
section
variable {l : List En} {k : ByteArray} {x ov pe : En} {log : List En} {s : Rs}
theorem Ovr.nil (k : ByteArray) : Ovr [] k enZero := .inr ⟨fun y hy => (by cases hy), rfl⟩
theorem Ovr.hit (h : x.k = k) : Ovr (l ++ [x]) k x := .inl ⟨x, by simp, h, rfl⟩
theorem Ovr.miss (h : Ovr l k ov) (hx : x.k ≠ k) : Ovr (l ++ [x]) k ov := by
  rcases h with ⟨y, hy, hk, e⟩ | ⟨h, e⟩
  · exact .inl ⟨y, List.mem_append_left _ hy, hk, e⟩
  · refine .inr ⟨fun y hy => ?_, e⟩
    rcases List.mem_append.1 hy with h1 | h1
    · exact h y h1
    · rw [List.mem_singleton.1 h1]; exact hx
theorem Ovr.over (h : Ovr s.gr pe.k ov) (wf : Wf log s) : (ov.d && stLater ov.s pe.s) = overE s.gr pe ∧ ∀ y, lookE s.gr pe.k = some y → ov = y := by
  rcases h with ⟨y, hy, hk, rfl⟩ | ⟨h, rfl⟩
  · have hl := look_mem wf.gris hy
    rw [hk] at hl
    refine ⟨?_, fun z hz => by rw [hl] at hz; injection hz⟩
    unfold overE
    rw [show (s.gr.find? fun e => decide (e.k = pe.k)) = some ov from hl, (wf.g ov hy).2.1, Bool.true_and]
  · have hl : lookE s.gr pe.k = none := by
      cases e : lookE s.gr pe.k with
      | none => rfl
      | some y => exact absurd (look_some e).2 (h y (look_some e).1)
    refine ⟨?_, fun z hz => by rw [hl] at hz; cases hz⟩
    unfold overE
    rw [show (s.gr.find? fun e => decide (e.k = pe.k)) = none from hl]
    rfl
inductive MgG (log : List En) (s : Rs) (x : En) : Prop
  | none (s' : Rs) (z : Int) (e : mgR s x = (s', 0, enZero, z)) (wf : Wf log s') (kn : ∀ keys, Kn keys log s → Kn keys log s') (gi : Gi s → Gi s')
  | woken (s' : Rs) (q : En) (e : mgR s x = (s', 2, q, 0)) (hov : overE s.gr x = true) (hk : q.k = x.k) (hd : q.d = true) (hg : q.g = 0) (hy : ∃ y, lookE s.gr x.k = some y ∧ q.s = y.s) (wf : Wf (log ++ [q]) s') (kn : ∀ keys, Kn keys log s → Kn (notedL keys x.k) (log ++ [q]) s') (gi : Gi s → Gi s')
  | taken (s' : Rs) (q : En) (e : mgR s x = (s', 1, q, 0)) (hov : overE s.gr x = false) (hk : q.k = x.k) (wf : Wf (log ++ [q]) s') (kn : ∀ keys, Kn keys log s → Kn (notedL keys x.k) (log ++ [q]) s') (gi : Gi s → Gi s')
theorem Wf.mgTwo (h : Wf log s) (hl : log.length ≤ 60) (x : En) : MgG log s x := by
  have hgi : Gi s → Gi (mgR s x).1 := fun g => g.mg h hl x
  cases h.mgw hl x with
  | bad z hz e hc => exact .none s z e h (fun _ k => k) (fun g => g)
  | old hc hn e wf =>
    rw [e] at hgi
    exact .none _ 0 e wf (fun _ k => k.mono (s' := { seeS s x with tab := youngM s.o s.tab x }) young_keys) hgi
  | not z hc e wf =>
    rw [e] at hgi
    exact .none _ z e wf (fun _ k => k.mono (s' := seeS s x) (fun e he => ⟨e, he, rfl⟩)) hgi
  | woken hc hn y q hy hov hcl e hq d =>
    rw [e] at hgi
    have ho : overE s.gr x = true := by
      unfold overE
      rw [show (s.gr.find? fun e => decide (e.k = x.k)) = some y from hy]
      exact hov
    exact .woken _ q e ho hq.1 hq.2.2.2.1 hq.2.2.2.2 ⟨y, hy, hq.2.1⟩ d.wf (fun keys k => k.dn d rfl noted_sub.1 (by rw [hq.1]; exact noted_sub.2.1)) hgi
  | taken hc hn hlt hov e d =>
    rw [e] at hgi
    exact .taken _ _ e hov rfl d.wf (fun keys k => k.dn d rfl noted_sub.1 noted_sub.2.1) hgi
theorem look_grave (h : Gi s) (hx : x ∈ s.gr) : hasE s.tab x.k = true → stLater x.s ((lookE s.tab x.k).getD enZero).s = false := by
  intro hh
  unfold hasE at hh
  obtain ⟨y, hy, hyk⟩ := List.any_eq_true.1 hh
  cases e : lookE s.tab x.k with
  | none =>
    have := List.find?_eq_none.1 (show (s.tab.find? fun e => decide (e.k = x.k)) = none from e) y hy
    exact absurd hyk this
  | some z =>
    rw [Option.getD_some]
    exact h x hx z (look_some e).1 (look_some e).2
end
end Go.Proofs.YtoohpcomnhfgpaaGreat
end
section
namespace Go.Proofs.YtoohpcomnhfgpaaGreat
open Go.Joins Go.ChangeShapes Go.WideShapes Go.RowKit Go.Deep
set_option maxRecDepth 100000
set_option linter.all false
theorem opts_arg {H : Type} {enc : TypeId × Value → H} {W : World} {cs : Array Value} {d : DataW H} {p : List MemPlace} (hs : cs.size = Tryz.prog.cellsOf 23) (h : DataW.Trod enc Tryz.prog W 0 (fun _ => true) true 23 (.agg cs) d p) :
    ∃ o : Ro, cs = #[.int .i64 o.n, .int .i64 o.q, .int .i64 o.r, .int .i64 o.t1, .int .i64 o.t2] := by
  have c5 : Tryz.prog.cellsOf 23 = 5 := by kernel_rfl
  have c1 : Tryz.prog.cellsOf 3 = 1 := by kernel_rfl
  rw [c5] at hs
  obtain ⟨fuel, hf⟩ := h
  obtain ⟨xs, n, _, _, _, hlen, hfx⟩ := DataW.trod_struct Tryz.underlying23 hf
  obtain ⟨l⟩ := cs
  match l, hs with
  | [e0, e1, e2, e3, e4], _ =>
    match xs, hlen with
    | [y0, y1, y2, y3, y4], _ =>
      have g0 := hfx 0 _ rfl
      have g1 := hfx 1 _ rfl
      have g2 := hfx 2 _ rfl
      have g3 := hfx 3 _ rfl
      have g4 := hfx 4 _ rfl
      simp [Value.cells, c1] at g0 g1 g2 g3 g4
      obtain ⟨n0, r0, _, _⟩ := DataW.trod_int Tryz.underlying3 g0
      obtain ⟨n1, r1, _, _⟩ := DataW.trod_int Tryz.underlying3 g1
      obtain ⟨n2, r2, _, _⟩ := DataW.trod_int Tryz.underlying3 g2
      obtain ⟨n3, r3, _, _⟩ := DataW.trod_int Tryz.underlying3 g3
      obtain ⟨n4, r4, _, _⟩ := DataW.trod_int Tryz.underlying3 g4
      simp only [List.cons.injEq, and_true] at r0 r1 r2 r3 r4
      subst r0 r1 r2 r3 r4
      exact ⟨⟨n0, n1, n2, n3, n4⟩, rfl⟩
end Go.Proofs.YtoohpcomnhfgpaaGreat
end
section
namespace Go.Proofs.YtoohpcomnhfgpaaGreat
open Go.Joins Go.ChangeShapes Go.WideShapes Go.RowKit Go.Deep
set_option maxRecDepth 100000
set_option linter.all false
theorem trod_struct4r {H : Type} {enc : TypeId × Value → H} {P : Program} {w : World} {base : Nat} {spare : Nat → Bool} {held : Bool} {t : TypeId} {f0 f1 f2 f3 : Field} {fuel : Nat} {cs : List Value} {x : DataW H × List MemPlace} (ht : P.underlying t = some (.struct #[f0, f1, f2, f3])) (h : DataW.trod enc P w base spare held fuel t cs = some x) :
    ∃ y0 y1 y2 y3 n, DataW.trod enc P w base spare held n f0.type ((cs.drop f0.offset).take (P.cellsOf f0.type)) = some y0 ∧ DataW.trod enc P w base spare held n f1.type ((cs.drop f1.offset).take (P.cellsOf f1.type)) = some y1 ∧ DataW.trod enc P w base spare held n f2.type ((cs.drop f2.offset).take (P.cellsOf f2.type)) = some y2 ∧ DataW.trod enc P w base spare held n f3.type ((cs.drop f3.offset).take (P.cellsOf f3.type)) = some y3 := by
  obtain ⟨xs, n, _, _, _, hlen, hf⟩ := DataW.trod_struct ht h
  match xs, hlen with
  | [y0, y1, y2, y3], _ => exact ⟨y0, y1, y2, y3, n, by simpa using hf 0 f0 rfl, by simpa using hf 1 f1 rfl, by simpa using hf 2 f2 rfl, by simpa using hf 3 f3 rfl⟩
theorem pa_cells {H : Type} {enc : TypeId × Value → H} {W : World} (n : Nat) (r : List Value) (y : DataW H × List MemPlace) (hr : r.length = 12) (h : DataW.trod enc Tryz.prog W 0 (fun _ => true) true n 52 r = some y) :
    ∃ x : Pa, r = paRow x ∧ True := by
  obtain ⟨y0, y1, y2, y3, n, g0, g1, g2, g3⟩ := trod_struct4r Tryz.underlying52 h
  match r, hr with
  | [c0, c1, c2, c3, c4, c5, c6, c7, c8, c9, c10, c11], _ =>
    have e1 : Tryz.prog.cellsOf 3 = 1 := by kernel_rfl
    have e2 : Tryz.prog.cellsOf 9 = 1 := by kernel_rfl
    have e9 : Tryz.prog.cellsOf 50 = 9 := by kernel_rfl
    simp only [e1, e2, e9, List.drop_zero, List.drop_succ_cons, List.take_succ_cons, List.take_zero] at g0 g1 g2 g3
    obtain ⟨k, q0, _, _⟩ := DataW.trod_int Tryz.underlying3 g0
    obtain ⟨s1, q1, _, _⟩ := DataW.trod_string Tryz.underlying9 g1
    obtain ⟨s2, q2, _, _⟩ := DataW.trod_string Tryz.underlying9 g2
    obtain ⟨a, q3, _⟩ := en_cells n _ _ rfl g3
    refine ⟨⟨k, s1, s2, a⟩, ?_, trivial⟩
    simp only [List.cons.injEq, and_true] at q0 q1 q2
    rw [paRow, ← q3, ← q0, ← q1, ← q2]
theorem pacts_arg {H : Type} {enc : TypeId × Value → H} {W : World} {a : Option Addr} {len cap : Nat} {d : DataW H} {p : List MemPlace} (h : DataW.Trod enc Tryz.prog W 0 (fun _ => true) true 24 (.slice a len cap) d p) :
    ∃ l : List Pa, len = l.length ∧ Cel W (fun b => b < W.heap.size) (.slice a len cap) len 12 (l.flatMap paRow) := by
  obtain ⟨l, h1, h2, _⟩ := cel_in paRow _ Tryz.underlying24 (by kernel_rfl) paRow_length (by omega) (fun n r y hr ht => pa_cells n r y hr ht) h
  exact ⟨l, h1, h2⟩
end Go.Proofs.YtoohpcomnhfgpaaGreat
end
