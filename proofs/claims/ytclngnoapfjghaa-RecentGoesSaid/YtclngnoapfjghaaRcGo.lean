/- The call of RecentGoes. The statement itself is proved in another text. -/
import Derived.Test.YtclngnoapfjghaaRcGm
import Derived.Test.YtclngnoapfjghaaFre
import Derived.Test.YtclngnoapfjghaaPce
namespace Go.Proofs.Ytclngnoapfjghaa
open Go.RowKit
set_option maxRecDepth 100000
set_option linter.all false

theorem mkI_one4 (m : Mk) : (#[.int .i64 m.a.c, .int .i64 m.a.s, .string m.k] : Array Value).all (·.oneCell') = true := by simp [Value.oneCell']
theorem mk_row {W w : World} {b off : Nat} {l : List Mk} (hc : ∀ j u, (l.flatMap mkI)[j]? = some u → W.cell? ⟨b, off + j, none⟩ = some u) (o : Only none_ W w) (hb : b < W.heap.size) {k : Nat} {a : Mk} (ha : l[k]? = some a) :
    ∀ j u, (mkI a)[j]? = some u → w.cell? ⟨b, off + k * 3 + j, none⟩ = some u := fun j u hu => by
  have hj : j < 3 := by have := (List.getElem?_eq_some_iff.1 hu).1; rwa [mkI_len] at this
  have h := flat_at mkI mkI_len l k a ha j hj
  rw [Nat.add_assoc]
  exact (o.cell (p := ⟨b, off + (k * 3 + j), none⟩) hb (fun h => h)).trans (hc _ _ (h.trans hu))

theorem own_at {w : World} {M n c b : Nat} {e : TypeId} {l : List Mk} (h : w.ownsRow M e 3 (.slice (some ⟨b, 0, none⟩) n c) n (l.flatMap mkI)) (hn : l.length = n) {i : Nat} {m : Mk} (hm : l[i]? = some m) :
    w.cell? ⟨b, i * 3, none⟩ = some (.int .i64 m.a.c) ∧ w.cell? ⟨b, i * 3 + 1, none⟩ = some (.int .i64 m.a.s) ∧ w.cell? ⟨b, i * 3 + 2, none⟩ = some (.string m.k) := by
  obtain ⟨b', e1, h1⟩ := own_cell h hn hm
  injection e1 with e1
  injection e1 with e1
  subst e1
  exact h1

set_option maxHeartbeats 25600000 in
theorem recent_goes (v : Value) (l : List Mk) (nn : Nat) (hnn : nn ≤ 255) (W : World) (hx : Cel W (fun b => b < W.heap.size) v l.length 3 (l.flatMap mkI)) (hl : l.length ≤ 40) :
    Calls Try.prog 5 #[v, .int .u8 nn] W fun e w' => e = .returned (.bool true) ∧ Below W.heap.size W w' := by
  obtain ⟨A, c, rfl, _, h2, h3, _, h4⟩ := hx
  obtain ⟨L, hL⟩ : ∃ L, L = l.length := ⟨_, rfl⟩
  rw [← hL] at h2 h4 hl ⊢
  have HX := Lib.hid h4
  have HL := Lib.hid hL
  have hq : decide ((40 : Int) < (L : Int)) = false := by simp; omega
  clear h4 hL
  obtain ⟨kk, hkk⟩ : ∃ kk : Nat, 1 + nn % 5 = kk := ⟨_, rfl⟩
  have hkw : IntKind.i64.wrap (1 + (nn : Int) % 5) = (kk : Int) := by rw [IntWalk.i64_in _ (by omega)]; omega
  have hkt : IntKind.i64.wrap (1 + (nn : Int).tmod 5) = (kk : Int) := by rw [Int.tmod_eq_emod_of_nonneg (by omega)]; exact hkw
  have hk1 : 1 ≤ kk ∧ kk ≤ 5 := by omega
  clear hkk
  go_enter Try.func5, Try.ntmps5
  go_wp2_with (first
    | (go_at_call 9; refine (r_speaks _).mono ?_; rintro e w1 ⟨rfl, o1⟩; have O1 := Lib.hid o1; clear o1)
    | (go_at_call 11; refine (rc_new _).mono ?_; rintro e w3 ⟨g, mb, rfl, r3, o3⟩
       have R3 : Hid (Rc W.heap.size g mb [] [] (.slice none 0 0) w3 ∧ Only none_ W w3) := ⟨r3.base O1.out.size, O1.out.trans o3⟩
       clear r3 o3))
  go_loopw [24] (fun i wr => ∃ (k : Nat) (q : List Mk) (v : Value), k ≤ L ∧ i = .int .i64 (k : Int) ∧ q.length ≤ k ∧ (∀ x ∈ q, 1 ≤ x.a.c) ∧ Rc W.heap.size g mb q q v wr ∧ Only none_ W wr) (fun i _ => L - (intOf i).toNat)
  case atStart => exact ⟨0, [], _, Nat.zero_le _, rfl, Nat.le_refl _, (fun x hx => by cases hx), R3.out.1, R3.out.2⟩
  case round =>
    obtain ⟨k, q, v, hk, rfl, hqk, hpos, hrc, ho⟩ := hrel
    have HQ := Lib.hid hqk
    have HPOS := Lib.hid hpos
    have HRC := Lib.hid hrc
    have HO := Lib.hid ho
    clear R3 hqk hpos hrc ho
    by_cases hlt : k < L
    · obtain ⟨b, off, rfl, hb, _, hc⟩ := HX.out (by omega)
      obtain ⟨a, ha⟩ : ∃ a, l[k]? = some a := ⟨l[k]'(by have := HL.out; omega), List.getElem?_eq_getElem _⟩
      have HC := Lib.hid (mk_row hc HO.out hb ha)
      have RA : Hid (Rc W.heap.size g mb q q v (wr.alloc (.cells #[.int .i64 a.a.c, .int .i64 a.a.s, .string a.k] 31))) := HRC.out.keep ((Only.refl none_ wr).alloc _)
      have OA : Hid (Only none_ W (wr.alloc (.cells #[.int .i64 a.a.c, .int .i64 a.a.s, .string a.k] 31))) := HO.out.alloc _
      have BA : Hid (Blk (wr.alloc (.cells #[.int .i64 a.a.c, .int .i64 a.a.s, .string a.k] 31)) wr.heap.size 31 #[.int .i64 a.a.c, .int .i64 a.a.s, .string a.k]) := Blk.new wr _ _
      have x0 := BA.out.cell_ (i := 0) rfl
      have x1 := BA.out.cell_ (i := 1) rfl
      have x2 := BA.out.cell_ (i := 2) rfl
      clear ha hc
      by_cases hc1 : a.a.c < 1
      · go_wp2_with (first
          | (refine wpl_piece rfl 31 _ rfl b (off + k * 3) rfl #[.int .i64 a.a.c, .int .i64 a.a.s, .string a.k] _ HC.out Try.underlying31 rfl (by kernel_rfl) ?_)
          | (refine wpl_new rfl rfl 31 rfl _ _ rfl #[.int .i64 a.a.c, .int .i64 a.a.s, .string a.k] rfl rfl (by kernel_rfl) (mkI_one4 a) ?_))
        go_ret
        exact ⟨rfl, OA.out.below (Nat.le_refl _) (fun k hk => hk.elim)⟩
      by_cases hk40 : 40 < a.k.size
      · go_wp2_with (first
          | (refine wpl_piece rfl 31 _ rfl b (off + k * 3) rfl #[.int .i64 a.a.c, .int .i64 a.a.s, .string a.k] _ HC.out Try.underlying31 rfl (by kernel_rfl) ?_)
          | (refine wpl_new rfl rfl 31 rfl _ _ rfl #[.int .i64 a.a.c, .int .i64 a.a.s, .string a.k] rfl rfl (by kernel_rfl) (mkI_one4 a) ?_))
        go_ret
        exact ⟨rfl, OA.out.below (Nat.le_refl _) (fun k hk => hk.elim)⟩
      have HK1 : Hid (a.k.size ≤ maxLen ∧ 1 ≤ a.a.c) := by simp only [Hid, maxLen]; omega
      have HQ1 : Hid (q.length + 1 ≤ 100) := by have := HQ.out; rw [Hid]; omega
      go_wp2_with (first
        | (refine wpl_piece rfl 31 _ rfl b (off + k * 3) rfl #[.int .i64 a.a.c, .int .i64 a.a.s, .string a.k] _ HC.out Try.underlying31 rfl (by kernel_rfl) ?_)
        | (refine wpl_new rfl rfl 31 rfl _ _ rfl #[.int .i64 a.a.c, .int .i64 a.a.s, .string a.k] rfl rfl (by kernel_rfl) (mkI_one4 a) ?_)
        | (go_at_call 15; refine (mk_of a _).mono ?_; rintro e w7 ⟨rfl, o7⟩; have R7 := Lib.hid (RA.out.keep o7); have O7 := Lib.hid (OA.out.trans o7); clear o7)
        | (go_at_call 14; refine (rc_put _ _ _ _ _ a _ R7.out HK1.out.1 HQ1.out).mono ?_; rintro e w8 ⟨rfl, r8⟩
           have R8 : Hid (∃ v', Rc W.heap.size g mb (putM q a) (putM q a) v' w8 ∧ Only none_ W w8) := by
             obtain ⟨v', r', o', _⟩ := r8
             exact ⟨v', r', O7.out.trans' o' (fun k hk hf => by have := (R7.out.foot hf).1; omega)⟩
           clear r8))
      go_roundw
      case rel =>
        obtain ⟨v', r', o'⟩ := R8.out
        exact ⟨k + 1, putM q a, v', by omega, by go_num, by have := mput_len q a; have := HQ.out; omega, put_pos HPOS.out HK1.out.2, r', o'⟩
      case measure => simp [intOf]; omega
    · obtain rfl : k = L := by omega
      clear hlt HX hq
      have HQ40 : Hid (q.length ≤ 40) := by have := HQ.out; rw [Hid]; omega
      have HIX := Lib.hid HRC.out.ix
      go_wp2_with (first
        | (refine wpl_new rfl rfl 39 rfl _ _ rfl #[.int .i64 0, .int .i64 0, .string ⟨#[]⟩] rfl rfl (by kernel_rfl) (mkI_one4 mkTop) ?_
           have G0 : Hid (Gs W g mb wr.heap.size v q 0 (.slice (some ⟨wr.heap.size + 1, 0, none⟩) 0 0) ((wr.alloc (.cells #[.int .i64 0, .int .i64 0, .string ⟨#[]⟩] 39)).alloc (.cells #[] 31))) := by
             have o1 : Only none_ wr (wr.alloc (.cells #[.int .i64 0, .int .i64 0, .string ⟨#[]⟩] 39)) := (Only.refl none_ wr).alloc _
             have o2 : Only none_ wr ((wr.alloc (.cells #[.int .i64 0, .int .i64 0, .string ⟨#[]⟩] 39)).alloc (.cells #[] 31)) := o1.alloc _
             have own := own_made (wr.alloc (.cells #[.int .i64 0, .int .i64 0, .string ⟨#[]⟩] 39)) (wr.alloc (.cells #[.int .i64 0, .int .i64 0, .string ⟨#[]⟩] 39)).heap.size 31 3 0 #[] (by simp) (by simp [maxLen]) (Nat.le_refl _)
             rw [World.size_alloc] at own
             exact ⟨HRC.out.keep o2, owns_base own (by have := HO.out.size; omega), (Blk.new wr 39 #[.int .i64 mkTop.a.c, .int .i64 mkTop.a.s, .string mkTop.k]).alloc _, fun hf => by have := (HRC.out.foot hf).2; omega, HO.out.size, HO.out.trans o2⟩))
      generalize (wr.alloc _).alloc _ = w9 at *
      generalize hg9 : wr.heap.size = g9 at *
      go_loopw [10, 49] (fun x i wr => ∃ (t r : Nat) (A : Option Addr) (c : Nat), r ≤ t ∧ t ≤ q.length ∧ i = .int .i64 (r : Int) ∧ x = .slice A t c ∧ Gs W g mb g9 v q t (.slice A t c) wr) (fun _ i _ => 100 - (intOf i).toNat)
      case atStart => exact ⟨0, 0, _, 0, Nat.le_refl _, Nat.zero_le _, rfl, rfl, G0.out⟩
      case round =>
        obtain ⟨t, r, A4, c4, hrt, htq, rfl, rfl, gs⟩ := hrel
        have GS := Lib.hid gs
        have ht40 : t ≤ 40 := by have := HQ40.out; omega
        have hr50 : (r : Int) < 50 := by omega
        obtain ⟨p, hp⟩ : ∃ p, goAt q t = p := ⟨_, rfl⟩
        have xb := gs.x
        rw [hp] at xb
        have x0 := xb.cell_ (i := 0) rfl
        have x1 := xb.cell_ (i := 1) rfl
        have x2 := xb.cell_ (i := 2) rfl
        have XB := Lib.hid xb
        have HPP := Lib.hid hp
        have HTQ := Lib.hid htq
        have HRT := Lib.hid hrt
        obtain ⟨i0, hi0, hz0, hz1, hz2⟩ := rinfo_parts rmark_info
        clear G0 gs xb hp hrt
        by_cases htl : t < q.length
        · obtain ⟨part, hpart⟩ : ∃ part, (q.drop t).take kk = part := ⟨_, rfl⟩
          have hpl : part.length = min kk (q.length - t) := by rw [← hpart, List.length_take, List.length_drop]
          obtain ⟨j, hj⟩ : ∃ j, part.length = j + 1 := ⟨part.length - 1, by omega⟩
          have hjk : j + 1 ≤ kk := by omega
          have hjk2 : ¬ ((kk : Int) < (j : Int) + 1) := by omega
          have hjt : t + (j + 1) ≤ q.length := by omega
          have HJ : Hid (q.take t ++ part = q.take (t + (j + 1))) := by
            rw [Hid, List.take_add, ← hpart]
            congr 1
            have e1 : (q.drop t).take kk = (q.drop t).take (j + 1) := by
              rw [hpl] at hj
              rw [← hj, List.take_eq_take_min, List.length_drop]
            exact e1
          obtain ⟨p2, hp2⟩ : ∃ p2, part[j]? = some p2 := ⟨part[j]'(by omega), List.getElem?_eq_getElem _⟩
          have HG2 : Hid (goAt q (t + (j + 1)) = p2) := by
            have h1 : q[t + j]? = some p2 := by
              rw [← hpart, List.getElem?_take, if_pos (by omega), List.getElem?_drop] at hp2
              exact hp2
            obtain ⟨h2, h3⟩ := List.getElem?_eq_some_iff.1 h1
            rw [Hid, show t + (j + 1) = (t + j) + 1 by omega, goAt_succ q _ h2]
            exact h3
          have HBL := Lib.hid (sl_below (k := (kk : Int)) (m := p) GS.out.rc (Only.refl none_ wr) (by rw [← HPP.out, go_part HIX.out HPOS.out t HTQ.out kk, hpart]) hj)
          have HPJ := Lib.hid hj
          have HP2 := Lib.hid hp2
          have HNL : Hid (t + (j + 1) ≤ maxLen ∧ (t + (j + 1)) * 32 ≤ 140737488355328) := by have := HQ40.out; simp only [Hid, maxLen]; omega
          have hj5 : j ≤ 5 := by omega
          clear hpart hpl hj hp2 htq
          go_wp2_with (first
            | (go_at_call 25; refine (HBL.out).mono ?_; rintro e w5 ⟨v5, rfl, ⟨A5, c5, rfl, own5⟩, o5⟩
               obtain ⟨b5, rfl, _⟩ := own_cell own5 HPJ.out HP2.out
               have G5 := Lib.hid (GS.out.keep o5)
               have W5 := Lib.hid own5
               clear own5 o5 x0 x1 x2)
            | (go_at_call 22; refine (sl_tos W5.out (Only.refl none_ _) HPJ.out (by omega)).mono ?_; rintro e w6 ⟨v6, rfl, ⟨A6, c6, rfl, own6⟩, o6⟩
               have G6 := Lib.hid (G5.out.keep o6)
               have W6 := Lib.hid (owns_only W5.out o6 (fun _ _ h => h))
               have T6 := Lib.hid own6
               clear own6 o6)
            | (at_builtin; refine wpList_append_cel _ rfl (.tmp 62) (.tmp 64) 27 rfl W.heap.size 31 i0 _ 3 32 Try.underlying27 hi0 hz0 hz1 hz2 rfl (by omega) (.slice A4 t c4) t _ rfl G6.out.rf _ _ (j + 1) _ rfl (Cel.of_own T6.out) (mkI_one part) HNL.out.1 HNL.out.2 G6.out.ho.size ?_
               intro A7 n7 c7 w7 hown7 hgrow7 hmv7
               have hn7 : n7 = t + (j + 1) := own_num hown7
               have HN7 := Lib.hid hn7
               have G7 : Hid (Gt W g mb g9 v q t n7 (.slice A7 n7 c7) w7) := G6.out.app (by rw [hn7, ← HJ.out, List.flatMap_append]; rw [hn7] at hown7; exact hown7) hgrow7
               obtain ⟨y0, y1, y2⟩ := own_at (G6.out.app_row W6.out hgrow7) HPJ.out HP2.out
               clear hown7 hgrow7 hmv7 hn7)
            | (refine wpList_store_row rfl 39 _ _ rfl g9 #[.int .i64 p2.a.c, .int .i64 p2.a.s, .string p2.k] rfl rfl 39 #[.int .i64 (goAt q t).a.c, .int .i64 (goAt q t).a.s, .string (goAt q t).k] G7.out.x (by kernel_rfl) rfl (mkI_one4 p2) ?_
               have G8 : Hid (Gs W g mb g9 v q n7 (.slice A7 n7 c7) (w7.setRow g9 #[.int .i64 p2.a.c, .int .i64 p2.a.s, .string p2.k])) := G7.out.set (by rw [HN7.out, HG2.out])))
          go_roundw
          case rel => exact ⟨n7, r + 1, A7, c7, by have := HRT.out; have := HN7.out; omega, by have := HN7.out; omega, by go_num, rfl, G8.out⟩
          case measure => simp [intOf]; omega
        · obtain rfl : t = q.length := by omega
          obtain ⟨t, ht⟩ : ∃ t, q.length = t := ⟨_, rfl⟩
          rw [ht] at GS HPP ht40 HTQ HRT
          have HLT := Lib.hid ht
          have HBL := Lib.hid (sl_below (k := (kk : Int)) (m := p) (n := 0) (l := []) GS.out.rc (Only.refl none_ wr) (by rw [← HPP.out, go_part HIX.out HPOS.out t (by rw [ht]; exact Nat.le_refl _) kk, ← ht, List.drop_length, List.take_nil]) rfl)
          rw [ht]
          clear ht htl htq
          go_wp2_with (first
            | (go_at_call 25; refine (HBL.out).mono ?_; rintro e w5 ⟨v5, rfl, ⟨A5, c5, rfl, own5⟩, o5⟩
               have G5 := Lib.hid (GS.out.keep o5)
               clear own5 o5 x0 x1 x2))
          go_loopw [12] (fun x wr => ∃ i : Nat, 1 ≤ i ∧ (i ≤ t ∨ i = 1) ∧ x = .int .i64 (i : Int) ∧ Gs W g mb g9 v q t (.slice A4 t c4) wr) (fun x _ => 100 - (intOf x).toNat)
          case atStart => exact ⟨1, Nat.le_refl _, .inr rfl, rfl, G5.out⟩
          case round =>
            obtain ⟨i, h1i, hit, rfl, gs⟩ := hrel
            have G6 := Lib.hid gs
            have hi41 : i ≤ 41 := by omega
            clear gs G5 HBL XB
            by_cases hlt : i < t
            · obtain ⟨j, hj⟩ : ∃ j, i = j + 1 := ⟨i - 1, by omega⟩
              obtain ⟨p1, hp1⟩ : ∃ p1, q[j]? = some p1 := ⟨q[j]'(by have := HLT.out; omega), List.getElem?_eq_getElem _⟩
              obtain ⟨p2, hp2⟩ : ∃ p2, q[i]? = some p2 := ⟨q[i]'(by have := HLT.out; omega), List.getElem?_eq_getElem _⟩
              have hlat : mkLater p1 p2 = true := by
                obtain ⟨u1, e1⟩ := List.getElem?_eq_some_iff.1 hp1
                obtain ⟨u2, e2⟩ := List.getElem?_eq_some_iff.1 hp2
                have := List.pairwise_iff_getElem.1 HIX.out.ds j i u1 u2 (by omega)
                rwa [e1, e2] at this
              have hfull : q.take t = q := List.take_of_length_le (by have := HLT.out; omega)
              have hrow := G6.out.rf
              rw [hfull] at hrow
              obtain ⟨b4, rfl, _⟩ := own_cell hrow HLT.out hp1
              have HCA := Lib.hid (fun w (o : Only none_ wr w) => own_at (owns_only hrow o (fun _ _ h => h)) HLT.out hp1)
              have HCB := Lib.hid (fun w (o : Only none_ wr w) => own_at (owns_only hrow o (fun _ _ h => h)) HLT.out hp2)
              have HLA := rm_later p1 p2
              rw [hlat] at HLA
              have HLAT := Lib.hid HLA
              have hj1 : (j : Int) < (t : Int) := by omega
              have hj2 : (i : Int) < (t : Int) := by omega
              have hjw : IntKind.i64.wrap ((i : Int) - 1) = (j : Int) := by rw [IntWalk.i64_in _ (by omega)]; omega
              clear hp1 hp2 hlat hfull hrow HLA h1i hit hj hlt
              go_wp2_with fail
              (refine wp_region_free (fun w' => Only none_ wr w') (Only none_) (F := ?_) (by kernel_rfl) 102 (by rfl) (by kernel_rfl) (fun x => ?_) ((Only.refl none_ wr).drew) ?_; rotate_left; (· (simp only [putsL, Act.put, List.setIfInBounds_toArray, List.set_cons_zero, List.set_cons_succ, Nat.reduceAdd]; exact rfl)))
              repeat (first
                | ((first | refine fr_value (c := ?_) (by rfl) (fun w => Only.refl none_ w) (fun x w0 hS hk => ?_) ?_ | refine fr_value_if (c := ?_) (by rfl) (by rfl) (by rfl) (fun w => Only.refl none_ w) (fun x w0 hS hk => ?_) ?_); rotate_left; (· (have hk2 := hk; (try simp [knAll, Region.binds] at hk2); obtain ⟨s0, s1, s2⟩ := HCA.out _ hS; obtain ⟨s3, s4, s5⟩ := HCB.out _ hS; go_simp; try (with_reducible rfl))); try simp only [List.nil_append, List.cons_append])
                | ((first | refine fr_some (fun v _ => v = .bool true) (fun _ _ _ _ _ _ h => h) (by rfl) (fun x w0 hS hk => ?_) ?_ | refine fr_some_if (fun v _ => v = .bool true) (fun _ _ _ _ _ _ h => h) (by rfl) (by rfl) (by rfl) (fun x w0 hS hk => ?_) ?_); (· (have hk2 := hk; (try simp [knAll, Region.binds] at hk2); skip; refine got_call (f := 27) (args := ?_) (by go_simp; try (with_reducible rfl)) ?_; refine (HLAT.out _).mono ?_; rintro e w8 ⟨rfl, o8⟩; exact ⟨_, rfl, rfl, hS.trans o8, o8⟩)); try simp only [List.nil_append, List.cons_append]))
              (refine fr_end ?_; intro x w9 hS hk)
              have e10 := kn_end_at 10 hk (by rfl)
              rw [Nat.zero_add] at e10
              clear hk
              rw [e10]
              go_wp2_with fail
              go_roundw
              case rel => exact ⟨i + 1, by omega, by omega, by go_num, G6.out.keep hS⟩
              case measure => simp [intOf]; omega
            · have hlt2 : ¬ ((i : Int) < (t : Int)) := by omega
              have hfull : q.take t = q := List.take_of_length_le (by have := HLT.out; omega)
              have HFU := Lib.hid hfull
              have HLE := Lib.hid (rc_len _ _ _ _ _ _ wr G6.out.rc)
              rw [HLT.out] at HLE
              have HNW := Lib.hid (sl_newest (l := q) (n := t) G6.out.rc 100 (Only.refl none_ wr) (by rw [bel_top top_isTop]; exact List.take_of_length_le (by have := HLT.out; have := HQ40.out; omega)) HLT.out)
              clear hfull hlt h1i hit
              go_wp2_with (first
                | (go_at_call 20; refine (HLE.out).mono ?_; rintro e w7 ⟨rfl, rfl⟩)
                | (go_at_call 23; refine (HNW.out).mono ?_; rintro e w8 ⟨v8, rfl, ⟨A8, c8, rfl, own8⟩, o8⟩
                   have G8 := Lib.hid (G6.out.keep o8)
                   have W8 := Lib.hid own8
                   clear own8 o8)
                | (go_at_call 22; refine (sl_tos W8.out (Only.refl none_ _) HLT.out (by omega)).mono ?_; rintro e w10 ⟨v10, rfl, ⟨A10, c10, rfl, own10⟩, o10⟩
                   have G10 := Lib.hid (G8.out.keep o10)
                   have W10 := Lib.hid own10
                   clear own10 o10)
                | (go_at_call 21; refine (sl_same (l := q) (by have := G10.out.rf; rw [HFU.out] at this; exact this) W10.out HLT.out (by omega)).mono ?_; rintro e w11 ⟨rfl, o11⟩
                   have G11 := Lib.hid (G10.out.keep o11)
                   clear o11))
              go_ret
              exact ⟨rfl, G11.out.ho.below (Nat.le_refl _) (fun k hk => hk.elim)⟩

set_option maxHeartbeats 3200000 in
theorem recent_goes_far (A : Option Addr) (L c : Nat) (nn : Int) (W : World) (h : 40 < L) :
    Calls Try.prog 5 #[.slice A L c, .int .u8 nn] W fun e w' => e = .returned (.bool true) ∧ Below W.heap.size W w' := by
  have hq : decide ((40 : Int) < (L : Int)) = true := by simp; omega
  have tok : True := trivial
  go_enter Try.func5, Try.ntmps5
  go_wp2_with (first
    | (go_at_call 9; have _t := tok; clear tok; refine (r_speaks _).mono ?_; rintro e w1 ⟨rfl, o1⟩; have O1 := Lib.hid o1; clear o1)
    | (go_at_call 9; refine (r_speaks _).mono ?_; rintro e w3 ⟨rfl, o3⟩; have O3 := Lib.hid (O1.out.trans o3); clear o3))
  go_ret
  exact ⟨rfl, O3.out.below (Nat.le_refl _) (fun k hk => hk.elim)⟩
theorem recent_goes_any (v : Value) (l : List Mk) (nn : Nat) (hnn : nn ≤ 255) (W : World) (hx : Cel W (fun b => b < W.heap.size) v l.length 3 (l.flatMap mkI)) :
    Calls Try.prog 5 #[v, .int .u8 nn] W fun e w' => e = .returned (.bool true) ∧ Below W.heap.size W w' := by
  rcases Nat.lt_or_ge 40 l.length with h | h
  · obtain ⟨A, c, rfl, _⟩ := hx
    exact recent_goes_far A _ c nn W h
  · exact recent_goes v l nn hnn W hx h
end Go.Proofs.Ytclngnoapfjghaa
