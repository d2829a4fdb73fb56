/- The call of RecentLast. The statement itself is proved in another text. -/
import Derived.Test.YtclngnoapfjghaaRcLm
import Derived.Test.YtclngnoapfjghaaFrt
import Derived.Test.YtclngnoapfjghaaPce
namespace Go.Proofs.Ytclngnoapfjghaa
open Go.RowKit
set_option maxRecDepth 100000
set_option linter.all false

theorem mkI_one5 (m : Mk) : (#[.int .i64 m.a.c, .int .i64 m.a.s, .string m.k] : Array Value).all (·.oneCell') = true := by simp [Value.oneCell']
theorem mk_row5 {W w : World} {b off : Nat} {l : List Mk} (hc : ∀ j u, (l.flatMap mkI)[j]? = some u → W.cell? ⟨b, off + j, none⟩ = some u) (o : Only none_ W w) (hb : b < W.heap.size) {k : Nat} {a : Mk} (ha : l[k]? = some a) :
    ∀ j u, (mkI a)[j]? = some u → w.cell? ⟨b, off + k * 3 + j, none⟩ = some u := fun j u hu => by
  have hj : j < 3 := by have := (List.getElem?_eq_some_iff.1 hu).1; rwa [mkI_len] at this
  have h := flat_at mkI mkI_len l k a ha j hj
  rw [Nat.add_assoc]
  exact (o.cell (p := ⟨b, off + (k * 3 + j), none⟩) hb (fun h => h)).trans (hc _ _ (h.trans hu))

theorem own_at5 {w : World} {M n c b : Nat} {e : TypeId} {l : List Mk} (h : w.ownsRow M e 3 (.slice (some ⟨b, 0, none⟩) n c) n (l.flatMap mkI)) (hn : l.length = n) {i : Nat} {m : Mk} (hm : l[i]? = some m) :
    w.cell? ⟨b, i * 3, none⟩ = some (.int .i64 m.a.c) ∧ w.cell? ⟨b, i * 3 + 1, none⟩ = some (.int .i64 m.a.s) ∧ w.cell? ⟨b, i * 3 + 2, none⟩ = some (.string m.k) := by
  obtain ⟨b', e1, h1⟩ := own_cell h hn hm
  injection e1 with e1
  injection e1 with e1
  subst e1
  exact h1

set_option maxHeartbeats 25600000 in
theorem recent_last (v : Value) (l : List Mk) (W : World) (hx : Cel W (fun b => b < W.heap.size) v l.length 3 (l.flatMap mkI)) (hl : l.length ≤ 40) :
    Calls Try.prog 6 #[v] W fun e w' => e = .returned (.bool true) ∧ Below W.heap.size W w' := by
  obtain ⟨A, c, rfl, _, h2, h3, _, h4⟩ := hx
  obtain ⟨L, hL⟩ : ∃ L, L = l.length := ⟨_, rfl⟩
  rw [← hL] at h2 h4 hl ⊢
  have HX := Lib.hid h4
  have HL := Lib.hid hL
  have hq : decide ((40 : Int) < (L : Int)) = false := by simp; omega
  obtain ⟨i0, hi0, hz0, hz1, hz2⟩ := rinfo_parts rmark_info
  clear h4 hL
  have tok1 : True := trivial
  go_enter Try.func6, Try.ntmps6
  go_wp2_with (first
    | (go_at_call 9; refine (r_speaks _).mono ?_; rintro e w1 ⟨rfl, o1⟩; have O1 := Lib.hid o1; clear o1)
    | (go_at_call 11; have _t := tok1; clear tok1; refine (rc_new _).mono ?_; rintro e w3 ⟨g, mb, rfl, r3, o3⟩
       have R3 : Hid (Rc W.heap.size g mb [] [] (.slice none 0 0) w3 ∧ Only none_ W w3) := ⟨r3.base O1.out.size, O1.out.trans o3⟩
       clear r3 o3)
    | (go_at_call 11; refine (rc_new _).mono ?_; rintro e w4 ⟨g', mb', rfl, r4, o4⟩
       have G4 : Hid (Gz W g mb (.slice none 0 0) [] g' mb' (.slice none 0 0) [] (.slice (some ⟨w4.heap.size, 0, none⟩) 0 0) [] (w4.alloc (.cells #[] 31))) := by
         have o5 : Only none_ w4 (w4.alloc (.cells #[] 31)) := (Only.refl none_ w4).alloc _
         have own := own_made w4 w4.heap.size 31 3 0 #[] (by simp) (by simp [maxLen]) (Nat.le_refl _)
         exact ⟨(R3.out.1.keep o4).keep o5, (r4.base R3.out.2.size).keep o5, fun k h1 h2 => by have := (R3.out.1.foot h1).2; have := (r4.foot h2).1; omega, owns_base own (R3.out.2.trans o4).size, (R3.out.2.trans o4).trans o5⟩
       clear r4 o4))
  clear R3
  generalize w4.alloc (.cells #[] 31) = w5 at *
  go_loopw [5, 32] (fun x i wr => ∃ (k : Nat) (q : List Mk) (v : Value) (A : Option Addr) (n c : Nat) (ll : List Mk), k ≤ L ∧ i = .int .i64 (k : Int) ∧ x = .slice A n c ∧ ll.length = n ∧ n ≤ k ∧ q.Perm ll ∧ Gz W g mb v q g' mb' (.slice none 0 0) [] (.slice A n c) ll wr) (fun _ i _ => L - (intOf i).toNat)
  case atStart => exact ⟨0, [], _, _, 0, 0, [], Nat.zero_le _, rfl, rfl, rfl, Nat.le_refl _, List.Perm.refl _, G4.out⟩
  case round =>
    obtain ⟨k, q, v, A4, n4, c4, ll, hk, rfl, rfl, hn, hnk, hpm, gz⟩ := hrel
    have HN := Lib.hid hn
    have HNK := Lib.hid hnk
    have HPM := Lib.hid hpm
    have GZ := Lib.hid gz
    clear G4 hn hnk hpm gz
    by_cases hlt : k < L
    · obtain ⟨b, off, rfl, hb, _, hc⟩ := HX.out (by omega)
      obtain ⟨a, ha⟩ : ∃ a, l[k]? = some a := ⟨l[k]'(by have := HL.out; omega), List.getElem?_eq_getElem _⟩
      have HC := Lib.hid (mk_row5 hc GZ.out.ho hb ha)
      have GA : Hid (Gz W g mb v q g' mb' (.slice none 0 0) [] (.slice A4 n4 c4) ll (wr.alloc (.cells #[.int .i64 a.a.c, .int .i64 a.a.s, .string a.k] 31))) := GZ.out.keep ((Only.refl none_ wr).alloc _)
      have BA : Hid (Blk (wr.alloc (.cells #[.int .i64 a.a.c, .int .i64 a.a.s, .string a.k] 31)) wr.heap.size 31 #[.int .i64 a.a.c, .int .i64 a.a.s, .string a.k]) := Blk.new wr _ _
      have x0 := BA.out.cell_ (i := 0) rfl
      have x1 := BA.out.cell_ (i := 1) rfl
      have x2 := BA.out.cell_ (i := 2) rfl
      clear ha hc
      by_cases hk40 : 40 < a.k.size
      · go_wp2_with (first
          | (refine wpl_piece rfl 31 _ rfl b (off + k * 3) rfl #[.int .i64 a.a.c, .int .i64 a.a.s, .string a.k] _ HC.out Try.underlying31 rfl (by kernel_rfl) ?_)
          | (refine wpl_new rfl rfl 31 rfl _ _ rfl #[.int .i64 a.a.c, .int .i64 a.a.s, .string a.k] rfl rfl (by kernel_rfl) (mkI_one5 a) ?_))
        go_ret
        exact ⟨rfl, GA.out.ho.below (Nat.le_refl _) (fun k hk => hk.elim)⟩
      have HK1 : Hid (a.k.size ≤ maxLen) := by simp only [Hid, maxLen]; omega
      have HQ1 : Hid (q.length + 1 ≤ 100) := by have := HNK.out; have := HN.out; have := HPM.out.length_eq; rw [Hid]; omega
      obtain ⟨D, hD⟩ : ∃ D, dropM ll a.k = D := ⟨_, rfl⟩
      obtain ⟨dn, hdn⟩ : ∃ dn, D.length = dn := ⟨_, rfl⟩
      have HDN : Hid (D.length = dn ∧ dn ≤ n4 ∧ (D ++ [a]).length = dn + 1 ∧ (D ++ [a]).flatMap mkI = D.flatMap mkI ++ [.int .i64 a.a.c, .int .i64 a.a.s, .string a.k]) := ⟨hdn, by have h1 := mdrop_len ll a.k; have h2 := HN.out; rw [hD] at h1; omega, by simp [hdn], by simp [mkI]⟩
      have HMX : Hid (dn + 1 ≤ maxLen ∧ (dn + 1) * 32 ≤ 140737488355328 ∧ n4 ≤ 1000) := by have := HDN.out.2.1; have := HNK.out; simp only [Hid, maxLen]; omega
      have HDD := Lib.hid hD
      clear hD hdn
      go_wp2_with (first
        | (refine wpl_piece rfl 31 _ rfl b (off + k * 3) rfl #[.int .i64 a.a.c, .int .i64 a.a.s, .string a.k] _ HC.out Try.underlying31 rfl (by kernel_rfl) ?_)
        | (refine wpl_new rfl rfl 31 rfl _ _ rfl #[.int .i64 a.a.c, .int .i64 a.a.s, .string a.k] rfl rfl (by kernel_rfl) (mkI_one5 a) ?_)
        | (go_at_call 15; refine (mk_of a _).mono ?_; rintro e w7 ⟨rfl, o7⟩; have G7 := Lib.hid (GA.out.keep o7); have B7 : Hid (Blk w7 wr.heap.size 31 #[.int .i64 a.a.c, .int .i64 a.a.s, .string a.k]) := BA.out.only o7 (fun h => h); clear o7 x0 x1 x2)
        | (go_at_call 14; refine (rc_put _ _ _ _ _ a _ G7.out.x HK1.out HQ1.out).mono ?_; rintro e w8 ⟨rfl, r8⟩
           obtain ⟨v8, g8⟩ := G7.out.left r8
           have G8 := Lib.hid g8
           have B8 : Hid (Blk w8 wr.heap.size 31 #[.int .i64 a.a.c, .int .i64 a.a.s, .string a.k]) := by
             obtain ⟨_, _, o, _⟩ := r8
             exact B7.out.only o (G7.out.x.ne_blk B7.out (by decide) (by decide))
           clear r8 g8))
      have HDR := Lib.hid (fun w (o : Only none_ w8 w) => sl_rdrop (Cel.of_own (G8.out.row HN.out)) HN.out.symm HMX.out.2.2 a.k o HDD.out HDN.out.1)
      generalize wr.heap.size = h1 at *
      clear HC HX
      (refine wp_region_free_tail (fun w' => Only none_ w8 w') (Only none_) (F := ?_) (by kernel_rfl) 6 126 (by rfl) (by kernel_rfl) (fun x => ?_) ((Only.refl none_ w8).drew) ?_; rotate_left; (· (simp only [List.take_succ_cons, List.take_zero, putsL, Act.put, List.setIfInBounds_toArray, List.set_cons_zero, List.set_cons_succ, Nat.reduceAdd]; exact rfl)); simp only [List.take_succ_cons, List.take_zero, List.drop_succ_cons, List.drop_zero])
      repeat (first
        | ((first | refine fr_value (c := ?_) (by rfl) (fun w => Only.refl none_ w) (fun x w0 hS hk => ?_) ?_ | refine fr_value_if (c := ?_) (by rfl) (by rfl) (by rfl) (fun w => Only.refl none_ w) (fun x w0 hS hk => ?_) ?_); rotate_left; (· (have hk2 := hk; (try simp [knAll, Region.binds] at hk2); have t0 := (B8.out.only hS (fun h => h)).cell_ (i := 0) rfl; have t1 := (B8.out.only hS (fun h => h)).cell_ (i := 1) rfl; have t2 := (B8.out.only hS (fun h => h)).cell_ (i := 2) rfl; go_simp; try (with_reducible rfl))); try simp only [List.nil_append, List.cons_append])
        | ((first | refine fr_some (Sli w8.heap.size 31 dn D) (fun _ _ _ _ _ r h => h.keep r) (by rfl) (fun x w0 hS hk => ?_) ?_ | refine fr_some_if (Sli w8.heap.size 31 dn D) (fun _ _ _ _ _ r h => h.keep r) (by rfl) (by rfl) (by rfl) (fun x w0 hS hk => ?_) ?_); (· (have hk2 := hk; (try simp [knAll, Region.binds] at hk2); skip; refine got_call (f := 16) (args := ?_) (by go_simp; try (with_reducible rfl)) ?_; refine (HDR.out _ hS).mono ?_; rintro e w9 ⟨v9, rfl, s9, o9⟩; exact ⟨v9, rfl, s9, hS.trans o9, o9⟩)); try simp only [List.nil_append, List.cons_append]))
      ((first | refine fr_some (fun v w => ∃ b, v = .slice (some ⟨b, 0, none⟩) 1 1 ∧ Blk w b 31 #[.int .i64 a.a.c, .int .i64 a.a.s, .string a.k]) (fun _ _ _ _ _ r ⟨b, h1, h2⟩ => ⟨b, h1, h2.only r (fun h => h)⟩) (by rfl) (fun x w0 hS hk => ?_) ?_ | refine fr_some_if (fun v w => ∃ b, v = .slice (some ⟨b, 0, none⟩) 1 1 ∧ Blk w b 31 #[.int .i64 a.a.c, .int .i64 a.a.s, .string a.k]) (fun _ _ _ _ _ r ⟨b, h1, h2⟩ => ⟨b, h1, h2.only r (fun h => h)⟩) (by rfl) (by rfl) (by rfl) (fun x w0 hS hk => ?_) ?_); (· (have hk2 := hk; (try simp [knAll, Region.binds] at hk2); skip; refine got_value (v := ?_) (w' := ?_) (by go_simp; (first | with_reducible rfl | (refine ⟨?_, ?_⟩; with_reducible rfl; with_reducible rfl))) ?_; exact ⟨⟨_, rfl, Blk.new _ _ _⟩, hS.alloc _, (Only.refl none_ _).alloc _⟩)); try simp only [List.nil_append, List.cons_append])
      (refine fr_end ?_; intro x w9 hS hk)
      obtain ⟨A9, c9, e9, own9⟩ := kn_end_at 3 hk (by rfl)
      obtain ⟨b9, e10, bk9⟩ := kn_end_at 5 hk (by rfl)
      rw [Nat.zero_add] at e9 e10
      rw [e9, e10]
      clear hk
      have G9 := Lib.hid (G8.out.keep hS)
      have S9 := Lib.hid hS
      have W9 := Lib.hid own9
      have C9 := Lib.hid (blk_cel bk9)
      clear hS own9 bk9 e9 e10
      refine wpList_append_cel _ rfl (.tmp 47) (.tmp 49) 27 rfl w8.heap.size 31 i0 _ 3 32 Try.underlying27 hi0 hz0 hz1 hz2 rfl (by omega) (.slice A9 dn c9) dn _ rfl W9.out _ _ 1 _ rfl C9.out (mkI_one' a) HMX.out.1 HMX.out.2.1 S9.out.size ?_
      intro A11 n11 c11 w11 hown hgrow hmv
      have hn11 : n11 = dn + 1 := own_num hown
      have G11 : Hid (Gz W g mb v8 (putM q a) g' mb' (.slice none 0 0) [] (.slice A11 n11 c11) (D ++ [a]) w11) :=
        G8.out.list (S9.out.grown hgrow (fun k hk => .inr (W9.out.lt k hk).1)) hown HDN.out.2.2.1.symm HDN.out.2.2.2.symm
      have HN11 : Hid ((D ++ [a]).length = n11 ∧ n11 ≤ k + 1) := by
        have h1 := HDN.out.2.2.1; have h2 := HDN.out.2.1; have h3 := HNK.out
        rw [Hid]; omega
      clear hown hgrow hmv hn11
      go_wp2_with fail
      go_roundw
      case rel => exact ⟨k + 1, putM q a, v8, A11, n11, c11, D ++ [a], by omega, by go_num, rfl, HN11.out.1, HN11.out.2, by rw [← HDD.out]; exact put_perm HPM.out a, G11.out⟩
      case measure => simp [intOf]; omega
    · obtain rfl : k = L := by omega
      have HKS := Lib.hid (keys_perm GZ.out.x.ix.ks HPM.out)
      have HQL : Hid (q.length = n4 ∧ n4 ≤ 40) := ⟨by have h1 := HPM.out.length_eq; have h2 := HN.out; omega, by have := HNK.out; omega⟩
      have HKY : Hid (∀ m ∈ ll, m.k.size ≤ maxLen ∧ m ∈ q) := fun m hm => by
        obtain ⟨_, _, _, _, hk⟩ := GZ.out.x.mp
        have := HPM.out.mem_iff.2 hm
        exact ⟨hk m this, this⟩
      have hn40 : n4 ≤ 40 := HQL.out.2
      clear hlt HX hq
      go_wp2_with fail
      go_loopw [54] (fun x wr => ∃ (i : Nat) (yq : List Mk) (v' : Value), i ≤ n4 ∧ x = .int .i64 (i : Int) ∧ yq.Perm (ll.drop (n4 - i)) ∧ Gz W g mb v q g' mb' v' yq (.slice A4 n4 c4) ll wr) (fun x _ => 100 - (intOf x).toNat)
      case atStart => exact ⟨0, [], _, Nat.zero_le _, rfl, by rw [Nat.sub_zero, ← HN.out, List.drop_length], GZ.out⟩
      case round =>
        obtain ⟨i, yq, v', hi, rfl, hyp, gz⟩ := hrel
        have HYP := Lib.hid hyp
        have GY := Lib.hid gz
        clear GZ hyp gz
        by_cases hlt : i < n4
        · obtain ⟨e, he⟩ : ∃ e, e = n4 - 1 - i := ⟨_, rfl⟩
          have hw1 : IntKind.i64.wrap ((n4 : Int) - 1) = (n4 : Int) - 1 := IntWalk.i64_in _ (by omega)
          have hw2 : IntKind.i64.wrap ((n4 : Int) - 1 - (i : Int)) = (e : Int) := by rw [IntWalk.i64_in _ (by omega)]; omega
          have hei : (e : Int) < (n4 : Int) := by omega
          have hii : (i : Int) < (n4 : Int) := by omega
          obtain ⟨m1, hm1⟩ : ∃ m, ll[e]? = some m := ⟨ll[e]'(by have := HN.out; omega), List.getElem?_eq_getElem _⟩
          obtain ⟨m2, hm2⟩ : ∃ m, ll[i]? = some m := ⟨ll[i]'(by have := HN.out; omega), List.getElem?_eq_getElem _⟩
          have HM1 := Lib.hid hm1
          have HM2 := Lib.hid hm2
          have HLB := Lib.hid (last_back HKS.out HN.out hlt he HYP.out hm1)
          obtain ⟨b4, rfl, s0, s1, s2⟩ := own_cell (GY.out.row HN.out) HN.out hm1
          have HK1 := Lib.hid (HKY.out m1 (List.mem_of_getElem? hm1)).1
          have HK2 := Lib.hid (HKY.out m2 (List.mem_of_getElem? hm2)).2
          have HQ1 : Hid (yq.length + 1 ≤ 100) := by have h1 := HYP.out.length_eq; rw [List.length_drop] at h1; have := HN.out; rw [Hid]; omega
          have heR := fun w => neqR w m2 m2
          rw [(mkSame_iff _ _).2 rfl] at heR
          have hmt := mk_to m2
          clear hm1 hm2 he
          go_wp2_with (first
            | (go_at_call 15; refine (mk_of m1 _).mono ?_; rintro e w7 ⟨rfl, o7⟩; have G7 := Lib.hid (GY.out.keep o7); clear o7 s0 s1 s2)
            | (go_at_call 14; refine (rc_put _ _ _ _ _ m1 _ G7.out.y HK1.out HQ1.out).mono ?_; rintro e w8 ⟨rfl, r8⟩
               obtain ⟨v8, g8⟩ := G7.out.right r8
               have G8 := Lib.hid g8
               obtain ⟨y0, y1, y2⟩ := own_at5 (G8.out.row HN.out) HN.out HM2.out
               clear r8 g8)
            | (go_at_call 18; refine (rc_get_yes _ _ _ _ _ _ m2 _ G8.out.x G8.out.x.ix.ks HK2.out).mono ?_; rintro e w9 ⟨rfl, o9⟩
               have G9 := Lib.hid ((G8.out.keep o9).keep ((Only.refl none_ w9).alloc (.cells #[.int .i64 m2.a.c, .int .i64 m2.a.s, .string m2.k] 39)))
               have B9 : Hid (Blk (w9.alloc (.cells #[.int .i64 m2.a.c, .int .i64 m2.a.s, .string m2.k] 39)) w9.heap.size 39 #[.int .i64 m2.a.c, .int .i64 m2.a.s, .string m2.k]) := Blk.new _ _ _
               clear o9 y0 y1 y2)
            | (refine wpl_new rfl rfl 39 rfl _ _ rfl #[.int .i64 m2.a.c, .int .i64 m2.a.s, .string m2.k] rfl rfl (by kernel_rfl) (mkI_one5 m2) ?_))
          generalize w9.alloc (.cells #[.int .i64 m2.a.c, .int .i64 m2.a.s, .string m2.k] 39) = w10 at *
          generalize w9.heap.size = h9 at *
          have HCE := Lib.hid (fun w (o : Only none_ w10 w) => own_at5 (owns_only (G9.out.row HN.out) o (fun _ _ h => h)) HN.out HM2.out)
          (refine wp_region_free (fun w' => Only none_ w10 w') (Only none_) (F := ?_) (by kernel_rfl) 126 (by rfl) (by kernel_rfl) (fun x => ?_) ((Only.refl none_ w10).drew) ?_; rotate_left; (· (simp only [putsL, Act.put, List.setIfInBounds_toArray, List.set_cons_zero, List.set_cons_succ, Nat.reduceAdd]; exact rfl)))
          repeat (first
            | ((first | refine fr_value (c := ?_) (by rfl) (fun w => Only.refl none_ w) (fun x w0 hS hk => ?_) ?_ | refine fr_value_if (c := ?_) (by rfl) (by rfl) (by rfl) (fun w => Only.refl none_ w) (fun x w0 hS hk => ?_) ?_); rotate_left; (· (have hk2 := hk; (try simp [knAll, Region.binds] at hk2); have t0 := (B9.out.only hS (fun h => h)).cell_ (i := 0) rfl; have t1 := (B9.out.only hS (fun h => h)).cell_ (i := 1) rfl; have t2 := (B9.out.only hS (fun h => h)).cell_ (i := 2) rfl; obtain ⟨z0, z1, z2⟩ := HCE.out _ hS; go_simp; try (with_reducible rfl))); try simp only [List.nil_append, List.cons_append])
            | ((first | refine fr_skip (by rfl) (by rfl) (by rfl) (fun w => Only.refl none_ w) ?_ | refine fr_skip_too (by rfl) (by rfl) (by rfl) (fun w => Only.refl none_ w) ?_); try simp only [List.nil_append, List.cons_append])
            | ((first | refine fr_some (fun v _ => v = .agg #[.int .i64 m2.a.c, .int .i64 m2.a.s, .string m2.k]) (fun _ _ _ _ _ _ h => h) (by rfl) (fun x w0 hS hk => ?_) ?_ | refine fr_some_if (fun v _ => v = .agg #[.int .i64 m2.a.c, .int .i64 m2.a.s, .string m2.k]) (fun _ _ _ _ _ _ h => h) (by rfl) (by rfl) (by rfl) (fun x w0 hS hk => ?_) ?_); (· (have hk2 := hk; (try simp [knAll, Region.binds] at hk2); skip; refine got_call (f := 19) (args := ?_) (by go_simp; try (with_reducible rfl)) ?_; refine (hmt _).mono ?_; rintro e w8 ⟨rfl, o8⟩; exact ⟨_, rfl, rfl, hS.trans o8, o8⟩)); try simp only [List.nil_append, List.cons_append]))
          (refine fr_end ?_; intro x w9 hS hk)
          have e10 := kn_end_at 10 hk (by rfl)
          rw [Nat.zero_add] at e10
          clear hk
          rw [e10]
          go_wp2_with fail
          go_roundw
          case rel => exact ⟨i + 1, putM yq m1, v8, by omega, by go_num, HLB.out, G9.out.keep hS⟩
          case measure => simp [intOf]; omega
        · obtain rfl : i = n4 := by omega
          have hyq : yq = q := ixl_ext GY.out.y.ix GY.out.x.ix (by
            have h1 := HYP.out
            rw [Nat.sub_self, List.drop_zero] at h1
            exact h1.trans HPM.out.symm)
          subst hyq
          have hnx := sl_newest (l := yq) (n := i) GY.out.x 50 (Only.refl none_ wr) (by rw [bel_top top_isTop]; exact List.take_of_length_le (by have := HQL.out; omega)) HQL.out.1
          have hny := fun w (o : Only none_ wr w) => sl_newest (l := yq) (n := i) GY.out.y 50 o (by rw [bel_top top_isTop]; exact List.take_of_length_le (by have := HQL.out; omega)) HQL.out.1
          have hle := fun w (o : Only none_ wr w) => rc_len _ _ _ _ _ _ w (GY.out.x.keep o)
          rw [HQL.out.1] at hle
          have HNX := Lib.hid hnx
          have HNY := Lib.hid hny
          have HLE := Lib.hid hle
          have tokA : True := trivial
          have tokB : True := trivial
          clear hlt hnx hny hle
          go_wp2_with (first
            | (go_at_call 23; have _t := tokA; clear tokA; refine (HNX.out).mono ?_; rintro e w5 ⟨v5, rfl, ⟨A5, c5, rfl, own5⟩, o5⟩
               have G5 := Lib.hid (GY.out.keep o5)
               have O5 := Lib.hid o5
               have W5 := Lib.hid own5
               clear own5 o5)
            | (go_at_call 22; have _t := tokB; clear tokB; refine (sl_tos W5.out (Only.refl none_ _) HQL.out.1 (by omega)).mono ?_; rintro e w6 ⟨v6, rfl, ⟨A6, c6, rfl, own6⟩, o6⟩
               have O6 := Lib.hid (O5.out.trans o6)
               have W6 := Lib.hid own6
               clear own6 o6)
            | (go_at_call 23; refine (HNY.out _ O6.out).mono ?_; rintro e w7 ⟨v7, rfl, ⟨A7, c7, rfl, own7⟩, o7⟩
               have O7 := Lib.hid (O6.out.trans o7)
               have W7 := Lib.hid own7
               have W6b := Lib.hid (owns_only W6.out o7 (fun _ _ h => h))
               clear own7 o7)
            | (go_at_call 22; refine (sl_tos W7.out (Only.refl none_ _) HQL.out.1 (by omega)).mono ?_; rintro e w8 ⟨v8, rfl, ⟨A8, c8, rfl, own8⟩, o8⟩
               have O8 := Lib.hid (O7.out.trans o8)
               have W8 := Lib.hid own8
               have W6c := Lib.hid (owns_only W6b.out o8 (fun _ _ h => h))
               clear own8 o8)
            | (go_at_call 21; refine (sl_same (l := yq) W6c.out W8.out HQL.out.1 (by omega)).mono ?_; rintro e w9 ⟨rfl, o9⟩
               have O9 := Lib.hid (O8.out.trans o9)
               clear o9)
            | (go_at_call 20; refine (HLE.out _ O9.out).mono ?_; rintro e w10 ⟨rfl, rfl⟩))
          have G9 := Lib.hid (GY.out.keep O9.out)
          go_loopw [107] (fun x wr => ∃ (j : Nat) (r : List Mk) (v2 : Value), j ≤ i ∧ x = .int .i64 (j : Int) ∧ r.Perm (ll.drop j) ∧ Gz W g mb v2 r g' mb' v' yq (.slice A4 i c4) ll wr) (fun x _ => 100 - (intOf x).toNat)
          case atStart => exact ⟨0, yq, v, Nat.zero_le _, rfl, by rw [List.drop_zero]; exact HPM.out, G9.out⟩
          case round =>
            obtain ⟨j, r, v2, hj, rfl, hrp, gz⟩ := hrel
            have HRP := Lib.hid hrp
            have GR := Lib.hid gz
            clear G9 GY hrp gz
            by_cases hlt : j < i
            · obtain ⟨m, hm⟩ : ∃ m, ll[j]? = some m := ⟨ll[j]'(by have := HN.out; omega), List.getElem?_eq_getElem _⟩
              have hji : (j : Int) < (i : Int) := by omega
              obtain ⟨hhas, hdp⟩ := drop_front HKS.out HRP.out hm
              have HHAS := Lib.hid hhas
              have HDP := Lib.hid hdp
              obtain ⟨b4, rfl, s0, s1, s2⟩ := own_cell (GR.out.row HN.out) HN.out hm
              have HK1 := Lib.hid (HKY.out m (List.mem_of_getElem? hm)).1
              have GA := Lib.hid (GR.out.keep ((Only.refl none_ wr).alloc (.cells #[.int .i64 m.a.c, .int .i64 m.a.s, .string m.k] 31)))
              have x2 := (Blk.new wr 31 #[.int .i64 m.a.c, .int .i64 m.a.s, .string m.k]).cell_ (i := 2) rfl
              clear hm hhas hdp
              go_wp2_with (first
                | (refine wpl_new rfl rfl 31 rfl _ _ rfl #[.int .i64 m.a.c, .int .i64 m.a.s, .string m.k] rfl rfl (by kernel_rfl) (mkI_one5 m) ?_)
                | (go_at_call 17; refine (rc_drop _ _ _ _ _ m.k _ GA.out.x HK1.out).mono ?_; rw [HHAS.out]; rintro e w8 ⟨rfl, r8⟩
                   obtain ⟨v8, g8⟩ := GA.out.left r8
                   have G8 := Lib.hid g8
                   clear r8 g8))
              go_roundw
              case rel => exact ⟨j + 1, dropM r m.k, v8, by omega, by go_num, HDP.out, G8.out⟩
              case measure => simp [intOf]; omega
            · obtain rfl : j = i := by omega
              have hr : r = [] := by
                have h1 := HRP.out
                rw [← HN.out, List.drop_length] at h1
                exact List.perm_nil.1 h1
              subst hr
              have HLZ : Hid (Calls Try.prog 20 #[.pointer (some ⟨g, 0, none⟩)] wr fun e w' => e = .returned (.int .i64 0) ∧ wr = w') := rc_len _ _ _ _ _ _ wr GR.out.x
              have HNZ := Lib.hid (sl_newest (l := []) (n := 0) GR.out.x 9 (Only.refl none_ wr) (by rw [bel_top top_isTop]; rfl) rfl)
              clear hlt
              go_wp2_with (first
                | (go_at_call 20; refine (HLZ.out).mono ?_; rintro e w10 ⟨rfl, rfl⟩)
                | (go_at_call 23; refine (HNZ.out).mono ?_; rintro e w11 ⟨v11, rfl, ⟨A11, c11, rfl, own11⟩, o11⟩
                   have G11 := Lib.hid (GR.out.keep o11)
                   clear own11 o11))
              go_ret
              exact ⟨rfl, G11.out.ho.below (Nat.le_refl _) (fun k hk => hk.elim)⟩

set_option maxHeartbeats 3200000 in
theorem recent_last_far (A : Option Addr) (L c : Nat) (W : World) (h : 40 < L) :
    Calls Try.prog 6 #[.slice A L c] W fun e w' => e = .returned (.bool true) ∧ Below W.heap.size W w' := by
  have hq : decide ((40 : Int) < (L : Int)) = true := by simp; omega
  have tok : True := trivial
  go_enter Try.func6, Try.ntmps6
  go_wp2_with (first
    | (go_at_call 9; have _t := tok; clear tok; refine (r_speaks _).mono ?_; rintro e w1 ⟨rfl, o1⟩; have O1 := Lib.hid o1; clear o1)
    | (go_at_call 9; refine (r_speaks _).mono ?_; rintro e w3 ⟨rfl, o3⟩; have O3 := Lib.hid (O1.out.trans o3); clear o3))
  go_ret
  exact ⟨rfl, O3.out.below (Nat.le_refl _) (fun k hk => hk.elim)⟩
theorem recent_last_any (v : Value) (l : List Mk) (W : World) (hx : Cel W (fun b => b < W.heap.size) v l.length 3 (l.flatMap mkI)) :
    Calls Try.prog 6 #[v] W fun e w' => e = .returned (.bool true) ∧ Below W.heap.size W w' := by
  rcases Nat.lt_or_ge 40 l.length with h | h
  · obtain ⟨A, c, rfl, _⟩ := hx
    exact recent_last_far A _ c W h
  · exact recent_last v l W hx h
end Go.Proofs.Ytclngnoapfjghaa
