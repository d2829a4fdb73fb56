/- The call of RecentPlays. The statement itself is proved in another text. -/
import Derived.Test.YtclngnoapfjghaaRcA
import Derived.Test.YtclngnoapfjghaaFre
import Derived.Test.YtclngnoapfjghaaPce
import Derived.Deep.DeepCutAuto
namespace Go.Proofs.Ytclngnoapfjghaa
open Go.RowKit
set_option maxRecDepth 100000
set_option linter.all false

theorem ra_one (a : Ra) : (#[.int .i64 a.kind, .int .i64 a.m.a.c, .int .i64 a.m.a.s, .string a.m.k, .int .i64 a.b.a.c, .int .i64 a.b.a.s, .string a.b.k, .int .i64 a.n] : Array Value).all (·.oneCell') = true := by simp [Value.oneCell']
theorem fnd_dec (l : List Mk) (k : ByteArray) : ∃ z : Int, ∃ b : Bool, fndM l k = z ∧ hasM l k = b ∧ decide (0 ≤ z) = b := ⟨_, _, rfl, rfl, fnd_has l k⟩

theorem mkI_one3 (m : Mk) : (#[.int .i64 m.a.c, .int .i64 m.a.s, .string m.k] : Array Value).all (·.oneCell') = true := by simp [Value.oneCell']
/-- What is there of a key: the index tells it, and the document's list has it at its place; or neither has it. -/
theorem pl_get {N g mb : Nat} {q : List Mk} {v : Value} {w : World} (h : Rc N g mb q q v w) {M : Nat} {A : Option Addr} {n c : Nat} (hr : w.ownsRow M 31 3 (.slice A n c) q.length (q.flatMap mkI)) (x : ByteArray) (hx : x.size ≤ maxLen) :
    ∃ p : Mk, Calls Try.prog 18 #[.pointer (some ⟨g, 0, none⟩), .string x] w (fun e w' => e = .returned (.tuple #[.agg #[.int .i64 p.a.c, .int .i64 p.a.s, .string p.k], .bool (hasM q x)]) ∧ Only none_ w w') ∧
      (hasM q x = true → ∃ (i : Nat) (b : Nat), fndM q x = i ∧ i < n ∧ A = some ⟨b, 0, none⟩ ∧ ∀ w', Only none_ w w' → w'.cell? ⟨b, i * 3, none⟩ = some (.int .i64 p.a.c) ∧ w'.cell? ⟨b, i * 3 + 1, none⟩ = some (.int .i64 p.a.s) ∧ w'.cell? ⟨b, i * 3 + 2, none⟩ = some (.string p.k)) ∧
      (hasM q x = false → p = mkTop) := by
  cases hh : hasM q x with
  | false =>
    refine ⟨mkTop, rc_get_no N g mb q q v x w h hx (has_not hh), fun e => (by cases e), fun _ => rfl⟩
  | true =>
    obtain ⟨i, hi, hik, hif⟩ := has_get hh
    have h1 := rc_get_yes N g mb q q v q[i] w h h.ix.ks (List.getElem_mem hi)
    rw [hik] at h1
    refine ⟨⟨q[i].a, x⟩, h1, fun _ => ?_, fun e => (by cases e)⟩
    have hn : q.length = n := by
      rcases hr.2 with ⟨h1, h2⟩ | ⟨g, cap, cur, h1, _⟩
      · injection h1 with _ h1 _; omega
      · injection h1 with _ h1 _; exact h1.symm
    have hA : ∃ b, A = some ⟨b, 0, none⟩ := by
      rcases hr.2 with ⟨_, h2⟩ | ⟨b, cap, cur, h1, _⟩
      · omega
      · injection h1 with h1; exact ⟨b, h1⟩
    obtain ⟨b, hA⟩ := hA
    refine ⟨i, b, hif, by omega, hA, fun w' o => ?_⟩
    have hr' := owns_only hr o (fun _ _ h => h)
    have hc := Cel.of_own hr'
    have h3 : Cel w' (ownb (.slice A n c)) (.slice A n c) n 3 (q.flatMap mkI) := by rw [← hn] at hc ⊢; exact hc
    obtain ⟨b', off, hA', _, _, c0, c1, c2⟩ := mkr_cell h3 i hi (by omega)
    rw [hA] at hA'
    injection hA' with hA'
    injection hA' with e1 e2
    subst e1 e2
    rw [Nat.zero_add] at c0 c1 c2
    rw [hik] at c2
    exact ⟨c0, c1, c2⟩

set_option maxHeartbeats 25600000 in
theorem recent_plays (v : Value) (l : List Ra) (W : World) (hx : Cel W (fun b => b < W.heap.size) v l.length 8 (l.flatMap raRow)) (hsh : l.all raShort = true) (hl : l.length ≤ 60) :
    Calls Try.prog 3 #[v] W fun e w' => e = .returned (.bool true) ∧ Below W.heap.size W w' := by
  have hfew := fun w (o : Only none_ W w) => r_few v l w _ (hx.only o (fun _ _ h => h))
  rw [hsh, show decide (l.length ≤ 60) = true from by simpa using hl] at hfew
  obtain ⟨A, c, rfl, _, h2, h3, _, h4⟩ := hx
  obtain ⟨L, hL⟩ : ∃ L, L = l.length := ⟨_, rfl⟩
  rw [← hL] at h2 h4 hl hfew ⊢
  have HX := Lib.hid h4
  have HL := Lib.hid hL
  have HFW := Lib.hid hfew
  have HSH := Lib.hid hsh
  clear h4 hL hfew hsh
  go_enter Try.func3, Try.ntmps3
  go_wp2_with (first
    | (go_at_call 9; refine (r_speaks _).mono ?_; rintro e w1 ⟨rfl, o1⟩; have O1 := Lib.hid o1; clear o1)
    | (go_at_call 10; refine (HFW.out _ O1.out).mono ?_; rintro e w2 ⟨rfl, o2⟩; have O2 := Lib.hid (O1.out.trans o2); clear o2)
    | (go_at_call 11; refine (rc_new _).mono ?_; rintro e w3 ⟨g, mb, rfl, r3, o3⟩
       have P3 : Hid (Prs W g mb (.slice none 0 0) (.slice (some ⟨w3.heap.size, 0, none⟩) 0 0) [] [] (w3.alloc (.cells #[] 31))) :=
         ⟨(r3.base O2.out.size).keep ((Only.refl none_ _).alloc _), owns_base (own_made w3 w3.heap.size 31 3 0 #[] (by simp) (by simp [maxLen]) (Nat.le_refl _)) (O2.out.trans o3).size, (O2.out.trans o3).alloc _⟩
       clear r3 o3))
  go_loopw [4, 23] (fun x i wr => ∃ (k : Nat) (q : List Mk) (v : Value) (A : Option Addr) (n c : Nat), k ≤ L ∧ i = .int .i64 (k : Int) ∧ x = .slice A n c ∧ n = q.length ∧ q.length ≤ k ∧ Prs W g mb v (.slice A n c) q q wr) (fun _ i _ => L - (intOf i).toNat)
  case atStart => exact ⟨0, [], _, _, 0, 0, Nat.zero_le _, rfl, rfl, rfl, Nat.le_refl _, P3.out⟩
  case round =>
    obtain ⟨k, q, v, A4, n4, c4, hk, rfl, rfl, hn, hq, hp⟩ := hrel
    have HP := Lib.hid hp
    have HN := Lib.hid hn
    have HQ := Lib.hid hq
    clear P3 hp hn hq
    by_cases hlt : k < L
    · obtain ⟨b, off, rfl, hb, _, hc⟩ := HX.out (by omega)
      obtain ⟨a, ha⟩ : ∃ a, l[k]? = some a := ⟨l[k]'(by have := HL.out; omega), List.getElem?_eq_getElem _⟩
      have HC := Lib.hid (ra_row hc HP.out.ho hb ha)
      have hsa : raShort a = true := by have := HSH.out; rw [List.all_eq_true] at this; exact this a (List.mem_of_getElem? ha)
      simp only [raShort, Bool.and_eq_true, decide_eq_true_eq] at hsa
      have HK1 : Hid (a.m.k.size ≤ maxLen) := by simp only [Hid, maxLen]; omega
      have HK2 : Hid (a.b.k.size ≤ maxLen) := by simp only [Hid, maxLen]; omega
      have T : Hid (Pbx W g mb wr.heap.size a v (.slice A4 n4 c4) q q (wr.alloc (.cells #[.int .i64 a.kind, .int .i64 a.m.a.c, .int .i64 a.m.a.s, .string a.m.k, .int .i64 a.b.a.c, .int .i64 a.b.a.s, .string a.b.k, .int .i64 a.n] 33))) := ⟨HP.out.keep ((Only.refl none_ wr).alloc _), Blk.new wr _ _⟩
      obtain ⟨x0, x1, x2, x3, x4, x5, x6, x7⟩ := T.out.cells
      obtain ⟨z, bz, hz, hbz, hzb⟩ := fnd_dec q a.m.k
      have HZ := Lib.hid hz
      have HBZ := Lib.hid hbz
      have hn100 : Hid (n4 ≤ 100) := by have := HN.out; have := HQ.out; rw [Hid]; omega
      have HQ1 : Hid (q.length + 1 ≤ 100) := by have := HQ.out; rw [Hid]; omega
      clear ha hc hz hbz hsa
      go_upto_if 35 with (first
          | (refine wpl_piece rfl 33 _ rfl b (off + k * 8) rfl #[.int .i64 a.kind, .int .i64 a.m.a.c, .int .i64 a.m.a.s, .string a.m.k, .int .i64 a.b.a.c, .int .i64 a.b.a.s, .string a.b.k, .int .i64 a.n] _ HC.out Try.underlying33 rfl (by kernel_rfl) ?_)
          | (refine wpl_new rfl rfl 33 rfl _ _ rfl #[.int .i64 a.kind, .int .i64 a.m.a.c, .int .i64 a.m.a.s, .string a.m.k, .int .i64 a.b.a.c, .int .i64 a.b.a.s, .string a.b.k, .int .i64 a.n] rfl rfl (by kernel_rfl) (ra_one a) ?_)
          | (go_at_call 12; refine (Prs.find T.out.p HN.out hn100.out a.m.k).mono ?_; rw [HZ.out]; rintro e w5 ⟨rfl, rfl⟩))
      generalize wr.alloc (.cells #[.int .i64 a.kind, .int .i64 a.m.a.c, .int .i64 a.m.a.s, .string a.m.k, .int .i64 a.b.a.c, .int .i64 a.b.a.s, .string a.b.k, .int .i64 a.n] 33) = w5 at *
      generalize wr.heap.size = h1 at *
      go_cut [4] (fun s4 w' => MetA W g mb h1 a (raDo a q) s4 w')
      case rest =>
        clear T x0 x1 x2 x3 x4 x5 x6 x7
        obtain ⟨v5, A5, n5, c5, rfl, hn5, p5⟩ := hcut
        have hql : (raDo a q).length ≤ k + 1 := by have := raDo_len a q; have := HQ.out; omega
        generalize raDo a q = q2 at hn5 p5 hql
        have HP5 := Lib.hid p5
        have HN5 := Lib.hid hn5
        have HQL : Hid (n5 ≤ 100) := by rw [Hid, hn5]; omega
        have HQK : Hid (q2.length ≤ k + 1) := hql
        obtain ⟨z6, b6, hz6, hb6, hzb6⟩ := fnd_dec q2 a.b.k
        have HZ6 := Lib.hid hz6
        obtain ⟨p, hget, hel, htop⟩ := pl_get p5.p.rc p5.p.rf (A := A5) (n := n5) (c := c5) a.b.k HK2.out
        rw [hb6] at hget hel htop
        rw [hz6] at hel
        have HG := Lib.hid hget
        have HE := Lib.hid hel
        have HT := Lib.hid htop
        obtain ⟨y0, y1, y2, y3, y4, y5, y6, y7⟩ := HP5.out.cells
        clear p5 hn5 hz6 hb6 hget hel htop HP HN HQ HZ HBZ hzb
        go_upto_region 18 with (first
          | (go_at_call 18; refine (HG.out).mono ?_; rintro e w6 ⟨rfl, o6⟩
             have O7 : Hid (Only none_ wc (w6.alloc (.cells #[.int .i64 p.a.c, .int .i64 p.a.s, .string p.k] 39))) := o6.alloc _
             have P7 : Hid (Pbx W g mb h1 a v5 (.slice A5 n5 c5) q2 q2 (w6.alloc (.cells #[.int .i64 p.a.c, .int .i64 p.a.s, .string p.k] 39))) := HP5.out.keep O7.out
             have G7 : Hid (Blk (w6.alloc (.cells #[.int .i64 p.a.c, .int .i64 p.a.s, .string p.k] 39)) w6.heap.size 39 #[.int .i64 p.a.c, .int .i64 p.a.s, .string p.k]) := Blk.new _ _ _
             obtain ⟨u0, u1, u2, u3, u4, u5, u6, u7⟩ := P7.out.cells
             clear o6 y0 y1 y2 y3 y4 y5 y6 y7)
          | (refine wpl_new rfl rfl 39 rfl _ _ rfl #[.int .i64 p.a.c, .int .i64 p.a.s, .string p.k] rfl rfl (by kernel_rfl) (mkI_one3 p) ?_)
          | (go_at_call 12; refine (Prs.find P7.out.p HN5.out HQL.out a.b.k).mono ?_; rw [HZ6.out]; rintro e w8 ⟨rfl, rfl⟩))
        generalize w6.alloc (.cells #[.int .i64 p.a.c, .int .i64 p.a.s, .string p.k] 39) = w7 at *
        generalize w6.heap.size = g7 at *
        go_cut [96] (fun s96 w' => s96 = .bool false ∧ Only none_ w7 w')
        case rest =>
          obtain ⟨rfl, o9⟩ := hcut
          have HP9 := Lib.hid (P7.out.keep o9)
          obtain ⟨BN, hBN⟩ : ∃ x, belM q2 mkTop a.n = x := ⟨_, rfl⟩
          obtain ⟨BB, hBB⟩ : ∃ x, belM q2 a.b a.n = x := ⟨_, rfl⟩
          obtain ⟨nN, hnN⟩ : ∃ x, BN.length = x := ⟨_, rfl⟩
          obtain ⟨nB, hnB⟩ : ∃ x, BB.length = x := ⟨_, rfl⟩
          have HNN : Hid (BN.length = nN ∧ nN ≤ 1000) := ⟨hnN, by rw [← hnN, ← hBN]; have := bel_le q2 mkTop a.n; omega⟩
          have HNB : Hid (BB.length = nB ∧ nB ≤ 1000) := ⟨hnB, by rw [← hnB, ← hBB]; have := bel_le q2 a.b a.n; omega⟩
          have HLE := Lib.hid (fun w (o : Only none_ wc w) => rc_len _ _ _ _ _ _ w (HP9.out.p.rc.keep o))
          rw [← HN5.out] at HLE
          have HNW := Lib.hid (fun w (o : Only none_ wc w) => sl_newest HP9.out.p.rc a.n o hBN hnN)
          have HBL := Lib.hid (fun w (o : Only none_ wc w) => sl_below HP9.out.p.rc a.b a.n o hBB hnB)
          have HRN : Hid (∀ w, Only none_ wc w → Calls Try.prog 24 #[.slice A5 n5 c5, .agg #[.int .i64 0, .int .i64 0, .string ⟨#[]⟩], .int .i64 a.n] w fun e w' => ∃ v, e = .returned v ∧ Sli wc.heap.size 31 nN BN v w' ∧ Only none_ w w') := fun w o => sl_rbelow (HP9.out.p.cel HN5.out) HN5.out (by have := HQL.out; omega) mkTop a.n o hBN hnN
          have HRB := Lib.hid (fun w (o : Only none_ wc w) => sl_rbelow (HP9.out.p.cel HN5.out) HN5.out (by have := HQL.out; omega) a.b a.n o hBB hnB)
          have HOF := Lib.hid (mk_of a.b)
          clear hBN hBB hnN hnB o9 P7 O7 G7 u0 u1 u2 u3 u4 u5 u6 u7 HE HT HG HC HFW
          go_wp2_with fail
          (refine wp_region_free (fun w' => Only none_ wc w') (Only none_) (F := ?_) (by kernel_rfl) 135 (by rfl) (by kernel_rfl) (fun x => ?_) ((Only.refl none_ wc).drew) ?_; rotate_left; (· (simp only [putsL, Act.put, List.setIfInBounds_toArray, List.set_cons_zero, List.set_cons_succ, Nat.reduceAdd]; exact rfl)))
          repeat (first | ((first | refine fr_value (c := ?_) (by rfl) (fun w => Only.refl none_ w) (fun x w0 hS hk => ?_) ?_ | refine fr_value_if (c := ?_) (by rfl) (by rfl) (by rfl) (fun w => Only.refl none_ w) (fun x w0 hS hk => ?_) ?_); rotate_left; (· (have hk2 := hk; try simp [knAll, Region.binds] at hk2; have q7 := (HP9.out.keep hS).x.cell_ (i := 7) rfl; have q4 := (HP9.out.keep hS).x.cell_ (i := 4) rfl; have q5 := (HP9.out.keep hS).x.cell_ (i := 5) rfl; have q6 := (HP9.out.keep hS).x.cell_ (i := 6) rfl; go_simp; try (with_reducible rfl))); try simp only [List.nil_append, List.cons_append]))
          ((first | refine fr_some (fun v _ => v = .int .i64 (n5 : Int)) (fun _ _ _ _ _ _ h => h) (by rfl) (fun x w0 hS hk => ?_) ?_ | refine fr_some_if (fun v _ => v = .int .i64 (n5 : Int)) (fun _ _ _ _ _ _ h => h) (by rfl) (by rfl) (by rfl) (fun x w0 hS hk => ?_) ?_); (· (have hk2 := hk; try simp [knAll, Region.binds] at hk2; skip; refine got_call (f := 20) (args := ?_) (by go_simp; try (with_reducible rfl)) ?_; refine (HLE.out _ hS).mono ?_; rintro e w8 ⟨rfl, rfl⟩; exact ⟨_, rfl, rfl, hS, Only.refl _ _⟩)); try simp only [List.nil_append, List.cons_append])
          repeat (first | ((first | refine fr_value (c := ?_) (by rfl) (fun w => Only.refl none_ w) (fun x w0 hS hk => ?_) ?_ | refine fr_value_if (c := ?_) (by rfl) (by rfl) (by rfl) (fun w => Only.refl none_ w) (fun x w0 hS hk => ?_) ?_); rotate_left; (· (have hk2 := hk; try simp [knAll, Region.binds] at hk2; have q7 := (HP9.out.keep hS).x.cell_ (i := 7) rfl; have q4 := (HP9.out.keep hS).x.cell_ (i := 4) rfl; have q5 := (HP9.out.keep hS).x.cell_ (i := 5) rfl; have q6 := (HP9.out.keep hS).x.cell_ (i := 6) rfl; go_simp; try (with_reducible rfl))); try simp only [List.nil_append, List.cons_append]))
          ((first | refine fr_some (Sli wc.heap.size 39 nN BN) (fun _ _ _ _ _ r h => h.keep r) (by rfl) (fun x w0 hS hk => ?_) ?_ | refine fr_some_if (Sli wc.heap.size 39 nN BN) (fun _ _ _ _ _ r h => h.keep r) (by rfl) (by rfl) (by rfl) (fun x w0 hS hk => ?_) ?_); (· (have hk2 := hk; try simp [knAll, Region.binds] at hk2; skip; refine got_call (f := 23) (args := ?_) (by go_simp; try (with_reducible rfl)) ?_; refine (HNW.out _ hS).mono ?_; rintro e w8 ⟨v8, rfl, s8, o8⟩; exact ⟨v8, rfl, s8, hS.trans o8, o8⟩)); try simp only [List.nil_append, List.cons_append])
          ((first | refine fr_some (Sli wc.heap.size 31 nN BN) (fun _ _ _ _ _ r h => h.keep r) (by rfl) (fun x w0 hS hk => ?_) ?_ | refine fr_some_if (Sli wc.heap.size 31 nN BN) (fun _ _ _ _ _ r h => h.keep r) (by rfl) (by rfl) (by rfl) (fun x w0 hS hk => ?_) ?_); (· (have hk2 := hk; try simp [knAll, Region.binds] at hk2; obtain ⟨A9, c9, e9, own9⟩ := kn_at (j := 9) (by rfl) hk (by rfl); refine got_call (f := 22) (args := ?_) (by go_simp; try (with_reducible rfl)) ?_; refine (sl_tos own9 hS HNN.out.1 HNN.out.2).mono ?_; rintro e w8 ⟨v8, rfl, s8, o8⟩; exact ⟨v8, rfl, s8, hS.trans o8, o8⟩)); try simp only [List.nil_append, List.cons_append])
          repeat (first | ((first | refine fr_value (c := ?_) (by rfl) (fun w => Only.refl none_ w) (fun x w0 hS hk => ?_) ?_ | refine fr_value_if (c := ?_) (by rfl) (by rfl) (by rfl) (fun w => Only.refl none_ w) (fun x w0 hS hk => ?_) ?_); rotate_left; (· (have hk2 := hk; try simp [knAll, Region.binds] at hk2; have q7 := (HP9.out.keep hS).x.cell_ (i := 7) rfl; have q4 := (HP9.out.keep hS).x.cell_ (i := 4) rfl; have q5 := (HP9.out.keep hS).x.cell_ (i := 5) rfl; have q6 := (HP9.out.keep hS).x.cell_ (i := 6) rfl; go_simp; try (with_reducible rfl))); try simp only [List.nil_append, List.cons_append]))
          ((first | refine fr_some (Sli wc.heap.size 31 nN BN) (fun _ _ _ _ _ r h => h.keep r) (by rfl) (fun x w0 hS hk => ?_) ?_ | refine fr_some_if (Sli wc.heap.size 31 nN BN) (fun _ _ _ _ _ r h => h.keep r) (by rfl) (by rfl) (by rfl) (fun x w0 hS hk => ?_) ?_); (· (have hk2 := hk; try simp [knAll, Region.binds] at hk2; skip; refine got_call (f := 24) (args := ?_) (by go_simp; try (with_reducible rfl)) ?_; refine (HRN.out _ hS).mono ?_; rintro e w8 ⟨v8, rfl, s8, o8⟩; exact ⟨v8, rfl, s8, hS.trans o8, o8⟩)); try simp only [List.nil_append, List.cons_append])
          ((first | refine fr_some (fun v _ => v = .bool true) (fun _ _ _ _ _ _ h => h) (by rfl) (fun x w0 hS hk => ?_) ?_ | refine fr_some_if (fun v _ => v = .bool true) (fun _ _ _ _ _ _ h => h) (by rfl) (by rfl) (by rfl) (fun x w0 hS hk => ?_) ?_); (· (have hk2 := hk; try simp [knAll, Region.binds] at hk2; obtain ⟨A1, c1, e1, own1⟩ := kn_at (j := 10) (by rfl) hk (by rfl); obtain ⟨A2, c2, e2, own2⟩ := kn_at (j := 15) (by rfl) hk (by rfl); refine got_call (f := 21) (args := ?_) (by go_simp; try (with_reducible rfl)) ?_; refine (sl_same own1 own2 HNN.out.1 (by have := HNN.out.2; omega)).mono ?_; rintro e w8 ⟨rfl, o8⟩; exact ⟨_, rfl, rfl, hS.trans o8, o8⟩)); try simp only [List.nil_append, List.cons_append])
          repeat (first | ((first | refine fr_value (c := ?_) (by rfl) (fun w => Only.refl none_ w) (fun x w0 hS hk => ?_) ?_ | refine fr_value_if (c := ?_) (by rfl) (by rfl) (by rfl) (fun w => Only.refl none_ w) (fun x w0 hS hk => ?_) ?_); rotate_left; (· (have hk2 := hk; try simp [knAll, Region.binds] at hk2; have q7 := (HP9.out.keep hS).x.cell_ (i := 7) rfl; have q4 := (HP9.out.keep hS).x.cell_ (i := 4) rfl; have q5 := (HP9.out.keep hS).x.cell_ (i := 5) rfl; have q6 := (HP9.out.keep hS).x.cell_ (i := 6) rfl; go_simp; try (with_reducible rfl))); try simp only [List.nil_append, List.cons_append]))
          ((first | refine fr_some (fun v _ => v = .agg #[.int .i64 a.b.a.c, .int .i64 a.b.a.s, .string a.b.k]) (fun _ _ _ _ _ _ h => h) (by rfl) (fun x w0 hS hk => ?_) ?_ | refine fr_some_if (fun v _ => v = .agg #[.int .i64 a.b.a.c, .int .i64 a.b.a.s, .string a.b.k]) (fun _ _ _ _ _ _ h => h) (by rfl) (by rfl) (by rfl) (fun x w0 hS hk => ?_) ?_); (· (have hk2 := hk; try simp [knAll, Region.binds] at hk2; skip; refine got_call (f := 15) (args := ?_) (by go_simp; try (with_reducible rfl)) ?_; refine (HOF.out _).mono ?_; rintro e w8 ⟨rfl, o8⟩; exact ⟨_, rfl, rfl, hS.trans o8, o8⟩)); try simp only [List.nil_append, List.cons_append])
          repeat (first | ((first | refine fr_value (c := ?_) (by rfl) (fun w => Only.refl none_ w) (fun x w0 hS hk => ?_) ?_ | refine fr_value_if (c := ?_) (by rfl) (by rfl) (by rfl) (fun w => Only.refl none_ w) (fun x w0 hS hk => ?_) ?_); rotate_left; (· (have hk2 := hk; try simp [knAll, Region.binds] at hk2; have q7 := (HP9.out.keep hS).x.cell_ (i := 7) rfl; have q4 := (HP9.out.keep hS).x.cell_ (i := 4) rfl; have q5 := (HP9.out.keep hS).x.cell_ (i := 5) rfl; have q6 := (HP9.out.keep hS).x.cell_ (i := 6) rfl; go_simp; try (with_reducible rfl))); try simp only [List.nil_append, List.cons_append]))
          ((first | refine fr_some (Sli wc.heap.size 39 nB BB) (fun _ _ _ _ _ r h => h.keep r) (by rfl) (fun x w0 hS hk => ?_) ?_ | refine fr_some_if (Sli wc.heap.size 39 nB BB) (fun _ _ _ _ _ r h => h.keep r) (by rfl) (by rfl) (by rfl) (fun x w0 hS hk => ?_) ?_); (· (have hk2 := hk; try simp [knAll, Region.binds] at hk2; skip; refine got_call (f := 25) (args := ?_) (by go_simp; try (with_reducible rfl)) ?_; refine (HBL.out _ hS).mono ?_; rintro e w8 ⟨v8, rfl, s8, o8⟩; exact ⟨v8, rfl, s8, hS.trans o8, o8⟩)); try simp only [List.nil_append, List.cons_append])
          ((first | refine fr_some (Sli wc.heap.size 31 nB BB) (fun _ _ _ _ _ r h => h.keep r) (by rfl) (fun x w0 hS hk => ?_) ?_ | refine fr_some_if (Sli wc.heap.size 31 nB BB) (fun _ _ _ _ _ r h => h.keep r) (by rfl) (by rfl) (by rfl) (fun x w0 hS hk => ?_) ?_); (· (have hk2 := hk; try simp [knAll, Region.binds] at hk2; obtain ⟨A9, c9, e9, own9⟩ := kn_at (j := 26) (by rfl) hk (by rfl); refine got_call (f := 22) (args := ?_) (by go_simp; try (with_reducible rfl)) ?_; refine (sl_tos own9 hS HNB.out.1 HNB.out.2).mono ?_; rintro e w8 ⟨v8, rfl, s8, o8⟩; exact ⟨v8, rfl, s8, hS.trans o8, o8⟩)); try simp only [List.nil_append, List.cons_append])
          repeat (first | ((first | refine fr_value (c := ?_) (by rfl) (fun w => Only.refl none_ w) (fun x w0 hS hk => ?_) ?_ | refine fr_value_if (c := ?_) (by rfl) (by rfl) (by rfl) (fun w => Only.refl none_ w) (fun x w0 hS hk => ?_) ?_); rotate_left; (· (have hk2 := hk; try simp [knAll, Region.binds] at hk2; have q7 := (HP9.out.keep hS).x.cell_ (i := 7) rfl; have q4 := (HP9.out.keep hS).x.cell_ (i := 4) rfl; have q5 := (HP9.out.keep hS).x.cell_ (i := 5) rfl; have q6 := (HP9.out.keep hS).x.cell_ (i := 6) rfl; go_simp; try (with_reducible rfl))); try simp only [List.nil_append, List.cons_append]))
          ((first | refine fr_some (Sli wc.heap.size 31 nB BB) (fun _ _ _ _ _ r h => h.keep r) (by rfl) (fun x w0 hS hk => ?_) ?_ | refine fr_some_if (Sli wc.heap.size 31 nB BB) (fun _ _ _ _ _ r h => h.keep r) (by rfl) (by rfl) (by rfl) (fun x w0 hS hk => ?_) ?_); (· (have hk2 := hk; try simp [knAll, Region.binds] at hk2; skip; refine got_call (f := 24) (args := ?_) (by go_simp; try (with_reducible rfl)) ?_; refine (HRB.out _ hS).mono ?_; rintro e w8 ⟨v8, rfl, s8, o8⟩; exact ⟨v8, rfl, s8, hS.trans o8, o8⟩)); try simp only [List.nil_append, List.cons_append])
          ((first | refine fr_some (fun v _ => v = .bool true) (fun _ _ _ _ _ _ h => h) (by rfl) (fun x w0 hS hk => ?_) ?_ | refine fr_some_if (fun v _ => v = .bool true) (fun _ _ _ _ _ _ h => h) (by rfl) (by rfl) (by rfl) (fun x w0 hS hk => ?_) ?_); (· (have hk2 := hk; try simp [knAll, Region.binds] at hk2; obtain ⟨A1, c1, e1, own1⟩ := kn_at (j := 27) (by rfl) hk (by rfl); obtain ⟨A2, c2, e2, own2⟩ := kn_at (j := 33) (by rfl) hk (by rfl); refine got_call (f := 21) (args := ?_) (by go_simp; try (with_reducible rfl)) ?_; refine (sl_same own1 own2 HNB.out.1 (by have := HNB.out.2; omega)).mono ?_; rintro e w8 ⟨rfl, o8⟩; exact ⟨_, rfl, rfl, hS.trans o8, o8⟩)); try simp only [List.nil_append, List.cons_append])
          repeat (first | ((first | refine fr_value (c := ?_) (by rfl) (fun w => Only.refl none_ w) (fun x w0 hS hk => ?_) ?_ | refine fr_value_if (c := ?_) (by rfl) (by rfl) (by rfl) (fun w => Only.refl none_ w) (fun x w0 hS hk => ?_) ?_); rotate_left; (· (have hk2 := hk; try simp [knAll, Region.binds] at hk2; have q7 := (HP9.out.keep hS).x.cell_ (i := 7) rfl; have q4 := (HP9.out.keep hS).x.cell_ (i := 4) rfl; have q5 := (HP9.out.keep hS).x.cell_ (i := 5) rfl; have q6 := (HP9.out.keep hS).x.cell_ (i := 6) rfl; go_simp; try (with_reducible rfl))); try simp only [List.nil_append, List.cons_append]))
          (refine fr_end ?_; intro x w9 hS hk)
          have e36 := kn_end_at 36 hk (by rfl)
          rw [Nat.zero_add] at e36
          clear hk
          rw [e36]
          go_wp2_with fail
          go_roundw
          case rel => exact ⟨k + 1, q2, v5, A5, n5, c5, by omega, by go_num, rfl, HN5.out, HQK.out, HP9.out.p.keep hS⟩
          case measure => simp [intOf]; omega
        case first =>
          have hmt := mk_to p
          cases b6
          · have ep := HT.out rfl
            subst ep
            have heA : ∀ w, (binOp .neq 39 (.agg #[.int .i64 mkTop.a.c, .int .i64 mkTop.a.s, .string mkTop.k]) (.agg #[.int .i64 0, .int .i64 0, .string ⟨#[]⟩])).run Try.prog w = .ok (.bool (!mkSame mkTop mkTop)) w := fun w => neqA w mkTop mkTop
            rw [(mkSame_iff _ _).2 rfl] at heA
            (refine wp_region_free (fun w' => Only none_ w7 w') (Only none_) (F := ?_) (by kernel_rfl) 135 (by rfl) (by kernel_rfl) (fun x => ?_) ((Only.refl none_ w7).drew) ?_; rotate_left; (· (simp only [putsL, Act.put, List.setIfInBounds_toArray, List.set_cons_zero, List.set_cons_succ, Nat.reduceAdd]; exact rfl)))
            repeat (first
              | ((first | refine fr_value (c := ?_) (by rfl) (fun w => Only.refl none_ w) (fun x w0 hS hk => ?_) ?_ | refine fr_value_if (c := ?_) (by rfl) (by rfl) (by rfl) (fun w => Only.refl none_ w) (fun x w0 hS hk => ?_) ?_); rotate_left; (· (have hk2 := hk; try simp [knAll, Region.binds] at hk2; have t0 := (G7.out.only hS (fun h => h)).cell_ (i := 0) rfl; have t1 := (G7.out.only hS (fun h => h)).cell_ (i := 1) rfl; have t2 := (G7.out.only hS (fun h => h)).cell_ (i := 2) rfl; go_simp; try (with_reducible rfl))); try simp only [List.nil_append, List.cons_append])
              | ((first | refine fr_skip (by rfl) (by rfl) (by rfl) (fun w => Only.refl none_ w) ?_ | refine fr_skip_too (by rfl) (by rfl) (by rfl) (fun w => Only.refl none_ w) ?_); try simp only [List.nil_append, List.cons_append]))
            (refine fr_end ?_; intro x w9 hS hk)
            have e24 := kn_end_at 24 hk (by rfl)
            rw [Nat.zero_add] at e24
            clear hk
            rw [e24]
            go_wp2_with fail
            go_meet
            case rel => exact ⟨rfl, hS⟩
          · have heR := fun w => neqR w p p
            rw [(mkSame_iff _ _).2 rfl] at heR
            obtain ⟨i6, bb, rfl, hi6, rfl, hcl⟩ := HE.out rfl
            have HCL := Lib.hid hcl
            have hi6' : (i6 : Int) < (n5 : Int) := by omega
            clear hcl
            (refine wp_region_free (fun w' => Only none_ w7 w') (Only none_) (F := ?_) (by kernel_rfl) 135 (by rfl) (by kernel_rfl) (fun x => ?_) ((Only.refl none_ w7).drew) ?_; rotate_left; (· (simp only [putsL, Act.put, List.setIfInBounds_toArray, List.set_cons_zero, List.set_cons_succ, Nat.reduceAdd]; exact rfl)))
            repeat (first
              | ((first | refine fr_value (c := ?_) (by rfl) (fun w => Only.refl none_ w) (fun x w0 hS hk => ?_) ?_ | refine fr_value_if (c := ?_) (by rfl) (by rfl) (by rfl) (fun w => Only.refl none_ w) (fun x w0 hS hk => ?_) ?_); rotate_left; (· (have hk2 := hk; try simp [knAll, Region.binds] at hk2; have t0 := (G7.out.only hS (fun h => h)).cell_ (i := 0) rfl; have t1 := (G7.out.only hS (fun h => h)).cell_ (i := 1) rfl; have t2 := (G7.out.only hS (fun h => h)).cell_ (i := 2) rfl; obtain ⟨s0, s1, s2⟩ := HCL.out _ (O7.out.trans hS); go_simp; try (with_reducible rfl))); try simp only [List.nil_append, List.cons_append])
              | ((first | refine fr_skip (by rfl) (by rfl) (by rfl) (fun w => Only.refl none_ w) ?_ | refine fr_skip_too (by rfl) (by rfl) (by rfl) (fun w => Only.refl none_ w) ?_); try simp only [List.nil_append, List.cons_append])
              | ((first | refine fr_some (fun v _ => v = .agg #[.int .i64 p.a.c, .int .i64 p.a.s, .string p.k]) (fun _ _ _ _ _ _ h => h) (by rfl) (fun x w0 hS hk => ?_) ?_ | refine fr_some_if (fun v _ => v = .agg #[.int .i64 p.a.c, .int .i64 p.a.s, .string p.k]) (fun _ _ _ _ _ _ h => h) (by rfl) (by rfl) (by rfl) (fun x w0 hS hk => ?_) ?_); (· (have hk2 := hk; try simp [knAll, Region.binds] at hk2; skip; refine got_call (f := 19) (args := ?_) (by go_simp; try (with_reducible rfl)) ?_; refine (hmt _).mono ?_; rintro e w8 ⟨rfl, o8⟩; exact ⟨_, rfl, rfl, hS.trans o8, o8⟩)); try simp only [List.nil_append, List.cons_append]))
            (refine fr_end ?_; intro x w9 hS hk)
            have e24 := kn_end_at 24 hk (by rfl)
            rw [Nat.zero_add] at e24
            clear hk
            rw [e24]
            go_wp2_with fail
            go_meet
            case rel => exact ⟨rfl, hS⟩
      case first =>
        by_cases k0 : a.kind = 0
        · have kb : (a.kind == 0) = true := by simp [k0]
          have HD : Hid (raDo a q = putM q a.m) := by rw [Hid, raDo, if_pos k0]
          clear k0
          go_wp2_with (first
            | (go_at_call 13; refine (Prs.rput T.out.p HN.out hn100.out a.m).mono ?_; rintro e w6 ⟨A6, n6, c6, rfl, hn6, p6, o6⟩
               have HN6 := Lib.hid hn6
               have T6 : Hid (Pbx W g mb h1 a v (.slice A6 n6 c6) q (putM q a.m) w6) := ⟨p6, T.out.x.only o6 (fun h => h)⟩
               obtain ⟨y0, y1, y2, y3, y4, y5, y6, y7⟩ := T6.out.cells
               clear hn6 p6 o6)
            | (go_at_call 15; refine (mk_of a.m _).mono ?_; rintro e w7 ⟨rfl, o7⟩; have T7 := Lib.hid (T6.out.keep o7); clear o7)
            | (go_at_call 14; refine (rc_put _ _ _ _ _ a.m _ T7.out.p.rc HK1.out HQ1.out).mono ?_; rw [HBZ.out]; rintro e w8 ⟨rfl, r8⟩
               have M8 : Hid (MetA W g mb h1 a (raDo a q) (.slice A6 n6 c6) w8) := by
                 obtain ⟨v8, p8⟩ := T7.out.idx r8
                 rw [Hid, HD.out]
                 exact ⟨v8, A6, n6, c6, rfl, HN6.out, p8⟩
               clear r8))
          go_meet
          case rel => exact M8.out
        · have kb : (a.kind == 0) = false := by simp [k0]
          have HD : Hid (raDo a q = dropM q a.m.k) := by rw [Hid, raDo, if_neg k0]
          clear k0
          go_wp2_with (first
            | (go_at_call 16; refine (Prs.rdrop T.out.p HN.out hn100.out a.m.k).mono ?_; rintro e w6 ⟨A6, n6, c6, rfl, hn6, p6, o6⟩
               have HN6 := Lib.hid hn6
               have T6 : Hid (Pbx W g mb h1 a v (.slice A6 n6 c6) q (dropM q a.m.k) w6) := ⟨p6, T.out.x.only o6 (fun h => h)⟩
               obtain ⟨y0, y1, y2, y3, y4, y5, y6, y7⟩ := T6.out.cells
               clear hn6 p6 o6)
            | (go_at_call 17; refine (rc_drop _ _ _ _ _ a.m.k _ T6.out.p.rc HK1.out).mono ?_; rw [HBZ.out]; rintro e w8 ⟨rfl, r8⟩
               have M8 : Hid (MetA W g mb h1 a (raDo a q) (.slice A6 n6 c6) w8) := by
                 obtain ⟨v8, p8⟩ := T6.out.idx r8
                 rw [Hid, HD.out]
                 exact ⟨v8, A6, n6, c6, rfl, HN6.out, p8⟩
               clear r8))
          go_meet
          case rel => exact M8.out
    · obtain rfl : k = L := by omega
      go_wp2_with fail
      go_ret
      exact ⟨rfl, HP.out.ho.below (Nat.le_refl _) (fun k hk => hk.elim)⟩

set_option maxHeartbeats 3200000 in
theorem recent_plays_far (v : Value) (l : List Ra) (W : World) (hx : Cel W (fun b => b < W.heap.size) v l.length 8 (l.flatMap raRow)) (hb : (l.all raShort && decide (l.length ≤ 60)) = false) :
    Calls Try.prog 3 #[v] W fun e w' => e = .returned (.bool true) ∧ Below W.heap.size W w' := by
  have hfew := fun w (o : Only none_ W w) => r_few v l w _ (hx.only o (fun _ _ h => h))
  rw [hb] at hfew
  obtain ⟨A, c, rfl, _⟩ := hx
  generalize l.length = L at *
  have HFW := Lib.hid hfew
  clear hfew hb
  have tok : True := trivial
  go_enter Try.func3, Try.ntmps3
  go_wp2_with (first
    | (go_at_call 9; have _t := tok; clear tok; refine (r_speaks _).mono ?_; rintro e w1 ⟨rfl, o1⟩; have O1 := Lib.hid o1; clear o1)
    | (go_at_call 10; refine (HFW.out _ O1.out).mono ?_; rintro e w2 ⟨rfl, o2⟩; have O2 := Lib.hid (O1.out.trans o2); clear o2)
    | (go_at_call 9; refine (r_speaks _).mono ?_; rintro e w3 ⟨rfl, o3⟩; have O3 := Lib.hid (O2.out.trans o3); clear o3))
  go_ret
  exact ⟨rfl, O3.out.below (Nat.le_refl _) (fun k hk => hk.elim)⟩
theorem recent_plays_any (v : Value) (l : List Ra) (W : World) (hx : Cel W (fun b => b < W.heap.size) v l.length 8 (l.flatMap raRow)) :
    Calls Try.prog 3 #[v] W fun e w' => e = .returned (.bool true) ∧ Below W.heap.size W w' := by
  cases hb : (l.all raShort && decide (l.length ≤ 60)) with
  | false => exact recent_plays_far v l W hx hb
  | true =>
    simp only [Bool.and_eq_true, decide_eq_true_eq] at hb
    exact recent_plays v l W hx hb.1 hb.2
end Go.Proofs.Ytclngnoapfjghaa
