/- The call of TableParts answers yes, and changes nothing that was there. The statement itself is proved in another text. -/
import Derived.Test.YtbhdnhnkiibaaaaTbF
namespace Go.Proofs.Ytbhdnhnkiibaaaa
open Go.RowKit
set_option maxRecDepth 100000
set_option linter.all false

theorem lt_empty (a : ByteArray) : lt_ a ⟨#[]⟩ = false := by unfold lt_; cases a.data.toList <;> rfl
theorem rnk_empty (l : List (Pr Int)) : rnk l ⟨#[]⟩ = 0 := List.countP_eq_zero.2 (fun p _ h => by rw [lt_empty] at h; cases h)
theorem scan_all (l : List (Pr Int)) (n : Int) (h : (l.length : Int) ≤ n) : scanL l ⟨#[]⟩ n = l := by
  rw [scanL, rnk_empty, List.drop_zero, List.take_of_length_le (by omega)]
theorem put_le (room : Int) (l : List (Pr Int)) (x : ByteArray) (y : Int) : (putT room l x y).length ≤ l.length + 1 := by
  unfold putT
  split
  · omega
  · rw [put_len]; split <;> omega
theorem has_self {l : List (Pr Int)} (h : Ris l) (i : Nat) (hi : i < l.length) : has l l[i].k = true ∧ rnk l l[i].k = i := by
  refine ⟨List.any_eq_true.2 ⟨_, List.getElem_mem hi, by simp⟩, ?_⟩
  exact (rnk_of h _ i (by omega) (fun j hj hji => h j i hj hi hji) (fun _ => lt_irr _)).symm
/-- What is dropped, and put again, is as it was. -/
theorem put_back {l : List (Pr Int)} (h : Ris l) (i : Nat) (hi : i < l.length) (room : Int) (hr : (l.length : Int) ≤ room) : dropL l l[i].k = l.take i ++ l.drop (i + 1) ∧ putC room (l.take i ++ l.drop (i + 1)) l[i].k = 0 ∧ putT room (l.take i ++ l.drop (i + 1)) l[i].k l[i].v = l := by
  obtain ⟨h1, h2⟩ := has_self h i hi
  have hd : dropL l l[i].k = l.take i ++ l.drop (i + 1) := by rw [dropL, if_pos h1, h2]
  have hris := ris_cut h i
  have hlen : (l.take i ++ l.drop (i + 1)).length = l.length - 1 := by simp; omega
  have hno : has (l.take i ++ l.drop (i + 1)) l[i].k = false := by
    cases hh : has (l.take i ++ l.drop (i + 1)) l[i].k with
    | false => rfl
    | true =>
      obtain ⟨p, hp, he⟩ := List.any_eq_true.1 hh
      have he : p.k = l[i].k := by simpa using he
      rcases List.mem_append.1 hp with hp | hp
      · obtain ⟨j, hj, rfl⟩ := List.mem_iff_getElem.1 hp
        rw [List.getElem_take] at he
        have hj' : j < i := by simp at hj; omega
        have := h j i (by omega) hi hj'
        rw [he, lt_irr] at this; cases this
      · obtain ⟨j, hj, rfl⟩ := List.mem_iff_getElem.1 hp
        rw [List.getElem_drop] at he
        have hj' : i + 1 + j < l.length := by simp at hj; omega
        have := h i (i + 1 + j) hi hj' (by omega)
        rw [he, lt_irr] at this; cases this
  have hrk : rnk (l.take i ++ l.drop (i + 1)) l[i].k = i := by
    refine (rnk_of hris _ i (by omega) (fun j hj hji => ?_) (fun hn => ?_)).symm
    · rw [List.getElem_append_left (by simp; omega), List.getElem_take]
      exact h j i (by omega) hi hji
    · rw [List.getElem_append_right (by simp; omega), List.getElem_drop]
      have hl : (l.take i).length = i := by simp; omega
      have hlt : lt_ l[i].k (l[i + 1 + (i - (l.take i).length)]'(by rw [hl]; omega)).k = true := h i _ hi _ (by omega)
      cases hb : lt_ (l[i + 1 + (i - (l.take i).length)]'(by rw [hl]; omega)).k l[i].k with
      | false => rfl
      | true => have := lt_tr hlt hb; rw [lt_irr] at this; cases this
  have hnf : ¬ room ≤ (((l.take i ++ l.drop (i + 1)).length : Nat) : Int) := by rw [hlen]; omega
  refine ⟨hd, by rw [putC, hno, if_neg (by simp), if_neg hnf], ?_⟩
  rw [putT, if_neg (fun e => hnf e.2), putL, hno, if_neg (by simp), hrk]
  have hl : (l.take i).length = i := by simp; omega
  rw [List.take_append_of_le_length (by omega), List.take_of_length_le (by omega), List.drop_append_of_le_length (by omega), List.drop_of_length_le (by omega), List.nil_append]
  have e : l[i] :: l.drop (i + 1) = l.drop i := (List.drop_eq_getElem_cons hi).symm
  show l.take i ++ l[i] :: l.drop (i + 1) = l
  rw [e, List.take_append_drop]

set_option maxHeartbeats 800000 in
theorem tp_long (A : Option Addr) (L c : Nat) (from_ : ByteArray) (n : Int) (W : World) (h : 40 < L ∨ 40 < from_.size) :
    Calls Try.prog 6 #[.slice A L c, .string from_, .int .i64 n] W fun e w' => e = .returned (.bool true) ∧ Below W.heap.size W w' := by
  have tokA : True := trivial
  obtain ⟨S, hS⟩ : ∃ S, from_.size = S := ⟨_, rfl⟩
  rw [hS] at h
  by_cases h1 : 40 < L
  · clear h
    go_enter Try.func6, Try.ntmps6
    go_wp2_with (first
      | (go_at_call 8; have _t := tokA; clear tokA; refine (t_speaks _).mono ?_; rintro E w1 ⟨rfl, o1⟩; have O1 := Lib.hid o1; clear o1; have tokB : True := trivial)
      | (go_at_call 8; have _t := tokB; clear tokB; refine (t_speaks _).mono ?_; rintro E w2 ⟨rfl, o2⟩; have O2 := Lib.hid (O1.out.trans o2); clear o2))
    go_ret
    exact ⟨rfl, O2.out.below (Nat.le_refl _) (fun k hk => hk.elim)⟩
  · have h2 : 40 < S := h.resolve_left h1
    clear h
    go_enter Try.func6, Try.ntmps6
    go_wp2_with (first
      | (go_at_call 8; have _t := tokA; clear tokA; refine (t_speaks _).mono ?_; rintro E w1 ⟨rfl, o1⟩; have O1 := Lib.hid o1; clear o1; have tokB : True := trivial)
      | (go_at_call 8; have _t := tokB; clear tokB; refine (t_speaks _).mono ?_; rintro E w2 ⟨rfl, o2⟩; have O2 := Lib.hid (O1.out.trans o2); clear o2))
    go_ret
    exact ⟨rfl, O2.out.below (Nat.le_refl _) (fun k hk => hk.elim)⟩

/-- Blocks from s to m have no part in a table. -/
def AwayT (s m g : Nat) (v : Value) : Prop := ∀ b, s ≤ b → b < m → ¬ foot g v b
theorem AwayT.moved {s m g : Nat} {v v' : Value} {w : World} (h : AwayT s m g v) (mv : Moved w v v') (hm : m ≤ w.heap.size) : AwayT s m g v' := by
  rintro b h1 h2 (e | e)
  · exact h b h1 h2 (.inl e)
  · rcases mv b e with e | e
    · exact h b h1 h2 (.inr e)
    · omega
theorem AwayT.first {B w : World} {g : Nat} {room : Int} {l : List (Pr Int)} {v : Value} (h : Tb B g room l v w) (m : Nat) : AwayT w.heap.size m g v := by
  rintro b hb hm e
  have := (h.foot_ge e).2
  omega
/-- The table, and a scan of all of it. -/
structure Tp (W : World) (g s m : Nat) (l : List (Pr Int)) (v va : Value) (w : World) : Prop where
  d : Tb W g 64 l v w
  a : w.ownsRow s 48 2 va l.length (l.flatMap prI)
  hv : ∀ k, va.ownBlock = some k → k < m
  aw : AwayT s m g v
  hm : m ≤ w.heap.size
theorem Tp.keep {W w w' : World} {g s m : Nat} {l : List (Pr Int)} {v va : Value} (h : Tp W g s m l v va w) (o : Only none_ w w') : Tp W g s m l v va w' := ⟨h.d.keep o, owns_only h.a o (fun _ _ h => h), h.hv, h.aw, Nat.le_trans h.hm o.size⟩
theorem own_two {w : World} {s : Nat} {A : Option Addr} {n c : Nat} {l : List (Pr Int)} (h : w.ownsRow s 48 2 (.slice A n c) n (l.flatMap prI)) (i : Nat) (hi : i < l.length) (hn : n = l.length) :
    ∃ b, A = some ⟨b, 0, none⟩ ∧ w.cell? ⟨b, i * 2, none⟩ = some (.string l[i].k) ∧ w.cell? ⟨b, i * 2 + 1, none⟩ = some (.int .i64 l[i].v) := by
  obtain ⟨b, off, rfl, _, _, h0, h1⟩ := prI_cell (Cel.of_own h) i hi hn
  have : off = 0 := by
    rcases h.2 with ⟨e, _⟩ | ⟨g, cap, cur, e, _⟩
    · cases e
    · injection e with e; injection e with e; injection e
  subst this
  rw [Nat.zero_add] at h0 h1
  exact ⟨b, rfl, h0, h1⟩
/-- A drop, and a put again. -/
theorem tp_back {W w : World} {g s m : Nat} {l : List (Pr Int)} {v va : Value} (h : Tp W g s m l v va w) (i : Nat) (hi : i < l.length) :
    Calls Try.prog 28 #[.pointer (some ⟨g, 0, none⟩), .string l[i].k] w fun e w' => e = .returned (.bool true) ∧ ∃ v', Tb W g 64 (l.take i ++ l.drop (i + 1)) v' w' ∧
      w'.ownsRow s 48 2 va l.length (l.flatMap prI) ∧ AwayT s m g v' ∧ m ≤ w'.heap.size ∧ Only (foot g v) w w' := by
  obtain ⟨h1, h2⟩ := has_self h.d.rs i hi
  obtain ⟨p1, _, _⟩ := put_back h.d.rs i hi 64 h.d.lr
  have := tb_drop W g 64 l v l[i].k w h.d
  rw [h1, p1] at this
  refine this.mono ?_
  rintro e w' ⟨rfl, v', d', o', m'⟩
  exact ⟨rfl, v', d', owns_only h.a o' (fun k hk => h.aw k (h.a.lt k hk).1 (h.hv k hk)), h.aw.moved m' h.hm, Nat.le_trans h.hm o'.size, o'⟩
theorem tp_again {W w : World} {g s m : Nat} {l : List (Pr Int)} {v va : Value} (hr : Ris l) (hl : (l.length : Int) ≤ 64) (i : Nat) (hi : i < l.length) (hd : Tb W g 64 (l.take i ++ l.drop (i + 1)) v w) (ha : w.ownsRow s 48 2 va l.length (l.flatMap prI)) (hv : ∀ k, va.ownBlock = some k → k < m) (haw : AwayT s m g v) (hm : m ≤ w.heap.size) :
    Calls Try.prog 27 #[.pointer (some ⟨g, 0, none⟩), .string l[i].k, .int .i64 l[i].v] w fun e w' => e = .returned (.int .i64 0) ∧ ∃ v', Tp W g s m l v' va w' := by
  obtain ⟨_, p2, p3⟩ := put_back hr i hi 64 hl
  have := tb_put W g 64 _ v l[i].k l[i].v w hd
  rw [p2, p3] at this
  refine this.mono ?_
  rintro e w' ⟨rfl, v', d', o', m'⟩
  exact ⟨rfl, v', d', owns_only ha o' (fun k hk => haw k (ha.lt k hk).1 (hv k hk)), hv, haw.moved m' hm, Nat.le_trans hm o'.size⟩

set_option maxHeartbeats 25600000 in
theorem tp_yes (A : Option Addr) (c : Nat) (l : List ByteArray) (from_ : ByteArray) (n : Int) (W : World) (hl : Cel W (fun b => b < W.heap.size) (.slice A l.length c) l.length 1 (l.flatMap strC)) (h1 : l.length ≤ 40) (h2 : from_.size ≤ 40) :
    Calls Try.prog 6 #[.slice A l.length c, .string from_, .int .i64 n] W fun e w' => e = .returned (.bool true) ∧ Below W.heap.size W w' := by
  have HC := Lib.hid (fun (w' : World) (o : Only none_ W w') => hl.only o (fun _ _ h => h))
  obtain ⟨L, hL⟩ : ∃ L, l.length = L := ⟨_, rfl⟩
  have HLL := Lib.hid hL
  rw [hL] at HC h1 ⊢
  have h1' : ¬ (40 < L) := by omega
  have h2' : ¬ (40 < from_.size) := by omega
  have HNW : Hid (∀ w0, Only none_ W w0 → Calls Try.prog 10 #[.int .i64 64] w0 fun e w' => ∃ g, e = .returned (.tuple #[.pointer (some ⟨g, 0, none⟩), .int .i64 0]) ∧ Tb W g 64 [] (.slice none 0 0) w') := fun w0 o => (tb_new_yes W 64 w0 o (by decide) (by decide)).mono fun e w' h => by
    obtain ⟨g, h2, _, h3, _⟩ := h
    exact ⟨g, h2, h3⟩
  clear hl hL
  go_enter Try.func6, Try.ntmps6
  go_wp2_with (first
    | (go_at_call 8; refine (t_speaks _).mono ?_; rintro E w0 ⟨rfl, o0⟩; have O0 := Lib.hid o0; clear o0)
    | (go_at_call 10; refine (HNW.out _ O0.out).mono ?_; rintro E w1 ⟨g, rfl, d1⟩
       have D1 := Lib.hid d1
       clear d1))
  go_loopw [44] (fun k wr => ∃ j : Nat, j ≤ L ∧ k = .int .i64 j ∧ ∃ T v, T.length ≤ j ∧ Tb W g 64 T v wr) (fun k _ => L - (intOf k).toNat)
  case atStart => exact ⟨0, by omega, rfl, [], _, by simp, D1.out⟩
  case round =>
    clear D1
    obtain ⟨j, hj, rfl, T, v, hT, d⟩ := hrel
    have D := Lib.hid d
    by_cases hlt : j < L
    · obtain ⟨b, off, hA, _, _, hc0⟩ := str_cell (HC.out _ d.ho) j (by have := HLL.out; omega) HLL.out.symm
      subst hA
      generalize l[j]'(by have := HLL.out; omega) = key at hc0
      have HP := Lib.hid (tb_put W g 64 T v key j wr d)
      have HT := Lib.hid hT
      clear d hT
      by_cases hk : 40 < key.size
      · go_wp2_with fail
        go_ret
        exact ⟨rfl, D.out.ho.below (Nat.le_refl _) (fun k hk => hk.elim)⟩
      · go_wp2_with (first
          | (go_at_call 27; refine HP.out.mono ?_; rintro E w2 ⟨rfl, v2, d2, _⟩
             have D2 := Lib.hid d2
             clear d2))
        go_roundw
        case rel => exact ⟨j + 1, by omega, by go_num, _, v2, by have := put_le 64 T key j; have := HT.out; omega, D2.out⟩
        case measure => simp [intOf]; omega
    · have hTl : T.length ≤ 40 := by omega
      have hT64 : (T.length : Int) ≤ 64 := by omega
      have HSA := Lib.hid (fun (v : Value) (w : World) (h : Tb W g 64 T v w) => tb_scan W g 64 T v ⟨#[]⟩ 64 w h)
      rw [scan_all T 64 hT64] at HSA
      have HRK := Lib.hid (fun (v : Value) (w : World) (h : Tb W g 64 T v w) => tb_rank W g 64 T v from_ w h)
      have HSP := Lib.hid (fun (v : Value) (w : World) (h : Tb W g 64 T v w) => tb_scan W g 64 T v from_ n w h)
      have hsl := scan_len T from_ n
      have hrl := rnk_le T from_
      obtain ⟨r, hr⟩ : ∃ r, rnk T from_ = r := ⟨_, rfl⟩
      obtain ⟨m, hm⟩ : ∃ m, (scanL T from_ n).length = m := ⟨_, rfl⟩
      obtain ⟨N, hN⟩ : ∃ N, T.length = N := ⟨_, rfl⟩
      have HN := Lib.hid hN
      have HM := Lib.hid hm
      have AT : Hid (∀ i (hi : i < T.length), Op.bytesLess T[i].k.toList from_.toList = decide (i < r)) := fun i hi => by
        rw [Lib.toList_data, Lib.toList_data, ← hr]; exact rnk_at d.rs from_ i hi
      have PT : Hid (∀ i (hi : i < m), ∃ (h1 : i < (scanL T from_ n).length) (h2 : r + i < T.length), (scanL T from_ n)[i] = T[r + i]) := fun i hi => by
        refine ⟨by omega, by rw [hm] at hsl; rw [hr] at hsl; omega, ?_⟩
        simp only [scanL, List.getElem_take, List.getElem_drop, hr]
      rw [hm, hr, hN] at hsl
      rw [hr, hN] at hrl
      rw [hm] at HSP
      rw [hr] at HRK
      rw [hN] at HSA hTl hT64
      have hmx : ∀ ts t w, (Builtin.max_ ts t #[.int .i64 n, .int .i64 0]).run Try.prog w = .ok (.int .i64 (n.toNat : Int)) w := fun ts t w => by
        rw [run_max_int2]
        by_cases hk : n < 0
        · rw [if_pos (by omega)]; congr 2; omega
        · rw [if_neg (by omega)]; congr 2; omega
      have hmn : ∀ ts t w, (Builtin.min_ ts t #[.int .i64 (n.toNat : Int), .int .i64 ((N : Int) - (r : Int))]).run Try.prog w = .ok (.int .i64 (m : Int)) w := fun ts t w => by
        rw [run_min_int2]
        by_cases hk : (N : Int) - (r : Int) < (n.toNat : Int)
        · rw [if_pos hk]; congr 2; omega
        · rw [if_neg hk]; congr 2; omega
      have hw1 : IntKind.i64.wrap ((N : Int) - (r : Int)) = (N : Int) - (r : Int) := IntWalk.i64_in _ (by omega)
      generalize (n.toNat : Int) = nn at hmx hmn
      have hmm : ((m : Int) != (m : Int)) = false := by simp
      have hr0 : ¬ ((r : Int) < 0) := by omega
      have hrN : ¬ ((N : Int) < (r : Int)) := by omega
      have hrN2 : ¬ (N < r) := by omega
      have HRN : Hid (r ≤ N ∧ N ≤ 40 ∧ m ≤ N - r) := ⟨hrl, hTl, by omega⟩
      have tokA : True := trivial
      clear d hT hj hTl hT64 hsl hr hm hN hrl
      go_wp2_with (first
        | (go_at_call 18; have _t := tokA; clear tokA; refine (HSA.out _ _ D.out).mono ?_; rintro E w2 ⟨va, rfl, own2, o2⟩
           obtain ⟨Aa, na, ca, rfl⟩ := own_shape own2
           have P2 : Hid (Tp W g wr.heap.size w2.heap.size T v (.slice Aa na ca) w2) := ⟨D.out.keep o2, by rw [HN.out]; exact own2, fun k hk => (own2.lt k hk).2, AwayT.first D.out _, Nat.le_refl _⟩
           have NA : Hid (na = N) := by
             rcases own2.2 with ⟨e, h0⟩ | ⟨_, _, _, e, _⟩
             · injection e with _ e _; exact e.trans h0.symm
             · injection e
           obtain rfl : N = na := NA.out.symm
           clear own2 o2
           have tokB : True := trivial)
        | (go_at_call 14; refine (HRK.out _ _ P2.out.d).mono ?_; rintro E w3 ⟨rfl, o3⟩
           have P3 := Lib.hid (P2.out.keep o3)
           clear o3)
        | (go_at_call 18; have _t := tokB; clear tokB; refine (HSP.out _ _ P3.out.d).mono ?_; rintro E w4 ⟨vp, rfl, own4, o4⟩
           obtain ⟨Ap, np, cp, rfl⟩ := own_shape own4
           have P4 := Lib.hid (P3.out.keep o4)
           have NP : Hid (np = m) := by
             rcases own4.2 with ⟨e, h0⟩ | ⟨_, _, _, e, _⟩
             · injection e with _ e _; exact e.trans h0.symm
             · injection e
           obtain rfl : m = np := NP.out.symm
           have Q4 := Lib.hid own4
           clear own4 o4))
      have hneq := neq_pairI
      have hm40 : m ≤ 40 := by have := HRN.out; omega
      have hN40 : N ≤ 40 := HRN.out.2.1
      obtain ⟨s0, hs0⟩ : ∃ s0, wr.heap.size = s0 := ⟨_, rfl⟩
      rw [hs0] at P4
      clear P2 P3 hs0 hmx hmn hw1
      go_loopw [88] (fun s wq => ∃ i : Nat, i ≤ m ∧ s = .int .i64 i ∧ Only none_ w4 wq) (fun s _ => m - (intOf s).toNat)
      case atStart => exact ⟨0, by omega, rfl, Only.refl _ _⟩
      case round =>
        obtain ⟨i, hi, rfl, o5⟩ := hrel
        have O5 := Lib.hid o5
        by_cases hlt2 : i < m
        · have HLT2 := Lib.hid hlt2
          obtain ⟨e1, e2, e3⟩ := PT.out i hlt2
          obtain ⟨bp, hAp, cp0, cp1⟩ := own_two (owns_only Q4.out o5 (fun _ _ h => h)) i e1 HM.out.symm
          subst hAp
          rw [e3] at cp0 cp1
          obtain ⟨ba, hAa, ca0, ca1⟩ := own_two (owns_only (by have := P4.out.a; rw [HN.out] at this; exact this) o5 (fun _ _ h => h)) (r + i) e2 HN.out.symm
          subst hAa
          have hbl := AT.out (r + i) e2
          have hbl2 : decide (r + i < r) = false := by simp
          rw [hbl2] at hbl
          have hqN : r + i < N := by have := HN.out; omega
          obtain ⟨q, hq⟩ : ∃ q, r + i = q := ⟨_, rfl⟩
          have hw2 : IntKind.i64.wrap ((r : Int) + (i : Int)) = (q : Int) := by rw [IntWalk.i64_in _ (by have := HRN.out; omega)]; omega
          generalize T[r + i].k = kk at cp0 ca0 hbl
          generalize T[r + i].v = vv at cp1 ca1
          simp only [hq] at ca0 ca1 hqN
          have hneq2 := fun w => hneq w kk vv
          clear e3 hbl2 hq o5 hneq
          go_wp2_with fail
          go_quiet (fail)
          go_wp2_with fail
          go_roundw
          case rel => exact ⟨i + 1, by have := HLT2.out; omega, by go_num, O5.out.drewN _⟩
          case measure => have h1 := HLT2.out; simp [intOf]; omega
        · have P5 := Lib.hid (P4.out.keep o5)
          clear o5 P4 Q4
          have hneq0 := hneq
          by_cases hr0' : r = 0
          · have hrz : ¬ ((0 : Int) < (r : Int)) := by omega
            have hrz2 : ¬ (0 < r) := by omega
            clear hr0'
            go_wp2_with fail
            go_loopw [126] (fun s wq => ∃ i : Nat, i ≤ N ∧ s = .int .i64 i ∧ ∃ v', Tp W g s0 w2.heap.size T v' (.slice Aa N ca) wq) (fun s _ => N - (intOf s).toNat)
            case atStart => exact ⟨0, by omega, rfl, v, P5.out⟩
            case round =>
              obtain ⟨i, hi, rfl, v', s6⟩ := hrel
              have S6 := Lib.hid s6
              by_cases hlt3 : i < N
              · have HLT3 := Lib.hid hlt3
                have hiT : i < T.length := by have := HN.out; omega
                obtain ⟨bq, hAq, cq0, cq1⟩ := own_two (by have := s6.a; rw [HN.out] at this; exact this) i hiT HN.out.symm
                subst hAq
                have HRS := Lib.hid s6.d.rs
                have HLR := Lib.hid s6.d.lr
                have HDR := Lib.hid (fun (w9 : World) (o : Only none_ wr w9) => tp_back (s6.keep o) i hiT)
                have HAG := Lib.hid (fun (w9 : World) (v9 : Value) => tp_again (W := W) (w := w9) (g := g) (s := s0) (m := w2.heap.size) (v := v9) (va := .slice (some ⟨bq, 0, none⟩) N ca) s6.d.rs s6.d.lr i hiT)
                have HFT := Lib.hid (fun k (h : foot g v' k) => (s6.d.foot_ge h).2)
                have B0 : Hid (Blk (wr.alloc (.cells #[.string T[i].k, .int .i64 T[i].v] 48)) wr.heap.size 48 #[.string T[i].k, .int .i64 T[i].v]) := Blk.new _ _ _
                have HVS : Hid (∀ k, (Value.slice (some ⟨bq, 0, none⟩) N ca).ownBlock = some k → k < w2.heap.size) := s6.hv
                generalize T[i].k = kk at *
                generalize T[i].v = vv at *
                have b0 := B0.out.cell_ (i := 0) rfl
                have b1 := B0.out.cell_ (i := 1) rfl
                clear s6 hlt3
                go_wp2_with (first
                  | (go_at_call 28; refine (HDR.out _ ((Only.refl none_ wr).alloc _)).mono ?_; rintro E w7 ⟨rfl, v7, d7, a7, aw7, hm7, o7⟩
                     have B7 := B0.out.only o7 (fun h => by have := HFT.out _ h; omega)
                     have b70 := B7.cell_ (i := 0) rfl
                     have b71 := B7.cell_ (i := 1) rfl
                     have H7 := Lib.hid (HAG.out w7 v7 d7 a7 HVS.out aw7 hm7)
                     clear d7 a7 aw7 hm7 o7 B7)
                  | (go_at_call 27; refine H7.out.mono ?_; rintro E w8 ⟨rfl, v8, s8⟩
                     have S8 := Lib.hid s8
                     clear s8))
                go_roundw
                case rel => exact ⟨i + 1, by have := HLT3.out; omega, by go_num, v8, S8.out⟩
                case measure => have h1 := HLT3.out; simp [intOf]; omega
              · have hD := s6.d
                go_wp2_with (first
                  | (go_at_call 18; refine (HSA.out _ _ S6.out.d).mono ?_; rintro E w9 ⟨vb, rfl, own9, o9⟩
                     obtain ⟨Ab, nb, cb, rfl⟩ := own_shape own9
                     have NB : Hid (nb = N) := by
                       rcases own9.2 with ⟨e, h0⟩ | ⟨_, _, _, e, _⟩
                       · injection e with _ e _; exact e.trans h0.symm
                       · injection e
                     obtain rfl : N = nb := NB.out.symm
                     have S9 := Lib.hid (S6.out.keep o9)
                     have Q9 := Lib.hid own9
                     clear own9 o9))
                go_loopw [149] (fun s wz => ∃ i : Nat, i ≤ N ∧ s = .int .i64 i ∧ Only none_ w9 wz) (fun s _ => N - (intOf s).toNat)
                case atStart => exact ⟨0, by omega, rfl, Only.refl _ _⟩
                case round =>
                  obtain ⟨z, hz, rfl, o10⟩ := hrel
                  have O10 := Lib.hid o10
                  by_cases hlt4 : z < N
                  · have HLT4 := Lib.hid hlt4
                    have hzT : z < T.length := by have := HN.out; omega
                    obtain ⟨b1, hA1, c10, c11⟩ := own_two (owns_only Q9.out o10 (fun _ _ h => h)) z hzT HN.out.symm
                    subst hA1
                    obtain ⟨b2, hA2, c20, c21⟩ := own_two (by have := (S9.out.keep o10).a; rw [HN.out] at this; exact this) z hzT HN.out.symm
                    subst hA2
                    generalize T[z].k = kk at *
                    generalize T[z].v = vv at *
                    have hneq2 := fun w => hneq w kk vv
                    have hNN : ((N : Int) != (N : Int)) = false := by simp
                    clear o10
                    go_wp2_with fail
                    go_quiet (fail)
                    go_wp2_with fail
                    go_roundw
                    case rel => exact ⟨z + 1, by have := HLT4.out; omega, by go_num, O10.out.drewN _⟩
                    case measure => have h1 := HLT4.out; simp [intOf]; omega
                  · clear o10
                    go_wp2_with fail
                    go_ret
                    exact ⟨rfl, (S9.out.d.ho.trans O10.out).below (Nat.le_refl _) (fun k hk => hk.elim)⟩
          · obtain ⟨r', hr'⟩ : ∃ r', r = r' + 1 := ⟨r - 1, by omega⟩
            have hrp : (0 : Int) < (r : Int) := by omega
            have hrp2 : 0 < r := by omega
            have hw3 : IntKind.i64.wrap ((r : Int) - 1) = (r' : Int) := by rw [IntWalk.i64_in _ (by have := HRN.out; omega)]; omega
            have hr'N : r' < N := by have := HRN.out; omega
            have hr'T : r' < T.length := by have := HN.out; omega
            obtain ⟨ba, hAa, ca0, ca1⟩ := own_two (by have := P5.out.a; rw [HN.out] at this; exact this) r' hr'T HN.out.symm
            subst hAa
            have hbl := AT.out r' hr'T
            have hbl2 : decide (r' < r) = true := by simp; omega
            rw [hbl2] at hbl
            generalize T[r'].k = kk at ca0 hbl
            clear hbl2 hr0' hr'
            go_wp2_with fail
            go_loopw [126] (fun s wq => ∃ i : Nat, i ≤ N ∧ s = .int .i64 i ∧ ∃ v', Tp W g s0 w2.heap.size T v' (.slice (some ⟨ba, 0, none⟩) N ca) wq) (fun s _ => N - (intOf s).toNat)
            case atStart => exact ⟨0, by omega, rfl, v, P5.out⟩
            case round =>
              obtain ⟨i, hi, rfl, v', s6⟩ := hrel
              have S6 := Lib.hid s6
              by_cases hlt3 : i < N
              · have HLT3 := Lib.hid hlt3
                have hiT : i < T.length := by have := HN.out; omega
                obtain ⟨bq, hAq, cq0, cq1⟩ := own_two (by have := s6.a; rw [HN.out] at this; exact this) i hiT HN.out.symm
                injection hAq with hAq
                injection hAq with hAq
                subst hAq
                have HRS := Lib.hid s6.d.rs
                have HLR := Lib.hid s6.d.lr
                have HDR := Lib.hid (fun (w9 : World) (o : Only none_ wr w9) => tp_back (s6.keep o) i hiT)
                have HAG := Lib.hid (fun (w9 : World) (v9 : Value) => tp_again (W := W) (w := w9) (g := g) (s := s0) (m := w2.heap.size) (v := v9) (va := .slice (some ⟨ba, 0, none⟩) N ca) s6.d.rs s6.d.lr i hiT)
                have HFT := Lib.hid (fun k (h : foot g v' k) => (s6.d.foot_ge h).2)
                have B0 : Hid (Blk (wr.alloc (.cells #[.string T[i].k, .int .i64 T[i].v] 48)) wr.heap.size 48 #[.string T[i].k, .int .i64 T[i].v]) := Blk.new _ _ _
                have HVS : Hid (∀ k, (Value.slice (some ⟨ba, 0, none⟩) N ca).ownBlock = some k → k < w2.heap.size) := s6.hv
                generalize T[i].k = kk at *
                generalize T[i].v = vv at *
                have b0 := B0.out.cell_ (i := 0) rfl
                have b1 := B0.out.cell_ (i := 1) rfl
                clear s6 hlt3
                go_wp2_with (first
                  | (go_at_call 28; refine (HDR.out _ ((Only.refl none_ wr).alloc _)).mono ?_; rintro E w7 ⟨rfl, v7, d7, a7, aw7, hm7, o7⟩
                     have B7 := B0.out.only o7 (fun h => by have := HFT.out _ h; omega)
                     have b70 := B7.cell_ (i := 0) rfl
                     have b71 := B7.cell_ (i := 1) rfl
                     have H7 := Lib.hid (HAG.out w7 v7 d7 a7 HVS.out aw7 hm7)
                     clear d7 a7 aw7 hm7 o7 B7)
                  | (go_at_call 27; refine H7.out.mono ?_; rintro E w8 ⟨rfl, v8, s8⟩
                     have S8 := Lib.hid s8
                     clear s8))
                go_roundw
                case rel => exact ⟨i + 1, by have := HLT3.out; omega, by go_num, v8, S8.out⟩
                case measure => have h1 := HLT3.out; simp [intOf]; omega
              · have hD := s6.d
                go_wp2_with (first
                  | (go_at_call 18; refine (HSA.out _ _ S6.out.d).mono ?_; rintro E w9 ⟨vb, rfl, own9, o9⟩
                     obtain ⟨Ab, nb, cb, rfl⟩ := own_shape own9
                     have NB : Hid (nb = N) := by
                       rcases own9.2 with ⟨e, h0⟩ | ⟨_, _, _, e, _⟩
                       · injection e with _ e _; exact e.trans h0.symm
                       · injection e
                     obtain rfl : N = nb := NB.out.symm
                     have S9 := Lib.hid (S6.out.keep o9)
                     have Q9 := Lib.hid own9
                     clear own9 o9))
                go_loopw [149] (fun s wz => ∃ i : Nat, i ≤ N ∧ s = .int .i64 i ∧ Only none_ w9 wz) (fun s _ => N - (intOf s).toNat)
                case atStart => exact ⟨0, by omega, rfl, Only.refl _ _⟩
                case round =>
                  obtain ⟨z, hz, rfl, o10⟩ := hrel
                  have O10 := Lib.hid o10
                  by_cases hlt4 : z < N
                  · have HLT4 := Lib.hid hlt4
                    have hzT : z < T.length := by have := HN.out; omega
                    obtain ⟨b1, hA1, c10, c11⟩ := own_two (owns_only Q9.out o10 (fun _ _ h => h)) z hzT HN.out.symm
                    subst hA1
                    obtain ⟨b2, hA2, c20, c21⟩ := own_two (by have := (S9.out.keep o10).a; rw [HN.out] at this; exact this) z hzT HN.out.symm
                    injection hA2 with hA2
                    injection hA2 with hA2
                    subst hA2
                    generalize T[z].k = kk at *
                    generalize T[z].v = vv at *
                    have hneq2 := fun w => hneq w kk vv
                    have hNN : ((N : Int) != (N : Int)) = false := by simp
                    clear o10
                    go_wp2_with fail
                    go_quiet (fail)
                    go_wp2_with fail
                    go_roundw
                    case rel => exact ⟨z + 1, by have := HLT4.out; omega, by go_num, O10.out.drewN _⟩
                    case measure => have h1 := HLT4.out; simp [intOf]; omega
                  · clear o10
                    go_wp2_with fail
                    go_ret
                    exact ⟨rfl, (S9.out.d.ho.trans O10.out).below (Nat.le_refl _) (fun k hk => hk.elim)⟩
end Go.Proofs.Ytbhdnhnkiibaaaa
