/- What the call of DiceAmong comes to. No statement of the seat is proved here. -/
import Derived.Test.YtifeapknnnhhnaaDcG
namespace Go.Proofs.Ytifeapknnnhhnaa
open Go.RowKit
set_option linter.all false
set_option maxRecDepth 100000

/-- What was told, and what is left, are all together. -/
def Amg (l out R : List Int) (j : Nat) : Prop := ∀ z : Int, R.count z + (out.take j).count z = l.count z
theorem amg_take {out : List Int} {j : Nat} {n : Int} (hn : out[j]? = some n) (z : Int) : (out.take (j + 1)).count z = (out.take j).count z + (if n = z then 1 else 0) := by
  rw [List.take_add_one, hn, List.count_append]
  simp only [Option.toList_some, List.count_singleton, beq_iff_eq]
theorem amg_step {l out R : List Int} {j q : Nat} {n : Int} (h : Amg l out R j) (hn : out[j]? = some n) (hq : R[q]? = some n) : Amg l out (R.eraseIdx q) (j + 1) := fun z => by
  obtain ⟨hlt, e⟩ := List.getElem?_eq_some_iff.1 hq
  have h1 := erase_count hlt z
  have h2 := h z
  rw [amg_take hn, ← h2, ← h1, e]
  omega
theorem amg_has {l out R : List Int} {j : Nat} {n : Int} (h : Amg l out R j) (hc : ∀ z : Int, out.count z ≤ l.count z) (hn : out[j]? = some n) : ∃ q : Nat, R[q]? = some n := by
  have h1 := h n
  have h2 := hc n
  have h3 : (out.take (j + 1)).count n ≤ out.count n := (List.take_sublist _ _).count_le n
  rw [amg_take hn, if_pos rfl] at h3
  have h4 : 0 < R.count n := by omega
  obtain ⟨q, hq⟩ := List.mem_iff_getElem?.1 (List.count_pos_iff.1 h4)
  exact ⟨q, hq⟩
theorem any_take {R : List Int} {i : Nat} {x n : Int} (hx : R[i]? = some x) : (R.take (i + 1)).any (· == n) = ((R.take i).any (· == n) || x == n) := by
  rw [List.take_add_one, hx, List.any_append]
  simp

/-- What holds ahead of a round. -/
structure Am (W : World) (d : Nat) (out R : List Int) (got rest : Value) (w : World) : Prop where
  dc : ∃ v zs, Dc w W.heap.size d v zs
  ng : Nm w (fun b => W.heap.size ≤ b) got out
  nr : Nm w (fun b => d < b) rest R
  ho : Only none_ W w

set_option maxHeartbeats 3200000 in
theorem among_long (X Y : Value) (a l : List Int) (k : Int) (W : World) (hX : Nm W (fun b => b < W.heap.size) X a) (hY : Nm W (fun b => b < W.heap.size) Y l) (hl : ¬ (a.length ≤ 60 ∧ l.length ≤ 30)) :
    Calls Try.prog 4 #[X, Y, .int .i64 k] W fun e w' => e = .returned (.bool true) ∧ Only none_ W w' := by
  obtain ⟨A, c, rfl⟩ := hX.shape
  obtain ⟨A2, c2, rfl⟩ := hY.shape
  generalize a.length = La at hl ⊢
  generalize l.length = Ll at hl ⊢
  clear hX hY
  have tok1 : True := trivial
  by_cases h1 : La ≤ 60
  · have g1 : ¬ ((60 : Int) < (La : Int)) := by omega
    have g3 : ((30 : Int) < (Ll : Int)) := by omega
    clear hl
    go_enter Try.func4, Try.ntmps4
    go_wp2_with (first
      | (go_at_call 6; have _t := tok1; clear tok1; refine (dc_speaks _).mono ?_; rintro E w1 ⟨rfl, o1⟩; have O1 := Lib.hid o1; clear o1)
      | (go_at_call 6; refine (dc_speaks _).mono ?_; rintro E w2 ⟨rfl, o2⟩; have O2 := Lib.hid (O1.out.trans o2); clear o2))
    go_ret
    exact ⟨rfl, O2.out⟩
  · have g1 : ((60 : Int) < (La : Int)) := by omega
    clear hl
    go_enter Try.func4, Try.ntmps4
    go_wp2_with (first
      | (go_at_call 6; have _t := tok1; clear tok1; refine (dc_speaks _).mono ?_; rintro E w1 ⟨rfl, o1⟩; have O1 := Lib.hid o1; clear o1)
      | (go_at_call 6; refine (dc_speaks _).mono ?_; rintro E w2 ⟨rfl, o2⟩; have O2 := Lib.hid (O1.out.trans o2); clear o2))
    go_ret
    exact ⟨rfl, O2.out⟩

set_option maxHeartbeats 12800000 in
theorem among_short (X Y : Value) (a l : List Int) (k : Int) (W : World) (hX : Nm W (fun b => b < W.heap.size) X a) (hY : Nm W (fun b => b < W.heap.size) Y l) (ha : a.length ≤ 60) (hl : l.length ≤ 30) :
    Calls Try.prog 4 #[X, Y, .int .i64 k] W fun e w' => e = .returned (.bool true) ∧ Only none_ W w' := by
  obtain ⟨i0, hi0, hz0, hz1, hz2⟩ := info_parts int_info
  obtain ⟨A, c, rfl⟩ := hX.shape
  obtain ⟨A2, c2, rfl⟩ := hY.shape
  obtain ⟨La, hLa⟩ : ∃ L, a.length = L := ⟨_, rfl⟩
  obtain ⟨n, hn⟩ : ∃ L, l.length = L := ⟨_, rfl⟩
  rw [hLa] at ha hX ⊢
  rw [hn] at hl hY ⊢
  obtain ⟨kk, hkk⟩ : ∃ kk, clampK k n = kk := ⟨_, rfl⟩
  have hkn : kk ≤ n := by rw [← hkk]; exact clamp_le k n
  obtain ⟨y, hmx1, hmn1⟩ : ∃ y : Int, (∀ ts t w, (Builtin.max_ ts t #[.int .i64 k, .int .i64 0]).run Try.prog w = .ok (.int .i64 y) w) ∧ ∀ ts t w, (Builtin.min_ ts t #[.int .i64 y, .int .i64 (n : Int)]).run Try.prog w = .ok (.int .i64 (kk : Int)) w := by
    by_cases h1 : k < 0
    · refine ⟨0, fun ts t w => by rw [run_max_int2, if_pos h1], fun ts t w => ?_⟩
      rw [run_min_int2, if_neg (by omega), show (kk : Int) = 0 from by rw [← hkk, clampK]; omega]
    · refine ⟨k, fun ts t w => by rw [run_max_int2, if_neg h1], fun ts t w => ?_⟩
      rw [run_min_int2]
      by_cases h2 : (n : Int) < k
      · rw [if_pos h2, show kk = n from by rw [← hkk, clampK]; omega]
      · rw [if_neg h2, show (kk : Int) = k from by rw [← hkk, clampK]; omega]
  obtain ⟨out, hout⟩ : ∃ out, (sqN a l kk).out = out := ⟨_, rfl⟩
  have hlen : out.length = kk := by rw [← hout]; exact (sq_len a l kk (by omega)).1
  have HC : Hid (∀ z : Int, out.count z ≤ l.count z) := fun z => by have := sq_count a l z kk (by omega); rw [hout] at this; omega
  have HLen := Lib.hid hlen
  have HSO : Hid (∀ (d : Nat) (v : Value) (w : World), Dc w W.heap.size d v a → Nm w (fun b => b < W.heap.size) (.slice A2 n c2) l → Calls Try.prog 14 #[.pointer (some ⟨d, 0, none⟩), .slice A2 n c2, .int .i64 k] w fun e w' => ∃ v1 v' zs, e = .returned v1 ∧ Nm w' (fun b => w.heap.size ≤ b) v1 out ∧ Dc w' W.heap.size d v' zs ∧ Only (one d) w w') := fun d v w h1 h2 => by
    refine (dc_some W.heap.size d v _ a l k _ w h1 h2 (by omega)).mono ?_
    rintro E w' ⟨v1, v', rfl, n1, d1, o1, _⟩
    rw [hn, hkk, hout] at n1
    exact ⟨v1, v', _, rfl, n1, d1, o1⟩
  have HX := Lib.hid hX
  have HY := Lib.hid hY
  have HLa := Lib.hid hLa
  have HLn := Lib.hid hn
  have g1 : ¬ ((60 : Int) < (La : Int)) := by omega
  have g3 : ¬ ((30 : Int) < (n : Int)) := by omega
  have hp1 := nums_one l
  have HLL : Hid (0 + n ≤ maxLen ∧ (0 + n) * 8 ≤ 140737488355328) := by simp only [Hid, maxLen]; omega
  clear hX hY hLa hn hkk hout hlen
  go_enter Try.func4, Try.ntmps4
  go_wp2_with (first
    | (go_at_call 6; refine (dc_speaks _).mono ?_; rintro E w1 ⟨rfl, o1⟩
       have O1 := Lib.hid o1
       clear o1)
    | (go_at_call 8; refine (dc_new _ a _ _ (HX.out.keep O1.out) (by rw [HLa.out]; omega)).mono ?_; rintro E w2 ⟨d, v2, rfl, d2, o2⟩
       have D2 := Lib.hid (d2.base O1.out.size)
       have O2 := Lib.hid (O1.out.trans o2)
       clear d2 o2)
    | (go_at_call 14; refine (HSO.out d v2 _ D2.out (HY.out.keep O2.out)).mono ?_; rintro E w3 ⟨v3, v4, zs4, rfl, n3, d3, o3⟩
       obtain ⟨A3, c3, rfl⟩ := n3.shape
       rw [HLen.out] at n3 ⊢
       have F3 : Hid (Nm w3 (fun b => w2.heap.size ≤ b) (.slice A3 kk c3) out ∧ Dc w3 W.heap.size d v4 zs4 ∧ Only none_ W w3) := ⟨n3, d3, O2.out.trans' o3 (fun k hk e => by have e' : k = d := e; have := D2.out.ge; omega)⟩
       have Y3 : Hid (Cel (w3.alloc (.cells #[] 3)) (fun b => b < W.heap.size) (.slice A2 n c2) n 1 (nums l)) := by
         have := (HY.out.keep F3.out.2.2).keep ((Only.refl none_ w3).alloc (.cells #[] 3))
         unfold Nm at this
         rwa [HLn.out] at this
       have M3 : Hid ((w3.alloc (.cells #[] 3)).ownsRow w3.heap.size 3 1 (.slice (some ⟨w3.heap.size, 0, none⟩) 0 0) 0 []) := own_made w3 w3.heap.size _ 1 0 #[] (by simp) (by simp [maxLen]) (Nat.le_refl _)
       clear n3 d3 o3)
    | (at_builtin; refine wpList_append_cel _ rfl (.tmp 47) (.tmp 48) 22 rfl w3.heap.size 3 i0 _ 1 8 Try.underlying22 hi0 hz0 hz1 hz2 rfl (by omega) _ 0 [] rfl M3.out _ _ n (nums l) rfl Y3.out hp1 HLL.out.1 HLL.out.2 (by simp) ?_
       intro A5 n5 c5 w5 hown5 hgrow5 hmv5
       obtain rfl : n = n5 := by have := own_len hown5; omega
       have hd3 := F3.out.2.1.bk.lt
       have o35 : Only none_ w3 w5 := (((Only.refl none_ w3).alloc _).of_none.grown hgrow5 (fun k hk => .inr (by have e : some w3.heap.size = some k := hk; injection e with e; omega)))
       have A5' : Hid (Am W d out l (.slice A3 kk c3) (.slice A5 n c5) w5) := by
         refine ⟨⟨v4, zs4, F3.out.2.1.keep o35⟩, (F3.out.1.keep o35).mono (fun b _ hb => Nat.le_trans O2.out.size hb), ?_, F3.out.2.2.trans o35⟩
         have h1 := (Cel.of_own hown5).mono (T := fun b => d < b) (fun b _ hb => by have := (hown5.lt b hb).1; omega)
         unfold Nm
         rw [HLn.out]
         simpa using h1
       clear hown5 hgrow5 hmv5 o35 hd3))
  have hd0 : Hid (W.heap.size ≤ d) := D2.out.ge
  go_loopw [52, 9] (fun i r wr => ∃ (j : Nat) (R : List Int) (A9 : Option Addr) (M c9 : Nat), j ≤ kk ∧ i = .int .i64 (j : Int) ∧ r = .slice A9 M c9 ∧ M + j = n ∧ Amg l out R j ∧ Am W d out R (.slice A3 kk c3) r wr) (fun i _ _ => kk - (intOf i).toNat)
  case atStart => exact ⟨0, l, _, _, _, Nat.zero_le _, rfl, rfl, by omega, fun z => by simp, A5'.out⟩
  case round =>
    obtain ⟨j, R, A9, M, c9, hj, rfl, rfl, hM, hamg, hs⟩ := hrel
    have HS := Lib.hid hs
    have HA := Lib.hid hamg
    have hRl := hs.nr.len
    have HR := Lib.hid hRl.symm
    clear hs hamg hRl F3 Y3 M3 A5' D2 O2 O1 HSO
    have hM30 : M ≤ 30 := by omega
    by_cases hlt : j < kk
    · have hdj : decide ((j : Int) < (kk : Int)) = true := by simp; omega
      have hji : (j : Int) < (kk : Int) := by omega
      obtain ⟨x, hx⟩ : ∃ x, out[j]? = some x := ⟨_, List.getElem?_eq_getElem (by have := HLen.out; omega)⟩
      obtain ⟨b3, off3, hA3, _, _, hcx⟩ := nm_at HS.out.ng hx
      subst hA3
      obtain ⟨q0, hq0⟩ := amg_has HA.out HC.out hx
      have HQ := Lib.hid hq0
      have HXo := Lib.hid hx
      clear hx hq0
      go_wp2_with fail
      go_loop [58, 12] (fun i at_ => ∃ m : Nat, m ≤ M ∧ i = .int .i64 (m : Int) ∧ ((at_ = .int .i64 (-1) ∧ ∀ q : Nat, q < m → R[q]? ≠ some x) ∨ ∃ q : Nat, q < m ∧ at_ = .int .i64 (q : Int) ∧ R[q]? = some x)) (fun i _ => M - (intOf i).toNat)
      case atStart => exact ⟨0, Nat.zero_le _, rfl, .inl ⟨rfl, fun q hq => by omega⟩⟩
      case round =>
        obtain ⟨m, hm, rfl, hat⟩ := hrel
        by_cases hmM : m < M
        · have hmi : (m : Int) < (M : Int) := by omega
          obtain ⟨u, hu⟩ : ∃ u, R[m]? = some u := ⟨_, List.getElem?_eq_getElem (by have := HR.out; omega)⟩
          obtain ⟨b4, off4, hA4, _, _, hcu⟩ := nm_at HS.out.nr hu
          subst hA4
          have HU := Lib.hid hu
          clear hu
          rcases hat with ⟨rfl, hno⟩ | ⟨q, hqm, rfl, hq⟩
          · have HNo := Lib.hid hno
            clear hno
            by_cases hux : u = x
            · subst hux
              have HU2 : Hid (R[m]? = some u) := HU.out
              go_wp2_with fail
              go_round
              case rel => exact ⟨m + 1, by omega, by go_num, .inr ⟨m, by omega, rfl, HU2.out⟩⟩
              case measure => simp [intOf]; omega
            · have heq : decide (u = x) = false := by simpa using hux
              have HNo2 : Hid (∀ q : Nat, q < m + 1 → R[q]? ≠ some x) := fun q hq => by
                by_cases hqm : q = m
                · subst hqm
                  rw [HU.out]
                  intro e
                  injection e with e
                  exact hux e
                · exact HNo.out q (by omega)
              have hux2 : ¬ (u = x) := hux
              go_wp2_with fail
              go_round
              case rel => exact ⟨m + 1, by omega, by go_num, .inl ⟨rfl, HNo2.out⟩⟩
              case measure => simp [intOf]; omega
          · have HQm := Lib.hid hq
            have hq0 : ¬ ((q : Int) < 0) := by omega
            have HQlt := Lib.hid hqm
            clear hq
            by_cases hux : u = x
            · subst hux
              go_wp2_with fail
              go_round
              case rel => exact ⟨m + 1, by omega, by go_num, .inr ⟨q, by omega, rfl, HQm.out⟩⟩
              case measure => simp [intOf]; omega
            · have heq : decide (u = x) = false := by simpa using hux
              have hux2 : ¬ (u = x) := hux
              go_wp2_with fail
              go_round
              case rel => exact ⟨m + 1, by omega, by go_num, .inr ⟨q, by omega, rfl, HQm.out⟩⟩
              case measure => simp [intOf]; omega
        · obtain rfl : m = M := by omega
          rcases hat with ⟨rfl, hno⟩ | ⟨q, hqm, rfl, hq⟩
          · exact absurd HQ.out (hno q0 (by
              have := (List.getElem?_eq_some_iff.1 HQ.out).1
              have := HR.out
              omega))
          · have hq0 : ¬ ((q : Int) < 0) := by omega
            have HQm := Lib.hid hq
            have HE : Hid ((R.eraseIdx q).length = m - 1) := by rw [Hid, List.length_eraseIdx_of_lt (by have := HR.out; omega), HR.out]
            have HW := Lib.hid (rf_without _ R q _ _ HS.out.nr (by have := HR.out; omega) (by have := HR.out; omega))
            clear hq
            go_wp2_with (first
              | (go_at_call 18; refine HW.out.mono ?_; rintro E w6 ⟨A6, L6, c6, rfl, n6, o6⟩
                 have hL6 := n6.len
                 rw [HE.out] at hL6
                 have F6 : Hid (Am W d out (R.eraseIdx q) (.slice (some ⟨b3, off3, none⟩) kk c3) (.slice A6 L6 c6) w6) := by
                   obtain ⟨v7, z7, d7⟩ := HS.out.dc
                   exact ⟨⟨v7, z7, d7.keep o6⟩, HS.out.ng.keep o6, n6.mono (fun b _ hb => by have := d7.bk.lt; omega), HS.out.ho.trans o6⟩
                 have HL6 := Lib.hid hL6
                 clear n6 o6 hL6))
            go_roundw
            case rel => exact ⟨j + 1, R.eraseIdx q, _, _, _, by omega, by go_num, rfl, by have := HL6.out; omega, amg_step HA.out HXo.out HQm.out, F6.out⟩
            case measure => simp [intOf]; omega
    · obtain rfl : j = kk := by omega
      have hdj : decide ((j : Int) < (j : Int)) = false := by simp
      obtain ⟨v7, z7, d7⟩ := HS.out.dc
      have D7 := Lib.hid d7
      have hR2 := HR.out
      by_cases hRe : R = []
      · subst hRe
        have hM0 : M = 0 := by simpa using hR2.symm
        subst hM0
        have HP := Lib.hid (dc_pick W.heap.size d v7 _ z7 [] _ _ D7.out HS.out.nr (fun b hb => by omega) (by simp))
        clear d7 hR2
        go_wp2_with (first
          | (go_at_call 11; refine HP.out.mono ?_; rintro E w8 ⟨rfl, v8, d8, o8, _⟩
             have O8 : Hid (Only none_ W w8) := HS.out.ho.trans' o8 (fun k hk e => by have e' : k = d := e; have := hd0.out; omega)
             have e0 : (!([] : List Int).isEmpty) = false := rfl
             rw [e0]
             clear d8 o8 e0))
        go_loop [86, 17] (fun i t => i = .int .i64 0 ∧ t = .bool false) (fun _ _ => 0)
        case atStart => exact ⟨rfl, rfl⟩
        case round =>
          obtain ⟨rfl, rfl⟩ := hrel
          go_wp2_with fail
          go_ret
          exact ⟨rfl, O8.out⟩
      · have hM0 : 0 < M := by rw [← hR2]; exact List.length_pos_iff.2 hRe
        have hMi : (0 : Int) < (M : Int) := by omega
        have HP := Lib.hid (dc_pick W.heap.size d v7 _ z7 R _ _ D7.out HS.out.nr (fun b hb => by omega) (by omega))
        have hdr := drN_pos (zs := z7) (n := (R.length : Int)) (by omega)
        obtain ⟨p, hp⟩ : ∃ p, pkN z7 R = p := ⟨_, rfl⟩
        have HAny : Hid (R.any (· == p) = true) := by
          rw [Hid, List.any_eq_true]
          refine ⟨p, ?_, by simp⟩
          rw [← hp, pkN, List.getD_eq_getElem?_getD, List.getElem?_eq_getElem (by omega), Option.getD_some]
          exact List.getElem_mem _
        have e1 : (!R.isEmpty) = true := by simpa [List.isEmpty_iff] using hRe
        rw [hp, e1] at HP
        clear d7 hR2 hdr hp e1 hRe
        go_wp2_with (first
          | (go_at_call 11; refine HP.out.mono ?_; rintro E w8 ⟨rfl, v8, d8, o8, _⟩
             have O8 : Hid (Only none_ W w8) := HS.out.ho.trans' o8 (fun k hk e => by have e' : k = d := e; have := hd0.out; omega)
             have N8 := Lib.hid (HS.out.nr.only o8 (fun b hb e => by have e' : b = d := e; omega))
             clear d8 o8))
        go_loop [86, 17] (fun i t => ∃ m : Nat, m ≤ M ∧ i = .int .i64 (m : Int) ∧ t = .bool ((R.take m).any (· == p))) (fun i _ => M - (intOf i).toNat)
        case atStart => exact ⟨0, Nat.zero_le _, rfl, rfl⟩
        case round =>
          obtain ⟨m, hm, rfl, rfl⟩ := hrel
          by_cases hmM : m < M
          · have hmi : (m : Int) < (M : Int) := by omega
            obtain ⟨u, hu⟩ : ∃ u, R[m]? = some u := ⟨_, List.getElem?_eq_getElem (by have := HR.out; omega)⟩
            obtain ⟨b4, off4, hA4, _, _, hcu⟩ := nm_at N8.out hu
            subst hA4
            have HT := Lib.hid (any_take (n := p) hu)
            obtain ⟨t, ht⟩ : ∃ t, (R.take m).any (· == p) = t := ⟨_, rfl⟩
            rw [ht] at HT ⊢
            clear hu ht
            cases t with
            | true =>
              go_wp2_with fail
              go_round
              case rel => exact ⟨m + 1, by omega, by go_num, by rw [HT.out]; rfl⟩
              case measure => simp [intOf]; omega
            | false =>
              by_cases hup : u = p
              · have HT2 : Hid ((R.take (m + 1)).any (· == p) = true) := by rw [Hid, HT.out, hup]; simp
                have hde : decide (u = p) = true := by simpa using hup
                subst hup
                clear HT
                go_wp2_with fail
                go_round
                case rel => exact ⟨m + 1, by omega, by go_num, by rw [HT2.out]⟩
                case measure => simp [intOf]; omega
              · have HT2 : Hid ((R.take (m + 1)).any (· == p) = false) := by rw [Hid, HT.out]; simpa using hup
                have hde : decide (u = p) = false := by simpa using hup
                have hup2 : ¬ (u = p) := hup
                clear HT
                go_wp2_with fail
                go_round
                case rel => exact ⟨m + 1, by omega, by go_num, by rw [HT2.out]; try rw [beq_eq_false_iff_ne.2 hup2]⟩
                case measure => simp [intOf]; omega
          · obtain rfl : m = M := by omega
            have HT : Hid ((R.take m).any (· == p) = true) := by rw [Hid, ← HR.out, List.take_length]; exact HAny.out
            rw [HT.out]
            go_wp2_with fail
            go_ret
            exact ⟨rfl, O8.out⟩
end Go.Proofs.Ytifeapknnnhhnaa
