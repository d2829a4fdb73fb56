/- The call of SumsOrders. The statement itself is proved in another text. -/
import Derived.Test.YtkailngpmodfhaaSmW
import Derived.Test.YtkailngpmodfhaaSmE
import Derived.Test.YtkailngpmodfhaaEnEo
import Derived.Deep.RegionLaw
namespace Go.Proofs.Ytkailngpmodfhaa
open Go.RowKit
set_option maxRecDepth 100000
set_option linter.all false

/-- A list of the call's own that is appended to, beside a sum. -/
structure Ls (W : World) (t : TypeId) (g : Nat) (z : Int) (v : Value) (k : Nat) (xs : List Value) (w : World) : Prop where
  s : Su w g z
  ow : w.ownsRow W.heap.size t 9 v k xs
  ho : Only none_ W w
theorem Ls.keep {W w w' : World} {t : TypeId} {g : Nat} {z : Int} {v : Value} {k : Nat} {xs : List Value} (a : Ls W t g z v k xs w) (o : Only none_ w w') : Ls W t g z v k xs w' :=
  ⟨a.s.keep o, owns_only a.ow o (fun _ _ h => h), a.ho.trans o⟩
theorem Ls.app {W w w' : World} {t : TypeId} {g : Nat} {z : Int} {v v' : Value} {k k' : Nat} {xs xs' : List Value} (ht : t ≠ 92) (a : Ls W t g z v k xs w) (own : w'.ownsRow W.heap.size t 9 v' k' xs') (hg : w.grownBy w' v.ownBlock) : Ls W t g z v' k' xs' w' :=
  ⟨Blk.grown' (t := 92) a.s hg (own_blk_ne a.ow a.s ht), own, a.ho.grown hg (fun k hk => .inr (a.ow.lt k hk).1)⟩

set_option maxHeartbeats 25600000 in
theorem sums_orders_no (A D : Option Addr) (c d : Nat) (l m : List En) (T : Nat) (W : World) (hx : Cel W (fun b => b < W.heap.size) (.slice A l.length c) l.length 9 (l.flatMap enRow)) (hy : Cel W (fun b => b < W.heap.size) (.slice D m.length d) m.length 9 (m.flatMap enRow)) (hT : T < 256) (hl : (l.all enShort && decide (l.length ≤ 40)) = true) (hm : (m.all enShort && decide (m.length ≤ 40)) = true) (hz : l.length = 0) :
    Calls Try.prog 8 #[.slice A l.length c, .slice D m.length d, .int .u8 (T : Int)] W fun e w' => e = .returned (.bool true) ∧ Below W.heap.size W w' := by
  have CX := Lib.hid (fun (w' : World) (o : Only none_ W w') => hx.only o (fun _ _ h => h))
  have CY := Lib.hid (fun (w' : World) (o : Only none_ W w') => hy.only o (fun _ _ h => h))
  have FL := Lib.hid hl
  have FM := Lib.hid hm
  have hl40 : l.length ≤ 40 := by simp only [Bool.and_eq_true, decide_eq_true_eq] at hl; exact hl.2
  have hm40 : m.length ≤ 40 := by simp only [Bool.and_eq_true, decide_eq_true_eq] at hm; exact hm.2
  obtain ⟨L, hL⟩ : ∃ L, L = l.length := ⟨_, rfl⟩
  obtain ⟨M, hM⟩ : ∃ M, M = m.length := ⟨_, rfl⟩
  have HCL := Lib.hid hx
  rw [← hL] at hx HCL hl40 hz CX ⊢
  rw [← hM] at hy hm40 CY ⊢
  have HX : Hid (0 < L → ∃ b off, A = some ⟨b, off, none⟩ ∧ b < W.heap.size ∧ b < W.heap.size ∧ ∀ j u, (l.flatMap enRow)[j]? = some u → W.cell? ⟨b, off + j, none⟩ = some u) := by obtain ⟨_, _, e, _, _, _, _, h4⟩ := hx; injection e with e1; subst e1; exact h4
  have HY : Hid (0 < M → ∃ b off, D = some ⟨b, off, none⟩ ∧ b < W.heap.size ∧ b < W.heap.size ∧ ∀ j u, (m.flatMap enRow)[j]? = some u → W.cell? ⟨b, off + j, none⟩ = some u) := by obtain ⟨_, _, e, _, _, _, _, h4⟩ := hy; injection e with e1; subst e1; exact h4
  have hLc : L ≤ c ∧ c ≤ maxLen := by obtain ⟨_, _, e, _, h1, h2, _⟩ := hx; injection e with _ _ e3; subst e3; exact ⟨h1, h2⟩
  have HLC := Lib.hid hLc
  have HL := Lib.hid hL
  have HM := Lib.hid hM
  have HL40 := Lib.hid hl40
  have HK : Hid (0 ≤ L) := Nat.zero_le _
  have hz2 : ¬ (0 < L) := by omega
  clear hz
  clear hx hy hl hm hL hM hLc
  have tokA : True := trivial
  go_enter Try.func8, Try.ntmps8
  go_wp2_with (first
    | (go_at_call 29; refine (sm_speaks _).mono ?_; rintro e w1 ⟨rfl, o1⟩; have O1 := Lib.hid o1; clear o1)
    | (go_at_call 30; have _t := tokA; clear tokA; refine (sm_few _ l _ _ (by rw [← HL.out]; exact CX.out _ O1.out)).mono ?_; rw [FL.out]; rintro e w2 ⟨rfl, o2⟩; have O2 := Lib.hid (O1.out.trans o2); clear o2; have tokB : True := trivial)
    | (go_at_call 30; have _t := tokB; clear tokB; refine (sm_few _ m _ _ (by rw [← HM.out]; exact CY.out _ O2.out)).mono ?_; rw [FM.out]; rintro e w3 ⟨rfl, o3⟩; have O3 := Lib.hid (O2.out.trans o3); clear o3))
  have G0 : Hid (Su (w3.alloc (.cells #[.int .u64 0] 92)) w3.heap.size (0 - sumH (m.take 0))) := (Su.new w3).eq (by rw [List.take_zero, sumH_nil]; rfl)
  have OG := Lib.hid (O3.out.alloc (.cells #[.int .u64 0] 92))
  have HGW := Lib.hid O3.out.size
  generalize w3.alloc (.cells #[.int .u64 0] 92) = w4 at *
  generalize w3.heap.size = g at *
  clear O1 O2 O3
  go_loopw [41] (fun i wr => ∃ j : Nat, j ≤ M ∧ i = .int .i64 (j : Int) ∧ Su wr g (0 - sumH (m.take j)) ∧ Only none_ W wr) (fun i _ => M - (intOf i).toNat)
  case atStart => exact ⟨0, Nat.zero_le _, rfl, G0.out, OG.out⟩
  case round =>
    obtain ⟨j, hj, rfl, hs, ho⟩ := hrel
    have HSU := Lib.hid hs
    have HW := Lib.hid ho
    clear hs ho G0 OG
    by_cases hlt : j < M
    · obtain ⟨b, off, rfl, hb, _, hc⟩ := HY.out (by omega)
      obtain ⟨a, ha⟩ : ∃ a, m[j]? = some a := ⟨m[j]'(by have := HM.out; omega), List.getElem?_eq_getElem _⟩
      have q := en_at hc HW.out hb ha
      have HS := Lib.hid (sumH_succ ha)
      have B5 := Lib.hid (Blk.new wr 73 #[.string a.k, .string a.v, .bool a.d, .int .i64 a.s.c, .int .i64 a.s.s, .int .i64 a.a.c, .int .i64 a.a.s, .int .i64 a.p, .int .i64 a.g])
      have S5 := Lib.hid (HSU.out.alloc (.cells #[.string a.k, .string a.v, .bool a.d, .int .i64 a.s.c, .int .i64 a.s.s, .int .i64 a.a.c, .int .i64 a.a.s, .int .i64 a.p, .int .i64 a.g] 73))
      have W5 := Lib.hid (HW.out.alloc (.cells #[.string a.k, .string a.v, .bool a.d, .int .i64 a.s.c, .int .i64 a.s.s, .int .i64 a.a.c, .int .i64 a.a.s, .int .i64 a.p, .int .i64 a.g] 73))
      clear ha hc
      go_wp2_with (first
        | (refine wpl_load rfl 73 _ rfl wr.heap.size rfl 73 #[.string a.k, .string a.v, .bool a.d, .int .i64 a.s.c, .int .i64 a.s.s, .int .i64 a.a.c, .int .i64 a.a.s, .int .i64 a.p, .int .i64 a.g] _ B5.out Try.underlying73 rfl (by kernel_rfl) ?_)
        | (go_at_call 32; refine (en_of a _).mono ?_; rintro E w5 ⟨rfl, o5⟩; have S6 := Lib.hid (S5.out.keep o5); have W6 := Lib.hid (W5.out.trans o5); clear o5)
        | (go_at_call 38; refine (su_drop g _ a _ S6.out).mono ?_; rintro E w7 ⟨rfl, s7, o7⟩; have S7 := Lib.hid s7; have W7 := Lib.hid (W6.out.trans' o7 (fun i hi e => by have e' : i = g := e; have := HGW.out; omega)); clear s7 o7))
      go_roundw
      case rel => exact ⟨j + 1, by omega, by go_num, S7.out.eq (by rw [HS.out]; congr 1; omega), W7.out⟩
      case measure => simp [intOf]; omega
    · obtain rfl : M = j := by omega
      have HT : Hid (m.take M = m) := by rw [Hid, HM.out, List.take_length]
      rw [HT.out] at HSU
      clear HT hlt hj
      obtain ⟨i0, hi0, hz0, hz1, hz2⟩ := info_parts ref_info
      obtain ⟨A1, A2, hs1, hs2, hc1, hc2⟩ := cel_cut hi0 hz1 HCL.out HL.out 0 HK.out
      simp only [show ((0 : Nat) : Int) = 0 from rfl] at hs1 hs2
      have CA := Lib.hid (fun (w' : World) (o : Only none_ W w') => hc1.only o (fun _ _ h => h))
      have CB := Lib.hid (fun (w' : World) (o : Only none_ W w') => hc2.only o (fun _ _ h => h))
      have N1 : Hid (0 + (L - 0) ≤ maxLen ∧ (0 + (L - 0)) * 88 ≤ 140737488355328) := by have := HL40.out; simp only [Hid, maxLen]; omega
      have N2 : Hid (0 + (L - 0) + 0 ≤ maxLen ∧ (0 + (L - 0) + 0) * 88 ≤ 140737488355328) := by have := HL40.out; have := HK.out; simp only [Hid, maxLen]; omega
      clear hc1 hc2
      go_wp2_with fail
      have L3 : Hid (Ls W 73 g (0 - sumH m) (.slice (some ⟨wr.heap.size, 0, none⟩) 0 0) 0 [] (wr.alloc (.cells #[] 73)).drew) := ⟨HSU.out.alloc _, own_made wr W.heap.size 73 9 0 #[] (by simp) (by simp [maxLen]) HW.out.size, (HW.out.alloc _).drew⟩
      go_region_law (first
        | (refine step_append_cel _ (by simp [Region.wanted]) (.tmp 49) (.tmp 52) 67 rfl W.heap.size 73 i0 _ 9 88 Try.underlying67 hi0 hz0 hz1 hz2 rfl (by omega) (.slice (some ⟨wr.heap.size, 0, none⟩) 0 0) 0 [] (by simp [Act.eval, Act.put]) (by exact L3.out.ow) _ (.slice A1 (L - 0) (c - 0)) (L - 0) _ (by simp [Act.eval, Act.put]) (by exact CA.out _ L3.out.ho) (by exact rows_one _) (by exact N1.out.1) (by exact N1.out.2) (by exact L3.out.ho.size) ?_
           intro A5 n5 c5 w5 hown5 hgrow5 hmv5
           have L5 := Lib.hid (L3.out.app (by decide) hown5 hgrow5)
           clear hown5 hgrow5 hmv5)
        | (refine step_append_cel _ (by simp [Region.wanted]) (.tmp 53) (.tmp 56) 67 rfl W.heap.size 73 i0 _ 9 88 Try.underlying67 hi0 hz0 hz1 hz2 rfl (by omega) (.slice A5 n5 c5) (0 + (L - 0)) _ (by simp [Act.eval, Act.put]) (by exact L5.out.ow) _ (.slice A2 0 c) 0 _ (by simp [Act.eval, Act.put]) (by exact CB.out _ L5.out.ho) (by exact rows_one _) (by exact N2.out.1) (by exact N2.out.2) (by exact L5.out.ho.size) ?_
           intro A6 n6 c6 w6 hown6 hgrow6 hmv6
           have L6 := Lib.hid (L5.out.app (by decide) hown6 hgrow6)
           clear hown6 hgrow6 hmv6))
      all_goals
        obtain ⟨U, hU⟩ : ∃ U, l.drop 0 ++ l.take 0 = U := ⟨_, rfl⟩
        have HUS : Hid (sumH U = sumH l) := by rw [Hid, ← hU]; exact sumH_turned l 0
        have HUL : Hid (U.length = 0 + (L - 0) + 0) := by rw [Hid, ← hU, List.length_append, List.length_drop, List.length_take, ← HL.out]; have := HK.out; omega
        have HUO : Hid (w6.ownsRow W.heap.size 73 9 (.slice A6 n6 c6) U.length (U.flatMap enRow)) := by
          have h := L6.out.ow
          rw [Hid, HUL.out, ← hU, List.flatMap_append]
          rw [List.nil_append] at h
          exact h
        have HN6 : Hid (n6 = U.length) := by
          obtain ⟨A', c', e, _⟩ := Cel.of_own HUO.out
          injection e
        have CU := Lib.hid (Cel.of_own HUO.out)
        have NE6 : Hid (∀ b, ownb (.slice A6 n6 c6) b → ¬ one g b) := fun b hb e => own_blk_ne HUO.out L6.out.s (by decide) (by rw [hb, show b = g from e])
        have G6 := Lib.hid L6.out.s
        have O6 := Lib.hid L6.out.ho
        have hn6 : n6 ≤ 40 := by have := HN6.out; have := HUL.out; have := HL40.out; have := HK.out; omega
        clear hU L3 L5 L6 HUO CA CB N1 N2 hs1 hs2 HSU HW
        go_wp2_with fail
        try dsimp only [Act.put, List.getElem_toArray, List.getElem_cons_succ, List.getElem_cons_zero]
        try go_simp
        go_loopw [59] (fun i wr => ∃ j : Nat, j ≤ n6 ∧ i = .int .i64 (j : Int) ∧ Su wr g (0 - sumH m + sumH (U.take j)) ∧ Only none_ W wr ∧ Only (one g) w6 wr) (fun i _ => n6 - (intOf i).toNat)
        case atStart => exact ⟨0, Nat.zero_le _, rfl, G6.out.eq (by rw [List.take_zero, sumH_nil]; congr 1; omega), O6.out, Only.refl _ _⟩
        case round =>
          obtain ⟨j, hj, rfl, hs, ho, hq⟩ := hrel
          have HSU := Lib.hid hs
          have HW := Lib.hid ho
          have HQ := Lib.hid hq
          clear hs ho hq G6 O6
          by_cases hlt : j < n6
          · obtain ⟨A', c', e, _, _, _, _, h4⟩ := CU.out.only HQ.out NE6.out
            obtain ⟨b, off, hA, _, hb, hc⟩ := h4 (by have := HN6.out; omega)
            injection e with e1 e2 e3
            subst e1 e3 hA
            clear h4 e2
            obtain ⟨a, ha⟩ : ∃ a, U[j]? = some a := ⟨U[j]'(by have := HN6.out; omega), List.getElem?_eq_getElem _⟩
            have q := en_here hc hb ha
            have HS := Lib.hid (sumH_succ ha)
            have B5 := Lib.hid (Blk.new wr 73 #[.string a.k, .string a.v, .bool a.d, .int .i64 a.s.c, .int .i64 a.s.s, .int .i64 a.a.c, .int .i64 a.a.s, .int .i64 a.p, .int .i64 a.g])
            have S5 := Lib.hid (HSU.out.alloc (.cells #[.string a.k, .string a.v, .bool a.d, .int .i64 a.s.c, .int .i64 a.s.s, .int .i64 a.a.c, .int .i64 a.a.s, .int .i64 a.p, .int .i64 a.g] 73))
            have W5 := Lib.hid (HW.out.alloc (.cells #[.string a.k, .string a.v, .bool a.d, .int .i64 a.s.c, .int .i64 a.s.s, .int .i64 a.a.c, .int .i64 a.a.s, .int .i64 a.p, .int .i64 a.g] 73))
            clear ha hc
            go_wp2_with (first
              | (refine wpl_load rfl 73 _ rfl wr.heap.size rfl 73 #[.string a.k, .string a.v, .bool a.d, .int .i64 a.s.c, .int .i64 a.s.s, .int .i64 a.a.c, .int .i64 a.a.s, .int .i64 a.p, .int .i64 a.g] _ B5.out Try.underlying73 rfl (by kernel_rfl) ?_)
              | (go_at_call 32; refine (en_of a _).mono ?_; rintro E w5 ⟨rfl, o5⟩; have S6 := Lib.hid (S5.out.keep o5); have W6 := Lib.hid (W5.out.trans o5); have Q6 := Lib.hid ((HQ.out.alloc (.cells #[.string a.k, .string a.v, .bool a.d, .int .i64 a.s.c, .int .i64 a.s.s, .int .i64 a.a.c, .int .i64 a.a.s, .int .i64 a.p, .int .i64 a.g] 73)).trans o5.of_none); clear o5)
              | (go_at_call 40; refine (su_add g _ a _ S6.out).mono ?_; rintro E w7 ⟨rfl, s7, o7⟩; have S7 := Lib.hid s7; have W7 := Lib.hid (W6.out.trans' o7 (fun i hi e => by have e' : i = g := e; have := HGW.out; omega)); have Q7 := Lib.hid (Q6.out.trans o7); clear s7 o7))
            go_roundw
            case rel => exact ⟨j + 1, by omega, by go_num, S7.out.eq (by rw [HS.out]; congr 1; omega), W7.out, Q7.out⟩
            case measure => simp [intOf]; omega
          · obtain rfl : n6 = j := by omega
            have HT : Hid (U.take n6 = U) := by rw [Hid, HN6.out, List.take_length]
            rw [HT.out, HUS.out] at HSU
            clear HT hlt hj HQ CU NE6 HN6 HUL HUS
            obtain ⟨k0, hk0, hy0, hy1, hy2⟩ := info_parts api_info
            go_wp2_with fail
            go_loopw [11, 69] (fun v i wr => ∃ (j : Nat) (A7 : Option Addr) (n7 c7 : Nat), j ≤ L ∧ i = .int .i64 (j : Int) ∧ v = .slice A7 n7 c7 ∧ Ls W 78 g (0 - sumH m + sumH l) (.slice A7 n7 c7) j ((l.take j).flatMap enRow) wr) (fun _ i _ => L - (intOf i).toNat)
            case atStart => exact ⟨0, none, 0, 0, Nat.zero_le _, rfl, rfl, HSU.out, by simp [World.ownsRow], HW.out⟩
            case round =>
              clear HSU HW
              obtain ⟨j, A7, n7, c7, hj, rfl, rfl, ht⟩ := hrel
              have T := Lib.hid ht
              clear ht
              by_cases hlt : j < L
              · exact absurd (Nat.lt_of_le_of_lt (Nat.zero_le _) hlt) (by assumption)
              · obtain rfl : L = j := by omega
                have HT : Hid (l.take L = l) := by rw [Hid, HL.out, List.take_length]
                rw [HT.out] at T
                have CO : Hid (Cel wr (ownb (.slice A7 n7 c7)) (.slice A7 n7 c7) l.length 9 (l.flatMap enRow)) := by have := Cel.of_own T.out.ow; rwa [HL.out] at this
                have NE7 : Hid (∀ b, ownb (.slice A7 n7 c7) b → ¬ one g b) := fun b hb e => own_blk_ne T.out.ow T.out.s (by decide) (by rw [hb, show b = g from e])
                have G7 := Lib.hid T.out.s
                have O7 := Lib.hid T.out.ho
                clear T HT hlt hj
                generalize hw7 : wr = w9 at *
                clear hw7
                go_wp2_with fail
                go_loopw [81] (fun i wr => ∃ j : Nat, j ≤ M ∧ i = .int .i64 (j : Int) ∧ Su wr g (0 - sumH m + sumH l + sumH (m.take j)) ∧ Only none_ W wr ∧ Only (one g) w9 wr) (fun i _ => M - (intOf i).toNat)
                case atStart => exact ⟨0, Nat.zero_le _, rfl, G7.out.eq (by rw [List.take_zero, sumH_nil]; congr 1; omega), O7.out, Only.refl _ _⟩
                case round =>
                  clear G7 O7
                  obtain ⟨j, hj, rfl, hs, ho, hq⟩ := hrel
                  have HSU := Lib.hid hs
                  have HW := Lib.hid ho
                  have HQ := Lib.hid hq
                  clear hs ho hq
                  by_cases hlt : j < M
                  · obtain ⟨b, off, rfl, hb, _, hc⟩ := HY.out (by omega)
                    obtain ⟨a, ha⟩ : ∃ a, m[j]? = some a := ⟨m[j]'(by have := HM.out; omega), List.getElem?_eq_getElem _⟩
                    have q := en_at hc HW.out hb ha
                    have HS := Lib.hid (sumH_succ ha)
                    have B5 := Lib.hid (Blk.new wr 73 #[.string a.k, .string a.v, .bool a.d, .int .i64 a.s.c, .int .i64 a.s.s, .int .i64 a.a.c, .int .i64 a.a.s, .int .i64 a.p, .int .i64 a.g])
                    have S5 := Lib.hid (HSU.out.alloc (.cells #[.string a.k, .string a.v, .bool a.d, .int .i64 a.s.c, .int .i64 a.s.s, .int .i64 a.a.c, .int .i64 a.a.s, .int .i64 a.p, .int .i64 a.g] 73))
                    have W5 := Lib.hid (HW.out.alloc (.cells #[.string a.k, .string a.v, .bool a.d, .int .i64 a.s.c, .int .i64 a.s.s, .int .i64 a.a.c, .int .i64 a.a.s, .int .i64 a.p, .int .i64 a.g] 73))
                    clear ha hc
                    go_wp2_with (first
                      | (refine wpl_load rfl 73 _ rfl wr.heap.size rfl 73 #[.string a.k, .string a.v, .bool a.d, .int .i64 a.s.c, .int .i64 a.s.s, .int .i64 a.a.c, .int .i64 a.a.s, .int .i64 a.p, .int .i64 a.g] _ B5.out Try.underlying73 rfl (by kernel_rfl) ?_)
                      | (go_at_call 32; refine (en_of a _).mono ?_; rintro E w5 ⟨rfl, o5⟩; have S6 := Lib.hid (S5.out.keep o5); have W6 := Lib.hid (W5.out.trans o5); have Q6 := Lib.hid ((HQ.out.alloc (.cells #[.string a.k, .string a.v, .bool a.d, .int .i64 a.s.c, .int .i64 a.s.s, .int .i64 a.a.c, .int .i64 a.a.s, .int .i64 a.p, .int .i64 a.g] 73)).trans o5.of_none); clear o5)
                      | (go_at_call 40; refine (su_add g _ a _ S6.out).mono ?_; rintro E w7 ⟨rfl, s7, o7⟩; have S7 := Lib.hid s7; have W7 := Lib.hid (W6.out.trans' o7 (fun i hi e => by have e' : i = g := e; have := HGW.out; omega)); have Q7 := Lib.hid (Q6.out.trans o7); clear s7 o7))
                    go_roundw
                    case rel => exact ⟨j + 1, by omega, by go_num, S7.out.eq (by rw [HS.out]; congr 1; omega), W7.out, Q7.out⟩
                    case measure => simp [intOf]; omega
                  · obtain rfl : M = j := by omega
                    have HT : Hid (m.take M = m) := by rw [Hid, HM.out, List.take_length]
                    rw [HT.out] at HSU
                    have CW := Lib.hid (CO.out.only HQ.out NE7.out)
                    have HE : Hid (w64 (0 - sumH m + sumH l + sumH m) = w64 (sumH l)) := by rw [Hid]; congr 1; omega
                    obtain ⟨y, hy⟩ : ∃ y, w64 (sumH l) = y := ⟨_, rfl⟩
                    have HY2 := Lib.hid hy
                    rw [hy] at HE
                    clear hy HT hlt hj
                    go_wp2_with (first
                      | (go_at_call 41; refine (su_value _ _ _ HSU.out).mono ?_; rw [HE.out]; rintro E w5 ⟨rfl, e5⟩; have CV := Lib.hid (e5 ▸ CW.out); have HV := Lib.hid (e5 ▸ HW.out); clear e5)
                      | (go_at_call 35; refine (sm_of _ l _ _ CV.out).mono ?_; rw [HY2.out]; rintro E w6 ⟨rfl, o6⟩; have O8 := Lib.hid (HV.out.trans o6); clear o6))
                    go_ret
                    exact ⟨by first | rfl | simp, O8.out.below (Nat.le_refl _) (fun k hk => hk.elim)⟩

set_option maxHeartbeats 25600000 in
theorem sums_orders_yes (A D : Option Addr) (c d : Nat) (l m : List En) (T : Nat) (W : World) (hx : Cel W (fun b => b < W.heap.size) (.slice A l.length c) l.length 9 (l.flatMap enRow)) (hy : Cel W (fun b => b < W.heap.size) (.slice D m.length d) m.length 9 (m.flatMap enRow)) (hT : T < 256) (hl : (l.all enShort && decide (l.length ≤ 40)) = true) (hm : (m.all enShort && decide (m.length ≤ 40)) = true) (hz : 0 < l.length) :
    Calls Try.prog 8 #[.slice A l.length c, .slice D m.length d, .int .u8 (T : Int)] W fun e w' => e = .returned (.bool true) ∧ Below W.heap.size W w' := by
  have CX := Lib.hid (fun (w' : World) (o : Only none_ W w') => hx.only o (fun _ _ h => h))
  have CY := Lib.hid (fun (w' : World) (o : Only none_ W w') => hy.only o (fun _ _ h => h))
  have FL := Lib.hid hl
  have FM := Lib.hid hm
  have hl40 : l.length ≤ 40 := by simp only [Bool.and_eq_true, decide_eq_true_eq] at hl; exact hl.2
  have hm40 : m.length ≤ 40 := by simp only [Bool.and_eq_true, decide_eq_true_eq] at hm; exact hm.2
  obtain ⟨L, hL⟩ : ∃ L, L = l.length := ⟨_, rfl⟩
  obtain ⟨M, hM⟩ : ∃ M, M = m.length := ⟨_, rfl⟩
  have HCL := Lib.hid hx
  rw [← hL] at hx HCL hl40 hz CX ⊢
  rw [← hM] at hy hm40 CY ⊢
  have HX : Hid (0 < L → ∃ b off, A = some ⟨b, off, none⟩ ∧ b < W.heap.size ∧ b < W.heap.size ∧ ∀ j u, (l.flatMap enRow)[j]? = some u → W.cell? ⟨b, off + j, none⟩ = some u) := by obtain ⟨_, _, e, _, _, _, _, h4⟩ := hx; injection e with e1; subst e1; exact h4
  have HY : Hid (0 < M → ∃ b off, D = some ⟨b, off, none⟩ ∧ b < W.heap.size ∧ b < W.heap.size ∧ ∀ j u, (m.flatMap enRow)[j]? = some u → W.cell? ⟨b, off + j, none⟩ = some u) := by obtain ⟨_, _, e, _, _, _, _, h4⟩ := hy; injection e with e1; subst e1; exact h4
  have hLc : L ≤ c ∧ c ≤ maxLen := by obtain ⟨_, _, e, _, h1, h2, _⟩ := hx; injection e with _ _ e3; subst e3; exact ⟨h1, h2⟩
  have HLC := Lib.hid hLc
  have HL := Lib.hid hL
  have HM := Lib.hid hM
  have HL40 := Lib.hid hl40
  obtain ⟨K, hK0⟩ : ∃ K : Nat, K = T % L := ⟨_, rfl⟩
  have hKL : K < L := by rw [hK0]; exact Nat.mod_lt _ hz
  have HK : Hid (K ≤ L) := by rw [Hid]; omega
  have hz2 : decide ((0 : Int) < (L : Int)) = true := by simp; omega
  have hz3 : (L : Int) ≠ 0 := by omega
  have hk1 : (T : Int).tmod (L : Int) = (K : Int) := by rw [hK0]; exact (Int.tmod_eq_emod_of_nonneg (by omega)).trans (by omega)
  have hk2 : (T : Int) % (L : Int) = (K : Int) := by rw [hK0]; omega
  have hLp : 0 < L := hz
  clear hz hK0
  clear hx hy hl hm hL hM hLc
  have tokA : True := trivial
  go_enter Try.func8, Try.ntmps8
  go_wp2_with (first
    | (go_at_call 29; refine (sm_speaks _).mono ?_; rintro e w1 ⟨rfl, o1⟩; have O1 := Lib.hid o1; clear o1)
    | (go_at_call 30; have _t := tokA; clear tokA; refine (sm_few _ l _ _ (by rw [← HL.out]; exact CX.out _ O1.out)).mono ?_; rw [FL.out]; rintro e w2 ⟨rfl, o2⟩; have O2 := Lib.hid (O1.out.trans o2); clear o2; have tokB : True := trivial)
    | (go_at_call 30; have _t := tokB; clear tokB; refine (sm_few _ m _ _ (by rw [← HM.out]; exact CY.out _ O2.out)).mono ?_; rw [FM.out]; rintro e w3 ⟨rfl, o3⟩; have O3 := Lib.hid (O2.out.trans o3); clear o3))
  have G0 : Hid (Su (w3.alloc (.cells #[.int .u64 0] 92)) w3.heap.size (0 - sumH (m.take 0))) := (Su.new w3).eq (by rw [List.take_zero, sumH_nil]; rfl)
  have OG := Lib.hid (O3.out.alloc (.cells #[.int .u64 0] 92))
  have HGW := Lib.hid O3.out.size
  generalize w3.alloc (.cells #[.int .u64 0] 92) = w4 at *
  generalize w3.heap.size = g at *
  clear O1 O2 O3
  go_loopw [41] (fun i wr => ∃ j : Nat, j ≤ M ∧ i = .int .i64 (j : Int) ∧ Su wr g (0 - sumH (m.take j)) ∧ Only none_ W wr) (fun i _ => M - (intOf i).toNat)
  case atStart => exact ⟨0, Nat.zero_le _, rfl, G0.out, OG.out⟩
  case round =>
    obtain ⟨j, hj, rfl, hs, ho⟩ := hrel
    have HSU := Lib.hid hs
    have HW := Lib.hid ho
    clear hs ho G0 OG
    by_cases hlt : j < M
    · obtain ⟨b, off, rfl, hb, _, hc⟩ := HY.out (by omega)
      obtain ⟨a, ha⟩ : ∃ a, m[j]? = some a := ⟨m[j]'(by have := HM.out; omega), List.getElem?_eq_getElem _⟩
      have q := en_at hc HW.out hb ha
      have HS := Lib.hid (sumH_succ ha)
      have B5 := Lib.hid (Blk.new wr 73 #[.string a.k, .string a.v, .bool a.d, .int .i64 a.s.c, .int .i64 a.s.s, .int .i64 a.a.c, .int .i64 a.a.s, .int .i64 a.p, .int .i64 a.g])
      have S5 := Lib.hid (HSU.out.alloc (.cells #[.string a.k, .string a.v, .bool a.d, .int .i64 a.s.c, .int .i64 a.s.s, .int .i64 a.a.c, .int .i64 a.a.s, .int .i64 a.p, .int .i64 a.g] 73))
      have W5 := Lib.hid (HW.out.alloc (.cells #[.string a.k, .string a.v, .bool a.d, .int .i64 a.s.c, .int .i64 a.s.s, .int .i64 a.a.c, .int .i64 a.a.s, .int .i64 a.p, .int .i64 a.g] 73))
      clear ha hc
      go_wp2_with (first
        | (refine wpl_load rfl 73 _ rfl wr.heap.size rfl 73 #[.string a.k, .string a.v, .bool a.d, .int .i64 a.s.c, .int .i64 a.s.s, .int .i64 a.a.c, .int .i64 a.a.s, .int .i64 a.p, .int .i64 a.g] _ B5.out Try.underlying73 rfl (by kernel_rfl) ?_)
        | (go_at_call 32; refine (en_of a _).mono ?_; rintro E w5 ⟨rfl, o5⟩; have S6 := Lib.hid (S5.out.keep o5); have W6 := Lib.hid (W5.out.trans o5); clear o5)
        | (go_at_call 38; refine (su_drop g _ a _ S6.out).mono ?_; rintro E w7 ⟨rfl, s7, o7⟩; have S7 := Lib.hid s7; have W7 := Lib.hid (W6.out.trans' o7 (fun i hi e => by have e' : i = g := e; have := HGW.out; omega)); clear s7 o7))
      go_roundw
      case rel => exact ⟨j + 1, by omega, by go_num, S7.out.eq (by rw [HS.out]; congr 1; omega), W7.out⟩
      case measure => simp [intOf]; omega
    · obtain rfl : M = j := by omega
      have HT : Hid (m.take M = m) := by rw [Hid, HM.out, List.take_length]
      rw [HT.out] at HSU
      clear HT hlt hj
      obtain ⟨i0, hi0, hz0, hz1, hz2⟩ := info_parts ref_info
      obtain ⟨A1, A2, hs1, hs2, hc1, hc2⟩ := cel_cut hi0 hz1 HCL.out HL.out K HK.out
      have CA := Lib.hid (fun (w' : World) (o : Only none_ W w') => hc1.only o (fun _ _ h => h))
      have CB := Lib.hid (fun (w' : World) (o : Only none_ W w') => hc2.only o (fun _ _ h => h))
      have N1 : Hid (0 + (L - K) ≤ maxLen ∧ (0 + (L - K)) * 88 ≤ 140737488355328) := by have := HL40.out; simp only [Hid, maxLen]; omega
      have N2 : Hid (0 + (L - K) + K ≤ maxLen ∧ (0 + (L - K) + K) * 88 ≤ 140737488355328) := by have := HL40.out; have := HK.out; simp only [Hid, maxLen]; omega
      clear hc1 hc2
      go_wp2_with fail
      have L3 : Hid (Ls W 73 g (0 - sumH m) (.slice (some ⟨wr.heap.size, 0, none⟩) 0 0) 0 [] (wr.alloc (.cells #[] 73)).drew) := ⟨HSU.out.alloc _, own_made wr W.heap.size 73 9 0 #[] (by simp) (by simp [maxLen]) HW.out.size, (HW.out.alloc _).drew⟩
      go_region_law (first
        | (refine step_append_cel _ (by simp [Region.wanted]) (.tmp 49) (.tmp 52) 67 rfl W.heap.size 73 i0 _ 9 88 Try.underlying67 hi0 hz0 hz1 hz2 rfl (by omega) (.slice (some ⟨wr.heap.size, 0, none⟩) 0 0) 0 [] (by simp [Act.eval, Act.put]) (by exact L3.out.ow) _ (.slice A1 (L - K) (c - K)) (L - K) _ (by simp [Act.eval, Act.put]) (by exact CA.out _ L3.out.ho) (by exact rows_one _) (by exact N1.out.1) (by exact N1.out.2) (by exact L3.out.ho.size) ?_
           intro A5 n5 c5 w5 hown5 hgrow5 hmv5
           have L5 := Lib.hid (L3.out.app (by decide) hown5 hgrow5)
           clear hown5 hgrow5 hmv5)
        | (refine step_append_cel _ (by simp [Region.wanted]) (.tmp 53) (.tmp 56) 67 rfl W.heap.size 73 i0 _ 9 88 Try.underlying67 hi0 hz0 hz1 hz2 rfl (by omega) (.slice A5 n5 c5) (0 + (L - K)) _ (by simp [Act.eval, Act.put]) (by exact L5.out.ow) _ (.slice A2 K c) K _ (by simp [Act.eval, Act.put]) (by exact CB.out _ L5.out.ho) (by exact rows_one _) (by exact N2.out.1) (by exact N2.out.2) (by exact L5.out.ho.size) ?_
           intro A6 n6 c6 w6 hown6 hgrow6 hmv6
           have L6 := Lib.hid (L5.out.app (by decide) hown6 hgrow6)
           clear hown6 hgrow6 hmv6))
      all_goals
        obtain ⟨U, hU⟩ : ∃ U, l.drop K ++ l.take K = U := ⟨_, rfl⟩
        have HUS : Hid (sumH U = sumH l) := by rw [Hid, ← hU]; exact sumH_turned l K
        have HUL : Hid (U.length = 0 + (L - K) + K) := by rw [Hid, ← hU, List.length_append, List.length_drop, List.length_take, ← HL.out]; have := HK.out; omega
        have HUO : Hid (w6.ownsRow W.heap.size 73 9 (.slice A6 n6 c6) U.length (U.flatMap enRow)) := by
          have h := L6.out.ow
          rw [Hid, HUL.out, ← hU, List.flatMap_append]
          rw [List.nil_append] at h
          exact h
        have HN6 : Hid (n6 = U.length) := by
          obtain ⟨A', c', e, _⟩ := Cel.of_own HUO.out
          injection e
        have CU := Lib.hid (Cel.of_own HUO.out)
        have NE6 : Hid (∀ b, ownb (.slice A6 n6 c6) b → ¬ one g b) := fun b hb e => own_blk_ne HUO.out L6.out.s (by decide) (by rw [hb, show b = g from e])
        have G6 := Lib.hid L6.out.s
        have O6 := Lib.hid L6.out.ho
        have hn6 : n6 ≤ 40 := by have := HN6.out; have := HUL.out; have := HL40.out; have := HK.out; omega
        clear hU L3 L5 L6 HUO CA CB N1 N2 hs1 hs2 HSU HW
        go_wp2_with fail
        try dsimp only [Act.put, List.getElem_toArray, List.getElem_cons_succ, List.getElem_cons_zero]
        try go_simp
        go_loopw [59] (fun i wr => ∃ j : Nat, j ≤ n6 ∧ i = .int .i64 (j : Int) ∧ Su wr g (0 - sumH m + sumH (U.take j)) ∧ Only none_ W wr ∧ Only (one g) w6 wr) (fun i _ => n6 - (intOf i).toNat)
        case atStart => exact ⟨0, Nat.zero_le _, rfl, G6.out.eq (by rw [List.take_zero, sumH_nil]; congr 1; omega), O6.out, Only.refl _ _⟩
        case round =>
          obtain ⟨j, hj, rfl, hs, ho, hq⟩ := hrel
          have HSU := Lib.hid hs
          have HW := Lib.hid ho
          have HQ := Lib.hid hq
          clear hs ho hq G6 O6
          by_cases hlt : j < n6
          · obtain ⟨A', c', e, _, _, _, _, h4⟩ := CU.out.only HQ.out NE6.out
            obtain ⟨b, off, hA, _, hb, hc⟩ := h4 (by have := HN6.out; omega)
            injection e with e1 e2 e3
            subst e1 e3 hA
            clear h4 e2
            obtain ⟨a, ha⟩ : ∃ a, U[j]? = some a := ⟨U[j]'(by have := HN6.out; omega), List.getElem?_eq_getElem _⟩
            have q := en_here hc hb ha
            have HS := Lib.hid (sumH_succ ha)
            have B5 := Lib.hid (Blk.new wr 73 #[.string a.k, .string a.v, .bool a.d, .int .i64 a.s.c, .int .i64 a.s.s, .int .i64 a.a.c, .int .i64 a.a.s, .int .i64 a.p, .int .i64 a.g])
            have S5 := Lib.hid (HSU.out.alloc (.cells #[.string a.k, .string a.v, .bool a.d, .int .i64 a.s.c, .int .i64 a.s.s, .int .i64 a.a.c, .int .i64 a.a.s, .int .i64 a.p, .int .i64 a.g] 73))
            have W5 := Lib.hid (HW.out.alloc (.cells #[.string a.k, .string a.v, .bool a.d, .int .i64 a.s.c, .int .i64 a.s.s, .int .i64 a.a.c, .int .i64 a.a.s, .int .i64 a.p, .int .i64 a.g] 73))
            clear ha hc
            go_wp2_with (first
              | (refine wpl_load rfl 73 _ rfl wr.heap.size rfl 73 #[.string a.k, .string a.v, .bool a.d, .int .i64 a.s.c, .int .i64 a.s.s, .int .i64 a.a.c, .int .i64 a.a.s, .int .i64 a.p, .int .i64 a.g] _ B5.out Try.underlying73 rfl (by kernel_rfl) ?_)
              | (go_at_call 32; refine (en_of a _).mono ?_; rintro E w5 ⟨rfl, o5⟩; have S6 := Lib.hid (S5.out.keep o5); have W6 := Lib.hid (W5.out.trans o5); have Q6 := Lib.hid ((HQ.out.alloc (.cells #[.string a.k, .string a.v, .bool a.d, .int .i64 a.s.c, .int .i64 a.s.s, .int .i64 a.a.c, .int .i64 a.a.s, .int .i64 a.p, .int .i64 a.g] 73)).trans o5.of_none); clear o5)
              | (go_at_call 40; refine (su_add g _ a _ S6.out).mono ?_; rintro E w7 ⟨rfl, s7, o7⟩; have S7 := Lib.hid s7; have W7 := Lib.hid (W6.out.trans' o7 (fun i hi e => by have e' : i = g := e; have := HGW.out; omega)); have Q7 := Lib.hid (Q6.out.trans o7); clear s7 o7))
            go_roundw
            case rel => exact ⟨j + 1, by omega, by go_num, S7.out.eq (by rw [HS.out]; congr 1; omega), W7.out, Q7.out⟩
            case measure => simp [intOf]; omega
          · obtain rfl : n6 = j := by omega
            have HT : Hid (U.take n6 = U) := by rw [Hid, HN6.out, List.take_length]
            rw [HT.out, HUS.out] at HSU
            clear HT hlt hj HQ CU NE6 HN6 HUL HUS
            obtain ⟨k0, hk0, hy0, hy1, hy2⟩ := info_parts api_info
            go_wp2_with fail
            go_loopw [11, 69] (fun v i wr => ∃ (j : Nat) (A7 : Option Addr) (n7 c7 : Nat), j ≤ L ∧ i = .int .i64 (j : Int) ∧ v = .slice A7 n7 c7 ∧ Ls W 78 g (0 - sumH m + sumH l) (.slice A7 n7 c7) j ((l.take j).flatMap enRow) wr) (fun _ i _ => L - (intOf i).toNat)
            case atStart => exact ⟨0, none, 0, 0, Nat.zero_le _, rfl, rfl, HSU.out, by simp [World.ownsRow], HW.out⟩
            case round =>
              clear HSU HW
              obtain ⟨j, A7, n7, c7, hj, rfl, rfl, ht⟩ := hrel
              have T := Lib.hid ht
              clear ht
              by_cases hlt : j < L
              · obtain ⟨b, off, rfl, hb, _, hc⟩ := HX.out (by omega)
                obtain ⟨a, ha⟩ : ∃ a, l[j]? = some a := ⟨l[j]'(by have := HL.out; omega), List.getElem?_eq_getElem _⟩
                have q := en_at hc T.out.ho hb ha
                have HS := Lib.hid (rows_succ ha)
                have B5 := Lib.hid (Blk.new wr 73 #[.string a.k, .string a.v, .bool a.d, .int .i64 a.s.c, .int .i64 a.s.s, .int .i64 a.a.c, .int .i64 a.a.s, .int .i64 a.p, .int .i64 a.g])
                clear ha hc
                go_wp2_with (first
                  | (refine wpl_load rfl 73 _ rfl wr.heap.size rfl 73 #[.string a.k, .string a.v, .bool a.d, .int .i64 a.s.c, .int .i64 a.s.s, .int .i64 a.a.c, .int .i64 a.a.s, .int .i64 a.p, .int .i64 a.g] _ B5.out Try.underlying73 rfl (by kernel_rfl) ?_)
                  | (go_at_call 32; refine (en_of a _).mono ?_; rintro E w5 ⟨rfl, o5⟩
                     have T5 := Lib.hid (T.out.keep ((((Only.refl none_ wr).alloc (.cells #[.string a.k, .string a.v, .bool a.d, .int .i64 a.s.c, .int .i64 a.s.s, .int .i64 a.a.c, .int .i64 a.a.s, .int .i64 a.p, .int .i64 a.g] 73)).trans o5).alloc (.cells #[.string a.k, .string a.v, .bool a.d, .int .i64 a.s.c, .int .i64 a.s.s, .int .i64 a.a.c, .int .i64 a.a.s, .int .i64 a.p, .int .i64 a.g] 78)))
                     have C5 := Lib.hid (cel_made w5 78 9 1 #[.string a.k, .string a.v, .bool a.d, .int .i64 a.s.c, .int .i64 a.s.s, .int .i64 a.a.c, .int .i64 a.a.s, .int .i64 a.p, .int .i64 a.g] rfl (by simp [maxLen]))
                     clear o5)
                  | (at_builtin; refine wpList_append_cel _ rfl (.tmp 73) (.tmp 76) _ rfl W.heap.size 78 k0 _ 9 88 Try.underlying69 hk0 hy0 hy1 hy2 rfl (by omega) (.slice A7 n7 c7) j _ rfl T5.out.ow _ _ 1 (enRow a) rfl C5.out (row_one a) (by simp only [maxLen]; omega) (by omega) T5.out.ho.size ?_
                     intro A8 n8 c8 w8 hown8 hgrow8 hmv8
                     have T8 := Lib.hid (T5.out.app (by decide) hown8 hgrow8)
                     clear hown8 hgrow8 hmv8))
                go_roundw
                case rel => exact ⟨j + 1, A8, n8, c8, by omega, by go_num, rfl, by rw [HS.out]; exact T8.out⟩
                case measure => simp [intOf]; omega
              · obtain rfl : L = j := by omega
                have HT : Hid (l.take L = l) := by rw [Hid, HL.out, List.take_length]
                rw [HT.out] at T
                have CO : Hid (Cel wr (ownb (.slice A7 n7 c7)) (.slice A7 n7 c7) l.length 9 (l.flatMap enRow)) := by have := Cel.of_own T.out.ow; rwa [HL.out] at this
                have NE7 : Hid (∀ b, ownb (.slice A7 n7 c7) b → ¬ one g b) := fun b hb e => own_blk_ne T.out.ow T.out.s (by decide) (by rw [hb, show b = g from e])
                have G7 := Lib.hid T.out.s
                have O7 := Lib.hid T.out.ho
                clear T HT hlt hj
                generalize hw7 : wr = w9 at *
                clear hw7
                go_wp2_with fail
                go_loopw [81] (fun i wr => ∃ j : Nat, j ≤ M ∧ i = .int .i64 (j : Int) ∧ Su wr g (0 - sumH m + sumH l + sumH (m.take j)) ∧ Only none_ W wr ∧ Only (one g) w9 wr) (fun i _ => M - (intOf i).toNat)
                case atStart => exact ⟨0, Nat.zero_le _, rfl, G7.out.eq (by rw [List.take_zero, sumH_nil]; congr 1; omega), O7.out, Only.refl _ _⟩
                case round =>
                  clear G7 O7
                  obtain ⟨j, hj, rfl, hs, ho, hq⟩ := hrel
                  have HSU := Lib.hid hs
                  have HW := Lib.hid ho
                  have HQ := Lib.hid hq
                  clear hs ho hq
                  by_cases hlt : j < M
                  · obtain ⟨b, off, rfl, hb, _, hc⟩ := HY.out (by omega)
                    obtain ⟨a, ha⟩ : ∃ a, m[j]? = some a := ⟨m[j]'(by have := HM.out; omega), List.getElem?_eq_getElem _⟩
                    have q := en_at hc HW.out hb ha
                    have HS := Lib.hid (sumH_succ ha)
                    have B5 := Lib.hid (Blk.new wr 73 #[.string a.k, .string a.v, .bool a.d, .int .i64 a.s.c, .int .i64 a.s.s, .int .i64 a.a.c, .int .i64 a.a.s, .int .i64 a.p, .int .i64 a.g])
                    have S5 := Lib.hid (HSU.out.alloc (.cells #[.string a.k, .string a.v, .bool a.d, .int .i64 a.s.c, .int .i64 a.s.s, .int .i64 a.a.c, .int .i64 a.a.s, .int .i64 a.p, .int .i64 a.g] 73))
                    have W5 := Lib.hid (HW.out.alloc (.cells #[.string a.k, .string a.v, .bool a.d, .int .i64 a.s.c, .int .i64 a.s.s, .int .i64 a.a.c, .int .i64 a.a.s, .int .i64 a.p, .int .i64 a.g] 73))
                    clear ha hc
                    go_wp2_with (first
                      | (refine wpl_load rfl 73 _ rfl wr.heap.size rfl 73 #[.string a.k, .string a.v, .bool a.d, .int .i64 a.s.c, .int .i64 a.s.s, .int .i64 a.a.c, .int .i64 a.a.s, .int .i64 a.p, .int .i64 a.g] _ B5.out Try.underlying73 rfl (by kernel_rfl) ?_)
                      | (go_at_call 32; refine (en_of a _).mono ?_; rintro E w5 ⟨rfl, o5⟩; have S6 := Lib.hid (S5.out.keep o5); have W6 := Lib.hid (W5.out.trans o5); have Q6 := Lib.hid ((HQ.out.alloc (.cells #[.string a.k, .string a.v, .bool a.d, .int .i64 a.s.c, .int .i64 a.s.s, .int .i64 a.a.c, .int .i64 a.a.s, .int .i64 a.p, .int .i64 a.g] 73)).trans o5.of_none); clear o5)
                      | (go_at_call 40; refine (su_add g _ a _ S6.out).mono ?_; rintro E w7 ⟨rfl, s7, o7⟩; have S7 := Lib.hid s7; have W7 := Lib.hid (W6.out.trans' o7 (fun i hi e => by have e' : i = g := e; have := HGW.out; omega)); have Q7 := Lib.hid (Q6.out.trans o7); clear s7 o7))
                    go_roundw
                    case rel => exact ⟨j + 1, by omega, by go_num, S7.out.eq (by rw [HS.out]; congr 1; omega), W7.out, Q7.out⟩
                    case measure => simp [intOf]; omega
                  · obtain rfl : M = j := by omega
                    have HT : Hid (m.take M = m) := by rw [Hid, HM.out, List.take_length]
                    rw [HT.out] at HSU
                    have CW := Lib.hid (CO.out.only HQ.out NE7.out)
                    have HE : Hid (w64 (0 - sumH m + sumH l + sumH m) = w64 (sumH l)) := by rw [Hid]; congr 1; omega
                    obtain ⟨y, hy⟩ : ∃ y, w64 (sumH l) = y := ⟨_, rfl⟩
                    have HY2 := Lib.hid hy
                    rw [hy] at HE
                    clear hy HT hlt hj
                    go_wp2_with (first
                      | (go_at_call 41; refine (su_value _ _ _ HSU.out).mono ?_; rw [HE.out]; rintro E w5 ⟨rfl, e5⟩; have CV := Lib.hid (e5 ▸ CW.out); have HV := Lib.hid (e5 ▸ HW.out); clear e5)
                      | (go_at_call 35; refine (sm_of _ l _ _ CV.out).mono ?_; rw [HY2.out]; rintro E w6 ⟨rfl, o6⟩; have O8 := Lib.hid (HV.out.trans o6); clear o6))
                    go_ret
                    exact ⟨by first | rfl | simp, O8.out.below (Nat.le_refl _) (fun k hk => hk.elim)⟩

set_option maxHeartbeats 3200000 in
theorem sums_orders_long (A D : Option Addr) (c d : Nat) (l m : List En) (x : Value) (W : World) (hx : Cel W (fun b => b < W.heap.size) (.slice A l.length c) l.length 9 (l.flatMap enRow)) (hy : Cel W (fun b => b < W.heap.size) (.slice D m.length d) m.length 9 (m.flatMap enRow)) (h : (l.all enShort && decide (l.length ≤ 40)) = false ∨ ((l.all enShort && decide (l.length ≤ 40)) = true ∧ (m.all enShort && decide (m.length ≤ 40)) = false)) :
    Calls Try.prog 8 #[.slice A l.length c, .slice D m.length d, x] W fun e w' => e = .returned (.bool true) ∧ Below W.heap.size W w' := by
  have CX := Lib.hid (fun (w' : World) (o : Only none_ W w') => hx.only o (fun _ _ h => h))
  have CY := Lib.hid (fun (w' : World) (o : Only none_ W w') => hy.only o (fun _ _ h => h))
  obtain ⟨L, hL⟩ : ∃ L, L = l.length := ⟨_, rfl⟩
  obtain ⟨M, hM⟩ : ∃ M, M = m.length := ⟨_, rfl⟩
  have h' : ∃ f1 f2, (l.all enShort && decide (l.length ≤ 40)) = f1 ∧ (m.all enShort && decide (m.length ≤ 40)) = f2 ∧ (f1 = false ∨ (f1 = true ∧ f2 = false)) := ⟨_, _, rfl, rfl, h⟩
  obtain ⟨f1, f2, e1, e2, h2⟩ := h'
  rw [← hL] at CX ⊢
  rw [← hM] at CY ⊢
  have HL := Lib.hid hL
  have HM := Lib.hid hM
  have FL := Lib.hid e1
  have FM := Lib.hid e2
  clear hx hy h e1 e2 hL hM
  have tokA : True := trivial
  have tokS : True := trivial
  rcases h2 with rfl | ⟨rfl, rfl⟩
  · go_enter Try.func8, Try.ntmps8
    go_wp2_with (first
      | (go_at_call 29; have _t := tokS; clear tokS; refine (sm_speaks _).mono ?_; rintro e w1 ⟨rfl, o1⟩; have O1 := Lib.hid o1; clear o1)
      | (go_at_call 30; refine (sm_few _ l _ _ (by rw [← HL.out]; exact CX.out _ O1.out)).mono ?_; rw [FL.out]; rintro e w2 ⟨rfl, o2⟩; have O2 := Lib.hid (O1.out.trans o2); clear o2)
      | (go_at_call 29; refine (sm_speaks _).mono ?_; rintro e w3 ⟨rfl, o3⟩; have O3 := Lib.hid (O2.out.trans o3); clear o3))
    go_ret
    exact ⟨rfl, O3.out.below (Nat.le_refl _) (fun k hk => hk.elim)⟩
  · go_enter Try.func8, Try.ntmps8
    go_wp2_with (first
      | (go_at_call 29; have _t := tokS; clear tokS; refine (sm_speaks _).mono ?_; rintro e w1 ⟨rfl, o1⟩; have O1 := Lib.hid o1; clear o1)
      | (go_at_call 30; have _t := tokA; clear tokA; refine (sm_few _ l _ _ (by rw [← HL.out]; exact CX.out _ O1.out)).mono ?_; rw [FL.out]; rintro e w2 ⟨rfl, o2⟩; have O2 := Lib.hid (O1.out.trans o2); clear o2; have tokB : True := trivial)
      | (go_at_call 30; have _t := tokB; clear tokB; refine (sm_few _ m _ _ (by rw [← HM.out]; exact CY.out _ O2.out)).mono ?_; rw [FM.out]; rintro e w3 ⟨rfl, o3⟩; have O3 := Lib.hid (O2.out.trans o3); clear o3)
      | (go_at_call 29; refine (sm_speaks _).mono ?_; rintro e w4 ⟨rfl, o4⟩; have O4 := Lib.hid (O3.out.trans o4); clear o4))
    go_ret
    exact ⟨rfl, O4.out.below (Nat.le_refl _) (fun k hk => hk.elim)⟩
end Go.Proofs.Ytkailngpmodfhaa
