/- The call of SumsParts. The statement itself is proved in another text. -/
import Derived.Test.YtkailngpmodfhaaSmW
import Derived.Test.YtkailngpmodfhaaSmE
import Derived.Test.YtkailngpmodfhaaEnEo
namespace Go.Proofs.Ytkailngpmodfhaa
open Go.RowKit
set_option maxRecDepth 100000
set_option linter.all false

/-- Two lists of the call's own, made since W, that share no block; the first is appended to. -/
structure Rw (W : World) (v u : Value) (n n1 : Nat) (p p1 : List Value) (w : World) : Prop where
  a0 : w.ownsRow W.heap.size 78 9 v n p
  a1 : w.ownsRow W.heap.size 78 9 u n1 p1
  ne : ∀ g, v.ownBlock = some g → u.ownBlock ≠ some g
  ho : Only none_ W w
theorem Rw.keep {W w w' : World} {v u : Value} {n n1 : Nat} {p p1 : List Value} (t : Rw W v u n n1 p p1 w) (o : Only none_ w w') : Rw W v u n n1 p p1 w' :=
  ⟨owns_only t.a0 o (fun _ _ h => h), owns_only t.a1 o (fun _ _ h => h), t.ne, t.ho.trans o⟩
theorem Rw.app {W w w' : World} {v v' u : Value} {n n' n1 : Nat} {p p' p1 : List Value} (t : Rw W v u n n1 p p1 w) (own : w'.ownsRow W.heap.size 78 9 v' n' p') (hg : w.grownBy w' v.ownBlock) (mv : Moved w v v') : Rw W v' u n' n1 p' p1 w' := by
  have o : Only (ownb v) w w' := (Only.refl _ w).grown hg (fun k hk => .inl hk)
  refine ⟨own, owns_only t.a1 o (fun g h1 h2 => t.ne g h2 h1), fun g hv h1 => ?_, t.ho.grown hg (fun k hk => .inr (t.a0.lt k hk).1)⟩
  rcases mv g hv with h | h
  · exact t.ne g h h1
  · have := (t.a1.lt g h1).2; omega
/-- A list of the call's own, made since B. -/
structure Ro (B : World) (v : Value) (n : Nat) (p : List Value) (w : World) : Prop where
  ow : w.ownsRow B.heap.size 78 9 v n p
  ho : Only none_ B w
theorem Ro.keep {B w w' : World} {v : Value} {n : Nat} {p : List Value} (t : Ro B v n p w) (o : Only none_ w w') : Ro B v n p w' := ⟨owns_only t.ow o (fun _ _ h => h), t.ho.trans o⟩
theorem Ro.app {B w w' : World} {v v' : Value} {n n' : Nat} {p p' : List Value} (t : Ro B v n p w) (own : w'.ownsRow B.heap.size 78 9 v' n' p') (hg : w.grownBy w' v.ownBlock) : Ro B v' n' p' w' := ⟨own, t.ho.grown hg (fun k hk => .inr (t.ow.lt k hk).1)⟩
theorem Tn.step {W w w' : World} {t u : TypeId} {g h1 h2 : Nat} {z z' : Int} {a b : En} (k : Tn W t u g h1 h2 z a b w) (hs : Su w' g z') (o : Only (one g) w w') (n1 : h1 ≠ g) (n2 : h2 ≠ g) (hg : W.heap.size ≤ g) : Tn W t u g h1 h2 z' a b w' :=
  ⟨k.x.only o (fun e => n1 e), k.y.only o (fun e => n2 e), hs, k.ho.trans' o (fun i hi e => by have e' : i = g := e; omega)⟩

set_option maxHeartbeats 25600000 in
theorem sums_parts (A D : Option Addr) (c d : Nat) (l m : List En) (W : World) (hx : Cel W (fun b => b < W.heap.size) (.slice A l.length c) l.length 9 (l.flatMap enRow)) (hy : Cel W (fun b => b < W.heap.size) (.slice D m.length d) m.length 9 (m.flatMap enRow)) (hl : (l.all enShort && decide (l.length ≤ 40)) = true) (hm : (m.all enShort && decide (m.length ≤ 40)) = true) :
    Calls Try.prog 9 #[.slice A l.length c, .slice D m.length d] W fun e w' => e = .returned (.bool true) ∧ Below W.heap.size W w' := by
  have CX := Lib.hid (fun (w' : World) (o : Only none_ W w') => hx.only o (fun _ _ h => h))
  have CY := Lib.hid (fun (w' : World) (o : Only none_ W w') => hy.only o (fun _ _ h => h))
  have FL := Lib.hid hl
  have FM := Lib.hid hm
  have hl40 : l.length ≤ 40 := by simp only [Bool.and_eq_true, decide_eq_true_eq] at hl; exact hl.2
  have hm40 : m.length ≤ 40 := by simp only [Bool.and_eq_true, decide_eq_true_eq] at hm; exact hm.2
  obtain ⟨L, hL⟩ : ∃ L, L = l.length := ⟨_, rfl⟩
  obtain ⟨M, hM⟩ : ∃ M, M = m.length := ⟨_, rfl⟩
  rw [← hL] at hx hl40 CX ⊢
  rw [← hM] at hy hm40 CY ⊢
  have HX : Hid (0 < L → ∃ b off, A = some ⟨b, off, none⟩ ∧ b < W.heap.size ∧ b < W.heap.size ∧ ∀ j u, (l.flatMap enRow)[j]? = some u → W.cell? ⟨b, off + j, none⟩ = some u) := by obtain ⟨_, _, e, _, _, _, _, h4⟩ := hx; injection e with e1; subst e1; exact h4
  have HY : Hid (0 < M → ∃ b off, D = some ⟨b, off, none⟩ ∧ b < W.heap.size ∧ b < W.heap.size ∧ ∀ j u, (m.flatMap enRow)[j]? = some u → W.cell? ⟨b, off + j, none⟩ = some u) := by obtain ⟨_, _, e, _, _, _, _, h4⟩ := hy; injection e with e1; subst e1; exact h4
  have HL := Lib.hid hL
  have HM := Lib.hid hM
  have HL40 := Lib.hid hl40
  have HM40 := Lib.hid hm40
  obtain ⟨k0, hk0, hy0, hy1, hy2⟩ := info_parts api_info
  clear hx hy hl hm hL hM
  have tokA : True := trivial
  go_enter Try.func9, Try.ntmps9
  go_wp2_with (first
    | (go_at_call 29; refine (sm_speaks _).mono ?_; rintro e w1 ⟨rfl, o1⟩; have O1 := Lib.hid o1; clear o1)
    | (go_at_call 30; have _t := tokA; clear tokA; refine (sm_few _ l _ _ (by rw [← HL.out]; exact CX.out _ O1.out)).mono ?_; rw [FL.out]; rintro e w2 ⟨rfl, o2⟩; have O2 := Lib.hid (O1.out.trans o2); clear o2; have tokB : True := trivial)
    | (go_at_call 30; have _t := tokB; clear tokB; refine (sm_few _ m _ _ (by rw [← HM.out]; exact CY.out _ O2.out)).mono ?_; rw [FM.out]; rintro e w3 ⟨rfl, o3⟩; have O3 := Lib.hid (O2.out.trans o3); clear o3))
  go_loopw [5, 32] (fun v i wr => ∃ (j : Nat) (A7 : Option Addr) (n7 c7 : Nat), j ≤ L ∧ i = .int .i64 (j : Int) ∧ v = .slice A7 n7 c7 ∧ Ro W (.slice A7 n7 c7) j ((l.take j).flatMap enRow) wr) (fun _ i _ => L - (intOf i).toNat)
  case atStart => exact ⟨0, none, 0, 0, Nat.zero_le _, rfl, rfl, by simp [World.ownsRow], O3.out⟩
  case round =>
    obtain ⟨j, A7, n7, c7, hj, rfl, rfl, ht⟩ := hrel
    have T := Lib.hid ht
    clear ht O1 O2 O3
    by_cases hlt : j < L
    · obtain ⟨b, off, rfl, hb, _, hc⟩ := HX.out (by omega)
      obtain ⟨a, ha⟩ : ∃ a, l[j]? = some a := ⟨l[j]'(by have := HL.out; omega), List.getElem?_eq_getElem _⟩
      have q := en_at hc T.out.ho hb ha
      have HS := Lib.hid (rows_succ ha)
      have B5 := Lib.hid (Blk.new wr 73 #[.string a.k, .string a.v, .bool a.d, .int .i64 a.s.c, .int .i64 a.s.s, .int .i64 a.a.c, .int .i64 a.a.s, .int .i64 a.p, .int .i64 a.g])
      clear ha hc
      go_wp2_with (first
        | (refine wpl_load rfl 73 _ rfl wr.heap.size rfl 73 #[.string a.k, .string a.v, .bool a.d, .int .i64 a.s.c, .int .i64 a.s.s, .int .i64 a.a.c, .int .i64 a.a.s, .int .i64 a.p, .int .i64 a.g] _ B5.out Try.underlying73 rfl (by kernel_rfl) ?_)
        | (go_at_call 32; refine (en_of a _).mono ?_; rintro E w5 ⟨rfl, o5⟩
           have T5 := Lib.hid (T.out.keep ((((Only.refl none_ wr).alloc (.cells #[.string a.k, .string a.v, .bool a.d, .int .i64 a.s.c, .int .i64 a.s.s, .int .i64 a.a.c, .int .i64 a.a.s, .int .i64 a.p, .int .i64 a.g] 73)).trans o5).alloc (.cells #[.string a.k, .string a.v, .bool a.d, .int .i64 a.s.c, .int .i64 a.s.s, .int .i64 a.a.c, .int .i64 a.a.s, .int .i64 a.p, .int .i64 a.g] 78)))
           have C5 := Lib.hid (cel_made w5 78 9 1 #[.string a.k, .string a.v, .bool a.d, .int .i64 a.s.c, .int .i64 a.s.s, .int .i64 a.a.c, .int .i64 a.a.s, .int .i64 a.p, .int .i64 a.g] rfl (by simp [maxLen]))
           clear o5)
        | (at_builtin; refine wpList_append_cel _ rfl (.tmp 36) (.tmp 39) _ rfl W.heap.size 78 k0 _ 9 88 Try.underlying69 hk0 hy0 hy1 hy2 rfl (by omega) (.slice A7 n7 c7) j _ rfl T5.out.ow _ _ 1 (enRow a) rfl C5.out (row_one a) (by simp only [maxLen]; omega) (by omega) T5.out.ho.size ?_
           intro A8 n8 c8 w8 hown8 hgrow8 hmv8
           have T8 := Lib.hid (T5.out.app hown8 hgrow8)
           clear hown8 hgrow8 hmv8))
      go_roundw
      case rel => exact ⟨j + 1, A8, n8, c8, by omega, by go_num, rfl, by rw [HS.out]; exact T8.out⟩
      case measure => simp [intOf]; omega
    · obtain rfl : L = j := by omega
      have HT : Hid (l.take L = l) := by rw [Hid, HL.out, List.take_length]
      rw [HT.out] at T
      have T0 : Hid (Rw W (.slice none 0 0) (.slice A7 n7 c7) 0 L [] (l.flatMap enRow) wr) := ⟨by simp [World.ownsRow], T.out.ow, by simp [Value.ownBlock], T.out.ho⟩
      clear T HT hlt hj
      generalize hA9 : A7 = A9 at *
      generalize hn9 : n7 = n9 at *
      generalize hc9 : c7 = c9 at *
      clear hA9 hn9 hc9
      go_wp2_with fail
      go_loopw [6, 44] (fun v i wr => ∃ (j : Nat) (A7 : Option Addr) (n7 c7 : Nat), j ≤ M ∧ i = .int .i64 (j : Int) ∧ v = .slice A7 n7 c7 ∧ Rw W (.slice A7 n7 c7) (.slice A9 n9 c9) j L ((m.take j).flatMap enRow) (l.flatMap enRow) wr) (fun _ i _ => M - (intOf i).toNat)
      case atStart => exact ⟨0, none, 0, 0, Nat.zero_le _, rfl, rfl, T0.out⟩
      case round =>
        clear T0
        obtain ⟨j, A7, n7, c7, hj, rfl, rfl, ht⟩ := hrel
        have T := Lib.hid ht
        clear ht
        by_cases hlt : j < M
        · obtain ⟨b, off, rfl, hb, _, hc⟩ := HY.out (by omega)
          obtain ⟨a, ha⟩ : ∃ a, m[j]? = some a := ⟨m[j]'(by have := HM.out; omega), List.getElem?_eq_getElem _⟩
          have q := en_at hc T.out.ho hb ha
          have HS := Lib.hid (rows_succ ha)
          have B5 := Lib.hid (Blk.new wr 73 #[.string a.k, .string a.v, .bool a.d, .int .i64 a.s.c, .int .i64 a.s.s, .int .i64 a.a.c, .int .i64 a.a.s, .int .i64 a.p, .int .i64 a.g])
          clear ha hc
          go_wp2_with (first
            | (refine wpl_load rfl 73 _ rfl wr.heap.size rfl 73 #[.string a.k, .string a.v, .bool a.d, .int .i64 a.s.c, .int .i64 a.s.s, .int .i64 a.a.c, .int .i64 a.a.s, .int .i64 a.p, .int .i64 a.g] _ B5.out Try.underlying73 rfl (by kernel_rfl) ?_)
            | (go_at_call 32; refine (en_of a _).mono ?_; rintro E w5 ⟨rfl, o5⟩
               have T5 := Lib.hid (T.out.keep ((((Only.refl none_ wr).alloc (.cells #[.string a.k, .string a.v, .bool a.d, .int .i64 a.s.c, .int .i64 a.s.s, .int .i64 a.a.c, .int .i64 a.a.s, .int .i64 a.p, .int .i64 a.g] 73)).trans o5).alloc (.cells #[.string a.k, .string a.v, .bool a.d, .int .i64 a.s.c, .int .i64 a.s.s, .int .i64 a.a.c, .int .i64 a.a.s, .int .i64 a.p, .int .i64 a.g] 78)))
               have C5 := Lib.hid (cel_made w5 78 9 1 #[.string a.k, .string a.v, .bool a.d, .int .i64 a.s.c, .int .i64 a.s.s, .int .i64 a.a.c, .int .i64 a.a.s, .int .i64 a.p, .int .i64 a.g] rfl (by simp [maxLen]))
               clear o5)
            | (at_builtin; refine wpList_append_cel _ rfl (.tmp 48) (.tmp 51) _ rfl W.heap.size 78 k0 _ 9 88 Try.underlying69 hk0 hy0 hy1 hy2 rfl (by omega) (.slice A7 n7 c7) j _ rfl T5.out.a0 _ _ 1 (enRow a) rfl C5.out (row_one a) (by simp only [maxLen]; omega) (by omega) T5.out.ho.size ?_
               intro A8 n8 c8 w8 hown8 hgrow8 hmv8
               have T8 := Lib.hid (T5.out.app hown8 hgrow8 hmv8)
               clear hown8 hgrow8 hmv8))
          go_roundw
          case rel => exact ⟨j + 1, A8, n8, c8, by omega, by go_num, rfl, by rw [HS.out]; exact T8.out⟩
          case measure => simp [intOf]; omega
        · obtain rfl : M = j := by omega
          have HT : Hid (m.take M = m) := by rw [Hid, HM.out, List.take_length]
          rw [HT.out] at T
          have HN9 : Hid (n9 = L) := by obtain ⟨_, _, e, _⟩ := Cel.of_own T.out.a1; injection e
          have HN7 : Hid (n7 = M) := by obtain ⟨_, _, e, _⟩ := Cel.of_own T.out.a0; injection e
          have CA : Hid (Cel wr (fun b => b < wr.heap.size) (.slice A9 n9 c9) L 9 (l.flatMap enRow)) := (Cel.of_own T.out.a1).mono (fun b hb _ => hb)
          have CB : Hid (Cel wr (fun b => b < wr.heap.size) (.slice A7 n7 c7) M 9 (m.flatMap enRow)) := (Cel.of_own T.out.a0).mono (fun b hb _ => hb)
          have O4 := Lib.hid T.out.ho
          have R5 : Hid (Ro wr (.slice (some ⟨wr.heap.size, 0, none⟩) 0 0) 0 [] (wr.alloc (.cells #[] 78))) := ⟨own_made wr wr.heap.size 78 9 0 #[] (by simp) (by simp [maxLen]) (Nat.le_refl _), (Only.refl none_ wr).alloc _⟩
          have N1 : Hid (0 + L ≤ maxLen ∧ (0 + L) * 88 ≤ 140737488355328) := by have := HL40.out; simp only [Hid, maxLen]; omega
          have N2 : Hid (0 + L + M ≤ maxLen ∧ (0 + L + M) * 88 ≤ 140737488355328) := by have := HL40.out; have := HM40.out; simp only [Hid, maxLen]; omega
          have hn9 : n9 ≤ 40 := by have := HN9.out; have := HL40.out; omega
          have hn7 : n7 ≤ 40 := by have := HN7.out; have := HM40.out; omega
          clear T HT hlt hj
          obtain ⟨x, hxe⟩ : ∃ x, w64 (sumH l) = x := ⟨_, rfl⟩
          obtain ⟨y, hye⟩ : ∃ y, w64 (sumH m) = y := ⟨_, rfl⟩
          obtain ⟨s, hse⟩ : ∃ s, w64 (sumH (l ++ m)) = s := ⟨_, rfl⟩
          have hadd : IntKind.u64.wrap (x + y) = s := by rw [← hxe, ← hye, ← hse, w64_wrap, w64_add, w64_add2, sumH_append]
          have hxb := w64_in (sumH l)
          have hyb := w64_in (sumH m)
          rw [hxe] at hxb
          rw [hye] at hyb
          have XE := Lib.hid hxe
          have YE := Lib.hid hye
          have SE := Lib.hid hse
          clear hxe hye hse
          have tok1 : True := trivial
          generalize hw4 : wr = w4 at *
          clear hw4
          go_wp2_with (first
            | (at_builtin; refine wpList_append_cel _ rfl (.tmp 54) (.tmp 55) _ rfl w4.heap.size 78 k0 _ 9 88 Try.underlying69 hk0 hy0 hy1 hy2 rfl (by omega) (.slice (some ⟨w4.heap.size, 0, none⟩) 0 0) 0 [] rfl R5.out.ow _ (.slice A9 n9 c9) L _ rfl (CA.out.only R5.out.ho (fun _ _ h => h)) (rows_one l) N1.out.1 N1.out.2 R5.out.ho.size ?_
               intro A5 n5 c5 w5 hown5 hgrow5 hmv5
               have R6 := Lib.hid (R5.out.app hown5 hgrow5)
               clear hown5 hgrow5 hmv5)
            | (at_builtin; refine wpList_append_cel _ rfl (.tmp 56) (.tmp 57) _ rfl w4.heap.size 78 k0 _ 9 88 Try.underlying69 hk0 hy0 hy1 hy2 rfl (by omega) (.slice A5 n5 c5) (0 + L) _ rfl R6.out.ow _ (.slice A7 n7 c7) M _ rfl (CB.out.only R6.out.ho (fun _ _ h => h)) (rows_one m) N2.out.1 N2.out.2 R6.out.ho.size ?_
               intro A6 n6 c6 w6 hown6 hgrow6 hmv6
               have R7 := Lib.hid (R6.out.app hown6 hgrow6)
               have C7 : Hid (Cel w6 (ownb (.slice A6 n6 c6)) (.slice A6 n6 c6) (l ++ m).length 9 ((l ++ m).flatMap enRow)) := by
                 have h := Cel.of_own R7.out.ow
                 rw [Hid, List.length_append, ← HL.out, ← HM.out, List.flatMap_append, ← Nat.zero_add L]
                 exact h
               clear hown6 hgrow6 hmv6)
            | (go_at_call 35; have _t := tok1; clear tok1; refine (sm_of _ (l ++ m) _ _ C7.out).mono ?_; rw [SE.out]; rintro E w8 ⟨rfl, o8⟩; have O8 := Lib.hid (R7.out.ho.trans o8); clear o8; have tok2 : True := trivial)
            | (go_at_call 35; have _t := tok2; clear tok2; refine (sm_of _ l _ _ (by rw [← HL.out]; exact CA.out.only O8.out (fun _ _ h => h))).mono ?_; rw [XE.out]; rintro E w9 ⟨rfl, o9⟩; have O9 := Lib.hid (O8.out.trans o9); clear o9; have tok3 : True := trivial)
            | (go_at_call 35; have _t := tok3; clear tok3; refine (sm_of _ m _ _ (by rw [← HM.out]; exact CB.out.only O9.out (fun _ _ h => h))).mono ?_; rw [YE.out]; rintro E w10 ⟨rfl, o10⟩; have O10 := Lib.hid (O9.out.trans o10); clear o10))
          have G0 := Lib.hid (Su.new w10)
          have OW := Lib.hid ((O4.out.trans O10.out).alloc (.cells #[.int .u64 0] 92))
          have HGW := Lib.hid ((O4.out.trans O10.out).size)
          have DA : Hid (Cel (w10.alloc (.cells #[.int .u64 0] 92)) (fun b => b < w10.heap.size) (.slice A9 n9 c9) L 9 (l.flatMap enRow)) := ((CA.out.only O10.out (fun _ _ h => h)).mono (fun b hb h => hb)).alloc _
          have DB : Hid (Cel (w10.alloc (.cells #[.int .u64 0] 92)) (fun b => b < w10.heap.size) (.slice A7 n7 c7) M 9 (m.flatMap enRow)) := ((CB.out.only O10.out (fun _ _ h => h)).mono (fun b hb h => hb)).alloc _
          have NG : Hid (∀ b, b < w10.heap.size → ¬ one w10.heap.size b) := fun b hb e => by have e' : b = w10.heap.size := e; omega
          generalize w10.alloc (.cells #[.int .u64 0] 92) = w11 at *
          generalize w10.heap.size = g at *
          clear O8 O9 O10 R5 R6 R7 C7 CA CB N1 N2 O4
          go_loopw [68] (fun i wr => ∃ k : Nat, k ≤ n9 ∧ i = .int .i64 (k : Int) ∧ Su wr g (sumH (l.take k)) ∧ Only none_ W wr ∧ Only (one g) w11 wr) (fun i _ => n9 - (intOf i).toNat)
          case atStart => exact ⟨0, Nat.zero_le _, rfl, G0.out, OW.out, Only.refl _ _⟩
          case round =>
            clear G0 OW
            obtain ⟨k, hk, rfl, hs, ho, hq⟩ := hrel
            have HSU := Lib.hid hs
            have HW := Lib.hid ho
            have HQ := Lib.hid hq
            clear hs ho hq
            by_cases hlt : k < n9
            · obtain ⟨A', c', e, _, _, _, _, h4⟩ := DA.out.only HQ.out NG.out
              obtain ⟨b, off, hA, _, hb, hc⟩ := h4 (by have := HN9.out; omega)
              injection e with e1 e2 e3
              subst e1 e3 hA
              clear h4 e2
              obtain ⟨a, ha⟩ : ∃ a, l[k]? = some a := ⟨l[k]'(by have := HN9.out; have := HL.out; omega), List.getElem?_eq_getElem _⟩
              have q := en_here hc hb ha
              have HS := Lib.hid (sumH_succ ha)
              have B0 := Lib.hid (Blk.new wr 78 #[.string a.k, .string a.v, .bool a.d, .int .i64 a.s.c, .int .i64 a.s.s, .int .i64 a.a.c, .int .i64 a.a.s, .int .i64 a.p, .int .i64 a.g])
              have S0 := Lib.hid (HSU.out.alloc (.cells #[.string a.k, .string a.v, .bool a.d, .int .i64 a.s.c, .int .i64 a.s.s, .int .i64 a.a.c, .int .i64 a.a.s, .int .i64 a.p, .int .i64 a.g] 78))
              have W0 := Lib.hid (HW.out.alloc (.cells #[.string a.k, .string a.v, .bool a.d, .int .i64 a.s.c, .int .i64 a.s.s, .int .i64 a.a.c, .int .i64 a.a.s, .int .i64 a.p, .int .i64 a.g] 78))
              have Q0 := Lib.hid (HQ.out.alloc (.cells #[.string a.k, .string a.v, .bool a.d, .int .i64 a.s.c, .int .i64 a.s.s, .int .i64 a.a.c, .int .i64 a.a.s, .int .i64 a.p, .int .i64 a.g] 78))
              have N13 : Hid (wr.heap.size ≠ g) := by have := HSU.out.lt; rw [Hid]; omega
              obtain ⟨z, hz⟩ : ∃ z, sumH (l.take k) = z := ⟨_, rfl⟩
              have HZ := Lib.hid hz
              rw [hz] at S0 HS
              clear ha hc hz HSU HW HQ
              go_wp2_with fail
              generalize wr.alloc (.cells #[.string a.k, .string a.v, .bool a.d, .int .i64 a.s.c, .int .i64 a.s.s, .int .i64 a.a.c, .int .i64 a.a.s, .int .i64 a.p, .int .i64 a.g] 78) = w12 at *
              generalize wr.heap.size = h13 at *
              go_loopw [74] (fun i wr => ∃ j : Nat, j ≤ n7 ∧ i = .int .i64 (j : Int) ∧ Su wr g z ∧ Blk wr h13 78 #[.string a.k, .string a.v, .bool a.d, .int .i64 a.s.c, .int .i64 a.s.s, .int .i64 a.a.c, .int .i64 a.a.s, .int .i64 a.p, .int .i64 a.g] ∧ Only none_ W wr ∧ Only (one g) w11 wr) (fun i _ => n7 - (intOf i).toNat)
              case atStart => exact ⟨0, Nat.zero_le _, rfl, S0.out, B0.out, W0.out, Q0.out⟩
              case round =>
                clear S0 B0 W0 Q0 q
                obtain ⟨j, hj, rfl, hs, hbx, ho, hq⟩ := hrel
                have HSU := Lib.hid hs
                have HBX := Lib.hid hbx
                have HW := Lib.hid ho
                have HQ := Lib.hid hq
                clear hs hbx ho hq
                by_cases hlt2 : j < n7
                · obtain ⟨A', c', e, _, _, _, _, h4⟩ := DB.out.only HQ.out NG.out
                  obtain ⟨b, off, hA, _, hb, hc⟩ := h4 (by have := HN7.out; omega)
                  injection e with e1 e2 e3
                  subst e1 e3 hA
                  clear h4 e2
                  obtain ⟨f, hf⟩ : ∃ f, m[j]? = some f := ⟨m[j]'(by have := HN7.out; have := HM.out; omega), List.getElem?_eq_getElem _⟩
                  have q := en_here hc hb hf
                  have T1 : Hid (Tn W 78 78 g h13 wr.heap.size z a f (wr.alloc (.cells #[.string f.k, .string f.v, .bool f.d, .int .i64 f.s.c, .int .i64 f.s.s, .int .i64 f.a.c, .int .i64 f.a.s, .int .i64 f.p, .int .i64 f.g] 78))) := ⟨HBX.out.alloc _, Blk.new wr _ _, HSU.out.alloc _, HW.out.alloc _⟩
                  have Q1 := Lib.hid (HQ.out.alloc (.cells #[.string f.k, .string f.v, .bool f.d, .int .i64 f.s.c, .int .i64 f.s.s, .int .i64 f.a.c, .int .i64 f.a.s, .int .i64 f.p, .int .i64 f.g] 78))
                  have N15 : Hid (wr.heap.size ≠ g) := by have := HSU.out.lt; rw [Hid]; omega
                  obtain ⟨v, hv⟩ : ∃ v, w64 z = v := ⟨_, rfl⟩
                  have HV := Lib.hid hv
                  have HV2 : Hid (w64 (z + ((hsh f : Int) - hsh a) + ((hsh a : Int) - hsh f)) = v) := by rw [Hid, ← hv]; congr 1; omega
                  clear hf hc hv HSU HBX HW HQ
                  have tok1 : True := trivial
                  go_wp2_with (first
                    | (go_at_call 41; refine (su_value _ _ _ T1.out.s).mono ?_; rw [HV.out]; rintro E w13 ⟨rfl, e13⟩; have T2 := Lib.hid (e13 ▸ T1.out); have Q2 := Lib.hid (e13 ▸ Q1.out); clear e13)
                    | (refine wpl_load rfl 78 _ rfl h13 rfl 78 #[.string a.k, .string a.v, .bool a.d, .int .i64 a.s.c, .int .i64 a.s.s, .int .i64 a.a.c, .int .i64 a.a.s, .int .i64 a.p, .int .i64 a.g] _ T2.out.x Try.underlying78 rfl (by kernel_rfl) ?_)
                    | (refine wpl_load rfl 78 _ rfl wr.heap.size rfl 78 #[.string f.k, .string f.v, .bool f.d, .int .i64 f.s.c, .int .i64 f.s.s, .int .i64 f.a.c, .int .i64 f.a.s, .int .i64 f.p, .int .i64 f.g] _ T2.out.y Try.underlying78 rfl (by kernel_rfl) ?_)
                    | (go_at_call 39; have _t := tok1; clear tok1; refine (su_turn g _ _ _ _ T2.out.s).mono ?_; rintro E w14 ⟨rfl, s14, o14⟩; have T3 := Lib.hid (T2.out.step s14 o14 N13.out N15.out HGW.out); have Q3 := Lib.hid (Q2.out.trans o14); clear s14 o14; have tok2 : True := trivial)
                    | (refine wpl_load rfl 78 _ rfl h13 rfl 78 #[.string a.k, .string a.v, .bool a.d, .int .i64 a.s.c, .int .i64 a.s.s, .int .i64 a.a.c, .int .i64 a.a.s, .int .i64 a.p, .int .i64 a.g] _ T3.out.x Try.underlying78 rfl (by kernel_rfl) ?_)
                    | (refine wpl_load rfl 78 _ rfl wr.heap.size rfl 78 #[.string f.k, .string f.v, .bool f.d, .int .i64 f.s.c, .int .i64 f.s.s, .int .i64 f.a.c, .int .i64 f.a.s, .int .i64 f.p, .int .i64 f.g] _ T3.out.y Try.underlying78 rfl (by kernel_rfl) ?_)
                    | (go_at_call 39; have _t := tok2; clear tok2; refine (su_turn g _ _ _ _ T3.out.s).mono ?_; rw [HV2.out]; rintro E w15 ⟨rfl, s15, o15⟩; have T4 := Lib.hid (T3.out.step s15 o15 N13.out N15.out HGW.out); have Q4 := Lib.hid (Q3.out.trans o15); clear s15 o15))
                  go_roundw
                  case rel => exact ⟨j + 1, by omega, by go_num, T4.out.s.eq (by congr 1; omega), T4.out.x, T4.out.ho, Q4.out⟩
                  case measure => simp [intOf]; omega
                · obtain rfl : n7 = j := by omega
                  clear hlt2 hj
                  go_wp2_with (first
                    | (refine wpl_load rfl 78 _ rfl h13 rfl 78 #[.string a.k, .string a.v, .bool a.d, .int .i64 a.s.c, .int .i64 a.s.s, .int .i64 a.a.c, .int .i64 a.a.s, .int .i64 a.p, .int .i64 a.g] _ HBX.out Try.underlying78 rfl (by kernel_rfl) ?_)
                    | (go_at_call 40; refine (su_add g z a _ HSU.out).mono ?_; rintro E w16 ⟨rfl, s16, o16⟩; have S7 := Lib.hid s16; have W7 := Lib.hid (HW.out.trans' o16 (fun i hi e => by have e' : i = g := e; have := HGW.out; omega)); have Q7 := Lib.hid (HQ.out.trans o16); clear s16 o16))
                  go_roundw
                  case rel => exact ⟨k + 1, by omega, by go_num, S7.out.eq (by rw [HS.out]), W7.out, Q7.out⟩
                  case measure => simp [intOf]; omega
            · obtain rfl : n9 = k := by omega
              have HT : Hid (l.take n9 = l) := by rw [Hid, HN9.out, HL.out, List.take_length]
              rw [HT.out] at HSU
              have CW : Hid (Cel wr (fun b => b < g) (.slice A9 n9 c9) l.length 9 (l.flatMap enRow)) := by rw [← HL.out]; exact DA.out.only HQ.out NG.out
              clear HT hlt hk
              go_wp2_with (first
                | (go_at_call 41; refine (su_value _ _ _ HSU.out).mono ?_; rw [XE.out]; rintro E w17 ⟨rfl, e17⟩; have CV := Lib.hid (e17 ▸ CW.out); have OV := Lib.hid (e17 ▸ HW.out); clear e17)
                | (go_at_call 35; refine (sm_of _ l _ _ CV.out).mono ?_; rw [XE.out]; rintro E w18 ⟨rfl, o18⟩; have O18 := Lib.hid (OV.out.trans o18); clear o18))
              go_ret
              exact ⟨by first | rfl | simp, O18.out.below (Nat.le_refl _) (fun k hk => hk.elim)⟩
set_option maxHeartbeats 3200000 in
theorem sums_parts_long (A D : Option Addr) (c d : Nat) (l m : List En) (W : World) (hx : Cel W (fun b => b < W.heap.size) (.slice A l.length c) l.length 9 (l.flatMap enRow)) (hy : Cel W (fun b => b < W.heap.size) (.slice D m.length d) m.length 9 (m.flatMap enRow)) (h : (l.all enShort && decide (l.length ≤ 40)) = false ∨ ((l.all enShort && decide (l.length ≤ 40)) = true ∧ (m.all enShort && decide (m.length ≤ 40)) = false)) :
    Calls Try.prog 9 #[.slice A l.length c, .slice D m.length d] W fun e w' => e = .returned (.bool true) ∧ Below W.heap.size W w' := by
  have CX := Lib.hid (fun (w' : World) (o : Only none_ W w') => hx.only o (fun _ _ h => h))
  have CY := Lib.hid (fun (w' : World) (o : Only none_ W w') => hy.only o (fun _ _ h => h))
  obtain ⟨L, hL⟩ : ∃ L, L = l.length := ⟨_, rfl⟩
  obtain ⟨M, hM⟩ : ∃ M, M = m.length := ⟨_, rfl⟩
  have h' : ∃ f1 f2, (l.all enShort && decide (l.length ≤ 40)) = f1 ∧ (m.all enShort && decide (m.length ≤ 40)) = f2 ∧ (f1 = false ∨ (f1 = true ∧ f2 = false)) := ⟨_, _, rfl, rfl, h⟩
  obtain ⟨f1, f2, e1, e2, h2⟩ := h'
  rw [← hL] at CX ⊢
  rw [← hM] at CY ⊢
  have HL := Lib.hid hL
  have HM := Lib.hid hM
  have FL := Lib.hid e1
  have FM := Lib.hid e2
  clear hx hy h e1 e2 hL hM
  have tokA : True := trivial
  have tokS : True := trivial
  rcases h2 with rfl | ⟨rfl, rfl⟩
  · go_enter Try.func9, Try.ntmps9
    go_wp2_with (first
      | (go_at_call 29; have _t := tokS; clear tokS; refine (sm_speaks _).mono ?_; rintro e w1 ⟨rfl, o1⟩; have O1 := Lib.hid o1; clear o1)
      | (go_at_call 30; refine (sm_few _ l _ _ (by rw [← HL.out]; exact CX.out _ O1.out)).mono ?_; rw [FL.out]; rintro e w2 ⟨rfl, o2⟩; have O2 := Lib.hid (O1.out.trans o2); clear o2)
      | (go_at_call 29; refine (sm_speaks _).mono ?_; rintro e w3 ⟨rfl, o3⟩; have O3 := Lib.hid (O2.out.trans o3); clear o3))
    go_ret
    exact ⟨rfl, O3.out.below (Nat.le_refl _) (fun k hk => hk.elim)⟩
  · go_enter Try.func9, Try.ntmps9
    go_wp2_with (first
      | (go_at_call 29; have _t := tokS; clear tokS; refine (sm_speaks _).mono ?_; rintro e w1 ⟨rfl, o1⟩; have O1 := Lib.hid o1; clear o1)
      | (go_at_call 30; have _t := tokA; clear tokA; refine (sm_few _ l _ _ (by rw [← HL.out]; exact CX.out _ O1.out)).mono ?_; rw [FL.out]; rintro e w2 ⟨rfl, o2⟩; have O2 := Lib.hid (O1.out.trans o2); clear o2; have tokB : True := trivial)
      | (go_at_call 30; have _t := tokB; clear tokB; refine (sm_few _ m _ _ (by rw [← HM.out]; exact CY.out _ O2.out)).mono ?_; rw [FM.out]; rintro e w3 ⟨rfl, o3⟩; have O3 := Lib.hid (O2.out.trans o3); clear o3)
      | (go_at_call 29; refine (sm_speaks _).mono ?_; rintro e w4 ⟨rfl, o4⟩; have O4 := Lib.hid (O3.out.trans o4); clear o4))
    go_ret
    exact ⟨rfl, O4.out.below (Nat.le_refl _) (fun k hk => hk.elim)⟩
end Go.Proofs.Ytkailngpmodfhaa
