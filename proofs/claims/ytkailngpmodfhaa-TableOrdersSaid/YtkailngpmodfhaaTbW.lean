/- The call of TableOrders. The statement itself is proved in another text. -/
import Derived.Test.YtkailngpmodfhaaTbV
import Derived.Test.YtkailngpmodfhaaTbF
namespace Go.Proofs.Ytkailngpmodfhaa.Sv
open Go.RowKit
set_option maxRecDepth 100000
set_option linter.all false

theorem eq_pairS (w : World) (a b x y : ByteArray) (d : Nat) : (Op.equalIn (d + 2) 61 (.agg #[.string a, .string x]) (.agg #[.string b, .string y])).run Try.prog w = .ok (a.toList == b.toList && x.toList == y.toList) w := by
  rw [eq_struct8 Try.underlying61 (by kernel_rfl)]
  have e1 : ∀ (a b : ByteArray), (Op.equalIn (d + 1) 9 (.string a) (.string b)).run Try.prog w = .ok (a.toList == b.toList) w := fun a b => run_equalIn_string w d 9 a b Try.underlying9
  cases h1 : a.toList == b.toList <;> cases h2 : x.toList == y.toList <;> simp [Op.eqFields, part, isAgg, run_underlying Try.underlying9, e1, h1, h2]
theorem neq_pairS (w : World) (a x : ByteArray) : (binOp .neq 61 (.agg #[.string a, .string x]) (.agg #[.string a, .string x])).run Try.prog w = .ok (.bool false) w := by
  rw [run_neq_struct, eq_pairS w a a x x 9998]
  simp
theorem seq_nil (fn : Fn) (first cap : Array Value) (w : World) : (binOp .eql 63 (.func fn first cap) Value.nilFunc).run Try.prog w = .ok (.bool false) w := by kernel_rfl
theorem rnk_nilS (l : List (Pr ByteArray)) : rnk l ⟨#[]⟩ = 0 := List.countP_eq_zero.2 (fun p _ h => by
  have : Op.bytesLess p.k.data.toList [] = true := h
  cases hp : p.k.data.toList <;> rw [hp] at this <;> simp [Op.bytesLess] at this)
theorem scan_wholeS (l : List (Pr ByteArray)) (n : Int) (h : (l.length : Int) ≤ n) : scanL l ⟨#[]⟩ n = l := by
  rw [scanL, rnk_nilS, List.drop_zero, List.take_of_length_le (by omega)]

/-- Two tables that share no block, and a box. -/
structure Tw (W : World) (g1 g2 : Nat) (s t : List (Pr ByteArray)) (v1 v2 : Value) (hS : Nat) (st : Nat) (w : World) : Prop where
  a : Tb W g1 64 s v1 w
  b : Tb W g2 64 t v2 w
  ne : ∀ k, foot g1 v1 k → ¬ foot g2 v2 k
  bs : Blk w hS 5 #[.int .u8 (st : Int)]
section
variable {W w w' : World} {g1 g2 : Nat} {s t s' : List (Pr ByteArray)} {v1 v2 : Value} {hS st : Nat}
theorem Tw.keep (k : Tw W g1 g2 s t v1 v2 hS st w) (o : Only none_ w w') : Tw W g1 g2 s t v1 v2 hS st w' := ⟨k.a.keep o, k.b.keep o, k.ne, k.bs.only o (fun h => h)⟩
theorem Tb.offS {B : World} {g : Nat} {room : Int} {l : List (Pr ByteArray)} {v : Value} (s : Tb B g room l v w) {h : Nat} {t : TypeId} {cs : Array Value} (b : Blk w h t cs) (h1 : 112 ≠ t) (h2 : 61 ≠ t) : ¬ foot g v h := by
  rintro (e | e)
  · exact Blk.ne_ s.bk b h1 e.symm
  · exact own_blk_ne s.ow b h2 e
theorem Tw.first (k : Tw W g1 g2 s t v1 v2 hS st w) (h : LeftT W g1 64 v1 w s' w') : ∃ v', Tw W g1 g2 s' t v' v2 hS st w' := by
  obtain ⟨v', h1, o, mv⟩ := h
  refine ⟨v', h1, k.b.apart o (fun b hb hb1 => k.ne b hb1 hb) (fun b hb => (k.a.foot_ge hb).1), fun b hb => ?_, k.bs.only o (k.a.offS k.bs (by decide) (by decide))⟩
  rcases hb with hb | hb
  · exact k.ne b (.inl hb)
  · rcases mv b hb with e | e
    · exact k.ne b (.inr e)
    · exact fun hf => by have := (k.b.foot_ge hf).2; omega
theorem Tw.second (k : Tw W g1 g2 s t v1 v2 hS st w) (h : LeftT W g2 64 v2 w s' w') : ∃ v', Tw W g1 g2 s s' v1 v' hS st w' := by
  obtain ⟨v', h1, o, mv⟩ := h
  refine ⟨v', k.a.apart o (fun b hb hb1 => k.ne b hb hb1) (fun b hb => (k.b.foot_ge hb).1), h1, fun b hb hf => ?_, k.bs.only o (k.b.offS k.bs (by decide) (by decide))⟩
  rcases hf with hf | hf
  · exact k.ne b hb (.inl hf)
  · rcases mv b hf with e | e
    · exact k.ne b hb (.inr e)
    · have := (k.a.foot_ge hb).2; omega
end

set_option maxHeartbeats 51200000 in
theorem to_yes (A0 : Option Addr) (c0 : Nat) (l : List ByteArray) (st : Nat) (W : World) (hx : Cel W (fun b => b < W.heap.size) (.slice A0 l.length c0) l.length 1 (l.flatMap strC)) (hl : l.length ≤ 40) (hst : st < 256) :
    Calls Try.prog 5 #[.slice A0 l.length c0, .int .u8 (st : Int)] W fun e w' => e = .returned (.bool true) ∧ Below W.heap.size W w' := by
  have CX := Lib.hid (fun (w' : World) (o : Only none_ W w') => hx.only o (fun _ _ h => h))
  obtain ⟨N, hN⟩ : ∃ N, N = l.length := ⟨_, rfl⟩
  have HREV : Hid (pAll l.reverse = pAll l) := pAll_rev l (by omega)
  have HALL := Lib.hid (pAll_all l)
  rw [← hN] at hx hl CX ⊢
  have HN := Lib.hid hN
  have hq : decide ((40 : Int) < (N : Int)) = false := by simp; omega
  have BS0 := Lib.hid (Blk.new W 5 #[.int .u8 (st : Int)])
  have OS0 := Lib.hid ((Only.refl none_ W).alloc (.cells #[.int .u8 (st : Int)] 5))
  have hmf : ∀ (fn : Fn) (first cap : Array Value) (w : World), (Instr.makeFunc fn first cap).run Try.prog w = .ok (.func fn first cap) w := fun _ _ _ _ => rfl
  have tok1 : True := trivial
  clear hx hN
  go_enter Try.func5, Try.ntmps5
  go_wp2_with (first
    | (go_at_call 10; refine (t_speaks _).mono ?_; rintro e w1 ⟨rfl, o1⟩; have O1 := Lib.hid (OS0.out.trans o1); have BS1 := Lib.hid (BS0.out.only o1 (fun h => h)); clear o1)
    | (go_at_call 23; have _t := tok1; clear tok1; refine (tb_new_yes W 64 _ O1.out (by decide) (by decide)).mono ?_; rintro e w3 ⟨g1, rfl, hg1, t3, o3⟩; have T3 := Lib.hid t3; have BS3 := Lib.hid (BS1.out.only o3 (fun h => h)); clear t3 o3 hg1; have tok2 : True := trivial)
    | (go_at_call 23; have _t := tok2; clear tok2; refine (tb_new_yes W 64 _ T3.out.ho (by decide) (by decide)).mono ?_; rintro e w4 ⟨g2, rfl, hg2, t4, o4⟩
       have T4 : Hid (Tw W g1 g2 [] [] (.slice none 0 0) (.slice none 0 0) W.heap.size st w4) := ⟨T3.out.keep o4, t4, fun k hk hf => by
         have := (T3.out.foot_ge hk).2
         rcases hf with e | e
         · omega
         · simp [Value.ownBlock] at e, BS3.out.only o4 (fun h => h)⟩
       clear t4 o4 hg2))
  clear BS0 OS0 O1 BS1 T3 BS3
  go_loopw [47] (fun i wr => ∃ (k : Nat) (v1 v2 : Value), k ≤ N ∧ i = .int .i64 (k : Int) ∧ Tw W g1 g2 (pAll (l.take k)) (pAll (l.reverse.take k)) v1 v2 W.heap.size st wr) (fun i _ => N - (intOf i).toNat)
  case atStart => exact ⟨0, _, _, Nat.zero_le _, rfl, T4.out⟩
  case round =>
    clear T4
    obtain ⟨k, v1, v2, hk, rfl, ht⟩ := hrel
    have T := Lib.hid ht
    clear ht
    by_cases hlt : k < N
    · have hkl : k < l.length := by have := HN.out; omega
      obtain ⟨j, hj⟩ : ∃ j, N - 1 - k = j := ⟨_, rfl⟩
      have hjl : j < l.length := by have := HN.out; omega
      obtain ⟨b, off, hA, hbW, hb, hc1⟩ := str_cell (CX.out _ T.out.a.ho) k hkl HN.out
      obtain ⟨b', off', hA', _, _, hc2⟩ := str_cell (CX.out _ T.out.a.ho) j hjl HN.out
      rw [hA] at hA'
      injection hA' with hA'
      injection hA' with e1 e2
      subst e1 e2 hA
      have P1 := Lib.hid (pAll_succ (List.getElem?_eq_getElem hkl))
      have P2 : Hid (pAll (l.reverse.take (k + 1)) = putT 64 (pAll (l.reverse.take k)) l[j] l[j]) := by
        refine pAll_succ ?_
        rw [List.getElem?_reverse (by omega), ← List.getElem?_eq_getElem hjl]
        congr 1
        have := HN.out; omega
      obtain ⟨x, hxe⟩ : ∃ x, l[k] = x := ⟨_, rfl⟩
      obtain ⟨y, hye⟩ : ∃ y, l[j] = y := ⟨_, rfl⟩
      rw [hxe] at hc1 P1
      rw [hye] at hc2 P2
      have XC : Hid (∀ w', Only none_ wr w' → w'.cell? ⟨b, off + k, none⟩ = some (.string x) ∧ w'.cell? ⟨b, off + j, none⟩ = some (.string y)) := fun w' o => ⟨(o.cell (p := ⟨b, off + k, none⟩) hb (fun h => h)).trans hc1, (o.cell (p := ⟨b, off + j, none⟩) hb (fun h => h)).trans hc2⟩
      have HB := Lib.hid hbW
      have hki : (k : Int) < (N : Int) := by omega
      have hji : (j : Int) < (N : Int) := by omega
      have hjn : j < N := by omega
      have e1 : (N : Int) - 1 - (k : Int) = (j : Int) := by omega
      have e2 : IntKind.i64.wrap ((N : Int) - 1) = (N : Int) - 1 := IntWalk.i64_in _ (by omega)
      have e3 : IntKind.i64.wrap (j : Int) = (j : Int) := IntWalk.i64_in _ (by omega)
      obtain ⟨q1, hq1⟩ : ∃ q, putC 64 (pAll (l.take k)) x = q := ⟨_, rfl⟩
      clear hxe hye hj hkl hjl hq1
      by_cases h40 : (x.size : Int) ≤ 40
      · go_wp2_with fail
        (refine wp_region_steady (fun w' => Only none_ wr w') 9 (by kernel_rfl) (by kernel_rfl) ((Only.refl none_ wr).drew) ?_; simp only [List.take_succ_cons, List.take_zero, List.drop_succ_cons, List.drop_zero])
        repeat (first
          | (refine sd_value (v := ?_) (by rfl) (fun w0 hS => ?_) ?_; rotate_left; (· (skip; go_simp; try (with_reducible rfl))); try simp only [Act.put, List.setIfInBounds_toArray, List.set_cons_zero, List.set_cons_succ])
          | (refine sd_value (v := ?_) (by rfl) (fun w0 hS => ?_) ?_; rotate_left; (· (have hc := XC.out _ hS; obtain ⟨hca, hcb⟩ := hc; go_simp; try (with_reducible rfl))); try simp only [Act.put, List.setIfInBounds_toArray, List.set_cons_zero, List.set_cons_succ]))
        refine sd_nil ?_
        intro w5 o5
        have T5 := Lib.hid (T.out.keep o5)
        have XC5 : Hid (∀ w', Only (foot g1 v1) w5 w' → w'.cell? ⟨b, off + k, none⟩ = some (.string x) ∧ w'.cell? ⟨b, off + j, none⟩ = some (.string y)) := fun w' o => by
          have hw := XC.out _ o5
          have hbf : ¬ foot g1 v1 b := fun hf => by have h1 := (T.out.a.foot_ge hf).1; have h2 := HB.out; omega
          exact ⟨(o.cell (p := ⟨b, off + k, none⟩) (Nat.lt_of_lt_of_le hb o5.size) hbf).trans hw.1, (o.cell (p := ⟨b, off + j, none⟩) (Nat.lt_of_lt_of_le hb o5.size) hbf).trans hw.2⟩
        clear o5
        go_wp2_with (first
          | (go_at_call 24; refine (tb_put W g1 64 _ v1 x x _ T5.out.a).mono ?_; rintro E w6 ⟨rfl, l6⟩
             obtain ⟨v6, t6⟩ := T5.out.first l6
             rw [← P1.out] at t6
             have T6 := Lib.hid t6
             have hb6 : b < w6.heap.size := by obtain ⟨_, _, o, _⟩ := l6; have h1 := T5.out.a.ho.size; have := o.size; have := HB.out; omega
             have XC6 : Hid (∀ w', Only none_ w6 w' → w'.cell? ⟨b, off + k, none⟩ = some (.string x) ∧ w'.cell? ⟨b, off + j, none⟩ = some (.string y)) := fun w' o => by
               obtain ⟨_, _, o6, _⟩ := l6
               have hw := XC5.out _ o6
               exact ⟨(o.cell (p := ⟨b, off + k, none⟩) hb6 (fun h => h)).trans hw.1, (o.cell (p := ⟨b, off + j, none⟩) hb6 (fun h => h)).trans hw.2⟩
             clear l6 t6 hb6))
        (refine wp_region_steady (fun w' => Only none_ w6 w') 17 (by kernel_rfl) (by kernel_rfl) ((Only.refl none_ w6).drew) ?_; simp only [List.take_succ_cons, List.take_zero, List.drop_succ_cons, List.drop_zero])
        repeat (first
          | (refine sd_value (v := ?_) (by rfl) (fun w0 hS => ?_) ?_; rotate_left; (· (skip; go_simp; try (with_reducible rfl))); try simp only [Act.put, List.setIfInBounds_toArray, List.set_cons_zero, List.set_cons_succ])
          | (refine sd_value (v := ?_) (by rfl) (fun w0 hS => ?_) ?_; rotate_left; (· (have hc := XC6.out _ hS; obtain ⟨hca, hcb⟩ := hc; go_simp; try (with_reducible rfl))); try simp only [Act.put, List.setIfInBounds_toArray, List.set_cons_zero, List.set_cons_succ])
          | (simp only [e2, e1, e3]))
        refine sd_nil ?_
        intro w7 o7
        have T7 := Lib.hid (T6.out.keep o7)
        clear o7
        go_wp2_with (first
          | (go_at_call 24; refine (tb_put W g2 64 _ v2 y y _ T7.out.b).mono ?_; rintro E w8 ⟨rfl, l8⟩
             obtain ⟨v8, t8⟩ := T7.out.second l8
             rw [← P2.out] at t8
             have T8 := Lib.hid t8
             clear l8 t8))
        go_roundw
        case rel => exact ⟨k + 1, v6, v8, by omega, by go_num, T8.out⟩
        case measure => simp [intOf]; omega
      · have OE := Lib.hid T.out.a.ho
        go_wp2_with fail
        go_ret
        exact ⟨rfl, OE.out.below (Nat.le_refl _) (fun k hk => hk.elim)⟩
    · obtain rfl : N = k := by omega
      have e1 : l.take N = l := by rw [HN.out, List.take_length]
      have e2 : l.reverse.take N = l.reverse := List.take_of_length_le (by rw [List.length_reverse, HN.out]; exact Nat.le_refl _)
      rw [e1, e2, HREV.out] at T
      clear e1 e2 hlt hk
      obtain ⟨hT1, hT2, hT3⟩ := HALL.out
      obtain ⟨hKV, _⟩ := hT3 (by have := HN.out; omega)
      obtain ⟨t, ht⟩ : ∃ t, pAll l = t := ⟨_, rfl⟩
      rw [ht] at T hT1 hT2 hKV
      obtain ⟨n, hn⟩ : ∃ n, n = t.length := ⟨_, rfl⟩
      have HNT := Lib.hid hn
      have hn40 : n ≤ 40 := by have := HN.out; omega
      have HRS := Lib.hid hT2
      have HKV := Lib.hid hKV
      have HSC : Hid (scanL t ⟨#[]⟩ 64 = t) := scan_wholeS t 64 (by omega)
      clear hT1 hT2 hT3 hKV ht hn HREV HALL
      have tok3 : True := trivial
      go_wp2_with (first
        | (go_at_call 25; have _t := tok3; clear tok3; refine (tb_scan W g1 64 t v1 ⟨#[]⟩ 64 _ T.out.a).mono ?_; rw [HSC.out]; rintro E w1 ⟨q1, rfl, own1, o1⟩
           obtain ⟨A1, n1, c1, rfl⟩ := own_shape own1
           have E1 : n1 = n := by obtain ⟨_, _, e, _⟩ := Cel.of_own own1; injection e with _ e _; rw [e]; exact HNT.out.symm
           subst E1
           have T1 := Lib.hid (T.out.keep o1)
           have C1 := Cel.of_own own1
           rw [← HNT.out] at C1
           have D1 := Lib.hid C1
           clear own1 o1 C1
           have tok4 : True := trivial)
        | (go_at_call 25; have _t := tok4; clear tok4; refine (tb_scan W g2 64 t v2 ⟨#[]⟩ 64 _ T1.out.b).mono ?_; rw [HSC.out]; rintro E w2 ⟨q2, rfl, own2, o2⟩
           obtain ⟨A2, n2, c2, rfl⟩ := own_shape own2
           have E2 : n2 = n1 := by obtain ⟨_, _, e, _⟩ := Cel.of_own own2; injection e with _ e _; rw [e]; exact HNT.out.symm
           subst E2
           have T2 := Lib.hid ((T1.out.keep o2).keep ((Only.refl none_ w2).alloc (.cells #[.slice A1 n2 c1] 57)))
           have X2 := Lib.hid (Blk.new w2 57 #[.slice A1 n2 c1])
           have D2 := Lib.hid ((D1.out.only o2 (fun _ _ h => h)).alloc (.cells #[.slice A1 n2 c1] 57))
           have C2 := Cel.of_own own2
           rw [← HNT.out] at C2
           have F2 := Lib.hid (C2.alloc (.cells #[.slice A1 n2 c1] 57))
           clear own2 o2 C2))
      generalize w2.alloc (.cells #[.slice A1 n2 c1] 57) = w3 at *
      generalize w2.heap.size = hX at *
      have CA := Lib.hid (fun (w' : World) (o : Only none_ w3 w') => D2.out.only o (fun _ _ h => h))
      have CB := Lib.hid (fun (w' : World) (o : Only none_ w3 w') => F2.out.only o (fun _ _ h => h))
      clear D1 D2 F2 T T1
      (refine wp_region_steady (fun w' => (Tw W g1 g2 t t v1 v2 W.heap.size st w' ∧ Blk w' hX 57 #[.slice A1 n2 c1]) ∧ Only none_ w3 w') 12 (by kernel_rfl) (by kernel_rfl) (⟨⟨T2.out.keep (Only.refl none_ w3).drew, X2.out.drew⟩, (Only.refl none_ w3).drew⟩) ?_; simp only [List.take_succ_cons, List.take_zero, List.drop_succ_cons, List.drop_zero])
      repeat (first
        | (refine sd_value (v := ?_) (by rfl) (fun w0 hS => ?_) ?_; rotate_left; (· (skip; go_simp; try (with_reducible rfl))); try simp only [Act.put, List.setIfInBounds_toArray, List.set_cons_zero, List.set_cons_succ])
        | (refine sd_value (v := ?_) (by rfl) (fun w0 hS => ?_) ?_; rotate_left; (· (have hc := Blk.cell_ (t := 57) (i := 0) hS.1.2 rfl; go_simp; try (with_reducible rfl))); try simp only [Act.put, List.setIfInBounds_toArray, List.set_cons_zero, List.set_cons_succ])
        | (refine sd_call (v := ?_) (f := 26) (args := ?_) (by rfl) (fun w0 hS => ?_) (fun w0 hS => ?_) ?_; rotate_left 2; (· (skip; go_simp; try (with_reducible rfl))); (· (refine (tb_len W g1 64 t v1 _ hS.1.1.a).mono ?_; rw [← HNT.out]; rintro E w8 ⟨rfl, e8⟩; refine ⟨?_, e8 ▸ hS⟩; rfl)); try simp only [Act.put, List.setIfInBounds_toArray, List.set_cons_zero, List.set_cons_succ])
        | (refine sd_skip (by rfl) ?_; try simp only [Act.put, List.setIfInBounds_toArray, List.set_cons_zero, List.set_cons_succ]))
      refine sd_nil ?_
      intro w4 t4
      have T4 := Lib.hid t4.1.1
      have X4 := Lib.hid t4.1.2
      have O4 := Lib.hid t4.2
      have x40 := Blk.cell_ (t := 57) (i := 0) t4.1.2 rfl
      clear t4 T2 X2
      go_wp2_with fail
      go_loopw [103] (fun i wr => ∃ k : Nat, k ≤ n2 ∧ i = .int .i64 (k : Int) ∧ Only none_ w4 wr) (fun i _ => n2 - (intOf i).toNat)
      case atStart => exact ⟨0, Nat.zero_le _, rfl, Only.refl _ _⟩
      case round =>
        obtain ⟨k, hk, rfl, ho⟩ := hrel
        have HW := Lib.hid ho
        clear ho x40
        by_cases hlt : k < n2
        · have hkl : k < t.length := by have := HNT.out; omega
          obtain ⟨ba, offa, hA, _, hla, ha0, ha1⟩ := prI_cell (CA.out _ (O4.out.trans HW.out)) k hkl HNT.out
          obtain ⟨bb, offb, hB, _, hlb, hb0, hb1⟩ := prI_cell (CB.out _ (O4.out.trans HW.out)) k hkl HNT.out
          have hkv := HKV.out t[k] (List.getElem_mem hkl)
          rw [hkv] at ha1 hb1
          have HPREV : Hid (0 < k → ∃ kp vp, wr.cell? ⟨ba, offa + (k - 1) * 2, none⟩ = some (.string kp) ∧ wr.cell? ⟨ba, offa + (k - 1) * 2 + 1, none⟩ = some (.string vp) ∧ Op.bytesLess kp.toList t[k].k.toList = true) := fun h0 => by
            obtain ⟨b9, o9, h9, _, _, hp0, hp1⟩ := prI_cell (CA.out _ (O4.out.trans HW.out)) (k - 1) (by omega) HNT.out
            rw [hA] at h9
            injection h9 with h9
            injection h9 with e1 e2
            subst e1 e2
            refine ⟨_, _, hp0, hp1, ?_⟩
            have := HRS.out (k - 1) k (by omega) hkl (by omega)
            rw [Lib.toList_data, Lib.toList_data]
            exact this
          subst hA hB
          generalize t[k].k = kk at *
          have NEQ := fun w => neq_pairS w kk kk
          have XX : Hid (∀ w', Only none_ wr w' → w'.cell? ⟨hX, 0, none⟩ = some (.slice (some ⟨ba, offa, none⟩) n2 c1)) := fun w' o => Blk.cell_ (t := 57) (i := 0) (X4.out.only (HW.out.trans o) (fun h => h)) rfl
          have XA : Hid (∀ w', Only none_ wr w' → ∀ (i : Nat) (u : Value), wr.cell? ⟨ba, i, none⟩ = some u → w'.cell? ⟨ba, i, none⟩ = some u) := fun w' o i u hu => (o.cell (p := ⟨ba, i, none⟩) hla (fun h => h)).trans hu
          have XB : Hid (∀ w', Only none_ wr w' → w'.cell? ⟨bb, offb + k * 2, none⟩ = some (.string kk) ∧ w'.cell? ⟨bb, offb + k * 2 + 1, none⟩ = some (.string kk)) := fun w' o => ⟨(o.cell (p := ⟨bb, offb + k * 2, none⟩) hlb (fun h => h)).trans hb0, (o.cell (p := ⟨bb, offb + k * 2 + 1, none⟩) hlb (fun h => h)).trans hb1⟩
          have A0 := Lib.hid ha0
          have A1' := Lib.hid ha1
          have hki : (k : Int) < (n2 : Int) := by omega
          clear ha0 ha1 hb0 hb1 hkv hkl
          rcases Nat.eq_zero_or_pos k with h0 | h0
          · subst h0
            have Z0 : Hid (wr.cell? ⟨ba, offa, none⟩ = some (.string kk)) := by have := A0.out; rw [Nat.zero_mul, Nat.add_zero] at this; exact this
            have Z1 : Hid (wr.cell? ⟨ba, offa + 1, none⟩ = some (.string kk)) := by have := A1'.out; rw [Nat.zero_mul, Nat.add_zero] at this; exact this
            have ZB : Hid (∀ w', Only none_ wr w' → w'.cell? ⟨bb, offb, none⟩ = some (.string kk) ∧ w'.cell? ⟨bb, offb + 1, none⟩ = some (.string kk)) := fun w' o => by have := XB.out w' o; rw [Nat.zero_mul, Nat.add_zero] at this; exact this
            have hn0 : 0 < n2 := hlt
            have hni : (0 : Int) < (n2 : Int) := by omega
            clear A0 A1' XB HPREV hki
            go_wp2_with fail
            (refine wp_region_steady (fun w' => Only none_ wr w') 40 (by kernel_rfl) (by kernel_rfl) ((Only.refl none_ wr).drew) ?_; simp only [List.take_succ_cons, List.take_zero, List.drop_succ_cons, List.drop_zero])
            repeat (first
              | (refine sd_value (v := ?_) (by rfl) (fun w0 hS => ?_) ?_; rotate_left; (· (skip; go_simp; try (with_reducible rfl))); try simp only [Act.put, List.setIfInBounds_toArray, List.set_cons_zero, List.set_cons_succ])
              | (refine sd_value (v := ?_) (by rfl) (fun w0 hS => ?_) ?_; rotate_left; (· (have hc := XX.out _ hS; go_simp; try (with_reducible rfl))); try simp only [Act.put, List.setIfInBounds_toArray, List.set_cons_zero, List.set_cons_succ])
              | (refine sd_value (v := ?_) (by rfl) (fun w0 hS => ?_) ?_; rotate_left; (· (have hc0 := XA.out _ hS _ _ Z0.out; have hc1 := XA.out _ hS _ _ Z1.out; go_simp; try (with_reducible rfl))); try simp only [Act.put, List.setIfInBounds_toArray, List.set_cons_zero, List.set_cons_succ])
              | (refine sd_value (v := ?_) (by rfl) (fun w0 hS => ?_) ?_; rotate_left; (· (have hc := ZB.out _ hS; go_simp; try (with_reducible rfl))); try simp only [Act.put, List.setIfInBounds_toArray, List.set_cons_zero, List.set_cons_succ])
              | (refine sd_skip (by rfl) ?_; try simp only [Act.put, List.setIfInBounds_toArray, List.set_cons_zero, List.set_cons_succ]))
            refine sd_nil ?_
            intro w5 o5
            have O5 := Lib.hid o5
            clear o5
            go_wp2_with fail
            go_roundw
            case rel => exact ⟨1, by omega, by rfl, HW.out.trans O5.out⟩
            case measure => simp [intOf]; omega
          · obtain ⟨kp, vp, hp0, hp1, hbl⟩ := HPREV.out h0
            obtain ⟨k1, hk1⟩ : ∃ k1, k - 1 = k1 := ⟨_, rfl⟩
            rw [hk1] at hp0 hp1
            have P0 := Lib.hid hp0
            have hz : decide ((0 : Int) < (k : Int)) = true := by rw [decide_eq_true_eq]; omega
            have e3 : (k : Int) - 1 = (k1 : Int) := by omega
            have e5 : IntKind.i64.wrap (k1 : Int) = (k1 : Int) := IntWalk.i64_in _ (by omega)
            have hki' : (k1 : Int) < (n2 : Int) := by omega
            have hkn' : k1 < n2 := by omega
            clear hk1
            clear hp0 hp1 HPREV
            go_wp2_with fail
            (refine wp_region_steady (fun w' => Only none_ wr w') 40 (by kernel_rfl) (by kernel_rfl) ((Only.refl none_ wr).drew) ?_; simp only [List.take_succ_cons, List.take_zero, List.drop_succ_cons, List.drop_zero])
            repeat (first
              | (refine sd_value (v := ?_) (by rfl) (fun w0 hS => ?_) ?_; rotate_left; (· (skip; go_simp; try (with_reducible rfl))); try simp only [Act.put, List.setIfInBounds_toArray, List.set_cons_zero, List.set_cons_succ])
              | (refine sd_value (v := ?_) (by rfl) (fun w0 hS => ?_) ?_; rotate_left; (· (have hc := XX.out _ hS; go_simp; try (with_reducible rfl))); try simp only [Act.put, List.setIfInBounds_toArray, List.set_cons_zero, List.set_cons_succ])
              | (refine sd_value (v := ?_) (by rfl) (fun w0 hS => ?_) ?_; rotate_left; (· (have hc0 := XA.out _ hS _ _ A0.out; have hc1 := XA.out _ hS _ _ A1'.out; have hc2 := XA.out _ hS _ _ P0.out; go_simp; try (with_reducible rfl))); try simp only [Act.put, List.setIfInBounds_toArray, List.set_cons_zero, List.set_cons_succ])
              | (refine sd_value (v := ?_) (by rfl) (fun w0 hS => ?_) ?_; rotate_left; (· (have hc := XB.out _ hS; go_simp; try (with_reducible rfl))); try simp only [Act.put, List.setIfInBounds_toArray, List.set_cons_zero, List.set_cons_succ])
              | (refine sd_skip (by rfl) ?_; try simp only [Act.put, List.setIfInBounds_toArray, List.set_cons_zero, List.set_cons_succ])
              | (simp only [e3, e5]))
            refine sd_nil ?_
            intro w5 o5
            have O5 := Lib.hid o5
            clear o5
            go_wp2_with fail
            go_roundw
            case rel => exact ⟨k + 1, by omega, by go_num, HW.out.trans O5.out⟩
            case measure => simp [intOf]; omega
        · obtain rfl : n2 = k := by omega
          have TW := Lib.hid (T4.out.keep HW.out)
          have HNW : Hid (W.heap.size ≤ wr.heap.size) := TW.out.a.ho.size
          have BN := Lib.hid (Blk.new wr 3 #[.int .i64 0])
          have ON := Lib.hid ((Only.refl none_ wr).alloc (.cells #[.int .i64 0] 3))
          have TN := Lib.hid (TW.out.keep ON.out)
          have XN := Lib.hid ((X4.out.only HW.out (fun h => h)).only ON.out (fun h => h))
          have CN : Hid (Cel (wr.alloc (.cells #[.int .i64 0] 3)) (fun b => b ≠ wr.heap.size) (.slice A1 n2 c1) n2 2 (t.flatMap prI)) := ((CA.out _ (O4.out.trans HW.out)).mono (T := fun b => b < wr.heap.size) (fun b hlt _ => hlt)).alloc _ |>.mono (fun b _ h => Nat.ne_of_lt h)
          have hmx : ∀ ts ty w, (Builtin.max_ ts ty #[.int .i64 (st : Int), .int .i64 1]).run Try.prog w = .ok (.int .i64 ((max st 1 : Nat) : Int)) w := fun ts ty w => by
            rw [run_max_int2]
            by_cases h9 : (st : Int) < 1
            · rw [if_pos (by omega)]; congr 2; omega
            · rw [if_neg (by omega)]; congr 2; omega
          have hmn : ∀ ts ty w, (Builtin.min_ ts ty #[.int .i64 (n2 : Int), .int .i64 ((max st 1 : Nat) : Int)]).run Try.prog w = .ok (.int .i64 ((min n2 (max st 1) : Nat) : Int)) w := fun ts ty w => by
            rw [run_min_int2]
            by_cases h9 : (n2 : Int) ≤ ((max st 1 : Nat) : Int)
            · first | (rw [if_pos (by omega)]; congr 2; omega) | (rw [if_neg (by omega)]; congr 2; omega)
            · first | (rw [if_neg (by omega)]; congr 2; omega) | (rw [if_pos (by omega)]; congr 2; omega)
          have HST := Lib.hid hst
          have hsq := fun (fn : Fn) (first cap : Array Value) (w : World) => seq_nil fn first cap w
          have hN4 : n2 ≤ 64 := by omega
          have hrun : ∀ (args : Array Value) (w1 : World), (callFunc 55 args).run Try.prog w1 = .ok (.enter 55 args) w1 := fun args w1 => enters8 Try.func55 rfl rfl args w1
          clear HW hlt hk CA CB X4 T4 O4
          go_wp2_with (first
            | (go_at_call 27; refine (tb_all W g1 64 t v1 _ TN.out.a).mono ?_; rintro E w6 ⟨hP, A6, n6, c6, rfl, hn6, b6, c6', o6⟩
               have K6 : Hid (Ck w6 wr.heap.size hX W.heap.size 0 A1 n2 c1 st t) := ⟨BN.out.only o6 (fun h => h), XN.out.only o6 (fun h => h), TN.out.bs.only o6 (fun h => h), CN.out.only o6 (fun _ _ h => h)⟩
               have B6 := Lib.hid b6
               have C6 : Hid (Cel w6 (fun b => b ≠ wr.heap.size) (.slice A6 n6 c6) n6 2 (t.flatMap prI)) := c6'.mono (fun b _ hb => by have := BN.out.lt; omega)
               have N6 := Lib.hid hn6
               have O6 := Lib.hid (TN.out.a.ho.trans o6)
               clear hn6 b6 c6' o6)
            | (refine (all_clo w6 wr.heap.size hX W.heap.size hP A1 A6 n2 c1 n6 c6 st t K6.out B6.out C6.out HNT.out N6.out hN4 HST.out).mono ?_; rintro E w7 ⟨rfl, k7, o7⟩
               have K7 := Lib.hid k7
               have O7 : Hid (Only none_ W w7) := O6.out.trans' o7 (fun i hi e => by have e' : i = wr.heap.size := e; have := HNW.out; omega)
               have y0 := Blk.cell_ (t := 3) (i := 0) k7.bn rfl
               have y1 := Blk.cell_ (t := 57) (i := 0) k7.bx rfl
               have y2 := Blk.cell_ (t := 5) (i := 0) k7.bs rfl
               clear k7 o7))
          go_ret
          exact ⟨by first | rfl | simp, O7.out.below (Nat.le_refl _) (fun k hk => hk.elim)⟩

theorem to_long (A : Option Addr) (L c : Nat) (x : Int) (W : World) (h : 40 < L) :
    Calls Try.prog 5 #[.slice A L c, .int .u8 x] W fun e w' => e = .returned (.bool true) ∧ Below W.heap.size W w' := by
  have hl6 : decide ((40 : Int) < (L : Int)) = true := by simp; omega
  have OS0 := Lib.hid ((Only.refl none_ W).alloc (.cells #[.int .u8 x] 5))
  have tok : True := trivial
  go_enter Try.func5, Try.ntmps5
  go_wp2_with (first
    | (go_at_call 10; have _t := tok; refine (t_speaks _).mono ?_; rintro e w1 ⟨rfl, o1⟩; have O1 := Lib.hid (OS0.out.trans o1); clear o1 tok)
    | (go_at_call 10; refine (t_speaks _).mono ?_; rintro e w2 ⟨rfl, o2⟩; have O2 := Lib.hid (O1.out.trans o2); clear o2))
  go_ret
  exact ⟨rfl, O2.out.below (Nat.le_refl _) (fun k hk => hk.elim)⟩
end Go.Proofs.Ytkailngpmodfhaa.Sv
