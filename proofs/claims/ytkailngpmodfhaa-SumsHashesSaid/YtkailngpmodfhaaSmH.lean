/- The call of SumsHashes. The statement itself is proved in another text. -/
import Derived.Test.YtkailngpmodfhaaSmW
import Derived.Test.YtkailngpmodfhaaSmE
import Derived.Test.YtkailngpmodfhaaEnEo
namespace Go.Proofs.Ytkailngpmodfhaa
open Go.RowKit
set_option maxRecDepth 100000
set_option linter.all false

/-- An entry in a box, and a list of the call's own. -/
structure Hb (W : World) (h : Nat) (a : En) (v : Value) (k : Nat) (xs : List Value) (w : World) : Prop where
  x : Blk w h 73 #[.string a.k, .string a.v, .bool a.d, .int .i64 a.s.c, .int .i64 a.s.s, .int .i64 a.a.c, .int .i64 a.a.s, .int .i64 a.p, .int .i64 a.g]
  ow : w.ownsRow W.heap.size 78 9 v k xs
  ho : Only none_ W w
theorem Hb.keep {W w w' : World} {h : Nat} {a : En} {v : Value} {k : Nat} {xs : List Value} (b : Hb W h a v k xs w) (o : Only none_ w w') : Hb W h a v k xs w' :=
  ⟨b.x.only o (fun h => h), owns_only b.ow o (fun _ _ h => h), b.ho.trans o⟩
theorem Hb.app {W w w' : World} {h : Nat} {a : En} {v v' : Value} {k k' : Nat} {xs xs' : List Value} (b : Hb W h a v k xs w) (own : w'.ownsRow W.heap.size 78 9 v' k' xs') (hg : w.grownBy w' v.ownBlock) : Hb W h a v' k' xs' w' :=
  ⟨b.x.grown' hg (own_blk_ne b.ow b.x (by decide)), own, b.ho.grown hg (fun k hk => .inr (b.ow.lt k hk).1)⟩
/-- And another one. -/
structure Hc (W : World) (h h2 : Nat) (a b : En) (v : Value) (k : Nat) (xs : List Value) (w : World) : Prop where
  t : Hb W h a v k xs w
  y : Blk w h2 73 #[.string b.k, .string b.v, .bool b.d, .int .i64 b.s.c, .int .i64 b.s.s, .int .i64 b.a.c, .int .i64 b.a.s, .int .i64 b.p, .int .i64 b.g]
theorem Hc.keep {W w w' : World} {h h2 : Nat} {a b : En} {v : Value} {k : Nat} {xs : List Value} (c : Hc W h h2 a b v k xs w) (o : Only none_ w w') : Hc W h h2 a b v k xs w' := ⟨c.t.keep o, c.y.only o (fun h => h)⟩
theorem Hc.made {W w : World} {h : Nat} {a : En} {v : Value} {k : Nat} {xs : List Value} (b : Hb W h a v k xs w) (p q : Int) :
    Hc W h w.heap.size a ⟨a.k, a.v, a.d, a.s, a.a, p, q⟩ v k xs (w.alloc (.cells #[.string a.k, .string a.v, .bool a.d, .int .i64 a.s.c, .int .i64 a.s.s, .int .i64 a.a.c, .int .i64 a.a.s, .int .i64 p, .int .i64 q] 73)) :=
  ⟨b.keep ((Only.refl none_ w).alloc _), Blk.new w 73 #[.string a.k, .string a.v, .bool a.d, .int .i64 a.s.c, .int .i64 a.s.s, .int .i64 a.a.c, .int .i64 a.a.s, .int .i64 p, .int .i64 q]⟩

set_option maxHeartbeats 25600000 in
theorem sums_hashes (A : Option Addr) (c : Nat) (l : List En) (p q : Int) (W : World) (hx : Cel W (fun b => b < W.heap.size) (.slice A l.length c) l.length 9 (l.flatMap enRow)) (hl : (l.all enShort && decide (l.length ≤ 40)) = true) :
    Calls Try.prog 6 #[.slice A l.length c, .int .i64 p, .int .i64 q] W fun e w' => e = .returned (.bool true) ∧ Below W.heap.size W w' := by
  have CX := Lib.hid (fun (w' : World) (o : Only none_ W w') => hx.only o (fun _ _ h => h))
  have FL := Lib.hid hl
  have hl40 : l.length ≤ 40 := by simp only [Bool.and_eq_true, decide_eq_true_eq] at hl; exact hl.2
  obtain ⟨L, hL⟩ : ∃ L, L = l.length := ⟨_, rfl⟩
  rw [← hL] at hx hl40 CX ⊢
  have HX : Hid (0 < L → ∃ b off, A = some ⟨b, off, none⟩ ∧ b < W.heap.size ∧ b < W.heap.size ∧ ∀ j u, (l.flatMap enRow)[j]? = some u → W.cell? ⟨b, off + j, none⟩ = some u) := by obtain ⟨_, _, e, _, _, _, _, h4⟩ := hx; injection e with e1; subst e1; exact h4
  have HL := Lib.hid hL
  obtain ⟨k0, hk0, hy0, hy1, hy2⟩ := info_parts api_info
  clear hx hl hL
  go_enter Try.func6, Try.ntmps6
  go_wp2_with (first
    | (go_at_call 29; refine (sm_speaks _).mono ?_; rintro e w1 ⟨rfl, o1⟩; have O1 := Lib.hid o1; clear o1)
    | (go_at_call 30; refine (sm_few _ l _ _ (by rw [← HL.out]; exact CX.out _ O1.out)).mono ?_; rw [FL.out]; rintro e w2 ⟨rfl, o2⟩; have O2 := Lib.hid (O1.out.trans o2); clear o2))
  go_loopw [7, 21] (fun v i wr => ∃ (k : Nat) (A7 : Option Addr) (n7 c7 : Nat), k ≤ L ∧ i = .int .i64 (k : Int) ∧ v = .slice A7 n7 c7 ∧ wr.ownsRow W.heap.size 78 9 (.slice A7 n7 c7) k ((l.take k).flatMap enRow) ∧ Only none_ W wr) (fun _ i _ => L - (intOf i).toNat)
  case atStart => exact ⟨0, none, 0, 0, Nat.zero_le _, rfl, rfl, by simp [World.ownsRow], O2.out⟩
  case round =>
    obtain ⟨k, A7, n7, c7, hk, rfl, rfl, hown, ho⟩ := hrel
    have HO := Lib.hid hown
    have HW := Lib.hid ho
    clear hown ho O1 O2
    by_cases hlt : k < L
    · obtain ⟨bb, off, rfl, hbb, _, hc⟩ := HX.out (by omega)
      obtain ⟨a, ha⟩ : ∃ a, l[k]? = some a := ⟨l[k]'(by have := HL.out; omega), List.getElem?_eq_getElem _⟩
      have qq := en_at hc HW.out hbb ha
      have HS := Lib.hid (rows_succ ha)
      have T : Hid (Hb W wr.heap.size a (.slice A7 n7 c7) k ((l.take k).flatMap enRow) (wr.alloc (.cells #[.string a.k, .string a.v, .bool a.d, .int .i64 a.s.c, .int .i64 a.s.s, .int .i64 a.a.c, .int .i64 a.a.s, .int .i64 a.p, .int .i64 a.g] 73))) := ⟨Blk.new wr _ _, HO.out.alloc _, HW.out.alloc _⟩
      obtain ⟨h, hh⟩ : ∃ h, hsh a = h := ⟨_, rfl⟩
      have hhb := hsh_lt a
      rw [hh] at hhb
      have HH := Lib.hid hh
      obtain ⟨b, hb⟩ : ∃ b : En, b = ⟨a.k, a.v, a.d, a.s, a.a, p, q⟩ := ⟨_, rfl⟩
      have HB := Lib.hid hb
      clear ha hc hh hb
      go_wp2_with fail
      (refine wp_region_steady (fun w' => Hb W wr.heap.size a (.slice A7 n7 c7) k ((l.take k).flatMap enRow) w') 6 (by kernel_rfl) (by kernel_rfl) (T.out.keep (Only.refl none_ _).drew) ?_; simp only [List.take_succ_cons, List.take_zero, List.drop_succ_cons, List.drop_zero])
      repeat (first
        | (refine sd_value (v := ?_) (by rfl) (fun w0 hS => ?_) ?_; rotate_left; (· (skip; go_simp; try (with_reducible rfl))); try simp only [Act.put, List.setIfInBounds_toArray, List.set_cons_zero, List.set_cons_succ])
        | (refine sd_value (v := ?_) (by rfl) (fun w0 hS => ?_) ?_; rotate_left; (· (have hc := nine_of hS.x; go_simp; try (with_reducible rfl))); try simp only [Act.put, List.setIfInBounds_toArray, List.set_cons_zero, List.set_cons_succ])
        | (refine sd_call (v := ?_) (f := 32) (args := ?_) (by rfl) (fun w0 hS => ?_) (fun w0 hS => ?_) ?_; rotate_left 2; (· (skip; go_simp; try (with_reducible rfl))); (· (refine (en_of _ _).mono ?_; rintro E w8 ⟨rfl, o8⟩; refine ⟨?_, hS.keep o8⟩; rfl)); try simp only [Act.put, List.setIfInBounds_toArray, List.set_cons_zero, List.set_cons_succ])
        | (refine sd_call (v := ?_) (f := 31) (args := ?_) (by rfl) (fun w0 hS => ?_) (fun w0 hS => ?_) ?_; rotate_left 2; (· (skip; go_simp; try (with_reducible rfl))); (· (refine (sm_hash a _).mono ?_; rw [HH.out]; rintro E w8 ⟨rfl, o8⟩; refine ⟨?_, hS.keep o8⟩; rfl)); try simp only [Act.put, List.setIfInBounds_toArray, List.set_cons_zero, List.set_cons_succ])
        | (refine sd_call (v := ?_) (f := 33) (args := ?_) (by rfl) (fun w0 hS => ?_) (fun w0 hS => ?_) ?_; rotate_left 2; (· (skip; go_simp; try (with_reducible rfl))); (· (refine (rf_hash a _).mono ?_; rw [HH.out]; rintro E w8 ⟨rfl, o8⟩; refine ⟨?_, hS.keep o8⟩; rfl)); try simp only [Act.put, List.setIfInBounds_toArray, List.set_cons_zero, List.set_cons_succ]))
      refine sd_nil ?_
      intro w4 t4
      have T4 := Lib.hid t4
      clear t4 qq
      go_wp2_with (first
        | (refine wpl_load rfl 73 _ rfl wr.heap.size rfl 73 #[.string a.k, .string a.v, .bool a.d, .int .i64 a.s.c, .int .i64 a.s.s, .int .i64 a.a.c, .int .i64 a.a.s, .int .i64 a.p, .int .i64 a.g] _ T4.out.x Try.underlying73 rfl (by kernel_rfl) ?_)
        | (go_at_call 32; refine (en_of a _).mono ?_; rintro E w5 ⟨rfl, o5⟩
           have T5 := Lib.hid (T4.out.keep (o5.alloc (.cells #[.string a.k, .string a.v, .bool a.d, .int .i64 a.s.c, .int .i64 a.s.s, .int .i64 a.a.c, .int .i64 a.a.s, .int .i64 a.p, .int .i64 a.g] 78)))
           have C5 := Lib.hid (cel_made w5 78 9 1 #[.string a.k, .string a.v, .bool a.d, .int .i64 a.s.c, .int .i64 a.s.s, .int .i64 a.a.c, .int .i64 a.a.s, .int .i64 a.p, .int .i64 a.g] rfl (by simp [maxLen]))
           clear o5)
        | (at_builtin; refine wpList_append_cel _ rfl (.tmp 31) (.tmp 34) _ rfl W.heap.size 78 k0 _ 9 88 Try.underlying69 hk0 hy0 hy1 hy2 rfl (by omega) (.slice A7 n7 c7) k _ rfl T5.out.ow _ _ 1 (enRow a) rfl C5.out (row_one a) (by simp only [maxLen]; omega) (by omega) T5.out.ho.size ?_
           intro A8 n8 c8 w8 hown8 hgrow8 hmv8
           have T8 : Hid (Hb W wr.heap.size a (.slice A8 n8 c8) (k + 1) ((l.take (k + 1)).flatMap enRow) w8) := by rw [HS.out]; exact T5.out.app hown8 hgrow8
           have t9 : Hc W wr.heap.size w8.heap.size a b (.slice A8 n8 c8) (k + 1) ((l.take (k + 1)).flatMap enRow) (w8.alloc (.cells #[.string a.k, .string a.v, .bool a.d, .int .i64 a.s.c, .int .i64 a.s.s, .int .i64 a.a.c, .int .i64 a.a.s, .int .i64 p, .int .i64 q] 73)).drew := by rw [HB.out]; exact (Hc.made T8.out p q).keep (Only.refl none_ _).drew
           clear hown8 hgrow8 hmv8)
        | (refine wpl_load rfl 73 _ rfl wr.heap.size rfl 73 #[.string a.k, .string a.v, .bool a.d, .int .i64 a.s.c, .int .i64 a.s.s, .int .i64 a.a.c, .int .i64 a.a.s, .int .i64 a.p, .int .i64 a.g] _ T8.out.x Try.underlying73 rfl (by kernel_rfl) ?_))
      obtain ⟨ca, hca⟩ : ∃ z, enCheck a = z := ⟨_, rfl⟩
      obtain ⟨cx, hcx⟩ : ∃ z, enCheck b = z := ⟨_, rfl⟩
      have HCA := Lib.hid hca
      have HCX := Lib.hid hcx
      obtain ⟨h2, hh2⟩ : ∃ h, hsh b = h := ⟨_, rfl⟩
      have HH2 := Lib.hid hh2
      by_cases c1 : cx = 0
      · by_cases c2 : ca = 0
        · have e : h2 = h := by rw [← hh2, ← HH.out]; have hb' := HB.out; subst hb'; exact hsh_age a p q (by rw [hca, c2]) (by rw [hcx, c1])
          subst e c1 c2
          clear hca hcx hh2
          (refine wp_region_steady (fun w' => Hc W wr.heap.size w8.heap.size a b (.slice A8 n8 c8) (k + 1) ((l.take (k + 1)).flatMap enRow) w') 17 (by kernel_rfl) (by kernel_rfl) (t9) ?_; simp only [List.take_succ_cons, List.take_zero, List.drop_succ_cons, List.drop_zero])
          repeat (first
            | (refine sd_value (v := ?_) (by rfl) (fun w0 hS => ?_) ?_; rotate_left; (· (skip; go_simp; try (with_reducible rfl))); try simp only [Act.put, List.setIfInBounds_toArray, List.set_cons_zero, List.set_cons_succ])
            | (refine sd_value (v := ?_) (by rfl) (fun w0 hS => ?_) ?_; rotate_left; (· (have hc := nine_of hS.t.x; go_simp; try (with_reducible rfl))); try simp only [Act.put, List.setIfInBounds_toArray, List.set_cons_zero, List.set_cons_succ])
            | (refine sd_value (v := ?_) (by rfl) (fun w0 hS => ?_) ?_; rotate_left; (· (have hc := nine_of hS.y; go_simp; try (with_reducible rfl))); try simp only [Act.put, List.setIfInBounds_toArray, List.set_cons_zero, List.set_cons_succ])
            | (refine sd_call (v := ?_) (f := 34) (args := ?_) (by rfl) (fun w0 hS => ?_) (fun w0 hS => ?_) ?_; rotate_left 2; (· (skip; go_simp; try (with_reducible rfl))); (· (refine (rf_check _ _).mono ?_; (first | rw [HCA.out] | rw [HCX.out]); rintro E w10 ⟨rfl, o10⟩; refine ⟨?_, hS.keep o10⟩; rfl)); try simp only [Act.put, List.setIfInBounds_toArray, List.set_cons_zero, List.set_cons_succ])
            | (refine sd_call (v := ?_) (f := 32) (args := ?_) (by rfl) (fun w0 hS => ?_) (fun w0 hS => ?_) ?_; rotate_left 2; (· (skip; go_simp; try (with_reducible rfl))); (· (refine (en_of _ _).mono ?_; rintro E w10 ⟨rfl, o10⟩; refine ⟨?_, hS.keep o10⟩; rfl)); try simp only [Act.put, List.setIfInBounds_toArray, List.set_cons_zero, List.set_cons_succ])
            | (refine sd_call (v := ?_) (f := 31) (args := ?_) (by rfl) (fun w0 hS => ?_) (fun w0 hS => ?_) ?_; rotate_left 2; (· (skip; go_simp; try (with_reducible rfl))); (· (refine (sm_hash _ _).mono ?_; (first | rw [HH.out] | rw [HH2.out]); rintro E w10 ⟨rfl, o10⟩; refine ⟨?_, hS.keep o10⟩; rfl)); try simp only [Act.put, List.setIfInBounds_toArray, List.set_cons_zero, List.set_cons_succ])
            | (refine sd_skip (by rfl) ?_; try simp only [Act.put, List.setIfInBounds_toArray, List.set_cons_zero, List.set_cons_succ]))
          refine sd_nil ?_
          intro w11 t11
          have T11 := Lib.hid t11.t
          clear t11
          go_wp2_with fail
          go_roundw
          case rel => exact ⟨k + 1, A8, n8, c8, by omega, by go_num, rfl, T11.out.ow, T11.out.ho⟩
          case measure => simp [intOf]; omega
        · have b1 : (ca == 0) = false := by simp [c2]
          subst c1
          clear hca hcx hh2
          (refine wp_region_steady (fun w' => Hc W wr.heap.size w8.heap.size a b (.slice A8 n8 c8) (k + 1) ((l.take (k + 1)).flatMap enRow) w') 17 (by kernel_rfl) (by kernel_rfl) (t9) ?_; simp only [List.take_succ_cons, List.take_zero, List.drop_succ_cons, List.drop_zero])
          repeat (first
            | (refine sd_value (v := ?_) (by rfl) (fun w0 hS => ?_) ?_; rotate_left; (· (skip; go_simp; try (with_reducible rfl))); try simp only [Act.put, List.setIfInBounds_toArray, List.set_cons_zero, List.set_cons_succ])
            | (refine sd_value (v := ?_) (by rfl) (fun w0 hS => ?_) ?_; rotate_left; (· (have hc := nine_of hS.t.x; go_simp; try (with_reducible rfl))); try simp only [Act.put, List.setIfInBounds_toArray, List.set_cons_zero, List.set_cons_succ])
            | (refine sd_value (v := ?_) (by rfl) (fun w0 hS => ?_) ?_; rotate_left; (· (have hc := nine_of hS.y; go_simp; try (with_reducible rfl))); try simp only [Act.put, List.setIfInBounds_toArray, List.set_cons_zero, List.set_cons_succ])
            | (refine sd_call (v := ?_) (f := 34) (args := ?_) (by rfl) (fun w0 hS => ?_) (fun w0 hS => ?_) ?_; rotate_left 2; (· (skip; go_simp; try (with_reducible rfl))); (· (refine (rf_check _ _).mono ?_; (first | rw [HCA.out] | rw [HCX.out]); rintro E w10 ⟨rfl, o10⟩; refine ⟨?_, hS.keep o10⟩; rfl)); try simp only [Act.put, List.setIfInBounds_toArray, List.set_cons_zero, List.set_cons_succ])
            | (refine sd_call (v := ?_) (f := 32) (args := ?_) (by rfl) (fun w0 hS => ?_) (fun w0 hS => ?_) ?_; rotate_left 2; (· (skip; go_simp; try (with_reducible rfl))); (· (refine (en_of _ _).mono ?_; rintro E w10 ⟨rfl, o10⟩; refine ⟨?_, hS.keep o10⟩; rfl)); try simp only [Act.put, List.setIfInBounds_toArray, List.set_cons_zero, List.set_cons_succ])
            | (refine sd_call (v := ?_) (f := 31) (args := ?_) (by rfl) (fun w0 hS => ?_) (fun w0 hS => ?_) ?_; rotate_left 2; (· (skip; go_simp; try (with_reducible rfl))); (· (refine (sm_hash _ _).mono ?_; (first | rw [HH.out] | rw [HH2.out]); rintro E w10 ⟨rfl, o10⟩; refine ⟨?_, hS.keep o10⟩; rfl)); try simp only [Act.put, List.setIfInBounds_toArray, List.set_cons_zero, List.set_cons_succ])
            | (refine sd_skip (by rfl) ?_; try simp only [Act.put, List.setIfInBounds_toArray, List.set_cons_zero, List.set_cons_succ]))
          refine sd_nil ?_
          intro w11 t11
          have T11 := Lib.hid t11.t
          clear t11
          go_wp2_with fail
          go_roundw
          case rel => exact ⟨k + 1, A8, n8, c8, by omega, by go_num, rfl, T11.out.ow, T11.out.ho⟩
          case measure => simp [intOf]; omega
      · have b1 : (cx == 0) = false := by simp [c1]
        clear hca hcx hh2
        (refine wp_region_steady (fun w' => Hc W wr.heap.size w8.heap.size a b (.slice A8 n8 c8) (k + 1) ((l.take (k + 1)).flatMap enRow) w') 17 (by kernel_rfl) (by kernel_rfl) (t9) ?_; simp only [List.take_succ_cons, List.take_zero, List.drop_succ_cons, List.drop_zero])
        repeat (first
          | (refine sd_value (v := ?_) (by rfl) (fun w0 hS => ?_) ?_; rotate_left; (· (skip; go_simp; try (with_reducible rfl))); try simp only [Act.put, List.setIfInBounds_toArray, List.set_cons_zero, List.set_cons_succ])
          | (refine sd_value (v := ?_) (by rfl) (fun w0 hS => ?_) ?_; rotate_left; (· (have hc := nine_of hS.t.x; go_simp; try (with_reducible rfl))); try simp only [Act.put, List.setIfInBounds_toArray, List.set_cons_zero, List.set_cons_succ])
          | (refine sd_value (v := ?_) (by rfl) (fun w0 hS => ?_) ?_; rotate_left; (· (have hc := nine_of hS.y; go_simp; try (with_reducible rfl))); try simp only [Act.put, List.setIfInBounds_toArray, List.set_cons_zero, List.set_cons_succ])
          | (refine sd_call (v := ?_) (f := 34) (args := ?_) (by rfl) (fun w0 hS => ?_) (fun w0 hS => ?_) ?_; rotate_left 2; (· (skip; go_simp; try (with_reducible rfl))); (· (refine (rf_check _ _).mono ?_; (first | rw [HCA.out] | rw [HCX.out]); rintro E w10 ⟨rfl, o10⟩; refine ⟨?_, hS.keep o10⟩; rfl)); try simp only [Act.put, List.setIfInBounds_toArray, List.set_cons_zero, List.set_cons_succ])
          | (refine sd_call (v := ?_) (f := 32) (args := ?_) (by rfl) (fun w0 hS => ?_) (fun w0 hS => ?_) ?_; rotate_left 2; (· (skip; go_simp; try (with_reducible rfl))); (· (refine (en_of _ _).mono ?_; rintro E w10 ⟨rfl, o10⟩; refine ⟨?_, hS.keep o10⟩; rfl)); try simp only [Act.put, List.setIfInBounds_toArray, List.set_cons_zero, List.set_cons_succ])
          | (refine sd_call (v := ?_) (f := 31) (args := ?_) (by rfl) (fun w0 hS => ?_) (fun w0 hS => ?_) ?_; rotate_left 2; (· (skip; go_simp; try (with_reducible rfl))); (· (refine (sm_hash _ _).mono ?_; (first | rw [HH.out] | rw [HH2.out]); rintro E w10 ⟨rfl, o10⟩; refine ⟨?_, hS.keep o10⟩; rfl)); try simp only [Act.put, List.setIfInBounds_toArray, List.set_cons_zero, List.set_cons_succ])
          | (refine sd_skip (by rfl) ?_; try simp only [Act.put, List.setIfInBounds_toArray, List.set_cons_zero, List.set_cons_succ]))
        refine sd_nil ?_
        intro w11 t11
        have T11 := Lib.hid t11.t
        clear t11
        go_wp2_with fail
        go_roundw
        case rel => exact ⟨k + 1, A8, n8, c8, by omega, by go_num, rfl, T11.out.ow, T11.out.ho⟩
        case measure => simp [intOf]; omega
    · obtain rfl : L = k := by omega
      have HT : Hid (l.take L = l) := by rw [Hid, HL.out, List.take_length]
      have CO : Hid (Cel wr (ownb (.slice A7 n7 c7)) (.slice A7 n7 c7) l.length 9 (l.flatMap enRow)) := by have := Cel.of_own HO.out; rw [HT.out] at this; rwa [HL.out] at this
      obtain ⟨y, hy⟩ : ∃ y, w64 (sumH l) = y := ⟨_, rfl⟩
      have HY := Lib.hid hy
      clear hy
      go_wp2_with (first
        | (go_at_call 35; refine (sm_of _ l _ _ CO.out).mono ?_; rw [HY.out]; rintro E w5 ⟨rfl, o5⟩; have O5 := Lib.hid (HW.out.trans o5); clear o5)
        | (go_at_call 36; refine (rf_sum _ l _ _ (by rw [← HL.out]; exact CX.out _ O5.out)).mono ?_; rw [HY.out]; rintro E w6 ⟨rfl, o6⟩; have O6 := Lib.hid (O5.out.trans o6); clear o6))
      go_ret
      exact ⟨by first | rfl | simp, O6.out.below (Nat.le_refl _) (fun k hk => hk.elim)⟩

set_option maxHeartbeats 3200000 in
theorem sums_hashes_long (A : Option Addr) (c : Nat) (l : List En) (p q : Int) (W : World) (hx : Cel W (fun b => b < W.heap.size) (.slice A l.length c) l.length 9 (l.flatMap enRow)) (h : (l.all enShort && decide (l.length ≤ 40)) = false) :
    Calls Try.prog 6 #[.slice A l.length c, .int .i64 p, .int .i64 q] W fun e w' => e = .returned (.bool true) ∧ Below W.heap.size W w' := by
  have CX := Lib.hid (fun (w' : World) (o : Only none_ W w') => hx.only o (fun _ _ h => h))
  obtain ⟨L, hL⟩ : ∃ L, L = l.length := ⟨_, rfl⟩
  have FL := Lib.hid h
  rw [← hL] at CX ⊢
  have HL := Lib.hid hL
  clear hx h hL
  have tokS : True := trivial
  go_enter Try.func6, Try.ntmps6
  go_wp2_with (first
    | (go_at_call 29; have _t := tokS; clear tokS; refine (sm_speaks _).mono ?_; rintro e w1 ⟨rfl, o1⟩; have O1 := Lib.hid o1; clear o1)
    | (go_at_call 30; refine (sm_few _ l _ _ (by rw [← HL.out]; exact CX.out _ O1.out)).mono ?_; rw [FL.out]; rintro e w2 ⟨rfl, o2⟩; have O2 := Lib.hid (O1.out.trans o2); clear o2)
    | (go_at_call 29; refine (sm_speaks _).mono ?_; rintro e w3 ⟨rfl, o3⟩; have O3 := Lib.hid (O2.out.trans o3); clear o3))
  go_ret
  exact ⟨rfl, O3.out.below (Nat.le_refl _) (fun k hk => hk.elim)⟩
end Go.Proofs.Ytkailngpmodfhaa
