/- The call of EntryChecks, where the first entry may be. The statement itself is proved in another text. -/
import Derived.Test.YtkhckgbhpfjfkaaEoF
import Derived.Test.YtkhckgbhpfjfkaaPhase
namespace Go.Proofs.Ytkhckgbhpfjfkaa
open Go.RowKit
set_option maxRecDepth 100000

/-- The boxes, and a slice that reads as bytes. -/
structure Bv (W : World) (a b : En) (x : Value) (bs : List UInt8) (w : World) : Prop where
  t : Bw W a b w
  s : Byt w (fun _ => True) x bs
theorem Bv.keep {W w w' : World} {a b : En} {x : Value} {bs : List UInt8} (v : Bv W a b x bs w) (o : Only none_ w w') : Bv W a b x bs w' := ⟨v.t.keep o, v.s.only o (fun _ _ h => h)⟩
/-- A writer and a box beside. -/
structure Cv (W : World) (a b : En) (x : Value) (bs : List UInt8) (B : World) (g : Nat) (v : Value) (h : Nat) (w : World) : Prop where
  t : Bv W a b x bs w
  l : Lw B g bs v w
  d : Blk w h 35 #[.string a.k, .string a.v, .bool a.d, .int .i64 a.s.c, .int .i64 a.s.s, .int .i64 a.a.c, .int .i64 a.a.s, .int .i64 a.p, .int .i64 a.g]
theorem Cv.keep {W w w' B : World} {a b : En} {x v : Value} {bs : List UInt8} {g h : Nat} (c : Cv W a b x bs B g v h w) (o : Only none_ w w') : Cv W a b x bs B g v h w' := ⟨c.t.keep o, c.l.keep o, c.d.only o (fun h => h)⟩

set_option maxHeartbeats 25600000 in
theorem checks_yes (a b : En) (W : World) (ha : enShort a = true) (hb : enShort b = true) (hz : enCheck a = 0) :
    Calls Try.prog 3 #[.agg #[.string a.k, .string a.v, .bool a.d, .int .i64 a.s.c, .int .i64 a.s.s, .int .i64 a.a.c, .int .i64 a.a.s, .int .i64 a.p, .int .i64 a.g], .agg #[.string b.k, .string b.v, .bool b.d, .int .i64 b.s.c, .int .i64 b.s.s, .int .i64 b.a.c, .int .i64 b.a.s, .int .i64 b.p, .int .i64 b.g]] W fun E w' => E = .returned (.bool true) ∧ Below W.heap.size W w' := by
  have T := Lib.hid (Bw.new W a b)
  have q := T.out.cells
  have HA := Lib.hid ha
  have HB := Lib.hid hb
  have EM := fun w => neq_of (eq_mark_same w a.a a.k)
  have EA := fun w => eql_of (eq_ref_entry w a a 9997)
  rw [enEq_refl] at EA
  obtain ⟨m, hm, ok, h16, h32⟩ := chk_ne hz
  have HEN := Lib.hid (fun w => encode_okE m w (hm ▸ hz) ok)
  have HBY := Lib.hid (fun w => rf_bytes m w ok)
  have HLY : Hid (∀ B g v w, Lw B g [] v w → Calls Try.prog 21 #[.pointer (some ⟨g, 0, none⟩), .agg #[.string m.en.k, .string m.en.v, .bool m.en.d, .int .i64 m.en.s.c, .int .i64 m.en.s.s, .int .i64 m.en.a.c, .int .i64 m.en.a.s, .int .i64 m.en.p, .int .i64 m.en.g]] w fun E w' => E = .returned (.tuple #[]) ∧ ∃ v', Lw B g (layB m) v' w') :=
    fun B g v w s => lay_any B g m [] v w ok s (by simp)
  have hlen : (layB m).length ≤ 1000000 := by
    have h1 := txtB_len m.k
    have h2 := txtB_len m.v
    have h3 := ok.1
    have h4 := ok.2.1
    simp only [layB, List.length_append, leBytes_len, h1, h2, List.length_cons, List.length_nil]
    omega
  have HDE : Hid (∀ A n c S w, Byt w S (.slice A n c) (layB m) → Calls Try.prog 22 #[.slice A n c] w fun e w' => e = .returned (.tuple #[.agg #[.string m.en.k, .string m.en.v, .bool m.en.d, .int .i64 m.en.s.c, .int .i64 m.en.s.s, .int .i64 m.en.a.c, .int .i64 m.en.a.s, .int .i64 m.en.p, .int .i64 m.en.g], .int .i64 0]) ∧ Only none_ w w') := by
    intro A n c S w hx
    have := decode_any A n c (layB m) S w hx (by omega)
    obtain ⟨d1, d2⟩ := dec_back m ok h16 h32 (hm ▸ hz)
    rw [d1, d2] at this
    exact this
  obtain ⟨bs, hbs⟩ : ∃ x, layB m = x := ⟨_, rfl⟩
  rw [← hm, hbs] at HEN HBY HLY HDE
  rw [hbs] at hlen
  have HN := Lib.hid hlen
  have HZ := Lib.hid hz
  clear hz hm ok h16 h32 hlen hbs
  clear ha hb
  have tokA : True := trivial
  have tokE : True := trivial
  go_enter Try.func3, Try.ntmps3
  go_wp2_with (first
    | (go_at_call 9; refine (en_speaks _).mono ?_; rintro E w9 ⟨rfl, rfl⟩)
    | (go_at_call 10; have _t := tokA; clear tokA; refine (rf_short a _).mono ?_; rw [HA.out]; rintro E w1 ⟨rfl, o1⟩; have t1 := Lib.hid (T.out.keep o1); have q1 := nine_of t1.out.y; clear o1; have tokB : True := trivial)
    | (go_at_call 10; have _t := tokB; clear tokB; refine (rf_short b _).mono ?_; rw [HB.out]; rintro E w2 ⟨rfl, o2⟩; have t2 := Lib.hid (t1.out.keep o2); have q2 := t2.out.cells; clear o2)
    | (refine wpl_load rfl 25 _ rfl W.heap.size rfl 25 #[.string a.k, .string a.v, .bool a.d, .int .i64 a.s.c, .int .i64 a.s.s, .int .i64 a.a.c, .int .i64 a.a.s, .int .i64 a.p, .int .i64 a.g] _ t2.out.x Try.underlying25 rfl (by kernel_rfl) ?_)
    | (go_at_call 11; refine (rf_check a _).mono ?_; rw [HZ.out]; rintro E w3 ⟨rfl, o3⟩; have t3 := Lib.hid (t2.out.keep o3); clear o3)
    | (refine wpl_load rfl 25 _ rfl W.heap.size rfl 25 #[.string a.k, .string a.v, .bool a.d, .int .i64 a.s.c, .int .i64 a.s.s, .int .i64 a.a.c, .int .i64 a.a.s, .int .i64 a.p, .int .i64 a.g] _ t3.out.x Try.underlying25 rfl (by kernel_rfl) ?_)
    | (go_at_call 13; refine (en_of a _).mono ?_; rintro E w4 ⟨rfl, o4⟩; have t4 := Lib.hid (t3.out.keep o4); clear o4)
    | (go_at_call 12; refine (HEN.out _).mono ?_; rintro E w5 ⟨A5, n5, c5, rfl, own5, o5⟩; have t5 : Hid (Bv W a b (.slice A5 n5 c5) bs w5) := ⟨t4.out.keep o5, (Byt.of_own own5).mono (fun _ _ _ => trivial)⟩; clear own5; clear o5))
  (refine wp_region_steady (fun w' => Bv W a b (.slice A5 n5 c5) bs w') 32 (by kernel_rfl) (by kernel_rfl) (t5.out.keep (Only.refl none_ _).drew) ?_; simp only [List.take_succ_cons, List.take_zero, List.drop_succ_cons, List.drop_zero])
  repeat (first
    | (refine sd_value (v := ?_) (by rfl) (fun w0 hS => ?_) ?_; rotate_left; (· (skip; go_simp; try (with_reducible rfl))); try simp only [Act.put, List.setIfInBounds_toArray, List.set_cons_zero, List.set_cons_succ])
    | (refine sd_value (v := ?_) (by rfl) (fun w0 hS => ?_) ?_; rotate_left; (· (have hc := nine_of hS.t.x; go_simp; try (with_reducible rfl))); try simp only [Act.put, List.setIfInBounds_toArray, List.set_cons_zero, List.set_cons_succ])
    | (refine sd_value (v := ?_) (by rfl) (fun w0 hS => ?_) ?_; rotate_left; (· (have hc := nine_of hS.t.y; go_simp; try (with_reducible rfl))); try simp only [Act.put, List.setIfInBounds_toArray, List.set_cons_zero, List.set_cons_succ])
    | (refine sd_call (v := ?_) (f := 13) (args := ?_) (by rfl) (fun w0 hS => ?_) (fun w0 hS => ?_) ?_; rotate_left 2; (· (skip; go_simp; try (with_reducible rfl))); (· (refine (en_of _ _).mono ?_; rintro E w8 ⟨rfl, o8⟩; refine ⟨?_, hS.keep o8⟩; rfl)); try simp only [Act.put, List.setIfInBounds_toArray, List.set_cons_zero, List.set_cons_succ])
    | (refine sd_call (v := ?_) (f := 14) (args := ?_) (by rfl) (fun w0 hS => ?_) (fun w0 hS => ?_) ?_; rotate_left 2; (· (skip; go_simp; try (with_reducible rfl))); (· (refine (en_check _ _).mono ?_; rw [HZ.out]; rintro E w8 ⟨rfl, o8⟩; refine ⟨?_, hS.keep o8⟩; rfl)); try simp only [Act.put, List.setIfInBounds_toArray, List.set_cons_zero, List.set_cons_succ])
    | (refine sd_call (v := ?_) (f := 15) (args := ?_) (by rfl) (fun w0 hS => ?_) (fun w0 hS => ?_) ?_; rotate_left 2; (· (skip; go_simp; try (with_reducible rfl))); (· (refine (en_newer _ _ _).mono ?_; rintro E w8 ⟨rfl, o8⟩; refine ⟨?_, hS.keep o8⟩; rfl)); try simp only [Act.put, List.setIfInBounds_toArray, List.set_cons_zero, List.set_cons_succ])
    | (refine sd_call (v := ?_) (f := 16) (args := ?_) (by rfl) (fun w0 hS => ?_) (fun w0 hS => ?_) ?_; rotate_left 2; (· (skip; go_simp; try (with_reducible rfl))); (· (refine (rf_newer _ _ _).mono ?_; rintro E w8 ⟨rfl, o8⟩; refine ⟨?_, hS.keep o8⟩; rfl)); try simp only [Act.put, List.setIfInBounds_toArray, List.set_cons_zero, List.set_cons_succ])
    | (refine sd_call (v := ?_) (f := 17) (args := ?_) (by rfl) (fun w0 hS => ?_) (fun w0 hS => ?_) ?_; rotate_left 2; (· (skip; go_simp; try (with_reducible rfl))); (· (refine (en_alike _ _ _).mono ?_; rintro E w8 ⟨rfl, o8⟩; refine ⟨?_, hS.keep o8⟩; rfl)); try simp only [Act.put, List.setIfInBounds_toArray, List.set_cons_zero, List.set_cons_succ])
    | (refine sd_call (v := ?_) (f := 18) (args := ?_) (by rfl) (fun w0 hS => ?_) (fun w0 hS => ?_) ?_; rotate_left 2; (· (skip; go_simp; try (with_reducible rfl))); (· (refine (rf_alike _ _ _).mono ?_; rintro E w8 ⟨rfl, o8⟩; refine ⟨?_, hS.keep o8⟩; rfl)); try simp only [Act.put, List.setIfInBounds_toArray, List.set_cons_zero, List.set_cons_succ]))
  refine sd_nil ?_
  intro w6 t6
  go_wp2_with fail
  (refine wp_region_steady (fun w' => Bv W a b (.slice A5 n5 c5) bs w') 10 (by kernel_rfl) (by kernel_rfl) (t6.keep (Only.refl none_ _).drew) ?_; simp only [List.take_succ_cons, List.take_zero, List.drop_succ_cons, List.drop_zero])
  repeat (first
    | (refine sd_value (v := ?_) (by rfl) (fun w0 hS => ?_) ?_; rotate_left; (· (skip; go_simp; try (with_reducible rfl))); try simp only [Act.put, List.setIfInBounds_toArray, List.set_cons_zero, List.set_cons_succ])
    | (refine sd_value (v := ?_) (by rfl) (fun w0 hS => ?_) ?_; rotate_left; (· (have hc := nine_of hS.t.x; go_simp; try (with_reducible rfl))); try simp only [Act.put, List.setIfInBounds_toArray, List.set_cons_zero, List.set_cons_succ])
    | (refine sd_call (v := ?_) (f := 13) (args := ?_) (by rfl) (fun w0 hS => ?_) (fun w0 hS => ?_) ?_; rotate_left 2; (· (skip; go_simp; try (with_reducible rfl))); (· (refine (en_of _ _).mono ?_; rintro E w8 ⟨rfl, o8⟩; refine ⟨?_, hS.keep o8⟩; rfl)); try simp only [Act.put, List.setIfInBounds_toArray, List.set_cons_zero, List.set_cons_succ])
    | (refine sd_call (v := ?_) (f := 19) (args := ?_) (by rfl) (fun w0 hS => ?_) (fun w0 hS => ?_) ?_; rotate_left 2; (· (skip; go_simp; try (with_reducible rfl))); (· (refine (en_mark _ _).mono ?_; rintro E w8 ⟨rfl, o8⟩; refine ⟨?_, hS.keep o8⟩; rfl)); try simp only [Act.put, List.setIfInBounds_toArray, List.set_cons_zero, List.set_cons_succ])
    | (refine sd_call (v := ?_) (f := 20) (args := ?_) (by rfl) (fun w0 hS => ?_) (fun w0 hS => ?_) ?_; rotate_left 2; (· (skip; go_simp; try (with_reducible rfl))); (· (refine (st_of _ _ _).mono ?_; rintro E w8 ⟨rfl, o8⟩; refine ⟨?_, hS.keep o8⟩; rfl)); try simp only [Act.put, List.setIfInBounds_toArray, List.set_cons_zero, List.set_cons_succ]))
  refine sd_nil ?_
  intro w7 t7
  have L7 := Lib.hid (Lw.new w7)
  have t7b := Lib.hid (t7.keep ((Only.refl none_ w7).alloc (.cells #[.int .i64 0, .slice none 0 0] 47)))
  go_wp2_with (first
    | (refine wpl_load rfl 25 _ rfl W.heap.size rfl 25 #[.string a.k, .string a.v, .bool a.d, .int .i64 a.s.c, .int .i64 a.s.s, .int .i64 a.a.c, .int .i64 a.a.s, .int .i64 a.p, .int .i64 a.g] _ t7b.out.t.x Try.underlying25 rfl (by kernel_rfl) ?_)
    | (go_at_call 13; refine (en_of a _).mono ?_; rintro E w8 ⟨rfl, o8⟩; have L8 := Lib.hid (L7.out.keep o8); clear o8)
    | (go_at_call 21; refine (HLY.out w7 _ _ _ L8.out).mono ?_; rintro E w9 ⟨rfl, v9, l9⟩; have L9 := Lib.hid l9; have t9 := Lib.hid (t7.keep l9.ho); clear l9)
    | (go_at_call 22; refine (HDE.out A5 n5 c5 _ _ t9.out.s).mono ?_; rintro E w10 ⟨rfl, o10⟩
       have C10 : Hid (Cv W a b (.slice A5 n5 c5) bs w7 w7.heap.size v9 w10.heap.size ((w10.alloc (.cells #[.string a.k, .string a.v, .bool a.d, .int .i64 a.s.c, .int .i64 a.s.s, .int .i64 a.a.c, .int .i64 a.a.s, .int .i64 a.p, .int .i64 a.g] 35)).drew)) :=
         ⟨t9.out.keep (o10.trans (((Only.refl none_ w10).alloc (.cells #[.string a.k, .string a.v, .bool a.d, .int .i64 a.s.c, .int .i64 a.s.s, .int .i64 a.a.c, .int .i64 a.a.s, .int .i64 a.p, .int .i64 a.g] 35)).drew)), L9.out.keep (o10.trans (((Only.refl none_ w10).alloc (.cells #[.string a.k, .string a.v, .bool a.d, .int .i64 a.s.c, .int .i64 a.s.s, .int .i64 a.a.c, .int .i64 a.a.s, .int .i64 a.p, .int .i64 a.g] 35)).drew)), (Blk.new w10 35 #[.string a.k, .string a.v, .bool a.d, .int .i64 a.s.c, .int .i64 a.s.s, .int .i64 a.a.c, .int .i64 a.a.s, .int .i64 a.p, .int .i64 a.g]).drew⟩
       clear o10))
  have na0 := nine_of C10.out.t.t.x
  have nd0 := nine_of C10.out.d
  have sa0 := run_bytes_string _ _ _ _ C10.out.t.s
  clear EM q q1 q2
  go_region_held3 (fun w' => Nine w' W.heap.size (.string a.k) (.string a.v) (.bool a.d) (.int .i64 a.s.c) (.int .i64 a.s.s) (.int .i64 a.a.c) (.int .i64 a.a.s) (.int .i64 a.p) (.int .i64 a.g) ∧ Nine w' w10.heap.size (.string a.k) (.string a.v) (.bool a.d) (.int .i64 a.s.c) (.int .i64 a.s.s) (.int .i64 a.a.c) (.int .i64 a.a.s) (.int .i64 a.p) (.int .i64 a.g) ∧ (convert 29 9 (.slice A5 n5 c5)).run Try.prog w' = .ok (.string ⟨bs.toArray⟩) w')
    (first | with_reducible exact ⟨na0, nd0, sa0⟩ | with_reducible exact ⟨⟨na1, nd1, sa1⟩, sb1⟩ | with_reducible exact ⟨⟨⟨na2, nd2, sa2⟩, sb2⟩, sc2⟩ | with_reducible exact ⟨⟨⟨na3, nd3, sa3⟩, sb3⟩, sc3⟩)
    (first
      | (go_at_call 23; refine (HBY.out _).mono ?_; rintro E w11 ⟨A11, n11, c11, rfl, own11, o11⟩
         have C11 := Lib.hid (C10.out.keep o11)
         have Y11 := Lib.hid (Byt.of_own own11)
         have sb1 := run_bytes_string w11 _ _ _ Y11.out
         have sa1 := run_bytes_string w11 _ _ _ C11.out.t.s
         have na1 := nine_of C11.out.t.t.x
         have nd1 := nine_of C11.out.d
         have eK := shut_more (fun w' => (Nine w' W.heap.size (.string a.k) (.string a.v) (.bool a.d) (.int .i64 a.s.c) (.int .i64 a.s.s) (.int .i64 a.a.c) (.int .i64 a.a.s) (.int .i64 a.p) (.int .i64 a.g) ∧ Nine w' w10.heap.size (.string a.k) (.string a.v) (.bool a.d) (.int .i64 a.s.c) (.int .i64 a.s.s) (.int .i64 a.a.c) (.int .i64 a.a.s) (.int .i64 a.p) (.int .i64 a.g) ∧ (convert 29 9 (.slice A5 n5 c5)).run Try.prog w' = .ok (.string ⟨bs.toArray⟩) w') ∧ (convert 29 9 (.slice A11 n11 c11)).run Try.prog w' = .ok (.string ⟨bs.toArray⟩) w') (fun _ h => h.1) ‹Shut _›
         simp only [eK] at *
         clear eK own11 o11)
      | (go_at_call 24; refine (lw_bytes C11.out.l HN.out).mono ?_; rintro E w12 ⟨A12, n12, c12, rfl, own12, o12⟩
         have C12 := Lib.hid (C11.out.keep o12)
         have Y12 := Lib.hid (Y11.out.only o12 (fun _ _ h => h))
         have Z12 := Lib.hid (Byt.of_own own12)
         have sb2 := run_bytes_string w12 _ _ _ Y12.out
         have sc2 := run_bytes_string w12 _ _ _ Z12.out
         have sa2 := run_bytes_string w12 _ _ _ C12.out.t.s
         have na2 := nine_of C12.out.t.t.x
         have nd2 := nine_of C12.out.d
         have eK := shut_more (fun w' => ((Nine w' W.heap.size (.string a.k) (.string a.v) (.bool a.d) (.int .i64 a.s.c) (.int .i64 a.s.s) (.int .i64 a.a.c) (.int .i64 a.a.s) (.int .i64 a.p) (.int .i64 a.g) ∧ Nine w' w10.heap.size (.string a.k) (.string a.v) (.bool a.d) (.int .i64 a.s.c) (.int .i64 a.s.s) (.int .i64 a.a.c) (.int .i64 a.a.s) (.int .i64 a.p) (.int .i64 a.g) ∧ (convert 29 9 (.slice A5 n5 c5)).run Try.prog w' = .ok (.string ⟨bs.toArray⟩) w') ∧ (convert 29 9 (.slice A11 n11 c11)).run Try.prog w' = .ok (.string ⟨bs.toArray⟩) w') ∧ (convert 29 9 (.slice A12 n12 c12)).run Try.prog w' = .ok (.string ⟨bs.toArray⟩) w') (fun _ h => h.1) ‹Shut _›
         simp only [eK] at *
         clear eK own12 o12)
      | (go_at_call 25; refine (en_to a _).mono ?_; rintro E w13 ⟨rfl, o13⟩
         have C13 := Lib.hid (C12.out.keep o13)
         have na3 := nine_of C13.out.t.t.x
         have nd3 := nine_of C13.out.d
         have sb3 := run_bytes_string w13 _ _ _ (Y12.out.only o13 (fun _ _ h => h))
         have sc3 := run_bytes_string w13 _ _ _ (Z12.out.only o13 (fun _ _ h => h))
         have sa3 := run_bytes_string w13 _ _ _ C13.out.t.s
         clear o13))
  all_goals go_wp2_with fail
  go_ret
  exact ⟨rfl, C13.out.t.t.ho.below (Nat.le_refl _) (fun k hk => hk.elim)⟩
end Go.Proofs.Ytkhckgbhpfjfkaa
