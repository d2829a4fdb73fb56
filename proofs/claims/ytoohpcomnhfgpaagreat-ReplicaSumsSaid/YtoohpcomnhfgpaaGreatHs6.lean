/- Texts of mine, one behind the other: TbEe, RcB, RcS, RcC, RcE. No statement of the seat is proved here. -/
import Derived.Test.YtoohpcomnhfgpaaGreatHs5
import Derived.Test.YtoohpcomnhfgpaaGreatHs2
import Derived.Test.YtoohpcomnhfgpaaGreatHs1
import Derived.Test.YtoohpcomnhfgpaaGreatHs4
import Derived.Deep.RegionLaw
import Derived.Test.YtoohpcomnhfgpaaGreatHs3
import Derived.Test.YtoohpcomnhfgpaaGreatChecked
import Derived.ChangeKeysEq
import Derived.Laws.StructEq
section
namespace Go.Proofs.YtoohpcomnhfgpaaGreat.Se
open Go.RowKit
set_option maxRecDepth 100000
set_option linter.all false
theorem step_call {P : Program} {ops : Array Oper} {o : Oper} {a : Act} {w : World} {K : Act → World → Prop} {Q : Exit → Act → World → Prop} {E : Prop} (hwd : Region.wanted o (yielded ops a.tmps) = true) (f : FuncId) (args : Array Value)
    (hrun : (execOp a.eval o).run P w = .ok (.enter f args) w) (h : Calls P f args w fun e w' => ∃ v, e = .returned v ∧ K (a.put o.dst v) w') :
    if Region.wanted o (yielded ops a.tmps) = true then Oper.wp P o a w K Q else E := by
  rw [if_pos hwd]
  unfold Oper.wp
  rw [hrun]
  exact h.mono fun e w'' ⟨v, he, hk⟩ => by subst he; exact hk
theorem flat_take {α : Type} {k : Nat} (f : α → List Value) (hk : ∀ x, (f x).length = k) : ∀ (l : List α) (n : Nat), n ≤ l.length → (l.flatMap f).take (n * k) = (l.take n).flatMap f
  | _, 0, _ => by simp
  | [], n + 1, h => by simp at h
  | x :: l, n + 1, h => by
    have e : (n + 1) * k = k + n * k := by rw [Nat.succ_mul, Nat.add_comm]
    rw [List.flatMap_cons, List.take_succ_cons, List.flatMap_cons, e, List.take_append, hk, Nat.add_sub_cancel_left, List.take_of_length_le (by rw [hk]; omega), flat_take f hk l n (by simpa using h)]
theorem flat_drop {α : Type} {k : Nat} (f : α → List Value) (hk : ∀ x, (f x).length = k) : ∀ (l : List α) (n : Nat), n ≤ l.length → (l.flatMap f).drop (n * k) = (l.drop n).flatMap f
  | _, 0, _ => by simp
  | [], n + 1, h => by simp at h
  | x :: l, n + 1, h => by
    have e : (n + 1) * k = k + n * k := by rw [Nat.succ_mul, Nat.add_comm]
    rw [List.flatMap_cons, List.drop_succ_cons, e, ← List.drop_drop, List.drop_left' (hk x), flat_drop f hk l n (by simpa using h)]
def LeftT (B : World) (g : Nat) (room : Int) (v : Value) (w : World) (l' : List (Pr En)) (w' : World) : Prop := ∃ v', Tb B g room l' v' w' ∧ Only (foot g v) w w' ∧ Moved w v v'
theorem LeftT.after0 {B w w1 w' : World} {g : Nat} {room : Int} {v : Value} {l' : List (Pr En)} (o : Only none_ w w1) (h : LeftT B g room v w1 l' w') : LeftT B g room v w l' w' := by
  obtain ⟨v', h1, h2, h3⟩ := h
  exact ⟨v', h1, o.of_none.trans' h2 (fun k _ h => h), fun k hk => (h3 k hk).imp id (fun h => Nat.le_trans o.size h)⟩
theorem LeftT.same {B w : World} {g : Nat} {room : Int} {v : Value} {l : List (Pr En)} (h : Tb B g room l v w) : LeftT B g room v w l w := ⟨v, h, Only.refl _ _, Moved.refl _ _⟩
set_option maxHeartbeats 800000 in
theorem tb_new_yes (B : World) (room : Int) (w : World) (hB : Only none_ B w) (h1 : ¬ room < 1) (h2 : ¬ 4096 < room) :
    Calls Tryz.prog 112 #[.int .i64 room] w fun e w' => ∃ g, e = .returned (.tuple #[.pointer (some ⟨g, 0, none⟩), .int .i64 0]) ∧ w.heap.size ≤ g ∧ Tb B g room [] (.slice none 0 0) w' ∧ Only none_ w w' := by
  have HB := Lib.hid hB
  have HR : Hid (1 ≤ room ∧ room ≤ 4096) := by simp only [Hid]; omega
  clear hB
  go_enter Tryz.func112, Tryz.ntmps112
  go_wp2_with fail
  go_ret2
  have o := (Only.refl none_ w).alloc (.cells #[.int .i64 room, .slice none 0 0] 243)
  exact ⟨w.heap.size, rfl, Nat.le_refl _, ⟨Blk.new _ _ _, World.ownsRow_nil _ _ _ _, HB.out.trans o, HB.out.size, ris_nil, by have := HR.out; simp; omega, HR.out.2⟩, o⟩
theorem insI (base : Nat) (A : Option Addr) (n c i vb : Nat) (xs ys : List Value) (w : World) (h : w.ownsRow base 240 10 (.slice A n c) n xs) (hi : i ≤ n) (hn : n ≤ 4096) (hb : base ≤ w.heap.size)
    (hv : Blk w vb 240 ys.toArray) (hne : (Value.slice A n c).ownBlock ≠ some vb) (hy : ys.length = 10) (h1x : ∀ u ∈ xs, u.oneCell' = true) (h1y : ∀ u ∈ ys, u.oneCell' = true) :
    Calls Tryz.prog 203 #[.slice A n c, .int .i64 i, .slice (some ⟨vb, 0, none⟩) 1 1] w fun e w' => ∃ v', e = .returned v' ∧ w'.ownsRow base 240 10 v' (n + 1) (xs.take (i * 10) ++ ys ++ xs.drop (i * 10)) ∧ Only (ownb (.slice A n c)) w w' ∧ Moved w (.slice A n c) v' := by
  have hxl : xs.length = n * 10 := h.1
  by_cases hin : i = n
  · subst hin
    refine (insI_end base A i c vb xs ys w h hn hb hv hy h1y).mono ?_
    rintro e w' ⟨v', rfl, h1, h2, h3⟩
    refine ⟨v', rfl, ?_, h2, h3⟩
    rw [List.take_of_length_le (by omega), List.drop_of_length_le (by omega), List.append_nil]
    exact h1
  · obtain ⟨g, cur, rfl, hr, hnc, hx⟩ := own_rw h (by omega)
    have hvg : vb ≠ g := fun e => hne (by rw [e]; rfl)
    refine (insI_mid base g n c i vb cur xs ys w hr hx (by omega) hnc hn hb hv hvg hy h1x h1y).mono ?_
    rintro e w' ⟨v', rfl, h1, h2, h3⟩
    refine ⟨v', rfl, h1, h2.mono (fun k _ e => by have e' : k = g := e; rw [e']; rfl), fun k hk => (h3 k hk).imp (fun e => by rw [e]; rfl) id⟩
theorem putAt_cons (x : Value) (l cs : List Value) (o : Nat) : putAt (x :: l) (o + 1) cs = x :: putAt l o cs := by
  unfold putAt
  rw [List.take_succ_cons, show o + 1 + cs.length = (o + cs.length) + 1 by omega, List.drop_succ_cons]
  rfl
theorem putAt_far (r l cs : List Value) (o : Nat) : putAt (r ++ l) (r.length + o) cs = r ++ putAt l o cs := by
  induction r with
  | nil => simp
  | cons x r ih => rw [List.cons_append, List.length_cons, show r.length + 1 + o = (r.length + o) + 1 by omega, putAt_cons, ih]; rfl
theorem flat_set (l : List (Pr En)) (r : Nat) (x : ByteArray) (v : En) (hr : r < l.length) (hx : l[r].k = x) : (l.set r ⟨x, v⟩).flatMap prI = putAt (l.flatMap prI) (r * 10 + 1) (#[.string v.k, .string v.v, .bool v.d, .int .i64 v.s.c, .int .i64 v.s.s, .int .i64 v.a.c, .int .i64 v.a.s, .int .i64 v.p, .int .i64 v.g] : Array Value).toList := by
  induction l generalizing r with
  | nil => simp at hr
  | cons p l ih =>
    cases r with
    | zero =>
      simp only [List.getElem_cons_zero] at hx
      subst hx
      rfl
    | succ r =>
      have e : (r + 1) * 10 + 1 = (prI p).length + (r * 10 + 1) := by rw [prI_len]; omega
      rw [List.set_cons_succ, List.flatMap_cons, List.flatMap_cons, ih r (by simpa using hr) (by simpa using hx), e, putAt_far]
theorem putAt_in (cur vs : List Value) (o m : Nat) (h : o + vs.length ≤ m) (hm : m ≤ cur.length) : (putAt cur o vs).take m = putAt (cur.take m) o vs := by
  refine List.ext_getElem? fun j => ?_
  rw [List.getElem?_take, putAt_get (by omega), putAt_get (by rw [List.length_take]; omega), List.getElem?_take]
  by_cases h1 : j < m
  · rw [if_pos h1, if_pos h1]
  · rw [if_neg h1, if_neg (by omega), if_neg h1]
set_option maxHeartbeats 6400000 in
theorem tb_put_has (B : World) (g : Nat) (room : Int) (l : List (Pr En)) (v : Value) (x : ByteArray) (y : En) (w : World) (h : Tb B g room l v w) (hs : has l x = true) :
    Calls Tryz.prog 158 #[.pointer (some ⟨g, 0, none⟩), .string x, .agg #[.string y.k, .string y.v, .bool y.d, .int .i64 y.s.c, .int .i64 y.s.s, .int .i64 y.a.c, .int .i64 y.a.s, .int .i64 y.p, .int .i64 y.g]] w fun e w' => e = .returned (.int .i64 0) ∧ LeftT B g room v w (putL l x y) w' := by
  have O0 := Lib.hid ((Only.refl none_ w).alloc (.cells #[.string y.k, .string y.v, .bool y.d, .int .i64 y.s.c, .int .i64 y.s.s, .int .i64 y.a.c, .int .i64 y.a.s, .int .i64 y.p, .int .i64 y.g] 82))
  have B0 := Lib.hid (Blk.new w 82 #[.string y.k, .string y.v, .bool y.d, .int .i64 y.s.c, .int .i64 y.s.s, .int .i64 y.a.c, .int .i64 y.a.s, .int .i64 y.p, .int .i64 y.g])
  have HB := Lib.hid (fun (w' : World) (o : Only none_ w w') => tb_place B g room l v x w' (h.keep o))
  have hrl := rnk_le l x
  have et : putL l x y = l.set (rnk l x) ⟨x, y⟩ := by rw [putL, if_pos hs]
  rw [et]
  rw [hs] at HB
  have hat := (has_at h.rs x).symm
  rw [hs] at hat
  simp only [Bool.and_eq_true, decide_eq_true_eq] at hat
  obtain ⟨hlt, _, hkx⟩ := hat
  obtain ⟨A, c, rfl⟩ := h.shape
  obtain ⟨r, hr⟩ : ∃ r, rnk l x = r := ⟨_, rfl⟩
  simp only [hr] at hlt HB hkx ⊢
  obtain ⟨b, cur, hA, hrw, hnc, htk⟩ := own_rw h.ow (by omega)
  subst hA
  have hcl : l.length * 10 ≤ cur.length := by rw [hrw.cs]; exact Nat.mul_le_mul_right 10 hnc
  have HF : Hid (∀ (w1 : World), Only none_ w w1 → Blk w1 b 240 cur.toArray ∧ w1.cell? ⟨g, 1, none⟩ = some (.slice (some ⟨b, 0, none⟩) l.length c) ∧
      LeftT B g room (.slice (some ⟨b, 0, none⟩) l.length c) w (l.set r ⟨x, y⟩) (w1.setRow b (putAt cur (r * 10 + 1) (#[.string y.k, .string y.v, .bool y.d, .int .i64 y.s.c, .int .i64 y.s.s, .int .i64 y.a.c, .int .i64 y.a.s, .int .i64 y.p, .int .i64 y.g] : Array Value).toList).toArray)) := by
    intro w1 o1
    have h1 := h.keep o1
    have hrw1 := hrw.only o1 (fun h => h)
    refine ⟨hrw1.bk, h1.bk.cell_ (i := 1) rfl, .slice (some ⟨b, 0, none⟩) l.length c, ?_, ?_, Moved.refl _ _⟩
    · have o2 : Only (one b) w1 (w1.setRow b (putAt cur (r * 10 + 1) (#[.string y.k, .string y.v, .bool y.d, .int .i64 y.s.c, .int .i64 y.s.s, .int .i64 y.a.c, .int .i64 y.a.s, .int .i64 y.p, .int .i64 y.g] : Array Value).toList).toArray) := only_row b _
      have hgb : g ≠ b := Blk.ne_ h1.bk (show Blk w1 b 240 _ from hrw1.bk) (by decide)
      refine ⟨h1.bk.only o2 (fun e => hgb e), ?_, h1.ho.trans' o2 (fun k hk e => by have e' : k = b := e; have := hrw.ge; omega), h1.ge, ris_set h1.rs r _ (fun _ => hkx), by rw [List.length_set]; exact h1.lr, h1.rm⟩
      rw [flat_set l r x y hlt hkx, List.length_set]
      refine (hrw1.set (putAt_len (by simp; omega))).own l.length _ hnc ?_
      rw [putAt_in _ _ _ _ (by simp; omega) hcl, htk]
    · exact o1.of_none.trans' (only_row b _) (fun k _ e => .inr (by have e' : k = b := e; rw [e']; rfl))
  have hrn : (r : Int) < (l.length : Int) := by omega
  have HCR : Hid (r * 10 + 1 + 9 ≤ cur.length) := by simp only [Hid]; omega
  clear h hs et hrl hkx hr hrw hnc htk hcl
  generalize l.length = n at hlt hrn HF ⊢
  go_enter Tryz.func158, Tryz.ntmps158
  go_wp2_with (first
    | (go_at_call 132; refine (HB.out _ O0.out).mono ?_; rintro e w1 ⟨rfl, o1⟩
       have O1 := Lib.hid (O0.out.trans o1)
       have B1 : Hid (Blk w1 w.heap.size 82 #[.string y.k, .string y.v, .bool y.d, .int .i64 y.s.c, .int .i64 y.s.s, .int .i64 y.a.c, .int .i64 y.a.s, .int .i64 y.p, .int .i64 y.g]) := B0.out.only o1 (fun h => h)
       clear o1))
  (refine wp_region_free_tail (fun w' => Only none_ w1 w') (Only none_) (F := ?_) (by kernel_rfl) 8 46 (by rfl) (by kernel_rfl) (fun x => ?_) ((Only.refl none_ w1).drew) ?_; rotate_left; (· (simp only [List.take_succ_cons, List.take_zero, putsL, Act.put, List.setIfInBounds_toArray, List.set_cons_zero, List.set_cons_succ, Nat.reduceAdd]; exact rfl)); simp only [List.take_succ_cons, List.take_zero, List.drop_succ_cons, List.drop_zero])
  repeat (first
    | ((first | refine fr_value (c := ?_) (by rfl) (fun w => Only.refl none_ w) (fun x w0 hS hk => ?_) ?_ | refine fr_value_if (c := ?_) (by rfl) (by rfl) (by rfl) (fun w => Only.refl none_ w) (fun x w0 hS hk => ?_) ?_); rotate_left; (· (have hk2 := hk; (try simp [knAll, Region.binds] at hk2); have hc := (HF.out _ (O1.out.trans hS)).2.1; obtain ⟨t0, t1, t2, t3, t4, t5, t6, t7, t8⟩ := nine_of (B1.out.only hS (fun h => h)); go_simp; try (with_reducible rfl))); try simp only [List.nil_append, List.cons_append]))
  (refine fr_end ?_; intro x w9 hS hk)
  have HFF := Lib.hid (HF.out _ (O1.out.trans hS))
  have e5 := kn_end_at 5 hk (by rfl)
  have e7 := kn_end_at 7 hk (by rfl)
  rw [Nat.zero_add] at e5 e7
  rw [e5, e7]
  clear hk hS e5 e7
  refine wpl_store_part rfl 82 _ _ rfl b (r * 10 + 1) #[.string y.k, .string y.v, .bool y.d, .int .i64 y.s.c, .int .i64 y.s.s, .int .i64 y.a.c, .int .i64 y.a.s, .int .i64 y.p, .int .i64 y.g] rfl rfl 240 cur HFF.out.1 (by kernel_rfl) (by simpa using HCR.out) (en_cells_one y) ?_
  go_wp2_with fail
  go_ret
  exact ⟨rfl, HFF.out.2.2⟩
set_option maxHeartbeats 6400000 in
theorem tb_put_new (B : World) (g : Nat) (room : Int) (l : List (Pr En)) (v : Value) (x : ByteArray) (y : En) (w : World) (h : Tb B g room l v w) (hs' : has l x = false) (hful : ¬ room ≤ (l.length : Int)) :
    Calls Tryz.prog 158 #[.pointer (some ⟨g, 0, none⟩), .string x, .agg #[.string y.k, .string y.v, .bool y.d, .int .i64 y.s.c, .int .i64 y.s.s, .int .i64 y.a.c, .int .i64 y.a.s, .int .i64 y.p, .int .i64 y.g]] w fun e w' => e = .returned (.int .i64 0) ∧ LeftT B g room v w (putL l x y) w' := by
  have O0 := Lib.hid ((Only.refl none_ w).alloc (.cells #[.string y.k, .string y.v, .bool y.d, .int .i64 y.s.c, .int .i64 y.s.s, .int .i64 y.a.c, .int .i64 y.a.s, .int .i64 y.p, .int .i64 y.g] 82))
  have B0 := Lib.hid (Blk.new w 82 #[.string y.k, .string y.v, .bool y.d, .int .i64 y.s.c, .int .i64 y.s.s, .int .i64 y.a.c, .int .i64 y.a.s, .int .i64 y.p, .int .i64 y.g])
  have HB := Lib.hid (fun (w' : World) (o : Only none_ w w') => tb_place B g room l v x w' (h.keep o))
  have hrl := rnk_le l x
  have hris := ris_put h.rs x y
  have et : putL l x y = l.take (rnk l x) ++ ⟨x, y⟩ :: l.drop (rnk l x) := by rw [putL, if_neg (by rw [hs']; simp)]
  rw [et] at hris ⊢
  rw [hs'] at HB
  obtain ⟨A, c, rfl⟩ := h.shape
  have HLN := Lib.hid (fun (w' : World) (o : Only none_ w w') => tb_len B g room l _ w' (h.keep o))
  have HK := Lib.hid (fun (w' : World) (o : Only none_ w w') => (h.keep o).bk.cell_ (i := 0) rfl)
  have HK1 := Lib.hid (fun (w' : World) (o : Only none_ w w') => (h.keep o).bk.cell_ (i := 1) rfl)
  obtain ⟨r, hr⟩ : ∃ r, rnk l x = r := ⟨_, rfl⟩
  simp only [hr] at hrl HB hris ⊢
  have HIN : Hid (∀ w3 : World, Only none_ w w3 → Calls Tryz.prog 203 #[.slice A l.length c, .int .i64 r, .slice (some ⟨w3.heap.size, 0, none⟩) 1 1] (w3.alloc (.cells (prA ⟨x, y⟩) 240)).drew
      fun e w' => ∃ A' n' c', e = .returned (.slice A' n' c') ∧ w'.cell? ⟨g, 1, none⟩ = some (.slice A l.length c) ∧ w'.frozen? ⟨g, 1, none⟩ = false ∧ LeftT B g room (.slice A l.length c) w (l.take r ++ ⟨x, y⟩ :: l.drop r) (w'.setCell ⟨g, 1, none⟩ (.slice A' n' c'))) := by
    intro w3 o3
    have h3 := (h.keep o3)
    have o4 : Only none_ w3 (w3.alloc (.cells (prA ⟨x, y⟩) 240)).drew := ((Only.refl none_ w3).alloc _).drew
    have h4 := h3.keep o4
    have hsz : B.heap.size ≤ (w3.alloc (.cells (prA ⟨x, y⟩) 240)).drew.heap.size := h4.ho.size
    refine (insI B.heap.size A l.length c r w3.heap.size _ (prI ⟨x, y⟩) _ h4.ow hrl h4.ml hsz (Blk.drew (Blk.new w3 _ _)) (fun e => by have := (h3.ow.lt _ e).2; omega) rfl (prI_one l) (fun u hu => prI_one [⟨x, y⟩] u (by simpa using hu))).mono ?_
    rintro e w5 ⟨v5, rfl, own5, o5, m5⟩
    obtain ⟨A5, n5, c5, rfl⟩ := own_shape own5
    have b5 := h4.bk.only o5 (fun e => by have := own_blk_ne h4.ow h4.bk (by decide); exact this e)
    have hnew : (l.take r ++ (⟨x, y⟩ : Pr En) :: l.drop r).length = l.length + 1 := by simp; omega
    have hflat : (l.take r ++ (⟨x, y⟩ : Pr En) :: l.drop r).flatMap prI = (l.flatMap prI).take (r * 10) ++ prI ⟨x, y⟩ ++ (l.flatMap prI).drop (r * 10) := by
      rw [List.flatMap_append, List.flatMap_cons, flat_take prI prI_len l r hrl, flat_drop prI prI_len l r hrl, List.append_assoc]
    have o6 : Only (one g) w5 (w5.setCell ⟨g, 1, none⟩ (.slice A5 n5 c5)) := (Only.refl (one g) w5).setCell (.inl (show one g g from rfl)) _
    have hvg : (Value.slice A5 n5 c5).ownBlock ≠ some g := own_blk_ne own5 b5 (by decide)
    refine ⟨A5, n5, c5, rfl, b5.cell_ (i := 1) rfl, b5.frozen 1, .slice A5 n5 c5, ⟨b5.set_ 1 _, ?_, ?_, h4.ge, hris, by rw [hnew]; omega, h4.rm⟩, ?_, ?_⟩
    · rw [hflat, hnew]
      exact owns_only own5 o6 (fun k hk e => hvg (by rw [hk, show k = g from e]))
    · exact (h4.ho.trans' o5 (fun k hk e => by have := (h4.ow.lt k e).1; omega)).trans' o6 (fun k hk e => by have e' : k = g := e; have := h4.ge; omega)
    · exact (((o3.trans o4).of_none).trans' o5 (fun k _ e => .inr e)).trans' o6 (fun k _ e => .inl e)
    · exact fun k hk => (m5 k hk).imp id (fun h => by have := (o3.trans o4).size; omega)
  generalize l.length = n at hful HLN HIN HK1
  have hful2 : ¬ ((n : Int) ≥ room) := by omega
  clear h et hs' hris hr hrl
  go_enter Tryz.func158, Tryz.ntmps158
  go_wp2_with (first
    | (go_at_call 132; refine (HB.out _ O0.out).mono ?_; rintro e w1 ⟨rfl, o1⟩
       have O1 := Lib.hid (O0.out.trans o1)
       have B1 : Hid (Blk w1 w.heap.size 82 #[.string y.k, .string y.v, .bool y.d, .int .i64 y.s.c, .int .i64 y.s.s, .int .i64 y.a.c, .int .i64 y.a.s, .int .i64 y.p, .int .i64 y.g]) := B0.out.only o1 (fun h => h)
       clear o1))
  (refine wp_region_steady (fun w' => Only none_ w1 w') 7 (by kernel_rfl) (by kernel_rfl) ((Only.refl none_ w1).drew) ?_; simp only [List.take_succ_cons, List.take_zero, List.drop_succ_cons, List.drop_zero])
  repeat (first
    | (refine sd_value (v := ?_) (by rfl) (fun w0 hS => ?_) ?_; rotate_left; (· (have hc := HK.out _ (O1.out.trans hS); go_simp; try (with_reducible rfl))); try simp only [Act.put, List.setIfInBounds_toArray, List.set_cons_zero, List.set_cons_succ])
    | (refine sd_call (v := ?_) (f := 147) (args := ?_) (by rfl) (fun w0 hS => ?_) (fun w0 hS => ?_) ?_; rotate_left 2; (· (have hc := HK.out _ (O1.out.trans hS); go_simp; try (with_reducible rfl))); (· (refine (HLN.out _ (O1.out.trans hS)).mono ?_; rintro E w9 ⟨rfl, rfl⟩; refine ⟨?_, hS⟩; rfl)); try simp only [Act.put, List.setIfInBounds_toArray, List.set_cons_zero, List.set_cons_succ]))
  refine sd_nil ?_
  intro w3 t3
  have T3 := Lib.hid (O1.out.trans t3)
  have B3 : Hid (Blk w3 w.heap.size 82 #[.string y.k, .string y.v, .bool y.d, .int .i64 y.s.c, .int .i64 y.s.s, .int .i64 y.a.c, .int .i64 y.a.s, .int .i64 y.p, .int .i64 y.g]) := B1.out.only t3 (fun h => h)
  clear t3
  go_wp2_with fail
  have k1 : w3.drew.cell? ⟨g, 1, none⟩ = some (.slice A n c) := HK1.out w3 T3.out
  have k2 : (w3.alloc (.cells (prA ⟨x, y⟩) 240)).drew.cell? ⟨g, 1, none⟩ = some (.slice A n c) := HK1.out _ ((T3.out.alloc _).drew)
  obtain ⟨t0, t1, t2, t3, t4, t5, t6, t7, t8⟩ := nine_of (Blk.drew B3.out)
  go_region_law (first
    | (refine step_call (by simp [Region.wanted]) 203 #[.slice A n c, .int .i64 r, .slice (some ⟨w3.heap.size, 0, none⟩) 1 1] (by go_simp; try (with_reducible rfl)) ?_
       refine (HIN.out w3 T3.out).mono ?_
       rintro E w5 ⟨A5, n5, c5, rfl, hk5, hf5, hL⟩
       refine ⟨_, rfl, ?_⟩
       have HLL := Lib.hid hL
       clear hL))
  all_goals go_wp2_with fail
  all_goals go_ret
  all_goals exact ⟨rfl, HLL.out⟩
end Go.Proofs.YtoohpcomnhfgpaaGreat.Se
end
section
namespace Go.Proofs.YtoohpcomnhfgpaaGreat
open Go.RowKit
set_option maxRecDepth 100000
set_option linter.all false
theorem cmp_bytes (a b : ByteArray) (w : World) :
    Calls Tryz.prog 228 #[.string a, .string b] w fun e w' => e = .returned (.int .i64 (Lib.compareBytes a.data.toList b.data.toList)) ∧ w = w' := by
  have hc : ∀ w, (callFunc 263 #[.string a, .string b]).run Tryz.prog w = .ok (.value (.int .i64 (Lib.compareBytes a.data.toList b.data.toList))) w := fun w => by
    rw [run_callFunc_extern Tryz.func263 (by kernel_rfl) (by kernel_rfl) (by kernel_rfl) (e := Extern.BytealgCompare.compare) (by kernel_rfl), Lib.run_compareString]
    rfl
  generalize Lib.compareBytes a.data.toList b.data.toList = z at hc ⊢
  go_enter Tryz.func228, Tryz.ntmps228
  go_wp2_with fail
  go_ret
  exact ⟨rfl, rfl⟩
theorem cmp_strs (a b : ByteArray) (w : World) :
    Calls Tryz.prog 186 #[.string a, .string b] w fun e w' => e = .returned (.int .i64 (Lib.compareBytes a.data.toList b.data.toList)) ∧ w = w' := by
  have hc := cmp_bytes a b
  generalize Lib.compareBytes a.data.toList b.data.toList = z at hc ⊢
  have HC := Lib.hid hc
  clear hc
  go_enter Tryz.func186, Tryz.ntmps186
  go_wp2_with (first
    | (go_at_call 228; refine (HC.out _).mono ?_; rintro e w' ⟨rfl, rfl⟩))
  go_ret
  exact ⟨rfl, rfl⟩
def orI (x y : Int) : Int := if x = 0 then y else x
theorem orI_cmp (x y : Mk) : orI (stCmp x.a y.a) (Lib.compareBytes x.k.data.toList y.k.data.toList) = mkCmp x y := by unfold orI mkCmp; rfl
set_option maxHeartbeats 1600000 in
theorem cmp_or (b : Nat) (t : TypeId) (x y : Int) (w : World) (h : Blk w b t #[.int .i64 x, .int .i64 y]) :
    Calls Tryz.prog 229 #[.slice (some ⟨b, 0, none⟩) 2 2] w fun e w' => e = .returned (.int .i64 (orI x y)) ∧ w = w' := by
  have c0 := h.cell_ (i := 0) rfl
  have c1 := h.cell_ (i := 1) rfl
  clear h
  by_cases hx : x = 0
  · have H : Hid (orI x y = y) := by rw [Hid, orI, if_pos hx]
    subst hx
    by_cases hy : y = 0
    · subst hy
      go_enter Tryz.func229, Tryz.ntmps229
      go_wp2_with fail
      go_loopw [8] (fun s8 wr => ∃ i : Nat, s8 = .int .i64 i ∧ i ≤ 2 ∧ wr = w) (fun s8 _ => 2 - (intOf s8).toNat)
      case atStart => exact ⟨0, rfl, by omega, rfl⟩
      case round =>
        obtain ⟨i, rfl, hi, rfl⟩ := hrel
        by_cases h2 : i < 2
        · have hcase : i = 0 ∨ i = 1 := by omega
          rcases hcase with rfl | rfl
          · go_wp2_with fail
            go_roundw
            case rel => exact ⟨1, rfl, by omega, by first | rfl | trivial⟩
            case measure => simp [intOf]
          · go_wp2_with fail
            go_roundw
            case rel => exact ⟨2, rfl, by omega, by first | rfl | trivial⟩
            case measure => simp [intOf]
        · obtain rfl : i = 2 := by omega
          go_wp2_with fail
          go_ret
          rw [H.out]
          exact ⟨rfl, rfl⟩
    · have hy1 : (y != 0) = true := by simpa using hy
      have hy2 : ¬ (y = 0) := hy
      go_enter Tryz.func229, Tryz.ntmps229
      go_wp2_with fail
      go_loopw [8] (fun s8 wr => ∃ i : Nat, s8 = .int .i64 i ∧ i ≤ 1 ∧ wr = w) (fun s8 _ => 2 - (intOf s8).toNat)
      case atStart => exact ⟨0, rfl, by omega, rfl⟩
      case round =>
        obtain ⟨i, rfl, hi, rfl⟩ := hrel
        have hcase : i = 0 ∨ i = 1 := by omega
        rcases hcase with rfl | rfl
        · go_wp2_with fail
          go_roundw
          case rel => exact ⟨1, rfl, by omega, by first | rfl | trivial⟩
          case measure => simp [intOf]
        · go_wp2_with fail
          go_ret
          rw [H.out]
          exact ⟨rfl, rfl⟩
  · have H : Hid (orI x y = x) := by rw [Hid, orI, if_neg hx]
    have hx1 : (x != 0) = true := by simpa using hx
    go_enter Tryz.func229, Tryz.ntmps229
    go_wp2_with fail
    go_loopw [8] (fun s8 wr => s8 = .int .i64 0 ∧ wr = w) (fun s8 _ => 0)
    case atStart => exact ⟨rfl, rfl⟩
    case round =>
      obtain ⟨rfl, rfl⟩ := hrel
      go_wp2_with fail
      go_ret
      rw [H.out]
      exact ⟨rfl, rfl⟩
def mkI (m : Mk) : List Value := [.int .i64 m.a.c, .int .i64 m.a.s, .string m.k]
theorem mkI_len (m : Mk) : (mkI m).length = 3 := rfl
structure Bx2 (w0 : World) (ca cb : Array Value) (w : World) : Prop where
  a : Blk w w0.heap.size 99 ca
  b : Blk w (w0.heap.size + 1) 99 cb
  o : Only none_ w0 w
theorem Bx2.keep {w0 w w' : World} {ca cb : Array Value} (h : Bx2 w0 ca cb w) (o : Only none_ w w') : Bx2 w0 ca cb w' := ⟨h.a.only o (fun h => h), h.b.only o (fun h => h), h.o.trans o⟩
set_option maxHeartbeats 3200000 in
theorem rc_compare (x y : Mk) (w : World) :
    Calls Tryz.prog 190 #[.agg #[.int .i64 x.a.c, .int .i64 x.a.s, .string x.k], .agg #[.int .i64 y.a.c, .int .i64 y.a.s, .string y.k]] w fun e w' => e = .returned (.int .i64 (mkCmp x y)) ∧ Only none_ w w' := by
  rw [← orI_cmp]
  obtain ⟨⟨xc, xs⟩, xk⟩ := x
  obtain ⟨⟨yc, ys⟩, yk⟩ := y
  have hs := st_compare xc xs yc ys
  have hk := cmp_strs xk yk
  simp only []
  generalize stCmp ⟨xc, xs⟩ ⟨yc, ys⟩ = p at hs ⊢
  generalize Lib.compareBytes xk.data.toList yk.data.toList = q at hk ⊢
  have HS := Lib.hid hs
  have HK := Lib.hid hk
  clear hs hk
  have B : Hid (Bx2 w #[.int .i64 xc, .int .i64 xs, .string xk] #[.int .i64 yc, .int .i64 ys, .string yk] ((w.alloc (.cells #[.int .i64 xc, .int .i64 xs, .string xk] 99)).alloc (.cells #[.int .i64 yc, .int .i64 ys, .string yk] 99))) := by
    have B2 := Blk.new (w.alloc (.cells #[.int .i64 xc, .int .i64 xs, .string xk] 99)) 99 #[.int .i64 yc, .int .i64 ys, .string yk]
    rw [World.size_alloc] at B2
    exact ⟨(Blk.new w _ _).alloc _, B2, ((Only.refl none_ w).alloc _).alloc _⟩
  go_enter Tryz.func190, Tryz.ntmps190
  go_wp2_with fail
  (refine wp_region_steady (fun w' => Bx2 w #[.int .i64 xc, .int .i64 xs, .string xk] #[.int .i64 yc, .int .i64 ys, .string yk] w') 10 (by kernel_rfl) (by kernel_rfl) (B.out.keep (Only.refl none_ _).drew) ?_; simp only [List.take_succ_cons, List.take_zero, List.drop_succ_cons, List.drop_zero])
  repeat (first
    | (refine sd_value (v := ?_) (by rfl) (fun w0 hS => ?_) ?_; rotate_left; (· (have a0 := hS.a.cell_ (i := 0) rfl; have a1 := hS.a.cell_ (i := 1) rfl; have a2 := hS.a.cell_ (i := 2) rfl; have b0 := hS.b.cell_ (i := 0) rfl; have b1 := hS.b.cell_ (i := 1) rfl; have b2 := hS.b.cell_ (i := 2) rfl; go_simp; try (with_reducible rfl))); try simp only [Act.put, List.setIfInBounds_toArray, List.set_cons_zero, List.set_cons_succ])
    | (refine sd_call (v := ?_) (f := 140) (args := ?_) (by rfl) (fun w0 hS => ?_) (fun w0 hS => ?_) ?_; rotate_left 2; (· (skip; go_simp; try (with_reducible rfl))); (· (refine (HS.out _).mono ?_; rintro E w9 ⟨rfl, o9⟩; refine ⟨?_, hS.keep o9⟩; rfl)); try simp only [Act.put, List.setIfInBounds_toArray, List.set_cons_zero, List.set_cons_succ])
    | (refine sd_call (v := ?_) (f := 186) (args := ?_) (by rfl) (fun w0 hS => ?_) (fun w0 hS => ?_) ?_; rotate_left 2; (· (skip; go_simp; try (with_reducible rfl))); (· (refine (HK.out _).mono ?_; rintro E w9 ⟨rfl, rfl⟩; refine ⟨?_, hS⟩; rfl)); try simp only [Act.put, List.setIfInBounds_toArray, List.set_cons_zero, List.set_cons_succ]))
  refine sd_nil ?_
  intro w3 t3
  have T3 := Lib.hid t3.o
  clear t3
  have O4 : Hid (Only none_ w3 (w3.alloc (.cells #[.int .i64 p, .int .i64 q] 3))) := (Only.refl none_ w3).alloc _
  have B4 : Hid (Blk (w3.alloc (.cells #[.int .i64 p, .int .i64 q] 3)) w3.heap.size 3 #[.int .i64 p, .int .i64 q]) := Blk.new _ _ _
  go_wp2_with (first
    | (go_at_call 229; refine (cmp_or _ 3 p q _ B4.out).mono ?_; rintro e w5 ⟨rfl, rfl⟩))
  go_ret
  exact ⟨rfl, T3.out.trans O4.out⟩
end Go.Proofs.YtoohpcomnhfgpaaGreat
end
section
namespace Go.Proofs.YtoohpcomnhfgpaaGreat
open Go.RowKit
set_option maxRecDepth 100000
set_option linter.all false
theorem mark_info : (Tryz.prog.info? 99).map (fun i => (i.zero, i.size, i.bytes)) = some (some (.agg #[.int .i64 0, .int .i64 0, .string ⟨#[]⟩]), 3, 32) := by kernel_rfl
set_option maxHeartbeats 3200000 in
theorem insM_end (base : Nat) (A : Option Addr) (n c vb : Nat) (xs ys : List Value) (w : World) (h : w.ownsRow base 99 3 (.slice A n c) n xs) (hn : n ≤ 4096) (hb : base ≤ w.heap.size)
    (hv : Blk w vb 99 ys.toArray) (hy : ys.length = 3) (h1y : ∀ u ∈ ys, u.oneCell' = true) :
    Calls Tryz.prog 223 #[.slice A n c, .int .i64 n, .slice (some ⟨vb, 0, none⟩) 1 1] w fun e w' => ∃ v', e = .returned v' ∧ w'.ownsRow base 99 3 v' (n + 1) (xs ++ ys) ∧ Only (ownb (.slice A n c)) w w' ∧ Moved w (.slice A n c) v' := by
  obtain ⟨i0, hi0, hz0, hz1, hz2⟩ := info_parts mark_info
  have H := Lib.hid h
  have CY : Hid (Cel w (fun b => b = vb) (.slice (some ⟨vb, 0, none⟩) 1 1) 1 3 ys) := ⟨_, _, rfl, by simpa using hy, Nat.le_refl _, by simp [maxLen], fun e => by (cases e), fun _ => ⟨vb, 0, rfl, rfl, hv.lt, fun j u hu => by rw [Nat.zero_add]; exact hv.cell_ (by simpa using hu)⟩⟩
  obtain ⟨A', hsl⟩ := sl_lo_any Tryz.underlying163 hi0 A n c n (Nat.le_refl _) (n : Int) rfl
  have HN : Hid (n + 1 ≤ maxLen ∧ (n + 1) * 32 ≤ 140737488355328) := by simp only [Hid, maxLen]; omega
  clear h hv hy
  go_enter Tryz.func223, Tryz.ntmps223
  go_wp2_with (first
    | (at_builtin; refine wpList_append_cel _ rfl (.tmp 23) (.tmp 24) 163 rfl base 99 i0 _ 3 32 Tryz.underlying163 hi0 hz0 hz1 hz2 rfl (by omega) _ n xs rfl H.out _ _ 1 ys rfl CY.out h1y HN.out.1 HN.out.2 hb ?_
       intro A5 n5 c5 w5 hown5 hgrow5 hmv5
       have R5 : Hid (w5.ownsRow base 99 3 (.slice A5 n5 c5) (n + 1) (xs ++ ys) ∧ Only (ownb (.slice A n c)) w w5 ∧ Moved w (.slice A n c) (.slice A5 n5 c5)) := ⟨hown5, (Only.refl (ownb _) w).grown hgrow5 (fun k hk => .inl hk), hmv5⟩
       clear hown5 hgrow5 hmv5))
  go_ret
  exact ⟨_, rfl, R5.out⟩
set_option maxHeartbeats 6400000 in
theorem insM_mid (base g n c i vb : Nat) (cur xs ys : List Value) (w : World) (h : Rw_ w base g 99 3 c cur) (hx : cur.take (n * 3) = xs) (hin : i < n) (hnc : n ≤ c) (hn : n ≤ 4096) (hb : base ≤ w.heap.size)
    (hv : Blk w vb 99 ys.toArray) (hne : vb ≠ g) (hy : ys.length = 3) (h1x : ∀ u ∈ xs, u.oneCell' = true) (h1y : ∀ u ∈ ys, u.oneCell' = true) :
    Calls Tryz.prog 223 #[.slice (some ⟨g, 0, none⟩) n c, .int .i64 i, .slice (some ⟨vb, 0, none⟩) 1 1] w fun e w' => ∃ v', e = .returned v' ∧ w'.ownsRow base 99 3 v' (n + 1) (xs.take (i * 3) ++ ys ++ xs.drop (i * 3)) ∧ Only (one g) w w' ∧
      (∀ k, v'.ownBlock = some k → k = g ∨ w.heap.size ≤ k) := by
  obtain ⟨i0, hi0, hz0, hz1, hz2⟩ := info_parts mark_info
  have hxl : xs.length = n * 3 := by rw [← hx, List.length_take, h.cs]; omega
  have hxd : ∀ u ∈ xs.drop (i * 3), u.oneCell' = true := fun u hu => h1x u (List.mem_of_mem_drop hu)
  have hdl : (xs.drop (i * 3)).length = (n - i) * 3 := by rw [List.length_drop, hxl]; omega
  have hcl := h.cs
  have hglt := h.lt
  have hin0 : (i : Int) ≠ (n : Int) := by omega
  have hin1 : ((i : Int) == (n : Int)) = false := by simp; omega
  have hin2 : ¬ (i = n) := by omega
  have hsl0 := sl_lo0 Tryz.underlying163 hi0 hz1 g n c i (by omega) (by omega) (i : Int) rfl
  have hw1 : IntKind.i64.wrap ((n : Int) + 1) = (n : Int) + 1 := IntWalk.i64_in _ (by omega)
  have hw2 : IntKind.i64.wrap ((i : Int) + 1) = (i : Int) + 1 := IntWalk.i64_in _ (by omega)
  have hsrcx : ∀ (w' : World), Rw_ w' base g 99 3 c cur → ∀ j v, (xs.drop (i * 3))[j]? = some v → w'.cell? ((⟨g, i * 3, none⟩ : Addr).add j) = some v := by
    intro w' h' j v hj
    have e1 : (⟨g, i * 3, none⟩ : Addr).add j = ⟨g, i * 3 + j, none⟩ := by unfold Addr.add; split <;> simp_all
    rw [e1, h'.cell]
    rw [List.getElem?_drop, ← hx, List.getElem?_take] at hj
    split at hj
    · exact hj
    · cases hj
  have hsrcy : ∀ (w' : World), Blk w' vb 99 ys.toArray → ∀ j v, ys[j]? = some v → w'.cell? ((⟨vb, 0, none⟩ : Addr).add j) = some v := by
    intro w' h' j v hj
    have e1 : (⟨vb, 0, none⟩ : Addr).add j = ⟨vb, j, none⟩ := by unfold Addr.add; split <;> simp_all
    rw [e1]
    exact h'.cell_ (by simpa using hj)
  by_cases hroom : n + 1 ≤ c
  · have hgt : ¬ ((c : Int) < (n : Int) + 1) := by omega
    have hgt2 : ¬ (c < n + 1) := by omega
    have hsl1 := sl_hi Tryz.underlying163 hi0 g 0 n c (n + 1) hroom ((n : Int) + 1) (by omega)
    have hsl2 := sl_lo0 Tryz.underlying163 hi0 hz1 g (n + 1) c (i + 1) (by omega) (by omega) ((i : Int) + 1) (by omega)
    have hsl3 := sl_lo0 Tryz.underlying163 hi0 hz1 g (n + 1) c i (by omega) (by omega) (i : Int) rfl
    have hov : ∀ lb cb, (callFunc 258 #[.slice (some ⟨vb, 0, none⟩) 1 1, .slice (some ⟨g, (i + 1) * 3, none⟩) lb cb]).run Tryz.prog w = .ok (.value (.bool false)) w := fun lb cb => by
      rw [run_callFunc_extern Tryz.func258 (by kernel_rfl) (by kernel_rfl) (by kernel_rfl) (e := Extern.SlicesOverlaps.overlaps #[163, 163] #[4]) (by kernel_rfl),
        Lib.run_overlaps_apart w 163 4 99 Tryz.underlying163 3 (fun w => by simp [sizeOf, typeInfo, hi0, hz1]) ⟨vb, 0, none⟩ ⟨g, (i + 1) * 3, none⟩ 1 1 lb cb hne 99 99 ys.toArray.size cur.toArray.size
          (by have hv' := hv; unfold Blk at hv'; simp [World.shape?, hv']) (by have hb' := h.bk; simp [World.shape?, hb']) (by simp [hcl]; omega) (hv.frozen 0) (hv.frozen _)]
      rfl
    obtain ⟨W1, hW1⟩ : ∃ W1, W1 = w.drew.setRow g (putAt cur ((i + 1) * 3) (xs.drop (i * 3))).toArray := ⟨_, rfl⟩
    have hlen1 : (putAt cur ((i + 1) * 3) (xs.drop (i * 3))).length = cur.length := putAt_len (by rw [hdl, hcl]; omega)
    have R1 : Hid (Rw_ W1 base g 99 3 c (putAt cur ((i + 1) * 3) (xs.drop (i * 3)))) := by rw [hW1]; exact h.drew.set hlen1
    have O1 : Hid (Only (one g) w W1) := by rw [hW1]; exact ((Only.refl (one g) w).drew).setRow (.inl rfl) _
    have hcp1 : ∀ ty dc sc, (Builtin.copy_ #[163, 163] ty #[.slice (some ⟨g, (i + 1) * 3, none⟩) (n - i) dc, .slice (some ⟨g, i * 3, none⟩) (n + 1 - i) sc]).run Tryz.prog w.drew = .ok (goInt (Nat.min (n + 1 - i) (n - i))) W1 := fun ty dc sc => by
      rw [hW1]
      have := run_copy_k (P := Tryz.prog) w.drew _ 163 ty _ i0 3 Tryz.underlying163 hi0 hz1 base g ((i + 1) * 3) (n - i) dc c cur h.drew ⟨g, i * 3, none⟩ (n + 1 - i) sc (xs.drop (i * 3)) (by rw [hdl]; congr 1; simp only [Nat.min_def]; split <;> omega) (hsrcx _ h.drew) (by rw [hdl, hcl]; omega) hxd
      exact this
    have V1 : Hid (Blk W1 vb 99 ys.toArray) := hv.only O1.out (fun e => hne e)
    obtain ⟨W2, hW2⟩ : ∃ W2, W2 = W1.setRow g (putAt (putAt cur ((i + 1) * 3) (xs.drop (i * 3))) (i * 3) ys).toArray := ⟨_, rfl⟩
    have hcp2 : ∀ ty dc, (Builtin.copy_ #[163, 163] ty #[.slice (some ⟨g, i * 3, none⟩) (n + 1 - i) dc, .slice (some ⟨vb, 0, none⟩) 1 1]).run Tryz.prog W1 = .ok (goInt (Nat.min 1 (n + 1 - i))) W2 := fun ty dc => by
      rw [hW2]
      have := run_copy_k (P := Tryz.prog) W1 _ 163 ty _ i0 3 Tryz.underlying163 hi0 hz1 base g (i * 3) (n + 1 - i) dc c _ R1.out ⟨vb, 0, none⟩ 1 1 ys (by rw [hy, show Nat.min 1 (n + 1 - i) = 1 from Nat.min_eq_left (by omega)]) (hsrcy _ V1.out) (by rw [hlen1, hy, hcl]; omega) h1y
      exact this
    have F : Hid (W2.ownsRow base 99 3 (.slice (some ⟨g, 0, none⟩) (n + 1) c) (n + 1) (xs.take (i * 3) ++ ys ++ xs.drop (i * 3)) ∧ Only (one g) w W2) := by
      constructor
      · rw [hW2]
        refine (R1.out.set (putAt_len (by rw [hlen1, hy, hcl]; omega))).own (n + 1) _ hroom ?_
        exact ins_shift cur xs ys 3 n i (by rw [hcl]; omega) hx hy (by omega)
      · rw [hW2]; exact O1.out.setRow (.inl rfl) _
    generalize Nat.min (n + 1 - i) (n - i) = m1 at hcp1
    generalize Nat.min 1 (n + 1 - i) = m2 at hcp2
    have HC1 := Lib.hid hcp1
    clear hcp1 h hx hv hxl hxd hdl hcl hsrcx hsrcy hlen1 hW1 hW2 hn hb h1x h1y hy
    go_enter Tryz.func223, Tryz.ntmps223
    go_wp2_with fail
    go_region_law (first
      | (refine step_copy_run rfl (.tmp 73) (.tmp 76) _ _ rfl (.slice (some ⟨g, (i + 1) * 3, none⟩) (n - i) (c - (i + 1))) (.slice (some ⟨g, i * 3, none⟩) (n + 1 - i) (c - i)) (by simp [Act.eval, Act.put]) (by simp [Act.eval, Act.put]) (HC1.out _ _ _) ?_))
    all_goals go_wp2_with fail
    all_goals go_ret
    all_goals exact ⟨_, rfl, F.out.1, F.out.2, fun k hk => .inl (by have e : some g = some k := hk; injection e with e; exact e.symm)⟩
  · obtain rfl : c = n := by omega
    have hgt : ((c : Int) < (c : Int) + 1) := by omega
    have hsl1 := sl_hi Tryz.underlying163 hi0 g 0 c c i (by omega) (i : Int) rfl
    have hw3 : IntKind.i64.wrap ((c : Int) + 1 - (i : Int)) = (c : Int) + 1 - (i : Int) := IntWalk.i64_in _ (by omega)
    have hw4 : ((c + 1 - i : Nat) : Int) = (c : Int) + 1 - (i : Int) := by omega
    obtain ⟨G, curN, W1, hrun1, hrw1, hG, htk1, o1, hs1⟩ := app_zero (P := Tryz.prog) w 3 163 _ .i64 .i64 Tryz.underlying163 Tryz.underlying3 hi0 hz0 hz1 rfl base g i c c cur h (by omega) (c + 1 - i) (by omega) (by omega) (by omega) (by omega) (by rw [hz2]; decide) hb
    have hiG : i + (c + 1 - i) = c + 1 := by omega
    rw [hiG, hw4] at hrun1
    rw [hiG] at hG
    clear hw4
    have R1 := Lib.hid hrw1
    obtain ⟨N, hN⟩ : ∃ N, w.heap.size = N := ⟨_, rfl⟩
    have HNN := Lib.hid hN
    rw [hN] at hrun1 R1 hglt
    have hcl1 := R1.out.cs
    have G1 : Hid (Rw_ W1 base g 99 3 c cur) := h.only o1 (fun h => h)
    have V1 : Hid (Blk W1 vb 99 ys.toArray) := hv.only o1 (fun h => h)
    have hvN : vb ≠ N := by have := hv.lt; omega
    have hgN : g ≠ N := by omega
    obtain ⟨W2, hW2⟩ : ∃ W2, W2 = W1.setRow N (putAt curN (i * 3) ys).toArray := ⟨_, rfl⟩
    have hlen2 : (putAt curN (i * 3) ys).length = curN.length := putAt_len (by rw [hy, hcl1]; omega)
    have R2 : Hid (Rw_ W2 base N 99 3 G (putAt curN (i * 3) ys)) := by rw [hW2]; exact R1.out.set hlen2
    have O2 : Hid (Only (one N) W1 W2) := by rw [hW2]; exact only_row N _
    have G2 : Hid (Rw_ W2 base g 99 3 c cur) := G1.out.only O2.out (fun e => hgN e)
    have hsl2 := sl_lo0 Tryz.underlying163 hi0 hz1 N (c + 1) G i (by omega) (by omega) (i : Int) rfl
    have hsl3 := sl_lo0 Tryz.underlying163 hi0 hz1 N (c + 1) G (i + 1) (by omega) (by omega) ((i : Int) + 1) (by omega)
    have hcp1 : ∀ ty dc, (Builtin.copy_ #[163, 163] ty #[.slice (some ⟨N, i * 3, none⟩) (c + 1 - i) dc, .slice (some ⟨vb, 0, none⟩) 1 1]).run Tryz.prog W1 = .ok (goInt (Nat.min 1 (c + 1 - i))) W2 := fun ty dc => by
      rw [hW2]
      have := run_copy_k (P := Tryz.prog) W1 _ 163 ty _ i0 3 Tryz.underlying163 hi0 hz1 base N (i * 3) (c + 1 - i) dc G _ R1.out ⟨vb, 0, none⟩ 1 1 ys (by rw [hy, show Nat.min 1 (c + 1 - i) = 1 from Nat.min_eq_left (by omega)]) (hsrcy _ V1.out) (by rw [hy, hcl1]; omega) h1y
      exact this
    obtain ⟨W3, hW3⟩ : ∃ W3, W3 = W2.drew.setRow N (putAt (putAt curN (i * 3) ys) ((i + 1) * 3) (xs.drop (i * 3))).toArray := ⟨_, rfl⟩
    have hcp2 : ∀ ty dc sc, (Builtin.copy_ #[163, 163] ty #[.slice (some ⟨N, (i + 1) * 3, none⟩) (c - i) dc, .slice (some ⟨g, i * 3, none⟩) (c - i) sc]).run Tryz.prog W2.drew = .ok (goInt (Nat.min (c - i) (c - i))) W3 := fun ty dc sc => by
      rw [hW3]
      have := run_copy_k (P := Tryz.prog) W2.drew _ 163 ty _ i0 3 Tryz.underlying163 hi0 hz1 base N ((i + 1) * 3) (c - i) dc G _ R2.out.drew ⟨g, i * 3, none⟩ (c - i) sc (xs.drop (i * 3)) (by rw [hdl]; congr 1; simp only [Nat.min_def]; split <;> omega) (hsrcx _ G2.out.drew) (by rw [hlen2, hdl, hcl1]; omega) hxd
      exact this
    have F : Hid (W3.ownsRow base 99 3 (.slice (some ⟨N, 0, none⟩) (c + 1) G) (c + 1) (xs.take (i * 3) ++ ys ++ xs.drop (i * 3)) ∧ Only (one g) w W3 ∧ w.heap.size ≤ N) := by
      refine ⟨?_, ?_, by omega⟩
      · rw [hW3]
        refine (R2.out.drew.set (putAt_len (by rw [hlen2, hdl, hcl1]; omega))).own (c + 1) _ hG ?_
        exact ins_fresh cur curN xs ys 3 c i (by rw [hcl1]; omega) htk1 hx hy hxl (by omega)
      · have o3 : Only (one N) W1 W3 := by rw [hW3]; exact (O2.out.drew).setRow (.inl rfl) _
        exact (o1.of_none).trans' o3 (fun k hk e => by have e' : k = N := e; omega)
    generalize Nat.min 1 (c + 1 - i) = m1 at hcp1
    generalize Nat.min (c - i) (c - i) = m2 at hcp2
    have HC2 := Lib.hid hcp2
    have HR1 := Lib.hid hrun1
    clear hcp2 hrun1 h hx hv hxl hxd hdl hcl hcl1 hsrcx hsrcy hlen2 hW2 hW3 hn hb h1x h1y hy hrw1 hG htk1 o1 hs1 hN hiG
    go_enter Tryz.func223, Tryz.ntmps223
    go_wp2_with (first
      | (at_builtin; refine wpList_append_run2 rfl (.tmp 34) (.tmp 39) _ _ rfl _ _ rfl rfl HR1.out ?_))
    go_region_law (first
      | (refine step_copy_run rfl (.tmp 50) (.tmp 53) _ _ rfl (.slice (some ⟨N, (i + 1) * 3, none⟩) (c - i) (G - (i + 1))) (.slice (some ⟨g, i * 3, none⟩) (c - i) (c - i)) (by simp [Act.eval, Act.put]) (by simp [Act.eval, Act.put]) (HC2.out _ _ _) ?_))
    all_goals go_wp2_with fail
    all_goals go_ret
    all_goals exact ⟨_, rfl, F.out.1, F.out.2.1, fun k hk => .inr (by have e : some N = some k := hk; injection e with e; have := F.out.2.2; omega)⟩
set_option maxHeartbeats 6400000 in
theorem delM (base g m c i : Nat) (cur xs : List Value) (w : World) (h : Rw_ w base g 99 3 c cur) (hx : cur.take ((m + 1) * 3) = xs) (him : i ≤ m) (hmc : m + 1 ≤ c) (hm : m ≤ 4096) (h1x : ∀ u ∈ xs, u.oneCell' = true) :
    Calls Tryz.prog 207 #[.slice (some ⟨g, 0, none⟩) (m + 1) c, .int .i64 i, .int .i64 ((i : Int) + 1)] w fun e w' => e = .returned (.slice (some ⟨g, 0, none⟩) m c) ∧ w'.ownsRow base 99 3 (.slice (some ⟨g, 0, none⟩) m c) m (xs.take (i * 3) ++ xs.drop ((i + 1) * 3)) ∧ Only (one g) w w' := by
  obtain ⟨i0, hi0, hz0, hz1, hz2⟩ := info_parts mark_info
  have hxl : xs.length = (m + 1) * 3 := by rw [← hx, List.length_take, h.cs]; omega
  have hxd : ∀ u ∈ xs.drop ((i + 1) * 3), u.oneCell' = true := fun u hu => h1x u (List.mem_of_mem_drop hu)
  have hdl : (xs.drop ((i + 1) * 3)).length = (m - i) * 3 := by rw [List.length_drop, hxl]; omega
  have hcl := h.cs
  have hne : ((i : Int) == (i : Int) + 1) = false := by simp; omega
  have hne2 : ¬ ((i : Int) = (i : Int) + 1) := by omega
  obtain ⟨A', hsl0⟩ := sl_three Tryz.underlying163 hi0 (some ⟨g, 0, none⟩) (m + 1) c i (i + 1) (m + 1) (by omega) (by omega) hmc (i : Int) ((i : Int) + 1) ((m : Int) + 1) rfl (by omega) (by omega)
  have hsl1 := sl_hi Tryz.underlying163 hi0 g 0 (m + 1) c i (by omega) (i : Int) rfl
  obtain ⟨W1, hW1⟩ : ∃ W1, W1 = w.drew.setRow g (putAt cur (i * 3) (xs.drop ((i + 1) * 3))).toArray := ⟨_, rfl⟩
  have hlen1 : (putAt cur (i * 3) (xs.drop ((i + 1) * 3))).length = cur.length := putAt_len (by rw [hdl, hcl]; omega)
  have R1 : Hid (Rw_ W1 base g 99 3 c (putAt cur (i * 3) (xs.drop ((i + 1) * 3)))) := by rw [hW1]; exact h.drew.set hlen1
  have O1 : Hid (Only (one g) w W1) := by rw [hW1]; exact ((Only.refl (one g) w).drew).setRow (.inl rfl) _
  have hrest : ∃ q, (∀ w', (Instr.sliceAt 163 (.slice (some ⟨g, 0, none⟩) (m + 1) c) (some (.int .i64 ((i : Int) + 1))) none none).run Tryz.prog w' = .ok (.slice (some ⟨g, q, none⟩) (m - i) (c - (i + 1))) w') ∧
      ∀ ty, (Builtin.append_ #[163, 163] ty #[.slice (some ⟨g, 0, none⟩) i c, .slice (some ⟨g, q, none⟩) (m - i) (c - (i + 1))]).run Tryz.prog w.drew = .ok (.slice (some ⟨g, 0, none⟩) m c) W1 := by
    have hmm : m + 1 - (i + 1) = m - i := by omega
    have him2 : i + (m - i) = m := by omega
    by_cases hic : i + 1 < c
    · have h5 := sl_lo0 Tryz.underlying163 hi0 hz1 g (m + 1) c (i + 1) (by omega) hic ((i : Int) + 1) (by omega)
      rw [hmm] at h5
      refine ⟨_, h5, fun ty => ?_⟩
      have := run_append_room (P := Tryz.prog) w.drew _ ty _ i0 3 Tryz.underlying163 hi0 hz1 base g i c c cur h.drew ⟨g, (i + 1) * 3, none⟩ (m - i) (c - (i + 1)) (xs.drop ((i + 1) * 3)) hdl (by omega) (fun j v hj => by
        have e1 : (⟨g, (i + 1) * 3, none⟩ : Addr).add j = ⟨g, (i + 1) * 3 + j, none⟩ := by unfold Addr.add; split <;> simp_all
        rw [e1, h.drew.cell]
        rw [List.getElem?_drop, ← hx, List.getElem?_take] at hj
        split at hj
        · exact hj
        · cases hj) (by rw [hdl, hcl]; omega) hxd
      rw [him2, ← hW1] at this
      exact this
    · have h5 := sl_lo_end Tryz.underlying163 hi0 g 0 (m + 1) c (i + 1) (by omega) (by omega) ((i : Int) + 1) (by omega)
      rw [hmm] at h5
      refine ⟨_, h5, fun ty => ?_⟩
      have he : xs.drop ((i + 1) * 3) = [] := List.eq_nil_of_length_eq_zero (by rw [hdl]; omega)
      have := run_append_room (P := Tryz.prog) w.drew _ ty _ i0 3 Tryz.underlying163 hi0 hz1 base g i c c cur h.drew ⟨g, 0, none⟩ (m - i) (c - (i + 1)) (xs.drop ((i + 1) * 3)) hdl (by omega) (by rw [he]; intro j v hj; simp at hj) (by rw [hdl, hcl]; omega) hxd
      rw [him2, ← hW1] at this
      exact this
  obtain ⟨q, hsl2, hap⟩ := hrest
  have hsl3 := sl_mid0 Tryz.underlying163 hi0 hz1 g m c m (m + 1) (by omega) hmc (by omega) (m : Int) ((m : Int) + 1) rfl (by omega)
  rw [Nat.add_sub_cancel_left] at hsl3
  obtain ⟨cs, hcs, hclr⟩ := run_clear_row (P := Tryz.prog) W1 163 163 _ i0 _ 3 Tryz.underlying163 hi0 hz0 rfl (by simp [Value.cells, Value.oneCell']) base g (m * 3) 1 (c - m) c _ R1.out (by omega) (by rw [hlen1, hcl]; omega)
  have hclr2 : ∀ ty, (Builtin.clear_ #[163] ty #[.slice (some ⟨g, m * 3, none⟩) 1 (c - m)]).run Tryz.prog W1 = .ok (.tuple #[]) (W1.setRow g (putAt (putAt cur (i * 3) (xs.drop ((i + 1) * 3))) (m * 3) cs).toArray) := fun ty => hclr
  obtain ⟨W2, hW2⟩ : ∃ W2, W2 = W1.setRow g (putAt (putAt cur (i * 3) (xs.drop ((i + 1) * 3))) (m * 3) cs).toArray := ⟨_, rfl⟩
  rw [← hW2] at hclr2
  have F : Hid (W2.ownsRow base 99 3 (.slice (some ⟨g, 0, none⟩) m c) m (xs.take (i * 3) ++ xs.drop ((i + 1) * 3)) ∧ Only (one g) w W2) := by
    constructor
    · rw [hW2]
      refine (R1.out.set (putAt_len (by rw [hlen1, hcs, hcl]; omega))).own m _ (by omega) ?_
      exact del_shift cur xs cs 3 (m + 1) i (m * 3) (by rw [hcl]; omega) hx (by omega) (by simp) (by rw [hcs, hcl]; omega)
    · rw [hW2]; exact O1.out.setRow (.inl rfl) _
  have HAP := Lib.hid hap
  clear hap hclr h hx hxl hxd hdl hcl hlen1 hW1 hW2 hm h1x hcs
  go_enter Tryz.func207, Tryz.ntmps207
  go_wp2_with fail
  go_region_law (first
    | (refine step_append_run2 rfl (.tmp 22) (.tmp 25) _ _ rfl (.slice (some ⟨g, 0, none⟩) i c) (.slice (some ⟨g, q, none⟩) (m - i) (c - (i + 1))) (by simp [Act.eval, Act.put]) (by simp [Act.eval, Act.put]) (HAP.out _) ?_))
  all_goals go_wp2_with fail
  all_goals go_ret
  all_goals exact ⟨rfl, F.out.1, F.out.2⟩
set_option maxHeartbeats 3200000 in
theorem cloM (A : Option Addr) (n c : Nat) (S : Nat → Prop) (xs : List Value) (w : World) (h : Cel w S (.slice A n c) n 3 xs) (hn : n ≤ 4096) (h1x : ∀ u ∈ xs, u.oneCell' = true) :
    Calls Tryz.prog 187 #[.slice A n c] w fun e w' => ∃ v', e = .returned v' ∧ w'.ownsRow w.heap.size 99 3 v' n xs ∧ Only none_ w w' := by
  obtain ⟨i0, hi0, hz0, hz1, hz2⟩ := info_parts mark_info
  have H := Lib.hid h
  have hnil := fun w a n c => Lib.run_eql_slice_nil (P := Tryz.prog) w 163 99 a n c 0 0 Tryz.underlying163
  have HN : Hid (0 + n ≤ maxLen ∧ (0 + n) * 32 ≤ 140737488355328) := by simp only [Hid, maxLen]; omega
  cases A with
  | none =>
    have hz : n = 0 ∧ xs = [] ∧ c = 0 := by
      obtain ⟨A', c', e, h0, h1, h2, h3, h4⟩ := h
      injection e with e1 e2 e3
      have hc0 := h3 e1.symm
      have hn0 : n = 0 := by omega
      exact ⟨hn0, List.eq_nil_of_length_eq_zero (by omega), by omega⟩
    obtain ⟨rfl, rfl, rfl⟩ := hz
    clear h H
    go_enter Tryz.func187, Tryz.ntmps187
    go_wp2_with fail
    go_ret
    exact ⟨_, rfl, World.ownsRow_nil _ _ _ _, Only.refl _ _⟩
  | some a =>
    have C1 : Hid (Cel (w.alloc (.cells #[] 99)) S (.slice (some a) n c) n 3 xs) := h.alloc _
    have M1 : Hid ((w.alloc (.cells #[] 99)).ownsRow w.heap.size 99 3 (.slice (some ⟨w.heap.size, 0, none⟩) 0 0) 0 []) := own_made w w.heap.size _ 3 0 #[] (by simp) (by simp [maxLen]) (Nat.le_refl _)
    have hb1 : w.heap.size ≤ (w.alloc (.cells #[] 99)).heap.size := by rw [World.size_alloc]; omega
    clear h
    go_enter Tryz.func187, Tryz.ntmps187
    go_wp2_with (first
      | (at_builtin; refine wpList_append_cel _ rfl (.tmp 5) (.tmp 6) 163 rfl w.heap.size 99 i0 _ 3 32 Tryz.underlying163 hi0 hz0 hz1 hz2 rfl (by omega) _ 0 [] rfl M1.out _ _ n xs rfl C1.out h1x HN.out.1 HN.out.2 hb1 ?_
         intro A5 n5 c5 w5 hown5 hgrow5 hmv5
         have R5 : Hid (w5.ownsRow w.heap.size 99 3 (.slice A5 n5 c5) n xs ∧ Only none_ w w5) := ⟨by simpa using hown5, (((Only.refl none_ w).alloc _).of_none.grown hgrow5 (fun k hk => .inr (by have e : some w.heap.size = some k := hk; injection e with e; omega)))⟩
         clear hown5 hgrow5 hmv5))
    go_ret
    exact ⟨_, rfl, R5.out.1, R5.out.2⟩
end Go.Proofs.YtoohpcomnhfgpaaGreat
end
section
namespace Go.Proofs.YtoohpcomnhfgpaaGreat
open Go.RowKit
set_option maxRecDepth 100000
set_option linter.all false
theorem flat_take {α : Type} {k : Nat} (f : α → List Value) (hk : ∀ x, (f x).length = k) : ∀ (l : List α) (n : Nat), n ≤ l.length → (l.flatMap f).take (n * k) = (l.take n).flatMap f
  | _, 0, _ => by simp
  | [], n + 1, h => by simp at h
  | x :: l, n + 1, h => by
    have e : (n + 1) * k = k + n * k := by rw [Nat.succ_mul, Nat.add_comm]
    rw [List.flatMap_cons, List.take_succ_cons, List.flatMap_cons, e, List.take_append, hk, Nat.add_sub_cancel_left, List.take_of_length_le (by rw [hk]; omega), flat_take f hk l n (by simpa using h)]
theorem flat_drop {α : Type} {k : Nat} (f : α → List Value) (hk : ∀ x, (f x).length = k) : ∀ (l : List α) (n : Nat), n ≤ l.length → (l.flatMap f).drop (n * k) = (l.drop n).flatMap f
  | _, 0, _ => by simp
  | [], n + 1, h => by simp at h
  | x :: l, n + 1, h => by
    have e : (n + 1) * k = k + n * k := by rw [Nat.succ_mul, Nat.add_comm]
    rw [List.flatMap_cons, List.drop_succ_cons, e, ← List.drop_drop, List.drop_left' (hk x), flat_drop f hk l n (by simpa using h)]
theorem Cel.sub {w : World} {S : Nat → Prop} {k : Nat} {A A' : Option Addr} {n n' c c' p : Nat} {cs : List Value} (h : Cel w S (.slice A n c) n k cs) (hp : p + n' ≤ n) (hA : 0 < n' → ∀ b off, A = some ⟨b, off, none⟩ → A' = some ⟨b, off + p * k, none⟩) (hn : n' ≤ c') (hc : c' ≤ c) (hA0 : A' = none → c' = 0) :
    Cel w S (.slice A' n' c') n' k ((cs.drop (p * k)).take (n' * k)) := by
  obtain ⟨A0, c0, e, h0, h1, h2, h3, h4⟩ := h
  injection e with e1 e2 e3
  subst e1 e3
  have hm : p * k + n' * k ≤ n * k := by rw [← Nat.add_mul]; exact Nat.mul_le_mul_right k hp
  refine ⟨A', c', rfl, by rw [List.length_take, List.length_drop, h0]; omega, hn, Nat.le_trans hc h2, hA0, fun hp' => ?_⟩
  obtain ⟨b, off, rfl, hs, hlt, hcell⟩ := h4 (by omega)
  refine ⟨b, off + p * k, hA hp' b off rfl, hs, hlt, fun j u hu => ?_⟩
  rw [List.getElem?_take] at hu
  split at hu
  · rw [List.getElem?_drop] at hu
    rw [Nat.add_assoc]
    exact hcell _ u hu
  · cases hu
theorem mkI_one (l : List Mk) : ∀ u ∈ l.flatMap mkI, u.oneCell' = true := by
  intro u hu
  obtain ⟨p, _, hp⟩ := List.mem_flatMap.1 hu
  simp only [mkI, List.mem_cons, List.not_mem_nil, or_false] at hp
  rcases hp with rfl | rfl | rfl <;> rfl
theorem mk_cell {w : World} {S : Nat → Prop} {A : Option Addr} {n c : Nat} {l : List Mk} (h : Cel w S (.slice A n c) n 3 (l.flatMap mkI)) (i : Nat) (hi : i < l.length) (hn : n = l.length) :
    ∃ b off, A = some ⟨b, off, none⟩ ∧ S b ∧ b < w.heap.size ∧ w.cell? ⟨b, off + i * 3, none⟩ = some (.int .i64 l[i].a.c) ∧ w.cell? ⟨b, off + i * 3 + 1, none⟩ = some (.int .i64 l[i].a.s) ∧ w.cell? ⟨b, off + i * 3 + 2, none⟩ = some (.string l[i].k) := by
  obtain ⟨A', c', e, h0, h1, h2, h3, h4⟩ := h
  injection e with e1 e2 e3
  subst e1 e3
  obtain ⟨b, off, rfl, hs, hlt, hc⟩ := h4 (by omega)
  have f := fun j (hj : j < 3) => flat_at mkI mkI_len l i l[i] (List.getElem?_eq_getElem hi) j hj
  refine ⟨b, off, rfl, hs, hlt, hc _ _ ?_, ?_, ?_⟩
  · have := f 0 (by decide); rw [Nat.add_zero] at this; rw [this]; rfl
  · rw [Nat.add_assoc]; refine hc _ _ ?_; rw [f 1 (by decide)]; rfl
  · rw [Nat.add_assoc]; refine hc _ _ ?_; rw [f 2 (by decide)]; rfl
def Ft (g mb : Nat) (v : Value) : Nat → Prop := fun k => k = g ∨ k = mb ∨ ownb v k
structure Rc (N g mb : Nat) (l q : List Mk) (v : Value) (w : World) : Prop where
  bk : Blk w g 281 #[.map (some mb), v]
  ow : w.ownsRow N 99 3 v l.length (l.flatMap mkI)
  mp : Mp w mb q
  gn : N ≤ g
  mn : N ≤ mb
  ix : Ixl l
  ml : l.length ≤ 100
section
variable {N g mb : Nat} {w w' : World} {l l' q : List Mk} {v v' : Value} {t : TypeId} {cs : Array Value}
theorem Rc.sz (s : Rc N g mb l q v w) : N ≤ w.heap.size := by have := s.gn; have := s.bk.lt; omega
theorem Rc.foot (s : Rc N g mb l q v w) {k : Nat} (hf : Ft g mb v k) : N ≤ k ∧ k < w.heap.size := by
  rcases hf with rfl | rfl | hf
  · exact ⟨s.gn, s.bk.lt⟩
  · exact ⟨s.mn, s.mp.lt⟩
  · exact s.ow.lt k hf
theorem Rc.far {S : Nat → Prop} (s : Rc N g mb l q v w) (o : Only S w w') (hn : ∀ k, Ft g mb v k → ¬ S k) : Rc N g mb l q v w' :=
  ⟨s.bk.only o (hn g (.inl rfl)), owns_only s.ow o (fun k hk => hn k (.inr (.inr hk))), s.mp.only o (hn mb (.inr (.inl rfl))), s.gn, s.mn, s.ix, s.ml⟩
theorem Rc.keep (s : Rc N g mb l q v w) (o : Only none_ w w') : Rc N g mb l q v w' := s.far o (fun _ _ h => h)
theorem Rc.shape (s : Rc N g mb l q v w) : ∃ A c, v = .slice A l.length c := by
  rcases s.ow.2 with ⟨rfl, h0⟩ | ⟨_, _, _, rfl, _⟩
  · exact ⟨none, 0, by rw [h0]⟩
  · exact ⟨_, _, rfl⟩
theorem Rc.cel (s : Rc N g mb l q v w) : Cel w (ownb v) v l.length 3 (l.flatMap mkI) := Cel.of_own s.ow
end
theorem ent {P : Program} {f : FuncId} {fn : Func} {c : Code} (hf : P.funcs[f]? = some fn) (hname : (fn.name == "runtime.NumGoroutine") = false) (hb : fn.body = some c) (args : Array Value) (w : World) :
    (callFunc f args).run P w = .ok (.enter f args) w := by
  have h1 : fn.name ≠ "runtime.NumGoroutine" := by simpa using hname
  simp [callFunc, hf, h1, hb]
structure Cp (w : World) (b2 b3 g : Nat) (m : Mk) : Prop where
  p : Blk w b2 71 #[.pointer (some ⟨g, 0, none⟩)]
  q : Blk w b3 99 #[.int .i64 m.a.c, .int .i64 m.a.s, .string m.k]
theorem Cp.keep {w w' : World} {b2 b3 g : Nat} {m : Mk} (h : Cp w b2 b3 g m) (o : Only none_ w w') : Cp w' b2 b3 g m := ⟨h.p.only o (fun h => h), h.q.only o (fun h => h)⟩
set_option maxHeartbeats 3200000 in
theorem beh_clo (N g mb b2 b3 : Nat) (l q : List Mk) (v : Value) (m : Mk) (w : World) (h : Rc N g mb l q v w) (hc : Cp w b2 b3 g m) (i : Nat) (hi : i < l.length) :
    Calls Tryz.prog 189 #[.int .i64 i, .pointer (some ⟨b2, 0, none⟩), .pointer (some ⟨b3, 0, none⟩)] w fun e w' => e = .returned (.bool (decide (bh l m ≤ i))) ∧ Only none_ w w' := by
  rw [← bh_at h.ix.ds m i hi, ← mkCmp_neg]
  obtain ⟨A, c, rfl⟩ := h.shape
  have hcmp := rc_compare l[i] m
  have HK : Hid (∀ w', Only none_ w w' → ∃ b off, A = some ⟨b, off, none⟩ ∧ w'.cell? ⟨b, off + i * 3, none⟩ = some (.int .i64 l[i].a.c) ∧ w'.cell? ⟨b, off + i * 3 + 1, none⟩ = some (.int .i64 l[i].a.s) ∧ w'.cell? ⟨b, off + i * 3 + 2, none⟩ = some (.string l[i].k) ∧
      w'.cell? ⟨g, 1, none⟩ = some (.slice A l.length c)) := fun w' o => by
    obtain ⟨b, off, hA, _, _, h0, h1, h2⟩ := mk_cell (h.keep o).cel i hi rfl
    exact ⟨b, off, hA, h0, h1, h2, (h.keep o).bk.cell_ (i := 1) rfl⟩
  obtain ⟨b, off, rfl, _⟩ := HK.out w (Only.refl _ _)
  have HP := Lib.hid (fun (w' : World) (o : Only none_ w w') => (hc.keep o).p.cell_ (i := 0) rfl)
  have HQ := Lib.hid (fun (w' : World) (o : Only none_ w w') => And.intro ((hc.keep o).q.cell_ (i := 0) rfl) (And.intro ((hc.keep o).q.cell_ (i := 1) rfl) ((hc.keep o).q.cell_ (i := 2) rfl)))
  have hii : (i : Int) < (l.length : Int) := by omega
  have hl64 := h.ml
  generalize mkCmp l[i] m = z at hcmp ⊢
  obtain ⟨⟨yc, ys⟩, yk⟩ := m
  obtain ⟨p, hp⟩ : ∃ p, l[i] = p := ⟨_, rfl⟩
  rw [hp] at HK hcmp
  obtain ⟨⟨xc, xs⟩, xk⟩ := p
  simp only [] at HK HQ hcmp
  have HC := Lib.hid hcmp
  clear h hc hcmp hp
  obtain ⟨n, hn⟩ : ∃ n, l.length = n := ⟨_, rfl⟩
  rw [hn] at HK hi hii hl64
  clear hn
  have HKK : Hid (∀ w', Only none_ w w' → w'.cell? ⟨b, off + i * 3, none⟩ = some (.int .i64 xc) ∧ w'.cell? ⟨b, off + i * 3 + 1, none⟩ = some (.int .i64 xs) ∧ w'.cell? ⟨b, off + i * 3 + 2, none⟩ = some (.string xk) ∧
      w'.cell? ⟨g, 1, none⟩ = some (.slice (some ⟨b, off, none⟩) n c)) := fun w' o => by
    obtain ⟨b', off', e, h0, h1, h2, h3⟩ := HK.out w' o
    injection e with e; injection e with e1 e2; subst e1 e2
    exact ⟨h0, h1, h2, h3⟩
  clear HK
  go_enter Tryz.func189, Tryz.ntmps189
  go_wp2_with fail
  (refine wp_region_steady (fun w' => Only none_ w w') 11 (by kernel_rfl) (by kernel_rfl) ((Only.refl none_ w).drew) ?_; simp only [List.take_succ_cons, List.take_zero, List.drop_succ_cons, List.drop_zero])
  repeat (first
    | (refine sd_value (v := ?_) (by rfl) (fun w0 hS => ?_) ?_; rotate_left; (· (have hp0 := HP.out _ hS; have hq0 := (HQ.out _ hS).1; have hq1 := (HQ.out _ hS).2.1; have hq2 := (HQ.out _ hS).2.2; have k0 := (HKK.out _ hS).1; have k1 := (HKK.out _ hS).2.1; have k2 := (HKK.out _ hS).2.2.1; have k3 := (HKK.out _ hS).2.2.2; go_simp; try (with_reducible rfl))); try simp only [Act.put, List.setIfInBounds_toArray, List.set_cons_zero, List.set_cons_succ])
    | (refine sd_call (v := ?_) (f := 190) (args := ?_) (by rfl) (fun w0 hS => ?_) (fun w0 hS => ?_) ?_; rotate_left 2; (· (skip; go_simp; try (with_reducible rfl))); (· (refine (HC.out _).mono ?_; rintro E w9 ⟨rfl, o9⟩; refine ⟨?_, hS.trans o9⟩; rfl)); try simp only [Act.put, List.setIfInBounds_toArray, List.set_cons_zero, List.set_cons_succ]))
  refine sd_nil ?_
  intro w3 t3
  have T3 := Lib.hid t3
  clear t3
  go_wp2_with fail
  go_ret
  exact ⟨rfl, T3.out⟩
set_option maxHeartbeats 3200000 in
theorem srch (n r b2 b3 : Nat) (w : World) (hr : r ≤ n) (hn : n ≤ 100)
    (hcl : ∀ i : Nat, i < n → ∀ w', Only none_ w w' → Calls Tryz.prog 189 #[.int .i64 i, .pointer (some ⟨b2, 0, none⟩), .pointer (some ⟨b3, 0, none⟩)] w' fun e w'' => e = .returned (.bool (decide (r ≤ i))) ∧ Only none_ w' w'') :
    Calls Tryz.prog 188 #[.int .i64 n, .func (.func 189) #[] #[.pointer (some ⟨b2, 0, none⟩), .pointer (some ⟨b3, 0, none⟩)]] w fun e w' => e = .returned (.int .i64 r) ∧ Only none_ w w' := by
  have HC := Lib.hid hcl
  have hrun : ∀ (args : Array Value) (w1 : World), (callFunc 189 args).run Tryz.prog w1 = .ok (.enter 189 args) w1 := fun args w1 => ent Tryz.func189 rfl rfl args w1
  clear hcl
  go_enter Tryz.func188, Tryz.ntmps188
  go_wp2_with fail
  go_loopw [5, 6] (fun s5 s6 wr => ∃ lo hi : Nat, s5 = .int .i64 lo ∧ s6 = .int .i64 hi ∧ lo ≤ r ∧ r ≤ hi ∧ hi ≤ n ∧ Only none_ w wr) (fun s5 s6 _ => (intOf s6).toNat - (intOf s5).toNat)
  case atStart => exact ⟨0, n, rfl, rfl, Nat.zero_le _, hr, Nat.le_refl _, Only.refl _ _⟩
  case round =>
    obtain ⟨lo, hi, rfl, rfl, h1, h2, h3, o⟩ := hrel
    have O := Lib.hid o
    by_cases hlt : lo < hi
    · obtain ⟨q, hq⟩ : ∃ q, (lo + hi) / 2 = q := ⟨_, rfl⟩
      have hq1 : lo ≤ q ∧ q < hi := by omega
      have hqi : ((lo : Int) + (hi : Int)) / 2 = (q : Int) := by omega
      have hcl := HC.out q (by omega) wr o
      clear o hq
      by_cases hz : r ≤ q
      · rw [show decide (r ≤ q) = true from by simpa using hz] at hcl
        have HCL := Lib.hid hcl
        clear hcl
        go_wp2_with (first
          | (go_at_call 189; refine HCL.out.mono ?_; rintro e w1 ⟨rfl, o1⟩; have O1 := Lib.hid (O.out.trans o1); clear o1))
        go_roundw
        case rel => exact ⟨lo, q, rfl, by go_num, h1, hz, by omega, O1.out⟩
        case measure => simp [intOf]; omega
      · rw [show decide (r ≤ q) = false from by simpa using hz] at hcl
        have HCL := Lib.hid hcl
        clear hcl
        go_wp2_with (first
          | (go_at_call 189; refine HCL.out.mono ?_; rintro e w1 ⟨rfl, o1⟩; have O1 := Lib.hid (O.out.trans o1); clear o1))
        go_roundw
        case rel => exact ⟨q + 1, hi, by go_num, rfl, by omega, h2, h3, O1.out⟩
        case measure => simp [intOf]; omega
    · have e1 : lo = r := by omega
      subst e1
      clear o
      go_wp2_with fail
      go_ret
      exact ⟨rfl, O.out⟩
set_option maxHeartbeats 3200000 in
theorem rc_behind (N g mb : Nat) (l q : List Mk) (v : Value) (m : Mk) (w : World) (h : Rc N g mb l q v w) :
    Calls Tryz.prog 137 #[.pointer (some ⟨g, 0, none⟩), .agg #[.int .i64 m.a.c, .int .i64 m.a.s, .string m.k]] w fun e w' => e = .returned (.int .i64 (bh l m)) ∧ Only none_ w w' := by
  have hmf : ∀ (fn : Fn) (first cap : Array Value) (w : World), (Instr.makeFunc fn first cap).run Tryz.prog w = .ok (.func fn first cap) w := fun _ _ _ _ => rfl
  have B2 := Blk.new (w.alloc (.cells #[.pointer (some ⟨g, 0, none⟩)] 71)) 99 #[.int .i64 m.a.c, .int .i64 m.a.s, .string m.k]
  rw [World.size_alloc] at B2
  have C : Hid (Cp ((w.alloc (.cells #[.pointer (some ⟨g, 0, none⟩)] 71)).alloc (.cells #[.int .i64 m.a.c, .int .i64 m.a.s, .string m.k] 99)) w.heap.size (w.heap.size + 1) g m) := ⟨(Blk.new w _ _).alloc _, B2⟩
  have O : Hid (Only none_ w ((w.alloc (.cells #[.pointer (some ⟨g, 0, none⟩)] 71)).alloc (.cells #[.int .i64 m.a.c, .int .i64 m.a.s, .string m.k] 99))) := ((Only.refl none_ w).alloc _).alloc _
  have hs := srch l.length (bh l m) w.heap.size (w.heap.size + 1) _ (bh_le l m) h.ml (fun i hi w' o => beh_clo N g mb _ _ l q v m w' (h.keep (O.out.trans o)) (C.out.keep o) i hi)
  obtain ⟨A, c, rfl⟩ := h.shape
  have c0 := C.out.p.cell_ (i := 0) rfl
  have c1 := (h.keep O.out).bk.cell_ (i := 1) rfl
  generalize bh l m = r at hs ⊢
  generalize l.length = n at hs c1
  have HS := Lib.hid hs
  clear h hs B2
  go_enter Tryz.func137, Tryz.ntmps137
  go_wp2_with (first
    | (go_at_call 188; refine HS.out.mono ?_; rintro e w1 ⟨rfl, o1⟩; have O1 := Lib.hid (O.out.trans o1); clear o1))
  go_ret
  exact ⟨rfl, O1.out⟩
end Go.Proofs.YtoohpcomnhfgpaaGreat
end
section
namespace Go.Proofs.YtoohpcomnhfgpaaGreat
open Go.RowKit
set_option maxRecDepth 100000
set_option linter.all false
def mkSame (x y : Mk) : Bool := stSame x.a y.a && decide (x.k = y.k)
theorem mkSame_iff (x y : Mk) : mkSame x y = true ↔ x = y := by
  unfold mkSame
  rw [Bool.and_eq_true, stSame_iff, decide_eq_true_eq]
  exact ⟨fun h => Mk.eq h.1 h.2, fun h => by subst h; exact ⟨rfl, rfl⟩⟩
theorem isTop_same (x : Mk) : isTop x = mkSame x mkTop := rfl
theorem eq_struct10 {P : Program} {t : TypeId} {fs : Array Field} (ht : P.underlying t = some (.struct fs)) (hp : P.stoodInHeld t = false) (d : Nat) (xs ys : Array Value) (w : World) :
    (Op.equalIn (d + 1) t (.agg xs) (.agg ys)).run P w = (Op.eqFields d xs ys fs.toList).run P w := by
  have e : P.fieldsOf t = fs := by rw [Program.fieldsOf, ht]
  rw [run_equalIn_struct w d t xs ys (by rw [e]; exact ht) hp, e]
theorem str_same (a b : ByteArray) : (a.toList == b.toList) = decide (a = b) := by
  rw [Bool.eq_iff_iff, beq_iff_eq, decide_eq_true_eq]
  exact ⟨fun h => by
    have e : ∀ x : ByteArray, x.toList = x.data.toList := fun x => by
      rw [ByteArray.toList_eq]
    rw [e, e] at h
    exact key_ext h, fun h => by rw [h]⟩
theorem eqa_stamp (w : World) (x y : St) (d : Nat) : (Op.equalIn (d + 2) 80 (.agg #[.int .i64 x.c, .int .i64 x.s]) (.agg #[.int .i64 y.c, .int .i64 y.s])).run Tryz.prog w = .ok (stSame x y) w := by
  rw [eq_struct10 Tryz.underlying80 (by kernel_rfl)]
  have e : ∀ (a b : Int), (Op.equalIn (d + 1) 3 (.int .i64 a) (.int .i64 b)).run Tryz.prog w = .ok (a == b) w := fun a b => run_equalIn_int w d 3 .i64 .i64 a b Tryz.underlying3
  have e1 : stSame x y = (x.c == y.c && x.s == y.s) := by unfold stSame; simp [Bool.beq_eq_decide_eq]
  rw [e1]
  cases h1 : x.c == y.c <;> cases h2 : x.s == y.s <;> simp [Op.eqFields, part, isAgg, run_underlying Tryz.underlying3, e, h1, h2]
theorem eqr_stamp (w : World) (x y : St) (d : Nat) : (Op.equalIn (d + 2) 48 (.agg #[.int .i64 x.c, .int .i64 x.s]) (.agg #[.int .i64 y.c, .int .i64 y.s])).run Tryz.prog w = .ok (stSame x y) w := by
  rw [eq_struct10 Tryz.underlying48 (by kernel_rfl)]
  have e : ∀ (a b : Int), (Op.equalIn (d + 1) 3 (.int .i64 a) (.int .i64 b)).run Tryz.prog w = .ok (a == b) w := fun a b => run_equalIn_int w d 3 .i64 .i64 a b Tryz.underlying3
  have e1 : stSame x y = (x.c == y.c && x.s == y.s) := by unfold stSame; simp [Bool.beq_eq_decide_eq]
  rw [e1]
  cases h1 : x.c == y.c <;> cases h2 : x.s == y.s <;> simp [Op.eqFields, part, isAgg, run_underlying Tryz.underlying3, e, h1, h2]
theorem eqa_mark (w : World) (x y : Mk) (d : Nat) : (Op.equalIn (d + 3) 99 (.agg #[.int .i64 x.a.c, .int .i64 x.a.s, .string x.k]) (.agg #[.int .i64 y.a.c, .int .i64 y.a.s, .string y.k])).run Tryz.prog w = .ok (mkSame x y) w := by
  rw [eq_struct10 Tryz.underlying99 (by kernel_rfl) (d + 2)]
  have e1 : (Op.equalIn (d + 2) 9 (.string x.k) (.string y.k)).run Tryz.prog w = .ok (x.k.toList == y.k.toList) w := run_equalIn_string w (d + 1) 9 x.k y.k Tryz.underlying9
  rw [str_same] at e1
  have e4 := eqa_stamp w x.a y.a d
  obtain ⟨i0, hi0, hz0⟩ : ∃ i0, Tryz.prog.info? 80 = some i0 ∧ i0.size = 2 := by
    have : (Tryz.prog.info? 80).map (·.size) = some 2 := by kernel_rfl
    cases h : Tryz.prog.info? 80 with
    | none => rw [h] at this; cases this
    | some i0 => rw [h] at this; simp at this; exact ⟨i0, rfl, this⟩
  have p1 : ∀ z : Mk, (part 80 #[.int .i64 z.a.c, .int .i64 z.a.s, .string z.k] 0).run Tryz.prog w = .ok (.agg #[.int .i64 z.a.c, .int .i64 z.a.s]) w := fun z => by
    simp [part, isAgg, run_underlying Tryz.underlying80, sizeOf, typeInfo, hi0, hz0]
  have ps : ∀ (cs : Array Value) (i : Nat) (u : Value), cs[i]? = some u → (part 9 cs i).run Tryz.prog w = .ok u w := fun cs i u h => by simp [part, isAgg, run_underlying Tryz.underlying9, h]
  have r0 := ps #[.int .i64 x.a.c, .int .i64 x.a.s, .string x.k] 2 _ rfl
  have r1 := ps #[.int .i64 y.a.c, .int .i64 y.a.s, .string y.k] 2 _ rfl
  unfold mkSame
  generalize stSame x.a y.a = b1 at *
  generalize decide (x.k = y.k) = b2 at *
  cases b1 <;> cases b2 <;> simp [Op.eqFields, p1, r0, r1, e1, e4]
theorem eqlA (w : World) (x y : Mk) : (binOp .eql 99 (.agg #[.int .i64 x.a.c, .int .i64 x.a.s, .string x.k]) (.agg #[.int .i64 y.a.c, .int .i64 y.a.s, .string y.k])).run Tryz.prog w = .ok (.bool (mkSame x y)) w := by
  rw [run_eql_struct, eqa_mark w x y 9997]; rfl
theorem neqA (w : World) (x y : Mk) : (binOp .neq 99 (.agg #[.int .i64 x.a.c, .int .i64 x.a.s, .string x.k]) (.agg #[.int .i64 y.a.c, .int .i64 y.a.s, .string y.k])).run Tryz.prog w = .ok (.bool (!mkSame x y)) w := by
  rw [run_neq_struct, eqa_mark w x y 9997]; rfl
theorem neqS (w : World) (x y : St) : (binOp .neq 48 (.agg #[.int .i64 x.c, .int .i64 x.s]) (.agg #[.int .i64 y.c, .int .i64 y.s])).run Tryz.prog w = .ok (.bool (!stSame x y)) w := by
  rw [run_neq_struct, eqr_stamp w x y 9998]; rfl
end Go.Proofs.YtoohpcomnhfgpaaGreat
end
