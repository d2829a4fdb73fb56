/- What New, Put and Drop of a table do. No statement of the seat is proved here. -/
import Derived.Test.YtdmopjnmfjmhkaaTbD
import Derived.Test.YtdmopjnmfjmhkaaRws
namespace Go.Proofs.Ytdmopjnmfjmhkaa
open Go.RowKit
set_option maxRecDepth 100000
set_option linter.all false

/-- What a call that works on a table may leave. -/
def LeftT (B : World) (g : Nat) (room : Int) (v : Value) (w : World) (l' : List (Pr Int)) (w' : World) : Prop := ∃ v', Tb B g room l' v' w' ∧ Only (foot g v) w w' ∧ Moved w v v'
theorem LeftT.after0 {B w w1 w' : World} {g : Nat} {room : Int} {v : Value} {l' : List (Pr Int)} (o : Only none_ w w1) (h : LeftT B g room v w1 l' w') : LeftT B g room v w l' w' := by
  obtain ⟨v', h1, h2, h3⟩ := h
  exact ⟨v', h1, o.of_none.trans' h2 (fun k _ h => h), fun k hk => (h3 k hk).imp id (fun h => Nat.le_trans o.size h)⟩
theorem LeftT.same {B w : World} {g : Nat} {room : Int} {v : Value} {l : List (Pr Int)} (h : Tb B g room l v w) : LeftT B g room v w l w := ⟨v, h, Only.refl _ _, Moved.refl _ _⟩

set_option maxHeartbeats 800000 in
theorem tb_new_no (room : Int) (w : World) (h : room < 1 ∨ 4096 < room) :
    Calls Try.prog 8 #[.int .i64 room] w fun e w' => e = .returned (.tuple #[.pointer none, .int .i64 1]) ∧ w = w' := by
  by_cases h1 : room < 1
  · clear h
    go_enter Try.func8, Try.ntmps8
    go_wp2_with fail
    go_ret2
    exact ⟨rfl, rfl⟩
  · have h2 : 4096 < room := h.resolve_left h1
    clear h
    go_enter Try.func8, Try.ntmps8
    go_wp2_with fail
    go_ret2
    exact ⟨rfl, rfl⟩
set_option maxHeartbeats 800000 in
theorem tb_new_yes (B : World) (room : Int) (w : World) (hB : Only none_ B w) (h1 : ¬ room < 1) (h2 : ¬ 4096 < room) :
    Calls Try.prog 8 #[.int .i64 room] w fun e w' => ∃ g, e = .returned (.tuple #[.pointer (some ⟨g, 0, none⟩), .int .i64 0]) ∧ w.heap.size ≤ g ∧ Tb B g room [] (.slice none 0 0) w' ∧ Only none_ w w' := by
  have HB := Lib.hid hB
  have HR : Hid (1 ≤ room ∧ room ≤ 4096) := by simp only [Hid]; omega
  clear hB
  go_enter Try.func8, Try.ntmps8
  go_wp2_with fail
  go_ret2
  have o := (Only.refl none_ w).alloc (.cells #[.int .i64 room, .slice none 0 0] 80)
  exact ⟨w.heap.size, rfl, Nat.le_refl _, ⟨Blk.new _ _ _, World.ownsRow_nil _ _ _ _, HB.out.trans o, HB.out.size, ris_nil, by have := HR.out; simp; omega, HR.out.2⟩, o⟩

/-- An insertion, wherever. -/
theorem insI (base : Nat) (A : Option Addr) (n c i vb : Nat) (xs ys : List Value) (w : World) (h : w.ownsRow base 78 2 (.slice A n c) n xs) (hi : i ≤ n) (hn : n ≤ 4096) (hb : base ≤ w.heap.size)
    (hv : Blk w vb 78 ys.toArray) (hne : (Value.slice A n c).ownBlock ≠ some vb) (hy : ys.length = 2) (h1x : ∀ u ∈ xs, u.oneCell' = true) (h1y : ∀ u ∈ ys, u.oneCell' = true) :
    Calls Try.prog 50 #[.slice A n c, .int .i64 i, .slice (some ⟨vb, 0, none⟩) 1 1] w fun e w' => ∃ v', e = .returned v' ∧ w'.ownsRow base 78 2 v' (n + 1) (xs.take (i * 2) ++ ys ++ xs.drop (i * 2)) ∧ Only (ownb (.slice A n c)) w w' ∧ Moved w (.slice A n c) v' := by
  have hxl : xs.length = n * 2 := h.1
  by_cases hin : i = n
  · subst hin
    refine (insI_end base A i c vb xs ys w h hn hb hv hy h1y).mono ?_
    rintro e w' ⟨v', rfl, h1, h2, h3⟩
    refine ⟨v', rfl, ?_, h2, h3⟩
    rw [List.take_of_length_le (by omega), List.drop_of_length_le (by omega), List.append_nil]
    exact h1
  · obtain ⟨g, cur, rfl, hr, hnc, hx⟩ := own_rw h (by omega)
    have hvg : vb ≠ g := fun e => hne (by rw [e]; rfl)
    refine (insI_mid base g n c i vb cur xs ys w hr hx (by omega) hnc hn hb hv hvg hy h1x h1y).mono ?_
    rintro e w' ⟨v', rfl, h1, h2, h3⟩
    refine ⟨v', rfl, h1, h2.mono (fun k _ e => by have e' : k = g := e; rw [e']; rfl), fun k hk => (h3 k hk).imp (fun e => by rw [e]; rfl) id⟩

/-- A cell of a row of the call's own becomes another. -/
theorem own_set {w : World} {base : Nat} {e : TypeId} {k n c b : Nat} {A : Option Addr} {xs : List Value} (h : w.ownsRow base e k (.slice A n c) n xs) (hA : A = some ⟨b, 0, none⟩) (j : Nat) (u : Value) (hj : j < n * k) :
    (w.setCell ⟨b, j, none⟩ u).ownsRow base e k (.slice A n c) n (xs.set j u) := by
  subst hA
  refine ⟨by rw [List.length_set]; exact h.1, ?_⟩
  rcases h.2 with ⟨e1, h0⟩ | ⟨g, cap, cur, e1, hb, hh, hnc, hcm, hcs, htk⟩
  · cases e1
  · injection e1 with e1 _ e3
    injection e1 with e1
    injection e1 with e1
    subst e1 e3
    refine .inr ⟨b, c, cur.setIfInBounds j u, rfl, hb, ?_, hnc, hcm, by simpa using hcs, ?_⟩
    · rw [setCell_eq_setRow w b j cur e (0, 0) u hh]
      exact setRow_heap w b cur _ e (0, 0) hh
    · rw [Array.toList_setIfInBounds, List.take_set, htk]
theorem flat_set (l : List (Pr Int)) (r : Nat) (x : ByteArray) (v : Int) (hr : r < l.length) (hx : l[r].k = x) : (l.set r ⟨x, v⟩).flatMap prI = (l.flatMap prI).set (r * 2 + 1) (.int .i64 v) := by
  induction l generalizing r with
  | nil => simp at hr
  | cons p l ih =>
    cases r with
    | zero =>
      simp only [List.getElem_cons_zero] at hx
      subst hx
      rfl
    | succ r =>
      have e : (r + 1) * 2 + 1 = (r * 2 + 1) + 1 + 1 := by omega
      rw [List.set_cons_succ, List.flatMap_cons, List.flatMap_cons, ih r (by simpa using hr) (by simpa using hx), e]
      rfl

/-- What a put tells, and leaves. -/
def putC (room : Int) (l : List (Pr Int)) (x : ByteArray) : Int := if has l x then 0 else if room ≤ (l.length : Int) then 7 else 0
def putT (room : Int) (l : List (Pr Int)) (x : ByteArray) (v : Int) : List (Pr Int) := if has l x = false ∧ room ≤ (l.length : Int) then l else putL l x v

set_option maxHeartbeats 6400000 in
theorem tb_put (B : World) (g : Nat) (room : Int) (l : List (Pr Int)) (v : Value) (x : ByteArray) (y : Int) (w : World) (h : Tb B g room l v w) :
    Calls Try.prog 27 #[.pointer (some ⟨g, 0, none⟩), .string x, .int .i64 y] w fun e w' => e = .returned (.int .i64 (putC room l x)) ∧ LeftT B g room v w (putT room l x y) w' := by
  have hb := tb_place B g room l v x w h
  have hrl := rnk_le l x
  by_cases hs : has l x = true
  · have ec : putC room l x = 0 := by rw [putC, if_pos hs]
    have et : putT room l x y = l.set (rnk l x) ⟨x, y⟩ := by rw [putT, if_neg (by rw [hs]; simp), putL, if_pos hs]
    rw [ec, et]
    rw [hs] at hb
    have hat := (has_at h.rs x).symm
    rw [hs] at hat
    simp only [Bool.and_eq_true, decide_eq_true_eq] at hat
    obtain ⟨hlt, _, hkx⟩ := hat
    obtain ⟨A, c, rfl⟩ := h.shape
    obtain ⟨r, hr⟩ : ∃ r, rnk l x = r := ⟨_, rfl⟩
    simp only [hr] at hlt hb hkx ⊢
    obtain ⟨vv, hvv⟩ : ∃ z, l[r].v = z := ⟨_, rfl⟩
    have HF : Hid (∀ (w1 : World), Only none_ w w1 → ∃ b, A = some ⟨b, 0, none⟩ ∧ w1.cell? ⟨b, r * 2 + 1, none⟩ = some (.int .i64 vv) ∧ w1.frozen? ⟨b, r * 2 + 1, none⟩ = false ∧ w1.cell? ⟨g, 1, none⟩ = some (.slice A l.length c) ∧
        LeftT B g room (.slice A l.length c) w (l.set r ⟨x, y⟩) (w1.setCell ⟨b, r * 2 + 1, none⟩ (.int .i64 y))) := by
      intro w1 o1
      have h1 := h.keep o1
      obtain ⟨b, cur, hA, hrw, hnc, htk⟩ := own_rw h1.ow (by omega)
      have hcv : w1.cell? ⟨b, r * 2 + 1, none⟩ = some (.int .i64 vv) := by
        rw [← hvv]
        obtain ⟨b', off, e, _, _, _, hc⟩ := prI_cell h1.cel r hlt rfl
        rw [hA] at e
        injection e with e
        injection e with e1 e2
        subst e1 e2
        rw [Nat.zero_add] at hc
        exact hc
      refine ⟨b, hA, hcv, Blk.frozen (t := 78) hrw.bk _, h1.bk.cell_ (i := 1) rfl, .slice A l.length c, ?_, ?_, Moved.refl _ _⟩
      · have o2 : Only (one b) w1 (w1.setCell ⟨b, r * 2 + 1, none⟩ (.int .i64 y)) := (Only.refl (one b) w1).setCell (.inl (show one b b from rfl)) _
        have hgb : g ≠ b := Blk.ne_ h1.bk (show Blk w1 b 78 _ from hrw.bk) (by decide)
        refine ⟨h1.bk.only o2 (fun e => hgb e), ?_, h1.ho.trans' o2 (fun k hk e => by have e' : k = b := e; have := hrw.ge; omega), h1.ge, ris_set h1.rs r _ (fun _ => hkx), by rw [List.length_set]; exact h1.lr, h1.rm⟩
        rw [flat_set l r x y hlt hkx, List.length_set]
        exact own_set h1.ow hA _ _ (by omega)
      · refine o1.of_none.trans' ((Only.refl (one b) w1).setCell (p := ⟨b, r * 2 + 1, none⟩) (.inl (show one b b from rfl)) _) (fun k _ e => .inr ?_)
        have e' : k = b := e
        rw [e', hA]; rfl
    have hrn : (r : Int) < (l.length : Int) := by omega
    have HB := Lib.hid hb
    clear h hb hs ec et hrl hkx hr hvv
    generalize l.length = n at hlt hrn HF ⊢
    go_enter Try.func27, Try.ntmps27
    go_wp2_with (first
      | (go_at_call 49; refine HB.out.mono ?_; rintro e w1 ⟨rfl, o1⟩
         obtain ⟨b, hA, hc1, hf1, hk1, hL⟩ := HF.out w1 o1
         subst hA
         have HLL := Lib.hid hL
         clear hL o1))
    go_ret
    exact ⟨rfl, HLL.out⟩
  · have hs' : has l x = false := by simpa using hs
    rw [hs'] at hb
    by_cases hful : room ≤ (l.length : Int)
    · have ec : putC room l x = 7 := by rw [putC, if_neg hs, if_pos hful]
      have et : putT room l x y = l := by rw [putT, if_pos ⟨hs', hful⟩]
      rw [ec, et]
      have HLN := Lib.hid (fun (w' : World) (o : Only none_ w w') => tb_len B g room l v w' (h.keep o))
      have HK := Lib.hid (fun (w' : World) (o : Only none_ w w') => (h.keep o).bk.cell_ (i := 0) rfl)
      have H := Lib.hid h
      generalize rnk l x = r at hb
      generalize l.length = n at hful HLN
      have HB := Lib.hid hb
      clear h hb hs ec et hrl hs'
      go_enter Try.func27, Try.ntmps27
      go_wp2_with (first
        | (go_at_call 49; refine HB.out.mono ?_; rintro e w1 ⟨rfl, o1⟩
           have O1 := Lib.hid o1
           clear o1))
      (refine wp_region_steady (fun w' => Only none_ w w') 7 (by kernel_rfl) (by kernel_rfl) (O1.out.drew) ?_; simp only [List.take_succ_cons, List.take_zero, List.drop_succ_cons, List.drop_zero])
      repeat (first
        | (refine sd_value (v := ?_) (by rfl) (fun w0 hS => ?_) ?_; rotate_left; (· (have hc := HK.out _ hS; go_simp; try (with_reducible rfl))); try simp only [Act.put, List.setIfInBounds_toArray, List.set_cons_zero, List.set_cons_succ])
        | (refine sd_call (v := ?_) (f := 33) (args := ?_) (by rfl) (fun w0 hS => ?_) (fun w0 hS => ?_) ?_; rotate_left 2; (· (have hc := HK.out _ hS; go_simp; try (with_reducible rfl))); (· (refine (HLN.out _ hS).mono ?_; rintro E w9 ⟨rfl, rfl⟩; refine ⟨?_, hS⟩; rfl)); try simp only [Act.put, List.setIfInBounds_toArray, List.set_cons_zero, List.set_cons_succ]))
      refine sd_nil ?_
      intro w3 t3
      have T3 := Lib.hid t3
      clear t3
      go_wp2_with fail
      go_ret
      exact ⟨rfl, LeftT.after0 T3.out (LeftT.same (H.out.keep T3.out))⟩
    · have ec : putC room l x = 0 := by rw [putC, if_neg hs, if_neg hful]
      have et : putT room l x y = l.take (rnk l x) ++ ⟨x, y⟩ :: l.drop (rnk l x) := by rw [putT, if_neg (fun e => hful e.2), putL, if_neg hs]
      have hris := ris_put h.rs x y
      rw [putL, if_neg hs] at hris
      rw [ec, et]
      obtain ⟨A, c, rfl⟩ := h.shape
      have HLN := Lib.hid (fun (w' : World) (o : Only none_ w w') => tb_len B g room l _ w' (h.keep o))
      have HK := Lib.hid (fun (w' : World) (o : Only none_ w w') => (h.keep o).bk.cell_ (i := 0) rfl)
      have HK1 := Lib.hid (fun (w' : World) (o : Only none_ w w') => (h.keep o).bk.cell_ (i := 1) rfl)
      obtain ⟨r, hr⟩ : ∃ r, rnk l x = r := ⟨_, rfl⟩
      simp only [hr] at hrl hb hris ⊢
      have HIN : Hid (∀ w3 : World, Only none_ w w3 → Calls Try.prog 50 #[.slice A l.length c, .int .i64 r, .slice (some ⟨w3.heap.size, 0, none⟩) 1 1] (w3.alloc (.cells #[.string x, .int .i64 y] 78))
          fun e w' => ∃ A' n' c', e = .returned (.slice A' n' c') ∧ w'.cell? ⟨g, 1, none⟩ = some (.slice A l.length c) ∧ w'.frozen? ⟨g, 1, none⟩ = false ∧ LeftT B g room (.slice A l.length c) w (l.take r ++ ⟨x, y⟩ :: l.drop r) (w'.setCell ⟨g, 1, none⟩ (.slice A' n' c'))) := by
        intro w3 o3
        have h3 := (h.keep o3)
        have o4 : Only none_ w3 (w3.alloc (.cells #[.string x, .int .i64 y] 78)) := (Only.refl none_ w3).alloc _
        have h4 := h3.keep o4
        have hsz : B.heap.size ≤ (w3.alloc (.cells #[.string x, .int .i64 y] 78)).heap.size := h4.ho.size
        refine (insI B.heap.size A l.length c r w3.heap.size _ [.string x, .int .i64 y] _ h4.ow hrl h4.ml hsz (Blk.new w3 _ _) (fun e => by have := (h3.ow.lt _ e).2; omega) rfl (prI_one l) (by simp [Value.oneCell'])).mono ?_
        rintro e w5 ⟨v5, rfl, own5, o5, m5⟩
        obtain ⟨A5, n5, c5, rfl⟩ := own_shape own5
        have b5 := h4.bk.only o5 (fun e => by have := own_blk_ne h4.ow h4.bk (by decide); exact this e)
        have hnew : (l.take r ++ (⟨x, y⟩ : Pr Int) :: l.drop r).length = l.length + 1 := by simp; omega
        have hflat : (l.take r ++ (⟨x, y⟩ : Pr Int) :: l.drop r).flatMap prI = (l.flatMap prI).take (r * 2) ++ [.string x, .int .i64 y] ++ (l.flatMap prI).drop (r * 2) := by
          rw [List.flatMap_append, List.flatMap_cons, flat_take prI prI_len l r hrl, flat_drop prI prI_len l r hrl, List.append_assoc]
          rfl
        have o6 : Only (one g) w5 (w5.setCell ⟨g, 1, none⟩ (.slice A5 n5 c5)) := (Only.refl (one g) w5).setCell (.inl (show one g g from rfl)) _
        have hvg : (Value.slice A5 n5 c5).ownBlock ≠ some g := own_blk_ne own5 b5 (by decide)
        refine ⟨A5, n5, c5, rfl, b5.cell_ (i := 1) rfl, b5.frozen 1, .slice A5 n5 c5, ⟨b5.set_ 1 _, ?_, ?_, h4.ge, hris, by rw [hnew]; omega, h4.rm⟩, ?_, ?_⟩
        · rw [hflat, hnew]
          exact owns_only own5 o6 (fun k hk e => hvg (by rw [hk, show k = g from e]))
        · exact (h4.ho.trans' o5 (fun k hk e => by have := (h4.ow.lt k e).1; omega)).trans' o6 (fun k hk e => by have e' : k = g := e; have := h4.ge; omega)
        · exact (((o3.trans o4).of_none).trans' o5 (fun k _ e => .inr e)).trans' o6 (fun k _ e => .inl e)
        · exact fun k hk => (m5 k hk).imp id (fun h => by have := (o3.trans o4).size; omega)
      generalize l.length = n at hful HLN HIN HK1
      have hful2 : ¬ ((n : Int) ≥ room) := by omega
      have HB := Lib.hid hb
      clear h hb hs ec et hs' hris hr hrl
      go_enter Try.func27, Try.ntmps27
      go_wp2_with (first
        | (go_at_call 49; refine HB.out.mono ?_; rintro e w1 ⟨rfl, o1⟩
           have O1 := Lib.hid o1
           clear o1))
      (refine wp_region_steady (fun w' => Only none_ w w') 7 (by kernel_rfl) (by kernel_rfl) (O1.out.drew) ?_; simp only [List.take_succ_cons, List.take_zero, List.drop_succ_cons, List.drop_zero])
      repeat (first
        | (refine sd_value (v := ?_) (by rfl) (fun w0 hS => ?_) ?_; rotate_left; (· (have hc := HK.out _ hS; go_simp; try (with_reducible rfl))); try simp only [Act.put, List.setIfInBounds_toArray, List.set_cons_zero, List.set_cons_succ])
        | (refine sd_call (v := ?_) (f := 33) (args := ?_) (by rfl) (fun w0 hS => ?_) (fun w0 hS => ?_) ?_; rotate_left 2; (· (have hc := HK.out _ hS; go_simp; try (with_reducible rfl))); (· (refine (HLN.out _ hS).mono ?_; rintro E w9 ⟨rfl, rfl⟩; refine ⟨?_, hS⟩; rfl)); try simp only [Act.put, List.setIfInBounds_toArray, List.set_cons_zero, List.set_cons_succ]))
      refine sd_nil ?_
      intro w3 t3
      have T3 := Lib.hid t3
      have k1 := HK1.out _ t3
      clear t3
      go_wp2_with (first
        | (go_at_call 50; refine (HIN.out _ T3.out).mono ?_; rintro e w5 ⟨A5, n5, c5, rfl, hk5, hf5, hL⟩
           have HLL := Lib.hid hL
           clear hL))
      go_ret
      exact ⟨rfl, HLL.out⟩

set_option maxHeartbeats 3200000 in
theorem tb_drop (B : World) (g : Nat) (room : Int) (l : List (Pr Int)) (v : Value) (x : ByteArray) (w : World) (h : Tb B g room l v w) :
    Calls Try.prog 31 #[.pointer (some ⟨g, 0, none⟩), .string x] w fun e w' => e = .returned (.bool (has l x)) ∧ LeftT B g room v w (dropL l x) w' := by
  have hb := tb_place B g room l v x w h
  have hrl := rnk_le l x
  by_cases hs : has l x = true
  · have et : dropL l x = l.take (rnk l x) ++ l.drop (rnk l x + 1) := by rw [dropL, if_pos hs]
    have hris := ris_drop h.rs x
    have hlen := drop_len l x
    rw [et] at hris hlen ⊢
    rw [hs] at hb ⊢
    have hat := (has_at h.rs x).symm
    rw [hs] at hat
    simp only [Bool.and_eq_true, decide_eq_true_eq] at hat
    obtain ⟨hlt, hx1, hx2⟩ := hat
    clear hx1 hx2
    obtain ⟨A, c, rfl⟩ := h.shape
    obtain ⟨r, hr⟩ : ∃ r, rnk l x = r := ⟨_, rfl⟩
    simp only [hr] at hlt hb hris hlen ⊢
    obtain ⟨m, hm⟩ : ∃ m, l.length = m + 1 := ⟨l.length - 1, by omega⟩
    have HD : Hid (∀ w3 : World, Only none_ w w3 → w3.cell? ⟨g, 1, none⟩ = some (.slice A (m + 1) c) ∧ Calls Try.prog 55 #[.slice A (m + 1) c, .int .i64 r, .int .i64 ((r : Int) + 1)] w3
        fun e w' => e = .returned (.slice A m c) ∧ w'.cell? ⟨g, 1, none⟩ = some (.slice A (m + 1) c) ∧ w'.frozen? ⟨g, 1, none⟩ = false ∧ LeftT B g room (.slice A (m + 1) c) w (l.take r ++ l.drop (r + 1)) (w'.setCell ⟨g, 1, none⟩ (.slice A m c))) := by
      intro w3 o3
      have h3 := (h.keep o3)
      have hml := h.ml
      rw [hm] at h3 hml
      have own3 := h3.ow
      rw [hm] at own3
      obtain ⟨b, cur, rfl, hrw, hnc, htk⟩ := own_rw own3 (by omega)
      refine ⟨h3.bk.cell_ (i := 1) rfl, ?_⟩
      refine (delI B.heap.size b m c r cur _ w3 hrw htk (by omega) hnc (by omega) (prI_one l)).mono ?_
      rintro e w5 ⟨rfl, own5, o5⟩
      have hgb : g ≠ b := Blk.ne_ h3.bk (show Blk w3 b 78 _ from hrw.bk) (by decide)
      have b5 := h3.bk.only o5 (fun e => hgb e)
      have hnew : (l.take r ++ l.drop (r + 1)).length = m := by simp; omega
      have hflat : (l.take r ++ l.drop (r + 1)).flatMap prI = (l.flatMap prI).take (r * 2) ++ (l.flatMap prI).drop ((r + 1) * 2) := by
        rw [List.flatMap_append, flat_take prI prI_len l r (by omega), flat_drop prI prI_len l (r + 1) (by omega)]
      have o6 : Only (one g) w5 (w5.setCell ⟨g, 1, none⟩ (.slice (some ⟨b, 0, none⟩) m c)) := (Only.refl (one g) w5).setCell (.inl (show one g g from rfl)) _
      have hlr := h3.lr
      refine ⟨rfl, b5.cell_ (i := 1) rfl, b5.frozen 1, .slice (some ⟨b, 0, none⟩) m c, ⟨b5.set_ 1 _, ?_, ?_, h3.ge, hris, by rw [hnew]; omega, h3.rm⟩, ?_, fun k hk => .inl hk⟩
      · rw [hflat, hnew]
        exact owns_only own5 o6 (fun k hk e => hgb (by have e1 : some b = some k := hk; injection e1 with e1; have e2 : k = g := e; omega))
      · exact (h3.ho.trans' o5 (fun k hk e => by have e' : k = b := e; have := hrw.ge; omega)).trans' o6 (fun k hk e => by have e' : k = g := e; have := h3.ge; omega)
      · exact (o3.of_none.trans' o5 (fun k _ e => .inr (by have e' : k = b := e; rw [e']; rfl))).trans' o6 (fun k _ e => .inl e)
    have hw1 : IntKind.i64.wrap ((r : Int) + 1) = (r : Int) + 1 := IntWalk.i64_in _ (by have := h.ml; omega)
    rw [hm]
    have HB := Lib.hid hb
    clear h hb hs et hrl hris hlen hr hlt hm
    go_enter Try.func31, Try.ntmps31
    go_wp2_with (first
      | (go_at_call 49; refine HB.out.mono ?_; rintro e w1 ⟨rfl, o1⟩
         obtain ⟨k1, hD⟩ := HD.out _ o1
         have HDD := Lib.hid hD
         clear hD o1)
      | (go_at_call 55; refine HDD.out.mono ?_; rintro e w5 ⟨rfl, hk5, hf5, hL⟩
         have HLL := Lib.hid hL
         clear hL))
    go_ret
    exact ⟨rfl, HLL.out⟩
  · have hs' : has l x = false := by simpa using hs
    have et : dropL l x = l := by rw [dropL, if_neg hs]
    rw [et]
    rw [hs'] at hb ⊢
    have H := Lib.hid h
    generalize rnk l x = r at hb
    have HB := Lib.hid hb
    clear h hb hs et hrl hs'
    go_enter Try.func31, Try.ntmps31
    go_wp2_with (first
      | (go_at_call 49; refine HB.out.mono ?_; rintro e w1 ⟨rfl, o1⟩
         have O1 := Lib.hid o1
         clear o1))
    go_ret
    exact ⟨rfl, LeftT.after0 O1.out (LeftT.same (H.out.keep O1.out))⟩
end Go.Proofs.Ytdmopjnmfjmhkaa
