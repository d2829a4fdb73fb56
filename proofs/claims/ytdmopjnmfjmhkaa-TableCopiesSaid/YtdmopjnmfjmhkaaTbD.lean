/- A table in memory; what its calls that only read do, and New. No statement of the seat is proved here. -/
import Derived.Test.YtdmopjnmfjmhkaaTbC
import Derived.Test.YtdmopjnmfjmhkaaOctW
import Derived.BigQuiet
import Derived.Test.YtdmopjnmfjmhkaaStd
namespace Go.Proofs.Ytdmopjnmfjmhkaa
open Go.RowKit
set_option maxRecDepth 100000
set_option linter.all false

/-- A table in block g, behind world B, v the value of its pairs; all that was there in B is as it was. -/
structure Tb (B : World) (g : Nat) (room : Int) (l : List (Pr Int)) (v : Value) (w : World) : Prop where
  bk : Blk w g 80 #[.int .i64 room, v]
  ow : w.ownsRow B.heap.size 78 2 v l.length (l.flatMap prI)
  ho : Only none_ B w
  ge : B.heap.size ≤ g
  rs : Ris l
  lr : (l.length : Int) ≤ room
  rm : room ≤ 4096
section
variable {B w w' : World} {g h : Nat} {room : Int} {l l' : List (Pr Int)} {v v' : Value} {t : TypeId} {cs : Array Value}
theorem Tb.ml (s : Tb B g room l v w) : l.length ≤ 4096 := by have h1 := s.lr; have h2 := s.rm; omega
theorem Tb.foot_ge (s : Tb B g room l v w) {k : Nat} (hf : foot g v k) : B.heap.size ≤ k ∧ k < w.heap.size := by
  rcases hf with rfl | hf
  · exact ⟨s.ge, s.bk.lt⟩
  · exact s.ow.lt k hf
theorem Tb.keep (s : Tb B g room l v w) (o : Only none_ w w') : Tb B g room l v w' :=
  ⟨s.bk.only o (fun h => h), owns_only s.ow o (fun _ _ h => h), s.ho.trans o, s.ge, s.rs, s.lr, s.rm⟩
theorem Tb.apart {S : Nat → Prop} (s : Tb B g room l v w) (o : Only S w w') (hn : ∀ k, foot g v k → ¬ S k) (hS : ∀ k, S k → B.heap.size ≤ k) : Tb B g room l v w' :=
  ⟨s.bk.only o (hn g (.inl rfl)), owns_only s.ow o (fun k hk => hn k (.inr hk)), s.ho.trans' o (fun k hk hs => by have := hS k hs; omega), s.ge, s.rs, s.lr, s.rm⟩
theorem Tb.shape (s : Tb B g room l v w) : ∃ A c, v = .slice A l.length c := by
  rcases s.ow.2 with ⟨rfl, h0⟩ | ⟨_, _, _, rfl, _⟩
  · exact ⟨none, 0, by rw [h0]⟩
  · exact ⟨_, _, rfl⟩
theorem Tb.cel (s : Tb B g room l v w) : Cel w (ownb v) v l.length 2 (l.flatMap prI) := Cel.of_own s.ow
theorem Tb.drewN (s : Tb B g room l v w) (n : Nat) : Tb B g room l v (w.drewN n) := s.keep ((Only.refl none_ w).drewN n)
theorem Tb.drew (s : Tb B g room l v w) : Tb B g room l v w.drew := s.keep ((Only.refl none_ w).drew)
end
theorem flat_take {α : Type} {k : Nat} (f : α → List Value) (hk : ∀ x, (f x).length = k) : ∀ (l : List α) (n : Nat), n ≤ l.length → (l.flatMap f).take (n * k) = (l.take n).flatMap f
  | _, 0, _ => by simp
  | [], n + 1, h => by simp at h
  | x :: l, n + 1, h => by
    have e : (n + 1) * k = k + n * k := by rw [Nat.succ_mul, Nat.add_comm]
    rw [List.flatMap_cons, List.take_succ_cons, List.flatMap_cons, e, List.take_append, hk, Nat.add_sub_cancel_left, List.take_of_length_le (by rw [hk]; omega), flat_take f hk l n (by simpa using h)]
theorem flat_drop {α : Type} {k : Nat} (f : α → List Value) (hk : ∀ x, (f x).length = k) : ∀ (l : List α) (n : Nat), n ≤ l.length → (l.flatMap f).drop (n * k) = (l.drop n).flatMap f
  | _, 0, _ => by simp
  | [], n + 1, h => by simp at h
  | x :: l, n + 1, h => by
    have e : (n + 1) * k = k + n * k := by rw [Nat.succ_mul, Nat.add_comm]
    rw [List.flatMap_cons, List.drop_succ_cons, e, ← List.drop_drop, List.drop_left' (hk x), flat_drop f hk l n (by simpa using h)]

set_option maxHeartbeats 800000 in
theorem tb_len (B : World) (g : Nat) (room : Int) (l : List (Pr Int)) (v : Value) (w : World) (h : Tb B g room l v w) :
    Calls Try.prog 33 #[.pointer (some ⟨g, 0, none⟩)] w fun e w' => e = .returned (.int .i64 l.length) ∧ w = w' := by
  obtain ⟨A, c, rfl⟩ := h.shape
  have c1 := h.bk.cell_ (i := 1) rfl
  generalize l.length = n at c1 ⊢
  clear h
  go_enter Try.func33, Try.ntmps33
  go_wp2
  go_ret
  exact ⟨rfl, rfl⟩
theorem tb_room (B : World) (g : Nat) (room : Int) (l : List (Pr Int)) (v : Value) (w : World) (h : Tb B g room l v w) :
    Calls Try.prog 34 #[.pointer (some ⟨g, 0, none⟩)] w fun e w' => e = .returned (.int .i64 room) ∧ w = w' := by
  have c0 := h.bk.cell_ (i := 0) rfl
  clear h
  go_enter Try.func34, Try.ntmps34
  go_wp2
  go_ret
  exact ⟨rfl, rfl⟩
set_option maxHeartbeats 1600000 in
theorem tb_place (B : World) (g : Nat) (room : Int) (l : List (Pr Int)) (v : Value) (x : ByteArray) (w : World) (h : Tb B g room l v w) :
    Calls Try.prog 49 #[.pointer (some ⟨g, 0, none⟩), .string x] w fun e w' => e = .returned (.tuple #[.int .i64 (rnk l x : Nat), .bool (has l x)]) ∧ Only none_ w w' := by
  obtain ⟨A, c, rfl⟩ := h.shape
  have c1 := h.bk.cell_ (i := 1) rfl
  have hb := bsI A c _ l x w h.cel h.rs h.ml
  generalize rnk l x = r at hb ⊢
  generalize has l x = hs at hb ⊢
  generalize l.length = n at c1 hb
  have HB := Lib.hid hb
  clear h hb
  go_enter Try.func49, Try.ntmps49
  go_wp2_with (first
    | (go_at_call 71; refine HB.out.mono ?_; rintro e w1 ⟨rfl, o1⟩))
  go_ret2
  exact ⟨rfl, o1⟩
set_option maxHeartbeats 1600000 in
theorem tb_rank (B : World) (g : Nat) (room : Int) (l : List (Pr Int)) (v : Value) (x : ByteArray) (w : World) (h : Tb B g room l v w) :
    Calls Try.prog 51 #[.pointer (some ⟨g, 0, none⟩), .string x] w fun e w' => e = .returned (.int .i64 (rnk l x : Nat)) ∧ Only none_ w w' := by
  have hb := tb_place B g room l v x w h
  generalize rnk l x = r at hb ⊢
  generalize has l x = hs at hb
  have HB := Lib.hid hb
  clear h hb
  go_enter Try.func51, Try.ntmps51
  go_wp2_with (first
    | (go_at_call 49; refine HB.out.mono ?_; rintro e w1 ⟨rfl, o1⟩))
  go_ret
  exact ⟨rfl, o1⟩
/-- What a key has; the zero value, if it isn't there. -/
def getL (l : List (Pr Int)) (x : ByteArray) : Int := if has l x then (l[rnk l x]?.map (·.v)).getD 0 else 0
/-- What a scan tells. -/
def scanL (l : List (Pr Int)) (x : ByteArray) (n : Int) : List (Pr Int) := (l.drop (rnk l x)).take n.toNat
theorem scan_len (l : List (Pr Int)) (x : ByteArray) (n : Int) : (scanL l x n).length = min n.toNat (l.length - rnk l x) := by simp [scanL]
theorem Cel.sub {w : World} {S : Nat → Prop} {k : Nat} {A A' : Option Addr} {n n' c c' p : Nat} {cs : List Value} (h : Cel w S (.slice A n c) n k cs) (hp : p + n' ≤ n) (hA : 0 < n' → ∀ b off, A = some ⟨b, off, none⟩ → A' = some ⟨b, off + p * k, none⟩) (hn : n' ≤ c') (hc : c' ≤ c) (hA0 : A' = none → c' = 0) :
    Cel w S (.slice A' n' c') n' k ((cs.drop (p * k)).take (n' * k)) := by
  obtain ⟨A0, c0, e, h0, h1, h2, h3, h4⟩ := h
  injection e with e1 e2 e3
  subst e1 e3
  have hm : p * k + n' * k ≤ n * k := by rw [← Nat.add_mul]; exact Nat.mul_le_mul_right k hp
  refine ⟨A', c', rfl, by rw [List.length_take, List.length_drop, h0]; omega, hn, Nat.le_trans hc h2, hA0, fun hp' => ?_⟩
  obtain ⟨b, off, rfl, hs, hlt, hcell⟩ := h4 (by omega)
  refine ⟨b, off + p * k, hA hp' b off rfl, hs, hlt, fun j u hu => ?_⟩
  rw [List.getElem?_take] at hu
  split at hu
  · rw [List.getElem?_drop] at hu
    rw [Nat.add_assoc]
    exact hcell _ u hu
  · cases hu

set_option maxHeartbeats 3200000 in
theorem tb_scan (B : World) (g : Nat) (room : Int) (l : List (Pr Int)) (v : Value) (x : ByteArray) (n : Int) (w : World) (h : Tb B g room l v w) :
    Calls Try.prog 28 #[.pointer (some ⟨g, 0, none⟩), .string x, .int .i64 n] w fun e w' => ∃ v', e = .returned v' ∧ w'.ownsRow w.heap.size 78 2 v' (scanL l x n).length ((scanL l x n).flatMap prI) ∧ Only none_ w w' := by
  obtain ⟨i0, hi0, hz0, hz1, hz2⟩ := info_parts pairI_info
  have hml := h.ml
  have hrl := rnk_le l x
  have hsl := scan_len l x n
  obtain ⟨A, c, rfl⟩ := h.shape
  have HRK := Lib.hid (fun (w' : World) (o : Only none_ w w') => tb_rank B g room l _ x w' (h.keep o))
  have HK := Lib.hid (fun (w' : World) (o : Only none_ w w') => (h.keep o).bk.cell_ (i := 1) rfl)
  have hnc : l.length ≤ c := by obtain ⟨A', c', e, _, h1, _⟩ := h.cel; injection e with _ _ e3; rw [e3]; exact h1
  obtain ⟨r, hr⟩ : ∃ r, rnk l x = r := ⟨_, rfl⟩
  obtain ⟨m, hm⟩ : ∃ m, (scanL l x n).length = m := ⟨_, rfl⟩
  rw [hr] at hrl hsl
  rw [hm] at hsl ⊢
  -- the parts of the pairs
  have hcel : ∃ A1, (∀ w', (Instr.sliceAt 75 (.slice A l.length c) (some (.int .i64 (r : Int))) none none).run Try.prog w' = .ok (.slice A1 (l.length - r) (c - r)) w') ∧
      (∀ w', (Instr.sliceAt 75 (.slice A1 (l.length - r) (c - r)) none (some (.int .i64 (m : Int))) none).run Try.prog w' = .ok (.slice A1 m (c - r)) w') ∧
      Cel w (ownb (.slice A l.length c)) (.slice A1 m (c - r)) m 2 ((scanL l x n).flatMap prI) := by
    have hfl : (scanL l x n).flatMap prI = ((l.flatMap prI).drop (r * 2)).take (m * 2) := by
      rw [flat_drop prI prI_len l r hrl, flat_take prI prI_len _ m (by rw [List.length_drop]; omega), scanL, hr]
      congr 1
      rw [hsl, List.take_eq_take_iff, List.length_drop]
      omega
    have hC := h.cel
    cases A with
    | none =>
      have hc0 : c = 0 := by obtain ⟨A', c', e, _, _, _, h3, _⟩ := hC; injection e with e1 _ e3; rw [e3]; exact h3 e1.symm
      have hr0 : r = 0 := by omega
      have hm0 : m = 0 := by omega
      have hl0 : l.length = 0 := by omega
      refine ⟨none, fun w' => ?_, fun w' => ?_, ?_⟩
      · rw [hr0, hl0, hc0]
        simp [Instr.sliceAt, Instr.slice, run_underlying Try.underlying75, Instr.sliceBounds, run_sliceBound, sizeOf, typeInfo, hi0]
      · rw [hr0, hl0, hc0, hm0]
        simp [Instr.sliceAt, Instr.slice, run_underlying Try.underlying75, Instr.sliceBounds, run_sliceBound, sizeOf, typeInfo, hi0]
      · rw [hfl]
        exact hC.sub (p := r) (by omega) (fun h0 => by omega) (by omega) (by omega) (fun _ => by omega)
    | some a =>
      obtain ⟨b0, hb0⟩ : ∃ b0, a = ⟨b0, 0, none⟩ := by
        rcases h.ow.2 with ⟨e, _⟩ | ⟨g', cap, cur, e, _⟩
        · injection e with e1; cases e1
        · injection e with e1; injection e1 with e1; exact ⟨g', e1⟩
      subst hb0
      by_cases hrc : r < c
      · refine ⟨_, sl_lo0 Try.underlying75 hi0 hz1 b0 l.length c r hrl hrc (r : Int) rfl, sl_hi Try.underlying75 hi0 b0 (r * 2) (l.length - r) (c - r) m (by omega) (m : Int) rfl, ?_⟩
        rw [hfl]
        exact hC.sub (p := r) (by omega) (fun _ b off e => by injection e with e; injection e with e1 e2; subst e1 e2; rw [Nat.zero_add]) (by omega) (by omega) (fun e => by cases e)
      · refine ⟨_, sl_lo_end Try.underlying75 hi0 b0 0 l.length c r hrl (by omega) (r : Int) rfl, sl_hi Try.underlying75 hi0 b0 0 (l.length - r) (c - r) m (by omega) (m : Int) rfl, ?_⟩
        rw [hfl]
        exact hC.sub (p := r) (by omega) (fun h0 => by omega) (by omega) (by omega) (fun e => by cases e)
  obtain ⟨A1, hs1, hs2, hcl⟩ := hcel
  have HCL := Lib.hid (fun (w' : World) (o : Only none_ w w') => cloI A1 m (c - r) _ _ w' (hcl.only o (fun _ _ h => h)) (by omega) (prI_one _))
  rw [hr] at HRK
  have hmn : ∀ ts t w, (Builtin.min_ ts t #[.int .i64 n, .int .i64 ((l.length - r : Nat) : Int)]).run Try.prog w = .ok (.int .i64 (min n ((l.length - r : Nat) : Int))) w := fun ts t w => by
    rw [run_min_int2]
    by_cases hk : ((l.length - r : Nat) : Int) < n
    · rw [if_pos hk, Int.min_eq_right (by omega)]
    · rw [if_neg hk, Int.min_eq_left (by omega)]
  have hmx : ∀ ts t w, (Builtin.max_ ts t #[.int .i64 0, .int .i64 (min n ((l.length - r : Nat) : Int))]).run Try.prog w = .ok (.int .i64 (m : Int)) w := fun ts t w => by
    rw [run_max_int2]
    by_cases hk : 0 < min n ((l.length - r : Nat) : Int)
    · simp only [hk, if_true]; congr 2; omega
    · simp only [hk, if_false]; congr 2; omega
  obtain ⟨n1, hn1⟩ : ∃ n1, l.length - r = n1 := ⟨_, rfl⟩
  rw [hn1] at hs1 hs2 hmn hmx
  generalize min n (n1 : Int) = q at hmn hmx
  obtain ⟨ll, hll⟩ : ∃ ll, l.length = ll := ⟨_, rfl⟩
  rw [hll] at hs1 HK
  clear h hml hrl hsl hr hm hcl hnc hn1 hll
  go_enter Try.func28, Try.ntmps28
  go_wp2_with fail
  (refine wp_region_steady (fun w' => Only none_ w w') 8 (by kernel_rfl) (by kernel_rfl) ((Only.refl none_ w).drew) ?_; simp only [List.take_succ_cons, List.take_zero, List.drop_succ_cons, List.drop_zero])
  repeat (first
    | (refine sd_value (v := ?_) (by rfl) (fun w0 hS => ?_) ?_; rotate_left; (· (have hc := HK.out _ hS; go_simp; try (with_reducible rfl))); try simp only [Act.put, List.setIfInBounds_toArray, List.set_cons_zero, List.set_cons_succ])
    | (refine sd_call (v := ?_) (f := 51) (args := ?_) (by rfl) (fun w0 hS => ?_) (fun w0 hS => ?_) ?_; rotate_left 2; (· (have hc := HK.out _ hS; go_simp; try (with_reducible rfl))); (· (refine (HRK.out _ hS).mono ?_; rintro E w9 ⟨rfl, o9⟩; refine ⟨?_, hS.trans o9⟩; rfl)); try simp only [Act.put, List.setIfInBounds_toArray, List.set_cons_zero, List.set_cons_succ]))
  refine sd_nil ?_
  intro w3 t3
  have T3 := Lib.hid t3
  clear t3
  go_wp2_with (first
    | (go_at_call 52; refine (HCL.out _ T3.out).mono ?_; rintro E w4 ⟨v4, rfl, own4, o4⟩
       have F4 : Hid (w4.ownsRow w.heap.size 78 2 v4 m ((scanL l x n).flatMap prI) ∧ Only none_ w w4) := ⟨owns_base own4 T3.out.size, T3.out.trans o4⟩
       clear own4 o4))
  go_ret
  exact ⟨_, rfl, F4.out.1, F4.out.2⟩
end Go.Proofs.Ytdmopjnmfjmhkaa
