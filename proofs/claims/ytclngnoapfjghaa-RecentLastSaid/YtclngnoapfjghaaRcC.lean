/- An index in memory: how it lies; the place behind all marks that aren't earlier than one (sort.Search over a closure). No statement of the seat is proved here. -/
import Derived.Test.YtclngnoapfjghaaRcB
import Derived.Test.YtclngnoapfjghaaRcP
import Derived.Test.YtclngnoapfjghaaRcS
import Derived.Test.YtclngnoapfjghaaOpn
namespace Go.Proofs.Ytclngnoapfjghaa
open Go.RowKit
set_option maxRecDepth 100000
set_option linter.all false

theorem flat_take {α : Type} {k : Nat} (f : α → List Value) (hk : ∀ x, (f x).length = k) : ∀ (l : List α) (n : Nat), n ≤ l.length → (l.flatMap f).take (n * k) = (l.take n).flatMap f
  | _, 0, _ => by simp
  | [], n + 1, h => by simp at h
  | x :: l, n + 1, h => by
    have e : (n + 1) * k = k + n * k := by rw [Nat.succ_mul, Nat.add_comm]
    rw [List.flatMap_cons, List.take_succ_cons, List.flatMap_cons, e, List.take_append, hk, Nat.add_sub_cancel_left, List.take_of_length_le (by rw [hk]; omega), flat_take f hk l n (by simpa using h)]
theorem flat_drop {α : Type} {k : Nat} (f : α → List Value) (hk : ∀ x, (f x).length = k) : ∀ (l : List α) (n : Nat), n ≤ l.length → (l.flatMap f).drop (n * k) = (l.drop n).flatMap f
  | _, 0, _ => by simp
  | [], n + 1, h => by simp at h
  | x :: l, n + 1, h => by
    have e : (n + 1) * k = k + n * k := by rw [Nat.succ_mul, Nat.add_comm]
    rw [List.flatMap_cons, List.drop_succ_cons, e, ← List.drop_drop, List.drop_left' (hk x), flat_drop f hk l n (by simpa using h)]
theorem Cel.sub {w : World} {S : Nat → Prop} {k : Nat} {A A' : Option Addr} {n n' c c' p : Nat} {cs : List Value} (h : Cel w S (.slice A n c) n k cs) (hp : p + n' ≤ n) (hA : 0 < n' → ∀ b off, A = some ⟨b, off, none⟩ → A' = some ⟨b, off + p * k, none⟩) (hn : n' ≤ c') (hc : c' ≤ c) (hA0 : A' = none → c' = 0) :
    Cel w S (.slice A' n' c') n' k ((cs.drop (p * k)).take (n' * k)) := by
  obtain ⟨A0, c0, e, h0, h1, h2, h3, h4⟩ := h
  injection e with e1 e2 e3
  subst e1 e3
  have hm : p * k + n' * k ≤ n * k := by rw [← Nat.add_mul]; exact Nat.mul_le_mul_right k hp
  refine ⟨A', c', rfl, by rw [List.length_take, List.length_drop, h0]; omega, hn, Nat.le_trans hc h2, hA0, fun hp' => ?_⟩
  obtain ⟨b, off, rfl, hs, hlt, hcell⟩ := h4 (by omega)
  refine ⟨b, off + p * k, hA hp' b off rfl, hs, hlt, fun j u hu => ?_⟩
  rw [List.getElem?_take] at hu
  split at hu
  · rw [List.getElem?_drop] at hu
    rw [Nat.add_assoc]
    exact hcell _ u hu
  · cases hu

theorem mkI_one (l : List Mk) : ∀ u ∈ l.flatMap mkI, u.oneCell' = true := by
  intro u hu
  obtain ⟨p, _, hp⟩ := List.mem_flatMap.1 hu
  simp only [mkI, List.mem_cons, List.not_mem_nil, or_false] at hp
  rcases hp with rfl | rfl | rfl <;> rfl
theorem mk_cell {w : World} {S : Nat → Prop} {A : Option Addr} {n c : Nat} {l : List Mk} (h : Cel w S (.slice A n c) n 3 (l.flatMap mkI)) (i : Nat) (hi : i < l.length) (hn : n = l.length) :
    ∃ b off, A = some ⟨b, off, none⟩ ∧ S b ∧ b < w.heap.size ∧ w.cell? ⟨b, off + i * 3, none⟩ = some (.int .i64 l[i].a.c) ∧ w.cell? ⟨b, off + i * 3 + 1, none⟩ = some (.int .i64 l[i].a.s) ∧ w.cell? ⟨b, off + i * 3 + 2, none⟩ = some (.string l[i].k) := by
  obtain ⟨A', c', e, h0, h1, h2, h3, h4⟩ := h
  injection e with e1 e2 e3
  subst e1 e3
  obtain ⟨b, off, rfl, hs, hlt, hc⟩ := h4 (by omega)
  have f := fun j (hj : j < 3) => flat_at mkI mkI_len l i l[i] (List.getElem?_eq_getElem hi) j hj
  refine ⟨b, off, rfl, hs, hlt, hc _ _ ?_, ?_, ?_⟩
  · have := f 0 (by decide); rw [Nat.add_zero] at this; rw [this]; rfl
  · rw [Nat.add_assoc]; refine hc _ _ ?_; rw [f 1 (by decide)]; rfl
  · rw [Nat.add_assoc]; refine hc _ _ ?_; rw [f 2 (by decide)]; rfl

/-- The blocks of an index. -/
def Ft (g mb : Nat) (v : Value) : Nat → Prop := fun k => k = g ∨ k = mb ∨ ownb v k
/-- An index in block g, its map in block mb, v the value of its marks (l), q those that the map knows; all of it lies from N on. -/
structure Rc (N g mb : Nat) (l q : List Mk) (v : Value) (w : World) : Prop where
  bk : Blk w g 90 #[.map (some mb), v]
  ow : w.ownsRow N 39 3 v l.length (l.flatMap mkI)
  mp : Mp w mb q
  gn : N ≤ g
  mn : N ≤ mb
  ix : Ixl l
  ml : l.length ≤ 100
section
variable {N g mb : Nat} {w w' : World} {l l' q : List Mk} {v v' : Value} {t : TypeId} {cs : Array Value}
theorem Rc.sz (s : Rc N g mb l q v w) : N ≤ w.heap.size := by have := s.gn; have := s.bk.lt; omega
theorem Rc.foot (s : Rc N g mb l q v w) {k : Nat} (hf : Ft g mb v k) : N ≤ k ∧ k < w.heap.size := by
  rcases hf with rfl | rfl | hf
  · exact ⟨s.gn, s.bk.lt⟩
  · exact ⟨s.mn, s.mp.lt⟩
  · exact s.ow.lt k hf
theorem Rc.far {S : Nat → Prop} (s : Rc N g mb l q v w) (o : Only S w w') (hn : ∀ k, Ft g mb v k → ¬ S k) : Rc N g mb l q v w' :=
  ⟨s.bk.only o (hn g (.inl rfl)), owns_only s.ow o (fun k hk => hn k (.inr (.inr hk))), s.mp.only o (hn mb (.inr (.inl rfl))), s.gn, s.mn, s.ix, s.ml⟩
theorem Rc.keep (s : Rc N g mb l q v w) (o : Only none_ w w') : Rc N g mb l q v w' := s.far o (fun _ _ h => h)
theorem Rc.shape (s : Rc N g mb l q v w) : ∃ A c, v = .slice A l.length c := by
  rcases s.ow.2 with ⟨rfl, h0⟩ | ⟨_, _, _, rfl, _⟩
  · exact ⟨none, 0, by rw [h0]⟩
  · exact ⟨_, _, rfl⟩
theorem Rc.cel (s : Rc N g mb l q v w) : Cel w (ownb v) v l.length 3 (l.flatMap mkI) := Cel.of_own s.ow
end

theorem ent {P : Program} {f : FuncId} {fn : Func} {c : Code} (hf : P.funcs[f]? = some fn) (hname : (fn.name == "runtime.NumGoroutine") = false) (hb : fn.body = some c) (args : Array Value) (w : World) :
    (callFunc f args).run P w = .ok (.enter f args) w := by
  have h1 : fn.name ≠ "runtime.NumGoroutine" := by simpa using hname
  simp [callFunc, hf, h1, hb]

/-- What the closure has captured: the index, and the mark. -/
structure Cp (w : World) (b2 b3 g : Nat) (m : Mk) : Prop where
  p : Blk w b2 25 #[.pointer (some ⟨g, 0, none⟩)]
  q : Blk w b3 39 #[.int .i64 m.a.c, .int .i64 m.a.s, .string m.k]
theorem Cp.keep {w w' : World} {b2 b3 g : Nat} {m : Mk} (h : Cp w b2 b3 g m) (o : Only none_ w w') : Cp w' b2 b3 g m := ⟨h.p.only o (fun h => h), h.q.only o (fun h => h)⟩

set_option maxHeartbeats 3200000 in
theorem beh_clo (N g mb b2 b3 : Nat) (l q : List Mk) (v : Value) (m : Mk) (w : World) (h : Rc N g mb l q v w) (hc : Cp w b2 b3 g m) (i : Nat) (hi : i < l.length) :
    Calls Try.prog 71 #[.int .i64 i, .pointer (some ⟨b2, 0, none⟩), .pointer (some ⟨b3, 0, none⟩)] w fun e w' => e = .returned (.bool (decide (bh l m ≤ i))) ∧ Only none_ w w' := by
  rw [← bh_at h.ix.ds m i hi, ← mkCmp_neg]
  obtain ⟨A, c, rfl⟩ := h.shape
  have hcmp := rc_compare l[i] m
  have HK : Hid (∀ w', Only none_ w w' → ∃ b off, A = some ⟨b, off, none⟩ ∧ w'.cell? ⟨b, off + i * 3, none⟩ = some (.int .i64 l[i].a.c) ∧ w'.cell? ⟨b, off + i * 3 + 1, none⟩ = some (.int .i64 l[i].a.s) ∧ w'.cell? ⟨b, off + i * 3 + 2, none⟩ = some (.string l[i].k) ∧
      w'.cell? ⟨g, 1, none⟩ = some (.slice A l.length c)) := fun w' o => by
    obtain ⟨b, off, hA, _, _, h0, h1, h2⟩ := mk_cell (h.keep o).cel i hi rfl
    exact ⟨b, off, hA, h0, h1, h2, (h.keep o).bk.cell_ (i := 1) rfl⟩
  obtain ⟨b, off, rfl, _⟩ := HK.out w (Only.refl _ _)
  have HP := Lib.hid (fun (w' : World) (o : Only none_ w w') => (hc.keep o).p.cell_ (i := 0) rfl)
  have HQ := Lib.hid (fun (w' : World) (o : Only none_ w w') => And.intro ((hc.keep o).q.cell_ (i := 0) rfl) (And.intro ((hc.keep o).q.cell_ (i := 1) rfl) ((hc.keep o).q.cell_ (i := 2) rfl)))
  have hii : (i : Int) < (l.length : Int) := by omega
  have hl64 := h.ml
  generalize mkCmp l[i] m = z at hcmp ⊢
  obtain ⟨⟨yc, ys⟩, yk⟩ := m
  obtain ⟨p, hp⟩ : ∃ p, l[i] = p := ⟨_, rfl⟩
  rw [hp] at HK hcmp
  obtain ⟨⟨xc, xs⟩, xk⟩ := p
  simp only [] at HK HQ hcmp
  have HC := Lib.hid hcmp
  clear h hc hcmp hp
  obtain ⟨n, hn⟩ : ∃ n, l.length = n := ⟨_, rfl⟩
  rw [hn] at HK hi hii hl64
  clear hn
  have HKK : Hid (∀ w', Only none_ w w' → w'.cell? ⟨b, off + i * 3, none⟩ = some (.int .i64 xc) ∧ w'.cell? ⟨b, off + i * 3 + 1, none⟩ = some (.int .i64 xs) ∧ w'.cell? ⟨b, off + i * 3 + 2, none⟩ = some (.string xk) ∧
      w'.cell? ⟨g, 1, none⟩ = some (.slice (some ⟨b, off, none⟩) n c)) := fun w' o => by
    obtain ⟨b', off', e, h0, h1, h2, h3⟩ := HK.out w' o
    injection e with e; injection e with e1 e2; subst e1 e2
    exact ⟨h0, h1, h2, h3⟩
  clear HK
  go_enter Try.func71, Try.ntmps71
  go_wp2_with fail
  (refine wp_region_steady (fun w' => Only none_ w w') 11 (by kernel_rfl) (by kernel_rfl) ((Only.refl none_ w).drew) ?_; simp only [List.take_succ_cons, List.take_zero, List.drop_succ_cons, List.drop_zero])
  repeat (first
    | (refine sd_value (v := ?_) (by rfl) (fun w0 hS => ?_) ?_; rotate_left; (· (have hp0 := HP.out _ hS; have hq0 := (HQ.out _ hS).1; have hq1 := (HQ.out _ hS).2.1; have hq2 := (HQ.out _ hS).2.2; have k0 := (HKK.out _ hS).1; have k1 := (HKK.out _ hS).2.1; have k2 := (HKK.out _ hS).2.2.1; have k3 := (HKK.out _ hS).2.2.2; go_simp; try (with_reducible rfl))); try simp only [Act.put, List.setIfInBounds_toArray, List.set_cons_zero, List.set_cons_succ])
    | (refine sd_call (v := ?_) (f := 26) (args := ?_) (by rfl) (fun w0 hS => ?_) (fun w0 hS => ?_) ?_; rotate_left 2; (· (skip; go_simp; try (with_reducible rfl))); (· (refine (HC.out _).mono ?_; rintro E w9 ⟨rfl, o9⟩; refine ⟨?_, hS.trans o9⟩; rfl)); try simp only [Act.put, List.setIfInBounds_toArray, List.set_cons_zero, List.set_cons_succ]))
  refine sd_nil ?_
  intro w3 t3
  have T3 := Lib.hid t3
  clear t3
  go_wp2_with fail
  go_ret
  exact ⟨rfl, T3.out⟩

set_option maxHeartbeats 3200000 in
theorem srch (n r b2 b3 : Nat) (w : World) (hr : r ≤ n) (hn : n ≤ 100)
    (hcl : ∀ i : Nat, i < n → ∀ w', Only none_ w w' → Calls Try.prog 71 #[.int .i64 i, .pointer (some ⟨b2, 0, none⟩), .pointer (some ⟨b3, 0, none⟩)] w' fun e w'' => e = .returned (.bool (decide (r ≤ i))) ∧ Only none_ w' w'') :
    Calls Try.prog 70 #[.int .i64 n, .func (.func 71) #[] #[.pointer (some ⟨b2, 0, none⟩), .pointer (some ⟨b3, 0, none⟩)]] w fun e w' => e = .returned (.int .i64 r) ∧ Only none_ w w' := by
  have HC := Lib.hid hcl
  have hrun : ∀ (args : Array Value) (w1 : World), (callFunc 71 args).run Try.prog w1 = .ok (.enter 71 args) w1 := fun args w1 => ent Try.func71 rfl rfl args w1
  clear hcl
  go_enter Try.func70, Try.ntmps70
  go_wp2_with fail
  go_loopw [5, 6] (fun s5 s6 wr => ∃ lo hi : Nat, s5 = .int .i64 lo ∧ s6 = .int .i64 hi ∧ lo ≤ r ∧ r ≤ hi ∧ hi ≤ n ∧ Only none_ w wr) (fun s5 s6 _ => (intOf s6).toNat - (intOf s5).toNat)
  case atStart => exact ⟨0, n, rfl, rfl, Nat.zero_le _, hr, Nat.le_refl _, Only.refl _ _⟩
  case round =>
    obtain ⟨lo, hi, rfl, rfl, h1, h2, h3, o⟩ := hrel
    have O := Lib.hid o
    by_cases hlt : lo < hi
    · obtain ⟨q, hq⟩ : ∃ q, (lo + hi) / 2 = q := ⟨_, rfl⟩
      have hq1 : lo ≤ q ∧ q < hi := by omega
      have hqi : ((lo : Int) + (hi : Int)) / 2 = (q : Int) := by omega
      have hcl := HC.out q (by omega) wr o
      clear o hq
      by_cases hz : r ≤ q
      · rw [show decide (r ≤ q) = true from by simpa using hz] at hcl
        have HCL := Lib.hid hcl
        clear hcl
        go_wp2_with (first
          | (go_at_call 71; refine HCL.out.mono ?_; rintro e w1 ⟨rfl, o1⟩; have O1 := Lib.hid (O.out.trans o1); clear o1))
        go_roundw
        case rel => exact ⟨lo, q, rfl, by go_num, h1, hz, by omega, O1.out⟩
        case measure => simp [intOf]; omega
      · rw [show decide (r ≤ q) = false from by simpa using hz] at hcl
        have HCL := Lib.hid hcl
        clear hcl
        go_wp2_with (first
          | (go_at_call 71; refine HCL.out.mono ?_; rintro e w1 ⟨rfl, o1⟩; have O1 := Lib.hid (O.out.trans o1); clear o1))
        go_roundw
        case rel => exact ⟨q + 1, hi, by go_num, rfl, by omega, h2, h3, O1.out⟩
        case measure => simp [intOf]; omega
    · have e1 : lo = r := by omega
      subst e1
      clear o
      go_wp2_with fail
      go_ret
      exact ⟨rfl, O.out⟩

set_option maxHeartbeats 3200000 in
theorem rc_behind (N g mb : Nat) (l q : List Mk) (v : Value) (m : Mk) (w : World) (h : Rc N g mb l q v w) :
    Calls Try.prog 44 #[.pointer (some ⟨g, 0, none⟩), .agg #[.int .i64 m.a.c, .int .i64 m.a.s, .string m.k]] w fun e w' => e = .returned (.int .i64 (bh l m)) ∧ Only none_ w w' := by
  have hmf : ∀ (fn : Fn) (first cap : Array Value) (w : World), (Instr.makeFunc fn first cap).run Try.prog w = .ok (.func fn first cap) w := fun _ _ _ _ => rfl
  have B2 := Blk.new (w.alloc (.cells #[.pointer (some ⟨g, 0, none⟩)] 25)) 39 #[.int .i64 m.a.c, .int .i64 m.a.s, .string m.k]
  rw [World.size_alloc] at B2
  have C : Hid (Cp ((w.alloc (.cells #[.pointer (some ⟨g, 0, none⟩)] 25)).alloc (.cells #[.int .i64 m.a.c, .int .i64 m.a.s, .string m.k] 39)) w.heap.size (w.heap.size + 1) g m) := ⟨(Blk.new w _ _).alloc _, B2⟩
  have O : Hid (Only none_ w ((w.alloc (.cells #[.pointer (some ⟨g, 0, none⟩)] 25)).alloc (.cells #[.int .i64 m.a.c, .int .i64 m.a.s, .string m.k] 39))) := ((Only.refl none_ w).alloc _).alloc _
  have hs := srch l.length (bh l m) w.heap.size (w.heap.size + 1) _ (bh_le l m) h.ml (fun i hi w' o => beh_clo N g mb _ _ l q v m w' (h.keep (O.out.trans o)) (C.out.keep o) i hi)
  obtain ⟨A, c, rfl⟩ := h.shape
  have c0 := C.out.p.cell_ (i := 0) rfl
  have c1 := (h.keep O.out).bk.cell_ (i := 1) rfl
  generalize bh l m = r at hs ⊢
  generalize l.length = n at hs c1
  have HS := Lib.hid hs
  clear h hs B2
  go_enter Try.func44, Try.ntmps44
  go_wp2_with (first
    | (go_at_call 70; refine HS.out.mono ?_; rintro e w1 ⟨rfl, o1⟩; have O1 := Lib.hid (O.out.trans o1); clear o1))
  go_ret
  exact ⟨rfl, O1.out⟩
end Go.Proofs.Ytclngnoapfjghaa
