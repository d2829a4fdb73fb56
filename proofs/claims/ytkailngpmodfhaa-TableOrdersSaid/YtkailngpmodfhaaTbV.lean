/- All of a table of texts: what it tells, and the function that asks. No statement of the seat is proved here. -/
import Derived.Test.YtkailngpmodfhaaTbR
namespace Go.Proofs.Ytkailngpmodfhaa.Sv
open Go.RowKit
set_option maxRecDepth 100000
set_option linter.all false

theorem enters8 {P : Program} {f : FuncId} {fn : Func} {c : Code} (hf : P.funcs[f]? = some fn) (hname : (fn.name == "runtime.NumGoroutine") = false) (hb : fn.body = some c) (args : Array Value) (w : World) :
    (callFunc f args).run P w = .ok (.enter f args) w := by
  have h1 : fn.name ≠ "runtime.NumGoroutine" := by simpa using hname
  simp [callFunc, hf, h1, hb]

/-- What the function that asks has captured: how many were told, the list, where to stop. -/
structure Ck (w : World) (hN hX hS : Nat) (j : Int) (A : Option Addr) (n c : Nat) (s : Nat) (t : List (Pr ByteArray)) : Prop where
  bn : Blk w hN 3 #[.int .i64 j]
  bx : Blk w hX 57 #[.slice A n c]
  bs : Blk w hS 5 #[.int .u8 (s : Int)]
  r : Cel w (fun b => b ≠ hN) (.slice A n c) n 2 (t.flatMap prI)
theorem Ck.only {w w' : World} {hN hX hS : Nat} {j : Int} {A : Option Addr} {n c : Nat} {s : Nat} {t : List (Pr ByteArray)} (k : Ck w hN hX hS j A n c s t) (o : Only none_ w w') : Ck w' hN hX hS j A n c s t :=
  ⟨Blk.only (t := 3) k.bn o (fun h => h), Blk.only (t := 57) k.bx o (fun h => h), Blk.only (t := 5) k.bs o (fun h => h), k.r.only o (fun _ _ h => h)⟩
theorem Ck.set {w : World} {hN hX hS : Nat} {j : Int} {A : Option Addr} {n c : Nat} {s : Nat} {t : List (Pr ByteArray)} (k : Ck w hN hX hS j A n c s t) (j' : Int) : Ck (w.setCell ⟨hN, 0, none⟩ (.int .i64 j')) hN hX hS j' A n c s t := by
  have o : Only (one hN) w (w.setCell ⟨hN, 0, none⟩ (.int .i64 j')) := (Only.refl (one hN) w).setCell (.inl (show one hN hN from rfl)) _
  exact ⟨Blk.set_ (t := 3) k.bn 0 (.int .i64 j'), Blk.only (t := 57) k.bx o (fun e => Blk.ne_ k.bx k.bn (by decide) e), Blk.only (t := 5) k.bs o (fun e => Blk.ne_ k.bs k.bn (by decide) e), k.r.only o (fun b hb e => hb e)⟩

set_option maxHeartbeats 3200000 in
theorem ord_clo (w : World) (hN hX hS : Nat) (j : Nat) (A : Option Addr) (n c : Nat) (s : Nat) (t : List (Pr ByteArray)) (h : Ck w hN hX hS (j : Int) A n c s t) (hn : n = t.length) (hj : j < t.length) (hn4 : n ≤ 64) (hs : s < 256) :
    Calls Try.prog 28 #[.string t[j].k, .string t[j].v, .pointer (some ⟨hN, 0, none⟩), .pointer (some ⟨hX, 0, none⟩), .pointer (some ⟨hS, 0, none⟩)] w fun e w' => e = .returned (.bool (decide (j + 1 < s))) ∧ Ck w' hN hX hS ((j : Int) + 1) A n c s t ∧ Only (one hN) w w' := by
  have c0 := Blk.cell_ (t := 3) (i := 0) h.bn rfl
  have f0 := Blk.frozen (t := 3) h.bn 0
  have c1 := Blk.cell_ (t := 57) (i := 0) h.bx rfl
  have c2 := Blk.cell_ (t := 5) (i := 0) h.bs rfl
  have c2' := Blk.cell_ (t := 5) (i := 0) (h.set ((j : Int) + 1)).bs rfl
  obtain ⟨b, off, rfl, _, _, hk0, hk1⟩ := prI_cell h.r j hj hn
  obtain ⟨pp, hpp⟩ : ∃ pp, t[j] = pp := ⟨_, rfl⟩
  rw [hpp] at hk0 hk1 ⊢
  obtain ⟨kk, vv⟩ := pp
  dsimp only at hk0 hk1 ⊢
  have K := Lib.hid (h.set ((j : Int) + 1))
  have O : Hid (Only (one hN) w (w.setCell ⟨hN, 0, none⟩ (.int .i64 ((j : Int) + 1)))) := (Only.refl (one hN) w).setCell (.inl (show one hN hN from rfl)) _
  have hjn : j < n := by omega
  have hji : (j : Int) < (n : Int) := by omega
  have hj64 : j < 64 := by omega
  clear h hpp hn hj
  by_cases hd : j + 1 < s
  · have hd2 : decide ((j : Int) + 1 < (s : Int)) = true := by simp; omega
    have HD : Hid (decide (j + 1 < s) = true) := by simp [Hid, hd]
    go_enter Try.func28, Try.ntmps28
    go_wp2_with fail
    go_ret
    exact ⟨by rw [HD.out]; rfl, K.out, O.out⟩
  · have hd2 : decide ((j : Int) + 1 < (s : Int)) = false := by simp; omega
    have HD : Hid (decide (j + 1 < s) = false) := by simp [Hid]; omega
    go_enter Try.func28, Try.ntmps28
    go_wp2_with fail
    go_ret
    exact ⟨by rw [HD.out]; rfl, K.out, O.out⟩

set_option maxHeartbeats 6400000 in
theorem all_clo (w : World) (hN hX hS hP : Nat) (A A' : Option Addr) (n c n' c' : Nat) (s : Nat) (t : List (Pr ByteArray)) (h : Ck w hN hX hS 0 A n c s t) (hp : Blk w hP 57 #[.slice A' n' c']) (hr : Cel w (fun b => b ≠ hN) (.slice A' n' c') n' 2 (t.flatMap prI)) (hn : n = t.length) (hn' : n' = t.length) (hn4 : n ≤ 64) (hs : s < 256) :
    Calls Try.prog 55 #[.func (.func 28) #[] #[.pointer (some ⟨hN, 0, none⟩), .pointer (some ⟨hX, 0, none⟩), .pointer (some ⟨hS, 0, none⟩)], .pointer (some ⟨hP, 0, none⟩)] w fun e w' => e = .returned (.tuple #[]) ∧ Ck w' hN hX hS ((min n (max s 1) : Nat) : Int) A n c s t ∧ Only (one hN) w w' := by
  have p0 := Blk.cell_ (t := 57) (i := 0) hp rfl
  have hrun : ∀ (args : Array Value) (w1 : World), (callFunc 28 args).run Try.prog w1 = .ok (.enter 28 args) w1 := fun args w1 => enters8 Try.func28 rfl rfl args w1
  have H := Lib.hid h
  have HR := Lib.hid hr
  have HN := Lib.hid hn
  have HN' := Lib.hid hn'
  have hnn : n' = n := by omega
  subst hnn
  have O0 := Lib.hid (Only.refl (one hN) w)
  clear h hr hp hn hn'
  go_enter Try.func55, Try.ntmps55
  go_wp2_with fail
  go_loopw [7] (fun i wr => ∃ k : Nat, k ≤ n' ∧ i = .int .i64 (k : Int) ∧ (k = 0 ∨ k < s) ∧ Ck wr hN hX hS (k : Int) A n' c s t ∧ Only (one hN) w wr) (fun i _ => n' - (intOf i).toNat)
  case atStart => exact ⟨0, Nat.zero_le _, rfl, .inl rfl, H.out, O0.out⟩
  case round =>
    obtain ⟨k, hk, rfl, hks, hc, ho⟩ := hrel
    have KS := Lib.hid hks
    have HC := Lib.hid hc
    have HO := Lib.hid ho
    clear hc ho hks p0
    by_cases hlt : k < n'
    · have hkt : k < t.length := by have := HN.out; omega
      obtain ⟨b, off, rfl, _, _, hk0, hk1⟩ := prI_cell (HR.out.only HO.out (fun b hb e => hb e)) k hkt HN'.out
      have B5 := Lib.hid (Blk.new wr 61 #[.string t[k].k, .string t[k].v])
      have hki : (k : Int) < (n' : Int) := by omega
      have CL := Lib.hid (fun (w1 : World) (h1 : Ck w1 hN hX hS (k : Int) A n' c s t) => ord_clo w1 hN hX hS k A n' c s t h1 HN.out hkt hn4 hs)
      have K5 := Lib.hid (HC.out.only ((Only.refl none_ wr).alloc (.cells #[.string t[k].k, .string t[k].v] 61)))
      have O5 := Lib.hid (HO.out.alloc (.cells #[.string t[k].k, .string t[k].v] 61))
      generalize t[k].k = kk at *
      generalize t[k].v = vv at *
      by_cases hd : k + 1 < s
      · have HD : Hid (decide (k + 1 < s) = true) := by simp [Hid, hd]
        go_wp2_with (first
          | (refine (CL.out _ K5.out).mono ?_; rw [HD.out]; rintro e w2 ⟨rfl, k2, o2⟩; have K6 := Lib.hid k2; have O6 := Lib.hid (O5.out.trans o2); clear k2 o2))
        go_roundw
        case rel => exact ⟨k + 1, by omega, by go_num, .inr hd, by have := K6.out; rwa [show (k : Int) + 1 = ((k + 1 : Nat) : Int) by omega] at this, O6.out⟩
        case measure => simp [intOf]; omega
      · have HD : Hid (decide (k + 1 < s) = false) := by simp [Hid]; omega
        have HE : Hid (min n' (max s 1) = k + 1) := by have := KS.out; rw [Hid]; omega
        go_wp2_with (first
          | (refine (CL.out _ K5.out).mono ?_; rw [HD.out]; rintro e w2 ⟨rfl, k2, o2⟩; have K6 := Lib.hid k2; have O6 := Lib.hid (O5.out.trans o2); clear k2 o2))
        refine bodyPost_ret (results_none rfl _ _ _) rfl ?_
        exact ⟨rfl, by rw [HE.out]; have := K6.out; rwa [show (k : Int) + 1 = ((k + 1 : Nat) : Int) by omega] at this, O6.out⟩
    · obtain rfl : n' = k := by omega
      have HE : Hid (min n' (max s 1) = n') := by have := KS.out; rw [Hid]; omega
      go_wp2_with fail
      go_end0
      exact ⟨rfl, by rw [HE.out]; exact HC.out, HO.out⟩

set_option maxHeartbeats 3200000 in
theorem tb_all (B : World) (g : Nat) (room : Int) (l : List (Pr ByteArray)) (v : Value) (w : World) (h : Tb B g room l v w) :
    Calls Try.prog 27 #[.pointer (some ⟨g, 0, none⟩)] w fun e w' => ∃ hP A n c, e = .returned (.func (.func 55) #[] #[.pointer (some ⟨hP, 0, none⟩)]) ∧ n = l.length ∧ Blk w' hP 57 #[.slice A n c] ∧ Cel w' (fun b => w.heap.size ≤ b) (.slice A n c) n 2 (l.flatMap prI) ∧ Only none_ w w' := by
  have hmf : ∀ (fn : Fn) (first cap : Array Value) (w : World), (Instr.makeFunc fn first cap).run Try.prog w = .ok (.func fn first cap) w := fun _ _ _ _ => rfl
  obtain ⟨A, c, rfl⟩ := h.shape
  have c1 := h.bk.cell_ (i := 1) rfl
  have hml := h.ml
  have H := Lib.hid h.cel
  obtain ⟨L, hL⟩ : ∃ L, l.length = L := ⟨_, rfl⟩
  rw [hL] at c1 hml H ⊢
  have CLO := Lib.hid (cloI A L c _ _ w H.out hml (prI_one l))
  have HL := Lib.hid hL
  clear h hL
  go_enter Try.func27, Try.ntmps27
  go_wp2_with (first
    | (go_at_call 54; refine CLO.out.mono ?_; rintro e w1 ⟨v1, rfl, own1, o1⟩
       obtain ⟨A1, n1, c1', rfl⟩ := own_shape own1
       have HN1 : Hid (n1 = L) := by obtain ⟨_, _, e, _⟩ := Cel.of_own own1; injection e
       have C1 : Hid (Cel (w1.alloc (.cells #[.slice A1 n1 c1'] 57)) (fun b => w.heap.size ≤ b) (.slice A1 n1 c1') n1 2 (l.flatMap prI)) := by
         have h2 := (Cel.of_own own1).mono (T := fun b => w.heap.size ≤ b) (fun b _ hb => (own1.lt b hb).1)
         rw [← HN1.out] at h2
         exact h2.alloc _
       have O1 := Lib.hid (o1.alloc (.cells #[.slice A1 n1 c1'] 57))
       have B1 := Lib.hid (Blk.new w1 57 #[.slice A1 n1 c1'])
       clear own1 o1))
  go_ret
  exact ⟨w1.heap.size, A1, n1, c1', rfl, HN1.out, B1.out, C1.out, O1.out⟩
end Go.Proofs.Ytkailngpmodfhaa.Sv
