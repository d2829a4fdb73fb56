/- The call of WireCuts answers yes where a message is short and may be. No statement of the seat is proved here. -/
import Derived.Test.YtlieolehpmobfaaGreatDoorWt1
import Derived.WalkKit
import Derived.WalkSpells
import Derived.WalkLawsBesides
import Derived.Maps.AppendAt
import Derived.Deep.AppendLies
import Derived.Deep.Draws
import Derived.Laws.OwnMore
import Derived.Laws.Rows
import Derived.Laws.IdiomStrings
import Derived.Lib.Hide
import Derived.Test.YtlieolehpmobfaaGreatDoorWt16
import Derived.Test.YtlieolehpmobfaaGreatDoorWt9
import Derived.Test.YtlieolehpmobfaaGreatDoorWt10
import Derived.Test.YtlieolehpmobfaaGreatDoorWt11
import Derived.Test.YtlieolehpmobfaaGreatDoorWt12
import Derived.Test.YtlieolehpmobfaaGreatDoorWt15
import Derived.Test.YtlieolehpmobfaaGreatDoorWt18
import Derived.Test.YtlieolehpmobfaaGreatDoorWt6
import Derived.Deep.DeepCutAuto
import Derived.Deep.RegionLaw
section
namespace Go.Proofs.YtlieolehpmobfaaGreatDoor
open Go.RowKit
section
variable {w w' : World} {g : Nat} {t : TypeId} {cs : Array Value}
end
section
variable {w w' : World} {S T : Nat → Prop} {v : Value} {bs : List UInt8}
end
section
variable {P : Program} (w : World)
theorem step_append_byt {ops : Array Oper} {o : Oper} {a : Act} {K : Act → World → Prop} {Q : Exit → Act → World → Prop} {E : Prop} (hgd : o.guard = none) (s x : Operand) (t : TypeId)
    (ho : o.op = .call { callee := .builtin .append, args := #[s, x], argTypes := #[t, t] })
    (base : Nat) (e : TypeId) (i : TypeInfo) (z : Value) (ht : P.underlying t = some (.slice e)) (hi : P.info? e = some i) (hz : i.zero = some z)
    (hsize : i.size = 1) (hby : i.bytes = 1) (hzs : z.cells.size = 1) (v : Value) (xs : List UInt8) (hs : a.eval s = v) (hown : w.ownsRow base e 1 v xs.length (byts xs))
    (S : Nat → Prop) (A : Value) (ys : List UInt8) (hx : a.eval x = A) (hr : Byt w S A ys) (hbytes : xs.length + ys.length ≤ 140737488355328) (hbase : base ≤ w.heap.size)
    (h : ∀ A' n' c' w', w'.ownsRow base e 1 (.slice A' n' c') (xs ++ ys).length (byts (xs ++ ys)) → w.grownBy w' v.ownBlock → Moved w v (.slice A' n' c') → K (a.put o.dst (.slice A' n' c')) w') :
    if Region.wanted o (yielded ops a.tmps) = true then Oper.wp P o a w K Q else E := by
  have hw : Region.wanted o (yielded ops a.tmps) = true := by simp [Region.wanted, hgd]
  rw [if_pos hw]
  exact wp_append_byt w s x t ho base e i z ht hi hz hsize hby hzs v xs hs hown S A ys hx hr hbytes hbase h
end
end Go.Proofs.YtlieolehpmobfaaGreatDoor
end
section
namespace Go.Proofs.YtlieolehpmobfaaGreatDoor
open Go.RowKit
set_option linter.all false
set_option maxRecDepth 100000
theorem field_stop (i : Nat) (c : Int) (bs : List UInt8) (m : Ms) (h : c ≠ 0) : (fieldR i c bs m).1 = c := by
  match i with
  | 0 => exact node_stop c bs h
  | 1 => exact node_stop c bs h
  | 2 => exact (flag_rdr true).stop c bs h
  | 3 => exact (many_rdr node_stop [] (by simp) (g := nodeL) (by simp)).stop c bs h
  | 4 => exact num_stop h bs 4
  | 5 => exact num_stop h bs 8
  | 6 => exact mark_stop c bs h
  | 7 => exact (many_rdr mark_stop [] (by simp) (g := markB) (by simp)).stop c bs h
  | n + 8 => exact (many_rdr ent_stop [] (by simp) (g := entB) (by simp)).stop c bs h
theorem run_stop {k : Int} {bs : List UInt8} (n : Nat) (h : (runR k bs n).1 ≠ 0) : (runR k bs (n + 1)).1 = (runR k bs n).1 := by
  show (if wHas k n = true then fieldR n (runR k bs n).1 (runR k bs n).2.1 (runR k bs n).2.2 else runR k bs n).1 = _
  split
  · exact field_stop _ _ _ _ h
  · rfl
theorem run_cut {m : Ms} (hf : ∀ i, i < 9 → wHas m.kd i = true → fits m i) : ∀ n, n ≤ 9 → ∀ k, k < (runB m n).length → (runR m.kd ((runB m n).take k) n).1 = 6
  | 0, _, k, hk => by simp [runB] at hk
  | n + 1, hn, k, hk => by
    by_cases hh : wHas m.kd n = true
    · have e1 : runB m (n + 1) = runB m n ++ fieldB m n := if_pos hh
      rw [e1] at hk ⊢
      by_cases h : k < (runB m n).length
      · rw [List.take_append_of_le_length (by omega)]
        have ih := run_cut hf n (by omega) k h
        rw [run_stop n (by rw [ih]; omega), ih]
      · rw [List.take_append, List.take_of_length_le (by omega)]
        have e2 : ∀ bs, runR m.kd bs (n + 1) = fieldR n (runR m.kd bs n).1 (runR m.kd bs n).2.1 (runR m.kd bs n).2.2 := fun bs => if_pos hh
        rw [e2, run_forth hf n (by omega)]
        rw [List.length_append] at hk
        exact (field_rdr (by omega) (hf n (by omega) hh)).2 _ _ (by omega)
    · have e1 : runB m (n + 1) = runB m n := if_neg hh
      rw [e1] at hk ⊢
      have e2 : ∀ bs, runR m.kd bs (n + 1) = runR m.kd bs n := fun bs => if_neg hh
      rw [e2]
      exact run_cut hf n (by omega) k hk
theorem wd_cut {m : Ms} (h : wGood m = 0) (hs : m.su < 18446744073709551616) {k : Nat} (hk : k < (wEnc m).length) : wdC m.kd ((wEnc m).take k) = 6 ∧ wdM m.kd ((wEnc m).take k) = msZero 0 := by
  have hf : ∀ i, i < 9 → wHas m.kd i = true → fits m i := fun i hi hh => good_fits h hs hi hh
  have e := run_cut hf 9 (Nat.le_refl _) k hk
  have hc : wdC m.kd ((wEnc m).take k) = 6 := by
    have hd : doneCode (runR m.kd ((wEnc m).take k) 9).1 (runR m.kd ((wEnc m).take k) 9).2.1 = 6 := by
      have e' : (runR m.kd ((wEnc m).take k) 9).1 = 6 := e
      rw [e']
      unfold doneCode
      split <;> rfl
    unfold wdC
    rw [if_pos (good_kind h), hd, if_neg (by decide)]
  refine ⟨hc, ?_⟩
  unfold wdM
  rw [hc, if_neg (by decide)]
end Go.Proofs.YtlieolehpmobfaaGreatDoor
end
section
namespace Go.Proofs.YtlieolehpmobfaaGreatDoor
open Go.RowKit
set_option linter.all false
set_option maxRecDepth 100000
theorem own_n2 {w : World} {base n k L c : Nat} {t : TypeId} {A : Option Addr} {xs : List Value} (h : w.ownsRow base t k (.slice A L c) n xs) : L = n := by
  rcases h.2 with ⟨h1, h2⟩ | ⟨g, cap, cur, h1, _⟩
  · injection h1 with e1 e2 e3; omega
  · injection h1 with e1 e2 e3
theorem few_facts {m : Ms} (h : fewM m = true) : m.ps.length ≤ 20 ∧ m.ms.length ≤ 20 ∧ m.es.length ≤ 20 := by
  simp only [fewM, Bool.and_eq_true, decide_eq_true_eq] at h
  exact ⟨h.1.1.1.1.1, h.1.1.1.1.2, h.1.1.1.2⟩
theorem twelve_of {w : World} {g : Nat} {t : TypeId} {a0 a1 a2 a3 a4 a5 a6 a7 a8 a9 a10 a11 : Value} (b : Blk w g t #[a0, a1, a2, a3, a4, a5, a6, a7, a8, a9, a10, a11]) :
    w.cell? ⟨g, 0, none⟩ = some a0 ∧ w.cell? ⟨g, 1, none⟩ = some a1 ∧ w.cell? ⟨g, 2, none⟩ = some a2 ∧ w.cell? ⟨g, 3, none⟩ = some a3 ∧ w.cell? ⟨g, 4, none⟩ = some a4 ∧ w.cell? ⟨g, 5, none⟩ = some a5 ∧ w.cell? ⟨g, 6, none⟩ = some a6 ∧ w.cell? ⟨g, 7, none⟩ = some a7 ∧ w.cell? ⟨g, 8, none⟩ = some a8 ∧ w.cell? ⟨g, 9, none⟩ = some a9 ∧ w.cell? ⟨g, 10, none⟩ = some a10 ∧ w.cell? ⟨g, 11, none⟩ = some a11 :=
  ⟨b.cell_ (i := 0) rfl, b.cell_ (i := 1) rfl, b.cell_ (i := 2) rfl, b.cell_ (i := 3) rfl, b.cell_ (i := 4) rfl, b.cell_ (i := 5) rfl, b.cell_ (i := 6) rfl, b.cell_ (i := 7) rfl, b.cell_ (i := 8) rfl, b.cell_ (i := 9) rfl, b.cell_ (i := 10) rfl, b.cell_ (i := 11) rfl⟩
theorem step_call7 {P : Program} {ops : Array Oper} {o : Oper} {a : Act} {w : World} {K : Act → World → Prop} {Q : Exit → Act → World → Prop} {E : Prop} (hwd : Region.wanted o (yielded ops a.tmps) = true) (f : FuncId) (args : Array Value)
    (hrun : (execOp a.eval o).run P w = .ok (.enter f args) w) (h : Calls P f args w fun e w' => ∃ v, e = .returned v ∧ K (a.put o.dst v) w') :
    if Region.wanted o (yielded ops a.tmps) = true then Oper.wp P o a w K Q else E := by
  rw [if_pos hwd]
  unfold Oper.wp
  rw [hrun]
  exact h.mono fun e w'' ⟨v, he, hk⟩ => by subst he; exact hk
theorem frozen12 {w : World} {g : Nat} {t : TypeId} {cs : Array Value} (h : Blk w g t cs) : w.frozen? ⟨g, 0, none⟩ = false ∧ w.frozen? ⟨g, 1, none⟩ = false ∧ w.frozen? ⟨g, 2, none⟩ = false ∧ w.frozen? ⟨g, 3, none⟩ = false ∧ w.frozen? ⟨g, 4, none⟩ = false ∧ w.frozen? ⟨g, 5, none⟩ = false ∧ w.frozen? ⟨g, 6, none⟩ = false ∧ w.frozen? ⟨g, 7, none⟩ = false ∧ w.frozen? ⟨g, 8, none⟩ = false ∧ w.frozen? ⟨g, 9, none⟩ = false ∧ w.frozen? ⟨g, 10, none⟩ = false ∧ w.frozen? ⟨g, 11, none⟩ = false :=
  ⟨h.frozen 0, h.frozen 1, h.frozen 2, h.frozen 3, h.frozen 4, h.frozen 5, h.frozen 6, h.frozen 7, h.frozen 8, h.frozen 9, h.frozen 10, h.frozen 11⟩
abbrev fill12 (w : World) (h : Nat) (a0 a1 a2 a3 a4 a5 a6 a7 a8 a9 a10 a11 : Value) : World := (((((((((((w.setCell ⟨h, 0, none⟩ a0).setCell ⟨h, 1, none⟩ a1).setCell ⟨h, 2, none⟩ a2).setCell ⟨h, 3, none⟩ a3).setCell ⟨h, 4, none⟩ a4).setCell ⟨h, 5, none⟩ a5).setCell ⟨h, 6, none⟩ a6).setCell ⟨h, 7, none⟩ a7).setCell ⟨h, 8, none⟩ a8).setCell ⟨h, 9, none⟩ a9).setCell ⟨h, 10, none⟩ a10).setCell ⟨h, 11, none⟩ a11
theorem fill12_blk {w : World} {g : Nat} {t : TypeId} {b0 b1 b2 b3 b4 b5 b6 b7 b8 b9 b10 b11 : Value} (hb : Blk w g t #[b0, b1, b2, b3, b4, b5, b6, b7, b8, b9, b10, b11]) (a0 a1 a2 a3 a4 a5 a6 a7 a8 a9 a10 a11 : Value) : Blk (fill12 w g a0 a1 a2 a3 a4 a5 a6 a7 a8 a9 a10 a11) g t #[a0, a1, a2, a3, a4, a5, a6, a7, a8, a9, a10, a11] := by
  simpa using (((((((((((hb.set_ 0 a0).set_ 1 a1).set_ 2 a2).set_ 3 a3).set_ 4 a4).set_ 5 a5).set_ 6 a6).set_ 7 a7).set_ 8 a8).set_ 9 a9).set_ 10 a10).set_ 11 a11
theorem fill12_one (w : World) (g : Nat) (a0 a1 a2 a3 a4 a5 a6 a7 a8 a9 a10 a11 : Value) : Only (one g) w (fill12 w g a0 a1 a2 a3 a4 a5 a6 a7 a8 a9 a10 a11) :=
  ((((((((((((Only.refl (one g) w).setCell (p := ⟨g, 0, none⟩) (.inl rfl) a0).setCell (p := ⟨g, 1, none⟩) (.inl rfl) a1).setCell (p := ⟨g, 2, none⟩) (.inl rfl) a2).setCell (p := ⟨g, 3, none⟩) (.inl rfl) a3).setCell (p := ⟨g, 4, none⟩) (.inl rfl) a4).setCell (p := ⟨g, 5, none⟩) (.inl rfl) a5).setCell (p := ⟨g, 6, none⟩) (.inl rfl) a6).setCell (p := ⟨g, 7, none⟩) (.inl rfl) a7).setCell (p := ⟨g, 8, none⟩) (.inl rfl) a8).setCell (p := ⟨g, 9, none⟩) (.inl rfl) a9).setCell (p := ⟨g, 10, none⟩) (.inl rfl) a10).setCell (p := ⟨g, 11, none⟩) (.inl rfl) a11
theorem fill12_only {W w : World} {g : Nat} (o : Only none_ W w) (hg : W.heap.size ≤ g) (a0 a1 a2 a3 a4 a5 a6 a7 a8 a9 a10 a11 : Value) : Only none_ W (fill12 w g a0 a1 a2 a3 a4 a5 a6 a7 a8 a9 a10 a11) :=
  o.trans' (fill12_one w g a0 a1 a2 a3 a4 a5 a6 a7 a8 a9 a10 a11) (fun k hk e => by have e' : k = g := e; omega)
theorem fill12_ml {S : Nat → Prop} {w : World} {g : Nat} {m : Ms} {vp vm ve : Value} (l : Ml S m vp vm ve w) (hs : ∀ b, S b → b ≠ g) (a0 a1 a2 a3 a4 a5 a6 a7 a8 a9 a10 a11 : Value) : Ml (fun _ => True) m vp vm ve (fill12 w g a0 a1 a2 a3 a4 a5 a6 a7 a8 a9 a10 a11) :=
  (l.only (fill12_one w g a0 a1 a2 a3 a4 a5 a6 a7 a8 a9 a10 a11) (fun b hb e => hs b hb e)).mono (fun _ _ _ => trivial)
theorem own_base {w : World} {b b' n k : Nat} {t : TypeId} {v : Value} {xs : List Value} (h : w.ownsRow b t k v n xs) (hb : b' ≤ b) : w.ownsRow b' t k v n xs := by
  refine ⟨h.1, ?_⟩
  rcases h.2 with h2 | ⟨g, cap, cur, h1, h2, h3⟩
  · exact .inl h2
  · exact .inr ⟨g, cap, cur, h1, Nat.le_trans hb h2, h3⟩
structure Cz (W : World) (m : Ms) (vp vm ve : Value) (A : Option Addr) (c : Nat) (rs : List UInt8) (w : World) : Prop where
  bx : Blk w W.heap.size 31 #[.int .i64 m.kd, .int .i64 m.pe, .int .i64 m.hp, .bool m.hi, vp, .int .i64 m.nu, .int .u64 (m.su : Int), .int .i64 m.mr.a.c, .int .i64 m.mr.a.s, .string m.mr.k, vm, ve]
  ml : Ml (fun b => b < W.heap.size) m vp vm ve w
  by_ : Byt w (fun b => b < W.heap.size) (.slice A rs.length c) rs
  kd : Kd w
  ho : Only none_ W w
theorem Cz.keep {W w w' : World} {m : Ms} {vp vm ve : Value} {A : Option Addr} {c : Nat} {rs : List UInt8} (t : Cz W m vp vm ve A c rs w) (o : Only none_ w w') : Cz W m vp vm ve A c rs w' :=
  ⟨t.bx.only o (fun h => h), t.ml.keep o, t.by_.only o (fun _ _ h => h), t.kd.keep o, t.ho.trans o⟩
set_option maxHeartbeats 3200000 in
theorem wcuts_no (m : Ms) (vp vm ve : Value) (at_ : Int) (A : Option Addr) (c : Nat) (rs : List UInt8) (W : World) (hk : Kd W) (hl : Ml (fun b => b < W.heap.size) m vp vm ve W) (hb : Byt W (fun b => b < W.heap.size) (.slice A rs.length c) rs) (h : ¬ (fewM m = true ∧ wGood m = 0 ∧ rs.length ≤ 40)) :
    Calls Tryz.prog 5 #[.agg #[.int .i64 m.kd, .int .i64 m.pe, .int .i64 m.hp, .bool m.hi, vp, .int .i64 m.nu, .int .u64 (m.su : Int), .int .i64 m.mr.a.c, .int .i64 m.mr.a.s, .string m.mr.k, vm, ve], .int .u16 at_, .slice A rs.length c] W fun e w' => e = .returned (.bool true) ∧ Below W.heap.size W w' := by
  obtain ⟨P1, p1, P2, p2, P3, p3, e1, e2, e3⟩ := hl.shape
  subst e1 e2 e3
  have T0 : Hid (Cz W m (.slice P1 m.ps.length p1) (.slice P2 m.ms.length p2) (.slice P3 m.es.length p3) A c rs (W.alloc (.cells #[.int .i64 m.kd, .int .i64 m.pe, .int .i64 m.hp, .bool m.hi, .slice P1 m.ps.length p1, .int .i64 m.nu, .int .u64 (m.su : Int), .int .i64 m.mr.a.c, .int .i64 m.mr.a.s, .string m.mr.k, .slice P2 m.ms.length p2, .slice P3 m.es.length p3] 31))) :=
    ⟨Blk.new _ _ _, hl.keep ((Only.refl none_ W).alloc _), hb.only ((Only.refl none_ W).alloc _) (fun _ _ h => h), hk.keep ((Only.refl none_ W).alloc _), (Only.refl none_ W).alloc _⟩
  clear hl hb hk
  have tok1 : True := trivial
  by_cases hf : fewM m = true
  · have hff := few_facts hf
    have HG := Lib.hid (fun (w : World) (t : Cz W m (.slice P1 m.ps.length p1) (.slice P2 m.ms.length p2) (.slice P3 m.es.length p3) A c rs w) => rd_wgood _ m _ _ _ w t.ml ⟨by omega, by omega, by omega⟩)
    obtain ⟨z, hz⟩ : ∃ z, wGood m = z := ⟨_, rfl⟩
    rw [hz] at HG h
    have HF := Lib.hid hf
    clear hff hz
    by_cases hz0 : z = 0
    · subst hz0
      have hd : decide ((40 : Int) < (rs.length : Int)) = true := by
        have : ¬ rs.length ≤ 40 := fun h1 => h ⟨hf, rfl, h1⟩
        simp; omega
      clear h hf
      go_enter Tryz.func5, Tryz.ntmps5
      go_wp2_with (first
        | (go_at_call 13; have _t := tok1; clear tok1; refine (wi_speaks _ T0.out.kd).mono ?_; rintro E w1 ⟨rfl, o1⟩
           have T1 := Lib.hid (T0.out.keep o1)
           clear o1)
        | (go_at_call 14; refine (lw_few _ m _ _ _ _ T1.out.ml).mono ?_; rintro E w2 ⟨rfl, o2⟩; rw [HF.out]
           have T2 := Lib.hid (T1.out.keep o2)
           clear o2)
        | (go_at_call 15; refine (HG.out _ T2.out).mono ?_; rintro E w3 ⟨rfl, o3⟩
           have T3 := Lib.hid (T2.out.keep o3)
           clear o3)
        | (refine wpl_load_if (by rfl) 31 _ rfl W.heap.size rfl 31 #[.int .i64 m.kd, .int .i64 m.pe, .int .i64 m.hp, .bool m.hi, .slice P1 m.ps.length p1, .int .i64 m.nu, .int .u64 (m.su : Int), .int .i64 m.mr.a.c, .int .i64 m.mr.a.s, .string m.mr.k, .slice P2 m.ms.length p2, .slice P3 m.es.length p3] _ (by first | exact T2.out.bx | exact T1.out.bx) Tryz.underlying31 rfl (by kernel_rfl) ?_)
        | (go_at_call 13; refine (wi_speaks _ T3.out.kd).mono ?_; rintro E w8 ⟨rfl, o8⟩; have O8 := Lib.hid (T3.out.ho.trans o8); clear o8))
      go_ret
      exact ⟨rfl, O8.out.below (Nat.le_refl _) (fun k hk => hk.elim)⟩
    · have hzb : (z != 0) = true := by simpa using hz0
      clear h hf hz0
      go_enter Tryz.func5, Tryz.ntmps5
      go_wp2_with (first
        | (go_at_call 13; have _t := tok1; clear tok1; refine (wi_speaks _ T0.out.kd).mono ?_; rintro E w1 ⟨rfl, o1⟩
           have T1 := Lib.hid (T0.out.keep o1)
           clear o1)
        | (go_at_call 14; refine (lw_few _ m _ _ _ _ T1.out.ml).mono ?_; rintro E w2 ⟨rfl, o2⟩; rw [HF.out]
           have T2 := Lib.hid (T1.out.keep o2)
           clear o2)
        | (go_at_call 15; refine (HG.out _ T2.out).mono ?_; rintro E w3 ⟨rfl, o3⟩
           have T3 := Lib.hid (T2.out.keep o3)
           clear o3)
        | (refine wpl_load_if (by rfl) 31 _ rfl W.heap.size rfl 31 #[.int .i64 m.kd, .int .i64 m.pe, .int .i64 m.hp, .bool m.hi, .slice P1 m.ps.length p1, .int .i64 m.nu, .int .u64 (m.su : Int), .int .i64 m.mr.a.c, .int .i64 m.mr.a.s, .string m.mr.k, .slice P2 m.ms.length p2, .slice P3 m.es.length p3] _ (by first | exact T2.out.bx | exact T1.out.bx) Tryz.underlying31 rfl (by kernel_rfl) ?_)
        | (go_at_call 13; refine (wi_speaks _ T3.out.kd).mono ?_; rintro E w8 ⟨rfl, o8⟩; have O8 := Lib.hid (T3.out.ho.trans o8); clear o8))
      go_ret
      exact ⟨rfl, O8.out.below (Nat.le_refl _) (fun k hk => hk.elim)⟩
  · have HF : Hid (fewM m = false) := by rw [Hid]; simpa using hf
    clear h hf
    go_enter Tryz.func5, Tryz.ntmps5
    go_wp2_with (first
      | (go_at_call 13; have _t := tok1; clear tok1; refine (wi_speaks _ T0.out.kd).mono ?_; rintro E w1 ⟨rfl, o1⟩
         have T1 := Lib.hid (T0.out.keep o1)
         clear o1)
      | (go_at_call 14; refine (lw_few _ m _ _ _ _ T1.out.ml).mono ?_; rintro E w2 ⟨rfl, o2⟩; rw [HF.out]
         have T2 := Lib.hid (T1.out.keep o2)
         clear o2)
      | (refine wpl_load_if (by rfl) 31 _ rfl W.heap.size rfl 31 #[.int .i64 m.kd, .int .i64 m.pe, .int .i64 m.hp, .bool m.hi, .slice P1 m.ps.length p1, .int .i64 m.nu, .int .u64 (m.su : Int), .int .i64 m.mr.a.c, .int .i64 m.mr.a.s, .string m.mr.k, .slice P2 m.ms.length p2, .slice P3 m.es.length p3] _ T1.out.bx Tryz.underlying31 rfl (by kernel_rfl) ?_)
      | (go_at_call 13; refine (wi_speaks _ T2.out.kd).mono ?_; rintro E w8 ⟨rfl, o8⟩; have O8 := Lib.hid (T2.out.ho.trans o8); clear o8))
    go_ret
    exact ⟨rfl, O8.out.below (Nat.le_refl _) (fun k hk => hk.elim)⟩
end Go.Proofs.YtlieolehpmobfaaGreatDoor
end
section
namespace Go.Proofs.YtlieolehpmobfaaGreatDoor
open Go.RowKit
set_option linter.all false
set_option maxRecDepth 100000
set_option maxHeartbeats 51200000 in
theorem wcuts_yes (m : Ms) (vp vm ve : Value) (at_ : Int) (A : Option Addr) (c : Nat) (rs : List UInt8) (W : World) (hk : Kd W) (hl : Ml (fun b => b < W.heap.size) m vp vm ve W) (hb : Byt W (fun b => b < W.heap.size) (.slice A rs.length c) rs) (hs : m.su < 18446744073709551616) (hat : 0 ≤ at_ ∧ at_ ≤ 65535) (hf : fewM m = true) (hg : wGood m = 0) (h4 : rs.length ≤ 40) :
    Calls Tryz.prog 5 #[.agg #[.int .i64 m.kd, .int .i64 m.pe, .int .i64 m.hp, .bool m.hi, vp, .int .i64 m.nu, .int .u64 (m.su : Int), .int .i64 m.mr.a.c, .int .i64 m.mr.a.s, .string m.mr.k, vm, ve], .int .u16 at_, .slice A rs.length c] W fun e w' => e = .returned (.bool true) ∧ Below W.heap.size W w' := by
  obtain ⟨P1, p1, P2, p2, P3, p3, e1, e2, e3⟩ := hl.shape
  subst e1 e2 e3
  have T0 : Hid (Cz W m (.slice P1 m.ps.length p1) (.slice P2 m.ms.length p2) (.slice P3 m.es.length p3) A c rs (W.alloc (.cells #[.int .i64 m.kd, .int .i64 m.pe, .int .i64 m.hp, .bool m.hi, .slice P1 m.ps.length p1, .int .i64 m.nu, .int .u64 (m.su : Int), .int .i64 m.mr.a.c, .int .i64 m.mr.a.s, .string m.mr.k, .slice P2 m.ms.length p2, .slice P3 m.es.length p3] 31))) :=
    ⟨Blk.new _ _ _, hl.keep ((Only.refl none_ W).alloc _), hb.only ((Only.refl none_ W).alloc _) (fun _ _ h => h), hk.keep ((Only.refl none_ W).alloc _), (Only.refl none_ W).alloc _⟩
  have hff := few_facts hf
  have HFE : Hid (fewM m = true) := hf
  have HGO : Hid (wGood m = 0) := hg
  have HG := Lib.hid (fun (w : World) (t : Cz W m (.slice P1 m.ps.length p1) (.slice P2 m.ms.length p2) (.slice P3 m.es.length p3) A c rs w) => rd_wgood _ m _ _ _ w t.ml ⟨by omega, by omega, by omega⟩)
  have HLF : Hid (m.ms.length ≤ 1000 ∧ m.es.length ≤ 1000) := ⟨by omega, by omega⟩
  have HL4 : Hid (m.ps.length ≤ 4096 ∧ m.ms.length ≤ 4096 ∧ m.es.length ≤ 4096) := ⟨by omega, by omega, by omega⟩
  have HFW : Hid (Few9 m) := ⟨by omega, by omega, by omega⟩
  have HSU := Lib.hid hs
  rw [hg] at HG
  have hd : decide ((40 : Int) < (rs.length : Int)) = false := by simp; omega
  have HLN : Hid ((wEnc m).length ≤ 4833) := runB_len (fun i hi hh => good_fits hg hs hi hh) 9 (Nat.le_refl _)
  have HCUT := Lib.hid (fun (k : Nat) (hk : k < (wEnc m).length) => wd_cut hg hs hk)
  have HFO := Lib.hid (wd_forth hg hs rs)
  have HEN := Lib.hid (fun (S : Nat → Prop) (um ue : Value) (w : World) (k : Kd w) (l : Ml S m (.slice P1 m.ps.length p1) um ue w) => wi_encode_ok S m _ um ue w k l HL4.out hg hs)
  obtain ⟨es, hes⟩ : ∃ es, wEnc m = es := ⟨_, rfl⟩
  rw [hes] at HLN HCUT HFO HEN
  obtain ⟨L5, hL5⟩ : ∃ n, es.length = n := ⟨_, rfl⟩
  have HL5 := Lib.hid hL5
  have HAT := Lib.hid hat
  have H40 := Lib.hid h4
  clear hl hb hk hff hf hg hs hes hL5 hat h4
  have HDE := Lib.hid (fun (k : Int) (A : Option Addr) (n c : Nat) (bs : List UInt8) (S : Nat → Prop) (w : World) (h : Byt w S (.slice A n c) bs) (hn : bs.length ≤ 100000) (hk : Kd w) => wi_decode k A n c bs S w h (by omega) hk)
  obtain ⟨i0, hi0, hz0, hz1, hz2⟩ := rinfo_parts u8_info
  obtain ⟨m0, hm0⟩ : ∃ x, msZero 0 = x := ⟨_, rfl⟩
  have SM0 : Hid (Few9 m0 ∧ m0.ms.length ≤ 1000 ∧ m0.es.length ≤ 1000) := by rw [Hid, ← hm0]; exact ⟨⟨by decide, by decide, by decide⟩, by decide, by decide⟩
  have HSZ : Hid (∀ (S : Nat → Prop) (vp um ue : Value) (w : World), Ml S m0 vp um ue w → Calls Tryz.prog 20 #[.agg #[.int .i64 m0.kd, .int .i64 m0.pe, .int .i64 m0.hp, .bool m0.hi, vp, .int .i64 m0.nu, .int .u64 (m0.su : Int), .int .i64 m0.mr.a.c, .int .i64 m0.mr.a.s, .string m0.mr.k, um, ue], .agg #[.int .i64 0, .int .i64 0, .int .i64 0, .bool false, .slice none 0 0, .int .i64 0, .int .u64 0, .int .i64 0, .int .i64 0, .string ⟨#[]⟩, .slice none 0 0, .slice none 0 0]] w fun e w' => e = .returned (.bool true) ∧ Only none_ w w') :=
    fun S vp um ue w l => rf_wsame_eq S S m0 (msZero 0) vp um ue (.slice none 0 0) (.slice none 0 0) (.slice none 0 0) w l (Ml.nil _ _ _) SM0.out.1 ⟨by decide, by decide, by decide⟩ hm0.symm
  have HSE : Hid (∀ (S T : Nat → Prop) (vp um ue up vm ve : Value) (w : World), Ml S m vp um ue w → Ml T m up vm ve w → Calls Tryz.prog 20 #[.agg #[.int .i64 m.kd, .int .i64 m.pe, .int .i64 m.hp, .bool m.hi, vp, .int .i64 m.nu, .int .u64 (m.su : Int), .int .i64 m.mr.a.c, .int .i64 m.mr.a.s, .string m.mr.k, um, ue], .agg #[.int .i64 m.kd, .int .i64 m.pe, .int .i64 m.hp, .bool m.hi, up, .int .i64 m.nu, .int .u64 (m.su : Int), .int .i64 m.mr.a.c, .int .i64 m.mr.a.s, .string m.mr.k, vm, ve]] w fun e w' => e = .returned (.bool true) ∧ Only none_ w w') :=
    fun S T vp um ue up vm ve w l k => rf_wsame_eq S T m m vp um ue up vm ve w l k HFW.out HFW.out rfl
  obtain ⟨zt, hzt⟩ : ∃ x, wdC m.kd (es ++ rs) = x := ⟨_, rfl⟩
  obtain ⟨mt, hmt⟩ : ∃ x, wdM m.kd (es ++ rs) = x := ⟨_, rfl⟩
  have HD10 := Lib.hid (fun (A : Option Addr) (n c : Nat) (S : Nat → Prop) (w : World) (h : Byt w S (.slice A n c) (es ++ rs)) (hk : Kd w) => HDE.out m.kd A n c (es ++ rs) S w h (by rw [List.length_append]; have := HLN.out; have := H40.out; omega) hk)
  rw [hzt, hmt] at HD10
  rw [hzt, hmt, hm0] at HFO
  have HCA : Hid ((es ++ rs).length ≤ 140737488355328 ∧ ([] : List UInt8).length + es.length ≤ 140737488355328 ∧ es.length + rs.length ≤ 140737488355328) := by
    rw [List.length_append, List.length_nil]; have := HLN.out; have := H40.out; exact ⟨by omega, by omega, by omega⟩
  obtain ⟨LR, hLR⟩ : ∃ n, rs.length = n := ⟨_, rfl⟩
  have HLR := Lib.hid hLR
  have HM0 := Lib.hid hm0
  clear hzt hmt hLR hm0
  have tok1 : True := trivial
  go_enter Tryz.func5, Tryz.ntmps5
  go_upto_if 41 with (first
    | (go_at_call 13; refine (wi_speaks _ T0.out.kd).mono ?_; rintro E w1 ⟨rfl, o1⟩
       have T1 := Lib.hid (T0.out.keep o1)
       clear o1)
    | (go_at_call 14; refine (lw_few _ m _ _ _ _ T1.out.ml).mono ?_; rintro E w2 ⟨rfl, o2⟩; rw [HFE.out]
       have T2 := Lib.hid (T1.out.keep o2)
       clear o2)
    | (go_at_call 15; refine (HG.out _ T2.out).mono ?_; rintro E w3 ⟨rfl, o3⟩
       have T3 := Lib.hid (T2.out.keep o3)
       clear o3)
    | (have _t := T3; refine wpl_load rfl 31 _ rfl W.heap.size rfl 31 #[.int .i64 m.kd, .int .i64 m.pe, .int .i64 m.hp, .bool m.hi, .slice P1 m.ps.length p1, .int .i64 m.nu, .int .u64 (m.su : Int), .int .i64 m.mr.a.c, .int .i64 m.mr.a.s, .string m.mr.k, .slice P2 m.ms.length p2, .slice P3 m.es.length p3] _ T3.out.bx Tryz.underlying31 rfl (by kernel_rfl) ?_)
    | (have _t := tok1; refine wpl_load_if (by rfl) 31 _ rfl W.heap.size rfl 31 #[.int .i64 m.kd, .int .i64 m.pe, .int .i64 m.hp, .bool m.hi, .slice P1 m.ps.length p1, .int .i64 m.nu, .int .u64 (m.su : Int), .int .i64 m.mr.a.c, .int .i64 m.mr.a.s, .string m.mr.k, .slice P2 m.ms.length p2, .slice P3 m.es.length p3] _ (by first | exact T2.out.bx | exact T1.out.bx) Tryz.underlying31 rfl (by kernel_rfl) ?_)
    | (go_at_call 17; refine (lw_of _ m _ _ _ _ T3.out.ml HLF.out).mono ?_; rintro E w4 ⟨um, ue, rfl, l4, o4⟩
       obtain ⟨R1, r1, Q2, q2, Q3, q3, ea, eb, ec⟩ := l4.shape
       clear ea
       subst eb ec
       have L4 := Lib.hid l4
       have T4 := Lib.hid (T3.out.keep o4)
       clear l4 o4)
    | (go_at_call 16; refine (HEN.out _ _ _ _ T4.out.kd L4.out).mono ?_; rintro E w5 ⟨A5, n5, c5, rfl, own5, o5⟩
       obtain rfl : L5 = n5 := by have := own_n2 own5; rw [HL5.out] at this; exact this.symm
       have B5 := Lib.hid (Byt.of_own own5)
       have T5 := Lib.hid (T4.out.keep o5)
       have Z5 : Hid (W.heap.size ≤ w4.heap.size) := T4.out.ho.size
       have W5 := Lib.hid own5
       clear own5 o5))
  go_cut [9, 10] (fun s9 s10 w' => Only none_ w5 w')
  case first =>
    by_cases h0 : 0 < L5
    · have hnz : (L5 : Int) ≠ 0 := by omega
      have hnz2 : L5 ≠ 0 := by omega
      obtain ⟨z, hz⟩ : ∃ z, Int.tmod at_ (L5 : Int) = z := ⟨_, rfl⟩
      have hz2 : 0 ≤ z ∧ z < L5 := by
        have := HAT.out
        rw [Int.tmod_eq_emod_of_nonneg this.1] at hz
        exact ⟨by rw [← hz]; exact Int.emod_nonneg _ (by omega), by rw [← hz]; exact Int.emod_lt_of_pos _ (by omega)⟩
      have hwz : IntKind.i64.wrap at_ = at_ := IntWalk.i64_in _ (by have := HAT.out; omega)
      obtain ⟨k, hk⟩ : ∃ k : Nat, z = k := ⟨z.toNat, by omega⟩
      subst hk
      have HCU := HCUT.out k (by have := HL5.out; omega)
      have hcl : (es.take k).length ≤ 100000 := by rw [List.length_take]; have := HLN.out; omega
      have HD6 := Lib.hid (fun (A : Option Addr) (n c : Nat) (S : Nat → Prop) (w : World) (h : Byt w S (.slice A n c) (es.take k)) (hk : Kd w) => HDE.out m.kd A n c (es.take k) S w h hcl hk)
      rw [HCU.1, HCU.2, HM0.out] at HD6
      have HKL : Hid (k ≤ L5) := by rw [Hid]; omega
      clear HCU hcl HCUT hz2
      obtain ⟨A6, hrun, hbt⟩ := byt_hi Tryz.underlying35 hi0 B5.out k HKL.out (k : Int) rfl
      have B6 := Lib.hid hbt
      have HD7 := Lib.hid (fun (w : World) (o : Only none_ w5 w) => HD6.out A6 k c5 _ w (B6.out.only o (fun _ _ h => h)) (T5.out.kd.keep o))
      clear hbt
      go_upto_region 7 with fail
      go_cut [9, 10] (fun s9 s10 w' => ∃ g, s9 = .pointer (some ⟨g, 0, none⟩) ∧ s10 = .int .i64 6 ∧ ∃ vp vm ve, Blk w' g 45 #[.int .i64 m0.kd, .int .i64 m0.pe, .int .i64 m0.hp, .bool m0.hi, vp, .int .i64 m0.nu, .int .u64 (m0.su : Int), .int .i64 m0.mr.a.c, .int .i64 m0.mr.a.s, .string m0.mr.k, vm, ve] ∧ Ml (fun _ => True) m0 vp vm ve w' ∧ Only none_ w5 w')
      case rest =>
        obtain ⟨g7, rfl, rfl, vp7, vm7, ve7, x7, l7, o7⟩ := hcut
        have O7c := Lib.hid o7; have T7 := Lib.hid (T5.out.keep o7)
        have X7 := Lib.hid x7
        have L7 := Lib.hid l7
        have B7 := Lib.hid (B5.out.only o7 (fun _ _ h => h))
        clear x7 l7 o7 hrun hnz hnz2 hz hwz h0
        go_wp2_with (first
          | (refine wpl_load_if (by rfl) 45 _ rfl g7 rfl 45 #[.int .i64 m0.kd, .int .i64 m0.pe, .int .i64 m0.hp, .bool m0.hi, vp7, .int .i64 m0.nu, .int .u64 (m0.su : Int), .int .i64 m0.mr.a.c, .int .i64 m0.mr.a.s, .string m0.mr.k, vm7, ve7] _ X7.out Tryz.underlying45 rfl (by kernel_rfl) ?_)
          | (go_at_call 25; refine (lw_to _ m0 _ _ _ _ L7.out SM0.out.2).mono ?_; rintro E w8 ⟨um8, ue8, rfl, l8, o8⟩
             have L8 := Lib.hid l8
             have O8 := Lib.hid (O7c.out.trans o8); have T8 := Lib.hid (T7.out.keep o8)
             have B8 := Lib.hid (B7.out.only o8 (fun _ _ h => h))
             clear l8 o8)
          | (go_at_call 20; refine (HSZ.out _ _ _ _ _ L8.out).mono ?_; rintro E w9 ⟨rfl, o9⟩
             have O9 := Lib.hid (O8.out.trans o9); have T9 := Lib.hid (T8.out.keep o9)
             have B9 := Lib.hid (B8.out.only o9 (fun _ _ h => h))
             clear o9))
        go_meet
        exact O9.out
      case first =>
        have KZ := T5.out.bx.drew.cell_ (i := 0) rfl
        have KZ2 := ((T5.out.bx.alloc (.cells #[.int .i64 0, .int .i64 0, .int .i64 0, .bool false, .slice none 0 0, .int .i64 0, .int .u64 0, .int .i64 0, .int .i64 0, .string ⟨#[]⟩, .slice none 0 0, .slice none 0 0] 45))).drew.cell_ (i := 0) rfl
        have BN := Lib.hid (Blk.drew (Blk.new w5 45 #[.int .i64 0, .int .i64 0, .int .i64 0, .bool false, .slice none 0 0, .int .i64 0, .int .u64 0, .int .i64 0, .int .i64 0, .string ⟨#[]⟩, .slice none 0 0, .slice none 0 0]))
        go_region_law (first
          | (refine step_call7 (by simp [Region.wanted]) 23 #[.int .i64 m.kd, .slice A6 k c5] (by go_simp; try (with_reducible rfl)) ?_
             refine (HD7.out _ (by first | exact (Only.refl none_ w5).drew | exact ((Only.refl none_ w5).alloc _).drew)).mono ?_
             rintro E w7 ⟨vp7, vm7, ve7, rfl, l7, o7⟩
             obtain ⟨D1, d1, D2, d2, D3, d3, g1, g2, g3⟩ := l7.shape
             subst g1 g2 g3
             refine ⟨_, rfl, ?_⟩
             have O7 : Hid (Only none_ w5 w7) := by first | exact ((Only.refl none_ w5).drew).trans o7 | exact (((Only.refl none_ w5).alloc _).drew).trans o7
             have L7 := Lib.hid l7
             try (have B1 := Lib.hid (BN.out.only o7 (fun h => h)); have q1 := twelve_of B1.out; have z1 := frozen12 B1.out)
             have B2 := Lib.hid (Blk.new w7 45 #[.int .i64 0, .int .i64 0, .int .i64 0, .bool false, .slice none 0 0, .int .i64 0, .int .u64 0, .int .i64 0, .int .i64 0, .string ⟨#[]⟩, .slice none 0 0, .slice none 0 0])
             have q2 := twelve_of B2.out
             have z2 := frozen12 B2.out
             clear o7 l7))
        all_goals go_wp2_with fail
        all_goals go_meet
        all_goals first
          | with_reducible exact ⟨_, rfl, rfl, _, _, _, Blk.new w7 _ _, (L7.out.mono (fun _ _ _ => trivial)).keep ((Only.refl none_ w7).alloc _), O7.out.alloc _⟩
          | with_reducible exact ⟨_, rfl, rfl, _, _, _, fill12_blk B1.out _ _ _ _ _ _ _ _ _ _ _ _, fill12_ml L7.out (fun b hb => Nat.ne_of_gt (Nat.lt_of_lt_of_le BN.out.lt hb)) _ _ _ _ _ _ _ _ _ _ _ _, fill12_only O7.out (Nat.le_refl _) _ _ _ _ _ _ _ _ _ _ _ _⟩
    · have hd6 : decide (0 < L5) = false := by simp; omega
      try rw [hd6]
      go_wp2_with fail
      go_meet
      exact Only.refl _ _
  case rest =>
    obtain ⟨w9, hw9⟩ : ∃ x, x = wc := ⟨_, rfl⟩
    subst hw9
    have T9 := Lib.hid (T5.out.keep hcut)
    have B9 := Lib.hid (B5.out.only hcut (fun _ _ h => h))
    clear hcut HCUT T5 B5 T4 T3 T2 T1 T0 L4 Z5 W5
    go_upto_region 10 with fail
    obtain ⟨zag, hzag⟩ : ∃ x, Value.agg #[.int .i64 m.kd, .int .i64 m.pe, .int .i64 m.hp, .bool m.hi, .slice P1 m.ps.length p1, .int .i64 m.nu, .int .u64 (m.su : Int), .int .i64 m.mr.a.c, .int .i64 m.mr.a.s, .string m.mr.k, .slice P2 m.ms.length p2, .slice P3 m.es.length p3] = x := ⟨_, rfl⟩
    rw [hzag]
    clear hzag
    go_cut [11, 12] (fun s11 s12 w' => ∃ g, s11 = .pointer (some ⟨g, 0, none⟩) ∧ s12 = .int .i64 zt ∧ ∃ vp vm ve, Blk w' g 45 #[.int .i64 mt.kd, .int .i64 mt.pe, .int .i64 mt.hp, .bool mt.hi, vp, .int .i64 mt.nu, .int .u64 (mt.su : Int), .int .i64 mt.mr.a.c, .int .i64 mt.mr.a.s, .string mt.mr.k, vm, ve] ∧ Ml (fun _ => True) mt vp vm ve w' ∧ Only none_ w9 w')
    case rest =>
      obtain ⟨ga, rfl, rfl, vpa, vma, vea, xa, la, oa⟩ := hcut
      have TA := Lib.hid (T9.out.keep oa)
      have XA := Lib.hid xa
      obtain ⟨D1, d1, D2, d2, D3, d3, g1, g2, g3⟩ := la.shape
      subst g1 g2 g3
      have LA := Lib.hid la
      clear xa la oa
      by_cases hr : rs.length = 0
      · obtain rfl : zt = 0 := by have := HFO.out.1; rw [if_pos hr] at this; exact this
        obtain rfl : m = mt := by have := HFO.out.2; rw [if_pos hr] at this; exact this.symm
        go_wp2_with fail
        (refine wp_region_free (fun X => Only none_ wc X) (Only none_) (F := ?_) (by kernel_rfl) 94 (by rfl) (by kernel_rfl) (fun x => ?_) ((Only.refl none_ wc).drew) ?_; rotate_left; (· (simp only [putsL, Act.put, List.setIfInBounds_toArray, List.set_cons_zero, List.set_cons_succ, Nat.reduceAdd]; exact rfl)))
        ((first | refine fr_value (c := ?_) (by rfl) (fun w => Only.refl none_ w) (fun x w0 hS hk => ?_) ?_ | refine fr_value_if (c := ?_) (by rfl) (by rfl) (by rfl) (fun w => Only.refl none_ w) (fun x w0 hS hk => ?_) ?_); rotate_left; (· (have hk2 := hk; (try simp [knAll, Region.binds] at hk2); skip; go_simp; try (with_reducible rfl))); try simp only [List.nil_append, List.cons_append])
        ((first | refine fr_value (c := ?_) (by rfl) (fun w => Only.refl none_ w) (fun x w0 hS hk => ?_) ?_ | refine fr_value_if (c := ?_) (by rfl) (by rfl) (by rfl) (fun w => Only.refl none_ w) (fun x w0 hS hk => ?_) ?_); rotate_left; (· (have hk2 := hk; (try simp [knAll, Region.binds] at hk2); skip; go_simp; try (with_reducible rfl))); try simp only [List.nil_append, List.cons_append])
        ((first | refine fr_value (c := ?_) (by rfl) (fun w => Only.refl none_ w) (fun x w0 hS hk => ?_) ?_ | refine fr_value_if (c := ?_) (by rfl) (by rfl) (by rfl) (fun w => Only.refl none_ w) (fun x w0 hS hk => ?_) ?_); rotate_left; (· (have hk2 := hk; (try simp [knAll, Region.binds] at hk2); skip; go_simp; try (with_reducible rfl))); try simp only [List.nil_append, List.cons_append])
        ((first | refine fr_value (c := ?_) (by rfl) (fun w => Only.refl none_ w) (fun x w0 hS hk => ?_) ?_ | refine fr_value_if (c := ?_) (by rfl) (by rfl) (by rfl) (fun w => Only.refl none_ w) (fun x w0 hS hk => ?_) ?_); rotate_left; (· (have hk2 := hk; (try simp [knAll, Region.binds] at hk2); obtain ⟨y0, y1, y2, y3, y4, y5, y6, y7, y8, y9, y10, y11⟩ := twelve_of (XA.out.only hS (fun h => h)); go_simp; try (with_reducible rfl))); try simp only [List.nil_append, List.cons_append])
        ((first | refine fr_some (fun v X => ∃ um ue, v = .agg #[.int .i64 m.kd, .int .i64 m.pe, .int .i64 m.hp, .bool m.hi, .slice D1 m.ps.length d1, .int .i64 m.nu, .int .u64 (m.su : Int), .int .i64 m.mr.a.c, .int .i64 m.mr.a.s, .string m.mr.k, um, ue] ∧ Ml (fun _ => True) m (.slice D1 m.ps.length d1) um ue X) (fun _ _ _ _ _ r ⟨um, ue, h1, h2⟩ => ⟨um, ue, h1, h2.keep r⟩) (by rfl) (fun x w0 hS hk => ?_) ?_ | refine fr_some_if (fun v X => ∃ um ue, v = .agg #[.int .i64 m.kd, .int .i64 m.pe, .int .i64 m.hp, .bool m.hi, .slice D1 m.ps.length d1, .int .i64 m.nu, .int .u64 (m.su : Int), .int .i64 m.mr.a.c, .int .i64 m.mr.a.s, .string m.mr.k, um, ue] ∧ Ml (fun _ => True) m (.slice D1 m.ps.length d1) um ue X) (fun _ _ _ _ _ r ⟨um, ue, h1, h2⟩ => ⟨um, ue, h1, h2.keep r⟩) (by rfl) (by rfl) (by rfl) (fun x w0 hS hk => ?_) ?_); (· (have hk2 := hk; (try simp [knAll, Region.binds] at hk2); skip; refine got_call (f := 25) (args := ?_) (by go_simp; try (with_reducible rfl)) ?_; refine (lw_to _ m _ _ _ _ (LA.out.keep hS) HLF.out).mono ?_; rintro E w9 ⟨um, ue, rfl, l9, o9⟩; exact ⟨_, rfl, ⟨um, ue, rfl, l9.mono (fun _ _ _ => trivial)⟩, hS.trans o9, o9⟩)); try simp only [List.nil_append, List.cons_append])
        ((first | refine fr_value (c := ?_) (by rfl) (fun w => Only.refl none_ w) (fun x w0 hS hk => ?_) ?_ | refine fr_value_if (c := ?_) (by rfl) (by rfl) (by rfl) (fun w => Only.refl none_ w) (fun x w0 hS hk => ?_) ?_); rotate_left; (· (have hk2 := hk; (try simp [knAll, Region.binds] at hk2); obtain ⟨y0, y1, y2, y3, y4, y5, y6, y7, y8, y9, y10, y11⟩ := twelve_of (TA.out.bx.only hS (fun h => h)); go_simp; try (with_reducible rfl))); try simp only [List.nil_append, List.cons_append])
        ((first | refine fr_some (fun v _ => v = .bool true) (fun _ _ _ _ _ _ h => h) (by rfl) (fun x w0 hS hk => ?_) ?_ | refine fr_some_if (fun v _ => v = .bool true) (fun _ _ _ _ _ _ h => h) (by rfl) (by rfl) (by rfl) (fun x w0 hS hk => ?_) ?_); (· (have hk2 := hk; (try simp [knAll, Region.binds] at hk2); obtain ⟨u1, u2, e1, l1⟩ := kn_at (j := 4) (by rfl) hk (by rfl); simp only [e1]; refine got_call (f := 20) (args := ?_) (by go_simp; try (with_reducible rfl)) ?_; refine (HSE.out _ _ _ _ _ _ _ _ _ l1 (TA.out.ml.keep hS)).mono ?_; rintro E w9 ⟨rfl, o9⟩; exact ⟨_, rfl, rfl, hS.trans o9, o9⟩)); try simp only [List.nil_append, List.cons_append])
        ((first | refine fr_value (c := ?_) (by rfl) (fun w => Only.refl none_ w) (fun x w0 hS hk => ?_) ?_ | refine fr_value_if (c := ?_) (by rfl) (by rfl) (by rfl) (fun w => Only.refl none_ w) (fun x w0 hS hk => ?_) ?_); rotate_left; (· (have hk2 := hk; (try simp [knAll, Region.binds] at hk2); skip; go_simp; try (with_reducible rfl))); try simp only [List.nil_append, List.cons_append])
        ((first | refine fr_value (c := ?_) (by rfl) (fun w => Only.refl none_ w) (fun x w0 hS hk => ?_) ?_ | refine fr_value_if (c := ?_) (by rfl) (by rfl) (by rfl) (fun w => Only.refl none_ w) (fun x w0 hS hk => ?_) ?_); rotate_left; (· (have hk2 := hk; (try simp [knAll, Region.binds] at hk2); skip; go_simp; try (with_reducible rfl))); try simp only [List.nil_append, List.cons_append])
        (refine fr_end ?_; intro x w9 hS hk)
        have e8 := kn_end_at 8 hk (by rfl)
        rw [Nat.zero_add] at e8
        clear hk
        go_wp2_with fail
        go_ret
        exact ⟨by show Ending.returned (x 8) = _; rw [e8], (TA.out.ho.trans hS).below (Nat.le_refl _) (fun k hk => hk.elim)⟩
      · obtain rfl : zt = 4 := by have := HFO.out.1; rw [if_neg hr] at this; exact this
        obtain rfl : m0 = mt := by have := HFO.out.2; rw [if_neg hr] at this; exact this.symm
        have hrb : ((rs.length : Int) == 0) = false := beq_eq_false_iff_ne.2 (by omega)
        go_wp2_with (first
          | (refine wpl_load_if (by rfl) 45 _ rfl ga rfl 45 #[.int .i64 m0.kd, .int .i64 m0.pe, .int .i64 m0.hp, .bool m0.hi, .slice D1 m0.ps.length d1, .int .i64 m0.nu, .int .u64 (m0.su : Int), .int .i64 m0.mr.a.c, .int .i64 m0.mr.a.s, .string m0.mr.k, .slice D2 m0.ms.length d2, .slice D3 m0.es.length d3] _ XA.out Tryz.underlying45 rfl (by kernel_rfl) ?_)
          | (go_at_call 25; refine (lw_to _ m0 _ _ _ _ LA.out SM0.out.2).mono ?_; rintro E wb ⟨umb, ueb, rfl, lb, ob⟩
             have LB := Lib.hid lb
             have TB := Lib.hid (TA.out.keep ob)
             clear lb ob)
          | (go_at_call 20; refine (HSZ.out _ _ _ _ _ LB.out).mono ?_; rintro E wd ⟨rfl, od⟩
             have TD := Lib.hid (TB.out.keep od)
             clear od))
        go_ret
        exact ⟨rfl, TD.out.ho.below (Nat.le_refl _) (fun k hk => hk.elim)⟩
    case first =>
      try clear HSZ
      try clear HSE
      try clear HFO
      try clear HDE
      try clear HEN
      try clear HG
      try clear HSU
      try clear HLF
      try clear HL4
      try clear HFW
      try clear HFE
      try clear HGO
      try clear HAT
      try clear H40
      try clear HLN
      try clear HCUT
      try clear HD6
      try clear HD7
      try clear SM0
      try clear HKL
      try clear HLR
      try clear T0
      try clear T1
      try clear T2
      try clear T3
      try clear T4
      try clear L4
      try clear Z5
      try clear W5
      try clear B6
      try clear T7
      try clear X7
      try clear L7
      try clear T8
      try clear B8
      try clear L8
      have k1 := T9.out.bx.drew.cell_ (i := 0) rfl
      have k2 := (T9.out.bx.alloc (.cells #[] 5)).drew.cell_ (i := 0) rfl
      have k3 := (T9.out.bx.alloc (.cells #[.int .i64 0, .int .i64 0, .int .i64 0, .bool false, .slice none 0 0, .int .i64 0, .int .u64 0, .int .i64 0, .int .i64 0, .string ⟨#[]⟩, .slice none 0 0, .slice none 0 0] 45)).drew.cell_ (i := 0) rfl
      have k4 := ((T9.out.bx.alloc (.cells #[] 5)).alloc (.cells #[.int .i64 0, .int .i64 0, .int .i64 0, .bool false, .slice none 0 0, .int .i64 0, .int .u64 0, .int .i64 0, .int .i64 0, .string ⟨#[]⟩, .slice none 0 0, .slice none 0 0] 45)).drew.cell_ (i := 0) rfl
      have k5 := ((T9.out.bx.alloc (.cells #[.int .i64 0, .int .i64 0, .int .i64 0, .bool false, .slice none 0 0, .int .i64 0, .int .u64 0, .int .i64 0, .int .i64 0, .string ⟨#[]⟩, .slice none 0 0, .slice none 0 0] 45)).alloc (.cells #[] 5)).drew.cell_ (i := 0) rfl
      have xP : Hid (((w9.alloc (.cells #[] 5)).drew).ownsRow w9.heap.size 5 1 (.slice (some ⟨w9.heap.size, 0, none⟩) 0 0) ([] : List UInt8).length (byts [])) := World.ownsRow_made w9 #[] 0 (Nat.le_refl _) (by simp [maxLen]) rfl
      have xQ : Hid ((((w9.alloc (.cells #[.int .i64 0, .int .i64 0, .int .i64 0, .bool false, .slice none 0 0, .int .i64 0, .int .u64 0, .int .i64 0, .int .i64 0, .string ⟨#[]⟩, .slice none 0 0, .slice none 0 0] 45)).alloc (.cells #[] 5)).drew).ownsRow (w9.heap.size + 1) 5 1 (.slice (some ⟨w9.heap.size + 1, 0, none⟩) 0 0) ([] : List UInt8).length (byts [])) := by
        have this : ((w9.alloc (.cells #[.int .i64 0, .int .i64 0, .int .i64 0, .bool false, .slice none 0 0, .int .i64 0, .int .u64 0, .int .i64 0, .int .i64 0, .string ⟨#[]⟩, .slice none 0 0, .slice none 0 0] 45)).alloc (.cells #[] 5)).ownsRow (w9.alloc (.cells #[.int .i64 0, .int .i64 0, .int .i64 0, .bool false, .slice none 0 0, .int .i64 0, .int .u64 0, .int .i64 0, .int .i64 0, .string ⟨#[]⟩, .slice none 0 0, .slice none 0 0] 45)).heap.size 5 1 (.slice (some ⟨(w9.alloc (.cells #[.int .i64 0, .int .i64 0, .int .i64 0, .bool false, .slice none 0 0, .int .i64 0, .int .u64 0, .int .i64 0, .int .i64 0, .string ⟨#[]⟩, .slice none 0 0, .slice none 0 0] 45)).heap.size, 0, none⟩) 0 0) ([] : List UInt8).length (byts []) := World.ownsRow_made (w9.alloc (.cells #[.int .i64 0, .int .i64 0, .int .i64 0, .bool false, .slice none 0 0, .int .i64 0, .int .u64 0, .int .i64 0, .int .i64 0, .string ⟨#[]⟩, .slice none 0 0, .slice none 0 0] 45)) #[] 0 (Nat.le_refl _) (by simp [maxLen]) rfl
        rw [World.size_alloc] at this
        exact this
      have xR : Hid ((((w9.alloc (.cells #[] 5)).alloc (.cells #[.int .i64 0, .int .i64 0, .int .i64 0, .bool false, .slice none 0 0, .int .i64 0, .int .u64 0, .int .i64 0, .int .i64 0, .string ⟨#[]⟩, .slice none 0 0, .slice none 0 0] 45)).drew).ownsRow w9.heap.size 5 1 (.slice (some ⟨w9.heap.size, 0, none⟩) 0 0) ([] : List UInt8).length (byts [])) := owns_only (w := w9.alloc (.cells #[] 5)) xP.out (((Only.refl none_ (w9.alloc (.cells #[] 5))).alloc (.cells #[.int .i64 0, .int .i64 0, .int .i64 0, .bool false, .slice none 0 0, .int .i64 0, .int .u64 0, .int .i64 0, .int .i64 0, .string ⟨#[]⟩, .slice none 0 0, .slice none 0 0] 45)).drew) (fun _ _ h => h)
      have bQ : Hid (Blk (((w9.alloc (.cells #[.int .i64 0, .int .i64 0, .int .i64 0, .bool false, .slice none 0 0, .int .i64 0, .int .u64 0, .int .i64 0, .int .i64 0, .string ⟨#[]⟩, .slice none 0 0, .slice none 0 0] 45)).alloc (.cells #[] 5)).drew) w9.heap.size 45 #[.int .i64 0, .int .i64 0, .int .i64 0, .bool false, .slice none 0 0, .int .i64 0, .int .u64 0, .int .i64 0, .int .i64 0, .string ⟨#[]⟩, .slice none 0 0, .slice none 0 0]) := ((Blk.new w9 45 #[.int .i64 0, .int .i64 0, .int .i64 0, .bool false, .slice none 0 0, .int .i64 0, .int .u64 0, .int .i64 0, .int .i64 0, .string ⟨#[]⟩, .slice none 0 0, .slice none 0 0]).alloc (.cells #[] 5)).drew
      have bR : Hid (Blk (((w9.alloc (.cells #[] 5)).alloc (.cells #[.int .i64 0, .int .i64 0, .int .i64 0, .bool false, .slice none 0 0, .int .i64 0, .int .u64 0, .int .i64 0, .int .i64 0, .string ⟨#[]⟩, .slice none 0 0, .slice none 0 0] 45)).drew) (w9.heap.size + 1) 45 #[.int .i64 0, .int .i64 0, .int .i64 0, .bool false, .slice none 0 0, .int .i64 0, .int .u64 0, .int .i64 0, .int .i64 0, .string ⟨#[]⟩, .slice none 0 0, .slice none 0 0]) := by
        have := Blk.new (w9.alloc (.cells #[] 5)) 45 #[.int .i64 0, .int .i64 0, .int .i64 0, .bool false, .slice none 0 0, .int .i64 0, .int .u64 0, .int .i64 0, .int .i64 0, .string ⟨#[]⟩, .slice none 0 0, .slice none 0 0]
        rw [World.size_alloc] at this
        exact this.drew
      have oP : Hid (Only none_ w9 ((w9.alloc (.cells #[] 5)).drew)) := ((Only.refl none_ w9).alloc (.cells #[] 5)).drew
      have oQ : Hid (Only none_ w9 (((w9.alloc (.cells #[.int .i64 0, .int .i64 0, .int .i64 0, .bool false, .slice none 0 0, .int .i64 0, .int .u64 0, .int .i64 0, .int .i64 0, .string ⟨#[]⟩, .slice none 0 0, .slice none 0 0] 45)).alloc (.cells #[] 5)).drew)) := (((Only.refl none_ w9).alloc (.cells #[.int .i64 0, .int .i64 0, .int .i64 0, .bool false, .slice none 0 0, .int .i64 0, .int .u64 0, .int .i64 0, .int .i64 0, .string ⟨#[]⟩, .slice none 0 0, .slice none 0 0] 45)).alloc (.cells #[] 5)).drew
      have oR : Hid (Only none_ w9 (((w9.alloc (.cells #[] 5)).alloc (.cells #[.int .i64 0, .int .i64 0, .int .i64 0, .bool false, .slice none 0 0, .int .i64 0, .int .u64 0, .int .i64 0, .int .i64 0, .string ⟨#[]⟩, .slice none 0 0, .slice none 0 0] 45)).drew)) := (((Only.refl none_ w9).alloc (.cells #[] 5)).alloc (.cells #[.int .i64 0, .int .i64 0, .int .i64 0, .bool false, .slice none 0 0, .int .i64 0, .int .u64 0, .int .i64 0, .int .i64 0, .string ⟨#[]⟩, .slice none 0 0, .slice none 0 0] 45)).drew
      have sP : Hid (w9.heap.size ≤ ((w9.alloc (.cells #[] 5)).drew).heap.size) := oP.out.size
      have sQ : Hid (w9.heap.size + 1 ≤ (((w9.alloc (.cells #[.int .i64 0, .int .i64 0, .int .i64 0, .bool false, .slice none 0 0, .int .i64 0, .int .u64 0, .int .i64 0, .int .i64 0, .string ⟨#[]⟩, .slice none 0 0, .slice none 0 0] 45)).alloc (.cells #[] 5)).drew).heap.size) := bQ.out.lt
      have sR : Hid (w9.heap.size ≤ (((w9.alloc (.cells #[] 5)).alloc (.cells #[.int .i64 0, .int .i64 0, .int .i64 0, .bool false, .slice none 0 0, .int .i64 0, .int .u64 0, .int .i64 0, .int .i64 0, .string ⟨#[]⟩, .slice none 0 0, .slice none 0 0] 45)).drew).heap.size) := oR.out.size
      go_region_law (first
        | (refine step_append_byt _ rfl (.tmp 67) (.tmp 68) _ rfl w9.heap.size 5 i0 (.int .u8 0) Tryz.underlying35 hi0 hz0 hz1 hz2 rfl (.slice (some ⟨w9.heap.size, 0, none⟩) 0 0) [] rfl (by exact xP.out) _ _ es rfl (by exact B9.out.only oP.out (fun _ _ h => h)) HCA.out.2.1 (by exact sP.out) ?_
           intro A4 n4 c4 w4 hown4 hgrow4 hmv4
           have O4 : Hid (Only none_ w9 w4) := oP.out.grown hgrow4 (fun k hk => .inr (by simp [Value.ownBlock] at hk; omega))
           obtain rfl : L5 = n4 := by have := own_n2 hown4; rw [List.nil_append, HL5.out] at this; exact this.symm
           rw [List.nil_append] at hown4
           have H4 : Hid (w4.ownsRow w9.heap.size 5 1 (.slice A4 L5 c4) es.length (byts es)) := own_base hown4 (by first | exact Nat.le_refl _ | exact Nat.le_succ _)
           have k6 := (T9.out.bx.only O4.out (fun h => h)).cell_ (i := 0) rfl
           have k7 := ((T9.out.bx.only O4.out (fun h => h)).alloc (.cells #[.int .i64 0, .int .i64 0, .int .i64 0, .bool false, .slice none 0 0, .int .i64 0, .int .u64 0, .int .i64 0, .int .i64 0, .string ⟨#[]⟩, .slice none 0 0, .slice none 0 0] 45)).cell_ (i := 0) rfl
           clear hown4 hgrow4 hmv4)
        | (refine step_append_byt _ rfl (.tmp 67) (.tmp 68) _ rfl (w9.heap.size + 1) 5 i0 (.int .u8 0) Tryz.underlying35 hi0 hz0 hz1 hz2 rfl (.slice (some ⟨w9.heap.size + 1, 0, none⟩) 0 0) [] rfl (by exact xQ.out) _ _ es rfl (by exact B9.out.only oQ.out (fun _ _ h => h)) HCA.out.2.1 (by exact sQ.out) ?_
           intro A4 n4 c4 w4 hown4 hgrow4 hmv4
           have B4 := Lib.hid (bQ.out.grown' hgrow4 (own_blk_ne xQ.out bQ.out (by decide)))
           have O4 : Hid (Only none_ w9 w4) := oQ.out.grown hgrow4 (fun k hk => .inr (by simp [Value.ownBlock] at hk; omega))
           obtain rfl : L5 = n4 := by have := own_n2 hown4; rw [List.nil_append, HL5.out] at this; exact this.symm
           rw [List.nil_append] at hown4
           have H4 : Hid (w4.ownsRow w9.heap.size 5 1 (.slice A4 L5 c4) es.length (byts es)) := own_base hown4 (by first | exact Nat.le_refl _ | exact Nat.le_succ _)
           have k6 := (T9.out.bx.only O4.out (fun h => h)).cell_ (i := 0) rfl
           have k7 := ((T9.out.bx.only O4.out (fun h => h)).alloc (.cells #[.int .i64 0, .int .i64 0, .int .i64 0, .bool false, .slice none 0 0, .int .i64 0, .int .u64 0, .int .i64 0, .int .i64 0, .string ⟨#[]⟩, .slice none 0 0, .slice none 0 0] 45)).cell_ (i := 0) rfl
           clear hown4 hgrow4 hmv4)
        | (refine step_append_byt _ rfl (.tmp 67) (.tmp 68) _ rfl w9.heap.size 5 i0 (.int .u8 0) Tryz.underlying35 hi0 hz0 hz1 hz2 rfl (.slice (some ⟨w9.heap.size, 0, none⟩) 0 0) [] rfl (by exact xR.out) _ _ es rfl (by exact B9.out.only oR.out (fun _ _ h => h)) HCA.out.2.1 (by exact sR.out) ?_
           intro A4 n4 c4 w4 hown4 hgrow4 hmv4
           have B4 := Lib.hid (bR.out.grown' hgrow4 (own_blk_ne xR.out bR.out (by decide)))
           have O4 : Hid (Only none_ w9 w4) := oR.out.grown hgrow4 (fun k hk => .inr (by simp [Value.ownBlock] at hk; omega))
           obtain rfl : L5 = n4 := by have := own_n2 hown4; rw [List.nil_append, HL5.out] at this; exact this.symm
           rw [List.nil_append] at hown4
           have H4 : Hid (w4.ownsRow w9.heap.size 5 1 (.slice A4 L5 c4) es.length (byts es)) := own_base hown4 (by first | exact Nat.le_refl _ | exact Nat.le_succ _)
           have k6 := (T9.out.bx.only O4.out (fun h => h)).cell_ (i := 0) rfl
           have k7 := ((T9.out.bx.only O4.out (fun h => h)).alloc (.cells #[.int .i64 0, .int .i64 0, .int .i64 0, .bool false, .slice none 0 0, .int .i64 0, .int .u64 0, .int .i64 0, .int .i64 0, .string ⟨#[]⟩, .slice none 0 0, .slice none 0 0] 45)).cell_ (i := 0) rfl
           clear hown4 hgrow4 hmv4)
        | (refine step_append_byt _ rfl (.tmp 69) (.tmp 70) _ rfl w9.heap.size 5 i0 (.int .u8 0) Tryz.underlying35 hi0 hz0 hz1 hz2 rfl (.slice A4 L5 c4) es rfl (by exact H4.out) _ _ rs rfl (by exact T9.out.by_.only O4.out (fun _ _ h => h)) HCA.out.2.2 (by exact O4.out.size) ?_
           intro A6 n6 c6 w6 hown6 hgrow6 hmv6
           try (have C6 := Lib.hid (B4.out.grown' hgrow6 (own_blk_ne H4.out B4.out (by decide))))
           have O6 : Hid (Only none_ w9 w6) := O4.out.grown hgrow6 (fun k hk => .inr (H4.out.lt k hk).1)
           have Y6 := Lib.hid (Byt.of_own hown6)
           have k8 := (T9.out.bx.only O6.out (fun h => h)).cell_ (i := 0) rfl
           have k9 := ((T9.out.bx.only O6.out (fun h => h)).alloc (.cells #[.int .i64 0, .int .i64 0, .int .i64 0, .bool false, .slice none 0 0, .int .i64 0, .int .u64 0, .int .i64 0, .int .i64 0, .string ⟨#[]⟩, .slice none 0 0, .slice none 0 0] 45)).cell_ (i := 0) rfl
           clear hown6 hgrow6 hmv6)
        | (refine step_append_byt _ rfl (.tmp 69) (.tmp 70) _ rfl w9.heap.size 5 i0 (.int .u8 0) Tryz.underlying35 hi0 hz0 hz1 hz2 rfl (.slice A4 L5 c4) es rfl (by exact owns_only H4.out ((Only.refl none_ w4).alloc (.cells #[.int .i64 0, .int .i64 0, .int .i64 0, .bool false, .slice none 0 0, .int .i64 0, .int .u64 0, .int .i64 0, .int .i64 0, .string ⟨#[]⟩, .slice none 0 0, .slice none 0 0] 45)) (fun _ _ h => h)) _ _ rs rfl (by exact T9.out.by_.only (O4.out.alloc (.cells #[.int .i64 0, .int .i64 0, .int .i64 0, .bool false, .slice none 0 0, .int .i64 0, .int .u64 0, .int .i64 0, .int .i64 0, .string ⟨#[]⟩, .slice none 0 0, .slice none 0 0] 45)) (fun _ _ h => h)) HCA.out.2.2 (by exact (O4.out.alloc (.cells #[.int .i64 0, .int .i64 0, .int .i64 0, .bool false, .slice none 0 0, .int .i64 0, .int .u64 0, .int .i64 0, .int .i64 0, .string ⟨#[]⟩, .slice none 0 0, .slice none 0 0] 45)).size) ?_
           intro A6 n6 c6 w6 hown6 hgrow6 hmv6
           have h4b := owns_only H4.out ((Only.refl none_ w4).alloc (.cells #[.int .i64 0, .int .i64 0, .int .i64 0, .bool false, .slice none 0 0, .int .i64 0, .int .u64 0, .int .i64 0, .int .i64 0, .string ⟨#[]⟩, .slice none 0 0, .slice none 0 0] 45)) (fun _ _ h => h)
           have C6 := Lib.hid ((Blk.new w4 45 #[.int .i64 0, .int .i64 0, .int .i64 0, .bool false, .slice none 0 0, .int .i64 0, .int .u64 0, .int .i64 0, .int .i64 0, .string ⟨#[]⟩, .slice none 0 0, .slice none 0 0]).grown' hgrow6 (own_blk_ne h4b (Blk.new w4 45 #[.int .i64 0, .int .i64 0, .int .i64 0, .bool false, .slice none 0 0, .int .i64 0, .int .u64 0, .int .i64 0, .int .i64 0, .string ⟨#[]⟩, .slice none 0 0, .slice none 0 0]) (by decide)))
           have O6 : Hid (Only none_ w9 w6) := (O4.out.alloc (.cells #[.int .i64 0, .int .i64 0, .int .i64 0, .bool false, .slice none 0 0, .int .i64 0, .int .u64 0, .int .i64 0, .int .i64 0, .string ⟨#[]⟩, .slice none 0 0, .slice none 0 0] 45)).grown hgrow6 (fun k hk => .inr (h4b.lt k hk).1)
           clear h4b
           have Y6 := Lib.hid (Byt.of_own hown6)
           have k8 := (T9.out.bx.only O6.out (fun h => h)).cell_ (i := 0) rfl
           have k9 := ((T9.out.bx.only O6.out (fun h => h)).alloc (.cells #[.int .i64 0, .int .i64 0, .int .i64 0, .bool false, .slice none 0 0, .int .i64 0, .int .u64 0, .int .i64 0, .int .i64 0, .string ⟨#[]⟩, .slice none 0 0, .slice none 0 0] 45)).cell_ (i := 0) rfl
           clear hown6 hgrow6 hmv6)
        | (refine step_call7 (by simp [Region.wanted]) 23 #[.int .i64 m.kd, .slice A6 n6 c6] (by go_simp; try (with_reducible rfl)) ?_
           refine (HD10.out _ _ _ _ w6 (by exact Y6.out) (by exact T9.out.kd.keep O6.out)).mono ?_
           rintro E w7 ⟨vpa, vma, vea, rfl, l7, o7⟩
           try (have E1 := Lib.hid C6.out; have B7 := Lib.hid (C6.out.only o7 (fun h => h)); have q1 := twelve_of B7.out; have z1 := frozen12 B7.out)
           have O7 : Hid (Only none_ w9 w7) := O6.out.trans o7
           obtain ⟨D1, d1, D2, d2, D3, d3, g1, g2, g3⟩ := l7.shape
           subst g1 g2 g3
           refine ⟨_, rfl, ?_⟩
           have L7 := Lib.hid l7
           have B8 := Lib.hid (Blk.new w7 45 #[.int .i64 0, .int .i64 0, .int .i64 0, .bool false, .slice none 0 0, .int .i64 0, .int .u64 0, .int .i64 0, .int .i64 0, .string ⟨#[]⟩, .slice none 0 0, .slice none 0 0])
           have q2 := twelve_of B8.out
           have z2 := frozen12 B8.out
           clear o7 l7)
        | (refine step_call7 (by simp [Region.wanted]) 23 #[.int .i64 m.kd, .slice A6 n6 c6] (by go_simp; try (with_reducible rfl)) ?_
           refine (HD10.out _ _ _ _ (w6.alloc (.cells #[.int .i64 0, .int .i64 0, .int .i64 0, .bool false, .slice none 0 0, .int .i64 0, .int .u64 0, .int .i64 0, .int .i64 0, .string ⟨#[]⟩, .slice none 0 0, .slice none 0 0] 45)) (by exact Y6.out.only ((Only.refl none_ w6).alloc (.cells #[.int .i64 0, .int .i64 0, .int .i64 0, .bool false, .slice none 0 0, .int .i64 0, .int .u64 0, .int .i64 0, .int .i64 0, .string ⟨#[]⟩, .slice none 0 0, .slice none 0 0] 45)) (fun _ _ h => h)) (by exact T9.out.kd.keep (O6.out.alloc (.cells #[.int .i64 0, .int .i64 0, .int .i64 0, .bool false, .slice none 0 0, .int .i64 0, .int .u64 0, .int .i64 0, .int .i64 0, .string ⟨#[]⟩, .slice none 0 0, .slice none 0 0] 45)))).mono ?_
           rintro E w7 ⟨vpa, vma, vea, rfl, l7, o7⟩
           have E1 := Lib.hid (Blk.new w6 45 #[.int .i64 0, .int .i64 0, .int .i64 0, .bool false, .slice none 0 0, .int .i64 0, .int .u64 0, .int .i64 0, .int .i64 0, .string ⟨#[]⟩, .slice none 0 0, .slice none 0 0])
           have B7 := Lib.hid ((Blk.new w6 45 #[.int .i64 0, .int .i64 0, .int .i64 0, .bool false, .slice none 0 0, .int .i64 0, .int .u64 0, .int .i64 0, .int .i64 0, .string ⟨#[]⟩, .slice none 0 0, .slice none 0 0]).only o7 (fun h => h))
           have q1 := twelve_of B7.out
           have z1 := frozen12 B7.out
           have O7 : Hid (Only none_ w9 w7) := (O6.out.alloc (.cells #[.int .i64 0, .int .i64 0, .int .i64 0, .bool false, .slice none 0 0, .int .i64 0, .int .u64 0, .int .i64 0, .int .i64 0, .string ⟨#[]⟩, .slice none 0 0, .slice none 0 0] 45)).trans o7
           obtain ⟨D1, d1, D2, d2, D3, d3, g1, g2, g3⟩ := l7.shape
           subst g1 g2 g3
           refine ⟨_, rfl, ?_⟩
           have L7 := Lib.hid l7
           have B8 := Lib.hid (Blk.new w7 45 #[.int .i64 0, .int .i64 0, .int .i64 0, .bool false, .slice none 0 0, .int .i64 0, .int .u64 0, .int .i64 0, .int .i64 0, .string ⟨#[]⟩, .slice none 0 0, .slice none 0 0])
           have q2 := twelve_of B8.out
           have z2 := frozen12 B8.out
           clear o7 l7))
      all_goals go_wp2_with fail
      all_goals go_meet
      all_goals first
        | with_reducible exact ⟨_, rfl, rfl, _, _, _, Blk.new w7 _ _, (L7.out.mono (fun _ _ _ => trivial)).keep ((Only.refl none_ w7).alloc _), O7.out.alloc _⟩
        | with_reducible exact ⟨_, rfl, rfl, _, _, _, fill12_blk B7.out _ _ _ _ _ _ _ _ _ _ _ _, fill12_ml L7.out (fun b hb => Nat.ne_of_gt (Nat.lt_of_lt_of_le E1.out.lt hb)) _ _ _ _ _ _ _ _ _ _ _ _, fill12_only O7.out (by first | exact Nat.le_refl _ | exact Nat.le_succ _ | exact O4.out.size | exact O6.out.size) _ _ _ _ _ _ _ _ _ _ _ _⟩
end Go.Proofs.YtlieolehpmobfaaGreatDoor
end
