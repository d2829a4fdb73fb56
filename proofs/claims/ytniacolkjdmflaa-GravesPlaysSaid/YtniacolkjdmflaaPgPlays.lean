/- The statement GravesPlays: for every site, every number of ticks, every slice of steps and every entry that is asked for the call returns true, and the arguments read afterwards as they read before. No condition. -/
import Derived.Test.YtniacolkjdmflaaPg9
import Derived.Test.YtniacolkjdmflaaPg10
import Derived.Test.YtniacolkjdmflaaPg14
import Derived.Test.YtniacolkjdmflaaPg11
import Derived.LoopTactic
import Derived.BigQuiet
import Derived.Test.YtniacolkjdmflaaPg7
import Derived.Test.YtniacolkjdmflaaPg5
import Derived.Deep.DeepCutAuto
import Derived.Test.YtniacolkjdmflaaPg6
import Derived.Test.YtniacolkjdmflaaPg20
import Derived.Test.YtniacolkjdmflaaPg16
import Derived.Test.YtniacolkjdmflaaPg18
import Derived.Test.YtniacolkjdmflaaPg17
import Derived.Test.YtniacolkjdmflaaPg2
import Derived.Test.YtniacolkjdmflaaPg19
section
namespace Go.Proofs.Ytniacolkjdmflaa
open Go.RowKit
set_option maxRecDepth 100000
set_option linter.all false

theorem same_str (a b : ByteArray) : (a.toList == b.toList) = decide (a = b) := by
  rw [Bool.eq_iff_iff, beq_iff_eq, decide_eq_true_eq]
  exact ⟨fun h => by
    have e : ∀ x : ByteArray, x.toList = x.data.toList := fun x => by
      rw [ByteArray.toList_eq]
    rw [e, e] at h
    exact key_ext h, fun h => by rw [h]⟩

set_option maxHeartbeats 1600000 in
theorem rg_find (S : Nat → Prop) (l : List En) (A : Option Addr) (n c : Nat) (x : ByteArray) (w : World) (h : Cel w S (.slice A n c) n 9 (l.flatMap enRow)) (hn : l.length = n) (hl : n ≤ 4096) :
    Calls Try.prog 21 #[.slice A n c, .string x] w fun e w' => e = .returned (.int .i64 (fndE l x)) ∧ w = w' := by
  have HC := Lib.hid h
  have HN := Lib.hid hn
  obtain ⟨f, hf⟩ : ∃ f, fndE l x = f := ⟨_, rfl⟩
  have HF := Lib.hid hf
  rw [hf]
  clear h hn hf
  go_enter Try.func21, Try.ntmps21
  go_wp2_with fail
  go_loop [5] (fun s5 => ∃ i : Nat, i ≤ n ∧ s5 = .int .i64 i ∧ ∀ j (hj : j < l.length), j < i → l[j].k ≠ x) (fun s5 => n - (intOf s5).toNat)
  case atStart => exact ⟨0, by omega, rfl, fun j _ h => absurd h (by omega)⟩
  case round =>
    obtain ⟨i, hi, rfl, hno⟩ := hrel
    have HNO := Lib.hid hno
    by_cases hlt : i < n
    · have hin : i < l.length := by have := HN.out; omega
      obtain ⟨b, off, hA, _, _, hc⟩ := in_elem enRow_length (by decide) HC.out HN.out (List.getElem?_eq_getElem hin)
      subst hA
      have hc0 : w.cell? ⟨b, off + i * 9, none⟩ = some (.string l[i].k) := hc _ (Only.refl _ _) 0 _ rfl
      have hbl := same_str l[i].k x
      by_cases he : l[i].k = x
      · have hfi : f = (i : Int) := by rw [← HF.out]; exact fndE_of i hin he HNO.out
        subst hfi
        rw [decide_eq_true he] at hbl
        generalize l[i].k = kk at hc0 hbl
        clear hno he hc
        go_wp2_with fail
        go_ret
        exact ⟨rfl, rfl⟩
      · have HE := Lib.hid he
        rw [decide_eq_false he] at hbl
        have HX : Hid (∀ j (hj : j < l.length), j < i + 1 → l[j].k ≠ x) := fun j hj hji => by
          rcases Nat.lt_or_ge j i with h | h
          · exact HNO.out j hj h
          · obtain rfl : j = i := by omega
            exact HE.out
        generalize l[i].k = kk at hc0 hbl
        clear hno he hc
        go_wp2_with fail
        go_round
        case rel => exact ⟨i + 1, by omega, by go_num, HX.out⟩
        case measure => simp [intOf]; omega
    · have hfi : f = -1 := by
        rw [← HF.out]
        refine fndE_none (fun y hy => ?_)
        obtain ⟨j, hj, rfl⟩ := List.mem_iff_getElem.1 hy
        exact hno j hj (by have := HN.out; omega)
      subst hfi
      clear hno
      go_wp2_with fail
      go_ret
      exact ⟨rfl, rfl⟩

set_option maxHeartbeats 3200000 in
theorem rg_same (S T : Nat → Prop) (l : List En) (A B : Option Addr) (n c d : Nat) (w : World) (ha : Cel w S (.slice A n c) n 9 (l.flatMap enRow)) (hb : Cel w T (.slice B n d) n 9 (l.flatMap enRow)) (hn : l.length = n) (hl : n ≤ 4096) :
    Calls Try.prog 26 #[.slice A n c, .slice B n d] w fun e w' => e = .returned (.bool true) ∧ Only none_ w w' := by
  have HA := Lib.hid ha
  have HB := Lib.hid hb
  have HN := Lib.hid hn
  clear ha hb hn
  go_enter Try.func26, Try.ntmps26
  go_wp2_with fail
  go_loopw [5] (fun s5 wr => ∃ i : Nat, i ≤ n ∧ s5 = .int .i64 i ∧ Only none_ w wr) (fun s5 _ => n - (intOf s5).toNat)
  case atStart => exact ⟨0, by omega, rfl, Only.refl _ _⟩
  case round =>
    obtain ⟨i, hi, rfl, o⟩ := hrel
    have O := Lib.hid o
    by_cases hlt : i < n
    · obtain ⟨p, hp⟩ : ∃ p, l[i]? = some p := ⟨l[i]'(by have := HN.out; omega), List.getElem?_eq_getElem _⟩
      obtain ⟨a0, off0, hA, _, _, ca⟩ := in_elem enRow_length (by decide) HA.out HN.out hp
      obtain ⟨b0, off1, hB, _, _, cb⟩ := in_elem enRow_length (by decide) HB.out HN.out hp
      subst hA hB
      have hne := fun w => neq_of (eq_ref_entry w p p 9997)
      rw [enEq_refl] at hne
      have x0 := ca _ o 0 _ rfl
      have x1 := ca _ o 1 _ rfl
      have x2 := ca _ o 2 _ rfl
      have x3 := ca _ o 3 _ rfl
      have x4 := ca _ o 4 _ rfl
      have x5 := ca _ o 5 _ rfl
      have x6 := ca _ o 6 _ rfl
      have x7 := ca _ o 7 _ rfl
      have x8 := ca _ o 8 _ rfl
      have y0 := cb _ o 0 _ rfl
      have y1 := cb _ o 1 _ rfl
      have y2 := cb _ o 2 _ rfl
      have y3 := cb _ o 3 _ rfl
      have y4 := cb _ o 4 _ rfl
      have y5 := cb _ o 5 _ rfl
      have y6 := cb _ o 6 _ rfl
      have y7 := cb _ o 7 _ rfl
      have y8 := cb _ o 8 _ rfl
      rw [Nat.add_zero] at x0 y0
      clear o ca cb hp
      obtain ⟨k, v, d, s, a, g1, g2⟩ := p
      simp only [] at hne x0 x1 x2 x3 x4 x5 x6 x7 x8 y0 y1 y2 y3 y4 y5 y6 y7 y8
      go_wp2_with fail
      go_quiet (fail)
      go_wp2_with fail
      go_roundw
      case rel => exact ⟨i + 1, by omega, by go_num, O.out.drewN _⟩
      case measure => simp [intOf]; omega
    · clear o
      go_wp2_with fail
      go_ret
      exact ⟨rfl, O.out⟩
end Go.Proofs.Ytniacolkjdmflaa
end
section
namespace Go.Proofs.Ytniacolkjdmflaa
open Go.RowKit
set_option maxRecDepth 100000
set_option linter.all false

theorem fnd_ways (l : List En) (k : ByteArray) : (fndE l k = -1 ∧ lookE l k = none) ∨ ∃ (i : Nat) (x : En), l[i]? = some x ∧ fndE l k = (i : Int) ∧ lookE l k = some x ∧ x.k = k := by
  cases h : lookE l k with
  | none =>
    refine .inl ⟨fndE_none fun x hx e => ?_, rfl⟩
    have := List.find?_eq_none.1 h x hx
    simp [e] at this
  | some x =>
    obtain ⟨hp, i, hi, e, hb⟩ := List.find?_eq_some_iff_getElem.1 h
    have hk : x.k = k := by simpa using hp
    refine .inr ⟨i, x, by rw [List.getElem?_eq_getElem hi, e], fndE_of i hi (by rw [e]; exact hk) (fun j hj hji => ?_), rfl, hk⟩
    have := hb j hji
    simpa using this

set_option maxHeartbeats 6400000 in
theorem rg_over (S : Nat → Prop) (l : List En) (A : Option Addr) (n c : Nat) (site t2 : Int) (e : En) (w : World) (h : Cel w S (.slice A n c) n 9 (l.flatMap enRow)) (hn : l.length = n) (hl : n ≤ 4096) :
    Calls Try.prog 24 #[.agg #[.int .i64 site, .int .i64 t2, .slice A n c], .agg #[.string e.k, .string e.v, .bool e.d, .int .i64 e.s.c, .int .i64 e.s.s, .int .i64 e.a.c, .int .i64 e.a.s, .int .i64 e.p, .int .i64 e.g]] w fun E w' => E = .returned (.bool (overE l e)) ∧ Only none_ w w' := by
  obtain ⟨w2, hw2⟩ : ∃ w2, (w.alloc (.cells #[.int .i64 site, .int .i64 t2, .slice A n c] 36)).alloc (.cells #[.string e.k, .string e.v, .bool e.d, .int .i64 e.s.c, .int .i64 e.s.s, .int .i64 e.a.c, .int .i64 e.a.s, .int .i64 e.p, .int .i64 e.g] 26) = w2 := ⟨_, rfl⟩
  have HW2 := Lib.hid hw2
  have o2 : Only none_ w w2 := by rw [← hw2]; exact ((Only.refl none_ w).alloc _).alloc _
  have O2 := Lib.hid o2
  have BG : Hid (Blk w2 w.heap.size 36 #[.int .i64 site, .int .i64 t2, .slice A n c]) := by rw [Hid, ← hw2]; exact (Blk.new w _ _).alloc _
  have BE : Hid (Blk w2 (w.heap.size + 1) 26 #[.string e.k, .string e.v, .bool e.d, .int .i64 e.s.c, .int .i64 e.s.s, .int .i64 e.a.c, .int .i64 e.a.s, .int .i64 e.p, .int .i64 e.g]) := by rw [Hid, ← hw2]; have := Blk.new (w.alloc (.cells #[.int .i64 site, .int .i64 t2, .slice A n c] 36)) 26 #[.string e.k, .string e.v, .bool e.d, .int .i64 e.s.c, .int .i64 e.s.s, .int .i64 e.a.c, .int .i64 e.a.s, .int .i64 e.p, .int .i64 e.g]; rwa [World.size_alloc] at this
  have hfd := rg_find S l A n c e.k w2 (h.only o2 (fun _ _ h => h)) hn hl
  have HCA := Lib.hid (h.only o2 (fun _ _ h => h))
  have HN := Lib.hid hn
  have hlk : overE l e = match lookE l e.k with
    | none => false
    | some was => stLater was.s e.s := rfl
  rcases fnd_ways l e.k with ⟨h1, h2⟩ | ⟨i, x, hx, h1, h2, h3⟩
  · rw [h1] at hfd
    rw [h2] at hlk
    rw [hlk]
    have HFD := Lib.hid hfd
    obtain ⟨g0, hg0⟩ : ∃ b, w.heap.size = b := ⟨_, rfl⟩
    have HG0 := Lib.hid hg0
    rw [hg0] at BG BE
    clear h hn o2 hw2 hfd h1 h2 hlk hg0 HCA
    have a2 := BG.out.cell_ (i := 2) rfl
    have e0 := BE.out.cell_ (i := 0) rfl
    go_enter Try.func24, Try.ntmps24
    go_upto_region 1 with fail
    rw [HW2.out, HG0.out]
    go_wp2_with (first
      | (go_at_call 21; refine (HFD.out).mono ?_; rintro E w3 ⟨rfl, rfl⟩))
    (refine wp_region_steady (fun w' => Only none_ w2 w') 14 (by kernel_rfl) (by kernel_rfl) ((Only.refl none_ w2).drew) ?_; simp only [List.take_succ_cons, List.take_zero, List.drop_succ_cons, List.drop_zero])
    repeat (first
      | (refine sd_value (v := ?_) (by rfl) (fun w0 hS => ?_) ?_; rotate_left; (· (skip; go_simp; try (with_reducible rfl))); try simp only [Act.put, List.setIfInBounds_toArray, List.set_cons_zero, List.set_cons_succ])
      | (refine sd_skip (by rfl) ?_; try simp only [Act.put, List.setIfInBounds_toArray, List.set_cons_zero, List.set_cons_succ]))
    refine sd_nil ?_
    intro w5 t5
    go_wp2_with fail
    go_ret
    exact ⟨rfl, O2.out.trans t5⟩
  · rw [h1] at hfd
    rw [h2] at hlk
    rw [hlk]
    have HFD := Lib.hid hfd
    obtain ⟨b, off, hA, _, _, hc⟩ := in_elem enRow_length (by decide) HCA.out HN.out hx
    subst hA
    have HCX : Hid (∀ w', Only none_ w2 w' → w'.cell? ⟨b, off + i * 9 + 3, none⟩ = some (.int .i64 x.s.c) ∧ w'.cell? ⟨b, off + i * 9 + 4, none⟩ = some (.int .i64 x.s.s)) := fun w' o => ⟨hc w' o 3 _ rfl, hc w' o 4 _ rfl⟩
    have HLT : Hid (∀ X, _) := fun X => rf_later x.s.c x.s.s e.s.c e.s.s X
    have hin : i < n := by
      obtain ⟨hi, _⟩ := List.getElem?_eq_some_iff.1 hx
      omega
    have hin0 : (0 : Int) ≤ (i : Int) := by omega
    have hini : (i : Int) < (n : Int) := by omega
    obtain ⟨g0, hg0⟩ : ∃ b, w.heap.size = b := ⟨_, rfl⟩
    have HG0 := Lib.hid hg0
    rw [hg0] at BG BE
    obtain ⟨lt, hlt⟩ : ∃ b, stLater x.s e.s = b := ⟨_, rfl⟩
    have HLR : Hid (∀ X, Calls Try.prog 29 #[.agg #[.int .i64 x.s.c, .int .i64 x.s.s], .agg #[.int .i64 e.s.c, .int .i64 e.s.s]] X fun E w' => E = .returned (.bool lt) ∧ Only none_ X w') := fun X => by
      have := HLT.out X
      rwa [show stLater ⟨x.s.c, x.s.s⟩ ⟨e.s.c, e.s.s⟩ = lt from hlt] at this
    show Calls _ _ _ _ fun E w' => E = .returned (.bool (stLater x.s e.s)) ∧ Only none_ w w'
    rw [hlt]
    clear h hn o2 hw2 hfd h1 h2 hlk hg0 HCA hc hx h3 hlt HLT hin
    have a2 := BG.out.cell_ (i := 2) rfl
    have e0 := BE.out.cell_ (i := 0) rfl
    go_enter Try.func24, Try.ntmps24
    go_upto_region 1 with fail
    rw [HW2.out, HG0.out]
    go_wp2_with (first
      | (go_at_call 21; refine (HFD.out).mono ?_; rintro E w3 ⟨rfl, rfl⟩))
    (refine wp_region_steady (fun w' => Only none_ w2 w') 14 (by kernel_rfl) (by kernel_rfl) ((Only.refl none_ w2).drew) ?_; simp only [List.take_succ_cons, List.take_zero, List.drop_succ_cons, List.drop_zero])
    repeat (first
      | (refine sd_value (v := ?_) (by rfl) (fun w0 hS => ?_) ?_; rotate_left; (· (have cx := HCX.out _ hS; have cx3 := cx.1; have cx4 := cx.2; have ga := (BG.out.only hS (fun h => h)).cell_ (i := 2) rfl; have ee := nine_of (BE.out.only hS (fun h => h)); go_simp; try (with_reducible rfl))); try simp only [Act.put, List.setIfInBounds_toArray, List.set_cons_zero, List.set_cons_succ])
      | (refine sd_call (v := ?_) (f := 29) (args := ?_) (by rfl) (fun w0 hS => ?_) (fun w0 hS => ?_) ?_; rotate_left 2; (· (skip; go_simp; try (with_reducible rfl))); (· (refine (HLR.out _).mono ?_; rintro E w9 ⟨rfl, o9⟩; refine ⟨?_, hS.trans o9⟩; rfl)); try simp only [Act.put, List.setIfInBounds_toArray, List.set_cons_zero, List.set_cons_succ])
      | (refine sd_skip (by rfl) ?_; try simp only [Act.put, List.setIfInBounds_toArray, List.set_cons_zero, List.set_cons_succ]))
    refine sd_nil ?_
    intro w5 t5
    go_wp2_with fail
    go_ret
    exact ⟨rfl, O2.out.trans t5⟩
end Go.Proofs.Ytniacolkjdmflaa
end
section
namespace Go.Proofs.Ytniacolkjdmflaa
open Go.RowKit
set_option maxRecDepth 100000
set_option linter.all false

theorem ref_info6 : (Try.prog.info? 26).map (fun i => (i.zero, i.size, i.bytes)) = some (some (.agg #[.string ⟨#[]⟩, .string ⟨#[]⟩, .bool false, .int .i64 0, .int .i64 0, .int .i64 0, .int .i64 0, .int .i64 0, .int .i64 0]), 9, 88) := by kernel_rfl
theorem row_one6 (e : En) : ∀ u ∈ enRow e, u.oneCell' = true := by
  intro u hu
  simp only [enRow, List.mem_cons, List.not_mem_nil, or_false] at hu
  rcases hu with rfl | rfl | rfl | rfl | rfl | rfl | rfl | rfl | rfl <;> rfl
theorem own_len6 {w : World} {base : Nat} {e : TypeId} {k n n' c : Nat} {A : Option Addr} {xs : List Value} (h : w.ownsRow base e k (.slice A n' c) n xs) : n' = n := by
  rcases h.2 with ⟨e1, h0⟩ | ⟨g, cap, cur, e1, _⟩
  · injection e1 with _ e2 _; omega
  · injection e1 with _ e2 _
theorem flat_en (d : List En) (p : En) : (d ++ [p]).flatMap enRow = d.flatMap enRow ++ enRow p := by rw [List.flatMap_append]; simp
theorem ge_str (a b : ByteArray) : (!Op.bytesLess a.toList b.toList) = !lt_ a b := by
  rw [Lib.toList_data, Lib.toList_data]; rfl

/-- A list of entries of the call's own, made since B. -/
structure Re (B : World) (v : Value) (l : List En) (w : World) : Prop where
  ow : w.ownsRow B.heap.size 26 9 v l.length (l.flatMap enRow)
  ho : Only none_ B w
theorem Re.keep {B w w' : World} {v : Value} {l : List En} (t : Re B v l w) (o : Only none_ w w') : Re B v l w' := ⟨owns_only t.ow o (fun _ _ h => h), t.ho.trans o⟩
theorem Re.app {B w w' : World} {v v' : Value} {l l' : List En} {n : Nat} {p : List Value} (t : Re B v l w) (own : w'.ownsRow B.heap.size 26 9 v' n p) (hn : n = l'.length) (hp : p = l'.flatMap enRow) (hg : w.grownBy w' v.ownBlock) : Re B v' l' w' := by
  subst hn hp
  exact ⟨own, t.ho.grown hg (fun k hk => .inr (t.ow.lt k hk).1)⟩
theorem Re.made (w : World) : Re w (.slice (some ⟨w.heap.size, 0, none⟩) 0 0) [] (w.alloc (.cells #[] 26)) :=
  ⟨own_made w w.heap.size 26 9 0 #[] (by simp) (by simp [maxLen]) (Nat.le_refl _), (Only.refl none_ w).alloc _⟩
theorem Re.shape {B w : World} {v : Value} {l : List En} (t : Re B v l w) : ∃ A c, v = .slice A l.length c := by
  rcases t.ow.2 with ⟨rfl, h0⟩ | ⟨_, _, _, rfl, _⟩
  · exact ⟨none, 0, by rw [h0]⟩
  · exact ⟨_, _, rfl⟩

def anyS (e : En) (l : List En) : Bool := l.any fun y => !lt_ y.k e.k
theorem anyS_snoc (e x : En) (l : List En) : anyS e (l ++ [x]) = (anyS e l || !lt_ x.k e.k) := by simp [anyS, List.any_append]
/-- What stands between the two ifs of a round. -/
def midS (e x : En) (l : List En) : List En := if anyS e l = true then setS e l else if lt_ x.k e.k = true then setS e l else setS e l ++ [e]
theorem set_mid (e x : En) (l : List En) : setS e (l ++ [x]) = if x.k = e.k then midS e x l else midS e x l ++ [x] := by
  rw [setS_snoc]
  unfold midS anyS
  by_cases h : (l.any fun y => !lt_ y.k e.k) = true
  · rw [if_pos h, if_pos h]
  · rw [if_neg h, if_neg h]
    by_cases hl : lt_ x.k e.k = true
    · rw [if_pos hl, if_pos hl, if_neg (lt_ne hl)]
    · rw [if_neg hl, if_neg hl]
theorem mid_len (e x : En) (l : List En) : (midS e x l).length ≤ l.length + 1 := by
  have h := setS_len e l
  unfold midS
  split
  · exact h
  · rename_i h1
    have e0 : setS e l = l := by unfold setS; rw [if_neg (show ¬ (l.any fun y => !lt_ y.k e.k) = true from h1)]
    split
    · exact h
    · rw [e0]; simp
theorem set_end (e : En) (l : List En) : setE e l = if anyS e l = true then setS e l else setS e l ++ [e] := by
  by_cases h : anyS e l = true
  · rw [if_pos h]; unfold setS; rw [if_pos (show (l.any fun y => !lt_ y.k e.k) = true from h)]
  · rw [if_neg h]
    have h' : anyS e l = false := by simpa using h
    rw [setE_none e l h']
    unfold setS
    rw [if_neg (by rw [show (l.any fun y => !lt_ y.k e.k) = false from h']; simp)]

set_option maxHeartbeats 12800000 in
theorem rg_set (S : Nat → Prop) (l : List En) (A : Option Addr) (n c : Nat) (e : En) (w : World) (h : Cel w S (.slice A n c) n 9 (l.flatMap enRow)) (hn : l.length = n) (hl : n ≤ 1000) :
    Calls Try.prog 49 #[.slice A n c, .agg #[.string e.k, .string e.v, .bool e.d, .int .i64 e.s.c, .int .i64 e.s.s, .int .i64 e.a.c, .int .i64 e.a.s, .int .i64 e.p, .int .i64 e.g]] w fun E w' => ∃ v', E = .returned v' ∧ w'.ownsRow w.heap.size 26 9 v' (setE e l).length ((setE e l).flatMap enRow) ∧ Only none_ w w' := by
  obtain ⟨i0, hi0, hz0, hz1, hz2⟩ := info_parts ref_info6
  have HC := Lib.hid h
  have HN := Lib.hid hn
  obtain ⟨b0, hb0⟩ : ∃ b0, w.heap.size = b0 := ⟨_, rfl⟩
  have HB0 := Lib.hid hb0
  obtain ⟨w1, hw1⟩ : ∃ w1, w.alloc (.cells #[.string e.k, .string e.v, .bool e.d, .int .i64 e.s.c, .int .i64 e.s.s, .int .i64 e.a.c, .int .i64 e.a.s, .int .i64 e.p, .int .i64 e.g] 26) = w1 := ⟨_, rfl⟩
  have HW1 := Lib.hid hw1
  have o1 : Only none_ w w1 := by rw [← hw1]; exact (Only.refl none_ w).alloc _
  have O1 := Lib.hid o1
  have BX : Hid (Blk w1 b0 26 #[.string e.k, .string e.v, .bool e.d, .int .i64 e.s.c, .int .i64 e.s.s, .int .i64 e.a.c, .int .i64 e.a.s, .int .i64 e.p, .int .i64 e.g]) := by rw [Hid, ← hw1, ← hb0]; exact Blk.new w _ _
  have HS1 : Hid (w1.heap.size = b0 + 1) := by rw [Hid, ← hw1, World.size_alloc, hb0]
  have R0 := Lib.hid (Re.made w1)
  rw [HS1.out] at R0
  have ONEM := Lib.hid (row_one6 e)
  have HSE := Lib.hid (set_end e)
  have HSM := Lib.hid (fun x l => set_mid e x l)
  have HML := Lib.hid (fun x l => mid_len e x l)
  have HAN := Lib.hid (fun x l => anyS_snoc e x l)
  have HFE := Lib.hid (fun d => flat_en d e)
  have HSL := Lib.hid (setS_len e)
  have HMD : Hid (∀ x l, midS e x l = if anyS e l = true then setS e l else if lt_ x.k e.k = true then setS e l else setS e l ++ [e]) := fun _ _ => rfl
  have HS0 : Hid (setS e [] = [] ∧ anyS e [] = false) := ⟨rfl, rfl⟩
  have HKB : Hid (∀ w', Only none_ w1 w' → w'.cell? ⟨b0, 0, none⟩ = some (.string e.k)) := fun w' o => (BX.out.only o (fun h => h)).cell_ (i := 0) rfl
  have HBX := Lib.hid (fun (w' : World) (o : Only none_ w1 w') => BX.out.only o (fun h => h))
  have CX := Lib.hid (en_cells_one e)
  clear h hn hb0 o1 hw1 BX
  go_enter Try.func49, Try.ntmps49
  go_wp2_with fail
  rw [HW1.out, HB0.out]
  go_loopw [5, 6, 7] (fun s5 s6 s7 wr => ∃ i : Nat, i ≤ n ∧ s7 = .int .i64 i ∧ s6 = .bool (anyS e (l.take i)) ∧ Re w1 s5 (setS e (l.take i)) wr) (fun _ _ s7 _ => n - (intOf s7).toNat)
  case atStart => exact ⟨0, by omega, rfl, by rw [List.take_zero, HS0.out.2], by rw [List.take_zero, HS0.out.1]; exact R0.out⟩
  case round =>
    obtain ⟨i, hi, rfl, rfl, r⟩ := hrel
    have RR := Lib.hid r
    by_cases hlt : i < n
    · have hin : i < l.length := by have := HN.out; omega
      obtain ⟨x, hx⟩ : ∃ x, l[i]? = some x := ⟨l[i], List.getElem?_eq_getElem _⟩
      have hty : l.take (i + 1) = l.take i ++ [x] := by
        rw [List.take_succ_eq_append_getElem hin]
        rw [List.getElem?_eq_getElem hin] at hx
        injection hx with hx
        rw [hx]
      obtain ⟨b, off, hA, _, _, hc⟩ := in_elem enRow_length (by decide) HC.out HN.out hx
      subst hA
      have HCX : Hid (∀ w', Only none_ w1 w' → ∀ j u, (#[.string x.k, .string x.v, .bool x.d, .int .i64 x.s.c, .int .i64 x.s.s, .int .i64 x.a.c, .int .i64 x.a.s, .int .i64 x.p, .int .i64 x.g] : Array Value).toList[j]? = some u → w'.cell? ⟨b, off + i * 9 + j, none⟩ = some u) := fun w' o j u hu => hc _ (O1.out.trans o) j u hu
      have HK : Hid (∀ w', Only none_ w1 w' → w'.cell? ⟨b, off + i * 9, none⟩ = some (.string x.k)) := fun w' o => HCX.out _ o 0 _ rfl
      have HSN : Hid (setS e (l.take (i + 1)) = if x.k = e.k then midS e x (l.take i) else midS e x (l.take i) ++ [x]) := by rw [Hid, hty, HSM.out]
      have HAS : Hid (anyS e (l.take (i + 1)) = (anyS e (l.take i) || !lt_ x.k e.k)) := by rw [Hid, hty, HAN.out]
      have HMX := HMD.out x (l.take i)
      have hml := HML.out x (l.take i)
      rw [List.length_take] at hml
      have hge := ge_str x.k e.k
      have hsl := HSL.out (l.take i)
      rw [List.length_take] at hsl
      obtain ⟨d, hd⟩ : ∃ d, setS e (l.take i) = d := ⟨_, rfl⟩
      rw [hd] at HMX hsl RR
      obtain ⟨A5, c5, hs5⟩ := r.shape
      rw [hd] at hs5
      subst hs5
      obtain ⟨D, hD⟩ : ∃ D, d.length = D := ⟨_, rfl⟩
      have HDL := Lib.hid hD
      rw [hD] at RR hsl ⊢
      have HLN1 : Hid (D + 1 ≤ maxLen ∧ (D + 1) * 88 ≤ 140737488355328) := by simp only [Hid, maxLen]; omega
      have k0 := HKB.out _ r.ho
      have q0 := HK.out _ r.ho
      obtain ⟨m, hm⟩ : ∃ m, midS e x (l.take i) = m := ⟨_, rfl⟩
      rw [hm] at HMX hml HSN
      have HML2 : Hid (m.length ≤ 1001) := by rw [Hid]; omega
      have HMM := Lib.hid HMX
      have HFX := Lib.hid (fun d => flat_en d x)
      have ONEX := Lib.hid (row_one6 x)
      have CXX := Lib.hid (en_cells_one x)
      generalize anyS e (l.take i) = an at HMM HAS ⊢
      have hki : (i : Int) < (n : Int) := by omega
      clear r hd hD hm hml hsl hty hx hc HMX HC HSM HML HAN HSL HMD HS0 HSE
      obtain ⟨la, hla⟩ : ∃ b, lt_ x.k e.k = b := ⟨_, rfl⟩
      rw [hla] at HMM HAS hge
      clear hla
      obtain ⟨bb, hbb⟩ : ∃ b, (!an && !la) = b := ⟨_, rfl⟩
      have HBB := Lib.hid hbb
      go_upto_region 6 with fail
      go_cut [26] (fun s26 w' => s26 = .bool bb ∧ Only none_ wr w')
      case rest =>
        obtain ⟨rfl, o2⟩ := hcut
        have OC := Lib.hid o2
        have RC := Lib.hid (RR.out.keep o2)
        clear o2 k0 q0 hge
        go_upto_if 26 with fail
        go_cut [5, 6] (fun s5 s6 w' => s6 = .bool (an || !la) ∧ Re w1 s5 m w')
        case rest =>
          obtain ⟨rfl, r2⟩ := hcut
          obtain ⟨A6, c6, hs6⟩ := r2.shape
          subst hs6
          obtain ⟨M, hM⟩ : ∃ M, m.length = M := ⟨_, rfl⟩
          have HM := Lib.hid hM
          rw [hM]
          have hm2 := HML2.out
          have R2 := Lib.hid r2
          rw [hM] at hm2 R2
          have HLN2 : Hid (M + 1 ≤ maxLen ∧ (M + 1) * 88 ≤ 140737488355328) := by simp only [Hid, maxLen]; omega
          have p0 := HKB.out _ r2.ho
          have p1 := HK.out _ r2.ho
          have hbl := same_str x.k e.k
          clear r2 hM hm2
          by_cases he : x.k = e.k
          · rw [decide_eq_true he] at hbl
            have HR : Hid (setS e (l.take (i + 1)) = m) := by rw [Hid, HSN.out, if_pos he]
            clear he
            go_upto_region 9 with fail
            go_quiet (fail)
            go_wp2_with fail
            go_roundw
            case rel => exact ⟨i + 1, by omega, by go_num, by rw [HAS.out], by rw [HR.out]; exact R2.out.keep ((Only.refl none_ _).drewN _)⟩
            case measure => simp [intOf]; omega
          · rw [decide_eq_false he] at hbl
            have HR : Hid (setS e (l.take (i + 1)) = m ++ [x]) := by rw [Hid, HSN.out, if_neg he]
            go_upto_region 9 with fail
            go_quiet (fail)
            have O3 : Hid (Only none_ wc (wc.drewN nq)) := (Only.refl none_ _).drewN _
            generalize wc.drewN nq = w3 at *
            have HCP : Hid (∀ j u, (#[.string x.k, .string x.v, .bool x.d, .int .i64 x.s.c, .int .i64 x.s.s, .int .i64 x.a.c, .int .i64 x.a.s, .int .i64 x.p, .int .i64 x.g] : Array Value).toList[j]? = some u → w3.cell? ⟨b, off + i * 9 + j, none⟩ = some u) := HCX.out _ (R2.out.ho.trans O3.out)
            have R3 := Lib.hid (R2.out.keep (O3.out.alloc (.cells #[.string x.k, .string x.v, .bool x.d, .int .i64 x.s.c, .int .i64 x.s.s, .int .i64 x.a.c, .int .i64 x.a.s, .int .i64 x.p, .int .i64 x.g] 26)))
            have C3 := Lib.hid (cel_made w3 26 9 1 #[.string x.k, .string x.v, .bool x.d, .int .i64 x.s.c, .int .i64 x.s.s, .int .i64 x.a.c, .int .i64 x.a.s, .int .i64 x.p, .int .i64 x.g] rfl (by simp [maxLen]))
            clear he p0 p1
            go_wp2_with (first
              | (with_reducible refine wpl_piece rfl 26 _ rfl b (off + i * 9) rfl #[.string x.k, .string x.v, .bool x.d, .int .i64 x.s.c, .int .i64 x.s.s, .int .i64 x.a.c, .int .i64 x.a.s, .int .i64 x.p, .int .i64 x.g] _ HCP.out Try.underlying26 rfl (by kernel_rfl) ?_)
              | (at_builtin; refine wpList_append_cel _ rfl (.tmp 39) (.tmp 44) 34 rfl (b0 + 1) 26 i0 _ 9 88 Try.underlying34 hi0 hz0 hz1 hz2 rfl (by omega) (.slice A6 M c6) M _ rfl (by have := R3.out.ow; rw [HM.out, HS1.out] at this; exact this) _ _ 1 _ rfl C3.out ONEX.out HLN2.out.1 HLN2.out.2 (by have := R3.out.ho.size; rw [HS1.out] at this; exact this) ?_
                 intro A7 n7 c7 w7 hown7 hgrow7 hmv7
                 have R7 : Hid (Re w1 (.slice A7 n7 c7) (m ++ [x]) w7) := R3.out.app (by rw [HS1.out]; exact hown7) (by rw [List.length_append, HM.out]; rfl) ((HFX.out _).symm) hgrow7
                 clear hown7 hgrow7 hmv7))
            go_roundw
            case rel => exact ⟨i + 1, by omega, by go_num, by rw [HAS.out], by rw [HR.out]; exact R7.out⟩
            case measure => simp [intOf]; omega
        case first =>
          clear HSN HAS HML2
          cases bb with
          | false =>
            have HMR : Hid (m = d ∧ (an || !la) = an) := by
              have h1 := HMM.out
              have h2 := HBB.out
              rw [Hid, h1]
              cases an <;> cases la <;> simp_all
            clear HBB hbb HMM
            go_wp2_with fail
            go_meet
            case rel => exact ⟨by rw [HMR.out.2], by rw [HMR.out.1]; exact RC.out⟩
          | true =>
            have HAF : Hid (an = false ∧ la = false) := by
              have h2 := HBB.out
              rw [Hid]
              cases an <;> cases la <;> simp_all
            obtain rfl := HAF.out.1
            obtain rfl := HAF.out.2
            clear HBB hbb
            have HMR : Hid (m = d ++ [e]) := by have := HMM.out; rw [if_neg (by simp), if_neg (by simp)] at this; rw [Hid, ← this]
            have BE := Lib.hid (HBX.out _ RC.out.ho)
            have R3 := Lib.hid (RC.out.keep ((Only.refl none_ _).alloc (.cells #[.string e.k, .string e.v, .bool e.d, .int .i64 e.s.c, .int .i64 e.s.s, .int .i64 e.a.c, .int .i64 e.a.s, .int .i64 e.p, .int .i64 e.g] 26)))
            have C3 := Lib.hid (cel_made wc 26 9 1 #[.string e.k, .string e.v, .bool e.d, .int .i64 e.s.c, .int .i64 e.s.s, .int .i64 e.a.c, .int .i64 e.a.s, .int .i64 e.p, .int .i64 e.g] rfl (by simp [maxLen]))
            go_wp2_with (first
              | (with_reducible refine wpl_load rfl 26 _ rfl b0 rfl _ #[.string e.k, .string e.v, .bool e.d, .int .i64 e.s.c, .int .i64 e.s.s, .int .i64 e.a.c, .int .i64 e.a.s, .int .i64 e.p, .int .i64 e.g] _ BE.out Try.underlying26 rfl (by kernel_rfl) ?_)
              | (at_builtin; refine wpList_append_cel _ rfl (.tmp 27) (.tmp 29) 34 rfl (b0 + 1) 26 i0 _ 9 88 Try.underlying34 hi0 hz0 hz1 hz2 rfl (by omega) (.slice A5 D c5) D _ rfl (by have := R3.out.ow; rw [HDL.out, HS1.out] at this; exact this) _ _ 1 _ rfl C3.out ONEM.out HLN1.out.1 HLN1.out.2 (by have := R3.out.ho.size; rw [HS1.out] at this; exact this) ?_
                 intro A7 n7 c7 w7 hown7 hgrow7 hmv7
                 have R7 : Hid (Re w1 (.slice A7 n7 c7) (d ++ [e]) w7) := R3.out.app (by rw [HS1.out]; exact hown7) (by rw [List.length_append, HDL.out]; rfl) ((HFE.out _).symm) hgrow7
                 clear hown7 hgrow7 hmv7))
            go_meet
            case rel => exact ⟨by simp, by rw [HMR.out]; exact R7.out⟩
      case first =>
        clear HSN HAS HML2 HMM HBB
        cases an with
        | true =>
          rw [Bool.not_true, Bool.false_and] at hbb
          subst hbb
          go_quiet (fail)
          go_wp2_with fail
          go_meet
          case rel => exact ⟨rfl, (Only.refl none_ _).drewN _⟩
        | false =>
          rw [Bool.not_false, Bool.true_and] at hbb
          subst hbb
          go_quiet (fail)
          go_wp2_with fail
          go_meet
          case rel => exact ⟨rfl, (Only.refl none_ _).drewN _⟩
    · have hin : l.take i = l := List.take_of_length_le (by have := HN.out; omega)
      rw [hin] at RR r ⊢
      have hse := HSE.out l
      obtain ⟨d, hd⟩ : ∃ d, setS e l = d := ⟨_, rfl⟩
      have hsl := HSL.out l
      rw [hd] at RR r hse hsl
      obtain ⟨A5, c5, hs5⟩ := r.shape
      subst hs5
      obtain ⟨D, hD⟩ : ∃ D, d.length = D := ⟨_, rfl⟩
      have HDL := Lib.hid hD
      rw [hD] at RR hsl ⊢
      have hd1 : D ≤ 1001 := by have := HN.out; omega
      have HLN1 : Hid (D + 1 ≤ maxLen ∧ (D + 1) * 88 ≤ 140737488355328) := by simp only [Hid, maxLen]; omega
      generalize anyS e l = an at hse ⊢
      clear r hin hd hD hsl
      cases an with
      | true =>
        rw [if_pos rfl] at hse
        have HE := Lib.hid hse
        clear hse
        go_wp2_with fail
        go_ret
        rw [HE.out, HDL.out]
        have ow := RR.out.ow
        rw [HDL.out] at ow
        exact ⟨_, rfl, owns_base ow O1.out.size, O1.out.trans RR.out.ho⟩
      | false =>
        rw [if_neg (by simp)] at hse
        have HE := Lib.hid hse
        clear hse
        have BE := Lib.hid (HBX.out _ RR.out.ho)
        have R3 := Lib.hid (RR.out.keep ((Only.refl none_ _).alloc (.cells #[.string e.k, .string e.v, .bool e.d, .int .i64 e.s.c, .int .i64 e.s.s, .int .i64 e.a.c, .int .i64 e.a.s, .int .i64 e.p, .int .i64 e.g] 26)))
        have C3 := Lib.hid (cel_made wr 26 9 1 #[.string e.k, .string e.v, .bool e.d, .int .i64 e.s.c, .int .i64 e.s.s, .int .i64 e.a.c, .int .i64 e.a.s, .int .i64 e.p, .int .i64 e.g] rfl (by simp [maxLen]))
        go_wp2_with (first
          | (with_reducible refine wpl_load rfl 26 _ rfl b0 rfl _ #[.string e.k, .string e.v, .bool e.d, .int .i64 e.s.c, .int .i64 e.s.s, .int .i64 e.a.c, .int .i64 e.a.s, .int .i64 e.p, .int .i64 e.g] _ BE.out Try.underlying26 rfl (by kernel_rfl) ?_)
          | (at_builtin; refine wpList_append_cel _ rfl (.tmp 48) (.tmp 50) 34 rfl (b0 + 1) 26 i0 _ 9 88 Try.underlying34 hi0 hz0 hz1 hz2 rfl (by omega) (.slice A5 D c5) D _ rfl (by have := R3.out.ow; rw [HDL.out, HS1.out] at this; exact this) _ _ 1 _ rfl C3.out ONEM.out HLN1.out.1 HLN1.out.2 (by have := R3.out.ho.size; rw [HS1.out] at this; exact this) ?_
             intro A7 n7 c7 w7 hown7 hgrow7 hmv7
             have R7 : Hid (Re w1 (.slice A7 n7 c7) (d ++ [e]) w7) := R3.out.app (by rw [HS1.out]; exact hown7) (by rw [List.length_append, HDL.out]; rfl) ((HFE.out _).symm) hgrow7
             clear hown7 hgrow7 hmv7))
        go_ret
        rw [HE.out]
        exact ⟨_, rfl, owns_base R7.out.ow O1.out.size, O1.out.trans R7.out.ho⟩
end Go.Proofs.Ytniacolkjdmflaa
end
section
namespace Go.Proofs.Ytniacolkjdmflaa
open Go.RowKit
set_option maxRecDepth 100000
set_option linter.all false

theorem gb_store_all {P : Program} {ops : Array Oper} {rest : List Oper} {o : Oper} {a : Act} {w : World} {Q : Exit → Act → World → Prop} (hgd : o.guard = none) (ty : TypeId) (x y : Operand) (ho : o.op = .store ty x y)
    (g : Nat) (cells : Array Value) (hx : a.eval x = .pointer (some ⟨g, 0, none⟩)) (hy : a.eval y = .agg cells)
    (t : TypeId) (old : Array Value) (hg : Blk w g t old) (hi : (P.info? ty).map (·.size) = some cells.size)
    (hold : old.size = cells.size) (h1 : cells.all (·.oneCell') = true)
    (h : wpList P ops Q rest (a.put o.dst undef) (w.setRow g cells)) : wpList P ops Q (o :: rest) a w :=
  wpList_store_row hgd ty x y ho g cells hx hy t old hg hi hold h1 h
/-- The boxes of a burial: the graves, the entry, what is told. -/
structure Bz (w : World) (b : Nat) (gs : Array Value) (e : En) (X : World) : Prop where
  x : Blk X b 36 gs
  y : Blk X (b + 1) 26 #[.string e.k, .string e.v, .bool e.d, .int .i64 e.s.c, .int .i64 e.s.s, .int .i64 e.a.c, .int .i64 e.a.s, .int .i64 e.p, .int .i64 e.g]
  z : Blk X (b + 1 + 1) 36 #[.int .i64 0, .int .i64 0, .slice none 0 0]
  ho : Only none_ w X
  ge : w.heap.size = b
theorem Bz.keep {w X X' : World} {b : Nat} {gs : Array Value} {e : En} (h : Bz w b gs e X) (o : Only none_ X X') : Bz w b gs e X' := ⟨h.x.only o (fun h => h), h.y.only o (fun h => h), h.z.only o (fun h => h), h.ho.trans o, h.ge⟩
theorem Bz.mk0 (w : World) (gs : Array Value) (e : En) : Bz w w.heap.size gs e (((w.alloc (.cells gs 36)).alloc (.cells #[.string e.k, .string e.v, .bool e.d, .int .i64 e.s.c, .int .i64 e.s.s, .int .i64 e.a.c, .int .i64 e.a.s, .int .i64 e.p, .int .i64 e.g] 26)).alloc (.cells #[.int .i64 0, .int .i64 0, .slice none 0 0] 36)) := by
  refine ⟨((Blk.new w _ _).alloc _).alloc _, ?_, ?_, (((Only.refl none_ w).alloc _).alloc _).alloc _, rfl⟩
  · have := (Blk.new (w.alloc (.cells gs 36)) 26 #[.string e.k, .string e.v, .bool e.d, .int .i64 e.s.c, .int .i64 e.s.s, .int .i64 e.a.c, .int .i64 e.a.s, .int .i64 e.p, .int .i64 e.g]).alloc (.cells #[.int .i64 0, .int .i64 0, .slice none 0 0] 36)
    rwa [World.size_alloc] at this
  · have := Blk.new ((w.alloc (.cells gs 36)).alloc (.cells #[.string e.k, .string e.v, .bool e.d, .int .i64 e.s.c, .int .i64 e.s.s, .int .i64 e.a.c, .int .i64 e.a.s, .int .i64 e.p, .int .i64 e.g] 26)) 36 #[.int .i64 0, .int .i64 0, .slice none 0 0]
    rwa [World.size_alloc, World.size_alloc] at this

set_option maxHeartbeats 6400000 in
theorem rg_bury_no (A : Option Addr) (n c : Nat) (site t2 : Int) (e : En) (w : World) (ht : takes (enDuty e site) t2 e = false) :
    Calls Try.prog 17 #[.agg #[.int .i64 site, .int .i64 t2, .slice A n c], .agg #[.string e.k, .string e.v, .bool e.d, .int .i64 e.s.c, .int .i64 e.s.s, .int .i64 e.a.c, .int .i64 e.a.s, .int .i64 e.p, .int .i64 e.g]] w fun E w' => E = .returned (.tuple #[.agg #[.int .i64 site, .int .i64 t2, .slice A n c], .bool false]) ∧ Only none_ w w' := by
  obtain ⟨w3, hw3⟩ : ∃ w3, (((w.alloc (.cells #[.int .i64 site, .int .i64 t2, .slice A n c] 36)).alloc (.cells #[.string e.k, .string e.v, .bool e.d, .int .i64 e.s.c, .int .i64 e.s.s, .int .i64 e.a.c, .int .i64 e.a.s, .int .i64 e.p, .int .i64 e.g] 26)).alloc (.cells #[.int .i64 0, .int .i64 0, .slice none 0 0] 36)) = w3 := ⟨_, rfl⟩
  have HW3 := Lib.hid hw3
  have Z0 : Hid (Bz w w.heap.size #[.int .i64 site, .int .i64 t2, .slice A n c] e w3) := by rw [Hid, ← hw3]; exact Bz.mk0 w _ e
  obtain ⟨b0, hb0⟩ : ∃ b, w.heap.size = b := ⟨_, rfl⟩
  have HB0 := Lib.hid hb0
  rw [hb0] at Z0
  have HCK := Lib.hid (fun (w' : World) => rf_check e w')
  have HDU : Hid (enCheck e = 0 → ∀ (w' : World), Calls Try.prog 30 #[.agg #[.string e.k, .string e.v, .bool e.d, .int .i64 e.s.c, .int .i64 e.s.s, .int .i64 e.a.c, .int .i64 e.a.s, .int .i64 e.p, .int .i64 e.g], .int .i64 site] w' fun E w2 => E = .returned (.bool (enDuty e site)) ∧ Only none_ w' w2) := fun hc w' => rf_duty e site w' (fun hd => by have := cert_of hc hd; omega)
  simp only [takes, Bool.and_eq_false_iff, decide_eq_false_iff_not] at ht
  clear hw3 hb0
  by_cases hc : enCheck e = 0
  · have HD2 := Lib.hid (HDU.out hc)
    rw [hc] at HCK
    clear HDU
    obtain ⟨dd, hdd⟩ : ∃ b, enDuty e site = b := ⟨_, rfl⟩
    rw [hdd] at HD2 ht
    cases dd with
    | false =>
      clear hdd ht hc
      go_enter Try.func17, Try.ntmps17
      go_upto_region 1 with fail
      rw [HW3.out, HB0.out]
      go_wp2_with (first
        | (with_reducible refine wpl_load rfl 26 _ rfl (b0 + 1) rfl _ #[.string e.k, .string e.v, .bool e.d, .int .i64 e.s.c, .int .i64 e.s.s, .int .i64 e.a.c, .int .i64 e.a.s, .int .i64 e.p, .int .i64 e.g] _ Z0.out.y Try.underlying26 rfl (by kernel_rfl) ?_)
        | (go_at_call 31; refine (HCK.out _).mono ?_; rintro E w4 ⟨rfl, o4⟩
           have Z1 := Lib.hid (Z0.out.keep o4)
           have g0 := Z1.out.x.cell_ (i := 0) rfl
           obtain ⟨y0, y1, y2, y3, y4, y5, y6, y7, y8⟩ := nine_of Z1.out.y
           clear o4)
        | (with_reducible refine wpl_load rfl 26 _ rfl (b0 + 1) rfl _ #[.string e.k, .string e.v, .bool e.d, .int .i64 e.s.c, .int .i64 e.s.s, .int .i64 e.a.c, .int .i64 e.a.s, .int .i64 e.p, .int .i64 e.g] _ Z1.out.y Try.underlying26 rfl (by kernel_rfl) ?_)
        | (go_at_call 30; refine (HD2.out _).mono ?_; rintro E w5 ⟨rfl, o5⟩
           have Z2 := Lib.hid (Z1.out.keep o5)
           clear o5)
        | (with_reducible refine wpl_load rfl 36 _ rfl b0 rfl _ #[.int .i64 site, .int .i64 t2, .slice A n c] _ Z2.out.x Try.underlying36 rfl (by kernel_rfl) ?_)
        | (with_reducible refine gb_store_all rfl 36 _ _ rfl (b0 + 1 + 1) #[.int .i64 site, .int .i64 t2, .slice A n c] rfl rfl _ _ Z2.out.z (by kernel_rfl) (by kernel_rfl) (by kernel_rfl) ?_))
      refine bodyPost_ret (results_cell_tmp rfl _ _ (b0 + 1 + 1) 36 _ _ rfl (Z2.out.z.setRow _) Try.underlying36 rfl (by kernel_rfl) (.bool false) rfl) rfl ?_
      exact ⟨rfl, Z2.out.ho.setRow (.inr (by rw [Z2.out.ge]; omega)) _⟩
    | true =>
      have hg : t2 ≤ e.g := by
        rcases ht with (h | h) | h
        · exact absurd hc h
        · cases h
        · omega
      clear hdd ht hc
      go_enter Try.func17, Try.ntmps17
      go_upto_region 1 with fail
      rw [HW3.out, HB0.out]
      go_wp2_with (first
        | (with_reducible refine wpl_load rfl 26 _ rfl (b0 + 1) rfl _ #[.string e.k, .string e.v, .bool e.d, .int .i64 e.s.c, .int .i64 e.s.s, .int .i64 e.a.c, .int .i64 e.a.s, .int .i64 e.p, .int .i64 e.g] _ Z0.out.y Try.underlying26 rfl (by kernel_rfl) ?_)
        | (go_at_call 31; refine (HCK.out _).mono ?_; rintro E w4 ⟨rfl, o4⟩
           have Z1 := Lib.hid (Z0.out.keep o4)
           have g0 := Z1.out.x.cell_ (i := 0) rfl
           obtain ⟨y0, y1, y2, y3, y4, y5, y6, y7, y8⟩ := nine_of Z1.out.y
           clear o4)
        | (with_reducible refine wpl_load rfl 26 _ rfl (b0 + 1) rfl _ #[.string e.k, .string e.v, .bool e.d, .int .i64 e.s.c, .int .i64 e.s.s, .int .i64 e.a.c, .int .i64 e.a.s, .int .i64 e.p, .int .i64 e.g] _ Z1.out.y Try.underlying26 rfl (by kernel_rfl) ?_)
        | (go_at_call 30; refine (HD2.out _).mono ?_; rintro E w5 ⟨rfl, o5⟩
           have Z2 := Lib.hid (Z1.out.keep o5)
           have g1 := Z2.out.x.cell_ (i := 1) rfl
           have z8 := Z2.out.y.cell_ (i := 8) rfl
           clear o5)
        | (with_reducible refine wpl_load rfl 36 _ rfl b0 rfl _ #[.int .i64 site, .int .i64 t2, .slice A n c] _ Z2.out.x Try.underlying36 rfl (by kernel_rfl) ?_)
        | (with_reducible refine gb_store_all rfl 36 _ _ rfl (b0 + 1 + 1) #[.int .i64 site, .int .i64 t2, .slice A n c] rfl rfl _ _ Z2.out.z (by kernel_rfl) (by kernel_rfl) (by kernel_rfl) ?_))
      refine bodyPost_ret (results_cell_tmp rfl _ _ (b0 + 1 + 1) 36 _ _ rfl (Z2.out.z.setRow _) Try.underlying36 rfl (by kernel_rfl) (.bool false) rfl) rfl ?_
      exact ⟨rfl, Z2.out.ho.setRow (.inr (by rw [Z2.out.ge]; omega)) _⟩
  · have hce : (enCheck e != 0) = true := by simpa using hc
    generalize enCheck e = ck at HCK hce hc
    clear HDU ht
    go_enter Try.func17, Try.ntmps17
    go_upto_region 1 with fail
    rw [HW3.out, HB0.out]
    go_wp2_with (first
      | (with_reducible refine wpl_load rfl 26 _ rfl (b0 + 1) rfl _ #[.string e.k, .string e.v, .bool e.d, .int .i64 e.s.c, .int .i64 e.s.s, .int .i64 e.a.c, .int .i64 e.a.s, .int .i64 e.p, .int .i64 e.g] _ Z0.out.y Try.underlying26 rfl (by kernel_rfl) ?_)
      | (go_at_call 31; refine (HCK.out _).mono ?_; rintro E w4 ⟨rfl, o4⟩
         have Z2 := Lib.hid (Z0.out.keep o4)
         clear o4)
      | (with_reducible refine wpl_load rfl 36 _ rfl b0 rfl _ #[.int .i64 site, .int .i64 t2, .slice A n c] _ Z2.out.x Try.underlying36 rfl (by kernel_rfl) ?_)
      | (with_reducible refine gb_store_all rfl 36 _ _ rfl (b0 + 1 + 1) #[.int .i64 site, .int .i64 t2, .slice A n c] rfl rfl _ _ Z2.out.z (by kernel_rfl) (by kernel_rfl) (by kernel_rfl) ?_))
    refine bodyPost_ret (results_cell_tmp rfl _ _ (b0 + 1 + 1) 36 _ _ rfl (Z2.out.z.setRow _) Try.underlying36 rfl (by kernel_rfl) (.bool false) rfl) rfl ?_
    exact ⟨rfl, Z2.out.ho.setRow (.inr (by rw [Z2.out.ge]; omega)) _⟩
end Go.Proofs.Ytniacolkjdmflaa
end
section
namespace Go.Proofs.Ytniacolkjdmflaa
open Go.RowKit
set_option maxRecDepth 100000
set_option linter.all false

theorem bury_none {duty : Bool} {t2 : Int} {l : List En} {e : En} (ht : takes duty t2 e = true) (h : lookE l e.k = none) : buryE duty t2 l e = (setE e l, true) := by
  unfold lookE at h
  unfold takes at ht
  unfold buryE
  rw [if_pos ht, h]
def newE (x e : En) : En := if stEq x.s e.s = true then gvTurn x e else e
theorem bury_some {duty : Bool} {t2 : Int} {l : List En} {e x : En} (ht : takes duty t2 e = true) (h : lookE l e.k = some x) : buryE duty t2 l e = if (stLater x.s (newE x e).s || enEq x (newE x e)) = true then (l, false) else (setE (newE x e) l, true) := by
  unfold lookE at h
  unfold takes at ht
  unfold buryE
  rw [if_pos ht, h]
  dsimp only
  unfold newE
  by_cases h2 : stEq x.s e.s = true
  · have h3 : stLater x.s e.s = false := by
      have := (stEq_iff _ _).1 h2
      rw [this]
      exact (later_false _ _).2 (by omega)
    have h4 : stLater x.s (gvTurn x e).s = false := (later_false _ _).2 (by show _ ; simp only [gvTurn]; omega)
    rw [if_pos h2, if_pos h2, h4, h3, Bool.false_or]
    rfl
  · have h5 : enEq x e = false := by
      cases h5 : enEq x e with
      | false => rfl
      | true =>
        have := (enEq_iff _ _).1 h5
        subst this
        exact absurd ((stEq_iff _ _).2 rfl) h2
    rw [if_neg h2, if_neg h2, h5, Bool.or_false]

/-- The boxes, and one of a grave that is turned. -/
structure Cz (w : World) (b : Nat) (gs : Array Value) (e : En) (h : Nat) (x : En) (X : World) : Prop where
  z : Bz w b gs e X
  k : Blk X h 26 #[.string x.k, .string x.v, .bool x.d, .int .i64 x.s.c, .int .i64 x.s.s, .int .i64 x.a.c, .int .i64 x.a.s, .int .i64 x.p, .int .i64 x.g]
  ge : b + 1 + 1 < h
theorem Cz.keep {w X X' : World} {b h : Nat} {gs : Array Value} {e x : En} (c : Cz w b gs e h x X) (o : Only none_ X X') : Cz w b gs e h x X' := ⟨c.z.keep o, c.k.only o (fun h => h), c.ge⟩
theorem Cz.turn {w X X' : World} {b h : Nat} {gs : Array Value} {e x x' : En} (c : Cz w b gs e h x X) (o : Only (one h) X X') (hk : Blk X' h 26 #[.string x'.k, .string x'.v, .bool x'.d, .int .i64 x'.s.c, .int .i64 x'.s.s, .int .i64 x'.a.c, .int .i64 x'.a.s, .int .i64 x'.p, .int .i64 x'.g]) : Cz w b gs e h x' X' :=
  ⟨⟨c.z.x.only o (fun e => by have := c.ge; have e' : b = h := e; omega), c.z.y.only o (fun e => by have := c.ge; have e' : b + 1 = h := e; omega), c.z.z.only o (fun e => by have := c.ge; have e' : b + 1 + 1 = h := e; omega), c.z.ho.trans' o (fun k hk e => by have := c.ge; have := c.z.ge; have e' : k = h := e; omega), c.z.ge⟩, hk, c.ge⟩
theorem shape_own {w : World} {base k n : Nat} {e : TypeId} {v : Value} {xs : List Value} (h : w.ownsRow base e k v n xs) : ∃ A c, v = .slice A n c := by
  rcases h.2 with ⟨rfl, h0⟩ | ⟨_, _, _, rfl, _⟩
  · exact ⟨none, 0, by rw [h0]⟩
  · exact ⟨_, _, rfl⟩

set_option maxHeartbeats 12800000 in
theorem rg_bury_yes (M : Nat) (l : List En) (A : Option Addr) (n c : Nat) (site t2 : Int) (e : En) (w : World) (ow : w.ownsRow M 26 9 (.slice A n c) n (l.flatMap enRow)) (hM : M ≤ w.heap.size) (hn : l.length = n) (hl : n ≤ 900) (ht : takes (enDuty e site) t2 e = true) :
    Calls Try.prog 17 #[.agg #[.int .i64 site, .int .i64 t2, .slice A n c], .agg #[.string e.k, .string e.v, .bool e.d, .int .i64 e.s.c, .int .i64 e.s.s, .int .i64 e.a.c, .int .i64 e.a.s, .int .i64 e.p, .int .i64 e.g]] w fun E w' => ∃ A' n' c', E = .returned (.tuple #[.agg #[.int .i64 site, .int .i64 t2, .slice A' n' c'], .bool (buryE (enDuty e site) t2 l e).2]) ∧ (buryE (enDuty e site) t2 l e).1.length = n' ∧ w'.ownsRow M 26 9 (.slice A' n' c') n' ((buryE (enDuty e site) t2 l e).1.flatMap enRow) ∧ Only none_ w w' := by
  obtain ⟨w3, hw3⟩ : ∃ w3, (((w.alloc (.cells #[.int .i64 site, .int .i64 t2, .slice A n c] 36)).alloc (.cells #[.string e.k, .string e.v, .bool e.d, .int .i64 e.s.c, .int .i64 e.s.s, .int .i64 e.a.c, .int .i64 e.a.s, .int .i64 e.p, .int .i64 e.g] 26)).alloc (.cells #[.int .i64 0, .int .i64 0, .slice none 0 0] 36)) = w3 := ⟨_, rfl⟩
  have HW3 := Lib.hid hw3
  have Z0 : Hid (Bz w w.heap.size #[.int .i64 site, .int .i64 t2, .slice A n c] e w3) := by rw [Hid, ← hw3]; exact Bz.mk0 w _ e
  obtain ⟨b0, hb0⟩ : ∃ b, w.heap.size = b := ⟨_, rfl⟩
  have HB0 := Lib.hid hb0
  rw [hb0] at Z0
  have HCK := Lib.hid (fun (w' : World) => rf_check e w')
  have ht' := ht
  simp only [takes, Bool.and_eq_true, decide_eq_true_eq] at ht'
  obtain ⟨⟨hc, hd⟩, hg⟩ := ht'
  have HDU := Lib.hid (fun (w' : World) => rf_duty e site w' (fun hd => by have := cert_of hc hd; omega))
  rw [hc] at HCK
  rw [hd] at HDU
  have hg2 : ¬ t2 ≤ e.g := by omega
  have hcel : Cel w (fun b => b < w.heap.size) (.slice A n c) n 9 (l.flatMap enRow) := (Cel.of_own ow).mono fun b hb hv => hb
  have HCEL := Lib.hid (fun (X : World) (o : Only none_ w X) => hcel.only o (fun _ _ h => h))
  have HOWN := Lib.hid (fun (X : World) (o : Only none_ w X) => owns_only ow o (fun _ _ h => h))
  have HN := Lib.hid hn
  have HMM := Lib.hid hM
  have HLL := Lib.hid hl
  have HFD := Lib.hid (fun (X : World) (o : Only none_ w X) => rg_find _ l A n c e.k X (hcel.only o (fun _ _ h => h)) hn (by omega))
  have HST := Lib.hid (fun (f : En) (X : World) (o : Only none_ w X) => rg_set _ l A n c f X (hcel.only o (fun _ _ h => h)) hn (by omega))
  rcases fnd_ways l e.k with ⟨h1, h2⟩ | ⟨i, x, hx, h1, h2, h3⟩
  · rw [bury_none ht h2]
    have HF1 := Lib.hid h1
    clear hw3 hb0 ht hd hg hcel ow hM hn hl h1 h2 hc
    go_enter Try.func17, Try.ntmps17
    go_upto_region 1 with fail
    rw [HW3.out, HB0.out]
    go_upto_region 4 with (first
      | (with_reducible refine wpl_load rfl 26 _ rfl (b0 + 1) rfl _ #[.string e.k, .string e.v, .bool e.d, .int .i64 e.s.c, .int .i64 e.s.s, .int .i64 e.a.c, .int .i64 e.a.s, .int .i64 e.p, .int .i64 e.g] _ Z0.out.y Try.underlying26 rfl (by kernel_rfl) ?_)
      | (go_at_call 31; refine (HCK.out _).mono ?_; rintro E w4 ⟨rfl, o4⟩
         have Z1 := Lib.hid (Z0.out.keep o4)
         have g0 := Z1.out.x.cell_ (i := 0) rfl
         obtain ⟨y0, y1, y2, y3, y4, y5, y6, y7, y8⟩ := nine_of Z1.out.y
         clear o4)
      | (go_at_call 30; refine (HDU.out _).mono ?_; rintro E w5 ⟨rfl, o5⟩
         have Z2 := Lib.hid (Z1.out.keep o5)
         have g1 := Z2.out.x.cell_ (i := 1) rfl
         have g2 := Z2.out.x.cell_ (i := 2) rfl
         obtain ⟨z0, z1, z2, z3, z4, z5, z6, z7, z8⟩ := nine_of Z2.out.y
         clear o5)
      | (go_at_call 21; refine (HFD.out _ Z2.out.ho).mono ?_; rw [HF1.out]; rintro E w6 ⟨rfl, rfl⟩))
    clear g0 y0 y1 y2 y3 y4 y5 y6 y7 y8 z0 z1 z2 z3 z4 z5 z6 z7 z8 g1 g2 HDU HCK HFD
    go_quiet (fail)
    have ZQ : Hid (Bz w b0 #[.int .i64 site, .int .i64 t2, .slice A n c] e (w5.drewN nq)) := Z2.out.keep ((Only.refl none_ w5).drewN _)
    generalize w5.drewN nq = w6 at *
    go_upto_region 11 with fail
    go_quiet (fail)
    have ZR : Hid (Bz w b0 #[.int .i64 site, .int .i64 t2, .slice A n c] e (w6.drewN nq)) := ZQ.out.keep ((Only.refl none_ w6).drewN _)
    generalize w6.drewN nq = w7 at *
    have x2 := ZR.out.x.cell_ (i := 2) rfl
    go_wp2_with (first
      | (with_reducible refine wpl_load rfl 26 _ rfl (b0 + 1) rfl _ #[.string e.k, .string e.v, .bool e.d, .int .i64 e.s.c, .int .i64 e.s.s, .int .i64 e.a.c, .int .i64 e.a.s, .int .i64 e.p, .int .i64 e.g] _ ZR.out.y Try.underlying26 rfl (by kernel_rfl) ?_)
      | (go_at_call 49; refine (HST.out e _ ZR.out.ho).mono ?_; rintro E w8 ⟨v8, rfl, own8, o8⟩
         obtain ⟨A8, c8, rfl⟩ := shape_own own8
         have Z8 := Lib.hid (ZR.out.keep o8)
         have OW8 := Lib.hid own8
         have k2 := Z8.out.x.cell_ (i := 2) rfl
         have f2 := Z8.out.x.frozen 2
         have SZ8 : Hid (b0 + 1 + 1 < w7.heap.size) := ZR.out.z.lt
         have X9 := Lib.hid (Z8.out.x.set_ 2 (.slice A8 (setE e l).length c8))
         have Y9 := Lib.hid (Z8.out.z.far (p := ⟨b0, 2, none⟩) (show b0 + 1 + 1 ≠ b0 by omega) (.slice A8 (setE e l).length c8))
         clear own8 o8)
      | (with_reducible refine wpl_load rfl 36 _ rfl b0 rfl _ #[.int .i64 site, .int .i64 t2, .slice A8 (setE e l).length c8] _ X9.out Try.underlying36 rfl (by kernel_rfl) ?_)
      | (with_reducible refine gb_store_all rfl 36 _ _ rfl (b0 + 1 + 1) #[.int .i64 site, .int .i64 t2, .slice A8 (setE e l).length c8] rfl rfl _ _ Y9.out (by kernel_rfl) (by kernel_rfl) (by kernel_rfl) ?_))
    refine bodyPost_ret (results_cell_tmp rfl _ _ (b0 + 1 + 1) 36 _ _ rfl (Y9.out.setRow _) Try.underlying36 rfl (by kernel_rfl) (.bool true) rfl) rfl ?_
    have o9 : Only (fun k => k = b0 ∨ k = b0 + 1 + 1) w8 ((w8.setCell ⟨b0, 2, none⟩ (.slice A8 (setE e l).length c8)).setRow (b0 + 1 + 1) #[.int .i64 site, .int .i64 t2, .slice A8 (setE e l).length c8]) := ((Only.refl _ w8).setCell (p := ⟨b0, 2, none⟩) (.inl (.inl rfl)) _).setRow (.inl (.inr rfl)) _
    exact ⟨_, _, _, rfl, rfl, owns_base (owns_only OW8.out o9 (fun k hk e => by have := (OW8.out.lt k hk).1; have := SZ8.out; omega)) (by have := HMM.out; have := ZR.out.ho.size; omega), Z8.out.ho.trans' o9 (fun k hk e => by have := Z8.out.ge; omega)⟩
  · rw [bury_some ht h2]
    have HF1 := Lib.hid h1
    obtain ⟨b, off, hA, _, _, hcx⟩ := in_elem enRow_length (by decide) hcel hn hx
    subst hA
    have hin : i < n := by
      obtain ⟨hi, _⟩ := List.getElem?_eq_some_iff.1 hx
      omega
    have hin0 : (0 : Int) ≤ (i : Int) := by omega
    have hini : (i : Int) < (n : Int) := by omega
    have HCX := Lib.hid (fun (X : World) (o : Only none_ w X) => hcx X o)
    have HC0 : Hid (∀ X, Only none_ w X → X.cell? ⟨b, off + i * 9, none⟩ = some (.string x.k)) := fun X o => hcx X o 0 _ rfl
    have HCP : Hid (∀ X, Only none_ w X → ∀ j u, (#[.string x.k, .string x.v, .bool x.d, .int .i64 x.s.c, .int .i64 x.s.s, .int .i64 x.a.c, .int .i64 x.a.s, .int .i64 x.p, .int .i64 x.g] : Array Value).toList[j]? = some u → X.cell? ⟨b, off + i * 9 + j, none⟩ = some u) := fun X o j u hu => hcx X o j u hu
    obtain ⟨f, hf⟩ : ∃ f, newE x e = f := ⟨_, rfl⟩
    rw [hf]
    have HF := Lib.hid hf
    have HLT := Lib.hid (fun X => rf_later x.s.c x.s.s f.s.c f.s.s X)
    obtain ⟨lt, hlt⟩ : ∃ b, stLater x.s f.s = b := ⟨_, rfl⟩
    have hlt' : stLater ⟨x.s.c, x.s.s⟩ ⟨f.s.c, f.s.s⟩ = lt := hlt
    rw [hlt'] at HLT
    rw [hlt]
    have HEQ := Lib.hid (fun (X : World) => eql_of (eq_ref_entry X x f 9997))
    obtain ⟨q, hq⟩ : ∃ b, enEq x f = b := ⟨_, rfl⟩
    rw [hq] at HEQ ⊢
    obtain ⟨r0, hr0⟩ : ∃ r, (if (lt || q) = true then (l, false) else (setE f l, true)) = r := ⟨_, rfl⟩
    rw [hr0]
    have HRR := Lib.hid hr0
    clear hr0
    have heq := fun (X : World) => eql_of (eq_ref_stamp X x.s e.s 9998)
    obtain ⟨sq, hsq⟩ : ∃ b, stEq x.s e.s = b := ⟨_, rfl⟩
    have HSQ := Lib.hid hsq
    rw [hsq] at heq
    clear hw3 hb0 ht hd hg hcel ow hM hn hl h1 h2 h3 hc hcx hx hin hf hlt hlt' hq hsq
    go_enter Try.func17, Try.ntmps17
    go_upto_region 1 with fail
    rw [HW3.out, HB0.out]
    go_upto_region 4 with (first
      | (with_reducible refine wpl_load rfl 26 _ rfl (b0 + 1) rfl _ #[.string e.k, .string e.v, .bool e.d, .int .i64 e.s.c, .int .i64 e.s.s, .int .i64 e.a.c, .int .i64 e.a.s, .int .i64 e.p, .int .i64 e.g] _ Z0.out.y Try.underlying26 rfl (by kernel_rfl) ?_)
      | (go_at_call 31; refine (HCK.out _).mono ?_; rintro E w4 ⟨rfl, o4⟩
         have Z1 := Lib.hid (Z0.out.keep o4)
         have g0 := Z1.out.x.cell_ (i := 0) rfl
         obtain ⟨y0, y1, y2, y3, y4, y5, y6, y7, y8⟩ := nine_of Z1.out.y
         clear o4)
      | (go_at_call 30; refine (HDU.out _).mono ?_; rintro E w5 ⟨rfl, o5⟩
         have Z2 := Lib.hid (Z1.out.keep o5)
         have g1 := Z2.out.x.cell_ (i := 1) rfl
         have g2 := Z2.out.x.cell_ (i := 2) rfl
         obtain ⟨z0, z1, z2, z3, z4, z5, z6, z7, z8⟩ := nine_of Z2.out.y
         clear o5)
      | (go_at_call 21; refine (HFD.out _ Z2.out.ho).mono ?_; rw [HF1.out]; rintro E w6 ⟨rfl, rfl⟩))
    clear g0 y0 y1 y2 y3 y4 y5 y6 y7 y8 z0 z1 z2 z3 z4 z5 z6 z7 z8 g1 g2 HDU HCK HFD
    have hc0 := HC0.out _ Z2.out.ho
    have hc3 := HCX.out _ Z2.out.ho 3 _ rfl
    have hc4 := HCX.out _ Z2.out.ho 4 _ rfl
    have p2 := Z2.out.x.cell_ (i := 2) rfl
    have q3 := Z2.out.y.cell_ (i := 3) rfl
    have q4 := Z2.out.y.cell_ (i := 4) rfl
    go_quiet (fail)
    have ZQ : Hid (Bz w b0 #[.int .i64 site, .int .i64 t2, .slice (some ⟨b, off, none⟩) n c] e (w5.drewN nq)) := Z2.out.keep ((Only.refl none_ w5).drewN _)
    generalize w5.drewN nq = w6 at *
    clear Z2 hc0 hc3 hc4 p2 q3 q4 heq
    go_upto_if 43 with fail
    go_cut [7] (fun s7 X => Bz w b0 #[.int .i64 site, .int .i64 t2, .slice (some ⟨b, off, none⟩) n c] f X)
    case rest =>
      have ZC := Lib.hid hcut
      clear hcut ZQ
      go_upto_region 11 with fail
      cases lt
      · cases q
        · have hr : (setE f l, true) = r0 := HRR.out
          have HR0 := Lib.hid hr
          clear hr
          (refine wp_region_steady (fun X => Only none_ wc X) 22 (by kernel_rfl) (by kernel_rfl) ((Only.refl none_ wc).drew) ?_; simp only [List.take_succ_cons, List.take_zero, List.drop_succ_cons, List.drop_zero])
          repeat (first
            | (refine sd_value (v := ?_) (by rfl) (fun w0 hS => ?_) ?_; rotate_left; (· (have hc0 := HC0.out _ (ZC.out.ho.trans hS); have hc1 := HCX.out _ (ZC.out.ho.trans hS) 1 _ rfl; have hc2 := HCX.out _ (ZC.out.ho.trans hS) 2 _ rfl; have hc3 := HCX.out _ (ZC.out.ho.trans hS) 3 _ rfl; have hc4 := HCX.out _ (ZC.out.ho.trans hS) 4 _ rfl; have hc5 := HCX.out _ (ZC.out.ho.trans hS) 5 _ rfl; have hc6 := HCX.out _ (ZC.out.ho.trans hS) 6 _ rfl; have hc7 := HCX.out _ (ZC.out.ho.trans hS) 7 _ rfl; have hc8 := HCX.out _ (ZC.out.ho.trans hS) 8 _ rfl; have p2 := (ZC.out.keep hS).x.cell_ (i := 2) rfl; have yy := nine_of (ZC.out.keep hS).y; have heq := HEQ.out; go_simp; try (with_reducible rfl))); try simp only [Act.put, List.setIfInBounds_toArray, List.set_cons_zero, List.set_cons_succ])
            | (refine sd_call (v := ?_) (f := 29) (args := ?_) (by rfl) (fun w0 hS => ?_) (fun w0 hS => ?_) ?_; rotate_left 2; (· (skip; go_simp; try (with_reducible rfl))); (· (refine (HLT.out _).mono ?_; rintro E w9 ⟨rfl, o9⟩; refine ⟨?_, hS.trans o9⟩; rfl)); try simp only [Act.put, List.setIfInBounds_toArray, List.set_cons_zero, List.set_cons_succ])
            | (refine sd_skip (by rfl) ?_; try simp only [Act.put, List.setIfInBounds_toArray, List.set_cons_zero, List.set_cons_succ]))
          refine sd_nil ?_
          intro w7 t7
          have ZR := Lib.hid (ZC.out.keep t7)
          clear t7
          have x2 := ZR.out.x.cell_ (i := 2) rfl
          go_wp2_with (first
            | (with_reducible refine wpl_load rfl 26 _ rfl (b0 + 1) rfl _ #[.string f.k, .string f.v, .bool f.d, .int .i64 f.s.c, .int .i64 f.s.s, .int .i64 f.a.c, .int .i64 f.a.s, .int .i64 f.p, .int .i64 f.g] _ ZR.out.y Try.underlying26 rfl (by kernel_rfl) ?_)
            | (go_at_call 49; refine (HST.out f _ ZR.out.ho).mono ?_; rintro E w8 ⟨v8, rfl, own8, o8⟩
               obtain ⟨A8, c8, rfl⟩ := shape_own own8
               have Z8 := Lib.hid (ZR.out.keep o8)
               have OW8 := Lib.hid own8
               have k2 := Z8.out.x.cell_ (i := 2) rfl
               have f2 := Z8.out.x.frozen 2
               have SZ8 : Hid (b0 + 1 + 1 < w7.heap.size) := ZR.out.z.lt
               have X9 := Lib.hid (Z8.out.x.set_ 2 (.slice A8 (setE f l).length c8))
               have Y9 := Lib.hid (Z8.out.z.far (p := ⟨b0, 2, none⟩) (show b0 + 1 + 1 ≠ b0 by omega) (.slice A8 (setE f l).length c8))
               clear own8 o8)
            | (with_reducible refine wpl_load rfl 36 _ rfl b0 rfl _ #[.int .i64 site, .int .i64 t2, .slice A8 (setE f l).length c8] _ X9.out Try.underlying36 rfl (by kernel_rfl) ?_)
            | (with_reducible refine gb_store_all rfl 36 _ _ rfl (b0 + 1 + 1) #[.int .i64 site, .int .i64 t2, .slice A8 (setE f l).length c8] rfl rfl _ _ Y9.out (by kernel_rfl) (by kernel_rfl) (by kernel_rfl) ?_))
          refine bodyPost_ret (results_cell_tmp rfl _ _ (b0 + 1 + 1) 36 _ _ rfl (Y9.out.setRow _) Try.underlying36 rfl (by kernel_rfl) (.bool true) rfl) rfl ?_
          have o9 : Only (fun k => k = b0 ∨ k = b0 + 1 + 1) w8 ((w8.setCell ⟨b0, 2, none⟩ (.slice A8 (setE f l).length c8)).setRow (b0 + 1 + 1) #[.int .i64 site, .int .i64 t2, .slice A8 (setE f l).length c8]) := ((Only.refl _ w8).setCell (p := ⟨b0, 2, none⟩) (.inl (.inl rfl)) _).setRow (.inl (.inr rfl)) _
          rw [← HR0.out]
          exact ⟨_, _, _, rfl, rfl, owns_base (owns_only OW8.out o9 (fun k hk e => by have := (OW8.out.lt k hk).1; have := SZ8.out; omega)) (by have := HMM.out; have := ZR.out.ho.size; omega), Z8.out.ho.trans' o9 (fun k hk e => by have := Z8.out.ge; omega)⟩
        · have hr : (l, false) = r0 := HRR.out
          have HR0 := Lib.hid hr
          clear hr
          (refine wp_region_steady (fun X => Only none_ wc X) 22 (by kernel_rfl) (by kernel_rfl) ((Only.refl none_ wc).drew) ?_; simp only [List.take_succ_cons, List.take_zero, List.drop_succ_cons, List.drop_zero])
          repeat (first
            | (refine sd_value (v := ?_) (by rfl) (fun w0 hS => ?_) ?_; rotate_left; (· (have hc0 := HC0.out _ (ZC.out.ho.trans hS); have hc1 := HCX.out _ (ZC.out.ho.trans hS) 1 _ rfl; have hc2 := HCX.out _ (ZC.out.ho.trans hS) 2 _ rfl; have hc3 := HCX.out _ (ZC.out.ho.trans hS) 3 _ rfl; have hc4 := HCX.out _ (ZC.out.ho.trans hS) 4 _ rfl; have hc5 := HCX.out _ (ZC.out.ho.trans hS) 5 _ rfl; have hc6 := HCX.out _ (ZC.out.ho.trans hS) 6 _ rfl; have hc7 := HCX.out _ (ZC.out.ho.trans hS) 7 _ rfl; have hc8 := HCX.out _ (ZC.out.ho.trans hS) 8 _ rfl; have p2 := (ZC.out.keep hS).x.cell_ (i := 2) rfl; have yy := nine_of (ZC.out.keep hS).y; have heq := HEQ.out; go_simp; try (with_reducible rfl))); try simp only [Act.put, List.setIfInBounds_toArray, List.set_cons_zero, List.set_cons_succ])
            | (refine sd_call (v := ?_) (f := 29) (args := ?_) (by rfl) (fun w0 hS => ?_) (fun w0 hS => ?_) ?_; rotate_left 2; (· (skip; go_simp; try (with_reducible rfl))); (· (refine (HLT.out _).mono ?_; rintro E w9 ⟨rfl, o9⟩; refine ⟨?_, hS.trans o9⟩; rfl)); try simp only [Act.put, List.setIfInBounds_toArray, List.set_cons_zero, List.set_cons_succ])
            | (refine sd_skip (by rfl) ?_; try simp only [Act.put, List.setIfInBounds_toArray, List.set_cons_zero, List.set_cons_succ]))
          refine sd_nil ?_
          intro w7 t7
          have ZR := Lib.hid (ZC.out.keep t7)
          clear t7
          go_wp2_with (first
            | (with_reducible refine wpl_load rfl 36 _ rfl b0 rfl _ #[.int .i64 site, .int .i64 t2, .slice (some ⟨b, off, none⟩) n c] _ ZR.out.x Try.underlying36 rfl (by kernel_rfl) ?_)
            | (with_reducible refine gb_store_all rfl 36 _ _ rfl (b0 + 1 + 1) #[.int .i64 site, .int .i64 t2, .slice (some ⟨b, off, none⟩) n c] rfl rfl _ _ ZR.out.z (by kernel_rfl) (by kernel_rfl) (by kernel_rfl) ?_))
          refine bodyPost_ret (results_cell_tmp rfl _ _ (b0 + 1 + 1) 36 _ _ rfl (ZR.out.z.setRow _) Try.underlying36 rfl (by kernel_rfl) (.bool false) rfl) rfl ?_
          have O9 : Only none_ w (w7.setRow (b0 + 1 + 1) #[.int .i64 site, .int .i64 t2, .slice (some ⟨b, off, none⟩) n c]) := ZR.out.ho.setRow (.inr (by rw [ZR.out.ge]; omega)) _
          rw [← HR0.out]
          exact ⟨_, _, _, rfl, HN.out, HOWN.out _ O9, O9⟩
      · have hr : (l, false) = r0 := by have := HRR.out; simpa using this
        have HR0 := Lib.hid hr
        clear hr
        (refine wp_region_steady (fun X => Only none_ wc X) 22 (by kernel_rfl) (by kernel_rfl) ((Only.refl none_ wc).drew) ?_; simp only [List.take_succ_cons, List.take_zero, List.drop_succ_cons, List.drop_zero])
        repeat (first
          | (refine sd_value (v := ?_) (by rfl) (fun w0 hS => ?_) ?_; rotate_left; (· (have hc0 := HC0.out _ (ZC.out.ho.trans hS); have hc1 := HCX.out _ (ZC.out.ho.trans hS) 1 _ rfl; have hc2 := HCX.out _ (ZC.out.ho.trans hS) 2 _ rfl; have hc3 := HCX.out _ (ZC.out.ho.trans hS) 3 _ rfl; have hc4 := HCX.out _ (ZC.out.ho.trans hS) 4 _ rfl; have hc5 := HCX.out _ (ZC.out.ho.trans hS) 5 _ rfl; have hc6 := HCX.out _ (ZC.out.ho.trans hS) 6 _ rfl; have hc7 := HCX.out _ (ZC.out.ho.trans hS) 7 _ rfl; have hc8 := HCX.out _ (ZC.out.ho.trans hS) 8 _ rfl; have p2 := (ZC.out.keep hS).x.cell_ (i := 2) rfl; have yy := nine_of (ZC.out.keep hS).y; have heq := HEQ.out; go_simp; try (with_reducible rfl))); try simp only [Act.put, List.setIfInBounds_toArray, List.set_cons_zero, List.set_cons_succ])
          | (refine sd_call (v := ?_) (f := 29) (args := ?_) (by rfl) (fun w0 hS => ?_) (fun w0 hS => ?_) ?_; rotate_left 2; (· (skip; go_simp; try (with_reducible rfl))); (· (refine (HLT.out _).mono ?_; rintro E w9 ⟨rfl, o9⟩; refine ⟨?_, hS.trans o9⟩; rfl)); try simp only [Act.put, List.setIfInBounds_toArray, List.set_cons_zero, List.set_cons_succ])
          | (refine sd_skip (by rfl) ?_; try simp only [Act.put, List.setIfInBounds_toArray, List.set_cons_zero, List.set_cons_succ]))
        refine sd_nil ?_
        intro w7 t7
        have ZR := Lib.hid (ZC.out.keep t7)
        clear t7
        go_wp2_with (first
          | (with_reducible refine wpl_load rfl 36 _ rfl b0 rfl _ #[.int .i64 site, .int .i64 t2, .slice (some ⟨b, off, none⟩) n c] _ ZR.out.x Try.underlying36 rfl (by kernel_rfl) ?_)
          | (with_reducible refine gb_store_all rfl 36 _ _ rfl (b0 + 1 + 1) #[.int .i64 site, .int .i64 t2, .slice (some ⟨b, off, none⟩) n c] rfl rfl _ _ ZR.out.z (by kernel_rfl) (by kernel_rfl) (by kernel_rfl) ?_))
        refine bodyPost_ret (results_cell_tmp rfl _ _ (b0 + 1 + 1) 36 _ _ rfl (ZR.out.z.setRow _) Try.underlying36 rfl (by kernel_rfl) (.bool false) rfl) rfl ?_
        have O9 : Only none_ w (w7.setRow (b0 + 1 + 1) #[.int .i64 site, .int .i64 t2, .slice (some ⟨b, off, none⟩) n c]) := ZR.out.ho.setRow (.inr (by rw [ZR.out.ge]; omega)) _
        rw [← HR0.out]
        exact ⟨_, _, _, rfl, HN.out, HOWN.out _ O9, O9⟩
    case first =>
      cases sq with
      | false =>
        have hfe : f = e := by rw [← HF.out, newE, HSQ.out]; rfl
        subst hfe
        go_wp2_with fail
        go_meet
        case rel => exact ZQ.out
      | true =>
        have hfe : f = gvTurn x e := by rw [← HF.out, newE, HSQ.out]; rfl
        have HFE := Lib.hid hfe
        have p2 := ZQ.out.x.cell_ (i := 2) rfl
        have HCQ := Lib.hid (HCP.out _ ZQ.out.ho)
        have C7 : Hid (Cz w b0 #[.int .i64 site, .int .i64 t2, .slice (some ⟨b, off, none⟩) n c] e w6.heap.size x (w6.alloc (.cells #[.string x.k, .string x.v, .bool x.d, .int .i64 x.s.c, .int .i64 x.s.s, .int .i64 x.a.c, .int .i64 x.a.s, .int .i64 x.p, .int .i64 x.g] 26))) := ⟨ZQ.out.keep ((Only.refl none_ w6).alloc _), Blk.new _ _ _, ZQ.out.z.lt⟩
        obtain ⟨y0, y1, y2, y3, y4, y5, y6, y7, y8⟩ := nine_of C7.out.z.y
        obtain ⟨k0, k1, k2, k3, k4, k5, k6, k7, k8⟩ := nine_of C7.out.k
        have HLA := Lib.hid (fun X => rf_later e.a.c e.a.s x.a.c x.a.s X)
        obtain ⟨la, hla⟩ : ∃ b, stLater e.a x.a = b := ⟨_, rfl⟩
        rw [show stLater ⟨e.a.c, e.a.s⟩ ⟨x.a.c, x.a.s⟩ = la from hla] at HLA
        have HL1 : Hid (f = { ({ x with a := if la = true then e.a else x.a } : En) with g := if e.g < x.g then e.g else x.g }) := by rw [Hid, hfe, gvTurn, hla]
        obtain ⟨xa, hxa⟩ : ∃ y : En, ({ x with a := if la = true then e.a else x.a } : En) = y := ⟨_, rfl⟩
        have HXA := Lib.hid hxa
        have HXG : Hid (xa.g = x.g) := by rw [Hid, ← hxa]
        rw [hxa] at HL1
        clear hfe hla hxa
        go_upto_if 53 with (first
          | (with_reducible refine wpl_piece rfl 26 _ rfl b (off + i * 9) rfl #[.string x.k, .string x.v, .bool x.d, .int .i64 x.s.c, .int .i64 x.s.s, .int .i64 x.a.c, .int .i64 x.a.s, .int .i64 x.p, .int .i64 x.g] _ HCQ.out Try.underlying26 rfl (by kernel_rfl) ?_)
          | (with_reducible refine wpl_new rfl rfl 26 rfl _ _ rfl #[.string x.k, .string x.v, .bool x.d, .int .i64 x.s.c, .int .i64 x.s.s, .int .i64 x.a.c, .int .i64 x.a.s, .int .i64 x.p, .int .i64 x.g] rfl rfl (by kernel_rfl) (en_cells_one x) ?_)
          | (go_at_call 29; refine (HLA.out _).mono ?_; rintro E w9 ⟨rfl, o9⟩
             have C9 := Lib.hid (C7.out.keep o9)
             clear o9))
        generalize w6.heap.size = h7 at *
        clear C7 y0 y1 y2 y3 y4 y5 y6 y7 y8 k0 k1 k2 k3 k4 k5 k6 k7 k8 p2
        go_cut [54] (fun s54 X => Cz w b0 #[.int .i64 site, .int .i64 t2, .slice (some ⟨b, off, none⟩) n c] e h7 xa X)
        case rest =>
          have C10 := Lib.hid hcut
          clear hcut C9
          have y8 := C10.out.z.y.cell_ (i := 8) rfl
          have k8 := C10.out.k.cell_ (i := 8) rfl
          have HXF : Hid (f = { xa with g := if e.g < xa.g then e.g else xa.g }) := by rw [Hid, HXG.out]; exact HL1.out
          go_upto_if 61 with fail
          go_cut [62] (fun s62 X => Cz w b0 #[.int .i64 site, .int .i64 t2, .slice (some ⟨b, off, none⟩) n c] e h7 f X)
          case rest =>
            have C11 := Lib.hid hcut
            clear hcut C10 y8 k8
            have Z12 := Lib.hid (C11.out.z.y.setRow #[.string f.k, .string f.v, .bool f.d, .int .i64 f.s.c, .int .i64 f.s.s, .int .i64 f.a.c, .int .i64 f.a.s, .int .i64 f.p, .int .i64 f.g])
            go_wp2_with (first
              | (with_reducible refine wpl_load rfl 26 _ rfl h7 rfl _ #[.string f.k, .string f.v, .bool f.d, .int .i64 f.s.c, .int .i64 f.s.s, .int .i64 f.a.c, .int .i64 f.a.s, .int .i64 f.p, .int .i64 f.g] _ C11.out.k Try.underlying26 rfl (by kernel_rfl) ?_)
              | (with_reducible refine gb_store_all rfl 26 _ _ rfl (b0 + 1) #[.string f.k, .string f.v, .bool f.d, .int .i64 f.s.c, .int .i64 f.s.s, .int .i64 f.a.c, .int .i64 f.a.s, .int .i64 f.p, .int .i64 f.g] rfl rfl _ _ C11.out.z.y (by kernel_rfl) (by kernel_rfl) (en_cells_one f) ?_))
            go_meet
            case rel => exact ⟨C11.out.z.x.setRow_far (by omega) _, Z12.out, C11.out.z.z.setRow_far (by omega) _, C11.out.z.ho.setRow (.inr (by rw [C11.out.z.ge]; omega)) _, C11.out.z.ge⟩
          case first =>
            by_cases hgg : e.g < xa.g
            · have f8 := C10.out.k.frozen 8
              have HR : Hid (f = { xa with g := e.g }) := by rw [Hid, HXF.out, if_pos hgg]
              have C12 : Hid (Cz w b0 #[.int .i64 site, .int .i64 t2, .slice (some ⟨b, off, none⟩) n c] e h7 f (wc.setCell ⟨h7, 8, none⟩ (.int .i64 e.g))) := by
                rw [Hid, HR.out]
                exact C10.out.turn ((Only.refl (one h7) _).setCell (p := ⟨h7, 8, none⟩) (.inl rfl) _) (C10.out.k.set_ 8 (.int .i64 e.g))
              go_wp2_with fail
              go_meet
              case rel => exact C12.out
            · have HR : Hid (f = xa) := by rw [Hid, HXF.out, if_neg hgg]
              have C12 : Hid (Cz w b0 #[.int .i64 site, .int .i64 t2, .slice (some ⟨b, off, none⟩) n c] e h7 f wc) := by rw [Hid, HR.out]; exact C10.out
              go_wp2_with fail
              go_meet
              case rel => exact C12.out
        case first =>
          cases la with
          | true =>
            have HR : Hid (xa = { x with a := e.a }) := by rw [Hid, ← HXA.out, if_pos rfl]
            obtain ⟨y0, y1, y2, y3, y4, y5, y6, y7, y8⟩ := nine_of C9.out.z.y
            have C12 : Hid (Cz w b0 #[.int .i64 site, .int .i64 t2, .slice (some ⟨b, off, none⟩) n c] e h7 xa (w9.setRow h7 (putAt [.string x.k, .string x.v, .bool x.d, .int .i64 x.s.c, .int .i64 x.s.s, .int .i64 x.a.c, .int .i64 x.a.s, .int .i64 x.p, .int .i64 x.g] 5 [.int .i64 e.a.c, .int .i64 e.a.s]).toArray)) := by
              rw [Hid, HR.out]
              exact C9.out.turn ((Only.refl (one h7) _).setRow (.inl rfl) _) (C9.out.k.setRow _)
            go_wp2_with (first
              | (refine wpl_store_part rfl 24 _ _ rfl h7 5 #[.int .i64 e.a.c, .int .i64 e.a.s] rfl rfl 26 [.string x.k, .string x.v, .bool x.d, .int .i64 x.s.c, .int .i64 x.s.s, .int .i64 x.a.c, .int .i64 x.a.s, .int .i64 x.p, .int .i64 x.g] C9.out.k (by kernel_rfl) (by simp) (by simp [Value.oneCell']) ?_))
            go_meet
            case rel => exact C12.out
          | false =>
            have HR : Hid (xa = x) := by rw [Hid, ← HXA.out]; rfl
            have C12 : Hid (Cz w b0 #[.int .i64 site, .int .i64 t2, .slice (some ⟨b, off, none⟩) n c] e h7 xa w9) := by rw [Hid, HR.out]; exact C9.out
            go_wp2_with fail
            go_meet
            case rel => exact C12.out

theorem rg_bury (M : Nat) (l : List En) (A : Option Addr) (n c : Nat) (site t2 : Int) (e : En) (w : World) (ow : w.ownsRow M 26 9 (.slice A n c) n (l.flatMap enRow)) (hM : M ≤ w.heap.size) (hn : l.length = n) (hl : n ≤ 900) :
    Calls Try.prog 17 #[.agg #[.int .i64 site, .int .i64 t2, .slice A n c], .agg #[.string e.k, .string e.v, .bool e.d, .int .i64 e.s.c, .int .i64 e.s.s, .int .i64 e.a.c, .int .i64 e.a.s, .int .i64 e.p, .int .i64 e.g]] w fun E w' => ∃ A' n' c', E = .returned (.tuple #[.agg #[.int .i64 site, .int .i64 t2, .slice A' n' c'], .bool (buryE (enDuty e site) t2 l e).2]) ∧ (buryE (enDuty e site) t2 l e).1.length = n' ∧ w'.ownsRow M 26 9 (.slice A' n' c') n' ((buryE (enDuty e site) t2 l e).1.flatMap enRow) ∧ Only none_ w w' := by
  by_cases ht : takes (enDuty e site) t2 e = true
  · exact rg_bury_yes M l A n c site t2 e w ow hM hn hl ht
  · have ht' : takes (enDuty e site) t2 e = false := by simpa using ht
    rw [bury_off ht']
    exact (rg_bury_no A n c site t2 e w ht').mono fun E w' h => ⟨A, n, c, h.1, hn, owns_only ow h.2 (fun _ _ h => h), h.2⟩
end Go.Proofs.Ytniacolkjdmflaa
end
section
namespace Go.Proofs.Ytniacolkjdmflaa
open Go.RowKit
set_option maxRecDepth 100000
set_option linter.all false

theorem tick_snoc {t2 : Int} {l : List En} {x : En} : tickE t2 (l ++ [x]) = if x.g + 1 < t2 then ((tickE t2 l).1 ++ [olderE x], (tickE t2 l).2) else ((tickE t2 l).1, (tickE t2 l).2 ++ [x.k]) := by
  have e1 : (olderE x).g = x.g + 1 := rfl
  by_cases h : x.g + 1 < t2
  · rw [if_pos h]
    simp [tickE, List.map_append, List.filter_append, e1, h]
  · rw [if_neg h]
    simp [tickE, List.map_append, List.filter_append, e1, h]
    rfl
theorem tick_len2 (t2 : Int) (l : List En) : (tickE t2 l).2.length ≤ l.length := by
  have := List.length_filter_le (fun e : En => !decide (e.g < t2)) (l.map olderE)
  simpa [tickE] using this

/-- Between two rounds of the document's Tick. -/
structure Tz (w : World) (b : Nat) (site t2 : Int) (src v4 : Value) (l1 : List En) (v5 : Value) (l2 : List ByteArray) (X : World) : Prop where
  x : Blk X b 36 #[.int .i64 site, .int .i64 t2, src]
  z : Blk X (b + 1) 36 #[.int .i64 0, .int .i64 0, .slice none 0 0]
  y : Blk X (b + 1 + 1) 36 #[.int .i64 site, .int .i64 t2, v4]
  ol : X.ownsRow b 26 9 v4 l1.length (l1.flatMap enRow)
  gn : X.ownsRow b 9 1 v5 l2.length (l2.map .string)
  ho : Only none_ w X
  ge : w.heap.size = b
section
variable {w X X' : World} {b : Nat} {site t2 : Int} {src v4 v5 : Value} {l1 : List En} {l2 : List ByteArray}
theorem Tz.keep (t : Tz w b site t2 src v4 l1 v5 l2 X) (o : Only none_ X X') : Tz w b site t2 src v4 l1 v5 l2 X' :=
  ⟨t.x.only o (fun h => h), t.z.only o (fun h => h), t.y.only o (fun h => h), owns_only t.ol o (fun _ _ h => h), owns_only t.gn o (fun _ _ h => h), t.ho.trans o, t.ge⟩
theorem Tz.yl (t : Tz w b site t2 src v4 l1 v5 l2 X) (hg : X.grownBy X' v4.ownBlock) : Blk X' (b + 1 + 1) 36 #[.int .i64 site, .int .i64 t2, v4] :=
  t.y.grown' hg (own_blk_ne t.ol t.y (by decide))
theorem Tz.lapp {v4' : Value} {l1' : List En} {q : List Value} {n : Nat} (t : Tz w b site t2 src v4 l1 v5 l2 X) (own : X'.ownsRow b 26 9 v4' n q) (hn : n = l1'.length) (hq : q = l1'.flatMap enRow) (hg : X.grownBy X' v4.ownBlock) :
    Tz w b site t2 src v4' l1' v5 l2 (X'.setCell ⟨b + 1 + 1, 2, none⟩ v4') := by
  subst hn hq
  have y' := t.yl hg
  have o : Only (one (b + 1 + 1)) X' (X'.setCell ⟨b + 1 + 1, 2, none⟩ v4') := (Only.refl (one (b + 1 + 1)) X').setCell (p := ⟨b + 1 + 1, 2, none⟩) (.inl rfl) _
  have g' : X'.ownsRow b 9 1 v5 l2.length (l2.map .string) := by
    rcases t.gn.2 with ⟨e1, _⟩ | ⟨g, cap, cur, e1, _, hh, _⟩
    · exact t.gn.kept hg (.inl (by rw [e1]; rfl))
    · refine t.gn.kept hg (.inr ?_)
      intro e'
      exact own_apart t.ol t.gn (by decide) g (e'.symm.trans (by rw [e1]; rfl)) (by rw [e1]; rfl)
  have ge := t.ge
  exact ⟨(t.x.grown' hg (own_blk_ne t.ol t.x (by decide))).only o (fun e => by have e' : b = b + 1 + 1 := e; omega), (t.z.grown' hg (own_blk_ne t.ol t.z (by decide))).only o (fun e => by have e' : b + 1 = b + 1 + 1 := e; omega), y'.set_ 2 v4',
    owns_only own o (fun k hk e => own_blk_ne own y' (by decide) (by rw [hk]; exact congrArg some e)), owns_only g' o (fun k hk e => own_blk_ne g' y' (by decide) (by rw [hk]; exact congrArg some e)),
    (t.ho.grown hg (fun k hk => .inr (by have := (t.ol.lt k hk).1; omega))).trans' o (fun k hk e => by have e' : k = b + 1 + 1 := e; omega), t.ge⟩
theorem Tz.gapp {v5' : Value} {l2' : List ByteArray} {q : List Value} {n : Nat} (t : Tz w b site t2 src v4 l1 v5 l2 X) (own : X'.ownsRow b 9 1 v5' n q) (hn : n = l2'.length) (hq : q = l2'.map .string) (hg : X.grownBy X' v5.ownBlock) :
    Tz w b site t2 src v4 l1 v5' l2' X' := by
  subst hn hq
  have g' : X'.ownsRow b 26 9 v4 l1.length (l1.flatMap enRow) := by
    rcases t.ol.2 with ⟨e1, _⟩ | ⟨g, cap, cur, e1, _, hh, _⟩
    · exact t.ol.kept hg (.inl (by rw [e1]; rfl))
    · refine t.ol.kept hg (.inr ?_)
      intro e'
      exact own_apart t.gn t.ol (by decide) g (e'.symm.trans (by rw [e1]; rfl)) (by rw [e1]; rfl)
  have ge := t.ge
  exact ⟨t.x.grown' hg (own_blk_ne t.gn t.x (by decide)), t.z.grown' hg (own_blk_ne t.gn t.z (by decide)), t.y.grown' hg (own_blk_ne t.gn t.y (by decide)), g', own, t.ho.grown hg (fun k hk => .inr (by have := (t.gn.lt k hk).1; omega)), t.ge⟩
end

set_option maxHeartbeats 12800000 in
theorem rg_tick (S : Nat → Prop) (l : List En) (A : Option Addr) (n c : Nat) (site t2 : Int) (w : World) (h : Cel w S (.slice A n c) n 9 (l.flatMap enRow)) (hn : l.length = n) (hl : n ≤ 900) (hg : ∀ x ∈ l, 0 ≤ x.g ∧ x.g < 2147483647) :
    Calls Try.prog 14 #[.agg #[.int .i64 site, .int .i64 t2, .slice A n c]] w fun E w' => ∃ A' n' c' v', E = .returned (.tuple #[.agg #[.int .i64 site, .int .i64 t2, .slice A' n' c'], v']) ∧ (tickE t2 l).1.length = n' ∧ w'.ownsRow w.heap.size 26 9 (.slice A' n' c') n' ((tickE t2 l).1.flatMap enRow) ∧ w'.ownsRow w.heap.size 9 1 v' (tickE t2 l).2.length ((tickE t2 l).2.map .string) ∧ Only none_ w w' := by
  obtain ⟨i0, hi0, hz0, hz1, hz2⟩ := info_parts ref_info6
  obtain ⟨j0, hj0, hy0, hy1, hy2⟩ := info_parts str_info
  have HC := Lib.hid (fun (X : World) (o : Only none_ w X) => h.only o (fun _ _ h => h))
  have HN := Lib.hid hn
  have HG := Lib.hid hg
  obtain ⟨w4, hw4⟩ : ∃ w4, ((((w.alloc (.cells #[.int .i64 site, .int .i64 t2, .slice A n c] 36)).alloc (.cells #[.int .i64 0, .int .i64 0, .slice none 0 0] 36)).alloc (.cells #[.int .i64 site, .int .i64 t2, .slice none 0 0] 36)).alloc (.cells #[] 9)) = w4 := ⟨_, rfl⟩
  have HW4 := Lib.hid hw4
  have T0 : Hid (Tz w w.heap.size site t2 (.slice A n c) (.slice none 0 0) [] (.slice (some ⟨w.heap.size + 1 + 1 + 1, 0, none⟩) 0 0) [] w4) := by
    rw [Hid, ← hw4]
    refine ⟨(((Blk.new w _ _).alloc _).alloc _).alloc _, ?_, ?_, ?_, ?_, ((((Only.refl none_ w).alloc _).alloc _).alloc _).alloc _, rfl⟩
    · have := ((Blk.new (w.alloc (.cells #[.int .i64 site, .int .i64 t2, .slice A n c] 36)) 36 #[.int .i64 0, .int .i64 0, .slice none 0 0]).alloc (.cells #[.int .i64 site, .int .i64 t2, .slice none 0 0] 36)).alloc (.cells #[] 9)
      rwa [World.size_alloc] at this
    · have := (Blk.new ((w.alloc (.cells #[.int .i64 site, .int .i64 t2, .slice A n c] 36)).alloc (.cells #[.int .i64 0, .int .i64 0, .slice none 0 0] 36)) 36 #[.int .i64 site, .int .i64 t2, .slice none 0 0]).alloc (.cells #[] 9)
      rwa [World.size_alloc, World.size_alloc] at this
    · exact ⟨rfl, .inl ⟨rfl, rfl⟩⟩
    · have := own_made (((w.alloc (.cells #[.int .i64 site, .int .i64 t2, .slice A n c] 36)).alloc (.cells #[.int .i64 0, .int .i64 0, .slice none 0 0] 36)).alloc (.cells #[.int .i64 site, .int .i64 t2, .slice none 0 0] 36)) w.heap.size 9 1 0 #[] (by simp) (by simp [maxLen]) (by rw [World.size_alloc, World.size_alloc, World.size_alloc]; omega)
      rw [World.size_alloc, World.size_alloc, World.size_alloc] at this
      exact this
  obtain ⟨b0, hb0⟩ : ∃ b, w.heap.size = b := ⟨_, rfl⟩
  have HB0 := Lib.hid hb0
  rw [hb0] at T0
  have HTS := Lib.hid (fun (l : List En) (x : En) => tick_snoc (t2 := t2) (l := l) (x := x))
  have HL1 := Lib.hid (len_tick t2)
  have HL2 := Lib.hid (tick_len2 t2)
  clear h hn hg hb0 hw4
  go_enter Try.func14, Try.ntmps14
  go_upto_region 3 with fail
  rw [HB0.out, HW4.out]
  go_wp2_with fail
  go_loopw [5, 6] (fun s5 s6 X => ∃ (i : Nat) (v4 v5 : Value), i ≤ n ∧ s6 = .int .i64 i ∧ s5 = v5 ∧ Tz w b0 site t2 (.slice A n c) v4 (tickE t2 (l.take i)).1 v5 (tickE t2 (l.take i)).2 X) (fun _ s6 _ => n - (intOf s6).toNat)
  case atStart => exact ⟨0, _, _, by omega, rfl, rfl, T0.out⟩
  case round =>
    obtain ⟨i, v4, v5, hi, rfl, h5, t⟩ := hrel
    have TT := Lib.hid t
    have hl1 := HL1.out (l.take i)
    have hl2 := HL2.out (l.take i)
    rw [List.length_take] at hl1 hl2
    obtain ⟨p, hp⟩ : ∃ p, tickE t2 (l.take i) = p := ⟨_, rfl⟩
    have HP := Lib.hid hp
    rw [hp] at TT t hl1 hl2
    obtain ⟨P1, P2⟩ := p
    dsimp only at TT t hl1 hl2
    obtain ⟨D1, hD1⟩ : ∃ D, P1.length = D := ⟨_, rfl⟩
    obtain ⟨D2, hD2⟩ : ∃ D, P2.length = D := ⟨_, rfl⟩
    have HD1 := Lib.hid hD1
    have HD2 := Lib.hid hD2
    have o4 := t.ol
    have o5 := t.gn
    rw [hD1] at o4 hl1
    rw [hD2] at o5 hl2
    obtain ⟨A4, c4, hs4⟩ : ∃ A c, v4 = .slice A D1 c := by
      rcases o4.2 with ⟨rfl, h0⟩ | ⟨_, _, _, rfl, _⟩
      · exact ⟨none, 0, by rw [h0]⟩
      · exact ⟨_, _, rfl⟩
    obtain ⟨A5, c5, hs5⟩ : ∃ A c, v5 = .slice A D2 c := by
      rcases o5.2 with ⟨rfl, h0⟩ | ⟨_, _, _, rfl, _⟩
      · exact ⟨none, 0, by rw [h0]⟩
      · exact ⟨_, _, rfl⟩
    subst hs4 hs5
    subst h5
    have g2 := TT.out.x.cell_ (i := 2) rfl
    have HLN1 : Hid (D1 + 1 ≤ maxLen ∧ (D1 + 1) * 88 ≤ 140737488355328) := by simp only [Hid, maxLen]; omega
    have HLN2 : Hid (D2 + 1 ≤ maxLen ∧ (D2 + 1) * 16 ≤ 140737488355328) := by simp only [Hid, maxLen]; omega
    by_cases hlt : i < n
    · have hin : i < l.length := by have := HN.out; omega
      obtain ⟨x, hx⟩ : ∃ x, l[i]? = some x := ⟨l[i], List.getElem?_eq_getElem _⟩
      have hty : l.take (i + 1) = l.take i ++ [x] := by
        rw [List.take_succ_eq_append_getElem hin]
        rw [List.getElem?_eq_getElem hin] at hx
        injection hx with hx
        rw [hx]
      have hxg := HG.out x (List.mem_of_getElem? hx)
      obtain ⟨b, off, hA, _, _, hc⟩ := in_elem enRow_length (by decide) (HC.out _ t.ho) HN.out hx
      subst hA
      have HCX : Hid (∀ j u, (#[.string x.k, .string x.v, .bool x.d, .int .i64 x.s.c, .int .i64 x.s.s, .int .i64 x.a.c, .int .i64 x.a.s, .int .i64 x.p, .int .i64 x.g] : Array Value).toList[j]? = some u → wr.cell? ⟨b, off + i * 9 + j, none⟩ = some u) := fun j u hu => hc _ (Only.refl _ _) j u hu
      have HSN : Hid (tickE t2 (l.take (i + 1)) = if x.g + 1 < t2 then (P1 ++ [olderE x], P2) else (P1, P2 ++ [x.k])) := by rw [Hid, hty, HTS.out, HP.out]
      have T1 := Lib.hid (TT.out.keep ((Only.refl none_ wr).alloc (.cells #[.string x.k, .string x.v, .bool x.d, .int .i64 x.s.c, .int .i64 x.s.s, .int .i64 x.a.c, .int .i64 x.a.s, .int .i64 x.p, .int .i64 (x.g + 1)] 26)))
      have B1 := Lib.hid (Blk.new wr 26 #[.string x.k, .string x.v, .bool x.d, .int .i64 x.s.c, .int .i64 x.s.s, .int .i64 x.a.c, .int .i64 x.a.s, .int .i64 x.p, .int .i64 (x.g + 1)])
      have g1 := T1.out.x.cell_ (i := 1) rfl
      have g3 := T1.out.y.cell_ (i := 2) rfl
      have hxo : (olderE x).g = x.g + 1 := rfl
      have hki : (i : Int) < (n : Int) := by omega
      clear t hp hD1 hD2 o4 o5 hl1 hl2 hty hx hc hin
      by_cases hgt : x.g + 1 < t2
      · have HR : Hid (tickE t2 (l.take (i + 1)) = (P1 ++ [olderE x], P2)) := by rw [Hid, HSN.out, if_pos hgt]
        go_upto_region 8 with (first
          | (with_reducible refine wpl_piece rfl 26 _ rfl b (off + i * 9) rfl #[.string x.k, .string x.v, .bool x.d, .int .i64 x.s.c, .int .i64 x.s.s, .int .i64 x.a.c, .int .i64 x.a.s, .int .i64 x.p, .int .i64 x.g] _ HCX.out Try.underlying26 rfl (by kernel_rfl) ?_)
          | (with_reducible refine wpl_new rfl rfl 26 rfl _ _ rfl #[.string x.k, .string x.v, .bool x.d, .int .i64 x.s.c, .int .i64 x.s.s, .int .i64 x.a.c, .int .i64 x.a.s, .int .i64 x.p, .int .i64 x.g] rfl rfl (by kernel_rfl) (en_cells_one x) ?_))
        generalize wr.heap.size = h7 at *
        generalize wr.alloc (.cells #[.string x.k, .string x.v, .bool x.d, .int .i64 x.s.c, .int .i64 x.s.s, .int .i64 x.a.c, .int .i64 x.a.s, .int .i64 x.p, .int .i64 (x.g + 1)] 26) = w1 at *
        have kk0 := B1.out.cell_ (i := 0) rfl
        have kk8 := B1.out.cell_ (i := 8) rfl
        have SZ : Hid (b0 ≤ w1.heap.size) := by have := T1.out.ho.size; have := T1.out.ge; rw [Hid]; omega
        have T2 := Lib.hid (T1.out.keep ((Only.refl none_ w1).alloc (.cells #[.string x.k, .string x.v, .bool x.d, .int .i64 x.s.c, .int .i64 x.s.s, .int .i64 x.a.c, .int .i64 x.a.s, .int .i64 x.p, .int .i64 (x.g + 1)] 26)))
        have C2 := Lib.hid (cel_made w1 26 9 1 #[.string x.k, .string x.v, .bool x.d, .int .i64 x.s.c, .int .i64 x.s.s, .int .i64 x.a.c, .int .i64 x.a.s, .int .i64 x.p, .int .i64 (x.g + 1)] rfl (by simp [maxLen]))
        have ONE : Hid (∀ u ∈ (#[.string x.k, .string x.v, .bool x.d, .int .i64 x.s.c, .int .i64 x.s.s, .int .i64 x.a.c, .int .i64 x.a.s, .int .i64 x.p, .int .i64 (x.g + 1)] : Array Value).toList, u.oneCell' = true) := row_one6 (olderE x)
        have ONA : Hid ((#[.string x.k, .string x.v, .bool x.d, .int .i64 x.s.c, .int .i64 x.s.s, .int .i64 x.a.c, .int .i64 x.a.s, .int .i64 x.p, .int .i64 (x.g + 1)] : Array Value).all (·.oneCell') = true) := en_cells_one (olderE x)
        go_wp2_with (first
          | (with_reducible refine wpl_load rfl 26 _ rfl h7 rfl _ #[.string x.k, .string x.v, .bool x.d, .int .i64 x.s.c, .int .i64 x.s.s, .int .i64 x.a.c, .int .i64 x.a.s, .int .i64 x.p, .int .i64 (x.g + 1)] _ B1.out Try.underlying26 rfl (by kernel_rfl) ?_)
          | (at_builtin; refine wpList_append_cel _ rfl (.tmp 36) (.tmp 38) 34 rfl b0 26 i0 _ 9 88 Try.underlying34 hi0 hz0 hz1 hz2 rfl (by omega) (.slice A4 D1 c4) D1 _ rfl (by have := T2.out.ol; rw [HD1.out] at this; exact this) _ _ 1 _ rfl C2.out ONE.out HLN1.out.1 HLN1.out.2 (by rw [World.size_alloc]; have := SZ.out; omega) ?_
             intro A6 n6 c6 w6 hown6 hgrow6 hmv6
             have T6 : Hid (Tz w b0 site t2 (.slice (some ⟨b, off, none⟩) n c) (.slice A6 n6 c6) (P1 ++ [olderE x]) (.slice A5 D2 c5) P2 (w6.setCell ⟨b0 + 1 + 1, 2, none⟩ (.slice A6 n6 c6))) := T2.out.lapp hown6 (by rw [List.length_append, HD1.out]; rfl) (by rw [flat_en]; rfl) hgrow6
             have Y6 := T2.out.yl hgrow6
             have m2 := Y6.cell_ (i := 2) rfl
             have f2 := Y6.frozen 2
             clear hown6 hgrow6 hmv6 Y6))
        go_roundw
        case rel => exact ⟨i + 1, _, _, by omega, by go_num, rfl, by rw [HR.out]; exact T6.out⟩
        case measure => simp [intOf]; omega
      · have HR : Hid (tickE t2 (l.take (i + 1)) = (P1, P2 ++ [x.k])) := by rw [Hid, HSN.out, if_neg hgt]
        go_upto_region 8 with (first
          | (with_reducible refine wpl_piece rfl 26 _ rfl b (off + i * 9) rfl #[.string x.k, .string x.v, .bool x.d, .int .i64 x.s.c, .int .i64 x.s.s, .int .i64 x.a.c, .int .i64 x.a.s, .int .i64 x.p, .int .i64 x.g] _ HCX.out Try.underlying26 rfl (by kernel_rfl) ?_)
          | (with_reducible refine wpl_new rfl rfl 26 rfl _ _ rfl #[.string x.k, .string x.v, .bool x.d, .int .i64 x.s.c, .int .i64 x.s.s, .int .i64 x.a.c, .int .i64 x.a.s, .int .i64 x.p, .int .i64 x.g] rfl rfl (by kernel_rfl) (en_cells_one x) ?_))
        generalize wr.heap.size = h7 at *
        generalize wr.alloc (.cells #[.string x.k, .string x.v, .bool x.d, .int .i64 x.s.c, .int .i64 x.s.s, .int .i64 x.a.c, .int .i64 x.a.s, .int .i64 x.p, .int .i64 (x.g + 1)] 26) = w1 at *
        have kk0 := B1.out.cell_ (i := 0) rfl
        have kk8 := B1.out.cell_ (i := 8) rfl
        have SZ : Hid (b0 ≤ w1.heap.size) := by have := T1.out.ho.size; have := T1.out.ge; rw [Hid]; omega
        have T2 := Lib.hid (T1.out.keep ((Only.refl none_ w1).alloc (.cells #[.string x.k] 9)))
        have C2 := Lib.hid (cel_made w1 9 1 1 #[.string x.k] rfl (by simp [maxLen]))
        have ONE : Hid (∀ u ∈ (#[.string x.k] : Array Value).toList, u.oneCell' = true) := by
          intro u hu
          simp only [List.mem_cons, List.not_mem_nil, or_false] at hu
          subst hu
          rfl
        go_wp2_with (first
          | (at_builtin; refine wpList_append_cel _ rfl (.tmp 41) (.tmp 44) 41 rfl b0 9 j0 _ 1 16 Try.underlying41 hj0 hy0 hy1 hy2 rfl (by omega) (.slice A5 D2 c5) D2 _ rfl (by have := T2.out.gn; rw [HD2.out] at this; exact this) _ _ 1 _ rfl C2.out ONE.out HLN2.out.1 HLN2.out.2 (by rw [World.size_alloc]; have := SZ.out; omega) ?_
             intro A6 n6 c6 w6 hown6 hgrow6 hmv6
             have T6 : Hid (Tz w b0 site t2 (.slice (some ⟨b, off, none⟩) n c) (.slice A4 D1 c4) P1 (.slice A6 n6 c6) (P2 ++ [x.k]) w6) := T2.out.gapp hown6 (by rw [List.length_append, HD2.out]; rfl) (by rw [List.map_append]; rfl) hgrow6
             clear hown6 hgrow6 hmv6))
        go_roundw
        case rel => exact ⟨i + 1, _, _, by omega, by go_num, rfl, by rw [HR.out]; exact T6.out⟩
        case measure => simp [intOf]; omega
    · have hin : l.take i = l := List.take_of_length_le (by have := HN.out; omega)
      rw [hin] at HP
      clear t hp hin
      have B9 := Lib.hid (TT.out.z.setRow #[.int .i64 site, .int .i64 t2, .slice A4 D1 c4])
      go_wp2_with (first
        | (with_reducible refine wpl_load rfl 36 _ rfl (b0 + 1 + 1) rfl _ #[.int .i64 site, .int .i64 t2, .slice A4 D1 c4] _ TT.out.y Try.underlying36 rfl (by kernel_rfl) ?_)
        | (with_reducible refine gb_store_all rfl 36 _ _ rfl (b0 + 1) #[.int .i64 site, .int .i64 t2, .slice A4 D1 c4] rfl rfl _ _ TT.out.z (by kernel_rfl) (by kernel_rfl) (by kernel_rfl) ?_))
      refine bodyPost_ret (results_cell_tmp rfl _ _ (b0 + 1) 36 _ _ rfl B9.out Try.underlying36 rfl (by kernel_rfl) (.slice A5 D2 c5) rfl) rfl ?_
      have o9 : Only (one (b0 + 1)) wr (wr.setRow (b0 + 1) #[.int .i64 site, .int .i64 t2, .slice A4 D1 c4]) := (Only.refl (one (b0 + 1)) wr).setRow (.inl rfl) _
      rw [HP.out, HB0.out]
      refine ⟨_, _, _, _, rfl, HD1.out, ?_, owns_only TT.out.gn o9 (fun k hk e => own_blk_ne TT.out.gn TT.out.z (by decide) (by rw [hk]; exact congrArg some e)), TT.out.ho.trans' o9 (fun k hk e => by have := HB0.out; have e' : k = b0 + 1 := e; omega)⟩
      have := owns_only TT.out.ol o9 (fun k hk e => own_blk_ne TT.out.ol TT.out.z (by decide) (by rw [hk]; exact congrArg some e))
      rw [HD1.out] at this
      exact this
end Go.Proofs.Ytniacolkjdmflaa
end
section
namespace Go.Proofs.Ytniacolkjdmflaa
open Go.RowKit
set_option maxRecDepth 100000
set_option linter.all false

theorem str1_length (s : ByteArray) : ([.string s] : List Value).length = 1 := rfl
theorem flat_str (l : List ByteArray) : l.flatMap (fun s => [Value.string s]) = l.map .string := by
  induction l with
  | nil => rfl
  | cons a l ih => rw [List.flatMap_cons, List.map_cons, ih]; rfl

set_option maxHeartbeats 3200000 in
theorem rg_texts (S T : Nat → Prop) (l : List ByteArray) (A B : Option Addr) (n c d : Nat) (w : World) (ha : Cel w S (.slice A n c) n 1 (l.map .string)) (hb : Cel w T (.slice B n d) n 1 (l.map .string)) (hn : l.length = n) (hl : n ≤ 4096) :
    Calls Try.prog 15 #[.slice A n c, .slice B n d] w fun e w' => e = .returned (.bool true) ∧ Only none_ w w' := by
  rw [← flat_str] at ha hb
  have HA := Lib.hid ha
  have HB := Lib.hid hb
  have HN := Lib.hid hn
  clear ha hb hn
  go_enter Try.func15, Try.ntmps15
  go_wp2_with fail
  go_loopw [13] (fun s5 wr => ∃ i : Nat, i ≤ n ∧ s5 = .int .i64 i ∧ Only none_ w wr) (fun s5 _ => n - (intOf s5).toNat)
  case atStart => exact ⟨0, by omega, rfl, Only.refl _ _⟩
  case round =>
    obtain ⟨i, hi, rfl, o⟩ := hrel
    have O := Lib.hid o
    by_cases hlt : i < n
    · obtain ⟨p, hp⟩ : ∃ p, l[i]? = some p := ⟨l[i]'(by have := HN.out; omega), List.getElem?_eq_getElem _⟩
      obtain ⟨a0, off0, hA, _, _, ca⟩ := in_elem str1_length (by decide) HA.out HN.out hp
      obtain ⟨b0, off1, hB, _, _, cb⟩ := in_elem str1_length (by decide) HB.out HN.out hp
      subst hA hB
      have hbl := same_str p p
      rw [decide_eq_true rfl] at hbl
      have x0 := ca _ o 0 _ rfl
      have y0 := cb _ o 0 _ rfl
      rw [Nat.add_zero, Nat.mul_one] at x0 y0
      have hki : (i : Int) < (n : Int) := by omega
      clear o ca cb hp
      go_wp2_with fail
      go_quiet (fail)
      go_wp2_with fail
      go_roundw
      case rel => exact ⟨i + 1, by omega, by go_num, O.out.drewN _⟩
      case measure => simp [intOf]; omega
    · clear o
      go_wp2_with fail
      go_ret
      exact ⟨rfl, O.out⟩
end Go.Proofs.Ytniacolkjdmflaa
end
section
namespace Go.Proofs.Ytniacolkjdmflaa
open Go.RowKit
set_option maxRecDepth 100000
set_option linter.all false

theorem gp_store_all {P : Program} {ops : Array Oper} {rest : List Oper} {o : Oper} {a : Act} {w : World} {Q : Exit → Act → World → Prop} (hgd : o.guard = none) (ty : TypeId) (x y : Operand) (ho : o.op = .store ty x y)
    (g : Nat) (cells : Array Value) (hx : a.eval x = .pointer (some ⟨g, 0, none⟩)) (hy : a.eval y = .agg cells)
    (t : TypeId) (old : Array Value) (hg : Blk w g t old) (hi : (P.info? ty).map (·.size) = some cells.size)
    (hold : old.size = cells.size) (h1 : cells.all (·.oneCell') = true)
    (h : wpList P ops Q rest (a.put o.dst undef) (w.setRow g cells)) : wpList P ops Q (o :: rest) a w :=
  wpList_store_row hgd ty x y ho g cells hx hy t old hg hi hold h1 h

/-- What New tells of two numbers. -/
def newK (site t2 : Int) : Int := if stSite site = true then (if t2 < 0 ∨ 2147483647 < t2 then 2 else 0) else 1
def newG (site t2 : Int) : Array Value := if newK site t2 = 0 then #[.int .i64 site, .int .i64 t2, .slice none 0 0] else #[.int .i64 0, .int .i64 0, .slice none 0 0]

theorem gv_new_arg (site t2 : Int) (w : World) (h1 : stSite site = false) :
    Calls Try.prog 12 #[.int .i64 site, .int .i64 t2] w fun E w' => E = .returned (.tuple #[.pointer none, .int .i64 1]) ∧ Only none_ w w' := by
  have hs : site < 0 ∨ 12 ≤ site := by
    simp only [stSite, decide_eq_false_iff_not] at h1
    omega
  clear h1
  by_cases k1 : site < 0
  · clear hs
    go_enter Try.func12, Try.ntmps12
    go_wp2_with fail
    go_ret2
    exact ⟨rfl, Only.refl _ _⟩
  · have k2 : 12 ≤ site := by omega
    clear hs
    go_enter Try.func12, Try.ntmps12
    go_wp2_with fail
    go_ret2
    exact ⟨rfl, Only.refl _ _⟩
theorem gv_new_range (site t2 : Int) (w : World) (h1 : stSite site = true) (h2 : t2 < 0 ∨ 2147483647 < t2) :
    Calls Try.prog 12 #[.int .i64 site, .int .i64 t2] w fun E w' => E = .returned (.tuple #[.pointer none, .int .i64 2]) ∧ Only none_ w w' := by
  simp only [stSite, decide_eq_true_eq] at h1
  have k1 : ¬ site < 0 := by omega
  have k2 : ¬ 12 ≤ site := by omega
  clear h1
  by_cases k3 : t2 < 0
  · clear h2
    go_enter Try.func12, Try.ntmps12
    go_wp2_with fail
    go_ret2
    exact ⟨rfl, Only.refl _ _⟩
  · have k4 : 2147483647 < t2 := by omega
    clear h2
    go_enter Try.func12, Try.ntmps12
    go_wp2_with fail
    go_ret2
    exact ⟨rfl, Only.refl _ _⟩

set_option maxHeartbeats 3200000 in
theorem rg_new (site t2 : Int) (w : World) :
    Calls Try.prog 13 #[.int .i64 site, .int .i64 t2] w fun E w' => E = .returned (.tuple #[.agg (newG site t2), .int .i64 (newK site t2)]) ∧ Only none_ w w' := by
  have HS := Lib.hid (fun w => rf_site site w)
  have B0 := Blk.new w 36 #[.int .i64 0, .int .i64 0, .slice none 0 0]
  have O0 := Lib.hid ((Only.refl none_ w).alloc (.cells #[.int .i64 0, .int .i64 0, .slice none 0 0] 36))
  have BB := Lib.hid (fun (w' : World) (o : Only none_ (w.alloc (.cells #[.int .i64 0, .int .i64 0, .slice none 0 0] 36)) w') => B0.only o (fun h => h))
  by_cases h1 : stSite site = true
  · by_cases h2 : t2 < 0 ∨ 2147483647 < t2
    · have hk : newK site t2 = 2 := by rw [newK, if_pos h1, if_pos h2]
      have hg : newG site t2 = #[.int .i64 0, .int .i64 0, .slice none 0 0] := by rw [newG, hk]; rfl
      rw [hk, hg]
      rw [h1] at HS
      clear h1 hk hg B0
      by_cases k3 : t2 < 0
      · clear h2
        go_enter Try.func13, Try.ntmps13
        go_wp2_with (first
          | (go_at_call 46; refine (HS.out _).mono ?_; rintro E w1 ⟨rfl, rfl⟩
             have O1 := Lib.hid O0.out
             have B1 := Lib.hid (BB.out _ (Only.refl _ _)))
          | (with_reducible refine gp_store_all rfl 36 _ _ rfl w.heap.size #[.int .i64 0, .int .i64 0, .slice none 0 0] rfl rfl _ _ B1.out (by kernel_rfl) rfl rfl ?_))
        refine bodyPost_ret (results_cell_tmp rfl _ _ w.heap.size 36 _ _ rfl (Blk.new w _ _) Try.underlying36 rfl (by kernel_rfl) (.int .i64 2) rfl) rfl ?_
        exact ⟨rfl, (Only.refl none_ w).alloc _⟩
      · have k4 : 2147483647 < t2 := by omega
        clear h2
        go_enter Try.func13, Try.ntmps13
        go_wp2_with (first
          | (go_at_call 46; refine (HS.out _).mono ?_; rintro E w1 ⟨rfl, rfl⟩
             have O1 := Lib.hid O0.out
             have B1 := Lib.hid (BB.out _ (Only.refl _ _)))
          | (with_reducible refine gp_store_all rfl 36 _ _ rfl w.heap.size #[.int .i64 0, .int .i64 0, .slice none 0 0] rfl rfl _ _ B1.out (by kernel_rfl) rfl rfl ?_))
        refine bodyPost_ret (results_cell_tmp rfl _ _ w.heap.size 36 _ _ rfl (Blk.new w _ _) Try.underlying36 rfl (by kernel_rfl) (.int .i64 2) rfl) rfl ?_
        exact ⟨rfl, (Only.refl none_ w).alloc _⟩
    · have hk : newK site t2 = 0 := by rw [newK, if_pos h1, if_neg h2]
      have hg : newG site t2 = #[.int .i64 site, .int .i64 t2, .slice none 0 0] := by rw [newG, hk]; rfl
      rw [hk, hg]
      rw [h1] at HS
      have k3 : ¬ t2 < 0 := by omega
      have k4 : ¬ 2147483647 < t2 := by omega
      clear h1 h2 hk hg B0
      go_enter Try.func13, Try.ntmps13
      go_wp2_with (first
        | (go_at_call 46; refine (HS.out _).mono ?_; rintro E w1 ⟨rfl, rfl⟩
           have O1 := Lib.hid O0.out
           have B1 := Lib.hid (BB.out _ (Only.refl _ _)))
        | (with_reducible refine gp_store_all rfl 36 _ _ rfl w.heap.size #[.int .i64 site, .int .i64 t2, .slice none 0 0] rfl rfl _ _ B1.out (by kernel_rfl) rfl rfl ?_))
      refine bodyPost_ret (results_cell_tmp rfl _ _ w.heap.size 36 _ _ rfl (Blk.new w _ _) Try.underlying36 rfl (by kernel_rfl) (.int .i64 0) rfl) rfl ?_
      exact ⟨rfl, (Only.refl none_ w).alloc _⟩
  · have hk : newK site t2 = 1 := by rw [newK, if_neg h1]
    have hg : newG site t2 = #[.int .i64 0, .int .i64 0, .slice none 0 0] := by rw [newG, hk]; rfl
    rw [hk, hg]
    rw [show stSite site = false by simpa using h1] at HS
    clear h1 hk hg B0
    go_enter Try.func13, Try.ntmps13
    go_wp2_with (first
      | (go_at_call 46; refine (HS.out _).mono ?_; rintro E w1 ⟨rfl, rfl⟩
         have O1 := Lib.hid O0.out
         have B1 := Lib.hid (BB.out _ (Only.refl _ _)))
      | (with_reducible refine gp_store_all rfl 36 _ _ rfl w.heap.size #[.int .i64 0, .int .i64 0, .slice none 0 0] rfl rfl _ _ B1.out (by kernel_rfl) rfl rfl ?_))
    refine bodyPost_ret (results_cell_tmp rfl _ _ w.heap.size 36 _ _ rfl (Blk.new w _ _) Try.underlying36 rfl (by kernel_rfl) (.int .i64 1) rfl) rfl ?_
    exact ⟨rfl, (Only.refl none_ w).alloc _⟩
end Go.Proofs.Ytniacolkjdmflaa
end
section
namespace Go.Proofs.Ytniacolkjdmflaa
open Go.RowKit
set_option maxRecDepth 100000
set_option linter.all false

theorem ref_info5 : (Try.prog.info? 26).map (fun i => (i.zero, i.size, i.bytes)) = some (some (.agg #[.string ⟨#[]⟩, .string ⟨#[]⟩, .bool false, .int .i64 0, .int .i64 0, .int .i64 0, .int .i64 0, .int .i64 0, .int .i64 0]), 9, 88) := by kernel_rfl
theorem row_one5 (e : En) : ∀ u ∈ enRow e, u.oneCell' = true := by
  intro u hu
  simp only [enRow, List.mem_cons, List.not_mem_nil, or_false] at hu
  rcases hu with rfl | rfl | rfl | rfl | rfl | rfl | rfl | rfl | rfl <;> rfl
theorem rows_next {l : List En} {k : Nat} {a : En} (h : l[k]? = some a) : (l.take (k + 1)).flatMap enRow = (l.take k).flatMap enRow ++ enRow a := by
  obtain ⟨hk, hb⟩ := List.getElem?_eq_some_iff.1 h
  rw [List.take_succ_eq_append_getElem hk, List.flatMap_append, hb]
  simp
theorem own_len5 {w : World} {base : Nat} {e : TypeId} {k n n' c : Nat} {A : Option Addr} {xs : List Value} (h : w.ownsRow base e k (.slice A n' c) n xs) : n' = n := by
  rcases h.2 with ⟨e1, h0⟩ | ⟨g, cap, cur, e1, _⟩
  · injection e1 with _ e2 _; omega
  · injection e1 with _ e2 _

set_option maxHeartbeats 6400000 in
theorem g_tos (A : Option Addr) (c n : Nat) (S : Nat → Prop) (l : List En) (hn : l.length = n) (hn4 : n ≤ 4096) (w : World) (hx : Cel w S (.slice A n c) n 9 (l.flatMap enRow)) :
    Calls Try.prog 27 #[.slice A n c] w fun E w' => ∃ v', E = .returned v' ∧ w'.ownsRow w.heap.size 26 9 v' n (l.flatMap enRow) ∧ Only none_ w w' := by
  obtain ⟨i0, hi0, hz0, hz1, hz2⟩ := info_parts ref_info5
  have HX := Lib.hid hx
  have HN := Lib.hid hn
  have M1 : Hid ((w.alloc (.cells #[] 26)).ownsRow w.heap.size 26 9 (.slice (some ⟨w.heap.size, 0, none⟩) 0 0) 0 []) := own_made w w.heap.size _ 9 0 #[] (by simp) (by simp [maxLen]) (Nat.le_refl _)
  have O1 := Lib.hid ((Only.refl none_ w).alloc (.cells #[] 26))
  clear hx hn
  go_enter Try.func27, Try.ntmps27
  go_wp2_with fail
  go_loopw [9, 3] (fun i o wr => ∃ (k : Nat) (B : Option Addr) (m d : Nat), k ≤ n ∧ i = .int .i64 (k : Int) ∧ o = .slice B m d ∧ m = k ∧ wr.ownsRow w.heap.size 26 9 (.slice B m d) k ((l.take k).flatMap enRow) ∧ Only none_ w wr) (fun i _ _ => n - (intOf i).toNat)
  case atStart => exact ⟨0, _, _, _, Nat.zero_le _, rfl, rfl, rfl, M1.out, O1.out⟩
  case round =>
    obtain ⟨k, B, m, d, hk, rfl, rfl, hm, hown, ho⟩ := hrel
    have HW := Lib.hid ho
    have OW := Lib.hid hown
    have HM := Lib.hid hm
    clear ho hown hm
    by_cases hlt : k < n
    · obtain ⟨a, ha⟩ : ∃ a, l[k]? = some a := ⟨l[k]'(by have := HN.out; omega), List.getElem?_eq_getElem _⟩
      obtain ⟨b, off, hA, _, hb, hc⟩ := in_elem enRow_length (by decide) HX.out HN.out ha
      subst hA
      have HC : Hid (∀ j u, (#[.string a.k, .string a.v, .bool a.d, .int .i64 a.s.c, .int .i64 a.s.s, .int .i64 a.a.c, .int .i64 a.a.s, .int .i64 a.p, .int .i64 a.g] : Array Value).toList[j]? = some u → wr.cell? ⟨b, off + k * 9 + j, none⟩ = some u) := fun j u hu => hc _ HW.out j u hu
      have HS := Lib.hid (rows_next ha)
      have BA := Lib.hid (Blk.new wr 51 #[.string a.k, .string a.v, .bool a.d, .int .i64 a.s.c, .int .i64 a.s.s, .int .i64 a.a.c, .int .i64 a.a.s, .int .i64 a.p, .int .i64 a.g])
      have O2 := Lib.hid ((Only.refl none_ wr).alloc (.cells #[.string a.k, .string a.v, .bool a.d, .int .i64 a.s.c, .int .i64 a.s.s, .int .i64 a.a.c, .int .i64 a.a.s, .int .i64 a.p, .int .i64 a.g] 51))
      have MX : Hid (k + 1 ≤ maxLen ∧ (k + 1) * 88 ≤ 140737488355328) := by simp only [Hid, maxLen]; omega
      have hki : (k : Int) < (n : Int) := by omega
      clear ha hc
      go_wp2_with (first
        | (with_reducible refine wpl_piece rfl 51 _ rfl b (off + k * 9) rfl #[.string a.k, .string a.v, .bool a.d, .int .i64 a.s.c, .int .i64 a.s.s, .int .i64 a.a.c, .int .i64 a.a.s, .int .i64 a.p, .int .i64 a.g] _ HC.out Try.underlying51 rfl (by kernel_rfl) ?_)
        | (with_reducible refine wpl_new rfl rfl 51 rfl _ _ rfl #[.string a.k, .string a.v, .bool a.d, .int .i64 a.s.c, .int .i64 a.s.s, .int .i64 a.a.c, .int .i64 a.a.s, .int .i64 a.p, .int .i64 a.g] rfl rfl (by kernel_rfl) (en_cells_one a) ?_)
        | (with_reducible refine wpl_load rfl 51 _ rfl wr.heap.size rfl _ #[.string a.k, .string a.v, .bool a.d, .int .i64 a.s.c, .int .i64 a.s.s, .int .i64 a.a.c, .int .i64 a.a.s, .int .i64 a.p, .int .i64 a.g] _ BA.out Try.underlying51 rfl (by kernel_rfl) ?_)
        | (go_at_call 22; refine (en_to a _).mono ?_; rintro E w5 ⟨rfl, o5⟩
           have O5 := Lib.hid (O2.out.trans o5)
           have O6 := Lib.hid ((O2.out.trans o5).alloc (.cells #[.string a.k, .string a.v, .bool a.d, .int .i64 a.s.c, .int .i64 a.s.s, .int .i64 a.a.c, .int .i64 a.a.s, .int .i64 a.p, .int .i64 a.g] 26))
           have OW6 := Lib.hid (owns_only OW.out O6.out (fun _ _ h => h))
           have CM := Lib.hid (cel_made w5 26 9 1 #[.string a.k, .string a.v, .bool a.d, .int .i64 a.s.c, .int .i64 a.s.s, .int .i64 a.a.c, .int .i64 a.a.s, .int .i64 a.p, .int .i64 a.g] rfl (by simp [maxLen]))
           have ONE : Hid (∀ u ∈ (#[.string a.k, .string a.v, .bool a.d, .int .i64 a.s.c, .int .i64 a.s.s, .int .i64 a.a.c, .int .i64 a.a.s, .int .i64 a.p, .int .i64 a.g] : Array Value).toList, u.oneCell' = true) := row_one5 a
           have SZ : Hid (w.heap.size ≤ (w5.alloc (.cells #[.string a.k, .string a.v, .bool a.d, .int .i64 a.s.c, .int .i64 a.s.s, .int .i64 a.a.c, .int .i64 a.a.s, .int .i64 a.p, .int .i64 a.g] 26)).heap.size) := (HW.out.trans O6.out).size
           clear o5)
        | (at_builtin; refine wpList_append_cel _ rfl (.tmp 13) (.tmp 16) 34 rfl w.heap.size 26 i0 _ 9 88 Try.underlying34 hi0 hz0 hz1 hz2 rfl (by omega) (.slice B m d) k _ rfl OW6.out _ _ 1 _ rfl CM.out ONE.out MX.out.1 MX.out.2 SZ.out ?_
           intro A7 n7 c7 w7 hown7 hgrow7 hmv7
           have O7 : Hid (Only none_ w w7) := (HW.out.trans O6.out).grown hgrow7 (fun k hk => .inr (OW6.out.lt k hk).1)
           have H7 := Lib.hid hown7
           have HN7 : Hid (n7 = k + 1) := own_len5 hown7
           clear hown7 hgrow7 hmv7))
      go_roundw
      case rel => exact ⟨k + 1, A7, n7, c7, by omega, by go_num, rfl, HN7.out, by rw [HS.out]; exact H7.out, O7.out⟩
      case measure => simp [intOf]; omega
    · obtain rfl : k = n := by omega
      have HT : Hid (l.take k = l) := by rw [Hid, ← HN.out, List.take_length]
      have F : Hid (wr.ownsRow w.heap.size 26 9 (.slice B m d) k (l.flatMap enRow)) := by have := OW.out; rwa [HT.out] at this
      clear HT OW
      go_wp2_with fail
      go_ret
      exact ⟨_, rfl, F.out, HW.out⟩
end Go.Proofs.Ytniacolkjdmflaa
end
section
namespace Go.Proofs.Ytniacolkjdmflaa
open Go.RowKit
set_option maxRecDepth 100000
set_option linter.all false

theorem gp_far {B w : World} {g tb : Nat} {site t2 : Int} {l : List En} {v : Value} (h : Gv B g tb site t2 l v w) {b : Nat} {t : TypeId} {cs : Array Value} (hb : Blk w b t cs) (h1 : 60 ≠ t) (h2 : 148 ≠ t) (h3 : 145 ≠ t) : ¬ gfoot g tb v b := by
  rintro (rfl | rfl | hf)
  · exact Blk.ne_ h.bk hb h1 rfl
  · exact Blk.ne_ h.t.bk hb h2 rfl
  · exact own_blk_ne h.t.ow hb h3 hf
theorem gp_row_far {B w : World} {g tb : Nat} {site t2 : Int} {l : List En} {v : Value} (h : Gv B g tb site t2 l v w) {M k n : Nat} {t : TypeId} {u : Value} {xs : List Value} (hb : w.ownsRow M t k u n xs) (h1 : t ≠ 60) (h2 : t ≠ 148) (h3 : 145 ≠ t) : ∀ j, u.ownBlock = some j → ¬ gfoot g tb v j := by
  rintro j hj (rfl | rfl | hf)
  · exact own_blk_ne hb h.bk h1 hj
  · exact own_blk_ne hb h.t.bk h2 hj
  · exact own_apart h.t.ow hb h3 j hf hj

/-- The graves g beside the document's in box mb; what is asked for lies in box lb. -/
structure Py (W : World) (g lb mb : Nat) (ask : En) (site t2 : Int) (n tb : Nat) (lg : List En) (v : Value) (A : Option Addr) (c : Nat) (lm : List En) (X : World) : Prop where
  g : Gv W g tb site t2 lg v X
  a : Blk X lb 26 #[.string ask.k, .string ask.v, .bool ask.d, .int .i64 ask.s.c, .int .i64 ask.s.s, .int .i64 ask.a.c, .int .i64 ask.a.s, .int .i64 ask.p, .int .i64 ask.g]
  m : Blk X mb 36 #[.int .i64 site, .int .i64 t2, .slice A lm.length c]
  ow : X.ownsRow W.heap.size 26 9 (.slice A lm.length c) lm.length (lm.flatMap enRow)
  ok : ∀ x ∈ lg, GvOk (fun e => enDuty e site) t2 x
  len : lg.length ≤ n
  ge : W.heap.size ≤ lb ∧ W.heap.size ≤ mb
section
variable {W X X' : World} {g lb mb : Nat} {ask : En} {site t2 : Int} {n tb c : Nat} {lg lm : List En} {v : Value} {A : Option Addr}
theorem Py.keep (h : Py W g lb mb ask site t2 n tb lg v A c lm X) (o : Only none_ X X') : Py W g lb mb ask site t2 n tb lg v A c lm X' :=
  ⟨h.g.keep o, h.a.only o (fun h => h), h.m.only o (fun h => h), owns_only h.ow o (fun _ _ h => h), h.ok, h.len, h.ge⟩
theorem Py.cel (h : Py W g lb mb ask site t2 n tb lg v A c lm X) : Cel X (fun b => b < X.heap.size) (.slice A lm.length c) lm.length 9 (lm.flatMap enRow) := (Cel.of_own h.ow).mono fun b hb hv => hb
/-- The document's list changes: its box is stored anew. -/
theorem Py.doc (h : Py W g lb mb ask site t2 n tb lg v A c lm X) {A' : Option Addr} {c' : Nat} {lm' : List En} (ow : X.ownsRow W.heap.size 26 9 (.slice A' lm'.length c') lm'.length (lm'.flatMap enRow)) :
    Py W g lb mb ask site t2 n tb lg v A' c' lm' (X.setRow mb #[.int .i64 site, .int .i64 t2, .slice A' lm'.length c']) :=
  ⟨h.g.apart (only_row mb _) (fun b hb e => gp_far h.g h.m (by decide) (by decide) (by decide) (by rw [← (show b = mb from e)]; exact hb)) (fun b e => by have e' : b = mb := e; have := h.ge.2; omega),
    h.a.setRow_far (Blk.ne_ h.a h.m (by decide)) _, h.m.setRow _, owns_only ow (only_row mb _) (fun k hk e => own_blk_ne ow h.m (by decide) (by rw [hk]; exact congrArg some e)), h.ok, h.len, h.ge⟩
/-- The program's graves change. -/
theorem Py.left (h : Py W g lb mb ask site t2 n tb lg v A c lm X) {lg' : List En} (hL : LeftG W g tb site t2 v X lg' X') (hok : ∀ x ∈ lg', GvOk (fun e => enDuty e site) t2 x) (hn : lg'.length ≤ n + 1) :
    ∃ tb' v', Py W g lb mb ask site t2 (n + 1) tb' lg' v' A c lm X' := by
  obtain ⟨tb', v', h1, h2, h3⟩ := hL
  exact ⟨tb', v', h1, h.a.only h2 (gp_far h.g h.a (by decide) (by decide) (by decide)), h.m.only h2 (gp_far h.g h.m (by decide) (by decide) (by decide)), owns_only h.ow h2 (gp_row_far h.g h.ow (by decide) (by decide) (by decide)), hok, hn, h.ge⟩
theorem Py.ho (h : Py W g lb mb ask site t2 n tb lg v A c lm X) : Only none_ W X := h.g.ho
end
def stepG (site t2 : Int) (a : Ga) (l : List En) : List En := if a.t = true then (tickE t2 l).1 else (buryE (enDuty a.e site) t2 l a.e).1
theorem py_duty_d {site : Int} (x : En) (h : enDuty x site = true) : x.d = true := by
  simp only [enDuty, Bool.and_eq_true] at h
  exact h.1.1
theorem py_duty_cg {site : Int} (x y : En) (h1 : x.d = y.d) (h2 : x.p = y.p) : enDuty x site = enDuty y site := by
  unfold enDuty; rw [h1, h2]
theorem step_ok {site t2 : Int} {a : Ga} {l : List En} (h : ∀ x ∈ l, GvOk (fun e => enDuty e site) t2 x) : ∀ x ∈ stepG site t2 a l, GvOk (fun e => enDuty e site) t2 x := by
  unfold stepG
  split
  · exact ok_tick (fun x y a b => py_duty_cg x y a b) h
  · exact ok_bury (duty := fun e => enDuty e site) (fun x hx => py_duty_d x hx) (fun x y a b => py_duty_cg x y a b) h
theorem step_len {site t2 : Int} {a : Ga} {l : List En} {n : Nat} (h : l.length ≤ n) : (stepG site t2 a l).length ≤ n + 1 := by
  unfold stepG
  split
  · have := len_tick t2 l; omega
  · have := len_bury (enDuty a.e site) t2 l a.e; omega
/-- What is read of the key that is asked for. -/
theorem ask_ways (l : List En) (k : ByteArray) : (fndE l k = -1 ∧ hasE l k = false ∧ (lookE l k).getD enZero = enZero) ∨ ∃ (i : Nat) (x : En), l[i]? = some x ∧ fndE l k = (i : Int) ∧ hasE l k = true ∧ (lookE l k).getD enZero = x := by
  rcases fnd_ways l k with ⟨h1, h2⟩ | ⟨i, x, hx, h1, h2, h3⟩
  · refine .inl ⟨h1, ?_, by rw [h2]; rfl⟩
    have := fndE_has l k
    rw [h1] at this
    rw [← this]; rfl
  · refine .inr ⟨i, x, hx, h1, ?_, by rw [h2]; rfl⟩
    have := fndE_has l k
    rw [h1] at this
    rw [← this]
    simp
end Go.Proofs.Ytniacolkjdmflaa
end
section
namespace Go.Proofs.Ytniacolkjdmflaa
open Go.RowKit
set_option maxRecDepth 100000
set_option linter.all false
attribute [local go_sem] Oper.semAt_some

set_option maxHeartbeats 25600000 in
theorem graves_plays (A : Option Addr) (c : Nat) (S : Nat → Prop) (l : List Ga) (site t2 : Int) (ask : En) (w : World) (hx : Cel w S (.slice A l.length c) l.length 10 (l.flatMap gaRow)) :
    Calls Try.prog 3 #[.int .i64 site, .int .i64 t2, .slice A l.length c, .agg #[.string ask.k, .string ask.v, .bool ask.d, .int .i64 ask.s.c, .int .i64 ask.s.s, .int .i64 ask.a.c, .int .i64 ask.a.s, .int .i64 ask.p, .int .i64 ask.g]] w fun E w' => E = .returned (.bool true) ∧ Only none_ w w' := by
  have HSP := Lib.hid (fun (X : World) => gv_speaks X)
  have HFW := Lib.hid (fun (X : World) (o : Only none_ w X) => g_few _ l X S (hx.only o (fun _ _ h => h)))
  have HSH := Lib.hid (fun (X : World) => rf_short ask X)
  obtain ⟨fw, hfw⟩ : ∃ b, (l.all gaShort && decide (l.length ≤ 50)) = b := ⟨_, rfl⟩
  rw [hfw] at HFW
  obtain ⟨sa, hsa⟩ : ∃ b, enShort ask = b := ⟨_, rfl⟩
  rw [hsa] at HSH
  have HX := Lib.hid hx
  obtain ⟨L, hL⟩ : ∃ L, l.length = L := ⟨_, rfl⟩
  have HL := Lib.hid hL
  rw [hL] at HFW HX ⊢
  have hLm : L ≤ 9223372036854775807 := by
    obtain ⟨_, _, e, _, h2, h3, _, _⟩ := HX.out
    injection e with _ _ e
    subst e
    simp only [maxLen] at h3; omega
  have B0 := Lib.hid (Blk.new w 26 #[.string ask.k, .string ask.v, .bool ask.d, .int .i64 ask.s.c, .int .i64 ask.s.s, .int .i64 ask.a.c, .int .i64 ask.a.s, .int .i64 ask.p, .int .i64 ask.g])
  have O0 := Lib.hid ((Only.refl none_ w).alloc (.cells #[.string ask.k, .string ask.v, .bool ask.d, .int .i64 ask.s.c, .int .i64 ask.s.s, .int .i64 ask.a.c, .int .i64 ask.a.s, .int .i64 ask.p, .int .i64 ask.g] 26))
  obtain ⟨w0, hw0⟩ : ∃ w0, w.alloc (.cells #[.string ask.k, .string ask.v, .bool ask.d, .int .i64 ask.s.c, .int .i64 ask.s.s, .int .i64 ask.a.c, .int .i64 ask.a.s, .int .i64 ask.p, .int .i64 ask.g] 26) = w0 := ⟨_, rfl⟩
  have HW0 := Lib.hid hw0
  rw [hw0] at B0 O0
  obtain ⟨lb, hlb⟩ : ∃ b, w.heap.size = b := ⟨_, rfl⟩
  have HLB := Lib.hid hlb
  rw [hlb] at B0
  clear hL hx hw0 hlb hsa
  cases fw with
  | false =>
    clear HX HSH
    go_enter Try.func3, Try.ntmps3
    go_upto_region 1 with fail
    rw [HW0.out, HLB.out]
    have tok1 : True := trivial
    go_wp2_with (first
      | (go_at_call 9; have _t := tok1; clear tok1; refine (HSP.out _).mono ?_; rintro E w1 ⟨rfl, o1⟩; have O1 := Lib.hid (O0.out.trans o1); clear o1; have tok2 : True := trivial)
      | (go_at_call 10; refine (HFW.out _ O1.out).mono ?_; rintro E w2 ⟨rfl, o2⟩; have O2 := Lib.hid (O1.out.trans o2); clear o2)
      | (go_at_call 9; have _t := tok2; clear tok2; refine (HSP.out _).mono ?_; rintro E w3 ⟨rfl, o3⟩; have O3 := Lib.hid (O2.out.trans o3); clear o3))
    go_ret
    exact ⟨rfl, O3.out⟩
  | true =>
    simp only [Bool.and_eq_true, decide_eq_true_eq] at hfw
    have HN50 : Hid (L ≤ 50) := by have := HL.out; rw [Hid]; omega
    clear hfw
    cases sa with
    | false =>
      clear HX
      go_enter Try.func3, Try.ntmps3
      go_upto_region 1 with fail
      rw [HW0.out, HLB.out]
      have tok1 : True := trivial
      go_wp2_with (first
        | (go_at_call 9; have _t := tok1; clear tok1; refine (HSP.out _).mono ?_; rintro E w1 ⟨rfl, o1⟩; have O1 := Lib.hid (O0.out.trans o1); have B1 := Lib.hid (B0.out.only o1 (fun h => h)); clear o1; have tok2 : True := trivial)
        | (go_at_call 10; refine (HFW.out _ O1.out).mono ?_; rintro E w2 ⟨rfl, o2⟩; have O2 := Lib.hid (O1.out.trans o2); obtain ⟨t0, t1, t2_, t3, t4, t5, t6, t7, t8⟩ := nine_of (B1.out.only o2 (fun h => h)); clear o2)
        | (go_at_call 11; refine (HSH.out _).mono ?_; rintro E w4 ⟨rfl, o4⟩; have O4 := Lib.hid (O2.out.trans o4); clear o4)
        | (go_at_call 9; have _t := tok2; clear tok2; refine (HSP.out _).mono ?_; rintro E w3 ⟨rfl, o3⟩; have O3 := Lib.hid (O4.out.trans o3); clear o3))
      go_ret
      exact ⟨rfl, O3.out⟩
    | true =>
      by_cases h1 : stSite site = true
      · by_cases h2 : t2 < 0 ∨ 2147483647 < t2
        · have HK : Hid (newK site t2 = 2) := by rw [Hid, newK, if_pos h1, if_pos h2]
          have HG : Hid (newG site t2 = #[.int .i64 0, .int .i64 0, .slice none 0 0]) := by rw [Hid, newG, HK.out]; rfl
          have HNR := Lib.hid (fun X => gv_new_range site t2 X h1 h2)
          clear h1 h2 HX
          go_enter Try.func3, Try.ntmps3
          go_upto_region 1 with fail
          rw [HW0.out, HLB.out]
          go_wp2_with (first
            | (go_at_call 9; refine (HSP.out _).mono ?_; rintro E w1 ⟨rfl, o1⟩; have O1 := Lib.hid (O0.out.trans o1); have B1 := Lib.hid (B0.out.only o1 (fun h => h)); clear o1)
            | (go_at_call 10; refine (HFW.out _ O1.out).mono ?_; rintro E w2 ⟨rfl, o2⟩; have O2 := Lib.hid (O1.out.trans o2); have B2 := Lib.hid (B1.out.only o2 (fun h => h)); obtain ⟨t0, t1, t2_, t3, t4, t5, t6, t7, t8⟩ := nine_of B2.out; clear o2)
            | (go_at_call 11; refine (HSH.out _).mono ?_; rintro E w3 ⟨rfl, o3⟩; have O3 := Lib.hid (O2.out.trans o3); have B3 := Lib.hid (B2.out.only o3 (fun h => h)); clear o3)
            | (go_at_call 12; refine (HNR.out _).mono ?_; rintro E w4 ⟨rfl, o4⟩; have O4 := Lib.hid (O3.out.trans o4); clear o4)
            | (go_at_call 13; refine (rg_new site t2 _).mono ?_; rw [HK.out, HG.out]; rintro E w5 ⟨rfl, o5⟩
               have P5 := Lib.hid (O4.out.trans o5)
               clear o5)
            | (with_reducible refine wpl_new rfl rfl 36 rfl _ _ rfl #[.int .i64 0, .int .i64 0, .slice none 0 0] rfl rfl (by kernel_rfl) (by kernel_rfl) ?_))
          go_ret
          exact ⟨rfl, P5.out.alloc _⟩
        · have HK : Hid (newK site t2 = 0) := by rw [Hid, newK, if_pos h1, if_neg h2]
          have HG : Hid (newG site t2 = #[.int .i64 site, .int .i64 t2, .slice none 0 0]) := by rw [Hid, newG, HK.out]; rfl
          have HT2 : Hid (0 ≤ t2 ∧ t2 ≤ 2147483647) := by rw [Hid]; omega
          have HNO := Lib.hid (fun (X : World) (o : Only none_ w X) => gv_new w site t2 X o h1 HT2.out)
          clear h1 h2
          go_enter Try.func3, Try.ntmps3
          go_upto_region 1 with fail
          rw [HW0.out, HLB.out]
          go_wp2_with (first
            | (go_at_call 9; refine (HSP.out _).mono ?_; rintro E w1 ⟨rfl, o1⟩; have O1 := Lib.hid (O0.out.trans o1); have B1 := Lib.hid (B0.out.only o1 (fun h => h)); clear o1)
            | (go_at_call 10; refine (HFW.out _ O1.out).mono ?_; rintro E w2 ⟨rfl, o2⟩; have O2 := Lib.hid (O1.out.trans o2); have B2 := Lib.hid (B1.out.only o2 (fun h => h)); obtain ⟨t0, t1, t2_, t3, t4, t5, t6, t7, t8⟩ := nine_of B2.out; clear o2)
            | (go_at_call 11; refine (HSH.out _).mono ?_; rintro E w3 ⟨rfl, o3⟩; have O3 := Lib.hid (O2.out.trans o3); have B3 := Lib.hid (B2.out.only o3 (fun h => h)); clear o3)
            | (go_at_call 12; refine (HNO.out _ O3.out).mono ?_; rintro E w4 ⟨g1, tb1, rfl, hg1, ht1, G, o4⟩; have O4 := Lib.hid (O3.out.trans o4); have B4 := Lib.hid (B3.out.only o4 (fun h => h)); have G4 := Lib.hid G; clear o4 G)
            | (go_at_call 13; refine (rg_new site t2 _).mono ?_; rw [HK.out, HG.out]; rintro E w5 ⟨rfl, o5⟩
               have O5 := Lib.hid (O4.out.trans o5)
               have P5 : Hid (Py w g1 lb w5.heap.size ask site t2 0 tb1 [] (.slice none 0 0) none 0 [] (w5.alloc (.cells #[.int .i64 site, .int .i64 t2, .slice none 0 0] 36))) :=
                 ⟨(G4.out.keep o5).keep ((Only.refl none_ w5).alloc _), (B4.out.only o5 (fun h => h)).alloc _, Blk.new _ _ _, ⟨rfl, .inl ⟨rfl, rfl⟩⟩, fun x hx => (by cases hx), Nat.le_refl _, ⟨by rw [HLB.out]; omega, (O4.out.trans o5).size⟩⟩
               clear o5)
            | (with_reducible refine wpl_new rfl rfl 36 rfl _ _ rfl #[.int .i64 site, .int .i64 t2, .slice none 0 0] rfl rfl (by kernel_rfl) (by kernel_rfl) ?_))
          clear t0 t1 t2_ t3 t4 t5 t6 t7 t8 B0 B1 B2 B3 B4 G4 O0 O1 O2 O3 O4 HFW HSP HSH HNO HK HG hg1 ht1
          generalize w5.heap.size = mb at *
          generalize w5.alloc (.cells #[.int .i64 site, .int .i64 t2, .slice none 0 0] 36) = w6 at *
          go_loopw [61] (fun i X => ∃ (k tb : Nat) (lg : List En) (v : Value) (A3 : Option Addr) (c3 : Nat), k ≤ L ∧ i = .int .i64 (k : Int) ∧ Py w g1 lb mb ask site t2 k tb lg v A3 c3 lg X) (fun i _ => L - (intOf i).toNat)
          case atStart => exact ⟨0, tb1, [], _, _, _, Nat.zero_le _, rfl, P5.out⟩
          case round =>
            obtain ⟨k, tb, lg, v, A3, c3, hk, rfl, hp⟩ := hrel
            have P := Lib.hid hp
            clear hp P5 O5
            by_cases hlt : k < L
            · obtain ⟨a, ha⟩ : ∃ a, l[k]? = some a := ⟨l[k]'(by have := HL.out; omega), List.getElem?_eq_getElem _⟩
              obtain ⟨b, off, hA, _, hb, hc⟩ := in_elem gaRow_length (by decide) HX.out HL.out ha
              subst hA
              have HC : Hid (∀ j u, (gaA a).toList[j]? = some u → wr.cell? ⟨b, off + k * 10 + j, none⟩ = some u) := fun j u hu => hc _ P.out.ho j u hu
              have BA := Lib.hid (Blk.new wr 40 (gaA a))
              have c0 : (wr.alloc (.cells (gaA a) 40)).cell? ⟨wr.heap.size, 0, none⟩ = some (.bool a.t) := BA.out.cell_ (i := 0) rfl
              have PA := Lib.hid (P.out.keep ((Only.refl none_ wr).alloc (.cells (gaA a) 40)))
              have HL9 : Hid (lg.length ≤ 60) := by have := P.out.len; have := HN50.out; rw [Hid]; omega
              have HOK := Lib.hid P.out.ok
              clear ha hc hb
              go_upto_if 66 with (first
                | (with_reducible refine wpl_piece rfl 40 _ rfl b (off + k * 10) rfl (gaA a) _ HC.out Try.underlying40 rfl (by kernel_rfl) ?_)
                | (with_reducible refine wpl_new rfl rfl 40 rfl _ _ rfl (gaA a) rfl rfl (by kernel_rfl) (ga_one a) ?_))
              generalize wr.heap.size = h1 at *
              generalize wr.alloc (.cells (gaA a) 40) = wp at *
              clear c0 HC P
              go_cut [67] (fun _ X => ∃ tb v A3 c3, Py w g1 lb mb ask site t2 (k + 1) tb (stepG site t2 a lg) v A3 c3 (stepG site t2 a lg) X)
              case rest =>
                obtain ⟨wq, hwq⟩ : ∃ x, x = wc := ⟨_, rfl⟩
                subst hwq
                obtain ⟨tb6, v6, A6, c6, hP⟩ := hcut
                generalize stepG site t2 a lg = lg6 at hP
                have hl6 := hP.len
                have HL6 : Hid (lg6.length ≤ 60) := by have := HN50.out; rw [Hid]; omega
                have P6 := Lib.hid hP
                obtain ⟨e6, he6⟩ : ∃ x, (lookE lg6 ask.k).getD enZero = x := ⟨_, rfl⟩
                obtain ⟨hs, hhs⟩ : ∃ x, hasE lg6 ask.k = x := ⟨_, rfl⟩
                obtain ⟨f6, hf6⟩ : ∃ x, fndE lg6 ask.k = x := ⟨_, rfl⟩
                have HGET := Lib.hid (fun (X : World) (o : Only none_ wq X) => sh_get w g1 tb6 lg6 v6 ask.k e6 he6 X (hP.g.keep o).sh (hP.g.keep o).t)
                rw [hhs] at HGET
                have HFD := Lib.hid (fun (X : World) (o : Only none_ wq X) => rg_find _ lg6 A6 lg6.length c6 ask.k X (hP.keep o).cel rfl (by have := HL6.out; omega))
                rw [hf6] at HFD
                have HE6 := Lib.hid he6
                have HHS := Lib.hid hhs
                have HF6 := Lib.hid hf6
                clear hP hl6 he6 hhs hf6 PA BA HOK HL9
                go_upto_region 21 with fail
                go_cut [19, 20] (fun s19 s20 X => Gk wq e6 hs s19 s20 X)
                case rest =>
                  obtain ⟨bq, rfl, rfl, hbq, BQ0, oq⟩ := hcut
                  have BQ := Lib.hid BQ0
                  have OQ := Lib.hid oq
                  have P7 := Lib.hid (P6.out.keep oq)
                  have m2 := P7.out.m.cell_ (i := 2) rfl
                  have a0 := P7.out.a.cell_ (i := 0) rfl
                  clear BQ0 hbq oq
                  go_upto_region 23 with (first
                    | (go_at_call 21; refine (HFD.out _ OQ.out).mono ?_; rintro E w7 ⟨rfl, rfl⟩))
                  obtain ⟨wk, hwk⟩ : ∃ x, x = wc := ⟨_, rfl⟩
                  subst hwk
                  clear m2 a0 HFD HGET
                  go_cut [132] (fun s132 X => s132 = .bool false ∧ Only none_ wk X)
                  case rest =>
                    obtain ⟨rfl, o8⟩ := hcut
                    have P8 := Lib.hid (P7.out.keep o8)
                    obtain ⟨wj, hwj⟩ : ∃ x, x = wc := ⟨_, rfl⟩
                    subst hwj
                    have HOF := Lib.hid (fun (X : World) => en_of ask X)
                    have HOV := Lib.hid (fun (X : World) (o : Only none_ wj X) => gv_over w g1 tb6 site t2 lg6 v6 ask X (P8.out.keep o).g)
                    have HRO := Lib.hid (fun (X : World) (o : Only none_ wj X) => rg_over _ lg6 A6 lg6.length c6 site t2 ask X (P8.out.keep o).cel rfl (by have := HL6.out; omega))
                    have HLE := Lib.hid (fun (X : World) (o : Only none_ wj X) => sh_len w g1 tb6 lg6 v6 X (P8.out.keep o).g.sh (P8.out.keep o).g.t)
                    have HAL := Lib.hid (fun (X : World) (o : Only none_ wj X) => gv_all w g1 tb6 site t2 lg6 v6 X (P8.out.keep o).g)
                    obtain ⟨ov, hov⟩ : ∃ b, overE lg6 ask = b := ⟨_, rfl⟩
                    rw [hov] at HOV HRO
                    clear o8 hov HE6 HHS HF6 BQ OQ P6 P7
                    go_upto_region 25 with fail
                    (refine wp_region_free (fun X => Only none_ wj X) (Only none_) (F := ?_) (by kernel_rfl) 161 (by rfl) (by kernel_rfl) (fun x => ?_) ((Only.refl none_ wj).drew) ?_; rotate_left; (· (simp only [putsL, Act.put, List.setIfInBounds_toArray, List.set_cons_zero, List.set_cons_succ, Nat.reduceAdd]; exact rfl)))
                    repeat (first | ((first | refine fr_value (c := ?_) (by rfl) (fun w => Only.refl none_ w) (fun x w0 hS hk => ?_) ?_ | refine fr_value_if (c := ?_) (by rfl) (by rfl) (by rfl) (fun w => Only.refl none_ w) (fun x w0 hS hk => ?_) ?_); rotate_left; (· (have hk2 := hk; (try simp [knAll, Region.binds] at hk2); obtain ⟨t0, t1, t2_, t3, t4, t5, t6, t7, t8⟩ := nine_of (P8.out.keep hS).a; go_simp; try (with_reducible rfl))); try simp only [List.nil_append, List.cons_append]))
                    ((first | refine fr_some (fun v _ => v = .agg #[.string ask.k, .string ask.v, .bool ask.d, .int .i64 ask.s.c, .int .i64 ask.s.s, .int .i64 ask.a.c, .int .i64 ask.a.s, .int .i64 ask.p, .int .i64 ask.g]) (fun _ _ _ _ _ _ h => h) (by rfl) (fun x w0 hS hk => ?_) ?_ | refine fr_some_if (fun v _ => v = .agg #[.string ask.k, .string ask.v, .bool ask.d, .int .i64 ask.s.c, .int .i64 ask.s.s, .int .i64 ask.a.c, .int .i64 ask.a.s, .int .i64 ask.p, .int .i64 ask.g]) (fun _ _ _ _ _ _ h => h) (by rfl) (by rfl) (by rfl) (fun x w0 hS hk => ?_) ?_); (· (have hk2 := hk; (try simp [knAll, Region.binds] at hk2); skip; refine got_call (f := 19) (args := ?_) (by go_simp; try (with_reducible rfl)) ?_; refine (HOF.out _).mono ?_; rintro E w9 ⟨rfl, o9⟩; exact ⟨_, rfl, rfl, hS.trans o9, o9⟩)); try simp only [List.nil_append, List.cons_append])
                    ((first | refine fr_some (fun v _ => v = .bool ov) (fun _ _ _ _ _ _ h => h) (by rfl) (fun x w0 hS hk => ?_) ?_ | refine fr_some_if (fun v _ => v = .bool ov) (fun _ _ _ _ _ _ h => h) (by rfl) (by rfl) (by rfl) (fun x w0 hS hk => ?_) ?_); (· (have hk2 := hk; (try simp [knAll, Region.binds] at hk2); skip; refine got_call (f := 23) (args := ?_) (by go_simp; try (with_reducible rfl)) ?_; refine (HOV.out _ hS).mono ?_; rintro E w9 ⟨rfl, o9⟩; exact ⟨_, rfl, rfl, hS.trans o9, o9⟩)); try simp only [List.nil_append, List.cons_append])
                    repeat (first | ((first | refine fr_value (c := ?_) (by rfl) (fun w => Only.refl none_ w) (fun x w0 hS hk => ?_) ?_ | refine fr_value_if (c := ?_) (by rfl) (by rfl) (by rfl) (fun w => Only.refl none_ w) (fun x w0 hS hk => ?_) ?_); rotate_left; (· (have hk2 := hk; (try simp [knAll, Region.binds] at hk2); obtain ⟨t0, t1, t2_, t3, t4, t5, t6, t7, t8⟩ := nine_of (P8.out.keep hS).a; have m0 := (P8.out.keep hS).m.cell_ (i := 0) rfl; have m1 := (P8.out.keep hS).m.cell_ (i := 1) rfl; have m2 := (P8.out.keep hS).m.cell_ (i := 2) rfl; go_simp; try (with_reducible rfl))); try simp only [List.nil_append, List.cons_append]))
                    ((first | refine fr_some (fun v _ => v = .bool ov) (fun _ _ _ _ _ _ h => h) (by rfl) (fun x w0 hS hk => ?_) ?_ | refine fr_some_if (fun v _ => v = .bool ov) (fun _ _ _ _ _ _ h => h) (by rfl) (by rfl) (by rfl) (fun x w0 hS hk => ?_) ?_); (· (have hk2 := hk; (try simp [knAll, Region.binds] at hk2); skip; refine got_call (f := 24) (args := ?_) (by go_simp; try (with_reducible rfl)) ?_; refine (HRO.out _ hS).mono ?_; rintro E w9 ⟨rfl, o9⟩; exact ⟨_, rfl, rfl, hS.trans o9, o9⟩)); try simp only [List.nil_append, List.cons_append])
                    repeat (first | ((first | refine fr_value (c := ?_) (by rfl) (fun w => Only.refl none_ w) (fun x w0 hS hk => ?_) ?_ | refine fr_value_if (c := ?_) (by rfl) (by rfl) (by rfl) (fun w => Only.refl none_ w) (fun x w0 hS hk => ?_) ?_); rotate_left; (· (have hk2 := hk; (try simp [knAll, Region.binds] at hk2); skip; go_simp; try (with_reducible rfl))); try simp only [List.nil_append, List.cons_append]))
                    ((first | refine fr_some (fun v _ => v = .int .i64 (lg6.length : Int)) (fun _ _ _ _ _ _ h => h) (by rfl) (fun x w0 hS hk => ?_) ?_ | refine fr_some_if (fun v _ => v = .int .i64 (lg6.length : Int)) (fun _ _ _ _ _ _ h => h) (by rfl) (by rfl) (by rfl) (fun x w0 hS hk => ?_) ?_); (· (have hk2 := hk; (try simp [knAll, Region.binds] at hk2); skip; refine got_call (f := 25) (args := ?_) (by go_simp; try (with_reducible rfl)) ?_; refine (HLE.out _ hS).mono ?_; rintro E w9 ⟨rfl, rfl⟩; exact ⟨_, rfl, rfl, hS, Only.refl _ _⟩)); try simp only [List.nil_append, List.cons_append])
                    repeat (first | ((first | refine fr_value (c := ?_) (by rfl) (fun w => Only.refl none_ w) (fun x w0 hS hk => ?_) ?_ | refine fr_value_if (c := ?_) (by rfl) (by rfl) (by rfl) (fun w => Only.refl none_ w) (fun x w0 hS hk => ?_) ?_); rotate_left; (· (have hk2 := hk; (try simp [knAll, Region.binds] at hk2); have m2 := (P8.out.keep hS).m.cell_ (i := 2) rfl; go_simp; try (with_reducible rfl))); try simp only [List.nil_append, List.cons_append]))
                    ((first | refine fr_some (SlO enRow 9 wj.heap.size 51 lg6.length lg6) (fun _ _ _ _ _ r h => h.keep r) (by rfl) (fun x w0 hS hk => ?_) ?_ | refine fr_some_if (SlO enRow 9 wj.heap.size 51 lg6.length lg6) (fun _ _ _ _ _ r h => h.keep r) (by rfl) (by rfl) (by rfl) (fun x w0 hS hk => ?_) ?_); (· (have hk2 := hk; (try simp [knAll, Region.binds] at hk2); skip; refine got_call (f := 28) (args := ?_) (by go_simp; try (with_reducible rfl)) ?_; refine (HAL.out _ hS).mono ?_; rintro E w9 ⟨v9, rfl, own9, o9⟩; exact ⟨v9, rfl, SlO.of own9 rfl hS.size, hS.trans o9, o9⟩)); try simp only [List.nil_append, List.cons_append])
                    ((first | refine fr_some (SlO enRow 9 wj.heap.size 26 lg6.length lg6) (fun _ _ _ _ _ r h => h.keep r) (by rfl) (fun x w0 hS hk => ?_) ?_ | refine fr_some_if (SlO enRow 9 wj.heap.size 26 lg6.length lg6) (fun _ _ _ _ _ r h => h.keep r) (by rfl) (by rfl) (by rfl) (fun x w0 hS hk => ?_) ?_); (· (have hk2 := hk; (try simp [knAll, Region.binds] at hk2); obtain ⟨A9, c9, e9, own9⟩ := kn_at (j := 20) (by rfl) hk (by rfl); refine got_call (f := 27) (args := ?_) (by go_simp; try (with_reducible rfl)) ?_; refine (g_tos A9 c9 lg6.length _ lg6 rfl (by have := HL6.out; omega) _ (Cel.of_own own9)).mono ?_; rintro E w9 ⟨v9, rfl, own8, o9⟩; exact ⟨v9, rfl, SlO.of own8 rfl hS.size, hS.trans o9, o9⟩)); try simp only [List.nil_append, List.cons_append])
                    repeat (first | ((first | refine fr_value (c := ?_) (by rfl) (fun w => Only.refl none_ w) (fun x w0 hS hk => ?_) ?_ | refine fr_value_if (c := ?_) (by rfl) (by rfl) (by rfl) (fun w => Only.refl none_ w) (fun x w0 hS hk => ?_) ?_); rotate_left; (· (have hk2 := hk; (try simp [knAll, Region.binds] at hk2); have m2 := (P8.out.keep hS).m.cell_ (i := 2) rfl; go_simp; try (with_reducible rfl))); try simp only [List.nil_append, List.cons_append]))
                    ((first | refine fr_some (fun v _ => v = .bool true) (fun _ _ _ _ _ _ h => h) (by rfl) (fun x w0 hS hk => ?_) ?_ | refine fr_some_if (fun v _ => v = .bool true) (fun _ _ _ _ _ _ h => h) (by rfl) (by rfl) (by rfl) (fun x w0 hS hk => ?_) ?_); (· (have hk2 := hk; (try simp [knAll, Region.binds] at hk2); obtain ⟨A9, c9, e9, own9⟩ := kn_at (j := 21) (by rfl) hk (by rfl); refine got_call (f := 26) (args := ?_) (by go_simp; try (with_reducible rfl)) ?_; refine (rg_same _ _ lg6 A9 A6 lg6.length c9 c6 _ (Cel.of_own own9) (P8.out.keep hS).cel rfl (by have := HL6.out; omega)).mono ?_; rintro E w9 ⟨rfl, o9⟩; exact ⟨_, rfl, rfl, hS.trans o9, o9⟩)); try simp only [List.nil_append, List.cons_append])
                    repeat (first | ((first | refine fr_value (c := ?_) (by rfl) (fun w => Only.refl none_ w) (fun x w0 hS hk => ?_) ?_ | refine fr_value_if (c := ?_) (by rfl) (by rfl) (by rfl) (fun w => Only.refl none_ w) (fun x w0 hS hk => ?_) ?_); rotate_left; (· (have hk2 := hk; (try simp [knAll, Region.binds] at hk2); skip; go_simp; try (with_reducible rfl))); try simp only [List.nil_append, List.cons_append]))
                    (refine fr_end ?_; intro x w9 hS hk)
                    have e26 := kn_end_at 26 hk (by rfl)
                    rw [Nat.zero_add] at e26
                    rw [e26]
                    have P9 := Lib.hid (P8.out.keep hS)
                    clear hk hS e26
                    go_wp2_with fail
                    go_roundw
                    case rel => exact ⟨k + 1, tb6, lg6, v6, A6, c6, by omega, by go_num, P9.out⟩
                    case measure => simp [intOf]; omega
                  case first =>
                    have HTO := Lib.hid (fun (X : World) => en_to e6 X)
                    rcases ask_ways lg6 ask.k with ⟨h1, h2, h3⟩ | ⟨i, x, hx, h1, h2, h3⟩
                    · have h2' : false = hs := h2.symm.trans HHS.out
                      have h1' : -1 = f6 := h1.symm.trans HF6.out
                      have h3' : enZero = e6 := h3.symm.trans HE6.out
                      subst h2' h1' h3'
                      have heq := fun (X : World) => neq_of (eq_api_entry X enZero enZero 9997)
                      rw [enEq_refl] at heq
                      clear h1 h2 h3 HE6 HHS HF6
                      (refine wp_region_steady (fun X => Only none_ wk X) 26 (by kernel_rfl) (by kernel_rfl) ((Only.refl none_ wk).drew) ?_; simp only [List.take_succ_cons, List.take_zero, List.drop_succ_cons, List.drop_zero])
                      repeat (first
                        | (refine sd_value (v := ?_) (by rfl) (fun w0 hS => ?_) ?_; rotate_left; (· (have qq := nine_of (BQ.out.only hS (fun h => h)); simp only [enZero, stZero] at qq; go_simp; try (with_reducible rfl))); try simp only [Act.put, List.setIfInBounds_toArray, List.set_cons_zero, List.set_cons_succ])
                        | (refine sd_skip (by rfl) ?_; try simp only [Act.put, List.setIfInBounds_toArray, List.set_cons_zero, List.set_cons_succ]))
                      refine sd_nil ?_
                      intro w9 t9
                      have T9 := Lib.hid t9
                      clear t9
                      go_wp2_with fail
                      go_meet
                      case rel => exact ⟨rfl, T9.out⟩
                    · have h2' : true = hs := h2.symm.trans HHS.out
                      have h1' : (i : Int) = f6 := h1.symm.trans HF6.out
                      have h3' : x = e6 := h3.symm.trans HE6.out
                      subst h2' h1' h3'
                      have heq := fun (X : World) => neq_of (eq_ref_entry X x x 9997)
                      rw [enEq_refl] at heq
                      obtain ⟨b6, off6, hA6, _, _, hc6⟩ := in_elem enRow_length (by decide) P7.out.cel rfl hx
                      have HC6 := Lib.hid hc6
                      have hin : i < lg6.length := (List.getElem?_eq_some_iff.1 hx).1
                      have hini : (i : Int) < (lg6.length : Int) := by omega
                      have hin0 : (0 : Int) ≤ (i : Int) := by omega
                      have HA6 := Lib.hid hA6
                      have HM2 : Hid (∀ X, Only none_ wk X → X.cell? ⟨mb, 2, none⟩ = some (.slice (some ⟨b6, off6, none⟩) lg6.length c6)) := fun X o => by
                        have := (P7.out.keep o).m.cell_ (i := 2) rfl
                        rw [HA6.out] at this
                        exact this
                      have HZ : Hid (∀ X, Only none_ wk X → X.cell? ⟨b6, off6 + i * 9, none⟩ = some (.string x.k)) := fun X o => hc6 X o 0 _ rfl
                      clear h1 h2 h3 HE6 HHS HF6 hc6 hx hA6 hin
                      (refine wp_region_steady (fun X => Only none_ wk X) 26 (by kernel_rfl) (by kernel_rfl) ((Only.refl none_ wk).drew) ?_; simp only [List.take_succ_cons, List.take_zero, List.drop_succ_cons, List.drop_zero])
                      repeat (first
                        | (refine sd_value (v := ?_) (by rfl) (fun w0 hS => ?_) ?_; rotate_left; (· (have qq := nine_of (BQ.out.only hS (fun h => h)); have m2 := HM2.out _ hS; have d0 := HZ.out _ hS; have d1 := HC6.out _ hS 1 _ rfl; have d2 := HC6.out _ hS 2 _ rfl; have d3 := HC6.out _ hS 3 _ rfl; have d4 := HC6.out _ hS 4 _ rfl; have d5 := HC6.out _ hS 5 _ rfl; have d6 := HC6.out _ hS 6 _ rfl; have d7 := HC6.out _ hS 7 _ rfl; have d8 := HC6.out _ hS 8 _ rfl; go_simp; try (with_reducible rfl))); try simp only [Act.put, List.setIfInBounds_toArray, List.set_cons_zero, List.set_cons_succ])
                        | (refine sd_call (v := ?_) (f := 22) (args := ?_) (by rfl) (fun w0 hS => ?_) (fun w0 hS => ?_) ?_; rotate_left 2; (· (have qq := nine_of (BQ.out.only hS (fun h => h)); go_simp; try (with_reducible rfl))); (· (refine (HTO.out _).mono ?_; rintro E w9 ⟨rfl, o9⟩; refine ⟨?_, hS.trans o9⟩; rfl)); try simp only [Act.put, List.setIfInBounds_toArray, List.set_cons_zero, List.set_cons_succ])
                        | (refine sd_skip (by rfl) ?_; try simp only [Act.put, List.setIfInBounds_toArray, List.set_cons_zero, List.set_cons_succ]))
                      refine sd_nil ?_
                      intro w9 t9
                      have T9 := Lib.hid t9
                      clear t9
                      go_wp2_with fail
                      go_meet
                      case rel => exact ⟨rfl, T9.out⟩
                case first =>
                  have ta := (Blk.drew P6.out.a).cell_ (i := 0) rfl
                  have ua := (Blk.drew (P6.out.a.alloc (.cells #[.string ⟨#[]⟩, .string ⟨#[]⟩, .bool false, .int .i64 0, .int .i64 0, .int .i64 0, .int .i64 0, .int .i64 0, .int .i64 0] 51))).cell_ (i := 0) rfl
                  have BN := Lib.hid (Blk.drew (Blk.new wq 51 #[.string ⟨#[]⟩, .string ⟨#[]⟩, .bool false, .int .i64 0, .int .i64 0, .int .i64 0, .int .i64 0, .int .i64 0, .int .i64 0]))
                  go_region_law (first
                    | (refine Se.step_call (by simp [Region.wanted]) 20 #[.pointer (some ⟨g1, 0, none⟩), .string ask.k] (by go_simp; try (with_reducible rfl)) ?_
                       refine (HGET.out _ (by first | exact (Only.refl none_ wq).drew | exact ((Only.refl none_ wq).alloc _).drew)).mono ?_
                       rintro E w1 ⟨rfl, o1⟩
                       refine ⟨_, rfl, ?_⟩
                       have O1 : Hid (Only none_ wq w1) := by first | exact ((Only.refl none_ wq).drew).trans o1 | exact (((Only.refl none_ wq).alloc _).drew).trans o1
                       try (have B1 := Lib.hid (BN.out.only o1 (fun h => h)); have q1 := nine_of B1.out; have z1 := frozen9 B1.out)
                       have B2 := Lib.hid (Blk.new w1 51 #[.string ⟨#[]⟩, .string ⟨#[]⟩, .bool false, .int .i64 0, .int .i64 0, .int .i64 0, .int .i64 0, .int .i64 0, .int .i64 0])
                       have q2 := nine_of B2.out
                       have z2 := frozen9 B2.out
                       clear o1))
                  all_goals go_wp2_with fail
                  all_goals go_meet
                  all_goals first
                    | exact ⟨_, rfl, rfl, O1.out.size, Blk.new _ _ _, O1.out.alloc _⟩
                    | exact Gk.of (x := enZero) O1.out B1.out (Nat.le_refl _)
              case first =>
                obtain ⟨at_, hat⟩ : ∃ b, a.t = b := ⟨_, rfl⟩
                have HAT := Lib.hid hat
                rw [hat]
                clear hat
                cases at_ with
                | true =>
                  have HST : Hid (stepG site t2 a lg = (tickE t2 lg).1) := by rw [Hid, stepG, if_pos HAT.out]
                  have HRT := Lib.hid (rg_tick _ lg A3 lg.length c3 site t2 wp PA.out.cel rfl (by have := HL9.out; omega) (fun x hx => by have := (HOK.out x hx).g; have := HT2.out; omega))
                  go_wp2_with (first
                    | (with_reducible refine wpl_load rfl 36 _ rfl mb rfl _ #[.int .i64 site, .int .i64 t2, .slice A3 lg.length c3] _ PA.out.m Try.underlying36 rfl (by kernel_rfl) ?_)
                    | (go_at_call 14; refine HRT.out.mono ?_; rintro E w7 ⟨A7, n7, c7, v7, rfl, hn7, own7, gon7, o7⟩
                       subst hn7
                       have P7 := Lib.hid (PA.out.keep (o7.alloc (.cells #[.int .i64 site, .int .i64 t2, .slice A7 (tickE t2 lg).1.length c7] 36)))
                       have BN := Lib.hid (Blk.new w7 36 #[.int .i64 site, .int .i64 t2, .slice A7 (tickE t2 lg).1.length c7])
                       have W7 : Hid ((w7.alloc (.cells #[.int .i64 site, .int .i64 t2, .slice A7 (tickE t2 lg).1.length c7] 36)).ownsRow w.heap.size 26 9 (.slice A7 (tickE t2 lg).1.length c7) (tickE t2 lg).1.length ((tickE t2 lg).1.flatMap enRow)) := owns_only (owns_base own7 PA.out.ho.size) ((Only.refl none_ w7).alloc _) (fun _ _ h => h)
                       have V7 : Hid ((w7.alloc (.cells #[.int .i64 site, .int .i64 t2, .slice A7 (tickE t2 lg).1.length c7] 36)).ownsRow wp.heap.size 9 1 v7 (tickE t2 lg).2.length ((tickE t2 lg).2.map .string)) := owns_only gon7 ((Only.refl none_ w7).alloc _) (fun _ _ h => h)
                       have P8 := Lib.hid (P7.out.doc W7.out)
                       have V8 := Lib.hid (owns_only V7.out (only_row mb #[.int .i64 site, .int .i64 t2, .slice A7 (tickE t2 lg).1.length c7]) (fun k hk e => own_blk_ne V7.out P7.out.m (by decide) (by rw [hk]; exact congrArg some e)))
                       clear own7 gon7 o7)
                    | (with_reducible refine wpl_new rfl rfl 36 rfl _ _ rfl #[.int .i64 site, .int .i64 t2, .slice A7 (tickE t2 lg).1.length c7] rfl rfl (by kernel_rfl) (by kernel_rfl) ?_)
                    | (with_reducible refine wpl_load rfl 36 _ rfl w7.heap.size rfl _ #[.int .i64 site, .int .i64 t2, .slice A7 (tickE t2 lg).1.length c7] _ BN.out Try.underlying36 rfl (by kernel_rfl) ?_)
                    | (with_reducible refine gb_store_all rfl 36 _ _ rfl mb #[.int .i64 site, .int .i64 t2, .slice A7 (tickE t2 lg).1.length c7] rfl rfl _ _ P7.out.m (by kernel_rfl) (by kernel_rfl) (by kernel_rfl) ?_)
                    | (go_at_call 16; refine (gv_tick w g1 tb site t2 lg v _ P8.out.g (fun x hx => (HOK.out x hx).g) HT2.out.2).mono ?_; rintro E w9 ⟨v9, rfl, own9, hL9⟩
                       have V9 : Hid (w9.ownsRow wp.heap.size 9 1 v7 (tickE t2 lg).2.length ((tickE t2 lg).2.map .string)) := by
                         obtain ⟨tb', v', _, h2, _⟩ := hL9
                         exact owns_only V8.out h2 (gp_row_far P8.out.g V8.out (by decide) (by decide) (by decide))
                       have P9 := Lib.hid (P8.out.left hL9 (ok_tick (fun x y a b => py_duty_cg x y a b) HOK.out) (by have := len_tick t2 lg; have := P8.out.len; omega))
                       obtain ⟨A8, c8, rfl⟩ := shape_own V9.out
                       obtain ⟨A9, c9, rfl⟩ := shape_own own9
                       have K9 := Lib.hid own9
                       have HG9 : Hid ((tickE t2 lg).2.length ≤ 60) := by have := tick_len2 t2 lg; have := HL9.out; rw [Hid]; omega
                       clear own9 hL9)
                    | (go_at_call 15; refine (rg_texts _ _ (tickE t2 lg).2 A9 A8 (tickE t2 lg).2.length c9 c8 _ (Cel.of_own K9.out) (Cel.of_own V9.out) rfl (by have := HG9.out; omega)).mono ?_; rintro E w10 ⟨rfl, o10⟩
                       have O10 := Lib.hid o10
                       clear o10))
                  go_meet
                  case rel =>
                    obtain ⟨tb', v', h⟩ := P9.out
                    rw [HST.out]
                    exact ⟨tb', v', _, _, h.keep O10.out⟩
                | false =>
                  have HST : Hid (stepG site t2 a lg = (buryE (enDuty a.e site) t2 lg a.e).1) := by rw [Hid, stepG, if_neg (by rw [HAT.out]; simp)]
                  have HRB := Lib.hid (rg_bury w.heap.size lg A3 lg.length c3 site t2 a.e wp PA.out.ow PA.out.ho.size rfl (by have := HL9.out; omega))
                  have HBU := Lib.hid (fun (X : World) (h : Gv w g1 tb site t2 lg v X) => gv_bury w g1 tb site t2 lg v a.e X h (by have := HL9.out; omega))
                  have HKO := Lib.hid (ok_bury (duty := fun e => enDuty e site) (fun x hx => py_duty_d x hx) (fun x y a b => py_duty_cg x y a b) (t2 := t2) (e := a.e) HOK.out)
                  have HKL := Lib.hid (len_bury (enDuty a.e site) t2 lg a.e)
                  obtain ⟨r, hr⟩ : ∃ r, buryE (enDuty a.e site) t2 lg a.e = r := ⟨_, rfl⟩
                  have HKO2 : Hid (∀ x ∈ r.1, GvOk (fun e => enDuty e site) t2 x) := by rw [Hid, ← hr]; exact HKO.out
                  rw [hr] at HST HRB HBU HKL
                  clear HKO hr
                  obtain ⟨lr, tr⟩ := r
                  dsimp only at HST HRB HBU HKL HKO2
                  have BA1 := Lib.hid (ga_entry BA.out)
                  go_wp2_with (first
                    | (with_reducible refine wpl_load rfl 36 _ rfl mb rfl _ #[.int .i64 site, .int .i64 t2, .slice A3 lg.length c3] _ PA.out.m Try.underlying36 rfl (by kernel_rfl) ?_)
                    | (with_reducible refine wpl_piece rfl 26 _ rfl h1 1 rfl #[.string a.e.k, .string a.e.v, .bool a.e.d, .int .i64 a.e.s.c, .int .i64 a.e.s.s, .int .i64 a.e.a.c, .int .i64 a.e.a.s, .int .i64 a.e.p, .int .i64 a.e.g] _ BA1.out Try.underlying26 rfl (by kernel_rfl) ?_)
                    | (go_at_call 17; refine HRB.out.mono ?_; rintro E w7 ⟨A7, n7, c7, rfl, hn7, own7, o7⟩
                       subst hn7
                       have P7 := Lib.hid (PA.out.keep (o7.alloc (.cells #[.int .i64 site, .int .i64 t2, .slice A7 lr.length c7] 36)))
                       have BN := Lib.hid (Blk.new w7 36 #[.int .i64 site, .int .i64 t2, .slice A7 lr.length c7])
                       have W7 : Hid ((w7.alloc (.cells #[.int .i64 site, .int .i64 t2, .slice A7 lr.length c7] 36)).ownsRow w.heap.size 26 9 (.slice A7 lr.length c7) lr.length (lr.flatMap enRow)) := owns_only own7 ((Only.refl none_ w7).alloc _) (fun _ _ h => h)
                       have P8 := Lib.hid (P7.out.doc W7.out)
                       have BA8 := Lib.hid (ga_entry ((BA.out.only (o7.alloc (.cells #[.int .i64 site, .int .i64 t2, .slice A7 lr.length c7] 36)) (fun h => h)).setRow_far (show h1 ≠ mb from Blk.ne_ BA.out PA.out.m (by decide)) #[.int .i64 site, .int .i64 t2, .slice A7 lr.length c7]))
                       clear own7 o7)
                    | (with_reducible refine wpl_new rfl rfl 36 rfl _ _ rfl #[.int .i64 site, .int .i64 t2, .slice A7 lr.length c7] rfl rfl (by kernel_rfl) (by kernel_rfl) ?_)
                    | (with_reducible refine wpl_load rfl 36 _ rfl w7.heap.size rfl _ #[.int .i64 site, .int .i64 t2, .slice A7 lr.length c7] _ BN.out Try.underlying36 rfl (by kernel_rfl) ?_)
                    | (with_reducible refine gb_store_all rfl 36 _ _ rfl mb #[.int .i64 site, .int .i64 t2, .slice A7 lr.length c7] rfl rfl _ _ P7.out.m (by kernel_rfl) (by kernel_rfl) (by kernel_rfl) ?_)
                    | (with_reducible refine wpl_piece rfl 26 _ rfl h1 1 rfl #[.string a.e.k, .string a.e.v, .bool a.e.d, .int .i64 a.e.s.c, .int .i64 a.e.s.s, .int .i64 a.e.a.c, .int .i64 a.e.a.s, .int .i64 a.e.p, .int .i64 a.e.g] _ BA8.out Try.underlying26 rfl (by kernel_rfl) ?_)
                    | (go_at_call 19; refine (en_of a.e _).mono ?_; rintro E w8 ⟨rfl, o8⟩
                       have P9 := Lib.hid (P8.out.keep o8)
                       clear o8)
                    | (go_at_call 18; refine (HBU.out _ P9.out.g).mono ?_; rintro E w9 ⟨rfl, hL9⟩
                       have P10 := Lib.hid (P9.out.left hL9 HKO2.out (by have := HKL.out; have := P9.out.len; omega))
                       have htt : (tr != tr) = false := by simp
                       clear hL9))
                  go_meet
                  case rel =>
                    obtain ⟨tb', v', h⟩ := P10.out
                    rw [HST.out]
                    exact ⟨tb', v', _, _, h⟩
            · obtain rfl : k = L := by omega
              have O9 := Lib.hid P.out.ho
              go_wp2_with fail
              go_ret
              exact ⟨rfl, O9.out⟩
      · have HK : Hid (newK site t2 = 1) := by rw [Hid, newK, if_neg h1]
        have HG : Hid (newG site t2 = #[.int .i64 0, .int .i64 0, .slice none 0 0]) := by rw [Hid, newG, HK.out]; rfl
        have HNR := Lib.hid (fun X => gv_new_arg site t2 X (by simpa using h1))
        clear h1 HX
        go_enter Try.func3, Try.ntmps3
        go_upto_region 1 with fail
        rw [HW0.out, HLB.out]
        go_wp2_with (first
          | (go_at_call 9; refine (HSP.out _).mono ?_; rintro E w1 ⟨rfl, o1⟩; have O1 := Lib.hid (O0.out.trans o1); have B1 := Lib.hid (B0.out.only o1 (fun h => h)); clear o1)
          | (go_at_call 10; refine (HFW.out _ O1.out).mono ?_; rintro E w2 ⟨rfl, o2⟩; have O2 := Lib.hid (O1.out.trans o2); have B2 := Lib.hid (B1.out.only o2 (fun h => h)); obtain ⟨t0, t1, t2_, t3, t4, t5, t6, t7, t8⟩ := nine_of B2.out; clear o2)
          | (go_at_call 11; refine (HSH.out _).mono ?_; rintro E w3 ⟨rfl, o3⟩; have O3 := Lib.hid (O2.out.trans o3); have B3 := Lib.hid (B2.out.only o3 (fun h => h)); clear o3)
          | (go_at_call 12; refine (HNR.out _).mono ?_; rintro E w4 ⟨rfl, o4⟩; have O4 := Lib.hid (O3.out.trans o4); clear o4)
          | (go_at_call 13; refine (rg_new site t2 _).mono ?_; rw [HK.out, HG.out]; rintro E w5 ⟨rfl, o5⟩
             have P5 := Lib.hid (O4.out.trans o5)
             clear o5)
          | (with_reducible refine wpl_new rfl rfl 36 rfl _ _ rfl #[.int .i64 0, .int .i64 0, .slice none 0 0] rfl rfl (by kernel_rfl) (by kernel_rfl) ?_))
        go_ret
        exact ⟨rfl, P5.out.alloc _⟩
end Go.Proofs.Ytniacolkjdmflaa
end
section
namespace Go.Proofs.Ytniacolkjdmflaa.grvplays
open Go.ChangeShapes Go.WideShapes Go.ChangeAt Go.RowKit
set_option linter.unusedVariables false

set_option maxRecDepth 100000 in
theorem lifted (os : Os) (started : os.Started) (H : Type) (enc : TypeId × Value → H) :
    ReturnsInHanded {} Try.checked os 3 .any (Rows.gravesPlaysSpec.pre6 enc Try.prog Try.f3 Rows.gravesPlaysRow.domain false) (Rows.gravesPlaysSpec.post enc Try.prog Try.f3 false true false false) := by
  refine returnsInHanded_of_change (C := Try.checked) own started (by kernel_rfl) Try.func3
    (ChangeSpec.witness6 (enc := enc) (C := Try.checked) false ⟨#[], #[.int .i64 0, .int .i64 0, .slice none 0 0, .agg #[.string ByteArray.empty, .string ByteArray.empty, .bool false, .int .i64 0, .int .i64 0, .int .i64 0, .int .i64 0, .int .i64 0, .int .i64 0]], []⟩ 8 (by kernel_rfl) (by kernel_rfl) (by kernel_rfl) (by kernel_rfl)) ?_
  intro W base args ds gs before hval0 hW hcnd _
  have hval : ∀ (j : Nat) t v, Try.f3.params[j]? = some t → args[j]? = some v → Value.okWide Try.prog W .any base t v := hval0
  have hW' := hW
  obtain ⟨p, q, hA0, hV, rfl, hfz, hnd⟩ := hW
  have hA : DataW.TrodAll enc Try.prog W 0 (fun _ => true) true Try.f3.params.toList args.toList ds p := hA0
  rw [Try.params3] at hA hval
  obtain ⟨v0, vs0, d0, ds0, p0, q0, hargs, rfl, rfl, h0, r0⟩ := trodAll_cons hA
  obtain ⟨v1, vs1, d1, ds1, p1, q1, rfl, rfl, rfl, h1, r1⟩ := trodAll_cons r0
  obtain ⟨v2, vs2, d2, ds2, p2, q2, rfl, rfl, rfl, h2, r2⟩ := trodAll_cons r1
  obtain ⟨v3, vs3, d3, ds3, p3, q3, rfl, rfl, rfl, h3, r3⟩ := trodAll_cons r2
  obtain ⟨rfl, rfl, rfl⟩ := trodAll_nil r3
  obtain rfl : args = #[v0, v1, v2, v3] := by cases args; simp_all
  obtain ⟨rfl, rfl⟩ := trodVars_none hV
  obtain ⟨a0, rfl, rfl, rfl, w0⟩ := open_int Try.underlying3 (hval 0 3 v0 rfl rfl) h0
  obtain ⟨a1, rfl, rfl, rfl, w1⟩ := open_int Try.underlying3 (hval 1 3 v1 rfl rfl) h1
  obtain ⟨a2, len2, cap2, rfl⟩ := okWide_slice Try.underlying22 (hval 2 22 v2 rfl rfl)
  have k2 := h2
  have lt2 : ∀ x ∈ p2, x.block < W.heap.size := by obtain ⟨m, hm⟩ := k2; exact DataW.trod_lt m _ _ _ hm
  obtain ⟨a3, rfl, sz3⟩ := okWide_struct Try.underlying26 (hval 3 26 v3 rfl rfl)
  have k3 := h3
  have lt3 : ∀ x ∈ p3, x.block < W.heap.size := by obtain ⟨m, hm⟩ := k3; exact DataW.trod_lt m _ _ _ hm
  clear hA0 hval0
  have hw : Calls Try.prog 3 #[.int .i64 a0, .int .i64 a1, .slice a2 len2 cap2, .agg a3] W fun e w' => e = .returned (.bool true) ∧ Below W.heap.size W w' := by
    obtain ⟨l, hl, hc⟩ := gacts_arg h2
    subst hl
    obtain ⟨x, e0⟩ := entry_arg sz3 h3
    subst e0
    refine (graves_plays _ _ _ l a0 a1 x W hc).mono fun e w2 h2 => ⟨h2.1, h2.2.below (Nat.le_refl _) (fun k hk => hk.elim)⟩
  refine hw.mono fun e W' ⟨he, bel⟩ => ?_
  subst he
  exact ⟨_, rfl, _, _, _, [], _, [], hW', trodAll_mk1 (shut_bool Try.underlying4 _), (trodAll_cons_mk (shut_int Try.underlying3 w0) (trodAll_cons_mk (shut_int Try.underlying3 w1) (trodAll_cons_mk (Below.trod laidOut (by kernel_rfl) (of_decide_eq_true (by kernel_rfl)) k2 bel lt2) (trodAll_cons_mk (Below.trod laidOut (by kernel_rfl) (of_decide_eq_true (by kernel_rfl)) k3 bel lt3) trodAll_mk0)))), rfl, bel.frame _, fun h => by cases h⟩

theorem holds : Rows.GravesPlaysSaid :=
  OpenClaim.holds_of_wide 3 Try.f3 rfl rfl rfl rfl rfl rfl rfl ⟨rfl, rfl, rfl, rfl, rfl⟩ rfl rfl rfl rfl rfl (by kernel_rfl) Try.func3 (by kernel_rfl)
    (of_decide_eq_true (by kernel_rfl)) (by unfold Func.isWrapper; first | (rw [if_pos (by decide +kernel)]; kernel_rfl) | (rw [if_neg (by decide +kernel)]; exact ⟨rfl, rfl⟩))
    (fun os started H enc _ => lifted os started H enc)
end Go.Proofs.Ytniacolkjdmflaa.grvplays
namespace Go.Proofs.Ytniacolkjdmflaa
theorem gravesPlays_holds : Rows.GravesPlaysSaid := grvplays.holds
#print axioms gravesPlays_holds
end Go.Proofs.Ytniacolkjdmflaa
end
