/- Texts of mine, one behind the other: OpenG, EnF, GvT, StEo, EnEo, EnD. No statement of the seat is proved here. -/
import Derived.Test.YtniacolkjdmflaaPg14
import Derived.Test.YtniacolkjdmflaaPg16
import Derived.Test.YtniacolkjdmflaaPg9
import Derived.Test.YtniacolkjdmflaaPg7
import Derived.Test.YtniacolkjdmflaaPg5
import Derived.Test.YtniacolkjdmflaaPg6
import Derived.LoopTactic
import Derived.Test.YtniacolkjdmflaaPg10
section
namespace Go.Proofs.Ytniacolkjdmflaa
open Go.Joins Go.ChangeShapes Go.WideShapes Go.RowKit Go.Deep
set_option maxRecDepth 100000

theorem trod_struct2g {H : Type} {enc : TypeId × Value → H} {P : Program} {w : World} {base : Nat} {spare : Nat → Bool} {held : Bool} {t : TypeId} {f0 f1 : Field} {fuel : Nat} {cs : List Value} {x : DataW H × List MemPlace} (ht : P.underlying t = some (.struct #[f0, f1])) (h : DataW.trod enc P w base spare held fuel t cs = some x) :
    ∃ y0 y1 n, DataW.trod enc P w base spare held n f0.type ((cs.drop f0.offset).take (P.cellsOf f0.type)) = some y0 ∧ DataW.trod enc P w base spare held n f1.type ((cs.drop f1.offset).take (P.cellsOf f1.type)) = some y1 := by
  obtain ⟨xs, n, _, _, _, hlen, hf⟩ := DataW.trod_struct ht h
  match xs, hlen with
  | [y0, y1], _ => exact ⟨y0, y1, n, by simpa using hf 0 f0 rfl, by simpa using hf 1 f1 rfl⟩

/-- An act: the graves grow older, or an entry is buried. -/
structure Ga where
  t : Bool
  e : En
def gaRow (x : Ga) : List Value := .bool x.t :: enRow x.e
theorem gaRow_length (x : Ga) : (gaRow x).length = 10 := rfl
theorem ga_cells {H : Type} {enc : TypeId × Value → H} {W : World} (n : Nat) (r : List Value) (y : DataW H × List MemPlace) (hr : r.length = 10) (h : DataW.trod enc Try.prog W 0 (fun _ => true) true n 40 r = some y) :
    ∃ x : Ga, r = gaRow x ∧ True := by
  obtain ⟨y0, y1, n, g0, g1⟩ := trod_struct2g Try.underlying40 h
  match r, hr with
  | [c0, c1, c2, c3, c4, c5, c6, c7, c8, c9], _ =>
    have e4 : Try.prog.cellsOf 4 = 1 := by kernel_rfl
    have e9 : Try.prog.cellsOf 26 = 9 := by kernel_rfl
    simp only [e9, e4, List.drop_zero, List.drop_succ_cons, List.take_succ_cons, List.take_zero] at g0 g1
    obtain ⟨k, q0, _⟩ := DataW.trod_bool Try.underlying4 g0
    obtain ⟨a, q1, _⟩ := en_cells n _ _ rfl g1
    refine ⟨⟨k, a⟩, ?_, trivial⟩
    simp only [List.cons.injEq, and_true] at q0
    rw [gaRow, ← q1, ← q0]
theorem gacts_arg {H : Type} {enc : TypeId × Value → H} {W : World} {a : Option Addr} {len cap : Nat} {d : DataW H} {p : List MemPlace} (h : DataW.Trod enc Try.prog W 0 (fun _ => true) true 22 (.slice a len cap) d p) :
    ∃ l : List Ga, len = l.length ∧ Cel W (fun b => b < W.heap.size) (.slice a len cap) len 10 (l.flatMap gaRow) := by
  obtain ⟨l, h1, h2, _⟩ := cel_in gaRow _ Try.underlying22 (by kernel_rfl) gaRow_length (by omega) (fun n r y hr ht => ga_cells n r y hr ht) h
  exact ⟨l, h1, h2⟩
end Go.Proofs.Ytniacolkjdmflaa
end
section
namespace Go.Proofs.Ytniacolkjdmflaa
open Go.RowKit
set_option maxRecDepth 100000

/-- Two blocks whole; all else as in B. -/
structure Ob (B : World) (g h : Nat) (t u : TypeId) (cs ds : Array Value) (w : World) : Prop where
  x : Blk w g t cs
  y : Blk w h u ds
  ho : Only none_ B w
theorem Ob.keep {B w w' : World} {g h : Nat} {t u : TypeId} {cs ds : Array Value} (b : Ob B g h t u cs ds w) (o : Only none_ w w') : Ob B g h t u cs ds w' := ⟨b.x.only o (fun h => h), b.y.only o (fun h => h), b.ho.trans o⟩

def enShort (e : En) : Bool := decide (e.k.size ≤ 300) && decide (e.v.size ≤ 300)
theorem rf_short (e : En) (w : World) :
    Calls Try.prog 11 #[.agg #[.string e.k, .string e.v, .bool e.d, .int .i64 e.s.c, .int .i64 e.s.s, .int .i64 e.a.c, .int .i64 e.a.s, .int .i64 e.p, .int .i64 e.g]] w fun E w' => E = .returned (.bool (enShort e)) ∧ Only none_ w w' := by
  by_cases h1 : (e.k.size : Int) ≤ 300
  · by_cases h2 : (e.v.size : Int) ≤ 300
    · have H : Hid (enShort e = true) := by simp [Hid, enShort]; omega
      go_enter Try.func11, Try.ntmps11
      go_wp2
      go_ret
      rw [H.out]
      exact ⟨rfl, (Only.refl none_ w).alloc _⟩
    · have H : Hid (enShort e = false) := by simp [Hid, enShort]; omega
      go_enter Try.func11, Try.ntmps11
      go_wp2
      go_ret
      rw [H.out]
      exact ⟨rfl, (Only.refl none_ w).alloc _⟩
  · have H : Hid (enShort e = false) := by simp [Hid, enShort]; omega
    go_enter Try.func11, Try.ntmps11
    go_wp2
    go_ret
    rw [H.out]
    exact ⟨rfl, (Only.refl none_ w).alloc _⟩

end Go.Proofs.Ytniacolkjdmflaa
end
section
namespace Go.Proofs.Ytniacolkjdmflaa
open Go.RowKit
set_option maxRecDepth 100000
set_option linter.all false

abbrev gaA (a : Ga) : Array Value := #[.bool a.t, .string a.e.k, .string a.e.v, .bool a.e.d, .int .i64 a.e.s.c, .int .i64 a.e.s.s, .int .i64 a.e.a.c, .int .i64 a.e.a.s, .int .i64 a.e.p, .int .i64 a.e.g]
theorem ga_one (a : Ga) : (gaA a).all (·.oneCell') = true := by simp [Value.oneCell']
/-- An act's entry, in a variable. -/
theorem ga_entry {w : World} {b : Nat} {t : TypeId} {a : Ga} (h : Blk w b t (gaA a)) : ∀ j u, (#[.string a.e.k, .string a.e.v, .bool a.e.d, .int .i64 a.e.s.c, .int .i64 a.e.s.s, .int .i64 a.e.a.c, .int .i64 a.e.a.s, .int .i64 a.e.p, .int .i64 a.e.g] : Array Value).toList[j]? = some u → w.cell? ⟨b, 1 + j, none⟩ = some u := fun j u hu => by
  rw [h.cell (1 + j), Nat.add_comm]
  simpa using hu
def gaShort (a : Ga) : Bool := enShort a.e
theorem gaShort_succ {l : List Ga} {k : Nat} {e : Ga} (h : l[k]? = some e) : (l.take (k + 1)).all gaShort = ((l.take k).all gaShort && gaShort e) := by
  obtain ⟨hk, hb⟩ := List.getElem?_eq_some_iff.1 h
  rw [List.take_succ_eq_append_getElem hk, List.all_append, hb]
  simp

set_option maxHeartbeats 3200000 in
theorem g_few (v : Value) (l : List Ga) (w : World) (S : Nat → Prop) (hx : Cel w S v l.length 10 (l.flatMap gaRow)) :
    Calls Try.prog 10 #[v] w fun E w' => E = .returned (.bool (l.all gaShort && decide (l.length ≤ 50))) ∧ Only none_ w w' := by
  have hx0 := hx
  obtain ⟨A, c, rfl, _, h2, h3, _, h4⟩ := hx
  obtain ⟨L, hL⟩ : ∃ L, l.length = L := ⟨_, rfl⟩
  rw [hL] at h2 h4 hx0 ⊢
  have HX := Lib.hid hx0
  have HL := Lib.hid hL
  have hLm : L ≤ 9223372036854775807 := by simp only [maxLen] at h3; omega
  have O0 := Lib.hid (Only.refl none_ w)
  clear h4 hL hx0
  go_enter Try.func10, Try.ntmps10
  go_wp2_with fail
  go_loopw [7] (fun i wr => ∃ k : Nat, k ≤ L ∧ i = .int .i64 (k : Int) ∧ (l.take k).all gaShort = true ∧ Only none_ w wr) (fun i _ => L - (intOf i).toNat)
  case atStart => exact ⟨0, Nat.zero_le _, rfl, by simp, O0.out⟩
  case round =>
    obtain ⟨k, hk, rfl, hall, ho⟩ := hrel
    have HW := Lib.hid ho
    have HA := Lib.hid hall
    clear ho hall
    by_cases hlt : k < L
    · obtain ⟨a, ha⟩ : ∃ a, l[k]? = some a := ⟨l[k]'(by have := HL.out; omega), List.getElem?_eq_getElem _⟩
      obtain ⟨b, off, hA, _, hb, hc⟩ := in_elem gaRow_length (by decide) HX.out HL.out ha
      subst hA
      have HC : Hid (∀ j u, (gaA a).toList[j]? = some u → wr.cell? ⟨b, off + k * 10 + j, none⟩ = some u) := fun j u hu => hc _ HW.out j u hu
      have HS := Lib.hid (gaShort_succ ha)
      have hmem : a ∈ l := List.mem_of_getElem? ha
      have BA := Lib.hid (Blk.new wr 40 (gaA a))
      obtain ⟨s, hs⟩ : ∃ s, gaShort a = s := ⟨_, rfl⟩
      have hss : enShort a.e = s := hs
      have HSS := Lib.hid hss
      have HF : Hid (s = false → l.all gaShort = false) := by intro e; rw [List.all_eq_false]; exact ⟨a, hmem, by simp [hs, e]⟩
      rw [hs] at HS
      clear ha hc hmem hs hss
      cases s with
      | false =>
        have HF2 : Hid (l.all gaShort = false) := HF.out rfl
        clear HF
        go_wp2_with (first
          | (refine wpl_piece rfl 40 _ rfl b (off + k * 10) rfl (gaA a) _ HC.out Try.underlying40 rfl (by kernel_rfl) ?_)
          | (refine wpl_new rfl rfl 40 rfl _ _ rfl (gaA a) rfl rfl (by kernel_rfl) (ga_one a) ?_)
          | (refine wpl_piece rfl 26 _ rfl wr.heap.size 1 rfl #[.string a.e.k, .string a.e.v, .bool a.e.d, .int .i64 a.e.s.c, .int .i64 a.e.s.s, .int .i64 a.e.a.c, .int .i64 a.e.a.s, .int .i64 a.e.p, .int .i64 a.e.g] _ (ga_entry BA.out) Try.underlying26 rfl (by kernel_rfl) ?_)
          | (go_at_call 11; refine (rf_short a.e _).mono ?_; rw [HSS.out]; rintro E w5 ⟨rfl, o5⟩; have O5 := Lib.hid ((HW.out.alloc _).trans o5); clear o5))
        go_ret
        exact ⟨by rw [HF2.out]; rfl, O5.out⟩
      | true =>
        clear HF
        go_wp2_with (first
          | (refine wpl_piece rfl 40 _ rfl b (off + k * 10) rfl (gaA a) _ HC.out Try.underlying40 rfl (by kernel_rfl) ?_)
          | (refine wpl_new rfl rfl 40 rfl _ _ rfl (gaA a) rfl rfl (by kernel_rfl) (ga_one a) ?_)
          | (refine wpl_piece rfl 26 _ rfl wr.heap.size 1 rfl #[.string a.e.k, .string a.e.v, .bool a.e.d, .int .i64 a.e.s.c, .int .i64 a.e.s.s, .int .i64 a.e.a.c, .int .i64 a.e.a.s, .int .i64 a.e.p, .int .i64 a.e.g] _ (ga_entry BA.out) Try.underlying26 rfl (by kernel_rfl) ?_)
          | (go_at_call 11; refine (rf_short a.e _).mono ?_; rw [HSS.out]; rintro E w5 ⟨rfl, o5⟩; have O5 := Lib.hid ((HW.out.alloc _).trans o5); clear o5))
        go_roundw
        case rel => exact ⟨k + 1, by omega, by go_num, by rw [HS.out, HA.out]; rfl, O5.out⟩
        case measure => simp [intOf]; omega
    · obtain rfl : k = L := by omega
      have HT : Hid (l.all gaShort = true) := by have := HA.out; rwa [← HL.out, List.take_length] at this
      by_cases h40 : k ≤ 50
      · have hz : Hid (decide (k ≤ 50) = true) := by simp [Hid, h40]
        have hd : decide ((k : Int) ≤ 50) = true := by simp; omega
        go_wp2_with fail
        go_ret
        exact ⟨by rw [HT.out, hz.out]; rfl, HW.out⟩
      · have hz : Hid (decide (k ≤ 50) = false) := by simp [Hid]; omega
        have hd : decide ((k : Int) ≤ 50) = false := by simp; omega
        go_wp2_with fail
        go_ret
        exact ⟨by rw [HT.out, hz.out]; rfl, HW.out⟩
end Go.Proofs.Ytniacolkjdmflaa
end
section
namespace Go.Proofs.Ytniacolkjdmflaa
open Go.RowKit
set_option maxRecDepth 100000

theorem st_of (c s : Int) (w : World) :
    Calls Try.prog 53 #[.agg #[.int .i64 c, .int .i64 s]] w fun e w' => e = .returned (.agg #[.int .i64 c, .int .i64 s]) ∧ Only none_ w w' := by
  have O := Lib.hid (((Only.refl none_ w).alloc (.cells #[.int .i64 c, .int .i64 s] 24)).alloc (.cells #[.int .i64 c, .int .i64 s] 49))
  go_enter Try.func53, Try.ntmps53
  go_wp2_with fail
  exact bodyPost_ret (v := .agg #[.int .i64 c, .int .i64 s]) (by simp [results, Try.results53, go_sem]) rfl ⟨rfl, O.out⟩
end Go.Proofs.Ytniacolkjdmflaa
end
section
namespace Go.Proofs.Ytniacolkjdmflaa
open Go.RowKit
set_option maxRecDepth 100000

set_option maxHeartbeats 1600000 in
theorem en_of (e : En) (w : World) :
    Calls Try.prog 19 #[.agg #[.string e.k, .string e.v, .bool e.d, .int .i64 e.s.c, .int .i64 e.s.s, .int .i64 e.a.c, .int .i64 e.a.s, .int .i64 e.p, .int .i64 e.g]] w fun E w' => E = .returned (.agg #[.string e.k, .string e.v, .bool e.d, .int .i64 e.s.c, .int .i64 e.s.s, .int .i64 e.a.c, .int .i64 e.a.s, .int .i64 e.p, .int .i64 e.g]) ∧ Only none_ w w' := by
  have O := Lib.hid (((Only.refl none_ w).alloc (.cells #[.string e.k, .string e.v, .bool e.d, .int .i64 e.s.c, .int .i64 e.s.s, .int .i64 e.a.c, .int .i64 e.a.s, .int .i64 e.p, .int .i64 e.g] 26)).alloc (.cells #[.string enZero.k, .string enZero.v, .bool enZero.d, .int .i64 enZero.s.c, .int .i64 enZero.s.s, .int .i64 enZero.a.c, .int .i64 enZero.a.s, .int .i64 enZero.p, .int .i64 enZero.g] 51))
  have B := Blk.new (w.alloc (.cells #[.string e.k, .string e.v, .bool e.d, .int .i64 e.s.c, .int .i64 e.s.s, .int .i64 e.a.c, .int .i64 e.a.s, .int .i64 e.p, .int .i64 e.g] 26)) 51 #[.string enZero.k, .string enZero.v, .bool enZero.d, .int .i64 enZero.s.c, .int .i64 enZero.s.s, .int .i64 enZero.a.c, .int .i64 enZero.a.s, .int .i64 enZero.p, .int .i64 enZero.g]
  rw [World.size_alloc] at B
  have T : Hid (Bo ((w.alloc (.cells #[.string e.k, .string e.v, .bool e.d, .int .i64 e.s.c, .int .i64 e.s.s, .int .i64 e.a.c, .int .i64 e.a.s, .int .i64 e.p, .int .i64 e.g] 26)).alloc (.cells #[.string enZero.k, .string enZero.v, .bool enZero.d, .int .i64 enZero.s.c, .int .i64 enZero.s.s, .int .i64 enZero.a.c, .int .i64 enZero.a.s, .int .i64 enZero.p, .int .i64 enZero.g] 51)) w.heap.size (w.heap.size + 1) 26 51 e enZero ((w.alloc (.cells #[.string e.k, .string e.v, .bool e.d, .int .i64 e.s.c, .int .i64 e.s.s, .int .i64 e.a.c, .int .i64 e.a.s, .int .i64 e.p, .int .i64 e.g] 26)).alloc (.cells #[.string enZero.k, .string enZero.v, .bool enZero.d, .int .i64 enZero.s.c, .int .i64 enZero.s.s, .int .i64 enZero.a.c, .int .i64 enZero.a.s, .int .i64 enZero.p, .int .i64 enZero.g] 51))) :=
    ⟨(Blk.new w _ _).alloc _, B, Only.refl _ _⟩
  clear B
  simp only [enZero, stZero] at O T
  go_enter Try.func19, Try.ntmps19
  go_wp2_with fail
  have hne : w.heap.size ≠ w.heap.size + 1 := by omega
  have hge : w.heap.size ≤ w.heap.size + 1 := by omega
  have HN := Lib.hid hne
  have HGE := Lib.hid hge
  clear hne hge
  generalize (w.alloc _).alloc _ = W2 at *
  have t2 := T.out.keep (Only.refl none_ W2).drew
  (refine wp_region_steady (fun w' => Bo W2 w.heap.size (w.heap.size + 1) 26 51 e enZero w') 16 (by kernel_rfl) (by kernel_rfl) (t2) ?_; simp only [List.take_succ_cons, List.take_zero, List.drop_succ_cons, List.drop_zero])
  repeat (first
    | (refine sd_value (v := ?_) (by rfl) (fun w0 hS => ?_) ?_; rotate_left; (· (have hc := hS.cells; go_simp; try (with_reducible rfl))); try simp only [Act.put, List.setIfInBounds_toArray, List.set_cons_zero, List.set_cons_succ])
    | (refine sd_call (v := ?_) (f := 53) (args := ?_) (by rfl) (fun w0 hS => ?_) (fun w0 hS => ?_) ?_; rotate_left 2; (· (have hc := hS.cells; go_simp; try (with_reducible rfl))); (· (refine (st_of _ _ _).mono ?_; rintro E w2 ⟨rfl, o2⟩; refine ⟨?_, hS.keep o2⟩; rfl)); try simp only [Act.put, List.setIfInBounds_toArray, List.set_cons_zero, List.set_cons_succ]))
  refine sd_nil ?_
  intro w5 t5
  have q5 := nine_of t5.y
  have z5 := frozen9 t5.y
  simp only [enZero, stZero] at q5
  go_wp2_with fail
  exact bodyPost_ret (results_cell_row rfl _ _ (w.heap.size + 1) 51 _ (0, 0) _ rfl (fill9_blk t5.y _ _ _ _ _ _ _ _ _) Try.underlying51 rfl (by kernel_rfl)) rfl ⟨rfl, fill9_only (O.out.trans t5.ho) (.inr HGE.out) _ _ _ _ _ _ _ _ _⟩
end Go.Proofs.Ytniacolkjdmflaa
end
section
namespace Go.Proofs.Ytniacolkjdmflaa
open Go.RowKit
set_option maxRecDepth 100000
set_option linter.unusedSimpArgs false

set_option maxHeartbeats 6400000 in
theorem rf_check (e : En) (w : World) :
    Calls Try.prog 31 #[.agg #[.string e.k, .string e.v, .bool e.d, .int .i64 e.s.c, .int .i64 e.s.s, .int .i64 e.a.c, .int .i64 e.a.s, .int .i64 e.p, .int .i64 e.g]] w fun E w' => E = .returned (.int .i64 (enCheck e)) ∧ Only none_ w w' := by
  have O := Lib.hid ((Only.refl none_ w).alloc (.cells #[.string e.k, .string e.v, .bool e.d, .int .i64 e.s.c, .int .i64 e.s.s, .int .i64 e.a.c, .int .i64 e.a.s, .int .i64 e.p, .int .i64 e.g] 26))
  have B := Lib.hid (Blk.new w 26 #[.string e.k, .string e.v, .bool e.d, .int .i64 e.s.c, .int .i64 e.s.s, .int .i64 e.a.c, .int .i64 e.a.s, .int .i64 e.p, .int .i64 e.g])
  have heq := fun w => neq_of (eq_ref_stamp w e.a e.s 9998)
  obtain ⟨g1, hg1⟩ : ∃ b, stGood ⟨e.s.c, e.s.s⟩ = b := ⟨_, rfl⟩
  obtain ⟨g2, hg2⟩ : ∃ b, stGood ⟨e.a.c, e.a.s⟩ = b := ⟨_, rfl⟩
  obtain ⟨lt, hlt⟩ : ∃ b, stLater ⟨e.s.c, e.s.s⟩ ⟨e.a.c, e.a.s⟩ = b := ⟨_, rfl⟩
  obtain ⟨q, hq⟩ : ∃ b, stEq e.a e.s = b := ⟨_, rfl⟩
  rw [hq] at heq
  have HC : Hid (enCheck e = if (decide (e.k.size < 1) || decide (16 < e.k.size)) = true then 9 else if (decide (32 < e.v.size) || (e.d && decide (0 < e.v.size))) = true then 10 else if (!(g1 && g2) || lt) = true then 1 else
      if (!(if e.d = true then decide (1 ≤ e.p) && decide (e.p ≤ 4095) && decide (0 ≤ e.g) && decide (e.g ≤ 2147483647) else q && e.p == 0 && e.g == 0)) = true then 1 else 0) := by
    rw [Hid, ← hg1, ← hg2, ← hlt, ← hq]; rfl
  have G1 := Lib.hid hg1
  have G2 := Lib.hid hg2
  have L := Lib.hid hlt
  clear hg1 hg2 hlt hq
  have tok : True := trivial
  obtain ⟨k, v, d, s, a, p, g⟩ := e
  simp only at *
  cases d
  all_goals
   go_enter Try.func31, Try.ntmps31
   go_wp2_with (first
     | (go_at_call 60; have _t := tok; refine (rf_good _ _ _).mono ?_; rintro E w1 ⟨rfl, o1⟩; rw [G1.out]
        have O1 := Lib.hid (O.out.trans o1)
        have B1 := Lib.hid (B.out.only o1 (fun h => h))
        have c2 := B1.out.cell_ (i := 2) rfl
        have c3 := B1.out.cell_ (i := 3) rfl
        have c4 := B1.out.cell_ (i := 4) rfl
        have c5 := B1.out.cell_ (i := 5) rfl
        have c6 := B1.out.cell_ (i := 6) rfl
        have c7 := B1.out.cell_ (i := 7) rfl
        have c8 := B1.out.cell_ (i := 8) rfl
        clear o1 tok)
     | (go_at_call 60; refine (rf_good _ _ _).mono ?_; rintro E w2 ⟨rfl, o2⟩; rw [G2.out]
        have O2 := Lib.hid (O1.out.trans o2)
        have B2 := Lib.hid (B1.out.only o2 (fun h => h))
        have d2 := B2.out.cell_ (i := 2) rfl
        have d3 := B2.out.cell_ (i := 3) rfl
        have d4 := B2.out.cell_ (i := 4) rfl
        have d5 := B2.out.cell_ (i := 5) rfl
        have d6 := B2.out.cell_ (i := 6) rfl
        have d7 := B2.out.cell_ (i := 7) rfl
        have d8 := B2.out.cell_ (i := 8) rfl
        clear o2)
     | (go_at_call 29; refine (rf_later _ _ _ _ _).mono ?_; rintro E w3 ⟨rfl, o3⟩; rw [L.out]
        have O3 := Lib.hid (O2.out.trans o3)
        have B3 := Lib.hid (B2.out.only o3 (fun h => h))
        have e2 := B3.out.cell_ (i := 2) rfl
        have e3 := B3.out.cell_ (i := 3) rfl
        have e4 := B3.out.cell_ (i := 4) rfl
        have e5 := B3.out.cell_ (i := 5) rfl
        have e6 := B3.out.cell_ (i := 6) rfl
        have e7 := B3.out.cell_ (i := 7) rfl
        have e8 := B3.out.cell_ (i := 8) rfl
        clear o3))
   all_goals
     go_ret
     refine ⟨congrArg (fun z => Ending.returned (.int .i64 z)) (Eq.symm ?_), ?_⟩
     · rw [HC.out]
       clear HC heq O B G1 G2 L
       try clear c2 c3 c4 c5 c6 c7 c8 O1 B1
       try clear d2 d3 d4 d5 d6 d7 d8 O2 B2
       try clear e2 e3 e4 e5 e6 e7 e8 O3 B3
       simp only [Bool.or_eq_true, Bool.and_eq_true, Bool.not_eq_true', Bool.or_eq_false_iff, Bool.and_eq_false_iff, decide_eq_true_eq, decide_eq_false_iff_not, Bool.false_eq_true, if_true, if_false, beq_iff_eq, beq_eq_false_iff_ne, bne_iff_ne, ne_eq, Bool.not_eq_true, bne_eq_false_iff_eq, false_and, true_and, and_true, and_false, or_false, false_or, or_true, true_or, not_true_eq_false, not_false_eq_true] at *
       (repeat' split) <;> first | rfl | omega | (exfalso; simp_all; done) | (exfalso; simp_all; omega)
     · first
         | exact O3.out
         | exact O2.out
         | exact O1.out
         | exact O.out
end Go.Proofs.Ytniacolkjdmflaa
end
