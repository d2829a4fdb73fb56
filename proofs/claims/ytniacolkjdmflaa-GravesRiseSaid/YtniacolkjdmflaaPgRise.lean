/- The statement GravesRise: for every two numbers of a byte, every slice of steps and every text the call returns true, and the arguments read afterwards as they read before. No condition. -/
import Derived.Test.YtniacolkjdmflaaPg19
import Derived.Test.YtniacolkjdmflaaPg20
import Derived.Test.YtniacolkjdmflaaPg16
import Derived.Test.YtniacolkjdmflaaPg8
import Derived.Deep.DeepCutAuto
import Derived.Test.YtniacolkjdmflaaPg5
import Derived.ChangeMaps5
section
namespace Go.Proofs.Ytniacolkjdmflaa
open Go.RowKit
set_option maxRecDepth 100000
set_option linter.all false

/-- A whole block stored. -/
theorem wpl_store_all {P : Program} {ops : Array Oper} {rest : List Oper} {o : Oper} {a : Act} {w : World} {Q : Exit → Act → World → Prop} (hgd : o.guard = none) (ty : TypeId) (x y : Operand) (ho : o.op = .store ty x y)
    (g : Nat) (cells : Array Value) (hx : a.eval x = .pointer (some ⟨g, 0, none⟩)) (hy : a.eval y = .agg cells)
    (t : TypeId) (old : Array Value) (hg : Blk w g t old) (hi : (P.info? ty).map (·.size) = some cells.size)
    (hold : old.size = cells.size) (h1 : cells.all (·.oneCell') = true)
    (h : wpList P ops Q rest (a.put o.dst undef) (w.setRow g cells)) : wpList P ops Q (o :: rest) a w :=
  wpList_store_row hgd ty x y ho g cells hx hy t old hg hi hold h1 h
theorem gv_far {B w : World} {g tb : Nat} {site t2 : Int} {l : List En} {v : Value} (h : Gv B g tb site t2 l v w) {b : Nat} {t : TypeId} {cs : Array Value} (hb : Blk w b t cs) (h1 : 60 ≠ t) (h2 : 148 ≠ t) (h3 : 145 ≠ t) : ¬ gfoot g tb v b := by
  rintro (rfl | rfl | hf)
  · exact Blk.ne_ h.bk hb h1 rfl
  · exact Blk.ne_ h.t.bk hb h2 rfl
  · exact own_blk_ne h.t.ow hb h3 hf

/-- Between two acts: the graves, what they told last of a key. -/
structure Rz (W : World) (g lb : Nat) (site t2 : Int) (key : ByteArray) (n : Nat) (tb : Nat) (l : List En) (v : Value) (e : En) (w : World) : Prop where
  g : Gv W g tb site t2 l v w
  b : Blk w lb 51 #[.string e.k, .string e.v, .bool e.d, .int .i64 e.s.c, .int .i64 e.s.s, .int .i64 e.a.c, .int .i64 e.a.s, .int .i64 e.p, .int .i64 e.g]
  e : (lookE l key).getD enZero = e
  ok : ∀ x ∈ l, GvOk (fun e => enDuty e site) t2 x
  len : l.length ≤ n
  ge : W.heap.size ≤ lb
section
variable {W w w' : World} {g lb : Nat} {site t2 : Int} {key : ByteArray} {n tb : Nat} {l : List En} {v : Value} {e : En}
theorem Rz.keep (h : Rz W g lb site t2 key n tb l v e w) (o : Only none_ w w') : Rz W g lb site t2 key n tb l v e w' := ⟨h.g.keep o, h.b.only o (fun h => h), h.e, h.ok, h.len, h.ge⟩
end
/-- Behind an act: the graves as they are then, the box as it was; the Stamp has not fallen. -/
def Rx (W : World) (g lb : Nat) (site t2 : Int) (key : ByteArray) (n : Nat) (e : En) (had : Bool) (w : World) : Prop :=
  ∃ tb l v, Gv W g tb site t2 l v w ∧ Blk w lb 51 #[.string e.k, .string e.v, .bool e.d, .int .i64 e.s.c, .int .i64 e.s.s, .int .i64 e.a.c, .int .i64 e.a.s, .int .i64 e.p, .int .i64 e.g] ∧ (∀ x ∈ l, GvOk (fun e => enDuty e site) t2 x) ∧ l.length ≤ n + 1 ∧ (had = true → ∀ y, lookE l key = some y → stLater e.s y.s = false)
/-- What lies where behind a look at the key. -/
structure Ry (W : World) (g lb nb b4 b5 : Nat) (site t2 : Int) (tb : Nat) (l : List En) (v : Value) (e0 e6 ex : En) (w : World) : Prop where
  g : Gv W g tb site t2 l v w
  b : Blk w lb 51 #[.string e0.k, .string e0.v, .bool e0.d, .int .i64 e0.s.c, .int .i64 e0.s.s, .int .i64 e0.a.c, .int .i64 e0.a.s, .int .i64 e0.p, .int .i64 e0.g]
  n : Blk w nb 51 #[.string e6.k, .string e6.v, .bool e6.d, .int .i64 e6.s.c, .int .i64 e6.s.s, .int .i64 e6.a.c, .int .i64 e6.a.s, .int .i64 e6.p, .int .i64 e6.g]
  x : Blk w b4 26 #[.string ex.k, .string ex.v, .bool ex.d, .int .i64 ex.s.c, .int .i64 ex.s.s, .int .i64 ex.a.c, .int .i64 ex.a.s, .int .i64 ex.p, .int .i64 ex.g]
  y : Blk w b5 26 #[.string e6.k, .string e6.v, .bool e6.d, .int .i64 e6.s.c, .int .i64 e6.s.s, .int .i64 e6.a.c, .int .i64 e6.a.s, .int .i64 e6.p, .int .i64 e6.g]
theorem Ry.keep {W w w' : World} {g lb nb b4 b5 : Nat} {site t2 : Int} {tb : Nat} {l : List En} {v : Value} {e0 e6 ex : En} (h : Ry W g lb nb b4 b5 site t2 tb l v e0 e6 ex w) (o : Only none_ w w') : Ry W g lb nb b4 b5 site t2 tb l v e0 e6 ex w' :=
  ⟨h.g.keep o, h.b.only o (fun h => h), h.n.only o (fun h => h), h.x.only o (fun h => h), h.y.only o (fun h => h)⟩
theorem duty_d {site : Int} (x : En) (h : enDuty x site = true) : x.d = true := by
  simp only [enDuty, Bool.and_eq_true] at h
  exact h.1.1
theorem duty_cg {site : Int} (x y : En) (h1 : x.d = y.d) (h2 : x.p = y.p) : enDuty x site = enDuty y site := by
  unfold enDuty; rw [h1, h2]
section
variable {W w w' : World} {g lb : Nat} {site t2 : Int} {key : ByteArray} {n tb : Nat} {l : List En} {v : Value} {e : En}
theorem Rz.had {had : Bool} (h : Rz W g lb site t2 key n tb l v e w) (hh : hasE l key = had) (ht : had = true) : lookE l key = some e := by
  have h1 := hasE_look l key
  rw [hh, ht] at h1
  cases hl : lookE l key with
  | none => rw [hl] at h1; cases h1
  | some x => have h2 := h.e; rw [hl] at h2; rw [show x = e from h2]
theorem Rz.tick {had : Bool} (h : Rz W g lb site t2 key n tb l v e w) (hh : hasE l key = had) (hL : LeftG W g tb site t2 v w (tickE t2 l).1 w') : Rx W g lb site t2 key n e had w' := by
  obtain ⟨tb', v', h1, h2, h3⟩ := hL
  refine ⟨tb', _, v', h1, h.b.only h2 (gv_far h.g h.b (by decide) (by decide) (by decide)), ok_tick (fun x y a b => duty_cg x y a b) h.ok, Nat.le_trans (len_tick _ _) (by have := h.len; omega), fun ht y hy => ?_⟩
  exact rise_tick h.g.ris (h.had hh ht) hy
theorem Rz.bury {had : Bool} (h : Rz W g lb site t2 key n tb l v e w) (hh : hasE l key = had) (x : En) (hL : LeftG W g tb site t2 v w (buryE (enDuty x site) t2 l x).1 w') : Rx W g lb site t2 key n e had w' := by
  obtain ⟨tb', v', h1, h2, h3⟩ := hL
  refine ⟨tb', _, v', h1, h.b.only h2 (gv_far h.g h.b (by decide) (by decide) (by decide)), ok_bury (duty := fun e => enDuty e site) (fun x hx => duty_d x hx) (fun x y a b => duty_cg x y a b) h.ok, Nat.le_trans (len_bury _ _ _ _) (by have := h.len; omega), fun ht y hy => ?_⟩
  exact rise_bury h.g.ris (h.had hh ht) hy
end

set_option maxHeartbeats 25600000 in
theorem graves_rise (A : Option Addr) (c : Nat) (S : Nat → Prop) (l : List Ga) (y t : Nat) (hy : y < 256) (ht : t < 256) (key : ByteArray) (hks : key.size ≤ maxLen) (w : World) (hx : Cel w S (.slice A l.length c) l.length 10 (l.flatMap gaRow)) :
    Calls Try.prog 4 #[.int .u8 (y : Int), .int .u8 (t : Int), .slice A l.length c, .string key] w fun E w' => E = .returned (.bool true) ∧ Only none_ w w' := by
  have HSP := Lib.hid (fun (X : World) => gv_speaks X)
  have HFW := Lib.hid (fun (X : World) (o : Only none_ w X) => g_few _ l X S (hx.only o (fun _ _ h => h)))
  obtain ⟨fw, hfw⟩ : ∃ b, (l.all gaShort && decide (l.length ≤ 50)) = b := ⟨_, rfl⟩
  rw [hfw] at HFW
  have HX := Lib.hid hx
  obtain ⟨L, hL⟩ : ∃ L, l.length = L := ⟨_, rfl⟩
  have HL := Lib.hid hL
  rw [hL] at HFW HX ⊢
  have hLm : L ≤ 9223372036854775807 := by
    obtain ⟨_, _, e, _, h2, h3, _, _⟩ := HX.out
    injection e with _ _ e
    subst e
    simp only [maxLen] at h3; omega
  clear hL hx
  cases fw with
  | false =>
    clear HX
    go_enter Try.func4, Try.ntmps4
    have tok1 : True := trivial
    go_wp2_with (first
      | (go_at_call 9; have _t := tok1; clear tok1; refine (HSP.out _).mono ?_; rintro E w1 ⟨rfl, o1⟩; have O1 := Lib.hid o1; clear o1; have tok2 : True := trivial)
      | (go_at_call 10; refine (HFW.out _ O1.out).mono ?_; rintro E w2 ⟨rfl, o2⟩; have O2 := Lib.hid (O1.out.trans o2); clear o2)
      | (go_at_call 9; have _t := tok2; clear tok2; refine (HSP.out _).mono ?_; rintro E w3 ⟨rfl, o3⟩; have O3 := Lib.hid (O2.out.trans o3); clear o3))
    go_ret
    exact ⟨rfl, O3.out⟩
  | true =>
    simp only [Bool.and_eq_true, decide_eq_true_eq] at hfw
    have HN50 : Hid (L ≤ 50) := by have := HL.out; rw [Hid]; omega
    clear hfw
    by_cases hkl : 16 < key.size
    · have hkd : decide ((16 : Int) < (key.size : Int)) = true := by simp; omega
      clear HX
      go_enter Try.func4, Try.ntmps4
      have tok1 : True := trivial
      go_wp2_with (first
        | (go_at_call 9; have _t := tok1; clear tok1; refine (HSP.out _).mono ?_; rintro E w1 ⟨rfl, o1⟩; have O1 := Lib.hid o1; clear o1; have tok2 : True := trivial)
        | (go_at_call 10; refine (HFW.out _ O1.out).mono ?_; rintro E w2 ⟨rfl, o2⟩; have O2 := Lib.hid (O1.out.trans o2); clear o2)
        | (go_at_call 9; have _t := tok2; clear tok2; refine (HSP.out _).mono ?_; rintro E w3 ⟨rfl, o3⟩; have O3 := Lib.hid (O2.out.trans o3); clear o3))
      go_ret
      exact ⟨rfl, O3.out⟩
    · have hkd : decide ((16 : Int) < (key.size : Int)) = false := by simp; omega
      obtain ⟨kk, hkk⟩ : ∃ kk, y % 12 = kk := ⟨_, rfl⟩
      have hk12 : kk < 12 := by omega
      have hmod : Int.tmod (y : Int) 12 = (kk : Int) := by rw [← hkk]; rfl
      have hst : stSite (kk : Int) = true := by simp [stSite]; omega
      have HN0 := Lib.hid (fun (X : World) (o : Only none_ w X) => gv_new w (kk : Int) (t : Int) X o hst (by omega))
      have hyI : (y : Int) % 12 = (kk : Int) := by omega
      clear hkk
      go_enter Try.func4, Try.ntmps4
      go_wp2_with (first
        | (go_at_call 9; refine (HSP.out _).mono ?_; rintro E w1 ⟨rfl, o1⟩; have O1 := Lib.hid o1; clear o1)
        | (go_at_call 10; refine (HFW.out _ O1.out).mono ?_; rintro E w2 ⟨rfl, o2⟩; have O2 := Lib.hid (O1.out.trans o2); clear o2)
        | (go_at_call 12; refine (HN0.out _ O2.out).mono ?_; rintro E w3 ⟨g1, tb1, rfl, hg1, ht1, G, o3⟩
           have O3 := Lib.hid ((O2.out.trans o3).alloc (.cells #[.string enZero.k, .string enZero.v, .bool enZero.d, .int .i64 enZero.s.c, .int .i64 enZero.s.s, .int .i64 enZero.a.c, .int .i64 enZero.a.s, .int .i64 enZero.p, .int .i64 enZero.g] 51))
           have R3 : Hid (Rz w g1 w3.heap.size (kk : Int) (t : Int) key 0 tb1 [] (.slice none 0 0) enZero (w3.alloc (.cells #[.string enZero.k, .string enZero.v, .bool enZero.d, .int .i64 enZero.s.c, .int .i64 enZero.s.s, .int .i64 enZero.a.c, .int .i64 enZero.a.s, .int .i64 enZero.p, .int .i64 enZero.g] 51))) :=
             ⟨G.keep ((Only.refl none_ w3).alloc _), Blk.new _ _ _, rfl, fun x hx => (by cases hx), Nat.le_refl _, (O2.out.trans o3).size⟩
           have HX4 := Lib.hid (HX.out.only O3.out (fun _ _ h => h))
           clear G o3)
        | (with_reducible refine wpl_new rfl rfl 51 rfl _ _ rfl #[.string enZero.k, .string enZero.v, .bool enZero.d, .int .i64 enZero.s.c, .int .i64 enZero.s.s, .int .i64 enZero.a.c, .int .i64 enZero.a.s, .int .i64 enZero.p, .int .i64 enZero.g] rfl rfl (by kernel_rfl) (en_cells_one enZero) ?_))
      clear HFW HN0 HX4 O1 O2 hst
      generalize w3.heap.size = lb at *
      generalize w3.alloc (.cells #[.string enZero.k, .string enZero.v, .bool enZero.d, .int .i64 enZero.s.c, .int .i64 enZero.s.s, .int .i64 enZero.a.c, .int .i64 enZero.a.s, .int .i64 enZero.p, .int .i64 enZero.g] 51) = w4 at *
      go_loopw [50, 12] (fun i h X => ∃ (k tb : Nat) (lg : List En) (v : Value) (e : En) (had : Bool), k ≤ L ∧ i = .int .i64 (k : Int) ∧ h = .bool had ∧ hasE lg key = had ∧ Rz w g1 lb (kk : Int) (t : Int) key k tb lg v e X) (fun i _ _ => L - (intOf i).toNat)
      case atStart => exact ⟨0, tb1, [], _, enZero, false, Nat.zero_le _, rfl, rfl, rfl, R3.out⟩
      case round =>
        obtain ⟨k, tb, lg, v, e0, had, hk, rfl, rfl, hhad, hR⟩ := hrel
        have HR := Lib.hid hR
        have HHAD := Lib.hid hhad
        clear hR hhad R3 O3
        by_cases hlt : k < L
        · obtain ⟨a, ha⟩ : ∃ a, l[k]? = some a := ⟨l[k]'(by have := HL.out; omega), List.getElem?_eq_getElem _⟩
          obtain ⟨b, off, hA, _, hb, hc⟩ := in_elem gaRow_length (by decide) HX.out HL.out ha
          subst hA
          have HC : Hid (∀ j u, (gaA a).toList[j]? = some u → wr.cell? ⟨b, off + k * 10 + j, none⟩ = some u) := fun j u hu => hc _ HR.out.g.ho j u hu
          have BA := Lib.hid (Blk.new wr 40 (gaA a))
          have c0 : (wr.alloc (.cells (gaA a) 40)).cell? ⟨wr.heap.size, 0, none⟩ = some (.bool a.t) := BA.out.cell_ (i := 0) rfl
          have HGE := Lib.hid HR.out.ge
          have RA := Lib.hid (HR.out.keep ((Only.refl none_ wr).alloc (.cells (gaA a) 40)))
          clear ha hc
          go_upto_if 55 with (first
            | (with_reducible refine wpl_piece rfl 40 _ rfl b (off + k * 10) rfl (gaA a) _ HC.out Try.underlying40 rfl (by kernel_rfl) ?_)
            | (with_reducible refine wpl_new rfl rfl 40 rfl _ _ rfl (gaA a) rfl rfl (by kernel_rfl) (ga_one a) ?_))
          generalize wr.heap.size = h1 at *
          generalize wr.alloc (.cells (gaA a) 40) = w5 at *
          go_cut [56] (fun _ X => Rx w g1 lb (kk : Int) (t : Int) key k e0 had X)
          case rest =>
            obtain ⟨tb6, lg6, v6, hG, hB, hok, hlen, hrise⟩ := hcut
            obtain ⟨e6, he6⟩ : ∃ x, (lookE lg6 key).getD enZero = x := ⟨_, rfl⟩
            obtain ⟨hs, hhs⟩ : ∃ x, hasE lg6 key = x := ⟨_, rfl⟩
            have hget := sh_get w g1 tb6 lg6 v6 key e6 he6 wc hG.sh hG.t
            rw [hhs] at hget
            have HGET := Lib.hid hget
            have HHS := Lib.hid hhs
            have R6 : Hid (Rz w g1 lb (kk : Int) (t : Int) key (k + 1) tb6 lg6 v6 e6 (wc)) ∨ True := .inr trivial
            have G6 := Lib.hid hG
            have B6 := Lib.hid hB
            have HOK := Lib.hid hok
            have HLE := Lib.hid hlen
            have HE6 := Lib.hid he6
            have HRI : Hid (had = true → hs = true → stLater e0.s e6.s = false) := fun h1 h2 => by
              have h3 := hasE_look lg6 key
              rw [hhs, h2] at h3
              cases hl : lookE lg6 key with
              | none => rw [hl] at h3; cases h3
              | some z => rw [hl] at he6; exact hrise h1 e6 (by rw [hl]; exact congrArg some he6)
            have HNOW : Hid (hs = true → e6.k = key ∧ GvOk (fun e => enDuty e (kk : Int)) (t : Int) e6) := fun h2 => by
              have h3 := hasE_look lg6 key
              rw [hhs, h2] at h3
              cases hl : lookE lg6 key with
              | none => rw [hl] at h3; cases h3
              | some z =>
                rw [hl] at he6
                have h4 := look_some hl
                rw [show z = e6 from he6] at h4
                exact ⟨h4.2, hok _ h4.1⟩
            clear hG hB hok hlen hrise hget hhs he6 R6 RA HR HHAD c0 BA HC
            go_upto_region 14 with (first
              | (go_at_call 20; refine HGET.out.mono ?_; rintro E w7 ⟨rfl, o7⟩
                 have O7 := Lib.hid (o7.alloc (.cells #[.string e6.k, .string e6.v, .bool e6.d, .int .i64 e6.s.c, .int .i64 e6.s.s, .int .i64 e6.a.c, .int .i64 e6.a.s, .int .i64 e6.p, .int .i64 e6.g] 51))
                 have B7 : Hid (Blk (w7.alloc (.cells #[.string e6.k, .string e6.v, .bool e6.d, .int .i64 e6.s.c, .int .i64 e6.s.s, .int .i64 e6.a.c, .int .i64 e6.a.s, .int .i64 e6.p, .int .i64 e6.g] 51)) lb 51 #[.string e0.k, .string e0.v, .bool e0.d, .int .i64 e0.s.c, .int .i64 e0.s.s, .int .i64 e0.a.c, .int .i64 e0.a.s, .int .i64 e0.p, .int .i64 e0.g]) := (B6.out.only o7 (fun h => h)).alloc _
                 have N7 := Lib.hid (Blk.new w7 51 #[.string e6.k, .string e6.v, .bool e6.d, .int .i64 e6.s.c, .int .i64 e6.s.s, .int .i64 e6.a.c, .int .i64 e6.a.s, .int .i64 e6.p, .int .i64 e6.g])
                 clear o7)
              | (with_reducible refine wpl_new rfl rfl 51 rfl _ _ rfl #[.string e6.k, .string e6.v, .bool e6.d, .int .i64 e6.s.c, .int .i64 e6.s.s, .int .i64 e6.a.c, .int .i64 e6.a.s, .int .i64 e6.p, .int .i64 e6.g] rfl rfl (by kernel_rfl) (en_cells_one e6) ?_))
            generalize w7.heap.size = nb at *
            generalize w7.alloc (.cells #[.string e6.k, .string e6.v, .bool e6.d, .int .i64 e6.s.c, .int .i64 e6.s.s, .int .i64 e6.a.c, .int .i64 e6.a.s, .int .i64 e6.p, .int .i64 e6.g] 51) = w8 at *
            (refine wp_region_free_tail (fun X => Only none_ w8 X) (Only none_) (F := ?_) (by kernel_rfl) 6 121 (by rfl) (by kernel_rfl) (fun x => ?_) ((Only.refl none_ w8).drew) ?_; rotate_left; (· (simp only [List.take_succ_cons, List.take_zero, putsL, Act.put, List.setIfInBounds_toArray, List.set_cons_zero, List.set_cons_succ, Nat.reduceAdd]; exact rfl)); simp only [List.take_succ_cons, List.take_zero, List.drop_succ_cons, List.drop_zero])
            ((first | refine fr_value (c := ?_) (by rfl) (fun w => Only.refl none_ w) (fun x w0 hS hk => ?_) ?_ | refine fr_value_if (c := ?_) (by rfl) (by rfl) (by rfl) (fun w => Only.refl none_ w) (fun x w0 hS hk => ?_) ?_); rotate_left; (· (have hk2 := hk; (try simp [knAll, Region.binds] at hk2); obtain ⟨t0, t1, t2, t3, t4, t5, t6, t7, t8⟩ := nine_of (B7.out.only hS (fun h => h)); go_simp; try (with_reducible rfl))); try simp only [List.nil_append, List.cons_append])
            ((first | refine fr_some (fun v _ => v = .agg #[.string e0.k, .string e0.v, .bool e0.d, .int .i64 e0.s.c, .int .i64 e0.s.s, .int .i64 e0.a.c, .int .i64 e0.a.s, .int .i64 e0.p, .int .i64 e0.g]) (fun _ _ _ _ _ _ h => h) (by rfl) (fun x w0 hS hk => ?_) ?_ | refine fr_some_if (fun v _ => v = .agg #[.string e0.k, .string e0.v, .bool e0.d, .int .i64 e0.s.c, .int .i64 e0.s.s, .int .i64 e0.a.c, .int .i64 e0.a.s, .int .i64 e0.p, .int .i64 e0.g]) (fun _ _ _ _ _ _ h => h) (by rfl) (by rfl) (by rfl) (fun x w0 hS hk => ?_) ?_); (· (have hk2 := hk; (try simp [knAll, Region.binds] at hk2); skip; refine got_call (f := 22) (args := ?_) (by go_simp; try (with_reducible rfl)) ?_; refine (en_to e0 _).mono ?_; rintro E w9 ⟨rfl, o9⟩; exact ⟨_, rfl, rfl, hS.trans o9, o9⟩)); try simp only [List.nil_append, List.cons_append])
            ((first | refine fr_value (c := ?_) (by rfl) (fun w => Only.refl none_ w) (fun x w0 hS hk => ?_) ?_ | refine fr_value_if (c := ?_) (by rfl) (by rfl) (by rfl) (fun w => Only.refl none_ w) (fun x w0 hS hk => ?_) ?_); rotate_left; (· (have hk2 := hk; (try simp [knAll, Region.binds] at hk2); obtain ⟨t0, t1, t2, t3, t4, t5, t6, t7, t8⟩ := nine_of (N7.out.only hS (fun h => h)); go_simp; try (with_reducible rfl))); try simp only [List.nil_append, List.cons_append])
            ((first | refine fr_some (fun v _ => v = .agg #[.string e6.k, .string e6.v, .bool e6.d, .int .i64 e6.s.c, .int .i64 e6.s.s, .int .i64 e6.a.c, .int .i64 e6.a.s, .int .i64 e6.p, .int .i64 e6.g]) (fun _ _ _ _ _ _ h => h) (by rfl) (fun x w0 hS hk => ?_) ?_ | refine fr_some_if (fun v _ => v = .agg #[.string e6.k, .string e6.v, .bool e6.d, .int .i64 e6.s.c, .int .i64 e6.s.s, .int .i64 e6.a.c, .int .i64 e6.a.s, .int .i64 e6.p, .int .i64 e6.g]) (fun _ _ _ _ _ _ h => h) (by rfl) (by rfl) (by rfl) (fun x w0 hS hk => ?_) ?_); (· (have hk2 := hk; (try simp [knAll, Region.binds] at hk2); skip; refine got_call (f := 22) (args := ?_) (by go_simp; try (with_reducible rfl)) ?_; refine (en_to e6 _).mono ?_; rintro E w9 ⟨rfl, o9⟩; exact ⟨_, rfl, rfl, hS.trans o9, o9⟩)); try simp only [List.nil_append, List.cons_append])
            ((first | refine fr_some (fun v X => ∃ b, v = .pointer (some ⟨b, 0, none⟩) ∧ w8.heap.size ≤ b ∧ Blk X b 26 #[.string ⟨#[]⟩, .string ⟨#[]⟩, .bool false, .int .i64 0, .int .i64 0, .int .i64 0, .int .i64 0, .int .i64 0, .int .i64 0]) (fun _ _ _ _ _ r ⟨b, h1, h2, h3⟩ => ⟨b, h1, h2, h3.only r (fun h => h)⟩) (by rfl) (fun x w0 hS hk => ?_) ?_ | refine fr_some_if (fun v X => ∃ b, v = .pointer (some ⟨b, 0, none⟩) ∧ w8.heap.size ≤ b ∧ Blk X b 26 #[.string ⟨#[]⟩, .string ⟨#[]⟩, .bool false, .int .i64 0, .int .i64 0, .int .i64 0, .int .i64 0, .int .i64 0, .int .i64 0]) (fun _ _ _ _ _ r ⟨b, h1, h2, h3⟩ => ⟨b, h1, h2, h3.only r (fun h => h)⟩) (by rfl) (by rfl) (by rfl) (fun x w0 hS hk => ?_) ?_); (· (have hk2 := hk; (try simp [knAll, Region.binds] at hk2); skip; refine got_value (v := ?_) (w' := ?_) (by go_simp; (first | with_reducible rfl | (refine ⟨?_, ?_⟩; with_reducible rfl; with_reducible rfl))) ?_; exact ⟨⟨_, rfl, hS.size, Blk.new _ _ _⟩, hS.alloc _, (Only.refl none_ _).alloc _⟩)); try simp only [List.nil_append, List.cons_append])
            ((first | refine fr_some (fun v X => ∃ b, v = .pointer (some ⟨b, 0, none⟩) ∧ w8.heap.size ≤ b ∧ Blk X b 26 #[.string ⟨#[]⟩, .string ⟨#[]⟩, .bool false, .int .i64 0, .int .i64 0, .int .i64 0, .int .i64 0, .int .i64 0, .int .i64 0]) (fun _ _ _ _ _ r ⟨b, h1, h2, h3⟩ => ⟨b, h1, h2, h3.only r (fun h => h)⟩) (by rfl) (fun x w0 hS hk => ?_) ?_ | refine fr_some_if (fun v X => ∃ b, v = .pointer (some ⟨b, 0, none⟩) ∧ w8.heap.size ≤ b ∧ Blk X b 26 #[.string ⟨#[]⟩, .string ⟨#[]⟩, .bool false, .int .i64 0, .int .i64 0, .int .i64 0, .int .i64 0, .int .i64 0, .int .i64 0]) (fun _ _ _ _ _ r ⟨b, h1, h2, h3⟩ => ⟨b, h1, h2, h3.only r (fun h => h)⟩) (by rfl) (by rfl) (by rfl) (fun x w0 hS hk => ?_) ?_); (· (have hk2 := hk; (try simp [knAll, Region.binds] at hk2); skip; refine got_value (v := ?_) (w' := ?_) (by go_simp; (first | with_reducible rfl | (refine ⟨?_, ?_⟩; with_reducible rfl; with_reducible rfl))) ?_; exact ⟨⟨_, rfl, hS.size, Blk.new _ _ _⟩, hS.alloc _, (Only.refl none_ _).alloc _⟩)); try simp only [List.nil_append, List.cons_append])
            (refine fr_end ?_; intro x w9 hS hk)
            have e1 := kn_end_at 1 hk (by rfl)
            have e3 := kn_end_at 3 hk (by rfl)
            obtain ⟨b4, e4, h4, B4⟩ := kn_end_at 4 hk (by rfl)
            obtain ⟨b5, e5, h5, B5⟩ := kn_end_at 5 hk (by rfl)
            rw [Nat.zero_add] at e1 e3 e4 e5
            rw [e1, e3, e4, e5]
            clear hk e1 e3 e4 e5
            refine wpList_store_row rfl 26 _ _ rfl b4 #[.string e0.k, .string e0.v, .bool e0.d, .int .i64 e0.s.c, .int .i64 e0.s.s, .int .i64 e0.a.c, .int .i64 e0.a.s, .int .i64 e0.p, .int .i64 e0.g] rfl rfl _ _ B4 (by kernel_rfl) rfl (en_cells_one e0) ?_
            have B4' : Blk (w9.setRow b4 #[.string e0.k, .string e0.v, .bool e0.d, .int .i64 e0.s.c, .int .i64 e0.s.s, .int .i64 e0.a.c, .int .i64 e0.a.s, .int .i64 e0.p, .int .i64 e0.g]) b4 26 #[.string e0.k, .string e0.v, .bool e0.d, .int .i64 e0.s.c, .int .i64 e0.s.s, .int .i64 e0.a.c, .int .i64 e0.a.s, .int .i64 e0.p, .int .i64 e0.g] := B4.setRow _
            have O10 : Only none_ w8 (w9.setRow b4 #[.string e0.k, .string e0.v, .bool e0.d, .int .i64 e0.s.c, .int .i64 e0.s.s, .int .i64 e0.a.c, .int .i64 e0.a.s, .int .i64 e0.p, .int .i64 e0.g]) := hS.setRow (.inr h4) _
            obtain ⟨cs5, hB5, hc5⟩ : ∃ cs, Blk (w9.setRow b4 #[.string e0.k, .string e0.v, .bool e0.d, .int .i64 e0.s.c, .int .i64 e0.s.s, .int .i64 e0.a.c, .int .i64 e0.a.s, .int .i64 e0.p, .int .i64 e0.g]) b5 26 cs ∧ cs.size = 9 := by
              by_cases he : b5 = b4
              · subst he; exact ⟨_, B4', rfl⟩
              · exact ⟨_, B5.setRow_far he _, rfl⟩
            refine wpList_store_row rfl 26 _ _ rfl b5 #[.string e6.k, .string e6.v, .bool e6.d, .int .i64 e6.s.c, .int .i64 e6.s.s, .int .i64 e6.a.c, .int .i64 e6.a.s, .int .i64 e6.p, .int .i64 e6.g] rfl rfl _ cs5 hB5 (by kernel_rfl) hc5 (en_cells_one e6) ?_
            have B5' : Blk ((w9.setRow b4 #[.string e0.k, .string e0.v, .bool e0.d, .int .i64 e0.s.c, .int .i64 e0.s.s, .int .i64 e0.a.c, .int .i64 e0.a.s, .int .i64 e0.p, .int .i64 e0.g]).setRow b5 #[.string e6.k, .string e6.v, .bool e6.d, .int .i64 e6.s.c, .int .i64 e6.s.s, .int .i64 e6.a.c, .int .i64 e6.a.s, .int .i64 e6.p, .int .i64 e6.g]) b5 26 #[.string e6.k, .string e6.v, .bool e6.d, .int .i64 e6.s.c, .int .i64 e6.s.s, .int .i64 e6.a.c, .int .i64 e6.a.s, .int .i64 e6.p, .int .i64 e6.g] := hB5.setRow _
            have O11 : Only none_ w8 ((w9.setRow b4 #[.string e0.k, .string e0.v, .bool e0.d, .int .i64 e0.s.c, .int .i64 e0.s.s, .int .i64 e0.a.c, .int .i64 e0.a.s, .int .i64 e0.p, .int .i64 e0.g]).setRow b5 #[.string e6.k, .string e6.v, .bool e6.d, .int .i64 e6.s.c, .int .i64 e6.s.s, .int .i64 e6.a.c, .int .i64 e6.a.s, .int .i64 e6.p, .int .i64 e6.g]) := O10.setRow (.inr h5) _
            obtain ⟨ex, B4'', hex⟩ : ∃ ex, Blk ((w9.setRow b4 #[.string e0.k, .string e0.v, .bool e0.d, .int .i64 e0.s.c, .int .i64 e0.s.s, .int .i64 e0.a.c, .int .i64 e0.a.s, .int .i64 e0.p, .int .i64 e0.g]).setRow b5 #[.string e6.k, .string e6.v, .bool e6.d, .int .i64 e6.s.c, .int .i64 e6.s.s, .int .i64 e6.a.c, .int .i64 e6.a.s, .int .i64 e6.p, .int .i64 e6.g]) b4 26 #[.string ex.k, .string ex.v, .bool ex.d, .int .i64 ex.s.c, .int .i64 ex.s.s, .int .i64 ex.a.c, .int .i64 ex.a.s, .int .i64 ex.p, .int .i64 ex.g] ∧ (ex = e0 ∨ ex = e6) := by
              by_cases he : b4 = b5
              · subst he; exact ⟨e6, B5', .inr rfl⟩
              · exact ⟨e0, B4'.setRow_far he _, .inl rfl⟩
            generalize (w9.setRow b4 #[.string e0.k, .string e0.v, .bool e0.d, .int .i64 e0.s.c, .int .i64 e0.s.s, .int .i64 e0.a.c, .int .i64 e0.a.s, .int .i64 e0.p, .int .i64 e0.g]).setRow b5 #[.string e6.k, .string e6.v, .bool e6.d, .int .i64 e6.s.c, .int .i64 e6.s.s, .int .i64 e6.a.c, .int .i64 e6.a.s, .int .i64 e6.p, .int .i64 e6.g] = w11 at *
            have P11 : Hid (Ry w g1 lb nb b4 b5 (kk : Int) (t : Int) tb6 lg6 v6 e0 e6 ex w11) :=
              ⟨(G6.out.keep O7.out).keep O11, B7.out.only O11 (fun h => h), N7.out.only O11 (fun h => h), B4'', B5'⟩
            have HEX : Hid (had = true → hs = true → stLater ex.s e6.s = false) := fun h1 h2 => by
              rcases hex with rfl | rfl
              · exact HRI.out h1 h2
              · exact (later_false _ _).2 (by omega)
            have HEND : Hid (∀ X, Ry w g1 lb nb b4 b5 (kk : Int) (t : Int) tb6 lg6 v6 e0 e6 ex X → Rz w g1 lb (kk : Int) (t : Int) key (k + 1) tb6 lg6 v6 e6 (X.setRow lb #[.string e6.k, .string e6.v, .bool e6.d, .int .i64 e6.s.c, .int .i64 e6.s.s, .int .i64 e6.a.c, .int .i64 e6.a.s, .int .i64 e6.p, .int .i64 e6.g])) := fun X h =>
              ⟨h.g.apart (only_row lb _) (fun b hb e => gv_far h.g h.b (by decide) (by decide) (by decide) (by rw [← (show b = lb from e)]; exact hb)) (fun b e => by have e' : b = lb := e; have := HGE.out; omega), h.b.setRow _, HE6.out, HOK.out, HLE.out, HGE.out⟩
            clear hS B4 B5 B4' O10 hB5 hc5 B5' O11 B4'' hex B7 N7 B6 G6 O7 HRI cs5 h4 h5 HGET
            have HNW := HNOW.out
            cases hs with
            | false =>
              clear HNW HNOW HEX
              go_wp2_with (first
                | (with_reducible refine wpl_load rfl 51 _ rfl nb rfl _ #[.string e6.k, .string e6.v, .bool e6.d, .int .i64 e6.s.c, .int .i64 e6.s.s, .int .i64 e6.a.c, .int .i64 e6.a.s, .int .i64 e6.p, .int .i64 e6.g] _ P11.out.n Try.underlying51 rfl (by kernel_rfl) ?_)
                | (with_reducible refine wpl_store_all rfl 51 _ _ rfl lb #[.string e6.k, .string e6.v, .bool e6.d, .int .i64 e6.s.c, .int .i64 e6.s.s, .int .i64 e6.a.c, .int .i64 e6.a.s, .int .i64 e6.p, .int .i64 e6.g] rfl rfl _ _ P11.out.b (by kernel_rfl) (by kernel_rfl) (en_cells_one e6) ?_))
              have F := Lib.hid (HEND.out _ P11.out)
              go_roundw
              case rel => exact ⟨k + 1, tb6, lg6, v6, e6, false, by omega, by go_num, rfl, HHS.out, F.out⟩
              case measure => simp [intOf]; omega
            | true =>
              obtain ⟨hk6, hok6⟩ := HNW rfl
              have HDT := Lib.hid (fun (X : World) => rf_duty e6 (kk : Int) X (fun _ => hok6.p))
              rw [hok6.u] at HDT
              have HK6 := Lib.hid hk6
              have n0 : w11.cell? ⟨nb, 0, none⟩ = some (.string key) := by rw [← hk6]; exact P11.out.n.cell_ (i := 0) rfl
              have n2 : w11.cell? ⟨nb, 2, none⟩ = some (.bool true) := by rw [← hok6.d]; exact P11.out.n.cell_ (i := 2) rfl
              have n8 := P11.out.n.cell_ (i := 8) rfl
              obtain ⟨y0, y1, y2, y3, y4, y5, y6, y7, y8⟩ := nine_of P11.out.y
              have x3 := P11.out.x.cell_ (i := 3) rfl
              have x4 := P11.out.x.cell_ (i := 4) rfl
              have hg0 : decide (e6.g < 0) = false := by have := hok6.g; simp; omega
              have hg1 : decide ((t : Int) ≤ e6.g) = false := by have := hok6.g; simp; omega
              have hg2 : decide (e6.g < (t : Int)) = true := by have := hok6.g; simp; omega
              clear HNW HNOW hok6 hk6
              cases had with
              | false =>
                clear HEX
                go_wp2_with (first
                  | (go_at_call 30; refine (HDT.out _).mono ?_; rintro E w13 ⟨rfl, o13⟩
                     have P13 := Lib.hid (P11.out.keep o13)
                     clear o13)
                  | (with_reducible refine wpl_load rfl 51 _ rfl nb rfl _ #[.string e6.k, .string e6.v, .bool e6.d, .int .i64 e6.s.c, .int .i64 e6.s.s, .int .i64 e6.a.c, .int .i64 e6.a.s, .int .i64 e6.p, .int .i64 e6.g] _ P13.out.n Try.underlying51 rfl (by kernel_rfl) ?_)
                  | (with_reducible refine wpl_store_all rfl 51 _ _ rfl lb #[.string e6.k, .string e6.v, .bool e6.d, .int .i64 e6.s.c, .int .i64 e6.s.s, .int .i64 e6.a.c, .int .i64 e6.a.s, .int .i64 e6.p, .int .i64 e6.g] rfl rfl _ _ P13.out.b (by kernel_rfl) (by kernel_rfl) (en_cells_one e6) ?_))
                have F := Lib.hid (HEND.out _ P13.out)
                go_roundw
                case rel => exact ⟨k + 1, tb6, lg6, v6, e6, true, by omega, by go_num, rfl, HHS.out, F.out⟩
                case measure => simp [intOf]; omega
              | true =>
                have hexx := HEX.out rfl rfl
                have HLT := Lib.hid (fun (X : World) => rf_later ex.s.c ex.s.s e6.s.c e6.s.s X)
                have hls : stLater ⟨ex.s.c, ex.s.s⟩ ⟨e6.s.c, e6.s.s⟩ = false := hexx
                rw [hls] at HLT
                clear HEX hexx hls
                go_wp2_with (first
                  | (go_at_call 29; refine (HLT.out _).mono ?_; rintro E w12 ⟨rfl, o12⟩
                     have P12 := Lib.hid (P11.out.keep o12)
                     have m0 : w12.cell? ⟨nb, 0, none⟩ = some (.string key) := by rw [← HK6.out]; exact P12.out.n.cell_ (i := 0) rfl
                     have m2 : w12.cell? ⟨nb, 2, none⟩ = some (.bool true) := (o12.cell (p := ⟨nb, 2, none⟩) P11.out.n.lt (fun h => h)).trans n2
                     have m8 := P12.out.n.cell_ (i := 8) rfl
                     obtain ⟨z0, z1, z2, z3, z4, z5, z6, z7, z8⟩ := nine_of P12.out.y
                     clear o12)
                  | (go_at_call 30; refine (HDT.out _).mono ?_; rintro E w13 ⟨rfl, o13⟩
                     have P13 := Lib.hid (P12.out.keep o13)
                     clear o13)
                  | (with_reducible refine wpl_load rfl 51 _ rfl nb rfl _ #[.string e6.k, .string e6.v, .bool e6.d, .int .i64 e6.s.c, .int .i64 e6.s.s, .int .i64 e6.a.c, .int .i64 e6.a.s, .int .i64 e6.p, .int .i64 e6.g] _ P13.out.n Try.underlying51 rfl (by kernel_rfl) ?_)
                  | (with_reducible refine wpl_store_all rfl 51 _ _ rfl lb #[.string e6.k, .string e6.v, .bool e6.d, .int .i64 e6.s.c, .int .i64 e6.s.s, .int .i64 e6.a.c, .int .i64 e6.a.s, .int .i64 e6.p, .int .i64 e6.g] rfl rfl _ _ P13.out.b (by kernel_rfl) (by kernel_rfl) (en_cells_one e6) ?_))
                have F := Lib.hid (HEND.out _ P13.out)
                go_roundw
                case rel => exact ⟨k + 1, tb6, lg6, v6, e6, true, by omega, by go_num, rfl, HHS.out, F.out⟩
                case measure => simp [intOf]; omega
          case first =>
            cases hta : a.t with
            | true =>
              rw [hta] at c0
              have HT := Lib.hid (gv_tick w g1 tb (kk : Int) (t : Int) lg v w5 RA.out.g (fun x hx => (RA.out.ok x hx).g) (by omega))
              clear hta
              go_wp2_with (first
                | (go_at_call 16; refine HT.out.mono ?_; rintro E w6 ⟨v6, rfl, own6, hL⟩
                   obtain ⟨A6, n6, c6, rfl⟩ := own_shape own6
                   have F6 := Lib.hid (RA.out.tick HHAD.out hL)
                   clear own6 hL))
              go_meet
              case rel => exact F6.out
            | false =>
              rw [hta] at c0
              have tokA : True := trivial
              clear hta
              go_wp2_with (first
                | (with_reducible refine wpl_piece rfl 26 _ rfl h1 1 rfl #[.string a.e.k, .string a.e.v, .bool a.e.d, .int .i64 a.e.s.c, .int .i64 a.e.s.s, .int .i64 a.e.a.c, .int .i64 a.e.a.s, .int .i64 a.e.p, .int .i64 a.e.g] _ (ga_entry BA.out) Try.underlying26 rfl (by kernel_rfl) ?_)
                | (go_at_call 19; refine (en_of a.e _).mono ?_; rintro E w6 ⟨rfl, o6⟩
                   have R6 := Lib.hid (RA.out.keep o6)
                   clear o6)
                | (go_at_call 18; refine (gv_bury w g1 tb _ _ lg v a.e _ R6.out.g (by have := R6.out.len; have := HN50.out; omega)).mono ?_; rintro E w7 ⟨rfl, h7⟩
                   have F7 := Lib.hid (R6.out.bury HHAD.out a.e h7)
                   clear h7))
              go_meet
              case rel => exact F7.out
        · obtain rfl : k = L := by omega
          go_wp2_with fail
          go_ret
          exact ⟨rfl, HR.out.g.ho⟩
end Go.Proofs.Ytniacolkjdmflaa
end
section
namespace Go.Proofs.Ytniacolkjdmflaa.grvrise
open Go.ChangeShapes Go.WideShapes Go.ChangeAt Go.ChangeMaps Go.RowKit
set_option linter.unusedVariables false

set_option maxRecDepth 100000 in
theorem lifted (os : Os) (started : os.Started) (H : Type) (enc : TypeId × Value → H) :
    ReturnsInHanded {} Try.checked os 4 .any (Rows.gravesRiseSpec.pre6 enc Try.prog Try.f4 Rows.gravesRiseRow.domain false) (Rows.gravesRiseSpec.post enc Try.prog Try.f4 false true false false) := by
  refine returnsInHanded_of_change (C := Try.checked) own started (by kernel_rfl) Try.func4
    (ChangeSpec.witness6 (enc := enc) (C := Try.checked) false ⟨#[], #[.int .u8 0, .int .u8 0, .slice none 0 0, .string ByteArray.empty], []⟩ 8 (by kernel_rfl) (by kernel_rfl) (by kernel_rfl) (by kernel_rfl)) ?_
  intro W base args ds gs before hval0 hW hcnd _
  have hval : ∀ (j : Nat) t v, Try.f4.params[j]? = some t → args[j]? = some v → Value.okWide Try.prog W .any base t v := hval0
  have hW' := hW
  obtain ⟨p, q, hA0, hV, rfl, hfz, hnd⟩ := hW
  have hA : DataW.TrodAll enc Try.prog W 0 (fun _ => true) true Try.f4.params.toList args.toList ds p := hA0
  rw [Try.params4] at hA hval
  obtain ⟨v0, vs0, d0, ds0, p0, q0, hargs, rfl, rfl, h0, r0⟩ := trodAll_cons hA
  obtain ⟨v1, vs1, d1, ds1, p1, q1, rfl, rfl, rfl, h1, r1⟩ := trodAll_cons r0
  obtain ⟨v2, vs2, d2, ds2, p2, q2, rfl, rfl, rfl, h2, r2⟩ := trodAll_cons r1
  obtain ⟨v3, vs3, d3, ds3, p3, q3, rfl, rfl, rfl, h3, r3⟩ := trodAll_cons r2
  obtain ⟨rfl, rfl, rfl⟩ := trodAll_nil r3
  obtain rfl : args = #[v0, v1, v2, v3] := by cases args; simp_all
  obtain ⟨rfl, rfl⟩ := trodVars_none hV
  obtain ⟨a0, rfl, rfl, rfl, w0⟩ := open_int Try.underlying5 (hval 0 5 v0 rfl rfl) h0
  obtain ⟨a1, rfl, rfl, rfl, w1⟩ := open_int Try.underlying5 (hval 1 5 v1 rfl rfl) h1
  obtain ⟨a2, len2, cap2, rfl⟩ := okWide_slice Try.underlying22 (hval 2 22 v2 rfl rfl)
  have k2 := h2
  have lt2 : ∀ x ∈ p2, x.block < W.heap.size := by obtain ⟨m, hm⟩ := k2; exact DataW.trod_lt m _ _ _ hm
  obtain ⟨a3, rfl, rfl, rfl, w3⟩ := open_string Try.underlying9 (hval 3 9 v3 rfl rfl) h3
  clear hA0 hval0
  have hw : Calls Try.prog 4 #[.int .u8 a0, .int .u8 a1, .slice a2 len2 cap2, .string a3] W fun e w' => e = .returned (.bool true) ∧ Below W.heap.size W w' := by
    obtain ⟨l, hl, hc⟩ := gacts_arg h2
    subst hl
    have b0 := bounds_u8 w0
    have b1 := bounds_u8 w1
    obtain ⟨y, rfl⟩ := Int.eq_ofNat_of_zero_le b0.1
    obtain ⟨t, rfl⟩ := Int.eq_ofNat_of_zero_le b1.1
    refine (graves_rise _ _ _ l y t (by omega) (by omega) a3 w3 W hc).mono fun e w2 h2 => ⟨h2.1, h2.2.below (Nat.le_refl _) (fun k hk => hk.elim)⟩
  refine hw.mono fun e W' ⟨he, bel⟩ => ?_
  subst he
  exact ⟨_, rfl, _, _, _, [], _, [], hW', trodAll_mk1 (shut_bool Try.underlying4 _), (trodAll_cons_mk (shut_int Try.underlying5 w0) (trodAll_cons_mk (shut_int Try.underlying5 w1) (trodAll_cons_mk (Below.trod laidOut (by kernel_rfl) (of_decide_eq_true (by kernel_rfl)) k2 bel lt2) (trodAll_cons_mk (shut_string Try.underlying9 w3) trodAll_mk0)))), rfl, bel.frame _, fun h => by cases h⟩

theorem holds : Rows.GravesRiseSaid :=
  OpenClaim.holds_of_wide 4 Try.f4 rfl rfl rfl rfl rfl rfl rfl ⟨rfl, rfl, rfl, rfl, rfl⟩ rfl rfl rfl rfl rfl (by kernel_rfl) Try.func4 (by kernel_rfl)
    (of_decide_eq_true (by kernel_rfl)) (by unfold Func.isWrapper; first | (rw [if_pos (by decide +kernel)]; kernel_rfl) | (rw [if_neg (by decide +kernel)]; exact ⟨rfl, rfl⟩))
    (fun os started H enc _ => lifted os started H enc)
end Go.Proofs.Ytniacolkjdmflaa.grvrise
namespace Go.Proofs.Ytniacolkjdmflaa
theorem gravesRise_holds : Rows.GravesRiseSaid := grvrise.holds
#print axioms gravesRise_holds
end Go.Proofs.Ytniacolkjdmflaa
end
