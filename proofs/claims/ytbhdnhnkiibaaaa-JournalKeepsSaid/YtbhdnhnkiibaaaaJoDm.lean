/- The call of JournalKeeps answers yes, and changes nothing that was there. The statement itself is proved in another text. -/
import Derived.Test.YtbhdnhnkiibaaaaJnW
import Derived.Test.YtbhdnhnkiibaaaaJnP
import Derived.Test.YtbhdnhnkiibaaaaJnU
import Derived.Test.YtbhdnhnkiibaaaaJoA
import Derived.Test.YtbhdnhnkiibaaaaJnS
import Derived.BigQuiet
namespace Go.Proofs.Ytbhdnhnkiibaaaa
open Go.RowKit
set_option maxRecDepth 100000
set_option linter.all false

/-- A disk with power, a fuse, and just these records, all safe. -/
def dvF (f : Int) (l : List (List UInt8)) : Dv := ⟨true, f, flatB l, (flatB l).length⟩
theorem dvF_of (l : List (List UInt8)) : dvF (-1) l = dvOf l := rfl
/-- An addition with a fuse: it is done, or the power goes, ahead of the bytes or behind them. -/
theorem add_fuse (f : Int) (l : List (List UInt8)) (b : List UInt8) (hl : (flatB l).length + 522 ≤ 1048576) :
    (recCode b.length ≠ 0 ∧ adC b (dvF f l) = recCode b.length ∧ adD b (dvF f l) = dvF f l) ∨
    (Rok b ∧ adC b (dvF f l) = 0 ∧ ∃ f', (f' = f ∨ f' = f - 2 ∧ 2 ≤ f) ∧ adD b (dvF f l) = dvF f' (l ++ [b])) ∨
    (Rok b ∧ adC b (dvF f l) = 11 ∧ (adD b (dvF f l)).on = false ∧ (adD b (dvF f l)).safe = (flatB l).length ∧ ((adD b (dvF f l)).bs = flatB l ∨ (adD b (dvF f l)).bs = flatB l ++ recB b)) := by
  by_cases hz : recCode b.length = 0
  · right
    have hr := (rok_iff b).1 hz
    have hF : adF b (dvF f l) = 0 := if_neg (by show ¬ 1048576 < (flatB l).length + (recB b).length; rw [recB_len]; have := hr.2; omega)
    by_cases h0 : f = 0
    · right
      subst h0
      have hc : chCode (dvF 0 l) 0 = 11 := by simp [chCode, dvF]
      have h1 : adD1 b (dvF 0 l) = ⟨false, 0, flatB l, (flatB l).length⟩ := by rw [adD1, hF]; simp [chD, dvF]
      have e1 : adC b (dvF 0 l) = 11 := by rw [adC, if_neg (by simp [hz]), hF, hc]; rfl
      have e2 : adD b (dvF 0 l) = ⟨false, 0, flatB l, (flatB l).length⟩ := by rw [adD, if_neg (by simp [hz]), hF, hc, if_pos (by decide), h1]
      rw [e1, e2]
      exact ⟨hr, rfl, rfl, rfl, .inl rfl⟩
    · have hc : chCode (dvF f l) 0 = 0 := by simp [chCode, dvF, h0]
      by_cases h1 : f = 1
      · right
        subst h1
        have h1 : adD1 b (dvF 1 l) = ⟨true, 0, flatB l ++ recB b, (flatB l).length⟩ := by rw [adD1, hF]; simp [chD, dvF, burnt, dApp]
        have hc2 : chCode (adD1 b (dvF 1 l)) 0 = 11 := by rw [h1]; simp [chCode]
        have e1 : adC b (dvF 1 l) = 11 := by rw [adC, if_neg (by simp [hz]), hF, hc, if_neg (by decide), hc2]
        have e2 : adD b (dvF 1 l) = ⟨false, 0, flatB l ++ recB b, (flatB l).length⟩ := by
          rw [adD, if_neg (by simp [hz]), hF, hc, if_neg (by decide), h1]
          simp [chD]
        rw [e1, e2]
        exact ⟨hr, rfl, rfl, rfl, .inr rfl⟩
      · left
        by_cases hp : 0 < f
        · have hp2 : 0 < f - 1 := by omega
          have hp3 : f - 1 ≠ 0 := by omega
          have h2 : adD1 b (dvF f l) = ⟨true, f - 1, flatB l ++ recB b, (flatB l).length⟩ := by rw [adD1, hF]; simp [chD, dvF, burnt, dApp, h0, hp]
          have hc2 : chCode (adD1 b (dvF f l)) 0 = 0 := by rw [h2]; simp [chCode, hp3]
          refine ⟨hr, by rw [adC, if_neg (by simp [hz]), hF, hc, if_neg (by decide), hc2], f - 2, .inr ⟨rfl, by omega⟩, ?_⟩
          rw [adD, if_neg (by simp [hz]), hF, hc, if_neg (by decide), h2]
          have hb : burnt ⟨true, f - 1, flatB l ++ recB b, (flatB l).length⟩ = ⟨true, f - 2, flatB l ++ recB b, (flatB l).length⟩ := by
            unfold burnt
            rw [if_neg hp3, if_pos hp2]
            show (⟨true, f - 1 - 1, _, _⟩ : Dv) = _
            rw [show f - 1 - 1 = f - 2 by omega]
          rw [hb, dvF, flatB_append, flatB_one]
          unfold chD
          rw [if_neg (by show ¬ (true = false); decide), if_neg (by decide), if_neg (by exact hp3)]
          rfl
        · have h2 : adD1 b (dvF f l) = ⟨true, f, flatB l ++ recB b, (flatB l).length⟩ := by rw [adD1, hF]; simp [chD, dvF, burnt, dApp, h0, hp]
          have hc2 : chCode (adD1 b (dvF f l)) 0 = 0 := by rw [h2]; simp [chCode, h0]
          refine ⟨hr, by rw [adC, if_neg (by simp [hz]), hF, hc, if_neg (by decide), hc2], f, .inl rfl, ?_⟩
          rw [adD, if_neg (by simp [hz]), hF, hc, if_neg (by decide), h2]
          simp [chD, burnt, dSync, dvF, flatB_append, flatB_one, h0, hp]
  · left
    exact ⟨hz, by rw [adC, if_pos hz], by rw [adD, if_pos hz]⟩
/-- Cut anywhere behind what is safe: the records that were sure, or the one more. -/
theorem crash_read (sure : List (List UInt8)) (hs : ∀ r ∈ sure, Rok r) (g : List UInt8) (hg : Rok g) (k : Nat) :
    ∃ got rest, (got = sure ∨ got = sure ++ [g]) ∧ jnRead (flatB sure ++ (recB g).take k) = (got, (flatB got).length, 0) ∧ flatB sure ++ (recB g).take k = flatB got ++ rest := by
  by_cases hk : k < (recB g).length
  · have := cut_read g hg [] k hk
    rw [List.append_nil] at this
    exact ⟨sure, _, .inl rfl, read_flat sure hs _ this, rfl⟩
  · refine ⟨sure ++ [g], [], .inr rfl, ?_, by rw [List.take_of_length_le (by omega), flatB_append, flatB_one, List.append_nil]⟩
    have h2 : ∀ r ∈ sure ++ [g], Rok r := fun r hr => by
      rcases List.mem_append.1 hr with h | h
      · exact hs r h
      · have e : r = g := by simpa using h
        rw [e]; exact hg
    have := read_all (sure ++ [g]) h2
    rw [flatB_append, flatB_one] at this
    rw [List.take_of_length_le (by omega), this, flatB_append, flatB_one]
/-- Behind a crash the disk is opened as one with just the records that were sure, or the one more. -/
theorem crash_open (d : Dv) (sure : List (List UInt8)) (hs : ∀ r ∈ sure, Rok r) (g : List UInt8) (h1 : d.safe = (flatB sure).length) (h2 : d.bs = flatB sure ∨ (Rok g ∧ d.bs = flatB sure ++ recB g)) (keep : Int) :
    ∃ got, (got = sure ∨ (Rok g ∧ got = sure ++ [g])) ∧ opC (dCrash keep d) = 0 ∧ opD (dCrash keep d) = dvOf got ∧ (jnRead (dCrash keep d).bs).1 = got := by
  rcases h2 with h2 | ⟨hg, h2⟩
  · have hst : stay d keep = 0 := by rw [stay, h1, h2]; omega
    have e : dCrash keep d = dvOf sure := by
      rw [dCrash, hst, h1, h2, Nat.add_zero, List.take_of_length_le (Nat.le_refl _)]
      rfl
    obtain ⟨a, b, c⟩ := open_all sure hs
    exact ⟨sure, .inl rfl, by rw [e]; exact a, by rw [e]; exact b, by rw [e]; exact c⟩
  · obtain ⟨k, hk⟩ : ∃ k, stay d keep = k := ⟨_, rfl⟩
    have hkl : k ≤ (recB g).length := by rw [← hk, stay, h1, h2, List.length_append]; omega
    have e : dCrash keep d = ⟨true, -1, flatB sure ++ (recB g).take k, (flatB sure).length + k⟩ := by
      rw [dCrash, hk, h1, h2, List.take_append, List.take_of_length_le (by omega), Nat.add_sub_cancel_left]
    obtain ⟨got, rest, h3, h4, h5⟩ := crash_read sure hs g hg k
    have hb : (dCrash keep d).bs = flatB sure ++ (recB g).take k := by rw [e]
    have hon : (dCrash keep d).on = true := rfl
    have hf : (dCrash keep d).fuse = -1 := rfl
    have hsf : (dCrash keep d).safe = (flatB sure ++ (recB g).take k).length := by rw [e, List.length_append, List.length_take, Nat.min_eq_left hkl]
    have hc : opC (dCrash keep d) = 0 := op_code hon (by rw [hb, h4]) (by rw [hf]; intro h; exact absurd h.2 (by decide))
    have hle : (flatB got).length ≤ (flatB sure ++ (recB g).take k).length := by rw [h5, List.length_append]; omega
    refine ⟨got, h3.imp id (fun h => ⟨hg, h⟩), hc, ?_, by rw [hb, h4]⟩
    unfold opD
    rw [if_neg (by rw [hon]; decide), hb, h4, if_neg (by simp)]
    by_cases hlt : (flatB got).length < (flatB sure ++ (recB g).take k).length
    · rw [if_pos hlt]
      have hB : burnt (dCrash keep d) = dCrash keep d := by
        unfold burnt
        rw [hf, if_neg (by decide), if_neg (by decide)]
      have hC : ∀ X, chD (dCrash keep d) 0 X = X := fun X => by
        unfold chD
        rw [hon, hf, if_neg (by decide), if_neg (by decide), if_neg (by decide)]
      rw [hB, hC]
      have ht : (dCrash keep d).bs.take (flatB got).length = flatB got := by rw [hb, h5, List.take_left' rfl]
      have hm : min (dCrash keep d).safe (flatB got).length = (flatB got).length := by rw [hsf]; exact Nat.min_eq_right hle
      show (⟨(dCrash keep d).on, (dCrash keep d).fuse, (dCrash keep d).bs.take (flatB got).length, min (dCrash keep d).safe (flatB got).length⟩ : Dv) = dvOf got
      rw [ht, hm, hon, hf]
      rfl
    · rw [if_neg hlt]
      have hr : rest = [] := List.eq_nil_of_length_eq_zero (by rw [h5, List.length_append] at hlt; omega)
      rw [hr, List.append_nil] at h5
      rw [e, dvOf, ← h5]
      congr 1
      rw [List.length_append, List.length_take, Nat.min_eq_left hkl]
end Go.Proofs.Ytbhdnhnkiibaaaa
namespace Go.Proofs.Ytbhdnhnkiibaaaa
open Go.RowKit
set_option maxRecDepth 100000
set_option linter.all false

/-- What lies where, behind an opening: the records new, ahead of m; the journal, and what the disk has new, from m on. -/
def Far_ (B w w' : World) (g : Nat) (v : Value) (d : Dv) (l : List (List UInt8)) (j m : Nat) (vl v' : Value) : Prop :=
  w.heap.size ≤ m ∧ m ≤ j ∧ j < w'.heap.size ∧ Jn w' j g (l.length : Int) ∧ Lst w' w.heap.size (fun b => w.heap.size ≤ b ∧ b < m) vl l ∧ (∀ k, vl.ownBlock = some k → k < m) ∧
    Dsk B g d v' w' ∧ Only (foot g v) w w' ∧ (∀ k, v'.ownBlock = some k → v.ownBlock = some k ∨ m ≤ k)

set_option maxHeartbeats 3200000 in
theorem open_far (B : World) (g : Nat) (d : Dv) (v : Value) (w : World) (h : Dsk B g d v w) (hon1 : d.on = true) (hko : (jnRead d.bs).2.2 = 0) (hfo : d.fuse ≠ 0) :
    Calls Try.prog 32 #[.pointer (some ⟨g, 0, none⟩)] w fun e w' => ∃ j m vl v', e = .returned (.tuple #[.pointer (some ⟨j, 0, none⟩), vl, .int .i64 0]) ∧ Far_ B w w' g v (opD d) (jnRead d.bs).1 j m vl v' := by
  have HRD := disk_read B g d v w h
  have H := Lib.hid h
  have hml := h.ml
  rw [hon1] at HRD
  simp only [if_true] at HRD
  obtain ⟨R, hR⟩ : ∃ r, jnRead d.bs = r := ⟨_, rfl⟩
  have hle := jnRead_le d.bs
  have hct := jnRead_count d.bs
  have HQ : Hid (∀ (A : Option Addr) (n c : Nat) (S : Nat → Prop) (w' : World), Byt w' S (.slice A n c) d.bs → n = d.bs.length → Calls Try.prog 58 #[.slice A n c] w' fun e w'' => ∃ v, e = .returned (.tuple #[v, .int .i64 ((jnRead d.bs).2.1 : Int), .int .i64 (jnRead d.bs).2.2]) ∧ Lst w'' (w'.heap.size + 1) (fun b => w'.heap.size + 1 ≤ b) v (jnRead d.bs).1 ∧ Only none_ w' w'') := by
    intro A n c S w' hb hn
    subst hn
    exact read7 A c d.bs S w' hb hml
  rw [hR] at hle hct hko
  rw [hR] at HQ
  obtain ⟨l, n, k⟩ := R
  dsimp only at HQ hle hct hko
  have HR := Lib.hid HRD
  obtain ⟨L, hL⟩ : ∃ L, d.bs.length = L := ⟨_, rfl⟩
  have HL := Lib.hid hL
  rw [hL] at hle hml
  subst hko
  by_cases hs : n < L
  · have hsb : decide ((n : Int) < (L : Int)) = true := by simp; omega
    have HT := fun (w' : World) (v' : Value) (h' : Dsk B g d v' w') => disk_trim B g n d v' w' h'
    have hf0 : (if (n : Int) < 0 ∨ (d.bs.length : Int) < (n : Int) then (2 : Int) else 0) = 0 := if_neg (by rw [hL]; omega)
    simp only [hf0, Int.toNat_natCast] at HT
    have hcc : chCode d 0 = 0 := by simp [chCode, hon1, hfo]
    have e1 : Hid (opD d = chD d 0 (dTrim n (burnt d)) ∧ (jnRead d.bs).1 = l) := by
      refine ⟨?_, by rw [hR]⟩
      simp only [opD, hon1, hR, hL]; simp [hs]
    rw [hcc] at HT
    have HTT := Lib.hid HT
    clear h HRD hml hon1 hR hle hct HT hf0 hfo hcc hL
    go_enter Try.func32, Try.ntmps32
    go_wp2_with (first
      | (go_at_call 57; refine HR.out.mono ?_; rintro e w1 ⟨⟨A1, n1, c1, rfl, own1⟩, o1⟩
         obtain rfl : n1 = L := by rw [own_len own1]; exact HL.out
         have B1 := Lib.hid (Byt.of_own own1)
         have O1 := Lib.hid o1
         have N1 : Hid (w.heap.size ≤ w1.heap.size) := o1.size
         clear own1 o1)
      | (go_at_call 58; refine (HQ.out A1 _ c1 _ _ B1.out HL.out.symm).mono ?_; rintro e w2 ⟨v2, rfl, l2, o2⟩
         obtain ⟨A2, c2, rfl⟩ := l2.shape
         have L2 : Hid (Lst w2 w.heap.size (fun b => w.heap.size ≤ b ∧ b < w2.heap.size) (.slice A2 l.length c2) l ∧ w.heap.size ≤ w2.heap.size) :=
           ⟨(l2.based (by have := N1.out; omega)).mono (fun b hlt hb => ⟨by have hb' : w1.heap.size + 1 ≤ b := hb; have := N1.out; omega, hlt⟩), (O1.out.trans o2).size⟩
         have O2 := Lib.hid (O1.out.trans o2)
         have D2 := Lib.hid (H.out.keep O2.out)
         clear l2 o2)
      | (go_at_call 59; refine (HTT.out _ _ D2.out).mono ?_; rintro e w3 ⟨rfl, l3⟩
         obtain ⟨v3, d3, o3, m3⟩ := l3
         have L3 := Lib.hid (L2.out.1.only o3 (fun b hb hf => by have h1 := H.out.foot_lt hf; have h2 := (L2.out.1.own_lt b hb).1; omega) (fun b hb hf => by have h1 := H.out.foot_lt hf; have h2 := hb.1; omega))
         have N3 : Hid (w2.heap.size ≤ w3.heap.size) := o3.size
         have D3 := Lib.hid d3
         have O3 := Lib.hid (O2.out.of_none.trans' o3 (fun k _ h => h))
         have M3 := Lib.hid m3
         clear d3 o3 m3))
    refine bodyPost_ret (v := .tuple #[.pointer (some ⟨w3.heap.size, 0, none⟩), .slice A2 l.length c2, .int .i64 0]) (by simp [results, Try.results32, go_sem]) rfl ?_
    have oa := (Only.refl none_ w3).alloc (.cells (jnCells (.pointer (some ⟨g, 0, none⟩)) (.int .i64 (l.length : Int))) 126)
    rw [e1.out.1, e1.out.2]
    refine ⟨_, w2.heap.size, _, v3, rfl, L2.out.2, N3.out, by rw [World.size_alloc]; omega, Jn.new _ _ _, L3.out.keep oa, fun k hk => (L2.out.1.own_lt k hk).2, D3.out.keep oa, O3.out.trans' oa (fun _ _ h => h.elim), fun k hk => M3.out k hk⟩
  · have hnL : n = L := by omega
    have hsb : decide ((n : Int) < (L : Int)) = false := by simp; omega
    have e1 : Hid (opD d = d ∧ (jnRead d.bs).1 = l) := by
      refine ⟨?_, by rw [hR]⟩
      simp only [opD, hon1, hR, hL]; simp [hs]
    clear h HRD hml hon1 hR hle hct hL hnL hfo
    go_enter Try.func32, Try.ntmps32
    go_wp2_with (first
      | (go_at_call 57; refine HR.out.mono ?_; rintro e w1 ⟨⟨A1, n1, c1, rfl, own1⟩, o1⟩
         obtain rfl : n1 = L := by rw [own_len own1]; exact HL.out
         have B1 := Lib.hid (Byt.of_own own1)
         have O1 := Lib.hid o1
         have N1 : Hid (w.heap.size ≤ w1.heap.size) := o1.size
         clear own1 o1)
      | (go_at_call 58; refine (HQ.out A1 _ c1 _ _ B1.out HL.out.symm).mono ?_; rintro e w2 ⟨v2, rfl, l2, o2⟩
         obtain ⟨A2, c2, rfl⟩ := l2.shape
         have L2 : Hid (Lst w2 w.heap.size (fun b => w.heap.size ≤ b ∧ b < w2.heap.size) (.slice A2 l.length c2) l ∧ w.heap.size ≤ w2.heap.size) :=
           ⟨(l2.based (by have := N1.out; omega)).mono (fun b hlt hb => ⟨by have hb' : w1.heap.size + 1 ≤ b := hb; have := N1.out; omega, hlt⟩), (O1.out.trans o2).size⟩
         have O2 := Lib.hid (O1.out.trans o2)
         have D2 := Lib.hid (H.out.keep O2.out)
         clear l2 o2))
    refine bodyPost_ret (v := .tuple #[.pointer (some ⟨w2.heap.size, 0, none⟩), .slice A2 l.length c2, .int .i64 0]) (by simp [results, Try.results32, go_sem]) rfl ?_
    have oa := (Only.refl none_ w2).alloc (.cells (jnCells (.pointer (some ⟨g, 0, none⟩)) (.int .i64 (l.length : Int))) 126)
    rw [e1.out.1, e1.out.2]
    exact ⟨_, w2.heap.size, _, v, rfl, L2.out.2, Nat.le_refl _, by rw [World.size_alloc]; omega, Jn.new _ _ _, L2.out.1.keep oa, fun k hk => (L2.out.1.own_lt k hk).2, D2.out.keep oa, (O2.out.trans oa).of_none, fun k hk => .inl hk⟩
end Go.Proofs.Ytbhdnhnkiibaaaa
namespace Go.Proofs.Ytbhdnhnkiibaaaa
open Go.RowKit
set_option maxRecDepth 100000
set_option linter.all false

theorem Jn.foot {W w : World} {g j : Nat} {n : Int} {D : Dv} {v : Value} (d : Dsk W g D v w) (h : Jn w j g n) : ¬ foot g v j := by
  rintro (e | e)
  · rcases h with h | h
    · exact Blk.ne_ h d.bk (by decide) e
    · exact Blk.ne_ h d.bk (by decide) e
  · rcases h with h | h
    · exact own_blk_ne d.ow h (by decide) e
    · exact own_blk_ne d.ow h (by decide) e
theorem byt_across {W w w' : World} {x : Value} {bs : List UInt8} (h : Byt w (fun b => b < W.heap.size) x bs) (o1 : Only none_ W w) (o2 : Only none_ W w') : Byt w' (fun b => b < W.heap.size) x bs := by
  obtain ⟨A, c, rfl, h1, h2, h3, h4⟩ := h
  refine ⟨A, c, rfl, h1, h2, h3, fun hp => ?_⟩
  obtain ⟨b, off, rfl, hs, hlt, hc⟩ := h4 hp
  exact ⟨b, off, rfl, hs, Nat.lt_of_lt_of_le hs o2.size, fun j hj => (o2.cell (p := ⟨b, off + j, none⟩) hs (fun h => h)).trans ((o1.cell (p := ⟨b, off + j, none⟩) hs (fun h => h)).symm.trans (hc j hj))⟩

/-- What an opening of a disk with just these records is. -/
theorem open_of (W : World) (g : Nat) (l : List (List UInt8)) (h : ∀ r ∈ l, Rok r) (v : Value) (w : World) (hd : Dsk W g (dvOf l) v w) :
    Calls Try.prog 32 #[.pointer (some ⟨g, 0, none⟩)] w fun e w' => ∃ j vg, e = .returned (.tuple #[.pointer (some ⟨j, 0, none⟩), vg, .int .i64 0]) ∧ w.heap.size ≤ j ∧ Jn w' j g (l.length : Int) ∧ Lst w' w.heap.size (fun b => w.heap.size ≤ b) vg l ∧
      ∃ v', Dsk W g (dvOf l) v' w' ∧ Only (foot g v) w w' ∧ Moved w v v' := by
  obtain ⟨e1, e2, e3⟩ := open_all l h
  refine (open_any W g (dvOf l) v w hd).mono ?_
  rintro e w' ⟨vj, vl, rfl, ho, lf⟩
  rw [e2] at lf
  rcases ho with ⟨h0, _⟩ | ⟨_, j, rfl, hj, hjn, hl⟩
  · exact absurd e1 h0
  · rw [e3] at hjn hl
    exact ⟨j, vl, by rw [e1], hj, hjn, hl, lf⟩
theorem add_of (W : World) (g j : Nat) (l : List (List UInt8)) (b : List UInt8) (hl : (flatB l).length + 522 ≤ 1048576) (hc : l.length ≤ 1000000) (v x : Value) (S : Nat → Prop) (w : World) (hd : Dsk W g (dvOf l) v w) (hj : Jn w j g (l.length : Int)) (hx : Byt w S x b) (hS : ∀ b, S b → b ≠ g ∧ b ≠ j) (hB : W.heap.size ≤ j) (hf : ¬ foot g v j) :
    Calls Try.prog 34 #[.pointer (some ⟨j, 0, none⟩), x] w fun e w' => e = .returned (.int .i64 (recCode b.length)) ∧ ∃ v', Dsk W g (if recCode b.length = 0 then dvOf (l ++ [b]) else dvOf l) v' w' ∧ Only (fun k => foot g v k ∨ k = j) w w' ∧ Moved w v v' := by
  obtain ⟨e1, e2⟩ := add_all l b hl
  refine (add_any W g j (l.length : Int) (dvOf l) v x b S w hd hj hx hS hB hf (by omega) (by omega)).mono ?_
  rintro e w' ⟨rfl, v', d', j', o', m', _⟩
  rw [e2] at d'
  exact ⟨by rw [e1], v', d', o', m'⟩

end Go.Proofs.Ytbhdnhnkiibaaaa
namespace Go.Proofs.Ytbhdnhnkiibaaaa
open Go.RowKit
set_option maxRecDepth 100000
set_option linter.all false

set_option maxHeartbeats 800000 in
theorem jk_long (x y : Value) (l : List (List UInt8)) (more : List UInt8) (fuse keep : Int) (W : World) (hl : Rows_ W (fun b => b < W.heap.size) x l) (hm : Byt W (fun b => b < W.heap.size) y more) (h : fewR l = false ∨ 600 < more.length) :
    Calls Try.prog 7 #[x, .int .i64 fuse, .int .i64 keep, y] W fun e w' => e = .returned (.bool true) ∧ Below W.heap.size W w' := by
  have HL := Lib.hid (fun (w : World) (o : Only none_ W w) => rows_few x l _ w (hl.only o (fun _ _ h => h)))
  obtain ⟨A, c, rfl⟩ : ∃ A c, x = .slice A l.length c := by obtain ⟨A, c, h, _⟩ := hl; exact ⟨A, c, h⟩
  obtain ⟨Am, cm, rfl⟩ := byt_shape hm
  obtain ⟨L, hL⟩ : ∃ L, l.length = L := ⟨_, rfl⟩
  obtain ⟨M, hM⟩ : ∃ L, more.length = L := ⟨_, rfl⟩
  rw [hL] at HL ⊢
  rw [hM] at h ⊢
  have tokA : True := trivial
  clear hl hm hL hM
  by_cases h1 : fewR l = true
  · have h2 : 600 < M := h.resolve_left (by rw [h1]; decide)
    rw [h1] at HL
    clear h h1
    go_enter Try.func7, Try.ntmps7
    go_wp2_with (first
      | (go_at_call 29; have _t := tokA; clear tokA; refine (j_speaks _).mono ?_; rintro E w1 ⟨rfl, o1⟩; have O1 := Lib.hid o1; clear o1; have tokB : True := trivial)
      | (go_at_call 30; refine (HL.out _ O1.out).mono ?_; rintro E w8 ⟨rfl, rfl⟩)
      | (go_at_call 29; have _t := tokB; clear tokB; refine (j_speaks _).mono ?_; rintro E w2 ⟨rfl, o2⟩; have O2 := Lib.hid (O1.out.trans o2); clear o2))
    go_ret
    exact ⟨rfl, O2.out.below (Nat.le_refl _) (fun k hk => hk.elim)⟩
  · have h1' : fewR l = false := by simpa using h1
    rw [h1'] at HL
    clear h h1 h1'
    go_enter Try.func7, Try.ntmps7
    go_wp2_with (first
      | (go_at_call 29; have _t := tokA; clear tokA; refine (j_speaks _).mono ?_; rintro E w1 ⟨rfl, o1⟩; have O1 := Lib.hid o1; clear o1; have tokB : True := trivial)
      | (go_at_call 30; refine (HL.out _ O1.out).mono ?_; rintro E w8 ⟨rfl, rfl⟩)
      | (go_at_call 29; have _t := tokB; clear tokB; refine (j_speaks _).mono ?_; rintro E w2 ⟨rfl, o2⟩; have O2 := Lib.hid (O1.out.trans o2); clear o2))
    go_ret
    exact ⟨rfl, O2.out.below (Nat.le_refl _) (fun k hk => hk.elim)⟩

/-- A list of rows has no part in a disk, nor in a journal. -/
theorem Lst.far_foot {w : World} {base : Nat} {T : Nat → Prop} {va : Value} {l : List (List UInt8)} {B : World} {g : Nat} {D : Dv} {v : Value} (h : Lst w base T va l) (d : Dsk B g D v w) : ∀ k, va.ownBlock = some k → ¬ foot g v k := by
  obtain ⟨xs, h1, _⟩ := h
  rintro k hk (rfl | hv)
  · exact own_blk_ne h1 d.bk (by decide) hk
  · exact owns_apart h1 d.ow (by decide) k hk hv
theorem Lst.far_jn {w : World} {base : Nat} {T : Nat → Prop} {va : Value} {l : List (List UInt8)} {j g : Nat} {n : Int} (h : Lst w base T va l) (hj : Jn w j g n) : va.ownBlock ≠ some j := by
  obtain ⟨xs, h1, _⟩ := h
  rcases hj with hj | hj
  · exact own_blk_ne h1 hj (by decide)
  · exact own_blk_ne h1 hj (by decide)
/-- The disk, its journal, the records that are sure. -/
structure Jk (W : World) (g j : Nat) (f : Int) (sure : List (List UInt8)) (v va : Value) (w : World) : Prop where
  d : Dsk W g (dvF f sure) v w
  n : Jn w j g (sure.length : Int)
  a : Lst w W.heap.size (fun b => b < W.heap.size) va sure
  hj : W.heap.size ≤ j
theorem Jk.rows {W w w' : World} {g j : Nat} {f : Int} {sure : List (List UInt8)} {v va : Value} (s : Jk W g j f sure v va w) (o : Only (fun k => foot g v k ∨ k = j) w w') : Lst w' W.heap.size (fun b => b < W.heap.size) va sure :=
  s.a.only o (fun k hk e => e.elim (fun e => s.a.far_foot s.d k hk e) (fun e => s.a.far_jn s.n (by rw [hk, e])))
    (fun b hb e => e.elim (fun e => by have := s.d.foot_ge e; omega) (fun e => by have := s.hj; omega))
/-- What an addition comes to, with a fuse. -/
theorem add_jk (W : World) (g j : Nat) (f : Int) (sure : List (List UInt8)) (b : List UInt8) (hl : (flatB sure).length + 522 ≤ 1048576) (hc : sure.length ≤ 1000000) (v va x : Value) (w : World) (s : Jk W g j f sure v va w) (hx : Byt w (fun b => b < W.heap.size) x b) :
    Calls Try.prog 34 #[.pointer (some ⟨j, 0, none⟩), x] w fun e w' => e = .returned (.int .i64 (adC b (dvF f sure))) ∧ ∃ v', Dsk W g (adD b (dvF f sure)) v' w' ∧ Jn w' j g (adN b (dvF f sure) sure.length) ∧ Lst w' W.heap.size (fun b => b < W.heap.size) va sure := by
  refine (add_any W g j (sure.length : Int) (dvF f sure) v x b _ w s.d s.n hx (fun b hb => ⟨by have h1 := s.d.ge; have hb' : b < W.heap.size := hb; omega, by have h1 := s.hj; have hb' : b < W.heap.size := hb; omega⟩) s.hj (Jn.foot s.d s.n) (by omega) (by omega)).mono ?_
  rintro e w' ⟨rfl, v', d', j', o', _⟩
  exact ⟨rfl, v', d', j', s.rows o'⟩
/-- Blocks from base to m have no part in a disk. -/
def Away (base m g : Nat) (v : Value) : Prop := ∀ b, base ≤ b → b < m → ¬ foot g v b
theorem Away.moved {base m g : Nat} {v v' : Value} {w : World} (h : Away base m g v) (mv : Moved w v v') (hm : m ≤ w.heap.size) : Away base m g v' := by
  rintro b h1 h2 (e | e)
  · exact h b h1 h2 (.inl e)
  · rcases mv b e with e | e
    · exact h b h1 h2 (.inr e)
    · omega
theorem Away.first {B w w' : World} {g j m : Nat} {d d' : Dv} {v v' vl : Value} {l : List (List UInt8)} (h : Dsk B g d v w) (f : Far_ B w w' g v d' l j m vl v') : Away w.heap.size m g v' := by
  obtain ⟨h1, h2, h3, h4, h5, h6, h7, h8, h9⟩ := f
  rintro b hb hm (e | e)
  · have := h.bk.lt; omega
  · rcases h9 b e with e | e
    · have := h.foot_lt (.inr e); omega
    · omega
theorem Lst.away {w w' : World} {base m : Nat} {vl : Value} {l : List (List UInt8)} {S : Nat → Prop} (h : Lst w base (fun b => base ≤ b ∧ b < m) vl l) (hv : ∀ k, vl.ownBlock = some k → k < m) (o : Only S w w') (hS : ∀ b, base ≤ b → b < m → ¬ S b) :
    Lst w' base (fun b => base ≤ b ∧ b < m) vl l := h.only o (fun k hk => hS k (h.own_lt k hk).1 (hv k hk)) (fun b hb => hS b hb.1 hb.2)
theorem wpList_on {P : Program} {ops : Array Oper} {rest : List Oper} {o : Oper} {a : Act} {w : World} {Q : Exit → Act → World → Prop} (hw : Region.wanted o (yielded ops a.tmps) = true)
    (h : ∀ K : Act → World → Prop, (∀ a w, wpList P ops Q rest a w → K a w) → o.wp P a w K Q) : wpList P ops Q (o :: rest) a w :=
  wpList_step fun K hK => by rw [if_pos hw]; exact h K hK
theorem wpList_append_on {P : Program} {ops : Array Oper} {rest : List Oper} {o : Oper} {a : Act} {w w' : World} {v' : Value} {Q : Exit → Act → World → Prop} (hw : Region.wanted o (yielded ops a.tmps) = true) (s x : Operand) (t t' : TypeId)
    (ho : o.op = .call { callee := .builtin .append, args := #[s, x], argTypes := #[t, t'] }) (v u : Value) (hs : a.eval s = v) (hx : a.eval x = u)
    (hr : (Builtin.append_ #[t, t'] o.type #[v, u]).run P w = .ok v' w') (h : wpList P ops Q rest (a.put o.dst v') w') : wpList P ops Q (o :: rest) a w :=
  wpList_on hw fun K hK => by
    unfold Oper.wp execOp
    simp only [ho, resolve, invoke, builtin, Sem.run_bind, Sem.run_pure, Result.andThen_ok, List.map_toArray, List.map_cons, List.map_nil, hs, hx, hr]
    exact hK _ _ h
theorem one_row (w : World) (S : Nat → Prop) (y : Value) (ps : List UInt8) (h : Byt w S y ps) (hS : S w.heap.size) : Rows_ (w.alloc (.cells #[y] 71)) S (.slice (some ⟨w.heap.size, 0, none⟩) 1 1) [ps] := rows_one h hS _ rfl
/-- What a crash and an opening come to. -/
theorem rest_of (W : World) (g : Nat) (keep : Int) (D : Dv) (sure : List (List UInt8)) (hs : ∀ r ∈ sure, Rok r) (gb : List UInt8) (h1 : D.safe = (flatB sure).length) (h2 : D.bs = flatB sure ∨ (Rok gb ∧ D.bs = flatB sure ++ recB gb)) :
    ∃ got, (got = sure ∨ (Rok gb ∧ got = sure ++ [gb])) ∧
      (∀ v w, Dsk W g D v w → Calls Try.prog 37 #[.pointer (some ⟨g, 0, none⟩), .int .i64 keep] w fun e w' => (∃ q, e = .returned (.int .i64 q)) ∧ ∃ v', Dsk W g (dCrash keep D) v' w' ∧ Only (foot g v) w w') ∧
      (∀ v w, Dsk W g (dCrash keep D) v w → Calls Try.prog 32 #[.pointer (some ⟨g, 0, none⟩)] w fun e w' => ∃ j m vl v', e = .returned (.tuple #[.pointer (some ⟨j, 0, none⟩), vl, .int .i64 0]) ∧ Far_ W w w' g v (dvOf got) got j m vl v') := by
  obtain ⟨got, hg, hc, hd, hr⟩ := crash_open D sure hs gb h1 h2 keep
  refine ⟨got, hg, fun v w h => ?_, fun v w h => ?_⟩
  · refine (disk_crash W g keep D v w h).mono ?_
    rintro e w' ⟨rfl, v', d', o', _⟩
    exact ⟨⟨_, rfl⟩, v', d', o'⟩
  · have hk : (jnRead (dCrash keep D).bs).2.2 = 0 := by
      have h3 := hc
      unfold opC at h3
      rw [if_neg (by show ¬ true = false; decide)] at h3
      by_cases h0 : (jnRead (dCrash keep D).bs).2.2 = 0
      · exact h0
      · rw [if_pos h0] at h3; exact absurd h3 h0
    have := open_far W g (dCrash keep D) v w h rfl hk (by show (-1 : Int) ≠ 0; decide)
    rw [hd, hr] at this
    exact this
theorem crash_zero (W : World) (g : Nat) (l : List (List UInt8)) (v : Value) (w : World) (h : Dsk W g (dvOf l) v w) :
    Calls Try.prog 37 #[.pointer (some ⟨g, 0, none⟩), .int .i64 0] w fun e w' => (∃ q, e = .returned (.int .i64 q)) ∧ ∃ v', Dsk W g (dvOf l) v' w' ∧ Only (foot g v) w w' ∧ Moved w v v' := by
  refine (disk_crash W g 0 (dvOf l) v w h).mono ?_
  rintro e w' ⟨rfl, v', d', o', m'⟩
  have e1 : dCrash 0 (dvOf l) = dvOf l := by
    have hst : stay (dvOf l) 0 = 0 := by simp [stay]
    rw [dCrash, hst, Nat.add_zero]
    show (⟨true, -1, (flatB l).take (flatB l).length, (flatB l).length⟩ : Dv) = dvOf l
    rw [List.take_of_length_le (Nat.le_refl _)]
    rfl
  rw [e1] at d'
  exact ⟨⟨_, rfl⟩, v', d', o', m'⟩


set_option maxHeartbeats 25600000 in
theorem jk_yes (x y : Value) (l : List (List UInt8)) (more : List UInt8) (fuse keep : Int) (W : World) (hl : Rows_ W (fun b => b < W.heap.size) x l) (hm : Byt W (fun b => b < W.heap.size) y more) (fl : fewR l = true) (fm : more.length ≤ 600)
    (hf1 : -9223372036854775808 ≤ fuse) (hf2 : fuse < 9223372036854775808) :
    Calls Try.prog 7 #[x, .int .i64 fuse, .int .i64 keep, y] W fun e w' => e = .returned (.bool true) ∧ Below W.heap.size W w' := by
  have HL := Lib.hid (fun (w : World) (o : Only none_ W w) => rows_few x l _ w (hl.only o (fun _ _ h => h)))
  rw [fl] at HL
  have hl2 := (fewR_yes fl).2
  have HRX := Lib.hid hl
  have HMB := Lib.hid hm
  obtain ⟨A, c, rfl⟩ : ∃ A c, x = .slice A l.length c := by obtain ⟨A, c, h, _⟩ := hl; exact ⟨A, c, h⟩
  obtain ⟨Am, cm, rfl⟩ := byt_shape hm
  obtain ⟨L, hL⟩ : ∃ L, l.length = L := ⟨_, rfl⟩
  obtain ⟨Lm, hLm⟩ : ∃ L, more.length = L := ⟨_, rfl⟩
  have HLL := Lib.hid hL
  have HLM := Lib.hid hLm
  rw [hL] at HL HRX hl2 ⊢
  rw [hLm] at HMB fm ⊢
  obtain ⟨zm, hzm⟩ : ∃ z, recCode Lm = z := ⟨_, rfl⟩
  have HZM : Hid (recCode Lm = zm) := hzm
  have HZMM : Hid (recCode more.length = zm) := by rw [hLm]; exact hzm
  have HOP0 := Lib.hid (fun (g : Nat) (v : Value) (w : World) (hd : Dsk W g (dvOf []) v w) => open_of W g [] (by simp) v w hd)
  have HF := Lib.hid (And.intro hf1 hf2)
  have hfm : ¬ (Lm > 600) := by omega
  clear hl hm hL fl hLm hzm hf1 hf2 fm
  go_enter Try.func7, Try.ntmps7
  go_wp2_with (first
    | (go_at_call 29; refine (j_speaks _).mono ?_; rintro E w0 ⟨rfl, o0⟩; have O0 := Lib.hid o0; clear o0)
    | (go_at_call 30; refine (HL.out _ O0.out).mono ?_; rintro E w8 ⟨rfl, rfl⟩)
    | (go_at_call 31; refine (disk_new W _ O0.out).mono ?_; rintro E w1 ⟨g, rfl, hg, d1, o1⟩
       have D1 := Lib.hid d1
       have G1 : Hid (W.heap.size ≤ g ∧ W.heap.size ≤ w1.heap.size) := ⟨Nat.le_trans O0.out.size hg, (O0.out.trans o1).size⟩
       clear hg d1 o1)
    | (go_at_call 32; refine (HOP0.out _ _ _ D1.out).mono ?_; rintro E w2 ⟨jj, vg, rfl, hj1, hjn, hlg, v2, d2, o2, m2⟩
       obtain ⟨Ag, cg, hvg⟩ := hlg.shape
       subst hvg
       have JB : Hid (W.heap.size ≤ jj) := by have := G1.out.2; simp only [Hid]; omega
       have D2 := Lib.hid d2
       have N2 := Lib.hid hjn
       clear hj1 hjn hlg d2 o2 m2)
    | (go_at_call 33; refine (power_fuse W g fuse (dvOf []) _ _ D2.out HF.out.1 HF.out.2).mono ?_; rintro E w3 ⟨rfl, d3, o3⟩
       have J3 : Hid (Jk W g jj fuse [] v2 (.slice none 0 0) w3) := ⟨d3, N2.out.only o3 (fun e => Jn.foot D2.out N2.out (.inl e)), Lst.nil _ _ _, JB.out⟩
       clear d3 o3))
  clear HL HOP0 HF D1 D2 N2 O0
  go_loopw [13, 14, 60] (fun va vg k wr => ∃ j : Nat, j ≤ L ∧ k = .int .i64 j ∧ vg = .slice none 0 0 ∧ ∃ f v, Jk W g jj f (okL (l.take j)) v va wr) (fun _ _ k _ => L - (intOf k).toNat)
  case atStart => exact ⟨0, by omega, rfl, rfl, fuse, v2, by simpa [okL] using J3.out⟩
  case round =>
    clear J3
    obtain ⟨j, hj, rfl, rfl, f, v, s⟩ := hrel
    obtain ⟨sure, hok⟩ : ∃ z, okL (l.take j) = z := ⟨_, rfl⟩
    have hrok : ∀ r ∈ sure, Rok r := hok ▸ okL_ok _
    have hcnt : sure.length ≤ 20 := by
      have h1 := okL_len (l.take j)
      rw [hok, List.length_take] at h1
      have := HLL.out; omega
    have hfl : (flatB sure).length ≤ 10440 := by have := flatB_le sure hrok; omega
    rw [hok] at s
    obtain ⟨Aa, ca, rfl⟩ := s.a.shape
    obtain ⟨Ns, hNs⟩ : ∃ N, sure.length = N := ⟨_, rfl⟩
    have HNS := Lib.hid hNs
    rw [hNs] at s hcnt ⊢
    have S0 := Lib.hid s
    have HFL := Lib.hid hfl
    have HCN := Lib.hid hcnt
    by_cases hlt : j < L
    · obtain ⟨b0, off, Av, Lv, cv, rfl, hSb, hb0, hc, hp, hL1, hB1⟩ := rows_cell HRX.out j hlt
      have hcell := (s.d.ho.cell (p := ⟨b0, off + j, none⟩) hb0 (fun h => h)).trans hc
      have hsn := okL_snoc l j hp
      rw [hok] at hsn
      obtain ⟨bb, hbb⟩ : ∃ z, l[j] = z := ⟨_, rfl⟩
      rw [hbb] at hsn hL1 hB1
      have HB1 := Lib.hid hB1
      have HSN := Lib.hid hsn
      have HLV : Hid (recCode bb.length = recCode Lv) := by rw [hL1]; rfl
      have HAD := Lib.hid (add_jk W g jj f sure bb (by omega) (by omega) v _ (.slice Av Lv cv) wr s (hB1.only s.d.ho (fun _ _ h => h)))
      rcases add_fuse f sure bb (by omega) with ⟨q1, q2, q3⟩ | ⟨q1, q2, f', q3, q4⟩ | ⟨q1, q2, q3, q4, q5⟩
      · have hzz : recCode bb.length = 1 ∨ recCode bb.length = 7 := by unfold recCode at q1 ⊢; split <;> (try split) <;> simp_all
        obtain ⟨z, hz⟩ : ∃ z, recCode Lv = z := ⟨_, rfl⟩
        have hzv : recCode bb.length = z := HLV.out.trans hz
        have HZ := Lib.hid hz
        rw [hzv] at hzz q2 q1
        have hz0 : (z == 0) = false := by simpa using q1
        have hz11 : (z == 11) = false := by rcases hzz with h | h <;> rw [h] <;> decide
        have hzz2 : (z != z) = false := by simp
        have HPO := Lib.hid (fun (w : World) (v : Value) (h : Dsk W g (dvF f sure) v w) => power_on W g (dvF f sure) v w h)
        have QE : Hid (adN bb (dvF f sure) (sure.length : Int) = sure.length ∧ adC bb (dvF f sure) = z ∧ adD bb (dvF f sure) = dvF f sure) := ⟨by rw [adN, q2, if_neg q1], q2, q3⟩
        have HQ1 : Hid (recCode bb.length ≠ 0) := by rw [Hid, hzv]; exact q1
        have eon : (dvF f sure).on = true := rfl
        rw [eon] at HPO
        clear s hrok hfl hcnt hsn hB1 hL1 hbb hp hok hc hSb hb0 hz q1 q2 q3 hzz hzv eon hNs
        go_wp2_with (first
          | (go_at_call 34; refine HAD.out.mono ?_; rw [QE.out.2.1, QE.out.2.2, QE.out.1]; rintro E w4 ⟨rfl, v4, d4, n4, a4⟩
             have S4 : Hid (Jk W g jj f sure v4 (.slice Aa Ns ca) w4) := ⟨d4, n4, a4, JB.out⟩
             clear d4 n4 a4)
          | (go_at_call 35; refine (rf_check7 _ _ _ _).mono ?_; rw [HZ.out]; rintro E w9 ⟨rfl, rfl⟩)
          | (go_at_call 36; refine (HPO.out _ _ S4.out.d).mono ?_; rintro E w9 ⟨rfl, rfl⟩))
        go_roundw
        case rel =>
          have e := HSN.out
          rw [if_neg HQ1.out] at e
          refine ⟨j + 1, by omega, by go_num, rfl, f, v4, ?_⟩
          rw [e]; exact S4.out
        case measure => simp [intOf]; omega
      · have hzv : recCode bb.length = 0 := (rok_iff bb).2 q1
        have HPO := Lib.hid (fun (w : World) (v : Value) (h : Dsk W g (dvF f' (sure ++ [bb])) v w) => power_on W g (dvF f' (sure ++ [bb])) v w h)
        have QE : Hid (adN bb (dvF f sure) (sure.length : Int) = ((sure ++ [bb]).length : Int) ∧ adC bb (dvF f sure) = 0 ∧ adD bb (dvF f sure) = dvF f' (sure ++ [bb])) := ⟨by rw [adN, q2, if_pos rfl]; simp, q2, q4⟩
        have HQ1 : Hid (recCode bb.length = 0) := hzv
        have eon : (dvF f' (sure ++ [bb])).on = true := rfl
        rw [eon] at HPO
        have hcn2 : sure.length ≤ 2000000 := by omega
        clear s hrok hfl hcnt hsn hB1 hL1 hbb hp hok hc hSb hb0 q1 q2 q3 q4 hzv eon hNs
        go_wp2_with (first
          | (go_at_call 34; refine HAD.out.mono ?_; rw [QE.out.2.1, QE.out.2.2, QE.out.1]; rintro E w4 ⟨rfl, v4, d4, n4, a4⟩
             have D4 := Lib.hid d4
             have N4 := Lib.hid n4
             have A4 := Lib.hid a4
             have hb4 : W.heap.size ≤ w4.heap.size := d4.ho.size
             have X4 : Hid (Byt w4 (fun b => b < W.heap.size ∧ (Value.slice Aa Ns ca).ownBlock ≠ some b) (.slice Av Lv cv) bb) := (HB1.out.only d4.ho (fun _ _ h => h)).mono (fun b _ hb => ⟨hb, fun e => by have h1 := (A4.out.own_lt b e).1; have hb' : b < W.heap.size := hb; omega⟩)
             clear d4 n4 a4)
          | (at_builtin; refine wpList_append_lst w4 rfl (.tmp 74) (.tmp 76) rfl W.heap.size _ _ sure rfl A4.out _ _ rfl X4.out hb4 hcn2 ?_
             intro A6 n6 c6 w6 hl6 ho6 hm6
             have S6 : Hid (Jk W g jj f' (sure ++ [bb]) v4 (.slice A6 n6 c6) w6) := ⟨D4.out.apart ho6 (fun k hk e => A4.out.far_foot D4.out k e hk) (fun k e => (A4.out.own_lt k e).1), N4.out.only ho6 (fun e => A4.out.far_jn N4.out e), hl6, JB.out⟩
             clear hl6 ho6 hm6)
          | (go_at_call 36; refine (HPO.out _ _ S6.out.d).mono ?_; rintro E w9 ⟨rfl, rfl⟩))
        go_roundw
        case rel =>
          have e := HSN.out
          rw [if_pos HQ1.out] at e
          refine ⟨j + 1, by omega, by go_num, rfl, f', v4, ?_⟩
          rw [e]; exact S6.out
        case measure => simp [intOf]; omega
      · obtain ⟨D, hD⟩ : ∃ D, adD bb (dvF f sure) = D := ⟨_, rfl⟩
        rw [hD] at q3 q4 q5
        obtain ⟨gb, hgb⟩ : ∃ gb, bb = gb := ⟨_, rfl⟩
        obtain ⟨got, hgot, hcr, hop⟩ := rest_of W g keep D sure hrok gb q4 (q5.imp id (fun h => ⟨hgb ▸ q1, hgb ▸ h⟩))
        have HCR := Lib.hid hcr
        have HOP := Lib.hid hop
        have QE : Hid (adC bb (dvF f sure) = 11 ∧ adD bb (dvF f sure) = D) := ⟨q2, hD⟩
        have HPO := Lib.hid (fun (w : World) (v : Value) (h : Dsk W g D v w) => power_on W g D v w h)
        rw [q3] at HPO
        have GB : Hid (Byt W (fun b => b < W.heap.size) (.slice Av Lv cv) gb) := hgb ▸ hB1
        have hLv : (Lv : Int) ≠ 0 := by have := q1.1; omega
        have hLv0 : ((Lv : Int) == 0) = false := by simpa using hLv
        have hLv1 : ¬ (Lv = 0) := by omega
        have tokC : True := trivial
        rcases hgot with hgot | ⟨hrg, hgot⟩
        · obtain ⟨Ng, hNg, hNN1⟩ : ∃ N, got.length = N ∧ N = Ns := ⟨Ns, by rw [hgot, hNs], rfl⟩
          have hgok : ∀ r ∈ got, Rok r := by rw [hgot]; exact hrok
          have htk : got.take Ns = sure := by rw [hgot, List.take_of_length_le (by omega)]
          have hA1 : ¬ (Ns < Ng) := by omega
          have hA2 : ¬ (Ng < Ns) := by omega
          have hA3 : ¬ ((Ns : Int) + 1 < (Ng : Int)) := by omega
          have hA4 : ¬ ((Ns : Int) < (Ng : Int)) := by omega
          have hA5 : decide ((Ns : Int) < (Ng : Int)) = false := by simp; omega
          have hA6 : IntKind.i64.wrap ((Ns : Int) + 1) = (Ns : Int) + 1 := IntWalk.i64_in _ (by omega)
          have HLE : Hid (Ns ≤ got.length ∧ Ns ≤ Ng) := by simp only [Hid]; omega
          have HNG : Hid (got.length = Ng) := hNg
          have HFG : Hid ((flatB got).length + 522 ≤ 1048576 ∧ got.length ≤ 1000000) := by have h1 := flatB_le got hgok; simp only [Hid]; omega
          have HSM : Hid (∀ (p q : Value) (S T : Nat → Prop) (w : World), Rows_ w S p (got.take Ns) → Rows_ w T q sure → Calls Try.prog 39 #[p, q] w fun e w' => e = .returned (.bool true) ∧ Only none_ w w') := by
            intro p q S T w h1 h2
            have := rf_same p q _ _ S T w h1 h2
            rw [htk] at this
            simpa using this
          have HSM2 : Hid (∀ (p q : Value) (S T : Nat → Prop) (w : World), Rows_ w S p (got ++ [more]) → Rows_ w T q ([] ++ got ++ [more]) → Calls Try.prog 39 #[p, q] w fun e w' => e = .returned (.bool true) ∧ Only none_ w w') := by
            intro p q S T w h1 h2
            have := rf_same p q _ _ S T w h1 h2
            simpa using this
          have hNN : ((Ng : Int) != (Ng : Int)) = false := by simp
          have HROK := Lib.hid hgok
          obtain ⟨N8, hN8⟩ : ∃ N, (got ++ [more]).length = N := ⟨_, rfl⟩
          have HN8 := Lib.hid hN8
          clear hN8
          by_cases hz0 : zm = 0
          · have hzb : (zm == 0) = true := by simpa using hz0
            have hzn : (zm != 0) = false := by simpa using hz0
            have HROK2 : Hid (∀ r ∈ got ++ [more], Rok r) := by intro r hr; rcases List.mem_append.1 hr with h | h; exact HROK.out r h; have e : r = more := (by simpa using h); rw [e]; exact (rok_iff more).1 (HZMM.out.trans hz0)
            have HZ0 := Lib.hid hz0
            clear s hrok hfl hcnt hsn hB1 hL1 hbb hp hok hc hSb hb0 q1 q2 q3 q4 q5 hD hgb hcr hop hNs hLv hz0 hNg hgok htk hgot hNN1
            go_wp2_with (first
              | (go_at_call 34; have _t := tokC; refine HAD.out.mono ?_; rw [QE.out.1, QE.out.2]; rintro E w2 ⟨rfl, v2', d2, n2, a2⟩
                 have D2 := Lib.hid d2
                 have A2 := Lib.hid a2
                 clear d2 n2 a2)
              | (go_at_call 36; refine (HPO.out _ _ D2.out).mono ?_; rintro E w9 ⟨rfl, rfl⟩)
              | (go_at_call 37; have _t := tokC; clear tokC; refine (HCR.out _ _ D2.out).mono ?_; rintro E w3 ⟨⟨q, rfl⟩, v3, d3, o3⟩
                 have D3 := Lib.hid d3
                 have A3 : Hid (Lst w3 W.heap.size (fun b => b < W.heap.size) (.slice Aa Ns ca) sure) := A2.out.only o3 (fun k hk e => A2.out.far_foot D2.out k hk e) (fun b hb e => by have := D2.out.foot_ge e; omega)
                 clear d3 o3
                 have tokD : True := trivial)
              | (go_at_call 32; have _t := tokD; clear tokD; refine (HOP.out _ _ D3.out).mono ?_; rintro E w4 ⟨j4, m4, vl4, v4, rfl, f4⟩
                 have F4 := Lib.hid f4
                 have AW4 := Lib.hid (Away.first D3.out f4)
                 obtain ⟨h41, h42, h43, hjn4, hl4, hv4, d4, o4, hm4⟩ := f4
                 obtain ⟨Ag, cg, hvg⟩ := hl4.shape
                 rw [HNG.out] at hvg
                 subst hvg
                 have D4 := Lib.hid d4
                 have J4 := Lib.hid hjn4
                 have L4 : Hid (Lst w4 w3.heap.size (fun b => w3.heap.size ≤ b ∧ b < m4) (.slice Ag Ng cg) got ∧ (∀ k, (Value.slice Ag Ng cg).ownBlock = some k → k < m4) ∧ m4 ≤ j4 ∧ m4 ≤ w4.heap.size) := ⟨hl4, hv4, h42, by simp only [Hid] at *; omega⟩
                 have A4 : Hid (Lst w4 W.heap.size (fun b => b < W.heap.size) (.slice Aa Ns ca) sure) := A3.out.only o4 (fun k hk e => A3.out.far_foot D3.out k hk e) (fun b hb e => by have := D3.out.foot_ge e; omega)
                 have HI := lst_hi hl4 Ns HLE.out.1 (Ns : Int) rfl
                 have hsl := HI.1
                 have R4 := Lib.hid HI.2
                 have RA4 := Lib.hid A4.out.rows
                 clear h41 h42 h43 hjn4 hl4 hv4 d4 o4 hm4 HI
                 have tokE : True := trivial)
              | (go_at_call 38; refine (jn_len _ _ _ _ J4.out).mono ?_; rw [HNG.out]; rintro E w9 ⟨rfl, rfl⟩)
              | (go_at_call 39; have _t := tokE; clear tokE; refine (HSM.out _ _ _ _ _ R4.out RA4.out).mono ?_; rintro E w5 ⟨rfl, o5⟩
                 have D5 := Lib.hid (D4.out.keep o5)
                 have J5 := Lib.hid (J4.out.only o5 (fun h => h))
                 have L5 := Lib.hid (L4.out.1.keep o5)
                 have HS5 : Hid (m4 ≤ w5.heap.size) := Nat.le_trans L4.out.2.2.2 o5.size
                 clear o5))
            go_quiet (fail)
            go_wp2_with (first
              | (go_at_call 35; refine (rf_check7 _ _ _ _).mono ?_; rw [HZM.out]; rintro E w9 ⟨rfl, rfl⟩)
              | (go_at_call 34; refine (add_of W g j4 got more HFG.out.1 HFG.out.2 _ _ _ _ (Dsk.drewN D5.out _) (Jn.only J5.out ((Only.refl none_ _).drewN _) (fun h => h)) (byt_across HMB.out (Only.refl _ _) (Dsk.drewN D5.out _).ho) (fun b hb => ⟨by have := G1.out; have hb' : b < W.heap.size := hb; omega, by have h1 := F4.out.1; have h2 := F4.out.2.1; have h3 := D3.out.ho.size; have hb' : b < W.heap.size := hb; omega⟩) (by have h1 := F4.out.1; have h2 := F4.out.2.1; have h3 := D3.out.ho.size; omega) (Jn.foot D5.out J5.out)).mono ?_; rw [HZMM.out]; rintro E w6 ⟨rfl, v6, d6, o6, m6⟩
                 rw [if_pos HZ0.out] at d6
                 have D6 := Lib.hid d6
                 have L6 := Lib.hid ((L5.out.keep ((Only.refl none_ _).drewN _)).away L4.out.2.1 o6 (fun b h1 h2 e => e.elim (fun e => AW4.out b h1 h2 e) (fun e => by have := L4.out.2.2.1; omega)))
                 have AW6 : Hid (Away w3.heap.size m4 g v6) := AW4.out.moved m6 HS5.out
                 have HS6 : Hid (m4 ≤ w6.heap.size) := Nat.le_trans HS5.out o6.size
                 have tokF : True := trivial
                 clear d6 o6 m6)
              | (go_at_call 37; have _t := tokF; clear tokF; refine (crash_zero W g _ _ _ D6.out).mono ?_; rintro E w7 ⟨⟨q7, rfl⟩, v7, d7, o7, m7⟩
                 have D7 := Lib.hid d7
                 have L7 := Lib.hid (L6.out.away L4.out.2.1 o7 AW6.out)
                 have AW7 : Hid (Away w3.heap.size m4 g v7) := AW6.out.moved m7 HS6.out
                 have HS7 : Hid (m4 ≤ w7.heap.size) := Nat.le_trans HS6.out o7.size
                 clear d7 o7 m7
                 have tokG : True := trivial)
              | (go_at_call 32; have _t := tokG; clear tokG; refine (open_of W g (got ++ [more]) HROK2.out _ _ D7.out).mono ?_; rintro E w8 ⟨j8, vg8, rfl, hj8, hjn8, hl8, v8, d8, o8, m8⟩
                 obtain ⟨A8, c8, hv8⟩ := hl8.shape
                 rw [HN8.out] at hv8
                 subst hv8
                 have D8 := Lib.hid d8
                 have L8 := Lib.hid (L7.out.away L4.out.2.1 o8 AW7.out)
                 have HS8 : Hid (m4 ≤ w8.heap.size ∧ W.heap.size ≤ w8.heap.size) := ⟨Nat.le_trans HS7.out o8.size, d8.ho.size⟩
                 have K8 := Lib.hid (hl8.rows.mono (T := fun b => b < w8.heap.size) (fun b h hb => hb))
                 obtain ⟨A9, n9, c9, w9, hrun9, hl9, ho9, hm9⟩ := run_append_rows (w8.alloc (.cells #[] 71)) 70 w8.heap.size (fun b => b < w8.heap.size) _ [] (Lst.made w8 w8.heap.size _ (Nat.le_refl _)) _ got (((L8.out.keep ((Only.refl none_ w8).alloc (.cells #[] 71))).rows.mono (T := fun b => b < w8.heap.size ∧ (Value.slice (some ⟨w8.heap.size, 0, none⟩) 0 0).ownBlock ≠ some b) (fun b h hb => by
                   have hbm : b < m4 := by
                     rcases h with h | h
                     · exact h.2
                     · exact L4.out.2.1 b h
                   have := HS8.out.1
                   exact ⟨by omega, fun e => by have e' : some w8.heap.size = some b := e; injection e' with e'; omega⟩))) (by rw [World.size_alloc]; omega) (by simp only [List.length_nil]; have := HFG.out.2; omega)
                 have hsz9 : w8.heap.size < w9.heap.size := by have := ho9.size; rw [World.size_alloc] at this; omega
                 have O9 : Hid (Only none_ w8 w9) := ((Only.refl none_ w8).alloc (.cells #[] 71)).trans' ho9 (fun k hk e => by have e' : some w8.heap.size = some k := e; injection e' with e'; omega)
                 have hrr : Rows_ (w9.alloc (.cells #[.slice Am Lm cm] 71)) (fun b => b < w8.heap.size ∨ b = w9.heap.size) (.slice (some ⟨w9.heap.size, 0, none⟩) 1 1) [more] := one_row w9 _ _ more ((byt_across HMB.out (Only.refl _ _) (D8.out.ho.trans O9.out)).mono (fun b hb h => .inl (by have := HS8.out.2; have h' : b < W.heap.size := h; omega))) (.inr rfl)
                 have lA9 : Lst (w9.alloc (.cells #[.slice Am Lm cm] 71)) w8.heap.size (fun b => b < w8.heap.size ∨ b = w9.heap.size) (.slice A9 n9 c9) ([] ++ got) := (hl9.mono (fun b _ h => .inl h)).keep ((Only.refl none_ w9).alloc _)
                 obtain ⟨A10, n10, c10, w10, hrun10, hl10, ho10, hm10⟩ := run_append_rows (w9.alloc (.cells #[.slice Am Lm cm] 71)) 70 w8.heap.size (fun b => b < w8.heap.size ∨ b = w9.heap.size) _ _ lA9 _ [more] (hrr.mono (fun b h hb => ⟨h, fun e => by
                   have e1 := hl9.own_lt b e
                   rcases h with h | h
                   · omega
                   · omega⟩)) (by rw [World.size_alloc]; omega) (by simp only [List.length_append, List.length_nil, List.length_cons]; have := HFG.out.2; omega)
                 have O10 : Hid (Only none_ w8 w10) := (O9.out.alloc (.cells #[.slice Am Lm cm] 71)).trans' ho10 (fun k hk e => by have e1 := hl9.own_lt k e; omega)
                 have K10 := Lib.hid (K8.out.only O10.out (fun _ _ h => h))
                 have R10 := Lib.hid (hl10.rows)
                 have D10 := Lib.hid (D8.out.keep O10.out)
                 have HR9 := Lib.hid hrun9
                 have HR10 := Lib.hid hrun10
                 clear hrun9 hrun10 hj8 hjn8 hl8 d8 o8 m8 hl9 ho9 hm9 lA9 hrr hl10 ho10 hm10 hsz9
                 have tokH : True := trivial
                 have tokI : True := trivial)
              | (at_builtin; have _t := tokH; refine wpList_append_on (by rfl) (.tmp 179) (.tmp 180) 70 70 rfl _ _ rfl rfl HR9.out ?_; clear tokH)
              | (at_builtin; have _t := tokI; refine wpList_append_on (by rfl) (.tmp 181) (.tmp 183) 70 70 rfl _ _ rfl rfl HR10.out ?_; clear tokI)
              | (go_at_call 39; refine (HSM2.out _ _ _ _ _ K10.out R10.out).mono ?_; rintro E w11 ⟨rfl, o11⟩
                 have D11 := Lib.hid (D10.out.keep o11)
                 clear o11))
            go_ret
            exact ⟨rfl, D11.out.ho.below (Nat.le_refl _) (fun k hk => hk.elim)⟩
          · have hzb : (zm == 0) = false := by simpa using hz0
            have hzn : (zm != 0) = true := by simpa using hz0
            have hzz : (zm == zm) = true := by simp
            have HZ0 := Lib.hid hz0
            clear s hrok hfl hcnt hsn hB1 hL1 hbb hp hok hc hSb hb0 q1 q2 q3 q4 q5 hD hgb hcr hop hNs hLv hz0 hNg hgok htk hgot hNN1
            go_wp2_with (first
              | (go_at_call 34; have _t := tokC; refine HAD.out.mono ?_; rw [QE.out.1, QE.out.2]; rintro E w2 ⟨rfl, v2', d2, n2, a2⟩
                 have D2 := Lib.hid d2
                 have A2 := Lib.hid a2
                 clear d2 n2 a2)
              | (go_at_call 36; refine (HPO.out _ _ D2.out).mono ?_; rintro E w9 ⟨rfl, rfl⟩)
              | (go_at_call 37; have _t := tokC; clear tokC; refine (HCR.out _ _ D2.out).mono ?_; rintro E w3 ⟨⟨q, rfl⟩, v3, d3, o3⟩
                 have D3 := Lib.hid d3
                 have A3 : Hid (Lst w3 W.heap.size (fun b => b < W.heap.size) (.slice Aa Ns ca) sure) := A2.out.only o3 (fun k hk e => A2.out.far_foot D2.out k hk e) (fun b hb e => by have := D2.out.foot_ge e; omega)
                 clear d3 o3
                 have tokD : True := trivial)
              | (go_at_call 32; have _t := tokD; clear tokD; refine (HOP.out _ _ D3.out).mono ?_; rintro E w4 ⟨j4, m4, vl4, v4, rfl, f4⟩
                 have F4 := Lib.hid f4
                 have AW4 := Lib.hid (Away.first D3.out f4)
                 obtain ⟨h41, h42, h43, hjn4, hl4, hv4, d4, o4, hm4⟩ := f4
                 obtain ⟨Ag, cg, hvg⟩ := hl4.shape
                 rw [HNG.out] at hvg
                 subst hvg
                 have D4 := Lib.hid d4
                 have J4 := Lib.hid hjn4
                 have L4 : Hid (Lst w4 w3.heap.size (fun b => w3.heap.size ≤ b ∧ b < m4) (.slice Ag Ng cg) got ∧ (∀ k, (Value.slice Ag Ng cg).ownBlock = some k → k < m4) ∧ m4 ≤ j4 ∧ m4 ≤ w4.heap.size) := ⟨hl4, hv4, h42, by simp only [Hid] at *; omega⟩
                 have A4 : Hid (Lst w4 W.heap.size (fun b => b < W.heap.size) (.slice Aa Ns ca) sure) := A3.out.only o4 (fun k hk e => A3.out.far_foot D3.out k hk e) (fun b hb e => by have := D3.out.foot_ge e; omega)
                 have HI := lst_hi hl4 Ns HLE.out.1 (Ns : Int) rfl
                 have hsl := HI.1
                 have R4 := Lib.hid HI.2
                 have RA4 := Lib.hid A4.out.rows
                 clear h41 h42 h43 hjn4 hl4 hv4 d4 o4 hm4 HI
                 have tokE : True := trivial)
              | (go_at_call 38; refine (jn_len _ _ _ _ J4.out).mono ?_; rw [HNG.out]; rintro E w9 ⟨rfl, rfl⟩)
              | (go_at_call 39; have _t := tokE; clear tokE; refine (HSM.out _ _ _ _ _ R4.out RA4.out).mono ?_; rintro E w5 ⟨rfl, o5⟩
                 have D5 := Lib.hid (D4.out.keep o5)
                 have J5 := Lib.hid (J4.out.only o5 (fun h => h))
                 have L5 := Lib.hid (L4.out.1.keep o5)
                 have HS5 : Hid (m4 ≤ w5.heap.size) := Nat.le_trans L4.out.2.2.2 o5.size
                 clear o5))
            go_quiet (fail)
            go_wp2_with (first
              | (go_at_call 35; refine (rf_check7 _ _ _ _).mono ?_; rw [HZM.out]; rintro E w9 ⟨rfl, rfl⟩)
              | (go_at_call 34; refine (add_of W g j4 got more HFG.out.1 HFG.out.2 _ _ _ _ (Dsk.drewN D5.out _) (Jn.only J5.out ((Only.refl none_ _).drewN _) (fun h => h)) (byt_across HMB.out (Only.refl _ _) (Dsk.drewN D5.out _).ho) (fun b hb => ⟨by have := G1.out; have hb' : b < W.heap.size := hb; omega, by have h1 := F4.out.1; have h2 := F4.out.2.1; have h3 := D3.out.ho.size; have hb' : b < W.heap.size := hb; omega⟩) (by have h1 := F4.out.1; have h2 := F4.out.2.1; have h3 := D3.out.ho.size; omega) (Jn.foot D5.out J5.out)).mono ?_; rw [HZMM.out]; rintro E w6 ⟨rfl, v6, d6, o6, m6⟩
                 rw [if_neg HZ0.out] at d6
                 have D6 := Lib.hid d6
                 clear d6 o6 m6))
            go_ret
            exact ⟨rfl, D6.out.ho.below (Nat.le_refl _) (fun k hk => hk.elim)⟩
        · obtain ⟨Ng, hNg⟩ : ∃ N, got.length = N := ⟨_, rfl⟩
          have hgl : Ng = Ns + 1 := by rw [← hNg, hgot, List.length_append, List.length_cons, List.length_nil, hNs]
          have hgok : ∀ r ∈ got, Rok r := by rw [hgot]; intro r hr; rcases List.mem_append.1 hr with h | h; exact hrok r h; have e : r = gb := (by simpa using h); rw [e]; exact hrg
          have htk : got.take Ns = sure := by rw [hgot, List.take_append_of_le_length (by omega), List.take_of_length_le (by omega)]
          have HGX : Hid (∀ hp : Ns < got.length, got[Ns] = gb) := by intro hp; subst hgot; rw [List.getElem_append_right (by omega)]; simp [hNs]
          have HLT : Hid (Ns < Ng) := by simp only [Hid]; omega
          have hA1 : Ns < Ng := by omega
          have hA2 : ¬ (Ng < Ns) := by omega
          have hA3 : ¬ ((Ns : Int) + 1 < (Ng : Int)) := by omega
          have hA4 : (Ns : Int) < (Ng : Int) := by omega
          have hA5 : decide ((Ns : Int) < (Ng : Int)) = true := by simp; omega
          have hA6 : IntKind.i64.wrap ((Ns : Int) + 1) = (Ns : Int) + 1 := IntWalk.i64_in _ (by omega)
          have HLE : Hid (Ns ≤ got.length ∧ Ns ≤ Ng) := by simp only [Hid]; omega
          have HNG : Hid (got.length = Ng) := hNg
          have HFG : Hid ((flatB got).length + 522 ≤ 1048576 ∧ got.length ≤ 1000000) := by have h1 := flatB_le got hgok; simp only [Hid]; omega
          have HSM : Hid (∀ (p q : Value) (S T : Nat → Prop) (w : World), Rows_ w S p (got.take Ns) → Rows_ w T q sure → Calls Try.prog 39 #[p, q] w fun e w' => e = .returned (.bool true) ∧ Only none_ w w') := by
            intro p q S T w h1 h2
            have := rf_same p q _ _ S T w h1 h2
            rw [htk] at this
            simpa using this
          have HSM2 : Hid (∀ (p q : Value) (S T : Nat → Prop) (w : World), Rows_ w S p (got ++ [more]) → Rows_ w T q ([] ++ got ++ [more]) → Calls Try.prog 39 #[p, q] w fun e w' => e = .returned (.bool true) ∧ Only none_ w w') := by
            intro p q S T w h1 h2
            have := rf_same p q _ _ S T w h1 h2
            simpa using this
          have hNN : ((Ng : Int) != (Ng : Int)) = false := by simp
          have HROK := Lib.hid hgok
          obtain ⟨N8, hN8⟩ : ∃ N, (got ++ [more]).length = N := ⟨_, rfl⟩
          have HN8 := Lib.hid hN8
          clear hN8
          by_cases hz0 : zm = 0
          · have hzb : (zm == 0) = true := by simpa using hz0
            have hzn : (zm != 0) = false := by simpa using hz0
            have HROK2 : Hid (∀ r ∈ got ++ [more], Rok r) := by intro r hr; rcases List.mem_append.1 hr with h | h; exact HROK.out r h; have e : r = more := (by simpa using h); rw [e]; exact (rok_iff more).1 (HZMM.out.trans hz0)
            have HZ0 := Lib.hid hz0
            clear s hrok hfl hcnt hsn hB1 hL1 hbb hp hok hc hSb hb0 q1 q2 q3 q4 q5 hD hgb hcr hop hNs hLv hz0 hNg hgok htk hgot hgl hrg
            go_wp2_with (first
              | (go_at_call 34; have _t := tokC; refine HAD.out.mono ?_; rw [QE.out.1, QE.out.2]; rintro E w2 ⟨rfl, v2', d2, n2, a2⟩
                 have D2 := Lib.hid d2
                 have A2 := Lib.hid a2
                 clear d2 n2 a2)
              | (go_at_call 36; refine (HPO.out _ _ D2.out).mono ?_; rintro E w9 ⟨rfl, rfl⟩)
              | (go_at_call 37; have _t := tokC; clear tokC; refine (HCR.out _ _ D2.out).mono ?_; rintro E w3 ⟨⟨q, rfl⟩, v3, d3, o3⟩
                 have D3 := Lib.hid d3
                 have A3 : Hid (Lst w3 W.heap.size (fun b => b < W.heap.size) (.slice Aa Ns ca) sure) := A2.out.only o3 (fun k hk e => A2.out.far_foot D2.out k hk e) (fun b hb e => by have := D2.out.foot_ge e; omega)
                 clear d3 o3
                 have tokD : True := trivial)
              | (go_at_call 32; have _t := tokD; clear tokD; refine (HOP.out _ _ D3.out).mono ?_; rintro E w4 ⟨j4, m4, vl4, v4, rfl, f4⟩
                 have F4 := Lib.hid f4
                 have AW4 := Lib.hid (Away.first D3.out f4)
                 obtain ⟨h41, h42, h43, hjn4, hl4, hv4, d4, o4, hm4⟩ := f4
                 obtain ⟨Ag, cg, hvg⟩ := hl4.shape
                 rw [HNG.out] at hvg
                 subst hvg
                 have D4 := Lib.hid d4
                 have J4 := Lib.hid hjn4
                 have L4 : Hid (Lst w4 w3.heap.size (fun b => w3.heap.size ≤ b ∧ b < m4) (.slice Ag Ng cg) got ∧ (∀ k, (Value.slice Ag Ng cg).ownBlock = some k → k < m4) ∧ m4 ≤ j4 ∧ m4 ≤ w4.heap.size) := ⟨hl4, hv4, h42, by simp only [Hid] at *; omega⟩
                 have A4 : Hid (Lst w4 W.heap.size (fun b => b < W.heap.size) (.slice Aa Ns ca) sure) := A3.out.only o4 (fun k hk e => A3.out.far_foot D3.out k hk e) (fun b hb e => by have := D3.out.foot_ge e; omega)
                 have HI := lst_hi hl4 Ns HLE.out.1 (Ns : Int) rfl
                 have hsl := HI.1
                 have R4 := Lib.hid HI.2
                 have RA4 := Lib.hid A4.out.rows
                 clear h41 h42 h43 hjn4 hl4 hv4 d4 o4 hm4 HI
                 have tokE : True := trivial)
              | (go_at_call 38; refine (jn_len _ _ _ _ J4.out).mono ?_; rw [HNG.out]; rintro E w9 ⟨rfl, rfl⟩)
              | (go_at_call 39; have _t := tokE; clear tokE; refine (HSM.out _ _ _ _ _ R4.out RA4.out).mono ?_; rintro E w5 ⟨rfl, o5⟩
                 have D5 := Lib.hid (D4.out.keep o5)
                 have J5 := Lib.hid (J4.out.only o5 (fun h => h))
                 have L5 := Lib.hid (L4.out.1.keep o5)
                 have HS5 : Hid (m4 ≤ w5.heap.size) := Nat.le_trans L4.out.2.2.2 o5.size
                 clear o5
                 obtain ⟨bg, Ax, Lx, cx, hag, hcx, hpx, hLx, hBx⟩ := L5.out.cell Ns HLT.out
                 subst hag
                 have hgx := HGX.out hpx
                 rw [hgx] at hLx hBx
                 have BX := Lib.hid hBx
                 have kq1 : ∀ n, (convert 71 9 (.slice Ax Lx cx)).run Try.prog (w5.drewN n) = .ok (.string ⟨gb.toArray⟩) (w5.drewN n) := fun n => run_bytes_string _ _ _ _ (BX.out.drewN n)
                 have kq2 : ∀ n, (convert 71 9 (.slice Av Lv cv)).run Try.prog (w5.drewN n) = .ok (.string ⟨gb.toArray⟩) (w5.drewN n) := fun n => run_bytes_string _ _ _ _ ((GB.out.only D5.out.ho (fun _ _ h => h)).drewN n)
                 clear hLx hBx hgx))
            go_quiet (fail)
            go_wp2_with (first
              | (go_at_call 35; refine (rf_check7 _ _ _ _).mono ?_; rw [HZM.out]; rintro E w9 ⟨rfl, rfl⟩)
              | (go_at_call 34; refine (add_of W g j4 got more HFG.out.1 HFG.out.2 _ _ _ _ (Dsk.drewN D5.out _) (Jn.only J5.out ((Only.refl none_ _).drewN _) (fun h => h)) (byt_across HMB.out (Only.refl _ _) (Dsk.drewN D5.out _).ho) (fun b hb => ⟨by have := G1.out; have hb' : b < W.heap.size := hb; omega, by have h1 := F4.out.1; have h2 := F4.out.2.1; have h3 := D3.out.ho.size; have hb' : b < W.heap.size := hb; omega⟩) (by have h1 := F4.out.1; have h2 := F4.out.2.1; have h3 := D3.out.ho.size; omega) (Jn.foot D5.out J5.out)).mono ?_; rw [HZMM.out]; rintro E w6 ⟨rfl, v6, d6, o6, m6⟩
                 rw [if_pos HZ0.out] at d6
                 have D6 := Lib.hid d6
                 have L6 := Lib.hid ((L5.out.keep ((Only.refl none_ _).drewN _)).away L4.out.2.1 o6 (fun b h1 h2 e => e.elim (fun e => AW4.out b h1 h2 e) (fun e => by have := L4.out.2.2.1; omega)))
                 have AW6 : Hid (Away w3.heap.size m4 g v6) := AW4.out.moved m6 HS5.out
                 have HS6 : Hid (m4 ≤ w6.heap.size) := Nat.le_trans HS5.out o6.size
                 have tokF : True := trivial
                 clear d6 o6 m6)
              | (go_at_call 37; have _t := tokF; clear tokF; refine (crash_zero W g _ _ _ D6.out).mono ?_; rintro E w7 ⟨⟨q7, rfl⟩, v7, d7, o7, m7⟩
                 have D7 := Lib.hid d7
                 have L7 := Lib.hid (L6.out.away L4.out.2.1 o7 AW6.out)
                 have AW7 : Hid (Away w3.heap.size m4 g v7) := AW6.out.moved m7 HS6.out
                 have HS7 : Hid (m4 ≤ w7.heap.size) := Nat.le_trans HS6.out o7.size
                 clear d7 o7 m7
                 have tokG : True := trivial)
              | (go_at_call 32; have _t := tokG; clear tokG; refine (open_of W g (got ++ [more]) HROK2.out _ _ D7.out).mono ?_; rintro E w8 ⟨j8, vg8, rfl, hj8, hjn8, hl8, v8, d8, o8, m8⟩
                 obtain ⟨A8, c8, hv8⟩ := hl8.shape
                 rw [HN8.out] at hv8
                 subst hv8
                 have D8 := Lib.hid d8
                 have L8 := Lib.hid (L7.out.away L4.out.2.1 o8 AW7.out)
                 have HS8 : Hid (m4 ≤ w8.heap.size ∧ W.heap.size ≤ w8.heap.size) := ⟨Nat.le_trans HS7.out o8.size, d8.ho.size⟩
                 have K8 := Lib.hid (hl8.rows.mono (T := fun b => b < w8.heap.size) (fun b h hb => hb))
                 obtain ⟨A9, n9, c9, w9, hrun9, hl9, ho9, hm9⟩ := run_append_rows (w8.alloc (.cells #[] 71)) 70 w8.heap.size (fun b => b < w8.heap.size) _ [] (Lst.made w8 w8.heap.size _ (Nat.le_refl _)) _ got (((L8.out.keep ((Only.refl none_ w8).alloc (.cells #[] 71))).rows.mono (T := fun b => b < w8.heap.size ∧ (Value.slice (some ⟨w8.heap.size, 0, none⟩) 0 0).ownBlock ≠ some b) (fun b h hb => by
                   have hbm : b < m4 := by
                     rcases h with h | h
                     · exact h.2
                     · exact L4.out.2.1 b h
                   have := HS8.out.1
                   exact ⟨by omega, fun e => by have e' : some w8.heap.size = some b := e; injection e' with e'; omega⟩))) (by rw [World.size_alloc]; omega) (by simp only [List.length_nil]; have := HFG.out.2; omega)
                 have hsz9 : w8.heap.size < w9.heap.size := by have := ho9.size; rw [World.size_alloc] at this; omega
                 have O9 : Hid (Only none_ w8 w9) := ((Only.refl none_ w8).alloc (.cells #[] 71)).trans' ho9 (fun k hk e => by have e' : some w8.heap.size = some k := e; injection e' with e'; omega)
                 have hrr : Rows_ (w9.alloc (.cells #[.slice Am Lm cm] 71)) (fun b => b < w8.heap.size ∨ b = w9.heap.size) (.slice (some ⟨w9.heap.size, 0, none⟩) 1 1) [more] := one_row w9 _ _ more ((byt_across HMB.out (Only.refl _ _) (D8.out.ho.trans O9.out)).mono (fun b hb h => .inl (by have := HS8.out.2; have h' : b < W.heap.size := h; omega))) (.inr rfl)
                 have lA9 : Lst (w9.alloc (.cells #[.slice Am Lm cm] 71)) w8.heap.size (fun b => b < w8.heap.size ∨ b = w9.heap.size) (.slice A9 n9 c9) ([] ++ got) := (hl9.mono (fun b _ h => .inl h)).keep ((Only.refl none_ w9).alloc _)
                 obtain ⟨A10, n10, c10, w10, hrun10, hl10, ho10, hm10⟩ := run_append_rows (w9.alloc (.cells #[.slice Am Lm cm] 71)) 70 w8.heap.size (fun b => b < w8.heap.size ∨ b = w9.heap.size) _ _ lA9 _ [more] (hrr.mono (fun b h hb => ⟨h, fun e => by
                   have e1 := hl9.own_lt b e
                   rcases h with h | h
                   · omega
                   · omega⟩)) (by rw [World.size_alloc]; omega) (by simp only [List.length_append, List.length_nil, List.length_cons]; have := HFG.out.2; omega)
                 have O10 : Hid (Only none_ w8 w10) := (O9.out.alloc (.cells #[.slice Am Lm cm] 71)).trans' ho10 (fun k hk e => by have e1 := hl9.own_lt k e; omega)
                 have K10 := Lib.hid (K8.out.only O10.out (fun _ _ h => h))
                 have R10 := Lib.hid (hl10.rows)
                 have D10 := Lib.hid (D8.out.keep O10.out)
                 have HR9 := Lib.hid hrun9
                 have HR10 := Lib.hid hrun10
                 clear hrun9 hrun10 hj8 hjn8 hl8 d8 o8 m8 hl9 ho9 hm9 lA9 hrr hl10 ho10 hm10 hsz9
                 have tokH : True := trivial
                 have tokI : True := trivial)
              | (at_builtin; have _t := tokH; refine wpList_append_on (by rfl) (.tmp 179) (.tmp 180) 70 70 rfl _ _ rfl rfl HR9.out ?_; clear tokH)
              | (at_builtin; have _t := tokI; refine wpList_append_on (by rfl) (.tmp 181) (.tmp 183) 70 70 rfl _ _ rfl rfl HR10.out ?_; clear tokI)
              | (go_at_call 39; refine (HSM2.out _ _ _ _ _ K10.out R10.out).mono ?_; rintro E w11 ⟨rfl, o11⟩
                 have D11 := Lib.hid (D10.out.keep o11)
                 clear o11))
            go_ret
            exact ⟨rfl, D11.out.ho.below (Nat.le_refl _) (fun k hk => hk.elim)⟩
          · have hzb : (zm == 0) = false := by simpa using hz0
            have hzn : (zm != 0) = true := by simpa using hz0
            have hzz : (zm == zm) = true := by simp
            have HZ0 := Lib.hid hz0
            clear s hrok hfl hcnt hsn hB1 hL1 hbb hp hok hc hSb hb0 q1 q2 q3 q4 q5 hD hgb hcr hop hNs hLv hz0 hNg hgok htk hgot hgl hrg
            go_wp2_with (first
              | (go_at_call 34; have _t := tokC; refine HAD.out.mono ?_; rw [QE.out.1, QE.out.2]; rintro E w2 ⟨rfl, v2', d2, n2, a2⟩
                 have D2 := Lib.hid d2
                 have A2 := Lib.hid a2
                 clear d2 n2 a2)
              | (go_at_call 36; refine (HPO.out _ _ D2.out).mono ?_; rintro E w9 ⟨rfl, rfl⟩)
              | (go_at_call 37; have _t := tokC; clear tokC; refine (HCR.out _ _ D2.out).mono ?_; rintro E w3 ⟨⟨q, rfl⟩, v3, d3, o3⟩
                 have D3 := Lib.hid d3
                 have A3 : Hid (Lst w3 W.heap.size (fun b => b < W.heap.size) (.slice Aa Ns ca) sure) := A2.out.only o3 (fun k hk e => A2.out.far_foot D2.out k hk e) (fun b hb e => by have := D2.out.foot_ge e; omega)
                 clear d3 o3
                 have tokD : True := trivial)
              | (go_at_call 32; have _t := tokD; clear tokD; refine (HOP.out _ _ D3.out).mono ?_; rintro E w4 ⟨j4, m4, vl4, v4, rfl, f4⟩
                 have F4 := Lib.hid f4
                 have AW4 := Lib.hid (Away.first D3.out f4)
                 obtain ⟨h41, h42, h43, hjn4, hl4, hv4, d4, o4, hm4⟩ := f4
                 obtain ⟨Ag, cg, hvg⟩ := hl4.shape
                 rw [HNG.out] at hvg
                 subst hvg
                 have D4 := Lib.hid d4
                 have J4 := Lib.hid hjn4
                 have L4 : Hid (Lst w4 w3.heap.size (fun b => w3.heap.size ≤ b ∧ b < m4) (.slice Ag Ng cg) got ∧ (∀ k, (Value.slice Ag Ng cg).ownBlock = some k → k < m4) ∧ m4 ≤ j4 ∧ m4 ≤ w4.heap.size) := ⟨hl4, hv4, h42, by simp only [Hid] at *; omega⟩
                 have A4 : Hid (Lst w4 W.heap.size (fun b => b < W.heap.size) (.slice Aa Ns ca) sure) := A3.out.only o4 (fun k hk e => A3.out.far_foot D3.out k hk e) (fun b hb e => by have := D3.out.foot_ge e; omega)
                 have HI := lst_hi hl4 Ns HLE.out.1 (Ns : Int) rfl
                 have hsl := HI.1
                 have R4 := Lib.hid HI.2
                 have RA4 := Lib.hid A4.out.rows
                 clear h41 h42 h43 hjn4 hl4 hv4 d4 o4 hm4 HI
                 have tokE : True := trivial)
              | (go_at_call 38; refine (jn_len _ _ _ _ J4.out).mono ?_; rw [HNG.out]; rintro E w9 ⟨rfl, rfl⟩)
              | (go_at_call 39; have _t := tokE; clear tokE; refine (HSM.out _ _ _ _ _ R4.out RA4.out).mono ?_; rintro E w5 ⟨rfl, o5⟩
                 have D5 := Lib.hid (D4.out.keep o5)
                 have J5 := Lib.hid (J4.out.only o5 (fun h => h))
                 have L5 := Lib.hid (L4.out.1.keep o5)
                 have HS5 : Hid (m4 ≤ w5.heap.size) := Nat.le_trans L4.out.2.2.2 o5.size
                 clear o5
                 obtain ⟨bg, Ax, Lx, cx, hag, hcx, hpx, hLx, hBx⟩ := L5.out.cell Ns HLT.out
                 subst hag
                 have hgx := HGX.out hpx
                 rw [hgx] at hLx hBx
                 have BX := Lib.hid hBx
                 have kq1 : ∀ n, (convert 71 9 (.slice Ax Lx cx)).run Try.prog (w5.drewN n) = .ok (.string ⟨gb.toArray⟩) (w5.drewN n) := fun n => run_bytes_string _ _ _ _ (BX.out.drewN n)
                 have kq2 : ∀ n, (convert 71 9 (.slice Av Lv cv)).run Try.prog (w5.drewN n) = .ok (.string ⟨gb.toArray⟩) (w5.drewN n) := fun n => run_bytes_string _ _ _ _ ((GB.out.only D5.out.ho (fun _ _ h => h)).drewN n)
                 clear hLx hBx hgx))
            go_quiet (fail)
            go_wp2_with (first
              | (go_at_call 35; refine (rf_check7 _ _ _ _).mono ?_; rw [HZM.out]; rintro E w9 ⟨rfl, rfl⟩)
              | (go_at_call 34; refine (add_of W g j4 got more HFG.out.1 HFG.out.2 _ _ _ _ (Dsk.drewN D5.out _) (Jn.only J5.out ((Only.refl none_ _).drewN _) (fun h => h)) (byt_across HMB.out (Only.refl _ _) (Dsk.drewN D5.out _).ho) (fun b hb => ⟨by have := G1.out; have hb' : b < W.heap.size := hb; omega, by have h1 := F4.out.1; have h2 := F4.out.2.1; have h3 := D3.out.ho.size; have hb' : b < W.heap.size := hb; omega⟩) (by have h1 := F4.out.1; have h2 := F4.out.2.1; have h3 := D3.out.ho.size; omega) (Jn.foot D5.out J5.out)).mono ?_; rw [HZMM.out]; rintro E w6 ⟨rfl, v6, d6, o6, m6⟩
                 rw [if_neg HZ0.out] at d6
                 have D6 := Lib.hid d6
                 clear d6 o6 m6))
            go_ret
            exact ⟨rfl, D6.out.ho.below (Nat.le_refl _) (fun k hk => hk.elim)⟩
    · have hjl : j = L := by omega
      obtain ⟨got, hgot, hcr, hop⟩ := rest_of W g keep (dvF f sure) sure hrok [] rfl (.inl rfl)
      have hgot : got = sure := hgot.resolve_right (fun h => absurd h.1.1 (by decide))
      have HCR := Lib.hid hcr
      have HOP := Lib.hid hop
      have D2 := Lib.hid s.d
      have A2 := Lib.hid s.a
      have tokC : True := trivial
      obtain ⟨Ng, hNg, hNN1⟩ : ∃ N, got.length = N ∧ N = Ns := ⟨Ns, by rw [hgot, hNs], rfl⟩
      have hgok : ∀ r ∈ got, Rok r := by rw [hgot]; exact hrok
      have htk : got.take Ns = sure := by rw [hgot, List.take_of_length_le (by omega)]
      have hA1 : ¬ (Ns < Ng) := by omega
      have hA2 : ¬ (Ng < Ns) := by omega
      have hA3 : ¬ ((Ns : Int) + 1 < (Ng : Int)) := by omega
      have hA4 : ¬ ((Ns : Int) < (Ng : Int)) := by omega
      have hA5 : decide ((Ns : Int) < (Ng : Int)) = false := by simp; omega
      have hA6 : IntKind.i64.wrap ((Ns : Int) + 1) = (Ns : Int) + 1 := IntWalk.i64_in _ (by omega)
      have HLE : Hid (Ns ≤ got.length ∧ Ns ≤ Ng) := by simp only [Hid]; omega
      have HNG : Hid (got.length = Ng) := hNg
      have HFG : Hid ((flatB got).length + 522 ≤ 1048576 ∧ got.length ≤ 1000000) := by have h1 := flatB_le got hgok; simp only [Hid]; omega
      have HSM : Hid (∀ (p q : Value) (S T : Nat → Prop) (w : World), Rows_ w S p (got.take Ns) → Rows_ w T q sure → Calls Try.prog 39 #[p, q] w fun e w' => e = .returned (.bool true) ∧ Only none_ w w') := by
        intro p q S T w h1 h2
        have := rf_same p q _ _ S T w h1 h2
        rw [htk] at this
        simpa using this
      have HSM2 : Hid (∀ (p q : Value) (S T : Nat → Prop) (w : World), Rows_ w S p (got ++ [more]) → Rows_ w T q ([] ++ got ++ [more]) → Calls Try.prog 39 #[p, q] w fun e w' => e = .returned (.bool true) ∧ Only none_ w w') := by
        intro p q S T w h1 h2
        have := rf_same p q _ _ S T w h1 h2
        simpa using this
      have hNN : ((Ng : Int) != (Ng : Int)) = false := by simp
      have HROK := Lib.hid hgok
      obtain ⟨N8, hN8⟩ : ∃ N, (got ++ [more]).length = N := ⟨_, rfl⟩
      have HN8 := Lib.hid hN8
      clear hN8
      by_cases hz0 : zm = 0
      · have hzb : (zm == 0) = true := by simpa using hz0
        have hzn : (zm != 0) = false := by simpa using hz0
        have HROK2 : Hid (∀ r ∈ got ++ [more], Rok r) := by intro r hr; rcases List.mem_append.1 hr with h | h; exact HROK.out r h; have e : r = more := (by simpa using h); rw [e]; exact (rok_iff more).1 (HZMM.out.trans hz0)
        have HZ0 := Lib.hid hz0
        clear s hrok hfl hcnt hok hcr hop hNs hjl hj hz0 hNg hgok htk hgot hNN1
        go_wp2_with (first
          | (go_at_call 37; have _t := tokC; clear tokC; refine (HCR.out _ _ D2.out).mono ?_; rintro E w3 ⟨⟨q, rfl⟩, v3, d3, o3⟩
             have D3 := Lib.hid d3
             have A3 : Hid (Lst w3 W.heap.size (fun b => b < W.heap.size) (.slice Aa Ns ca) sure) := A2.out.only o3 (fun k hk e => A2.out.far_foot D2.out k hk e) (fun b hb e => by have := D2.out.foot_ge e; omega)
             clear d3 o3
             have tokD : True := trivial)
          | (go_at_call 32; have _t := tokD; clear tokD; refine (HOP.out _ _ D3.out).mono ?_; rintro E w4 ⟨j4, m4, vl4, v4, rfl, f4⟩
             have F4 := Lib.hid f4
             have AW4 := Lib.hid (Away.first D3.out f4)
             obtain ⟨h41, h42, h43, hjn4, hl4, hv4, d4, o4, hm4⟩ := f4
             obtain ⟨Ag, cg, hvg⟩ := hl4.shape
             rw [HNG.out] at hvg
             subst hvg
             have D4 := Lib.hid d4
             have J4 := Lib.hid hjn4
             have L4 : Hid (Lst w4 w3.heap.size (fun b => w3.heap.size ≤ b ∧ b < m4) (.slice Ag Ng cg) got ∧ (∀ k, (Value.slice Ag Ng cg).ownBlock = some k → k < m4) ∧ m4 ≤ j4 ∧ m4 ≤ w4.heap.size) := ⟨hl4, hv4, h42, by simp only [Hid] at *; omega⟩
             have A4 : Hid (Lst w4 W.heap.size (fun b => b < W.heap.size) (.slice Aa Ns ca) sure) := A3.out.only o4 (fun k hk e => A3.out.far_foot D3.out k hk e) (fun b hb e => by have := D3.out.foot_ge e; omega)
             have HI := lst_hi hl4 Ns HLE.out.1 (Ns : Int) rfl
             have hsl := HI.1
             have R4 := Lib.hid HI.2
             have RA4 := Lib.hid A4.out.rows
             clear h41 h42 h43 hjn4 hl4 hv4 d4 o4 hm4 HI
             have tokE : True := trivial)
          | (go_at_call 38; refine (jn_len _ _ _ _ J4.out).mono ?_; rw [HNG.out]; rintro E w9 ⟨rfl, rfl⟩)
          | (go_at_call 39; have _t := tokE; clear tokE; refine (HSM.out _ _ _ _ _ R4.out RA4.out).mono ?_; rintro E w5 ⟨rfl, o5⟩
             have D5 := Lib.hid (D4.out.keep o5)
             have J5 := Lib.hid (J4.out.only o5 (fun h => h))
             have L5 := Lib.hid (L4.out.1.keep o5)
             have HS5 : Hid (m4 ≤ w5.heap.size) := Nat.le_trans L4.out.2.2.2 o5.size
             clear o5))
        go_quiet (fail)
        go_wp2_with (first
          | (go_at_call 35; refine (rf_check7 _ _ _ _).mono ?_; rw [HZM.out]; rintro E w9 ⟨rfl, rfl⟩)
          | (go_at_call 34; refine (add_of W g j4 got more HFG.out.1 HFG.out.2 _ _ _ _ (Dsk.drewN D5.out _) (Jn.only J5.out ((Only.refl none_ _).drewN _) (fun h => h)) (byt_across HMB.out (Only.refl _ _) (Dsk.drewN D5.out _).ho) (fun b hb => ⟨by have := G1.out; have hb' : b < W.heap.size := hb; omega, by have h1 := F4.out.1; have h2 := F4.out.2.1; have h3 := D3.out.ho.size; have hb' : b < W.heap.size := hb; omega⟩) (by have h1 := F4.out.1; have h2 := F4.out.2.1; have h3 := D3.out.ho.size; omega) (Jn.foot D5.out J5.out)).mono ?_; rw [HZMM.out]; rintro E w6 ⟨rfl, v6, d6, o6, m6⟩
             rw [if_pos HZ0.out] at d6
             have D6 := Lib.hid d6
             have L6 := Lib.hid ((L5.out.keep ((Only.refl none_ _).drewN _)).away L4.out.2.1 o6 (fun b h1 h2 e => e.elim (fun e => AW4.out b h1 h2 e) (fun e => by have := L4.out.2.2.1; omega)))
             have AW6 : Hid (Away w3.heap.size m4 g v6) := AW4.out.moved m6 HS5.out
             have HS6 : Hid (m4 ≤ w6.heap.size) := Nat.le_trans HS5.out o6.size
             have tokF : True := trivial
             clear d6 o6 m6)
          | (go_at_call 37; have _t := tokF; clear tokF; refine (crash_zero W g _ _ _ D6.out).mono ?_; rintro E w7 ⟨⟨q7, rfl⟩, v7, d7, o7, m7⟩
             have D7 := Lib.hid d7
             have L7 := Lib.hid (L6.out.away L4.out.2.1 o7 AW6.out)
             have AW7 : Hid (Away w3.heap.size m4 g v7) := AW6.out.moved m7 HS6.out
             have HS7 : Hid (m4 ≤ w7.heap.size) := Nat.le_trans HS6.out o7.size
             clear d7 o7 m7
             have tokG : True := trivial)
          | (go_at_call 32; have _t := tokG; clear tokG; refine (open_of W g (got ++ [more]) HROK2.out _ _ D7.out).mono ?_; rintro E w8 ⟨j8, vg8, rfl, hj8, hjn8, hl8, v8, d8, o8, m8⟩
             obtain ⟨A8, c8, hv8⟩ := hl8.shape
             rw [HN8.out] at hv8
             subst hv8
             have D8 := Lib.hid d8
             have L8 := Lib.hid (L7.out.away L4.out.2.1 o8 AW7.out)
             have HS8 : Hid (m4 ≤ w8.heap.size ∧ W.heap.size ≤ w8.heap.size) := ⟨Nat.le_trans HS7.out o8.size, d8.ho.size⟩
             have K8 := Lib.hid (hl8.rows.mono (T := fun b => b < w8.heap.size) (fun b h hb => hb))
             obtain ⟨A9, n9, c9, w9, hrun9, hl9, ho9, hm9⟩ := run_append_rows (w8.alloc (.cells #[] 71)) 70 w8.heap.size (fun b => b < w8.heap.size) _ [] (Lst.made w8 w8.heap.size _ (Nat.le_refl _)) _ got (((L8.out.keep ((Only.refl none_ w8).alloc (.cells #[] 71))).rows.mono (T := fun b => b < w8.heap.size ∧ (Value.slice (some ⟨w8.heap.size, 0, none⟩) 0 0).ownBlock ≠ some b) (fun b h hb => by
               have hbm : b < m4 := by
                 rcases h with h | h
                 · exact h.2
                 · exact L4.out.2.1 b h
               have := HS8.out.1
               exact ⟨by omega, fun e => by have e' : some w8.heap.size = some b := e; injection e' with e'; omega⟩))) (by rw [World.size_alloc]; omega) (by simp only [List.length_nil]; have := HFG.out.2; omega)
             have hsz9 : w8.heap.size < w9.heap.size := by have := ho9.size; rw [World.size_alloc] at this; omega
             have O9 : Hid (Only none_ w8 w9) := ((Only.refl none_ w8).alloc (.cells #[] 71)).trans' ho9 (fun k hk e => by have e' : some w8.heap.size = some k := e; injection e' with e'; omega)
             have hrr : Rows_ (w9.alloc (.cells #[.slice Am Lm cm] 71)) (fun b => b < w8.heap.size ∨ b = w9.heap.size) (.slice (some ⟨w9.heap.size, 0, none⟩) 1 1) [more] := one_row w9 _ _ more ((byt_across HMB.out (Only.refl _ _) (D8.out.ho.trans O9.out)).mono (fun b hb h => .inl (by have := HS8.out.2; have h' : b < W.heap.size := h; omega))) (.inr rfl)
             have lA9 : Lst (w9.alloc (.cells #[.slice Am Lm cm] 71)) w8.heap.size (fun b => b < w8.heap.size ∨ b = w9.heap.size) (.slice A9 n9 c9) ([] ++ got) := (hl9.mono (fun b _ h => .inl h)).keep ((Only.refl none_ w9).alloc _)
             obtain ⟨A10, n10, c10, w10, hrun10, hl10, ho10, hm10⟩ := run_append_rows (w9.alloc (.cells #[.slice Am Lm cm] 71)) 70 w8.heap.size (fun b => b < w8.heap.size ∨ b = w9.heap.size) _ _ lA9 _ [more] (hrr.mono (fun b h hb => ⟨h, fun e => by
               have e1 := hl9.own_lt b e
               rcases h with h | h
               · omega
               · omega⟩)) (by rw [World.size_alloc]; omega) (by simp only [List.length_append, List.length_nil, List.length_cons]; have := HFG.out.2; omega)
             have O10 : Hid (Only none_ w8 w10) := (O9.out.alloc (.cells #[.slice Am Lm cm] 71)).trans' ho10 (fun k hk e => by have e1 := hl9.own_lt k e; omega)
             have K10 := Lib.hid (K8.out.only O10.out (fun _ _ h => h))
             have R10 := Lib.hid (hl10.rows)
             have D10 := Lib.hid (D8.out.keep O10.out)
             have HR9 := Lib.hid hrun9
             have HR10 := Lib.hid hrun10
             clear hrun9 hrun10 hj8 hjn8 hl8 d8 o8 m8 hl9 ho9 hm9 lA9 hrr hl10 ho10 hm10 hsz9
             have tokH : True := trivial
             have tokI : True := trivial)
          | (at_builtin; have _t := tokH; refine wpList_append_on (by rfl) (.tmp 179) (.tmp 180) 70 70 rfl _ _ rfl rfl HR9.out ?_; clear tokH)
          | (at_builtin; have _t := tokI; refine wpList_append_on (by rfl) (.tmp 181) (.tmp 183) 70 70 rfl _ _ rfl rfl HR10.out ?_; clear tokI)
          | (go_at_call 39; refine (HSM2.out _ _ _ _ _ K10.out R10.out).mono ?_; rintro E w11 ⟨rfl, o11⟩
             have D11 := Lib.hid (D10.out.keep o11)
             clear o11))
        go_ret
        exact ⟨rfl, D11.out.ho.below (Nat.le_refl _) (fun k hk => hk.elim)⟩
      · have hzb : (zm == 0) = false := by simpa using hz0
        have hzn : (zm != 0) = true := by simpa using hz0
        have hzz : (zm == zm) = true := by simp
        have HZ0 := Lib.hid hz0
        clear s hrok hfl hcnt hok hcr hop hNs hjl hj hz0 hNg hgok htk hgot hNN1
        go_wp2_with (first
          | (go_at_call 37; have _t := tokC; clear tokC; refine (HCR.out _ _ D2.out).mono ?_; rintro E w3 ⟨⟨q, rfl⟩, v3, d3, o3⟩
             have D3 := Lib.hid d3
             have A3 : Hid (Lst w3 W.heap.size (fun b => b < W.heap.size) (.slice Aa Ns ca) sure) := A2.out.only o3 (fun k hk e => A2.out.far_foot D2.out k hk e) (fun b hb e => by have := D2.out.foot_ge e; omega)
             clear d3 o3
             have tokD : True := trivial)
          | (go_at_call 32; have _t := tokD; clear tokD; refine (HOP.out _ _ D3.out).mono ?_; rintro E w4 ⟨j4, m4, vl4, v4, rfl, f4⟩
             have F4 := Lib.hid f4
             have AW4 := Lib.hid (Away.first D3.out f4)
             obtain ⟨h41, h42, h43, hjn4, hl4, hv4, d4, o4, hm4⟩ := f4
             obtain ⟨Ag, cg, hvg⟩ := hl4.shape
             rw [HNG.out] at hvg
             subst hvg
             have D4 := Lib.hid d4
             have J4 := Lib.hid hjn4
             have L4 : Hid (Lst w4 w3.heap.size (fun b => w3.heap.size ≤ b ∧ b < m4) (.slice Ag Ng cg) got ∧ (∀ k, (Value.slice Ag Ng cg).ownBlock = some k → k < m4) ∧ m4 ≤ j4 ∧ m4 ≤ w4.heap.size) := ⟨hl4, hv4, h42, by simp only [Hid] at *; omega⟩
             have A4 : Hid (Lst w4 W.heap.size (fun b => b < W.heap.size) (.slice Aa Ns ca) sure) := A3.out.only o4 (fun k hk e => A3.out.far_foot D3.out k hk e) (fun b hb e => by have := D3.out.foot_ge e; omega)
             have HI := lst_hi hl4 Ns HLE.out.1 (Ns : Int) rfl
             have hsl := HI.1
             have R4 := Lib.hid HI.2
             have RA4 := Lib.hid A4.out.rows
             clear h41 h42 h43 hjn4 hl4 hv4 d4 o4 hm4 HI
             have tokE : True := trivial)
          | (go_at_call 38; refine (jn_len _ _ _ _ J4.out).mono ?_; rw [HNG.out]; rintro E w9 ⟨rfl, rfl⟩)
          | (go_at_call 39; have _t := tokE; clear tokE; refine (HSM.out _ _ _ _ _ R4.out RA4.out).mono ?_; rintro E w5 ⟨rfl, o5⟩
             have D5 := Lib.hid (D4.out.keep o5)
             have J5 := Lib.hid (J4.out.only o5 (fun h => h))
             have L5 := Lib.hid (L4.out.1.keep o5)
             have HS5 : Hid (m4 ≤ w5.heap.size) := Nat.le_trans L4.out.2.2.2 o5.size
             clear o5))
        go_quiet (fail)
        go_wp2_with (first
          | (go_at_call 35; refine (rf_check7 _ _ _ _).mono ?_; rw [HZM.out]; rintro E w9 ⟨rfl, rfl⟩)
          | (go_at_call 34; refine (add_of W g j4 got more HFG.out.1 HFG.out.2 _ _ _ _ (Dsk.drewN D5.out _) (Jn.only J5.out ((Only.refl none_ _).drewN _) (fun h => h)) (byt_across HMB.out (Only.refl _ _) (Dsk.drewN D5.out _).ho) (fun b hb => ⟨by have := G1.out; have hb' : b < W.heap.size := hb; omega, by have h1 := F4.out.1; have h2 := F4.out.2.1; have h3 := D3.out.ho.size; have hb' : b < W.heap.size := hb; omega⟩) (by have h1 := F4.out.1; have h2 := F4.out.2.1; have h3 := D3.out.ho.size; omega) (Jn.foot D5.out J5.out)).mono ?_; rw [HZMM.out]; rintro E w6 ⟨rfl, v6, d6, o6, m6⟩
             rw [if_neg HZ0.out] at d6
             have D6 := Lib.hid d6
             clear d6 o6 m6))
        go_ret
        exact ⟨rfl, D6.out.ho.below (Nat.le_refl _) (fun k hk => hk.elim)⟩
end Go.Proofs.Ytbhdnhnkiibaaaa
