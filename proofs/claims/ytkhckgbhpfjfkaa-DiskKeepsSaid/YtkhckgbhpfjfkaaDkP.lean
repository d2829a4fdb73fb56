/- Any act done with a disk and with the document's one; whether acts are few. No statement of the seat is proved here. -/
import Derived.Test.YtkhckgbhpfjfkaaDkO
import Derived.Test.YtkhckgbhpfjfkaaOpenD
import Derived.Deep.LoopGhost
namespace Go.Proofs.Ytkhckgbhpfjfkaa
open Go.RowKit
set_option maxRecDepth 100000

/-- What an act makes of a disk. -/
def acD (k n : Int) (bs : List UInt8) (d : Dv) : Dv :=
  if k = 0 then chD d (if 1048576 < d.bs.length + bs.length then 7 else 0) (dApp bs (burnt d)) else
  if k = 1 then chD d 0 (dSync (burnt d)) else
  if k = 2 then chD d (if n < 0 ∨ (d.bs.length : Int) < n then 2 else 0) (dTrim n.toNat (burnt d)) else
  if k = 3 then { d with fuse := n } else
  if k = 4 then dCrash n d else
  if k = 5 then (if n < 0 ∨ (d.bs.length : Int) ≤ n then d else dTurn n.toNat (byB bs) d) else d

theorem do_any (B W : World) (g : Nat) (v : Value) (d : Dv) (A X : Option Addr) (n c L e0 : Nat) (k m : Int) (ys : List UInt8)
    (h : Dsk B g d v W) (hm : Byt W (fun b => ¬ foot g v b) (.slice A n c) d.bs) (hx : Byt W (fun b => b < B.heap.size) (.slice X L e0) ys) (hm1 : -9223372036854775808 ≤ m) (hm2 : m < 9223372036854775808) :
    Calls Try.prog 36 #[.pointer (some ⟨g, 0, none⟩), .agg #[.slice A n c, .int .i64 (nf d).safe, .bool (!(nf d).on), .int .i64 (nf d).fuse], .agg #[.int .i64 k, .int .i64 m, .slice X L e0]] W fun e w' => DoR B W g v (acD k m ys d) (nf (acD k m ys d)) e w' := by
  have f1 : -9223372036854775808 ≤ (nf d).fuse := by show _ ≤ max d.fuse (-1); omega
  have f2 : (nf d).fuse < 9223372036854775808 := by show max d.fuse (-1) < _; have := h.fh; omega
  have hS : ∀ b, b < B.heap.size → b ≠ g := fun b hb e => by have := h.ge; omega
  by_cases h0 : k = 0
  · subst h0
    rw [show acD 0 m ys d = chD d (if 1048576 < d.bs.length + ys.length then 7 else 0) (dApp ys (burnt d)) from rfl]
    refine do_append B W g v d _ _ A X n c L e0 _ _ (chCode d (if 1048576 < d.bs.length + ys.length then 7 else 0)) m _ d.bs ys h hm hx (fun w hd hb => disk_append B g d v _ ys _ w hd hb hS) (fun w S hb hc => ?_)
    have := ref_append (nf d) A X n c L e0 ys S _ w hb hc h.ml f1 f2
    rw [nf_burnt, show dApp ys (nf (burnt d)) = nf (dApp ys (burnt d)) from rfl, nf_d, nf_code] at this
    exact this
  by_cases h1 : k = 1
  · subst h1
    rw [show acD 1 m ys d = chD d 0 (dSync (burnt d)) from rfl]
    refine do_sync B W g v d _ _ A X n c L e0 _ _ (chCode d 0) m _ d.bs ys h hm hx (fun w hd => disk_sync B g d v w hd) (fun w S hb => ?_)
    have := ref_sync (nf d) A n c S w hb f1 f2
    rw [nf_burnt, show dSync (nf (burnt d)) = nf (dSync (burnt d)) from rfl, nf_d, nf_code] at this
    exact this
  by_cases h2 : k = 2
  · subst h2
    rw [show acD 2 m ys d = chD d (if m < 0 ∨ (d.bs.length : Int) < m then 2 else 0) (dTrim m.toNat (burnt d)) from rfl]
    refine do_trim B W g v d _ _ A X n c L e0 _ _ (chCode d (if m < 0 ∨ (d.bs.length : Int) < m then 2 else 0)) m _ d.bs ys h hm hx (fun w hd => disk_trim B g m d v w hd) (fun w S hb => ?_)
    have := ref_trim (nf d) m A n c S w hb f1 f2
    rw [nf_burnt, show dTrim m.toNat (nf (burnt d)) = nf (dTrim m.toNat (burnt d)) from rfl, nf_d, nf_code] at this
    exact this
  by_cases h3 : k = 3
  · subst h3
    rw [show acD 3 m ys d = { d with fuse := m } from rfl]
    exact do_fuse B W g v d _ _ A X n c L e0 _ _ m _ d.bs ys h hm hx hm1 hm2 rfl rfl rfl rfl rfl
  by_cases h4 : k = 4
  · subst h4
    rw [show acD 4 m ys d = dCrash m d from rfl]
    refine do_crash B W g v d _ _ A X n c L e0 _ _ (stay d m : Nat) m _ d.bs ys h hm hx (fun w hd => disk_crash B g m d v w hd) (fun w S hb => ?_)
    exact ref_crash (nf d) m A n c S w hb h.sl h.ml
  by_cases h5 : k = 5
  · subst h5
    rw [show acD 5 m ys d = (if m < 0 ∨ (d.bs.length : Int) ≤ m then d else dTurn m.toNat (byB ys) d) from rfl]
    refine do_turn B W g v d _ _ A X n c L e0 _ _ (if m < 0 ∨ (d.bs.length : Int) ≤ m then 2 else 0) m _ d.bs ys h hm hx (fun w hd => disk_turn B g m (byB ys) d v w hd) (fun w S hb => ?_)
    have := ref_turn (nf d) m (byB ys) A n c S w hb h.ml
    by_cases hz : m < 0 ∨ (d.bs.length : Int) ≤ m
    · rw [if_pos (show m < 0 ∨ ((nf d).bs.length : Int) ≤ m from hz), if_pos (show m < 0 ∨ ((nf d).bs.length : Int) ≤ m from hz)] at this
      rw [if_pos hz, if_pos hz]
      exact this
    · rw [if_neg (show ¬ (m < 0 ∨ ((nf d).bs.length : Int) ≤ m) from hz), if_neg (show ¬ (m < 0 ∨ ((nf d).bs.length : Int) ≤ m) from hz)] at this
      rw [if_neg hz, if_neg hz]
      exact this
  have e : acD k m ys d = d := by
    unfold acD
    rw [if_neg h0, if_neg h1, if_neg h2, if_neg h3, if_neg h4, if_neg h5]
  rw [e]
  exact do_other B W g v d (nf d) A X n c L e0 _ _ m k _ d.bs ys h hm hx (by omega) rfl rfl rfl rfl

/-- Are acts few, and their bytes? -/
def fewB (l : List Da) : Bool := decide (∀ a ∈ l, a.bs.length ≤ 100) && decide (l.length ≤ 60)
set_option maxHeartbeats 1600000 in
theorem few_any (W : World) (A : Option Addr) (L c : Nat) (l : List Da) (w : World) (h : Cel W (fun b => b < W.heap.size) (.slice A L c) L 3 (l.flatMap daRow)) (hl : L = l.length) (o : Only none_ W w) (ok : ∀ x ∈ l, daOk W x) :
    Calls Try.prog 33 #[.slice A L c] w fun e w' => e = .returned (.bool (fewB l)) ∧ Only none_ w w' := by
  have hLm : L ≤ 9223372036854775807 := by
    obtain ⟨_, _, hv, _, h1, h2, _⟩ := id h
    injection hv with _ _ e3
    simp only [maxLen] at h2
    omega
  have H := Lib.hid h
  have HO := Lib.hid o
  have OK := Lib.hid ok
  have HL := Lib.hid hl
  clear h o ok hl
  go_enter Try.func33, Try.ntmps33
  go_wp2_with fail
  go_loopw [7] (fun k wr => ∃ j : Nat, j ≤ L ∧ k = .int .i64 j ∧ (∀ a ∈ l.take j, a.bs.length ≤ 100) ∧ Only none_ w wr) (fun k _ => L - (intOf k).toNat)
  case atStart => exact ⟨0, by omega, rfl, by simp, Only.refl _ _⟩
  case round =>
    obtain ⟨j, hj, rfl, hall, hr⟩ := hrel
    by_cases hlb : j < L
    · have hjl : j < l.length := by have := HL.out; omega
      obtain ⟨b, off, X, n, e, eA, c0, c1, c2, hn, hb, _⟩ := da_at H.out HL.out hjl (HO.out.trans hr) OK.out
      subst eA
      have HN := Lib.hid hn
      have HR := Lib.hid (hr.alloc (.cells #[.int .i64 l[j].k, .int .i64 l[j].n, .slice X n e] 77))
      generalize l[j].k = kj at *
      generalize l[j].n = nj at *
      by_cases h100 : n ≤ 100
      · have h100' : ¬ (100 : Int) < n := by omega
        have hall2 : Hid (∀ a ∈ l.take (j + 1), a.bs.length ≤ 100) := by
          rw [← List.take_append_getElem hjl]
          intro a ha
          rcases List.mem_append.1 ha with h | h
          · exact hall a h
          · have e : a = l[j] := by simpa using h
            rw [e]; omega
        clear hb hall hn hr
        go_wp2_with fail
        go_roundw
        case rel => exact ⟨j + 1, by omega, by go_num, hall2.out, HR.out⟩
        case measure => simp [intOf]; omega
      · have h100' : (100 : Int) < n := by omega
        have hF : Hid (fewB l = false) := by
          simp only [Hid, fewB, Bool.and_eq_false_iff, decide_eq_false_iff_not]
          refine .inl (fun hh => ?_)
          have := hh l[j] (List.getElem_mem hjl)
          omega
        clear hb hall hn hr
        go_wp2_with fail
        go_ret
        exact ⟨by rw [hF.out]; rfl, HR.out⟩
    · have hk : l.take j = l := List.take_of_length_le (by have := HL.out; omega)
      rw [hk] at hall
      have hF : Hid (fewB l = decide ((L : Int) ≤ 60)) := by
        simp only [Hid, fewB, HL.out, decide_eq_true hall, Bool.true_and]
        congr 1
        rw [eq_iff_iff]; omega
      clear hk hall
      go_wp2_with fail
      go_ret
      exact ⟨by rw [hF.out]; rfl, hr⟩
end Go.Proofs.Ytkhckgbhpfjfkaa
