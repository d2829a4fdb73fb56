/- Where a key is, or would be, among a table's pairs: strings.Compare, slices.BinarySearchFunc. No statement of the seat is proved here. -/
import Derived.Test.YtdmopjnmfjmhkaaTbM
import Derived.Test.YtdmopjnmfjmhkaaTbB
import Derived.Test.YtdmopjnmfjmhkaaOpn
namespace Go.Proofs.Ytdmopjnmfjmhkaa
open Go.RowKit
set_option maxRecDepth 100000
set_option linter.all false

theorem cmp_bytes (a b : ByteArray) (w : World) :
    Calls Try.prog 75 #[.string a, .string b] w fun e w' => e = .returned (.int .i64 (Lib.compareBytes a.data.toList b.data.toList)) ∧ w = w' := by
  have hc : ∀ w, (callFunc 91 #[.string a, .string b]).run Try.prog w = .ok (.value (.int .i64 (Lib.compareBytes a.data.toList b.data.toList))) w := fun w => by
    rw [run_callFunc_extern Try.func91 (by kernel_rfl) (by kernel_rfl) (by kernel_rfl) (e := Extern.BytealgCompare.compare) (by kernel_rfl), Lib.run_compareString]
    rfl
  generalize Lib.compareBytes a.data.toList b.data.toList = z at hc ⊢
  go_enter Try.func75, Try.ntmps75
  go_wp2_with fail
  go_ret
  exact ⟨rfl, rfl⟩
theorem cmp_strs (a b : ByteArray) (w : World) :
    Calls Try.prog 59 #[.string a, .string b] w fun e w' => e = .returned (.int .i64 (Lib.compareBytes a.data.toList b.data.toList)) ∧ w = w' := by
  have hc := cmp_bytes a b
  generalize Lib.compareBytes a.data.toList b.data.toList = z at hc ⊢
  have HC := Lib.hid hc
  clear hc
  go_enter Try.func59, Try.ntmps59
  go_wp2_with (first
    | (go_at_call 75; refine (HC.out _).mono ?_; rintro e w' ⟨rfl, rfl⟩))
  go_ret
  exact ⟨rfl, rfl⟩
theorem place_clo (a b : ByteArray) (v : Value) (hv : ∃ z, v = .int .i64 z) (w : World) :
    Calls Try.prog 72 #[.agg #[.string a, v], .string b] w fun e w' => e = .returned (.int .i64 (Lib.compareBytes a.data.toList b.data.toList)) ∧ Only none_ w w' := by
  obtain ⟨z0, rfl⟩ := hv
  have hc := cmp_strs a b
  generalize Lib.compareBytes a.data.toList b.data.toList = z at hc ⊢
  have HC := Lib.hid hc
  have B2 := Lib.hid (Blk.new w 78 #[.string a, .int .i64 z0])
  have c0 : (w.alloc (.cells #[.string a, .int .i64 z0] 78)).cell? ⟨w.heap.size, 0, none⟩ = some (.string a) := B2.out.cell_ (i := 0) rfl
  have O := Lib.hid ((Only.refl none_ w).alloc (.cells #[.string a, .int .i64 z0] 78))
  clear hc
  go_enter Try.func72, Try.ntmps72
  go_wp2_with (first
    | (go_at_call 59; refine (HC.out _).mono ?_; rintro e w' ⟨rfl, rfl⟩))
  go_ret
  exact ⟨rfl, O.out⟩

/-- The cells of a pair. -/
def prI (p : Pr Int) : List Value := [.string p.k, .int .i64 p.v]
theorem prI_len (p : Pr Int) : (prI p).length = 2 := rfl
theorem prI_one (l : List (Pr Int)) : ∀ u ∈ l.flatMap prI, u.oneCell' = true := by
  intro u hu
  obtain ⟨p, _, hp⟩ := List.mem_flatMap.1 hu
  simp only [prI, List.mem_cons, List.not_mem_nil, or_false] at hp
  rcases hp with rfl | rfl <;> rfl
theorem prI_cell {w : World} {S : Nat → Prop} {A : Option Addr} {n c : Nat} {l : List (Pr Int)} (h : Cel w S (.slice A n c) n 2 (l.flatMap prI)) (i : Nat) (hi : i < l.length) (hn : n = l.length) :
    ∃ b off, A = some ⟨b, off, none⟩ ∧ S b ∧ b < w.heap.size ∧ w.cell? ⟨b, off + i * 2, none⟩ = some (.string l[i].k) ∧ w.cell? ⟨b, off + i * 2 + 1, none⟩ = some (.int .i64 l[i].v) := by
  obtain ⟨A', c', e, h0, h1, h2, h3, h4⟩ := h
  injection e with e1 e2 e3
  subst e1 e3
  obtain ⟨b, off, rfl, hs, hlt, hc⟩ := h4 (by omega)
  refine ⟨b, off, rfl, hs, hlt, hc _ _ ?_, ?_⟩
  · have := flat_at prI prI_len l i l[i] (List.getElem?_eq_getElem hi) 0 (by decide)
    rw [Nat.add_zero] at this
    rw [this]; rfl
  · rw [Nat.add_assoc]
    refine hc _ _ ?_
    rw [flat_at prI prI_len l i l[i] (List.getElem?_eq_getElem hi) 1 (by decide)]; rfl

set_option maxHeartbeats 6400000 in
theorem bsI (A : Option Addr) (c : Nat) (S : Nat → Prop) (l : List (Pr Int)) (x : ByteArray) (w : World) (h : Cel w S (.slice A l.length c) l.length 2 (l.flatMap prI)) (hr : Ris l) (hl : l.length ≤ 4096) :
    Calls Try.prog 71 #[.slice A l.length c, .string x, .func (.func 72) #[] #[]] w fun e w' => e = .returned (.tuple #[.int .i64 (rnk l x : Nat), .bool (has l x)]) ∧ Only none_ w w' := by
  have HC := Lib.hid (fun (w' : World) (o : Only none_ w w') => h.only o (fun _ _ h => h))
  have HR := Lib.hid hr
  have hrl := rnk_le l x
  obtain ⟨r, hrr⟩ : ∃ r, rnk l x = r := ⟨_, rfl⟩
  obtain ⟨hs, hhs⟩ : ∃ b, has l x = b := ⟨_, rfl⟩
  have AT : Hid (∀ i (hi : i < l.length), decide (Lib.compareBytes l[i].k.data.toList x.data.toList < 0) = decide (i < r)) := fun i hi => by rw [cmp_neg, rnk_at hr, hrr]
  have HS := has_at hr x
  rw [hrr, hhs] at HS
  rw [hrr] at hrl
  have HSS := Lib.hid HS
  rw [hrr, hhs]
  obtain ⟨n, hn⟩ : ∃ n, l.length = n := ⟨_, rfl⟩
  have HN := Lib.hid hn
  rw [hn] at HC hl hrl ⊢
  clear h hr hrr hhs HS hn
  go_enter Try.func71, Try.ntmps71
  go_wp2_with fail
  go_loopw [9, 10] (fun s9 s10 wr => ∃ lo hi : Nat, s9 = .int .i64 lo ∧ s10 = .int .i64 hi ∧ lo ≤ r ∧ r ≤ hi ∧ hi ≤ n ∧ Only none_ w wr) (fun s9 s10 _ => (intOf s10).toNat - (intOf s9).toNat)
  case atStart => exact ⟨0, n, rfl, rfl, Nat.zero_le _, hrl, Nat.le_refl _, Only.refl _ _⟩
  case round =>
    obtain ⟨lo, hi, rfl, rfl, h1, h2, h3, o⟩ := hrel
    have O := Lib.hid o
    by_cases hlt : lo < hi
    · obtain ⟨q, hq⟩ : ∃ q, (lo + hi) / 2 = q := ⟨_, rfl⟩
      have hq1 : lo ≤ q ∧ q < hi := by omega
      have hqi : ((lo : Int) + (hi : Int)) / 2 = (q : Int) := by omega
      have hqn : q < l.length := by have := HN.out; omega
      obtain ⟨b, off, hA, _, _, hc0, hc1⟩ := prI_cell (HC.out _ o) q hqn HN.out.symm
      subst hA
      have hcl := place_clo l[q].k x (.int .i64 l[q].v) ⟨_, rfl⟩ wr
      have hcp := AT.out q hqn
      have hz := cmp_i64 l[q].k x
      generalize Lib.compareBytes l[q].k.data.toList x.data.toList = z at hcl hcp hz
      generalize l[q].k = kk at hc0 hcl
      generalize l[q].v = vv at hc1 hcl
      have HCL := Lib.hid hcl
      have HCP := Lib.hid hcp
      have hqn2 : q < n := by omega
      clear hcl hcp o hq
      by_cases hz0 : z < 0
      · have hqr : q < r := by have := HCP.out; simp [hz0] at this; exact this
        go_wp2_with (first
          | (go_at_call 72; refine HCL.out.mono ?_; rintro e w1 ⟨rfl, o1⟩; have O1 := Lib.hid (O.out.trans o1); clear o1))
        go_roundw
        case rel => exact ⟨q + 1, hi, by go_num, rfl, by omega, h2, h3, O1.out⟩
        case measure => simp [intOf]; omega
      · have hqr : r ≤ q := by have := HCP.out; simp [hz0] at this; exact this
        go_wp2_with (first
          | (go_at_call 72; refine HCL.out.mono ?_; rintro e w1 ⟨rfl, o1⟩; have O1 := Lib.hid (O.out.trans o1); clear o1))
        go_roundw
        case rel => exact ⟨lo, q, rfl, by go_num, h1, hqr, by omega, O1.out⟩
        case measure => simp [intOf]; omega
    · have e1 : lo = r := by omega
      subst e1
      by_cases hn : lo < n
      · have hqn : lo < l.length := by have := HN.out; omega
        obtain ⟨b, off, hA, _, _, hc0, hc1⟩ := prI_cell (HC.out _ o) lo hqn HN.out.symm
        subst hA
        have hcl := place_clo l[lo].k x (.int .i64 l[lo].v) ⟨_, rfl⟩ wr
        have hcz := cmp_zero l[lo].k x
        have hss : hs = decide (l[lo].k = x) := by
          rw [HSS.out]; simp [hqn]
        rw [← hss] at hcz
        generalize Lib.compareBytes l[lo].k.data.toList x.data.toList = z at hcl hcz
        generalize l[lo].k = kk at hc0 hcl
        generalize l[lo].v = vv at hc1 hcl
        have HCL := Lib.hid hcl
        clear hcl o hss
        go_wp2_with (first
          | (go_at_call 72; refine HCL.out.mono ?_; rintro e w1 ⟨rfl, o1⟩; have O1 := Lib.hid (O.out.trans o1); clear o1))
        go_ret2
        exact ⟨rfl, O1.out⟩
      · have hss : hs = false := by rw [HSS.out]; have := HN.out; simp; omega
        subst hss
        clear o
        go_wp2_with fail
        go_ret2
        exact ⟨rfl, O.out⟩
end Go.Proofs.Ytdmopjnmfjmhkaa
