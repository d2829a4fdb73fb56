/- What Read of package journal does. No statement of the seat is proved here. -/
import Derived.Test.YtbhdnhnkiibaaaaJnC
import Derived.Test.YtbhdnhnkiibaaaaJnL
import Derived.Great.BuildSlice
namespace Go.Proofs.Ytbhdnhnkiibaaaa
open Go.RowKit
set_option maxRecDepth 100000
set_option linter.all false
attribute [local go_sem ↓] Go.wp_at_zero Go.wp_at_succ

theorem rdr_zero : (Try.prog.info? 145).map (·.zero) = some (some (.agg (tabZero.push (.slice none 0 0)))) := by kernel_rfl
theorem run_zero_rdr (w : World) : (zeroValue 145).run Try.prog w = .ok (.agg (tabZero.push (.slice none 0 0))) w := by
  have h := rdr_zero
  cases hi : Try.prog.info? 145 with
  | none => rw [hi] at h; cases h
  | some i =>
    rw [hi] at h
    have hz : i.zero = some (.agg (tabZero.push (.slice none 0 0))) := by simpa using h
    simp [zeroValue, typeInfo, hi, hz]
theorem rdr_built (A : Option Addr) (n c : Nat) : Try.prog.built 145 [(1, .slice A n c)] = some (tabZero.push (.slice A n c)) := by kernel_rfl
theorem rdr_size : (Try.prog.info? 145).map (·.size) = some 260 := by kernel_rfl
theorem tabZero_size : tabZero.size = 259 := by rw [rowCells_zero, rowCells_size]
theorem tab_one (v : Value) (hv : v.oneCell' = true) : (tabZero.push v).all (·.oneCell') = true := by
  have h : tabZero.all (·.oneCell') = true := by kernel_rfl
  rw [Array.push_eq_append, Array.all_append, h]; simp [hv]
def lenV : Value → Nat
  | .slice _ n _ => n
  | _ => 0

set_option maxHeartbeats 3200000 in
theorem read7 (A : Option Addr) (c : Nat) (bs : List UInt8) (S : Nat → Prop) (w : World) (hx : Byt w S (.slice A bs.length c) bs) (hl : bs.length ≤ 1048576) :
    Calls Try.prog 58 #[.slice A bs.length c] w fun e w' => ∃ v, e = .returned (.tuple #[v, .int .i64 ((jnRead bs).2.1 : Int), .int .i64 (jnRead bs).2.2]) ∧ Lst w' (w.heap.size + 1) (fun b => w.heap.size + 1 ≤ b) v (jnRead bs).1 ∧ Only none_ w w' := by
  obtain ⟨R, hR⟩ : ∃ R, jnRead bs = R := ⟨_, rfl⟩
  have hR0 : jnR (bs.length + 1) [] 0 bs = R := hR
  rw [hR]
  obtain ⟨L, hL⟩ : ∃ L, bs.length = L := ⟨_, rfl⟩
  have hz := run_zero_rdr
  have B0 := Lib.hid (Blk.new w 145 (tabZero.push (.slice none 0 0)))
  have B1 := Lib.hid (B0.out.setRow (tabZero.push (.slice A L c)))
  have O1 := Lib.hid (((Only.refl none_ w).alloc (.cells (tabZero.push (.slice none 0 0)) 145)).setRow (g := w.heap.size) (.inr (Nat.le_refl _)) (tabZero.push (.slice A L c)))
  have R1 : Hid (Rdr ((w.alloc (.cells (tabZero.push (.slice none 0 0)) 145)).setRow w.heap.size (tabZero.push (.slice A L c))) w.heap.size (fun b => b < w.heap.size) bs) := by
    refine ⟨A, c, .inl ?_, (hx.mono (T := fun b => b < w.heap.size) (fun b hb _ => hb)).only O1.out (fun _ _ h => h)⟩
    have := B1.out
    rw [rowCells_zero, Array.push_eq_append, Array.push_eq_append, ← hL] at this
    rw [Array.empty_append, ← hL, Array.push_eq_append, Array.push_eq_append]
    exact this
  rw [hL] at hl hR0 ⊢
  have HR0 := Lib.hid hR0
  have HL := Lib.hid hL
  clear hx hR hR0 hL
  go_enter Try.func58, Try.ntmps58
  go_wp2_with (first
    | (refine wpList_buildTo rfl 145 _ rfl _ rfl (tabZero.push (.slice A L c)) (rdr_built A L c) ?_)
    | (refine wpList_store_row rfl 145 _ _ rfl w.heap.size (tabZero.push (.slice A L c)) rfl rfl 145 _ B0.out (by rw [rdr_size, Array.size_push, tabZero_size]) (by simp) (tab_one _ rfl) ?_))
  generalize (w.alloc (.cells (tabZero.push (.slice none 0 0)) 145)).setRow w.heap.size (tabZero.push (.slice A L c)) = W1 at *
  generalize Value.agg (tabZero.push (.slice A L c)) = zz
  have hge : w.heap.size + 1 ≤ W1.heap.size := by have := R1.out; obtain ⟨_, _, h, _⟩ := this; exact h.lt
  go_loopw [6] (fun v wr => ∃ (f : Nat) (acc : List (List UInt8)) (n : Nat), n ≤ L ∧ acc.length ≤ n ∧ L - n < f ∧ jnR f acc n (bs.drop n) = R ∧ Lst wr (w.heap.size + 1) (fun b => w.heap.size + 1 ≤ b) v acc ∧ Rdr wr w.heap.size (fun b => b < w.heap.size) (bs.drop n) ∧ Only none_ w wr) (fun v _ => L + 1 - lenV v)
  case atStart => exact ⟨L + 1, [], 0, by omega, by simp, by omega, by simpa using HR0.out, Lst.nil _ _ _, by simpa using R1.out, O1.out⟩
  case round =>
    obtain ⟨f, acc, n, hn, ha, hf, hj, hl1, hr, ho⟩ := hrel
    obtain ⟨f', rfl⟩ : ∃ f', f = f' + 1 := ⟨f - 1, by omega⟩
    rw [jnR_step] at hj
    obtain ⟨A1, c1, rfl⟩ := hl1.shape
    have hdl : (bs.drop n).length = L - n := by rw [List.length_drop, HL.out]
    have HNX := next_any w.heap.size (fun b => b < w.heap.size) (bs.drop n) wr hr (fun b hb => by omega) (by omega)
    have HLS := Lib.hid hl1
    have HO := Lib.hid ho
    have HF := Lib.hid (And.intro hn (And.intro ha hf))
    have hwr : w.heap.size + 1 ≤ wr.heap.size := by obtain ⟨_, _, h, _⟩ := hr; exact h.lt
    have HWR := Lib.hid hwr
    rcases jnK_cases (bs.drop n) with hk | hk | hk
    · have hz := jnK_zero hk
      rw [if_neg (by omega), if_neg (by omega)] at hj
      have HJ := Lib.hid hj
      have HZ := Lib.hid (And.intro hz.2.2.1 (And.intro hz.2.2.2.2.1 hdl))
      rw [show (jnK (bs.drop n) : Int) = 0 by rw [hk]; rfl] at HNX
      have HX := Lib.hid HNX
      have HK := Lib.hid hk
      clear hj hz hl1 hr ho HNX hn ha hf hdl hwr hk
      go_wp2_with (first
        | (go_at_call 77; refine HX.out.mono ?_; rintro e w2 ⟨v, rfl, hnx, o2⟩
           have NX := Lib.hid hnx
           have O2 := Lib.hid o2
           have hv : ∃ A2 n2 c2, v = .slice A2 n2 c2 := by
             rcases hnx with ⟨h0, _⟩ | ⟨_, A2, n2, c2, h, _⟩
             · exact absurd HK.out h0
             · exact ⟨A2, n2, c2, h⟩
           obtain ⟨A2, n2, c2, rfl⟩ := hv
           have own2 : w2.ownsRow wr.heap.size 5 1 (.slice A2 n2 c2) (jnB (bs.drop n)).length (byts (jnB (bs.drop n))) ∧ Rdr w2 w.heap.size (fun b => b < w.heap.size) ((bs.drop n).drop (10 + jnN (bs.drop n))) := by
             rcases hnx with ⟨h0, _⟩ | ⟨_, A3, n3, c3, h, ow, rd⟩
             · exact absurd HK.out h0
             · rw [h]; exact ⟨ow, rd⟩
           have L2 := Lib.hid (HLS.out.only o2 (fun b hb e => by have e' : b = w.heap.size := e; have := (HLS.out.own_lt b hb).1; omega) (fun b hb e => by have e' : b = w.heap.size := e; have hb' : w.heap.size + 1 ≤ b := hb; omega))
           have Y2 : Hid (Byt w2 (fun b => w.heap.size + 1 ≤ b ∧ (Value.slice A1 acc.length c1).ownBlock ≠ some b) (.slice A2 n2 c2) (jnB (bs.drop n))) :=
             (Byt.of_own own2.1).mono (fun b _ hb => ⟨Nat.le_trans HWR.out (own2.1.lt b hb).1, fun e => by have h1 := (HLS.out.own_lt b e).2; have h2 := (own2.1.lt b hb).1; omega⟩)
           have RD2 := Lib.hid own2.2
           have hb2 : w.heap.size + 1 ≤ w2.heap.size := Nat.le_trans HWR.out o2.size
           have hc2 : acc.length ≤ 2000000 := by have := HF.out.2.1; have := HF.out.1; omega
           clear hnx o2 own2)
        | (at_builtin; refine wpList_append_lst w2 rfl (.tmp 27) (.tmp 29) rfl (w.heap.size + 1) _ _ acc rfl L2.out _ _ rfl Y2.out hb2 hc2 ?_
           intro A3 n3 c3 w3 hl3 ho3 hm3
           have L3 := Lib.hid hl3
           have R3 := Lib.hid (RD2.out.only ho3 (fun e => by have := (HLS.out.own_lt _ e).1; omega) (fun b hb e => by have := (HLS.out.own_lt _ e).1; have hb' : b < w.heap.size := hb; omega))
           have O3 : Hid (Only none_ w w3) := (HO.out.trans' O2.out (fun k hk e => by have e' : k = w.heap.size := e; omega)).trans' ho3 (fun k hk e => by have := (HLS.out.own_lt _ e).1; omega)
           have N3 : Hid (n3 = (acc ++ [jnB (bs.drop n)]).length) := by obtain ⟨_, _, h⟩ := hl3.shape; injection h
           clear hl3 ho3 hm3))
      go_roundw
      case rel =>
        have h1 := HF.out.1; have h2 := HF.out.2.1; have h3 := HF.out.2.2
        have z1 := HZ.out.1; have z2 := HZ.out.2.1; have z3 := HZ.out.2.2
        have hd : (bs.drop n).drop (10 + jnN (bs.drop n)) = bs.drop (n + (10 + jnN (bs.drop n))) := by rw [List.drop_drop]
        have hj := HJ.out
        have hr := R3.out
        rw [hd] at hj hr
        exact ⟨f', acc ++ [jnB (bs.drop n)], n + (10 + jnN (bs.drop n)), by omega, by rw [List.length_append, List.length_cons, List.length_nil]; omega, by omega, hj, L3.out, hr, O3.out⟩
      case measure =>
        have h1 := HF.out.1; have h2 := HF.out.2.1
        have h3 := N3.out
        rw [List.length_append, List.length_cons, List.length_nil] at h3
        simp only [lenV]
        omega
    · rw [if_neg (by omega), if_pos hk] at hj
      rw [show (jnK (bs.drop n) : Int) = 1 by rw [hk]; rfl] at HNX
      have HX := Lib.hid HNX
      have HK := Lib.hid hk
      subst hj
      have HD := Lib.hid hdl
      clear hl1 hr ho HNX hn ha hf hdl hwr hk
      go_wp2_with (first
        | (go_at_call 77; refine HX.out.mono ?_; rintro e w2 ⟨v, rfl, hnx, o2⟩
           have O2 : Hid (Only none_ w w2) := HO.out.trans' o2 (fun k hk e => by have e' : k = w.heap.size := e; omega)
           have L2 := Lib.hid (HLS.out.only o2 (fun b hb e => by have e' : b = w.heap.size := e; have := (HLS.out.own_lt b hb).1; omega) (fun b hb e => by have e' : b = w.heap.size := e; have hb' : w.heap.size + 1 ≤ b := hb; omega))
           have hrd : Rdr w2 w.heap.size (fun b => b < w.heap.size) (bs.drop n) ∧ v = .slice none 0 0 := by
             rcases hnx with ⟨_, h, rd⟩ | ⟨h0, _⟩
             · exact ⟨rd, h⟩
             · have := HK.out; omega
           obtain ⟨⟨A4, c4, tp, _⟩, rfl⟩ := hrd
           have rest2 := tp.rest
           obtain ⟨m, hm⟩ : ∃ m, (bs.drop n).length = m := ⟨_, rfl⟩
           rw [hm] at rest2
           have hsub : IntKind.i64.wrap ((L : Int) - (m : Int)) = (n : Int) := by
             have h1 := HF.out.1; have h2 := HD.out
             rw [IntWalk.i64_in _ (by omega)]; omega
           clear hnx o2 tp hm))
      go_quiet (fail)
      go_wp2_with fail
      refine bodyPost_ret (v := .tuple #[.slice A1 acc.length c1, .int .i64 (n : Int), .int .i64 0]) (by simp [results, Try.results58, go_sem]) rfl ?_
      exact ⟨_, rfl, L2.out.only ((Only.refl none_ w2).drewN _) (fun _ _ h => h) (fun _ _ h => h), O2.out.drewN _⟩
    · rw [if_pos hk] at hj
      rw [show (jnK (bs.drop n) : Int) = 2 by rw [hk]; rfl] at HNX
      have HX := Lib.hid HNX
      subst hj
      clear hl1 hr ho HNX hn ha hf hdl hwr hk
      go_wp2_with (first
        | (go_at_call 77; refine HX.out.mono ?_; rintro e w2 ⟨v, rfl, hnx, o2⟩
           have O2 : Hid (Only none_ w w2) := HO.out.trans' o2 (fun k hk e => by have e' : k = w.heap.size := e; omega)
           clear hnx o2))
      refine bodyPost_ret (v := .tuple #[.slice none 0 0, .int .i64 0, .int .i64 12]) (by simp [results, Try.results58, go_sem]) rfl ?_
      exact ⟨_, rfl, Lst.nil _ _ _, O2.out⟩
end Go.Proofs.Ytbhdnhnkiibaaaa
