/- What lay and Record of package journal do. No statement of the seat is proved here. -/
import Derived.Test.YtbhdnhnkiibaaaaJnM
import Derived.Test.YtbhdnhnkiibaaaaJnA
import Derived.Test.YtbhdnhnkiibaaaaJtC
namespace Go.Proofs.Ytbhdnhnkiibaaaa
open Go.RowKit
set_option maxRecDepth 100000
set_option linter.all false

theorem lay_no (a : Addr) (A : Option Addr) (L c : Nat) (w : World) (h : recCode L ≠ 0) :
    Calls Try.prog 60 #[.pointer (some a), .slice A L c] w fun e w' => e = .returned (.tuple #[.slice none 0 0, .int .i64 (recCode L)]) ∧ w = w' := by
  by_cases h0 : L = 0
  · subst h0
    have e : Hid (recCode 0 = 1) := rfl
    clear h
    go_enter Try.func60, Try.ntmps60
    go_wp2_with fail
    go_ret2
    rw [e.out]
    exact ⟨rfl, rfl⟩
  · have h5 : 512 < L := by
      unfold recCode at h
      rw [if_neg h0] at h
      split at h
      · assumption
      · exact absurd rfl h
    have e : Hid (recCode L = 7) := by rw [Hid, recCode, if_neg h0, if_pos h5]
    have d0 : ((L : Int) == 0) = false := by simp; omega
    have d5 : decide ((512 : Int) < (L : Int)) = true := by simp; omega
    clear h h0 h5
    go_enter Try.func60, Try.ntmps60
    go_wp2_with fail
    go_ret2
    rw [e.out]
    exact ⟨rfl, rfl⟩

set_option maxHeartbeats 1600000 in
theorem lay_ok {tt : TypeId} {P Q : Array Value} {o : Nat} (ho : P.size = o) (g : Nat) (S : Nat → Prop) (A : Option Addr) (L c : Nat) (bs : List UInt8) (w : World) (h : TabP tt P Q w g) (hx : Byt w S (.slice A L c) bs) (hS : ∀ b, S b → b ≠ g) (h1 : 0 < L) (h2 : L ≤ 512) :
    Calls Try.prog 60 #[.pointer (some ⟨g, o, none⟩), .slice A L c] w fun e w' => ∃ A' n' c', e = .returned (.tuple #[.slice A' n' c', .int .i64 0]) ∧ w'.ownsRow w.heap.size 5 1 (.slice A' n' c') (recB bs).length (byts (recB bs)) ∧ TabP tt P Q w' g ∧ Only (one g) w w' := by
  have hLb : L = bs.length := by obtain ⟨_, _, he, _⟩ := hx; injection he
  have hgw := h.lt
  have d0 : ((L : Int) == 0) = false := by simp; omega
  have d5 : decide ((512 : Int) < (L : Int)) = false := by simp; omega
  have hcv : IntKind.u64.wrap (L : Int) = (L : Int) := by rw [IntKind.wrap_u64]; omega
  have W0 : Wr (w.alloc (.cells #[.int .i64 0, .slice none 0 0] 153)) w.heap.size w.heap.size 0 (.slice none 0 0) [] := ⟨Blk.new _ _ _, World.ownsRow_nil _ _ _ _⟩
  have hN := writer_number w.heap.size w.heap.size 0 2 L (.slice none 0 0) [] _ W0 (by omega) (by simp) (by simp)
  rw [(two_put L (by omega) []).1, (two_put L (by omega) []).2, List.nil_append] at hN
  have HNB := Lib.hid hN
  have T0 := Lib.hid h
  have O0 := Lib.hid ((Only.refl none_ w).alloc (.cells #[.int .i64 0, .slice none 0 0] 153))
  have HX := Lib.hid (hx.mono (T := fun b => b ≠ g ∧ b < w.heap.size) (fun b hb hs => ⟨hS b hs, hb⟩))
  have HG := Lib.hid hgw
  have HP := Lib.hid ho
  have HLb := Lib.hid hLb
  have hl2 : (leBytes L 2).length ≤ 1000000 := by rw [leBytes_length]; omega
  have hl3 : bs.length ≤ 1000000 := by omega
  have HB : Hid (recB bs = [crcMark (leBytes L 2), crcMark bs].flatten) := by rw [Hid, recB, hdB, ← hLb]; simp
  have hlen : Hid (0 < [crcMark (leBytes L 2), crcMark bs].flatten.length ∧ [crcMark (leBytes L 2), crcMark bs].flatten.length ≤ 1000000) := by
    rw [Hid, ← HB.out, recB_len]; omega
  clear h hx hS hgw ho hLb h1 h2 hN W0
  have tokA : True := trivial
  go_enter Try.func60, Try.ntmps60
  go_wp2_with (first
    | (go_at_call 80; refine HNB.out.mono ?_; rintro e w1 ⟨rfl, v1, r1, o1, m1⟩
       have R1 := Lib.hid r1
       have hne : ∀ k, k < w.heap.size → ¬ foot w.heap.size (.slice none 0 0) k := fun k hk hf => by
         rcases hf with h | h
         · omega
         · simp [Value.ownBlock] at h
       have O1 : Hid (Only none_ w w1) := O0.out.trans' o1 (fun k hk hf => hne k hk hf)
       clear r1 o1 m1 hne)
    | (go_at_call 81; refine (writer_bytes _ _ _ _ _ _ R1.out (by omega)).mono ?_; rintro e w2 ⟨A2, n2, c2, rfl, own2, o2⟩
       have O2 := Lib.hid (O1.out.trans o2)
       have hge := O1.out.size
       have B2 : Hid (Byt w2 (fun b => b ≠ g ∧ w.heap.size ≤ b) (.slice A2 n2 c2) (leBytes L 2)) := (Byt.of_own own2).mono (fun b _ hb => by have hh := (own2.lt b hb).1; have hg := HG.out; exact ⟨by omega, by omega⟩)
       have T2 := Lib.hid (T0.out.only O2.out (fun h => h))
       clear own2 o2 hge)
    | (go_at_call 83; have _t := tokA; clear tokA; refine (mark_at HP.out g _ _ _ _ T2.out B2.out (fun _ h => h.1) hl2).mono ?_; rintro e w3 ⟨A3, n3, c3, rfl, own3, t3, o3⟩
       have O3 := Lib.hid (O2.out.of_none.trans o3)
       have T3 := Lib.hid t3
       have hge := O2.out.size
       have B3 : Hid (Byt w3 (fun b => b ≠ g ∧ w.heap.size ≤ b) (.slice A3 n3 c3) (crcMark (leBytes L 2))) := (Byt.of_own own3).mono (fun b _ hb => by have hh := (own3.lt b hb).1; have hg := HG.out; exact ⟨by omega, by omega⟩)
       clear own3 t3 o3 hge
       have tokB : True := trivial)
    | (go_at_call 83; have _t := tokB; clear tokB; refine (mark_at HP.out g _ _ _ _ T3.out (HX.out.only O3.out (fun _ h => h.1)) (fun _ h => h.1) hl3).mono ?_; rintro e w4 ⟨A4, n4, c4, rfl, own4, t4, o4⟩
       have O4 := Lib.hid (O3.out.trans o4)
       have T4 := Lib.hid t4
       have hge := O3.out.size
       have B4 : Hid (Byt w4 (fun b => b ≠ g ∧ w.heap.size ≤ b) (.slice A4 n4 c4) (crcMark bs)) := (Byt.of_own own4).mono (fun b _ hb => by have hh := (own4.lt b hb).1; have hg := HG.out; exact ⟨by omega, by omega⟩)
       have C4 := Lib.hid (B3.out.only o4 (fun _ h => h.1))
       have hz4 := Lib.hid O4.out.size
       have R4 := Lib.hid (rows_two (t := 71) (S := fun b => b ≠ g ∧ w.heap.size ≤ b) C4.out B4.out ⟨by have := HG.out; have := hz4.out; omega, hz4.out⟩ w4.heap.size rfl)
       clear own4 t4 o4 hge)
    | (go_at_call 82; refine (concat_any _ _ _ _ R4.out hlen.out.1 hlen.out.2).mono ?_; rintro e w5 ⟨A5, n5, c5, rfl, own5, o5⟩
       have O5 := Lib.hid (((O4.out.alloc (.cells #[.slice A3 n3 c3, .slice A4 n4 c4] 71))).trans o5.of_none)
       have T5 := Lib.hid ((T4.out.only ((Only.refl none_ w4).alloc (.cells #[.slice A3 n3 c3, .slice A4 n4 c4] 71)) (fun h => h)).only o5 (fun h => h))
       have X5 : Hid (w5.ownsRow w.heap.size 5 1 (.slice A5 n5 c5) (recB bs).length (byts (recB bs))) := by
         rw [HB.out]; exact owns_base own5 (Nat.le_trans hz4.out (by simp))
       clear own5 o5))
  go_ret2
  exact ⟨_, _, _, rfl, X5.out, T5.out, O5.out⟩

/-- What a record's bytes are told as. -/
def RecV (w0 w : World) (v : Value) (bs : List UInt8) : Prop := (recCode bs.length = 0 ∧ ∃ A n c, v = .slice A n c ∧ w.ownsRow w0.heap.size 5 1 (.slice A n c) (recB bs).length (byts (recB bs))) ∨ (recCode bs.length ≠ 0 ∧ v = .slice none 0 0)
theorem rec_ok {n : Nat} (h : recCode n = 0) : 0 < n ∧ n ≤ 512 := by
  unfold recCode at h
  split at h
  · cases h
  · split at h
    · cases h
    · omega
theorem lay_any7 {tt : TypeId} {P Q : Array Value} {o : Nat} (ho : P.size = o) (g : Nat) (S : Nat → Prop) (x : Value) (bs : List UInt8) (w : World) (h : TabP tt P Q w g) (hx : Byt w S x bs) (hS : ∀ b, S b → b ≠ g) :
    Calls Try.prog 60 #[.pointer (some ⟨g, o, none⟩), x] w fun e w' => ∃ v, e = .returned (.tuple #[v, .int .i64 (recCode bs.length)]) ∧ RecV w w' v bs ∧ TabP tt P Q w' g ∧ Only (one g) w w' := by
  have hv : ∃ A c, x = .slice A bs.length c := by obtain ⟨A, c, h, _⟩ := hx; exact ⟨A, c, h⟩
  obtain ⟨A, c, rfl⟩ := hv
  by_cases hc : recCode bs.length = 0
  · refine (lay_ok ho g S A bs.length c bs w h hx hS (rec_ok hc).1 (rec_ok hc).2).mono ?_
    rintro e w' ⟨A', n', c', rfl, ow, t, o1⟩
    exact ⟨_, by rw [hc], .inl ⟨hc, _, _, _, rfl, ow⟩, t, o1⟩
  · refine (lay_no _ A bs.length c w hc).mono ?_
    rintro e w' ⟨rfl, rfl⟩
    exact ⟨_, rfl, .inr ⟨hc, rfl⟩, h, Only.refl _ _⟩

set_option maxHeartbeats 800000 in
theorem record_any (S : Nat → Prop) (x : Value) (bs : List UInt8) (w : World) (hx : Byt w S x bs) :
    Calls Try.prog 54 #[x] w fun e w' => ∃ v, e = .returned (.tuple #[v, .int .i64 (recCode bs.length)]) ∧ RecV w w' v bs ∧ Only none_ w w' := by
  have hz := run_zero_tab
  have T0 := Lib.hid (Tab.new 124 w).pad
  have O0 := Lib.hid ((Only.refl none_ w).alloc (.cells tabZero 124))
  have HX := Lib.hid ((hx.mono (T := fun b => b < w.heap.size) (fun b hb _ => hb)).alloc (.cells tabZero 124))
  have hsz : Hid (w.heap.size < (w.alloc (.cells tabZero 124)).heap.size) := by simp [Hid]
  clear hx
  go_enter Try.func54, Try.ntmps54
  go_wp2_with (first
    | (go_at_call 60; refine (lay_any7 rfl w.heap.size _ _ _ _ T0.out HX.out (fun b hb => by omega)).mono ?_; rintro e w1 ⟨v, rfl, r, t, o⟩
       have R := Lib.hid r
       have O1 : Hid (Only none_ w w1) := O0.out.trans' o (fun k hk e => by have e' : k = w.heap.size := e; omega)
       clear r t o))
  go_ret2
  refine ⟨v, rfl, ?_, O1.out⟩
  rcases R.out with ⟨hc, A, n, c, rfl, ow⟩ | h
  · exact .inl ⟨hc, A, n, c, rfl, owns_base ow (Nat.le_of_lt hsz.out)⟩
  · exact .inr h
end Go.Proofs.Ytbhdnhnkiibaaaa
