/- Texts of mine, one behind the other: JnB, JnC, JnL, JnD, DkA, DkB, DkC. No statement of the seat is proved here. -/
import Derived.Test.YtoohpcomnhfgpaaGreatHs9
import Derived.Test.YtoohpcomnhfgpaaGreatHs8
import Derived.Test.YtoohpcomnhfgpaaGreatHs4
import Derived.Test.YtoohpcomnhfgpaaGreatHs5
import Derived.Great.BuildSlice
import Derived.Test.YtoohpcomnhfgpaaGreatHs2
import Derived.Deep.RegionLaw
import Derived.BigQuiet
section
namespace Go.Proofs.YtoohpcomnhfgpaaGreat
open Go.RowKit
set_option maxRecDepth 100000
set_option linter.all false
theorem lay_no (a : Addr) (A : Option Addr) (L c : Nat) (w : World) (h : recCode L ≠ 0) :
    Calls Tryz.prog 283 #[.pointer (some a), .slice A L c] w fun e w' => e = .returned (.tuple #[.slice none 0 0, .int .i64 (recCode L)]) ∧ w = w' := by
  by_cases h0 : L = 0
  · subst h0
    have e : Hid (recCode 0 = 1) := rfl
    clear h
    go_enter Tryz.func283, Tryz.ntmps283
    go_wp2_with fail
    go_ret2
    rw [e.out]
    exact ⟨rfl, rfl⟩
  · have h5 : 512 < L := by
      unfold recCode at h
      rw [if_neg h0] at h
      split at h
      · assumption
      · exact absurd rfl h
    have e : Hid (recCode L = 7) := by rw [Hid, recCode, if_neg h0, if_pos h5]
    have d0 : ((L : Int) == 0) = false := by simp; omega
    have d5 : decide ((512 : Int) < (L : Int)) = true := by simp; omega
    clear h h0 h5
    go_enter Tryz.func283, Tryz.ntmps283
    go_wp2_with fail
    go_ret2
    rw [e.out]
    exact ⟨rfl, rfl⟩
set_option maxHeartbeats 1600000 in
theorem lay_ok {tt : TypeId} {P Q : Array Value} {o : Nat} (ho : P.size = o) (g : Nat) (S : Nat → Prop) (A : Option Addr) (L c : Nat) (bs : List UInt8) (w : World) (h : TabP tt P Q w g) (hx : Byt w S (.slice A L c) bs) (hS : ∀ b, S b → b ≠ g) (h1 : 0 < L) (h2 : L ≤ 512) :
    Calls Tryz.prog 283 #[.pointer (some ⟨g, o, none⟩), .slice A L c] w fun e w' => ∃ A' n' c', e = .returned (.tuple #[.slice A' n' c', .int .i64 0]) ∧ w'.ownsRow w.heap.size 5 1 (.slice A' n' c') (recB bs).length (byts (recB bs)) ∧ TabP tt P Q w' g ∧ Only (one g) w w' := by
  have hLb : L = bs.length := by obtain ⟨_, _, he, _⟩ := hx; injection he
  have hgw := h.lt
  have d0 : ((L : Int) == 0) = false := by simp; omega
  have d5 : decide ((512 : Int) < (L : Int)) = false := by simp; omega
  have hcv : IntKind.u64.wrap (L : Int) = (L : Int) := by rw [IntKind.wrap_u64]; omega
  have W0 : Wr (w.alloc (.cells #[.int .i64 0, .slice none 0 0] 318)) w.heap.size w.heap.size 0 (.slice none 0 0) [] := ⟨Blk.new _ _ _, World.ownsRow_nil _ _ _ _⟩
  have hN := writer_number w.heap.size w.heap.size 0 2 L (.slice none 0 0) [] _ W0 (by omega) (by simp) (by simp)
  rw [(two_put L (by omega) []).1, (two_put L (by omega) []).2, List.nil_append] at hN
  have HNB := Lib.hid hN
  have T0 := Lib.hid h
  have O0 := Lib.hid ((Only.refl none_ w).alloc (.cells #[.int .i64 0, .slice none 0 0] 318))
  have HX := Lib.hid (hx.mono (T := fun b => b ≠ g ∧ b < w.heap.size) (fun b hb hs => ⟨hS b hs, hb⟩))
  have HG := Lib.hid hgw
  have HP := Lib.hid ho
  have HLb := Lib.hid hLb
  have hl2 : (leBytes L 2).length ≤ 1000000 := by rw [leBytes_length]; omega
  have hl3 : bs.length ≤ 1000000 := by omega
  have HB : Hid (recB bs = [crcMark (leBytes L 2), crcMark bs].flatten) := by rw [Hid, recB, hdB, ← hLb]; simp
  have hlen : Hid (0 < [crcMark (leBytes L 2), crcMark bs].flatten.length ∧ [crcMark (leBytes L 2), crcMark bs].flatten.length ≤ 1000000) := by
    rw [Hid, ← HB.out, recB_len]; omega
  clear h hx hS hgw ho hLb h1 h2 hN W0
  have tokA : True := trivial
  go_enter Tryz.func283, Tryz.ntmps283
  go_wp2_with (first
    | (go_at_call 239; refine HNB.out.mono ?_; rintro e w1 ⟨rfl, v1, r1, o1, m1⟩
       have R1 := Lib.hid r1
       have hne : ∀ k, k < w.heap.size → ¬ foot w.heap.size (.slice none 0 0) k := fun k hk hf => by
         rcases hf with h | h
         · omega
         · simp [Value.ownBlock] at h
       have O1 : Hid (Only none_ w w1) := O0.out.trans' o1 (fun k hk hf => hne k hk hf)
       clear r1 o1 m1 hne)
    | (go_at_call 210; refine (writer_bytes _ _ _ _ _ _ R1.out (by omega)).mono ?_; rintro e w2 ⟨A2, n2, c2, rfl, own2, o2⟩
       have O2 := Lib.hid (O1.out.trans o2)
       have hge := O1.out.size
       have B2 : Hid (Byt w2 (fun b => b ≠ g ∧ w.heap.size ≤ b) (.slice A2 n2 c2) (leBytes L 2)) := (Byt.of_own own2).mono (fun b _ hb => by have hh := (own2.lt b hb).1; have hg := HG.out; exact ⟨by omega, by omega⟩)
       have T2 := Lib.hid (T0.out.only O2.out (fun h => h))
       clear own2 o2 hge)
    | (go_at_call 291; have _t := tokA; clear tokA; refine (mark_at HP.out g _ _ _ _ T2.out B2.out (fun _ h => h.1) hl2).mono ?_; rintro e w3 ⟨A3, n3, c3, rfl, own3, t3, o3⟩
       have O3 := Lib.hid (O2.out.of_none.trans o3)
       have T3 := Lib.hid t3
       have hge := O2.out.size
       have B3 : Hid (Byt w3 (fun b => b ≠ g ∧ w.heap.size ≤ b) (.slice A3 n3 c3) (crcMark (leBytes L 2))) := (Byt.of_own own3).mono (fun b _ hb => by have hh := (own3.lt b hb).1; have hg := HG.out; exact ⟨by omega, by omega⟩)
       clear own3 t3 o3 hge
       have tokB : True := trivial)
    | (go_at_call 291; have _t := tokB; clear tokB; refine (mark_at HP.out g _ _ _ _ T3.out (HX.out.only O3.out (fun _ h => h.1)) (fun _ h => h.1) hl3).mono ?_; rintro e w4 ⟨A4, n4, c4, rfl, own4, t4, o4⟩
       have O4 := Lib.hid (O3.out.trans o4)
       have T4 := Lib.hid t4
       have hge := O3.out.size
       have B4 : Hid (Byt w4 (fun b => b ≠ g ∧ w.heap.size ≤ b) (.slice A4 n4 c4) (crcMark bs)) := (Byt.of_own own4).mono (fun b _ hb => by have hh := (own4.lt b hb).1; have hg := HG.out; exact ⟨by omega, by omega⟩)
       have C4 := Lib.hid (B3.out.only o4 (fun _ h => h.1))
       have hz4 := Lib.hid O4.out.size
       have R4 := Lib.hid (rows_two (t := 114) (S := fun b => b ≠ g ∧ w.heap.size ≤ b) C4.out B4.out ⟨by have := HG.out; have := hz4.out; omega, hz4.out⟩ w4.heap.size rfl)
       clear own4 t4 o4 hge)
    | (go_at_call 290; refine (concat_any _ _ _ _ R4.out hlen.out.1 hlen.out.2).mono ?_; rintro e w5 ⟨A5, n5, c5, rfl, own5, o5⟩
       have O5 := Lib.hid (((O4.out.alloc (.cells #[.slice A3 n3 c3, .slice A4 n4 c4] 114))).trans o5.of_none)
       have T5 := Lib.hid ((T4.out.only ((Only.refl none_ w4).alloc (.cells #[.slice A3 n3 c3, .slice A4 n4 c4] 114)) (fun h => h)).only o5 (fun h => h))
       have X5 : Hid (w5.ownsRow w.heap.size 5 1 (.slice A5 n5 c5) (recB bs).length (byts (recB bs))) := by
         rw [HB.out]; exact owns_base own5 (Nat.le_trans hz4.out (by simp))
       clear own5 o5))
  go_ret2
  exact ⟨_, _, _, rfl, X5.out, T5.out, O5.out⟩
def RecV (w0 w : World) (v : Value) (bs : List UInt8) : Prop := (recCode bs.length = 0 ∧ ∃ A n c, v = .slice A n c ∧ w.ownsRow w0.heap.size 5 1 (.slice A n c) (recB bs).length (byts (recB bs))) ∨ (recCode bs.length ≠ 0 ∧ v = .slice none 0 0)
theorem rec_ok {n : Nat} (h : recCode n = 0) : 0 < n ∧ n ≤ 512 := by
  unfold recCode at h
  split at h
  · cases h
  · split at h
    · cases h
    · omega
theorem lay_any7 {tt : TypeId} {P Q : Array Value} {o : Nat} (ho : P.size = o) (g : Nat) (S : Nat → Prop) (x : Value) (bs : List UInt8) (w : World) (h : TabP tt P Q w g) (hx : Byt w S x bs) (hS : ∀ b, S b → b ≠ g) :
    Calls Tryz.prog 283 #[.pointer (some ⟨g, o, none⟩), x] w fun e w' => ∃ v, e = .returned (.tuple #[v, .int .i64 (recCode bs.length)]) ∧ RecV w w' v bs ∧ TabP tt P Q w' g ∧ Only (one g) w w' := by
  have hv : ∃ A c, x = .slice A bs.length c := by obtain ⟨A, c, h, _⟩ := hx; exact ⟨A, c, h⟩
  obtain ⟨A, c, rfl⟩ := hv
  by_cases hc : recCode bs.length = 0
  · refine (lay_ok ho g S A bs.length c bs w h hx hS (rec_ok hc).1 (rec_ok hc).2).mono ?_
    rintro e w' ⟨A', n', c', rfl, ow, t, o1⟩
    exact ⟨_, by rw [hc], .inl ⟨hc, _, _, _, rfl, ow⟩, t, o1⟩
  · refine (lay_no _ A bs.length c w hc).mono ?_
    rintro e w' ⟨rfl, rfl⟩
    exact ⟨_, rfl, .inr ⟨hc, rfl⟩, h, Only.refl _ _⟩
end Go.Proofs.YtoohpcomnhfgpaaGreat
end
section
namespace Go.Proofs.YtoohpcomnhfgpaaGreat
open Go.RowKit
set_option maxRecDepth 100000
set_option linter.all false
theorem TabP.any {tt : TypeId} {Q : Array Value} {w : World} {g : Nat} (h : TabP tt #[] Q w g) : ∃ u, w.cell? ⟨g, 0, none⟩ = some u := by
  rcases h with h | h
  · exact ⟨_, h.cell_ (pad_at (P := #[]) (o := 0) (j := 0) rfl (show (rowCells 0 0 0)[0]? = some (.int .u32 0) by rw [rowCells, Array.getElem?_append_left (by simp)]; rfl))⟩
  · exact ⟨_, h.cell_ (pad_at (P := #[]) (o := 0) (j := 0) rfl (show (rowCells 1 0 256)[0]? = some (.int .u32 1) by rw [rowCells, Array.getElem?_append_left (by simp)]; rfl))⟩
theorem TabP.rest {tt : TypeId} {w : World} {g : Nat} {v : Value} (h : TabP tt #[] #[v] w g) : w.cell? ⟨g, 259, none⟩ = some v :=
  h.cell (j := 259) (fun cs hc => TabP.behind (P := #[]) (Q := #[v]) (o := 0) (j := 0) rfl rfl cs hc)
theorem num273two (hd : List UInt8) (h : hd.length = 6) : numR 0 hd 2 = (0, hd.drop 2, leVal (hd.take 2)) := by
  simp [numR, isW, h]
theorem leVal_two (hd : List UInt8) : leVal (hd.take 2) < 65536 := by
  have h1 := leVal_lt (hd.take 2)
  have h2 : (hd.take 2).length ≤ 2 := by rw [List.length_take]; omega
  have h3 : 256 ^ (hd.take 2).length ≤ 256 ^ 2 := Nat.pow_le_pow_right (by omega) h2
  omega
set_option maxHeartbeats 800000 in
theorem length_no (Q : Array Value) (g : Nat) (S : Nat → Prop) (x : Value) (hd : List UInt8) (w : World) (h : TabP 273 #[] Q w g) (hx : Byt w S x hd) (hS : ∀ b, S b → b ≠ g) (hl : hd.length = 6) (hh : crcHolds hd = false) :
    Calls Tryz.prog 215 #[.pointer (some ⟨g, 0, none⟩), x] w fun e w' => e = .returned (.tuple #[.int .i64 0, .bool false]) ∧ TabP 273 #[] Q w' g ∧ Only (one g) w w' := by
  obtain ⟨u, hu⟩ := h.any
  have HH := holds_at (o := 0) rfl g S x hd w h hx hS (by omega)
  rw [hh] at HH
  have hv : ∃ A c, x = .slice A 6 c := by obtain ⟨A, c, h, _⟩ := hx; exact ⟨A, c, by rw [h, hl]⟩
  obtain ⟨A, c, rfl⟩ := hv
  clear h hx hS hl hh
  go_enter Tryz.func215, Tryz.ntmps215
  go_wp2_with (first
    | (go_at_call 216; refine HH.mono ?_; rintro e w1 ⟨rfl, t1, o1⟩))
  go_ret2
  exact ⟨rfl, t1, o1⟩
set_option maxHeartbeats 800000 in
theorem length_yes (Q : Array Value) (g : Nat) (S : Nat → Prop) (x : Value) (hd : List UInt8) (w : World) (h : TabP 273 #[] Q w g) (hx : Byt w S x hd) (hS : ∀ b, S b → b ≠ g) (hl : hd.length = 6) (hh : crcHolds hd = true) :
    Calls Tryz.prog 215 #[.pointer (some ⟨g, 0, none⟩), x] w fun e w' => e = .returned (.tuple #[.int .i64 (leVal (hd.take 2) : Int), .bool (decide (1 ≤ leVal (hd.take 2)) && decide (leVal (hd.take 2) ≤ 512))]) ∧ TabP 273 #[] Q w' g ∧ Only (one g) w w' := by
  obtain ⟨u, hu⟩ := h.any
  have HH := holds_at (o := 0) rfl g S x hd w h hx hS (by omega)
  rw [hh] at HH
  have HX := Lib.hid (hx.mono (T := fun b => b ≠ g) (fun b _ h => hS b h))
  have HL := Lib.hid hl
  have hv : ∃ A c, x = .slice A 6 c := by obtain ⟨A, c, h, _⟩ := hx; exact ⟨A, c, by rw [h, hl]⟩
  obtain ⟨A, c, rfl⟩ := hv
  have HN := Lib.hid (num273two hd hl)
  obtain ⟨n, hn⟩ : ∃ n, leVal (hd.take 2) = n := ⟨_, rfl⟩
  have hlt : n < 65536 := hn ▸ leVal_two hd
  rw [hn] at HN ⊢
  have hcv : IntKind.i64.wrap (n : Int) = (n : Int) := IntWalk.i64_in _ (by omega)
  have hge : decide ((1 : Int) ≤ (n : Int)) = decide (1 ≤ n) := by simp; omega
  have hle : decide ((n : Int) ≤ 512) = decide (n ≤ 512) := by simp; omega
  have HG := Lib.hid h.lt
  clear h hx hS hl hh hn
  by_cases h1 : 1 ≤ n
  · have d1 : decide (1 ≤ n) = true := by simp [h1]
    rw [d1] at hge ⊢
    by_cases h5 : n ≤ 512
    · have d5 : decide (n ≤ 512) = true := by simp [h5]
      rw [d5] at hle ⊢
      clear d1 d5 h1 h5
      go_enter Tryz.func215, Tryz.ntmps215
      go_wp2_with (first
        | (go_at_call 216; refine HH.mono ?_; rintro e w1 ⟨rfl, t1, o1⟩
           have T1 := Lib.hid t1
           have O1 := Lib.hid o1
           have X1 := Lib.hid (HX.out.only o1 (fun _ h => h))
           clear t1 o1)
        | (go_at_call 174; refine (read_any _ hd _ _ X1.out (by have := HL.out; omega)).mono ?_; rintro e w2 ⟨g2, S2, rfl, hg2, r2, hS2, o2⟩
           have R2 := Lib.hid r2
           have T2 := Lib.hid (T1.out.only o2 (fun h => h))
           have O2 := Lib.hid (O1.out.trans o2.of_none)
           have hh := O1.out.size
           have N2 : Hid (g ≠ g2 ∧ w.heap.size ≤ g2) := ⟨by have := HG.out; omega, by omega⟩
           clear hg2 r2 hS2 o2 hh)
        | (go_at_call 251; refine (reader_number g2 S2 _ _ 2 _ R2.out (by have := HL.out; omega)).mono ?_; rw [HN.out]; rintro e w3 ⟨rfl, r3, o3⟩
           have T3 := Lib.hid (T2.out.only o3 (fun e => N2.out.1 e))
           have O3 : Hid (Only (one g) w w3) := O2.out.trans' o3 (fun k hk e => by have e' : k = g2 := e; have := N2.out.2; omega)
           clear r3 o3))
      go_ret2
      exact ⟨rfl, T3.out, O3.out⟩
    · have d5 : decide (n ≤ 512) = false := by simp; omega
      rw [d5] at hle ⊢
      clear d1 d5 h1 h5
      go_enter Tryz.func215, Tryz.ntmps215
      go_wp2_with (first
        | (go_at_call 216; refine HH.mono ?_; rintro e w1 ⟨rfl, t1, o1⟩
           have T1 := Lib.hid t1
           have O1 := Lib.hid o1
           have X1 := Lib.hid (HX.out.only o1 (fun _ h => h))
           clear t1 o1)
        | (go_at_call 174; refine (read_any _ hd _ _ X1.out (by have := HL.out; omega)).mono ?_; rintro e w2 ⟨g2, S2, rfl, hg2, r2, hS2, o2⟩
           have R2 := Lib.hid r2
           have T2 := Lib.hid (T1.out.only o2 (fun h => h))
           have O2 := Lib.hid (O1.out.trans o2.of_none)
           have hh := O1.out.size
           have N2 : Hid (g ≠ g2 ∧ w.heap.size ≤ g2) := ⟨by have := HG.out; omega, by omega⟩
           clear hg2 r2 hS2 o2 hh)
        | (go_at_call 251; refine (reader_number g2 S2 _ _ 2 _ R2.out (by have := HL.out; omega)).mono ?_; rw [HN.out]; rintro e w3 ⟨rfl, r3, o3⟩
           have T3 := Lib.hid (T2.out.only o3 (fun e => N2.out.1 e))
           have O3 : Hid (Only (one g) w w3) := O2.out.trans' o3 (fun k hk e => by have e' : k = g2 := e; have := N2.out.2; omega)
           clear r3 o3))
      go_ret2
      exact ⟨rfl, T3.out, O3.out⟩
  · have d1 : decide (1 ≤ n) = false := by simp; omega
    rw [d1] at hge ⊢
    clear d1 h1
    go_enter Tryz.func215, Tryz.ntmps215
    go_wp2_with (first
      | (go_at_call 216; refine HH.mono ?_; rintro e w1 ⟨rfl, t1, o1⟩
         have T1 := Lib.hid t1
         have O1 := Lib.hid o1
         have X1 := Lib.hid (HX.out.only o1 (fun _ h => h))
         clear t1 o1)
      | (go_at_call 174; refine (read_any _ hd _ _ X1.out (by have := HL.out; omega)).mono ?_; rintro e w2 ⟨g2, S2, rfl, hg2, r2, hS2, o2⟩
         have R2 := Lib.hid r2
         have T2 := Lib.hid (T1.out.only o2 (fun h => h))
         have O2 := Lib.hid (O1.out.trans o2.of_none)
         have hh := O1.out.size
         have N2 : Hid (g ≠ g2 ∧ w.heap.size ≤ g2) := ⟨by have := HG.out; omega, by omega⟩
         clear hg2 r2 hS2 o2 hh)
      | (go_at_call 251; refine (reader_number g2 S2 _ _ 2 _ R2.out (by have := HL.out; omega)).mono ?_; rw [HN.out]; rintro e w3 ⟨rfl, r3, o3⟩
         have T3 := Lib.hid (T2.out.only o3 (fun e => N2.out.1 e))
         have O3 : Hid (Only (one g) w w3) := O2.out.trans' o3 (fun k hk e => by have e' : k = g2 := e; have := N2.out.2; omega)
         clear r3 o3))
    go_ret2
    exact ⟨rfl, T3.out, O3.out⟩
def Rdr (w : World) (g : Nat) (S : Nat → Prop) (bs : List UInt8) : Prop := ∃ A c, TabP 273 #[] #[.slice A bs.length c] w g ∧ Byt w S (.slice A bs.length c) bs
theorem Rdr.only {w w' : World} {g : Nat} {S T : Nat → Prop} {bs : List UInt8} (h : Rdr w g S bs) (ho : Only T w w') (hg : ¬ T g) (hn : ∀ b, S b → ¬ T b) : Rdr w' g S bs := by
  obtain ⟨A, c, h1, h2⟩ := h
  exact ⟨A, c, h1.only ho hg, h2.only ho hn⟩
def Nxt (g : Nat) (S : Nat → Prop) (bs : List UInt8) (w : World) (v : Value) (w' : World) : Prop :=
  (jnK bs ≠ 0 ∧ v = .slice none 0 0 ∧ Rdr w' g S bs) ∨ (jnK bs = 0 ∧ ∃ A n c, v = .slice A n c ∧ w'.ownsRow w.heap.size 5 1 (.slice A n c) (jnB bs).length (byts (jnB bs)) ∧ Rdr w' g S (bs.drop (10 + jnN bs)))
set_option maxHeartbeats 3200000 in
theorem next_any (g : Nat) (S : Nat → Prop) (bs : List UInt8) (w : World) (h : Rdr w g S bs) (hS : ∀ b, S b → b ≠ g) (hl : bs.length ≤ 1048576) :
    Calls Tryz.prog 169 #[.pointer (some ⟨g, 0, none⟩)] w fun e w' => ∃ v, e = .returned (.tuple #[v, .int .i64 (jnK bs : Int)]) ∧ Nxt g S bs w v w' ∧ Only (one g) w w' := by
  obtain ⟨i0, hi0, hz0, hz1, hz2⟩ := info_parts u8_info
  obtain ⟨A, c, ht, hb⟩ := h
  obtain ⟨u, hu⟩ := ht.any
  have hr := ht.rest
  obtain ⟨L, hL⟩ : ∃ L, bs.length = L := ⟨_, rfl⟩
  have HB := Lib.hid hb
  have HT := Lib.hid ht
  have HS := Lib.hid hS
  have HL := Lib.hid hL
  rw [hL] at hr hl
  by_cases h6 : L < 6
  · have hk : Hid (jnK bs = 1) := by rw [Hid, jnK, if_pos (by omega)]
    have d6 : decide ((L : Int) < 6) = true := by simp; omega
    clear ht hb hS hL
    go_enter Tryz.func169, Tryz.ntmps169
    go_wp2_with fail
    go_ret2
    exact ⟨_, by rw [hk.out]; rfl, .inl ⟨by rw [hk.out]; decide, rfl, A, c, HT.out, HB.out⟩, Only.refl _ _⟩
  have d6 : decide ((L : Int) < 6) = false := by simp; omega
  rw [hL] at hb
  obtain ⟨A6, hsl6, hb6⟩ := byt_hi Tryz.underlying114 hi0 hb 6 (by omega) 6 rfl
  have B6 := Lib.hid hb6
  have hl6 : (bs.take 6).length = 6 := by rw [List.length_take]; omega
  obtain ⟨n, hn⟩ : ∃ n, leVal ((bs.take 6).take 2) = n := ⟨_, rfl⟩
  have hn' : jnN bs = n := by rw [jnN, ← hn, List.take_take]; rfl
  have hn5 : n < 65536 := hn ▸ leVal_two _
  by_cases hh : crcHolds (bs.take 6) = false
  · have hk : Hid (jnK bs = 2) := by rw [Hid, jnK, if_neg (by omega), if_pos (.inl hh)]
    have HN := Lib.hid (length_no _ g _ _ _ w HT.out hb6 hS hl6 hh)
    clear ht hb hS hL hb6 hh hn hn' hn5 hl6
    go_enter Tryz.func169, Tryz.ntmps169
    go_wp2_with (first
      | (go_at_call 215; refine HN.out.mono ?_; rintro e w1 ⟨rfl, t1, o1⟩))
    go_ret2
    exact ⟨_, by rw [hk.out]; rfl, .inl ⟨by rw [hk.out]; decide, rfl, A, c, t1, HB.out.only o1 HS.out⟩, o1⟩
  have hh : crcHolds (bs.take 6) = true := by simpa using hh
  have HN := Lib.hid (length_yes _ g _ _ _ w HT.out hb6 hS hl6 hh)
  rw [hn] at HN
  by_cases hr5 : n < 1 ∨ 512 < n
  · have hk : Hid (jnK bs = 2) := by rw [Hid, jnK, if_neg (by omega), if_pos (.inr (by rw [hn']; exact hr5))]
    have hf : (decide (1 ≤ n) && decide (n ≤ 512)) = false := by simp; omega
    rw [hf] at HN
    clear ht hb hS hL hb6 hh hn hn' hl6 hr5 hf
    go_enter Tryz.func169, Tryz.ntmps169
    go_wp2_with (first
      | (go_at_call 215; refine HN.out.mono ?_; rintro e w1 ⟨rfl, t1, o1⟩))
    go_ret2
    exact ⟨_, by rw [hk.out]; rfl, .inl ⟨by rw [hk.out]; decide, rfl, A, c, t1, HB.out.only o1 HS.out⟩, o1⟩
  have hf : (decide (1 ≤ n) && decide (n ≤ 512)) = true := by simp; omega
  rw [hf] at HN
  have hw1 : IntKind.i64.wrap (6 + (n : Int)) = 6 + (n : Int) := IntWalk.i64_in _ (by omega)
  have hw2 : IntKind.i64.wrap (6 + (n : Int) + 4) = 6 + (n : Int) + 4 := IntWalk.i64_in _ (by omega)
  by_cases hs : L < 10 + n
  · have hk : Hid (jnK bs = 1) := by rw [Hid, jnK, if_neg (by omega), if_neg (by rw [hn', hh]; simp; omega), if_pos (by rw [hn']; omega)]
    have ds : decide ((L : Int) < 6 + (n : Int) + 4) = true := by simp; omega
    clear ht hb hS hL hb6 hh hn hn' hl6 hr5 hf hs
    go_enter Tryz.func169, Tryz.ntmps169
    go_wp2_with (first
      | (go_at_call 215; refine HN.out.mono ?_; rintro e w1 ⟨rfl, t1, o1⟩
         have T1 := Lib.hid t1
         have O1 := Lib.hid o1
         have r1 := t1.rest
         obtain ⟨u1, hu1⟩ := t1.any
         rw [HL.out] at r1
         clear t1 o1))
    go_ret2
    exact ⟨_, by rw [hk.out]; rfl, .inl ⟨by rw [hk.out]; decide, rfl, A, c, T1.out, HB.out.only O1.out HS.out⟩, O1.out⟩
  have ds : decide ((L : Int) < 6 + (n : Int) + 4) = false := by simp; omega
  obtain ⟨Am, Lm, cm, hslm, hbm⟩ := byt_mid Tryz.underlying114 hi0 hz1 hb 6 (10 + n) (by omega) (by omega) 6 (6 + (n : Int) + 4) rfl (by omega)
  rw [show 10 + n - 6 = n + 4 by omega] at hbm
  have hlm : ((bs.drop 6).take (n + 4)).length = n + 4 := by rw [List.length_take, List.length_drop]; omega
  have hLm : Lm = n + 4 := by obtain ⟨_, _, he, _⟩ := hbm; injection he with _ h2 _; rw [h2, hlm]
  subst hLm
  have BM := Lib.hid hbm
  have HM := Lib.hid hlm
  by_cases hm : crcHolds ((bs.drop 6).take (n + 4)) = false
  · have hk : Hid (jnK bs = 2) := by rw [Hid, jnK, if_neg (by omega), if_neg (by rw [hn', hh]; simp; omega), if_neg (by rw [hn']; omega), hn', if_pos hm]
    have HMF := Lib.hid hm
    clear ht hb hS hL hb6 hh hn hn' hl6 hr5 hf hs hbm hlm hm
    go_enter Tryz.func169, Tryz.ntmps169
    go_wp2_with (first
      | (go_at_call 215; refine HN.out.mono ?_; rintro e w1 ⟨rfl, t1, o1⟩
         have T1 := Lib.hid t1
         have O1 := Lib.hid o1
         have r1 := t1.rest
         obtain ⟨u1, hu1⟩ := t1.any
         rw [HL.out] at r1
         clear t1 o1)
      | (go_at_call 216; refine (holds_at (o := 0) rfl g S _ _ _ T1.out (BM.out.only O1.out HS.out) HS.out (by have := HM.out; omega)).mono ?_; rw [HMF.out]; rintro e w2 ⟨rfl, t2, o2⟩))
    go_ret2
    exact ⟨_, by rw [hk.out]; rfl, .inl ⟨by rw [hk.out]; decide, rfl, A, c, t2, HB.out.only (O1.out.trans o2) HS.out⟩, O1.out.trans o2⟩
  have hm : crcHolds ((bs.drop 6).take (n + 4)) = true := by simpa using hm
  have hk : Hid (jnK bs = 0) := by rw [Hid, jnK, if_neg (by omega), if_neg (by rw [hn', hh]; simp; omega), if_neg (by rw [hn']; omega), hn', if_neg (by rw [hm]; decide)]
  obtain ⟨Al, Ll, cl, hsll, hbl⟩ := byt_lo Tryz.underlying114 hi0 hz1 hb (10 + n) (by omega) (6 + (n : Int) + 4) (by omega)
  obtain ⟨Ar, hslr, hbr⟩ := byt_hi Tryz.underlying114 hi0 hbm n (by omega) (n : Int) rfl
  have hjb : Hid (((bs.drop 6).take (n + 4)).take n = jnB bs) := by rw [Hid, jnB, hn', List.take_take, Nat.min_eq_left (by omega)]
  have HJ := Lib.hid hn'
  have BL := Lib.hid hbl
  have BR := Lib.hid hbr
  have HMT := Lib.hid hm
  have HLl : Hid (Ll = (bs.drop (10 + n)).length) := by obtain ⟨_, _, he, _⟩ := hbl; injection he
  have hjl : ((bs.drop 6).take (n + 4)).take n = ((bs.drop 6).take (n + 4)).take n := rfl
  have HR5 : Hid ((((bs.drop 6).take (n + 4)).take n).length ≤ 140737488355328) := by rw [Hid, List.length_take]; omega
  clear ht hb hS hL hb6 hh hn hn' hl6 hr5 hf hs hbm hlm hm hbl hbr hjl
  go_enter Tryz.func169, Tryz.ntmps169
  go_wp2_with (first
    | (go_at_call 215; refine HN.out.mono ?_; rintro e w1 ⟨rfl, t1, o1⟩
       have T1 := Lib.hid t1
       have O1 := Lib.hid o1
       have r1 := t1.rest
       obtain ⟨u1, hu1⟩ := t1.any
       rw [HL.out] at r1
       clear t1 o1)
    | (go_at_call 216; refine (holds_at (o := 0) rfl g S _ _ _ T1.out (BM.out.only O1.out HS.out) HS.out (by have := HM.out; omega)).mono ?_; rw [HMT.out]; rintro e w2 ⟨rfl, t2, o2⟩
       have T2 := Lib.hid t2
       have O2 := Lib.hid (O1.out.trans o2)
       have r2 := t2.rest
       have f2 := t2.frozen 259
       obtain ⟨u2, hu2⟩ := t2.any
       rw [HL.out] at r2
       have T3 : Hid (TabP 273 #[] #[.slice Al Ll cl] (w2.setCell ⟨g, 259, none⟩ (.slice Al Ll cl)) g) := T2.out.setQ (P := #[]) (o := 0) rfl 0 (.slice Al Ll cl)
       have O3 : Hid (Only (one g) w (w2.setCell ⟨g, 259, none⟩ (.slice Al Ll cl))) := O2.out.setCell (p := ⟨g, 259, none⟩) (.inl (show one g g from rfl)) _
       clear t2 o2)
    | (go_at_call 168; refine (bytes_clone _ _ _ _ (BR.out.only O3.out HS.out) HR5.out).mono ?_; rintro e w4 ⟨A4, n4, c4, rfl, own4, o4⟩
       have T4 := Lib.hid (T3.out.only o4 (fun h => h))
       have O4 := Lib.hid (O3.out.trans o4.of_none)
       have X4 := Lib.hid (owns_base own4 O3.out.size)
       clear own4 o4))
  go_ret2
  refine ⟨_, by rw [hk.out]; rfl, .inr ⟨hk.out, _, _, _, rfl, ?_, Al, cl, ?_, ?_⟩, O4.out⟩
  · rw [← hjb.out]; exact X4.out
  · rw [HJ.out, ← HLl.out]; exact T4.out
  · rw [HJ.out, ← HLl.out]; exact BL.out.only O4.out HS.out
end Go.Proofs.YtoohpcomnhfgpaaGreat
end
section
namespace Go.Proofs.YtoohpcomnhfgpaaGreat
open Go.RowKit
set_option maxRecDepth 100000
set_option linter.all false
theorem rows_info : (Tryz.prog.info? 114).map (fun i => (i.zero, i.size, i.bytes)) = some (some (.slice none 0 0), 1, 24) := by kernel_rfl
def Lst (w : World) (base : Nat) (T : Nat → Prop) (v : Value) (pss : List (List UInt8)) : Prop :=
  ∃ xs : List Value, w.ownsRow base 114 1 v pss.length xs ∧ ∀ j (hj : j < pss.length), ∃ x, xs[j]? = some x ∧ Byt w (fun b => T b ∧ v.ownBlock ≠ some b) x pss[j]
section
variable {w w' : World} {base : Nat} {T U : Nat → Prop} {v : Value} {pss : List (List UInt8)}
theorem Lst.nil (w : World) (base : Nat) (T : Nat → Prop) : Lst w base T (.slice none 0 0) [] := ⟨[], World.ownsRow_nil _ _ _ _, fun j hj => by simp at hj⟩
theorem Lst.made (w : World) (base : Nat) (T : Nat → Prop) (hb : base ≤ w.heap.size) : Lst (w.alloc (.cells #[] 114)) base T (.slice (some ⟨w.heap.size, 0, none⟩) 0 0) [] :=
  ⟨[], World.ownsRow_made w #[] 0 hb (by simp [maxLen]) rfl, fun j hj => by simp at hj⟩
theorem Lst.shape (h : Lst w base T v pss) : ∃ A c, v = .slice A pss.length c := by
  obtain ⟨xs, h, _⟩ := h
  rcases h.2 with ⟨rfl, h0⟩ | ⟨g, cap, cur, rfl, _⟩
  · exact ⟨none, 0, by rw [h0]⟩
  · exact ⟨_, cap, rfl⟩
theorem Lst.only (h : Lst w base T v pss) (ho : Only U w w') (hv : ∀ b, v.ownBlock = some b → ¬ U b) (hn : ∀ b, T b → ¬ U b) : Lst w' base T v pss := by
  obtain ⟨xs, h1, h2⟩ := h
  refine ⟨xs, owns_only h1 ho hv, fun j hj => ?_⟩
  obtain ⟨x, hx, hb⟩ := h2 j hj
  exact ⟨x, hx, hb.only ho (fun b hb => hn b hb.1)⟩
theorem Lst.keep (h : Lst w base T v pss) (ho : Only none_ w w') : Lst w' base T v pss := h.only ho (fun _ _ h => h) (fun _ _ h => h)
theorem Lst.based {base' : Nat} (h : Lst w base T v pss) (hb : base' ≤ base) : Lst w base' T v pss := by
  obtain ⟨xs, h1, h2⟩ := h
  exact ⟨xs, owns_base h1 hb, h2⟩
theorem Lst.mono {T' : Nat → Prop} (h : Lst w base T v pss) (hk : ∀ b, b < w.heap.size → T b → T' b) : Lst w base T' v pss := by
  obtain ⟨xs, h1, h2⟩ := h
  refine ⟨xs, h1, fun j hj => ?_⟩
  obtain ⟨x, hx, hb⟩ := h2 j hj
  exact ⟨x, hx, hb.mono (fun b hlt h => ⟨hk b hlt h.1, h.2⟩)⟩
theorem Lst.own_lt (h : Lst w base T v pss) (b : Nat) (hb : v.ownBlock = some b) : base ≤ b ∧ b < w.heap.size := by
  obtain ⟨xs, h1, _⟩ := h
  exact h1.lt b hb
theorem Lst.rows (h : Lst w base T v pss) : Rows_ w (fun b => T b ∨ v.ownBlock = some b) v pss := by
  obtain ⟨xs, h1, h2⟩ := h
  have hl : xs.length = pss.length := by have := h1.1; simpa using this
  rcases h1.2 with ⟨hv, h0⟩ | ⟨g, cap, cur, hv, hb, hh, hnc, hcm, hcs, htk⟩
  · have : pss = [] := List.eq_nil_of_length_eq_zero h0
    subst this
    rw [hv]
    exact Rows_.nil _ _
  · refine ⟨some ⟨g, 0, none⟩, cap, hv, by omega, fun hp => ⟨g, 0, rfl, .inr (by rw [hv]; rfl), Blk.lt (t := 114) hh, fun j hj => ?_⟩⟩
    obtain ⟨x, hx, hy⟩ := h2 j hj
    have e1 : (⟨g, 0, none⟩ : Addr).add j = ⟨g, 0 + j, none⟩ := by unfold Addr.add; split <;> simp_all
    have := h1.cells (g := g) (by rw [hv]; rfl) j x hx
    rw [e1] at this
    exact ⟨x, this, hy.mono (fun b _ h => .inl h.1)⟩
end
theorem one_of_byt {w : World} {S : Nat → Prop} {x : Value} {bs : List UInt8} (h : Byt w S x bs) : x.oneCell' = true := by
  obtain ⟨A, c, rfl, _⟩ := h
  rfl
section
variable (w : World)
theorem wpList_append_lst {ops : Array Oper} {rest : List Oper} {o : Oper} {a : Act} {Q : Exit → Act → World → Prop} (hgd : o.guard = none) (s x : Operand)
    (ho : o.op = .call { callee := .builtin .append, args := #[s, x], argTypes := #[139, 139] })
    (base : Nat) (T : Nat → Prop) (v : Value) (pss : List (List UInt8)) (hs : a.eval s = v) (hl : Lst w base T v pss) (y : Value) (ps : List UInt8) (hx : a.eval x = .slice (some ⟨w.heap.size, 0, none⟩) 1 1)
    (hy : Byt w (fun b => T b ∧ v.ownBlock ≠ some b) y ps) (hb : base ≤ w.heap.size) (hn : pss.length ≤ 2000000)
    (h : ∀ A' n' c' w', Lst w' base T (.slice A' n' c') (pss ++ [ps]) → Only (ownb v) w w' → Moved w v (.slice A' n' c') → wpList Tryz.prog ops Q rest (a.put o.dst (.slice A' n' c')) w') : wpList Tryz.prog ops Q (o :: rest) a (w.alloc (.cells #[y] 114)) := by
  obtain ⟨xs, h1, h2⟩ := hl
  obtain ⟨i0, hi0, hz0, hz1, hz2⟩ : ∃ i, Tryz.prog.info? 114 = some i ∧ i.zero = some (.slice none 0 0) ∧ i.size = 1 ∧ i.bytes = 24 := by
    have := rows_info
    cases h : Tryz.prog.info? 114 with
    | none => rw [h] at this; cases this
    | some i => rw [h] at this; simp at this; exact ⟨i, rfl, this.1, this.2.1, this.2.2⟩
  have O1 := (Only.refl none_ w).alloc (.cells #[y] 114)
  have hxl : xs.length = pss.length := by have := h1.1; simpa using this
  refine wpList_append_cel _ hgd s x 139 ho base 114 i0 (.slice none 0 0) 1 24 Tryz.underlying139 hi0 hz0 hz1 hz2 rfl (by omega) v pss.length xs hs (owns_only h1 O1 (fun _ _ h => h)) _ _ 1 [y] hx
    (cel_made w 114 1 1 #[y] rfl (by simp [maxLen])) (by simp [one_of_byt hy]) (by simp only [maxLen]; omega) (by omega) (by rw [World.size_alloc]; omega) ?_
  intro A' n' c' w' hown hgrow hmv
  have O2 : Only (ownb v) w w' := O1.of_none.grown hgrow (fun k hk => .inl hk)
  have hM : Moved w v (.slice A' n' c') := fun k hk => (hmv k hk).imp id (fun h => by rw [World.size_alloc] at h; omega)
  have key : ∀ {b : Nat}, b < w.heap.size → T b ∧ v.ownBlock ≠ some b → T b ∧ (Value.slice A' n' c').ownBlock ≠ some b := fun hlt h => ⟨h.1, fun e => by
    rcases hM _ e with h1 | h1
    · exact h.2 h1
    · omega⟩
  refine h A' n' c' w' ⟨xs ++ [y], by simpa using hown, fun j hj => ?_⟩ O2 hM
  rw [List.length_append, List.length_cons, List.length_nil] at hj
  by_cases hjl : j < pss.length
  · obtain ⟨z, hz, hbz⟩ := h2 j hjl
    refine ⟨z, by rw [List.getElem?_append_left (by omega)]; exact hz, ?_⟩
    rw [List.getElem_append_left hjl]
    exact (hbz.mono (T := fun b => (T b ∧ v.ownBlock ≠ some b) ∧ b < w.heap.size) (fun b hb h => ⟨h, hb⟩)).only O2 (fun b h => h.1.2) |>.mono (fun b _ h => key h.2 h.1)
  · have hj' : j = pss.length := by omega
    subst hj'
    refine ⟨y, by rw [List.getElem?_append_right (by omega), hxl]; simp, ?_⟩
    have e : (pss ++ [ps])[pss.length]'(by simp) = ps := by simp
    rw [e]
    exact (hy.mono (T := fun b => (T b ∧ v.ownBlock ≠ some b) ∧ b < w.heap.size) (fun b hb h => ⟨h, hb⟩)).only O2 (fun b h => h.1.2) |>.mono (fun b _ h => key h.2 h.1)
end
end Go.Proofs.YtoohpcomnhfgpaaGreat
end
section
namespace Go.Proofs.YtoohpcomnhfgpaaGreat
open Go.RowKit
set_option maxRecDepth 100000
set_option linter.all false
attribute [local go_sem ↓] Go.wp_at_zero Go.wp_at_succ
theorem rdr_zero : (Tryz.prog.info? 273).map (·.zero) = some (some (.agg (tabZero.push (.slice none 0 0)))) := by kernel_rfl
theorem run_zero_rdr (w : World) : (zeroValue 273).run Tryz.prog w = .ok (.agg (tabZero.push (.slice none 0 0))) w := by
  have h := rdr_zero
  cases hi : Tryz.prog.info? 273 with
  | none => rw [hi] at h; cases h
  | some i =>
    rw [hi] at h
    have hz : i.zero = some (.agg (tabZero.push (.slice none 0 0))) := by simpa using h
    simp [zeroValue, typeInfo, hi, hz]
theorem rdr_built (A : Option Addr) (n c : Nat) : Tryz.prog.built 273 [(1, .slice A n c)] = some (tabZero.push (.slice A n c)) := by kernel_rfl
theorem rdr_size : (Tryz.prog.info? 273).map (·.size) = some 260 := by kernel_rfl
theorem tabZero_size : tabZero.size = 259 := by rw [rowCells_zero, rowCells_size]
theorem tab_one (v : Value) (hv : v.oneCell' = true) : (tabZero.push v).all (·.oneCell') = true := by
  have h : tabZero.all (·.oneCell') = true := by kernel_rfl
  rw [Array.push_eq_append, Array.all_append, h]; simp [hv]
def lenV : Value → Nat
  | .slice _ n _ => n
  | _ => 0
set_option maxHeartbeats 3200000 in
theorem read7 (A : Option Addr) (c : Nat) (bs : List UInt8) (S : Nat → Prop) (w : World) (hx : Byt w S (.slice A bs.length c) bs) (hl : bs.length ≤ 1048576) :
    Calls Tryz.prog 109 #[.slice A bs.length c] w fun e w' => ∃ v, e = .returned (.tuple #[v, .int .i64 ((jnRead bs).2.1 : Int), .int .i64 (jnRead bs).2.2]) ∧ Lst w' (w.heap.size + 1) (fun b => w.heap.size + 1 ≤ b) v (jnRead bs).1 ∧ Only none_ w w' := by
  obtain ⟨R, hR⟩ : ∃ R, jnRead bs = R := ⟨_, rfl⟩
  have hR0 : jnR (bs.length + 1) [] 0 bs = R := hR
  rw [hR]
  obtain ⟨L, hL⟩ : ∃ L, bs.length = L := ⟨_, rfl⟩
  have hz := run_zero_rdr
  have B0 := Lib.hid (Blk.new w 273 (tabZero.push (.slice none 0 0)))
  have B1 := Lib.hid (B0.out.setRow (tabZero.push (.slice A L c)))
  have O1 := Lib.hid (((Only.refl none_ w).alloc (.cells (tabZero.push (.slice none 0 0)) 273)).setRow (g := w.heap.size) (.inr (Nat.le_refl _)) (tabZero.push (.slice A L c)))
  have R1 : Hid (Rdr ((w.alloc (.cells (tabZero.push (.slice none 0 0)) 273)).setRow w.heap.size (tabZero.push (.slice A L c))) w.heap.size (fun b => b < w.heap.size) bs) := by
    refine ⟨A, c, .inl ?_, (hx.mono (T := fun b => b < w.heap.size) (fun b hb _ => hb)).only O1.out (fun _ _ h => h)⟩
    have := B1.out
    rw [rowCells_zero, Array.push_eq_append, Array.push_eq_append, ← hL] at this
    rw [Array.empty_append, ← hL, Array.push_eq_append, Array.push_eq_append]
    exact this
  rw [hL] at hl hR0 ⊢
  have HR0 := Lib.hid hR0
  have HL := Lib.hid hL
  clear hx hR hR0 hL
  go_enter Tryz.func109, Tryz.ntmps109
  go_wp2_with (first
    | (refine wpList_buildTo rfl 273 _ rfl _ rfl (tabZero.push (.slice A L c)) (rdr_built A L c) ?_)
    | (refine wpList_store_row rfl 273 _ _ rfl w.heap.size (tabZero.push (.slice A L c)) rfl rfl 273 _ B0.out (by rw [rdr_size, Array.size_push, tabZero_size]) (by simp) (tab_one _ rfl) ?_))
  generalize (w.alloc (.cells (tabZero.push (.slice none 0 0)) 273)).setRow w.heap.size (tabZero.push (.slice A L c)) = W1 at *
  generalize Value.agg (tabZero.push (.slice A L c)) = zz
  have hge : w.heap.size + 1 ≤ W1.heap.size := by have := R1.out; obtain ⟨_, _, h, _⟩ := this; exact h.lt
  go_loopw [6] (fun v wr => ∃ (f : Nat) (acc : List (List UInt8)) (n : Nat), n ≤ L ∧ acc.length ≤ n ∧ L - n < f ∧ jnR f acc n (bs.drop n) = R ∧ Lst wr (w.heap.size + 1) (fun b => w.heap.size + 1 ≤ b) v acc ∧ Rdr wr w.heap.size (fun b => b < w.heap.size) (bs.drop n) ∧ Only none_ w wr) (fun v _ => L + 1 - lenV v)
  case atStart => exact ⟨L + 1, [], 0, by omega, by simp, by omega, by simpa using HR0.out, Lst.nil _ _ _, by simpa using R1.out, O1.out⟩
  case round =>
    obtain ⟨f, acc, n, hn, ha, hf, hj, hl1, hr, ho⟩ := hrel
    obtain ⟨f', rfl⟩ : ∃ f', f = f' + 1 := ⟨f - 1, by omega⟩
    rw [jnR_step] at hj
    obtain ⟨A1, c1, rfl⟩ := hl1.shape
    have hdl : (bs.drop n).length = L - n := by rw [List.length_drop, HL.out]
    have HNX := next_any w.heap.size (fun b => b < w.heap.size) (bs.drop n) wr hr (fun b hb => by omega) (by omega)
    have HLS := Lib.hid hl1
    have HO := Lib.hid ho
    have HF := Lib.hid (And.intro hn (And.intro ha hf))
    have hwr : w.heap.size + 1 ≤ wr.heap.size := by obtain ⟨_, _, h, _⟩ := hr; exact h.lt
    have HWR := Lib.hid hwr
    rcases jnK_cases (bs.drop n) with hk | hk | hk
    · have hz := jnK_zero hk
      rw [if_neg (by omega), if_neg (by omega)] at hj
      have HJ := Lib.hid hj
      have HZ := Lib.hid (And.intro hz.2.2.1 (And.intro hz.2.2.2.2.1 hdl))
      rw [show (jnK (bs.drop n) : Int) = 0 by rw [hk]; rfl] at HNX
      have HX := Lib.hid HNX
      have HK := Lib.hid hk
      clear hj hz hl1 hr ho HNX hn ha hf hdl hwr hk
      go_wp2_with (first
        | (go_at_call 169; refine HX.out.mono ?_; rintro e w2 ⟨v, rfl, hnx, o2⟩
           have NX := Lib.hid hnx
           have O2 := Lib.hid o2
           have hv : ∃ A2 n2 c2, v = .slice A2 n2 c2 := by
             rcases hnx with ⟨h0, _⟩ | ⟨_, A2, n2, c2, h, _⟩
             · exact absurd HK.out h0
             · exact ⟨A2, n2, c2, h⟩
           obtain ⟨A2, n2, c2, rfl⟩ := hv
           have own2 : w2.ownsRow wr.heap.size 5 1 (.slice A2 n2 c2) (jnB (bs.drop n)).length (byts (jnB (bs.drop n))) ∧ Rdr w2 w.heap.size (fun b => b < w.heap.size) ((bs.drop n).drop (10 + jnN (bs.drop n))) := by
             rcases hnx with ⟨h0, _⟩ | ⟨_, A3, n3, c3, h, ow, rd⟩
             · exact absurd HK.out h0
             · rw [h]; exact ⟨ow, rd⟩
           have L2 := Lib.hid (HLS.out.only o2 (fun b hb e => by have e' : b = w.heap.size := e; have := (HLS.out.own_lt b hb).1; omega) (fun b hb e => by have e' : b = w.heap.size := e; have hb' : w.heap.size + 1 ≤ b := hb; omega))
           have Y2 : Hid (Byt w2 (fun b => w.heap.size + 1 ≤ b ∧ (Value.slice A1 acc.length c1).ownBlock ≠ some b) (.slice A2 n2 c2) (jnB (bs.drop n))) :=
             (Byt.of_own own2.1).mono (fun b _ hb => ⟨Nat.le_trans HWR.out (own2.1.lt b hb).1, fun e => by have h1 := (HLS.out.own_lt b e).2; have h2 := (own2.1.lt b hb).1; omega⟩)
           have RD2 := Lib.hid own2.2
           have hb2 : w.heap.size + 1 ≤ w2.heap.size := Nat.le_trans HWR.out o2.size
           have hc2 : acc.length ≤ 2000000 := by have := HF.out.2.1; have := HF.out.1; omega
           clear hnx o2 own2)
        | (at_builtin; refine wpList_append_lst w2 rfl (.tmp 27) (.tmp 29) rfl (w.heap.size + 1) _ _ acc rfl L2.out _ _ rfl Y2.out hb2 hc2 ?_
           intro A3 n3 c3 w3 hl3 ho3 hm3
           have L3 := Lib.hid hl3
           have R3 := Lib.hid (RD2.out.only ho3 (fun e => by have := (HLS.out.own_lt _ e).1; omega) (fun b hb e => by have := (HLS.out.own_lt _ e).1; have hb' : b < w.heap.size := hb; omega))
           have O3 : Hid (Only none_ w w3) := (HO.out.trans' O2.out (fun k hk e => by have e' : k = w.heap.size := e; omega)).trans' ho3 (fun k hk e => by have := (HLS.out.own_lt _ e).1; omega)
           have N3 : Hid (n3 = (acc ++ [jnB (bs.drop n)]).length) := by obtain ⟨_, _, h⟩ := hl3.shape; injection h
           clear hl3 ho3 hm3))
      go_roundw
      case rel =>
        have h1 := HF.out.1; have h2 := HF.out.2.1; have h3 := HF.out.2.2
        have z1 := HZ.out.1; have z2 := HZ.out.2.1; have z3 := HZ.out.2.2
        have hd : (bs.drop n).drop (10 + jnN (bs.drop n)) = bs.drop (n + (10 + jnN (bs.drop n))) := by rw [List.drop_drop]
        have hj := HJ.out
        have hr := R3.out
        rw [hd] at hj hr
        exact ⟨f', acc ++ [jnB (bs.drop n)], n + (10 + jnN (bs.drop n)), by omega, by rw [List.length_append, List.length_cons, List.length_nil]; omega, by omega, hj, L3.out, hr, O3.out⟩
      case measure =>
        have h1 := HF.out.1; have h2 := HF.out.2.1
        have h3 := N3.out
        rw [List.length_append, List.length_cons, List.length_nil] at h3
        simp only [lenV]
        omega
    · rw [if_neg (by omega), if_pos hk] at hj
      rw [show (jnK (bs.drop n) : Int) = 1 by rw [hk]; rfl] at HNX
      have HX := Lib.hid HNX
      have HK := Lib.hid hk
      subst hj
      have HD := Lib.hid hdl
      clear hl1 hr ho HNX hn ha hf hdl hwr hk
      go_wp2_with (first
        | (go_at_call 169; refine HX.out.mono ?_; rintro e w2 ⟨v, rfl, hnx, o2⟩
           have O2 : Hid (Only none_ w w2) := HO.out.trans' o2 (fun k hk e => by have e' : k = w.heap.size := e; omega)
           have L2 := Lib.hid (HLS.out.only o2 (fun b hb e => by have e' : b = w.heap.size := e; have := (HLS.out.own_lt b hb).1; omega) (fun b hb e => by have e' : b = w.heap.size := e; have hb' : w.heap.size + 1 ≤ b := hb; omega))
           have hrd : Rdr w2 w.heap.size (fun b => b < w.heap.size) (bs.drop n) ∧ v = .slice none 0 0 := by
             rcases hnx with ⟨_, h, rd⟩ | ⟨h0, _⟩
             · exact ⟨rd, h⟩
             · have := HK.out; omega
           obtain ⟨⟨A4, c4, tp, _⟩, rfl⟩ := hrd
           have rest2 := tp.rest
           obtain ⟨m, hm⟩ : ∃ m, (bs.drop n).length = m := ⟨_, rfl⟩
           rw [hm] at rest2
           have hsub : IntKind.i64.wrap ((L : Int) - (m : Int)) = (n : Int) := by
             have h1 := HF.out.1; have h2 := HD.out
             rw [IntWalk.i64_in _ (by omega)]; omega
           clear hnx o2 tp hm))
      go_quiet (fail)
      go_wp2_with fail
      refine bodyPost_ret (v := .tuple #[.slice A1 acc.length c1, .int .i64 (n : Int), .int .i64 0]) (by simp [results, Tryz.results109, go_sem]) rfl ?_
      exact ⟨_, rfl, L2.out.only ((Only.refl none_ w2).drewN _) (fun _ _ h => h) (fun _ _ h => h), O2.out.drewN _⟩
    · rw [if_pos hk] at hj
      rw [show (jnK (bs.drop n) : Int) = 2 by rw [hk]; rfl] at HNX
      have HX := Lib.hid HNX
      subst hj
      clear hl1 hr ho HNX hn ha hf hdl hwr hk
      go_wp2_with (first
        | (go_at_call 169; refine HX.out.mono ?_; rintro e w2 ⟨v, rfl, hnx, o2⟩
           have O2 : Hid (Only none_ w w2) := HO.out.trans' o2 (fun k hk e => by have e' : k = w.heap.size := e; omega)
           clear hnx o2))
      refine bodyPost_ret (v := .tuple #[.slice none 0 0, .int .i64 0, .int .i64 12]) (by simp [results, Tryz.results109, go_sem]) rfl ?_
      exact ⟨_, rfl, Lst.nil _ _ _, O2.out⟩
end Go.Proofs.YtoohpcomnhfgpaaGreat
end
section
namespace Go.Proofs.YtoohpcomnhfgpaaGreat
open Go.RowKit
set_option linter.all false
set_option maxRecDepth 100000
structure Dv where
  on : Bool
  fuse : Int
  bs : List UInt8
  safe : Nat
structure Dsk (B : World) (g : Nat) (d : Dv) (v : Value) (w : World) : Prop where
  bk : Blk w g 116 #[.bool d.on, .int .i64 d.fuse, v, .int .i64 d.safe]
  ow : w.ownsRow B.heap.size 5 1 v d.bs.length (byts d.bs)
  ho : Only none_ B w
  ge : B.heap.size ≤ g
  sl : d.safe ≤ d.bs.length
  ml : d.bs.length ≤ 1048576
  fl : -9223372036854775808 ≤ d.fuse
  fh : d.fuse < 9223372036854775808
section
variable {B w w' : World} {g h : Nat} {d d' : Dv} {v v' : Value} {t : TypeId} {cs : Array Value}
theorem Dsk.foot_ge (s : Dsk B g d v w) {k : Nat} (hf : foot g v k) : B.heap.size ≤ k ∧ k < w.heap.size := by
  rcases hf with rfl | hf
  · exact ⟨s.ge, s.bk.lt⟩
  · exact s.ow.lt k hf
theorem Dsk.keep (s : Dsk B g d v w) (o : Only none_ w w') : Dsk B g d v w' :=
  ⟨s.bk.only o (fun h => h), owns_only s.ow o (fun _ _ h => h), s.ho.trans o, s.ge, s.sl, s.ml, s.fl, s.fh⟩
theorem Dsk.apart {S : Nat → Prop} (s : Dsk B g d v w) (o : Only S w w') (hn : ∀ k, foot g v k → ¬ S k) (hS : ∀ k, S k → B.heap.size ≤ k) : Dsk B g d v w' :=
  ⟨s.bk.only o (hn g (.inl rfl)), owns_only s.ow o (fun k hk => hn k (.inr hk)), s.ho.trans' o (fun k hk hs => by have := hS k hs; omega), s.ge, s.sl, s.ml, s.fl, s.fh⟩
theorem Dsk.box (s : Dsk B g d v w) (b : Blk w h t cs) (o : Only (foot g v) w w') (h1 : 5 ≠ t) (h2 : t ≠ 116) : Blk w' h t cs :=
  b.only o (fun hf => hf.elim (fun e => Blk.ne_ b s.bk h2 e) (fun e => own_blk_ne s.ow b h1 e))
theorem Dsk.put (s : Dsk B g d v w) (i : Nat) (u : Value) (d' : Dv)
    (hc : (#[.bool d.on, .int .i64 d.fuse, v, .int .i64 d.safe] : Array Value).setIfInBounds i u = #[.bool d'.on, .int .i64 d'.fuse, v, .int .i64 d'.safe])
    (hb : d'.bs = d.bs) (hs : d'.safe ≤ d'.bs.length) (hl : -9223372036854775808 ≤ d'.fuse) (hh : d'.fuse < 9223372036854775808) : Dsk B g d' v (w.setCell ⟨g, i, none⟩ u) := by
  have o : Only (one g) w (w.setCell ⟨g, i, none⟩ u) := (Only.refl (one g) w).setCell (.inl (show one g g from rfl)) u
  refine ⟨hc ▸ s.bk.set_ i u, ?_, s.ho.trans' o (fun k hk e => ?_), s.ge, hs, hb ▸ s.ml, hl, hh⟩
  · rw [hb]; exact owns_only s.ow o (fun k hk e => own_blk_ne s.ow s.bk (by decide) (by rw [hk, show k = g from e]))
  · have e' : k = g := e
    have := s.ge; omega
theorem only_put (g i : Nat) (u : Value) (w : World) : Only (one g) w (w.setCell ⟨g, i, none⟩ u) := (Only.refl (one g) w).setCell (.inl (show one g g from rfl)) u
theorem only_foot {g : Nat} {v : Value} (o : Only (one g) w w') : Only (foot g v) w w' := o.mono (fun _ _ e => .inl e)
theorem Dsk.app {w2 : World} {bs' : List UInt8} (s : Dsk B g d v w) (own : w2.ownsRow B.heap.size 5 1 v' bs'.length (byts bs')) (hg : w.grownBy w2 v.ownBlock)
    (hm : bs'.length ≤ 1048576) (hs : d.safe ≤ bs'.length) : Dsk B g { d with bs := bs' } v' (w2.setCell ⟨g, 2, none⟩ v') ∧ Only (foot g v) w (w2.setCell ⟨g, 2, none⟩ v') := by
  have b2 : Blk w2 g 116 #[.bool d.on, .int .i64 d.fuse, v, .int .i64 d.safe] := s.bk.grown' hg (own_blk_ne s.ow s.bk (by decide))
  have o2 : Only (foot g v) w w2 := (Only.refl _ w).grown hg (fun k hk => .inl (.inr hk))
  have o3 : Only (one g) w2 (w2.setCell ⟨g, 2, none⟩ v') := only_put g 2 v' w2
  refine ⟨⟨b2.set_ 2 v', owns_only own o3 (fun k hk e => own_blk_ne own b2 (by decide) (by rw [hk, show k = g from e])), ?_, s.ge, hs, hm, s.fl, s.fh⟩, o2.setCell (.inl (.inl rfl)) _⟩
  have o4 : Only (foot g v) w (w2.setCell ⟨g, 2, none⟩ v') := o2.setCell (.inl (.inl rfl)) _
  exact s.ho.trans' o4 (fun k hk e => by have := s.foot_ge e; omega)
theorem Dsk.len {A : Option Addr} {n c : Nat} (s : Dsk B g d (.slice A n c) w) : n = d.bs.length := own_len s.ow
theorem Dsk.shape (s : Dsk B g d v w) : ∃ A n c, v = .slice A n c := by
  rcases s.ow.2 with ⟨rfl, _⟩ | ⟨_, _, _, rfl, _⟩ <;> exact ⟨_, _, _, rfl⟩
theorem Dsk.byt (s : Dsk B g d v w) : Byt w (fun b => v.ownBlock = some b) v d.bs := Byt.of_own s.ow
end
theorem own_hi {P : Program} {t e : TypeId} {i : TypeInfo} {w : World} {base : Nat} {A : Option Addr} {c L : Nat} {bs : List UInt8}
    (ht : P.underlying t = some (.slice e)) (hi : P.info? e = some i) (h : w.ownsRow base e 1 (.slice A L c) bs.length (byts bs)) (n : Nat) (hn : n ≤ bs.length) (z : Int) (hz : z = n) :
    (∀ w', (Instr.sliceAt t (.slice A L c) none (some (.int .i64 z)) none).run P w' = .ok (.slice A n c) w') ∧ w.ownsRow base e 1 (.slice A n c) (bs.take n).length (byts (bs.take n)) := by
  subst hz
  have hl : (bs.take n).length = n := by simp; omega
  rcases h.2 with ⟨e1, e2⟩ | ⟨g, cap, cur, e1, hb, hh, hnc, hcm, hcs, htk⟩
  · injection e1 with e1 e3 e4
    subst e1 e3 e4
    obtain rfl : n = 0 := by omega
    refine ⟨fun w' => ?_, by simp, .inl ⟨rfl, hl⟩⟩
    simp [Instr.sliceAt, Instr.slice, run_underlying ht, Instr.sliceBounds, run_sliceBound, sizeOf, typeInfo, hi]
  · injection e1 with e1 e3 e4
    subst e1 e3 e4
    refine ⟨fun w' => ?_, by simp, .inr ⟨g, c, cur, by rw [hl], hb, hh, by omega, hcm, hcs, ?_⟩⟩
    · have hc : (n : Int) ≤ (c : Int) := by omega
      simp [Instr.sliceAt, Instr.slice, run_underlying ht, Instr.sliceBounds, run_sliceBound, sizeOf, typeInfo, hi, hc, Addr.add]
    · rw [hl]
      have := congrArg (List.take (n * 1)) htk
      rw [List.take_take] at this
      rw [show n * 1 = min (n * 1) (bs.length * 1) from by omega, this]
      simp [byts, List.map_take]
end Go.Proofs.YtoohpcomnhfgpaaGreat
end
section
namespace Go.Proofs.YtoohpcomnhfgpaaGreat
open Go.RowKit
set_option linter.all false
set_option maxRecDepth 100000
theorem power_on (B : World) (g : Nat) (d : Dv) (v : Value) (w : World) (h : Dsk B g d v w) :
    Calls Tryz.prog 42 #[.pointer (some ⟨g, 0, none⟩)] w fun e w' => e = .returned (.bool d.on) ∧ w = w' := by
  have c0 := h.bk.cell_ (i := 0) rfl
  clear h
  go_enter Tryz.func42, Tryz.ntmps42
  go_wp2
  go_ret
  exact ⟨rfl, rfl⟩
def burnt (d : Dv) : Dv := if d.fuse = 0 then { d with on := false } else if 0 < d.fuse then { d with fuse := d.fuse - 1 } else d
theorem burnt_bs (d : Dv) : (burnt d).bs = d.bs ∧ (burnt d).safe = d.safe := by unfold burnt; split <;> (try split) <;> exact ⟨rfl, rfl⟩
theorem power_burn (B : World) (g : Nat) (d : Dv) (v : Value) (w : World) (h : Dsk B g d v w) (hon : d.on = true) :
    Calls Tryz.prog 217 #[.pointer (some ⟨g, 0, none⟩)] w fun e w' => e = .returned (.bool (decide (d.fuse ≠ 0))) ∧ Dsk B g (burnt d) v w' ∧ Only (one g) w w' := by
  obtain ⟨on, fuse, bs, safe⟩ := d
  cases hon
  have c0 := h.bk.cell_ (i := 0) rfl
  have c1 := h.bk.cell_ (i := 1) rfl
  have f0 := h.bk.frozen 0
  have f1 := h.bk.frozen 1
  have H := Lib.hid h
  have hl := h.fl
  have hh := h.fh
  dsimp only at c0 c1 hl hh
  clear h
  have W1 : IntKind.i64.wrap (fuse - 1) = fuse - 1 ∨ fuse = -9223372036854775808 := by
    by_cases e : fuse = -9223372036854775808
    · exact .inr e
    · exact .inl (IntWalk.i64_in _ (by omega))
  rcases Int.lt_trichotomy fuse 0 with hz | rfl | hz
  · go_enter Tryz.func217, Tryz.ntmps217
    go_wp2
    go_ret
    refine ⟨by simp; omega, ?_, Only.refl _ _⟩
    have : burnt ⟨true, fuse, bs, safe⟩ = ⟨true, fuse, bs, safe⟩ := by
      unfold burnt; rw [if_neg (by show ¬ fuse = 0; omega), if_neg (by show ¬ 0 < fuse; omega)]
    rw [this]; exact H.out
  · go_enter Tryz.func217, Tryz.ntmps217
    go_wp2
    go_ret
    exact ⟨rfl, H.out.put 0 (.bool false) ⟨false, 0, bs, safe⟩ rfl rfl H.out.sl (by show _ ≤ (0 : Int); decide) (by show (0 : Int) < _; decide), only_put g 0 _ w⟩
  · have W2 := W1.resolve_right (by omega)
    clear W1
    go_enter Tryz.func217, Tryz.ntmps217
    go_wp2
    go_ret
    refine ⟨by simp; omega, ?_, only_put g 1 _ w⟩
    have e : burnt ⟨true, fuse, bs, safe⟩ = ⟨true, fuse - 1, bs, safe⟩ := by
      unfold burnt; rw [if_neg (by show ¬ fuse = 0; omega), if_pos (by show 0 < fuse; omega)]
    rw [e]
    exact H.out.put 1 (.int .i64 (fuse - 1)) ⟨true, fuse - 1, bs, safe⟩ rfl rfl H.out.sl (by show _ ≤ fuse - 1; omega) (by show fuse - 1 < _; omega)
def chCode (d : Dv) (fault : Int) : Int := if d.on = false then 11 else if fault ≠ 0 then fault else if d.fuse = 0 then 11 else 0
def chD (d : Dv) (fault : Int) (d' : Dv) : Dv := if d.on = false then d else if fault ≠ 0 then d else if d.fuse = 0 then { d with on := false } else d'
def Left_ (B : World) (g : Nat) (v : Value) (w : World) (d' : Dv) (w' : World) : Prop := ∃ v', Dsk B g d' v' w' ∧ Only (foot g v) w w' ∧ Moved w v v'
theorem Left_.same {B w : World} {g : Nat} {d : Dv} {v : Value} (h : Dsk B g d v w) : Left_ B g v w d w := ⟨v, h, Only.refl _ _, Moved.refl _ _⟩
theorem Left_.one_ {B w w' : World} {g : Nat} {d : Dv} {v : Value} (h : Dsk B g d v w') (o : Only (one g) w w') : Left_ B g v w d w' := ⟨v, h, only_foot o, Moved.refl _ _⟩
theorem Left_.after {B w w1 w' : World} {g : Nat} {d : Dv} {v : Value} (o : Only (one g) w w1) (l : Left_ B g v w1 d w') : Left_ B g v w d w' := by
  obtain ⟨v', h, o', m⟩ := l
  exact ⟨v', h, (only_foot o).trans o', fun k hk => (m k hk).imp id (fun h => Nat.le_trans o.size h)⟩
theorem Left_.after0 {B w w1 w' : World} {g : Nat} {d : Dv} {v : Value} (o : Only none_ w w1) (l : Left_ B g v w1 d w') : Left_ B g v w d w' := Left_.after (o.mono fun _ _ x => x.elim) l
theorem enters_ {P : Program} {f : FuncId} {fn : Func} {c : Code} (hf : P.funcs[f]? = some fn) (hname : (fn.name == "runtime.NumGoroutine") = false) (hb : fn.body = some c) (args : Array Value) (w : World) :
    (callFunc f args).run P w = .ok (.enter f args) w := by
  have h1 : fn.name ≠ "runtime.NumGoroutine" := by simpa using hname
  simp [callFunc, hf, h1, hb]
theorem power_change (B : World) (g : Nat) (d d' : Dv) (fault : Int) (v : Value) (F : FuncId) (cap : Array Value) (w : World) (h : Dsk B g d v w) (hr : ∀ w1, (callFunc F cap).run Tryz.prog w1 = .ok (.enter F cap) w1)
    (hc : fault = 0 → ∀ w1, Dsk B g (burnt d) v w1 → Only (one g) w w1 → Calls Tryz.prog F cap w1 fun e w' => e = .returned (.tuple #[]) ∧ Left_ B g v w1 d' w') :
    Calls Tryz.prog 170 #[.pointer (some ⟨g, 0, none⟩), .int .i64 fault, .func (.func F) #[] cap] w fun e w' => e = .returned (.int .i64 (chCode d fault)) ∧ Left_ B g v w (chD d fault d') w' := by
  have c0 := h.bk.cell_ (i := 0) rfl
  have H := Lib.hid h
  by_cases hon : d.on = false
  · rw [hon] at c0
    have e1 : Hid (chCode d fault = 11) := by rw [Hid, chCode, if_pos hon]
    have e2 : Hid (chD d fault d' = d) := by rw [Hid, chD, if_pos hon]
    clear h hc hon
    go_enter Tryz.func170, Tryz.ntmps170
    go_wp2
    go_ret
    rw [e1.out, e2.out]
    exact ⟨rfl, Left_.same H.out⟩
  · have hon1 : d.on = true := by cases hd : d.on <;> simp_all
    rw [hon1] at c0
    by_cases hf : fault = 0
    · subst hf
      have hc := hc rfl
      by_cases hz : d.fuse = 0
      · have e1 : Hid (chCode d 0 = 11) := by simp [Hid, chCode, hon1, hz]
        have e2 : Hid (chD d 0 d' = { d with on := false }) := by simp [Hid, chD, hon1, hz]
        have C := power_burn B g d v w h hon1
        have e3 : Hid (burnt d = { d with on := false }) := by simp [Hid, burnt, hz]
        rw [show decide (d.fuse ≠ 0) = false by simp [hz]] at C
        clear h hc hon hon1 hz
        go_enter Tryz.func170, Tryz.ntmps170
        go_wp2_with (go_at_call 217; refine C.mono ?_; rintro e w1 ⟨rfl, h1, o1⟩)
        go_ret
        rw [e1.out, e2.out, ← e3.out]
        exact ⟨rfl, Left_.one_ h1 o1⟩
      · have e1 : Hid (chCode d 0 = 0) := by simp [Hid, chCode, hon1, hz]
        have e2 : Hid (chD d 0 d' = d') := by simp [Hid, chD, hon1, hz]
        have C := power_burn B g d v w h hon1
        rw [show decide (d.fuse ≠ 0) = true by simp [hz]] at C
        have HC := Lib.hid hc
        clear h hc hon hon1 hz
        have tok : True := trivial
        go_enter Tryz.func170, Tryz.ntmps170
        go_wp2_with (first
          | (go_at_call 217; have _t := tok; clear tok; refine C.mono ?_; rintro e w1 ⟨rfl, h1, o1⟩)
          | (refine (HC.out w1 h1 o1).mono ?_; rintro e w2 ⟨rfl, l2⟩))
        go_ret
        rw [e1.out, e2.out]
        exact ⟨rfl, l2.after o1⟩
    · have e1 : Hid (chCode d fault = fault) := by simp [Hid, chCode, hon1, hf]
      have e2 : Hid (chD d fault d' = d) := by simp [Hid, chD, hon1, hf]
      clear h hc hon hon1
      go_enter Tryz.func170, Tryz.ntmps170
      go_wp2
      go_ret
      rw [e1.out, e2.out]
      exact ⟨rfl, Left_.same H.out⟩
end Go.Proofs.YtoohpcomnhfgpaaGreat
end
section
namespace Go.Proofs.YtoohpcomnhfgpaaGreat
open Go.RowKit
set_option linter.all false
set_option maxRecDepth 100000
theorem Dsk.drew {B w : World} {g : Nat} {d : Dv} {v : Value} (s : Dsk B g d v w) : Dsk B g d v w.drew := s.keep ((Only.refl none_ w).drew)
theorem Dsk.drewN {B w : World} {g : Nat} {d : Dv} {v : Value} (s : Dsk B g d v w) (n : Nat) : Dsk B g d v (w.drewN n) := s.keep ((Only.refl none_ w).drewN n)
theorem Left_.drewN {B w w' : World} {g n : Nat} {d : Dv} {v : Value} (l : Left_ B g v (w.drewN n) d w') : Left_ B g v w d w' := Left_.after0 ((Only.refl none_ w).drewN n) l
theorem Left_.drew {B w w' : World} {g : Nat} {d : Dv} {v : Value} (l : Left_ B g v w.drew d w') : Left_ B g v w d w' := Left_.after0 ((Only.refl none_ w).drew) l
def dSync (d : Dv) : Dv := { d with safe := d.bs.length }
def dTrim (n : Nat) (d : Dv) : Dv := { d with bs := d.bs.take n, safe := min d.safe n }
def dApp (ys : List UInt8) (d : Dv) : Dv := { d with bs := d.bs ++ ys }
theorem sync_clo (B : World) (g p : Nat) (d : Dv) (v : Value) (w : World) (h : Dsk B g d v w) (hp : Blk w p 27 #[.pointer (some ⟨g, 0, none⟩)]) :
    Calls Tryz.prog 293 #[.pointer (some ⟨p, 0, none⟩)] w fun e w' => e = .returned (.tuple #[]) ∧ Left_ B g v w (dSync d) w' := by
  have H := Lib.hid h
  obtain ⟨A, n, c, rfl⟩ := h.shape
  obtain rfl := h.len
  have c2 := h.bk.cell_ (i := 2) rfl
  have c3 := h.bk.cell_ (i := 3) rfl
  have f3 := h.bk.frozen 3
  have p0 := hp.cell_ (i := 0) rfl
  clear h hp
  go_enter Tryz.func293, Tryz.ntmps293
  go_region
  all_goals
    go_wp2_with fail
    go_end0
    exact ⟨rfl, Left_.drew (Left_.one_ (H.out.drew.put 3 (.int .i64 d.bs.length) (dSync d) rfl rfl (Nat.le_refl _) H.out.fl H.out.fh) (only_put g 3 _ _))⟩
theorem disk_sync (B : World) (g : Nat) (d : Dv) (v : Value) (w : World) (h : Dsk B g d v w) :
    Calls Tryz.prog 285 #[.pointer (some ⟨g, 0, none⟩)] w fun e w' => e = .returned (.int .i64 (chCode d 0)) ∧ Left_ B g v w (chD d 0 (dSync (burnt d))) w' := by
  have o := (Only.refl none_ w).alloc (.cells #[.pointer (some ⟨g, 0, none⟩)] 27)
  have H := Lib.hid (h.keep o)
  have P := Lib.hid (Blk.new w 27 #[.pointer (some ⟨g, 0, none⟩)])
  have P0 := P.out.cell_ (i := 0) rfl
  have O := Lib.hid o
  have hmf : ∀ (fn : Fn) (first cap : Array Value) (w : World), (Instr.makeFunc fn first cap).run Tryz.prog w = .ok (.func fn first cap) w := fun _ _ _ _ => rfl
  clear h o
  go_enter Tryz.func285, Tryz.ntmps285
  go_wp2_with (go_at_call 170
               refine (power_change B g d (dSync (burnt d)) 0 v 293 #[.pointer (some ⟨w.heap.size, 0, none⟩)] _ H.out (fun w1 => enters_ Tryz.func293 rfl rfl _ _) (fun _ w1 h1 o1 => sync_clo B g w.heap.size (burnt d) v w1 h1 (H.out.box P.out (only_foot o1) (by decide) (by decide)))).mono ?_
               rintro e w2 ⟨rfl, l2⟩)
  go_ret
  exact ⟨rfl, l2.after0 O.out⟩
theorem clamp_min (a b : Nat) : ∀ ts t w, (Builtin.min_ ts t #[.int .i64 (a : Int), .int .i64 (b : Int)]).run Tryz.prog w = .ok (.int .i64 ((min a b : Nat) : Int)) w := fun ts t w => by
  rw [run_min_int2]
  by_cases h : (b : Int) < a
  · rw [if_pos h, Nat.min_eq_right (by omega)]
  · rw [if_neg h, Nat.min_eq_left (by omega)]
theorem disk_keep (B : World) (g n : Nat) (d : Dv) (v : Value) (w : World) (h : Dsk B g d v w) (hn : n ≤ d.bs.length) :
    Calls Tryz.prog 90 #[.pointer (some ⟨g, 0, none⟩), .int .i64 (n : Int)] w fun e w' => e = .returned (.tuple #[]) ∧ Left_ B g v w (dTrim n d) w' := by
  obtain ⟨i0, hi0, hz0, hz1, hz2⟩ := info_parts u8_info
  have H := Lib.hid h
  obtain ⟨A, m, c, rfl⟩ := h.shape
  obtain rfl := h.len
  obtain ⟨hrun, hown⟩ := own_hi Tryz.underlying114 hi0 h.ow n hn n rfl
  have c2 := h.bk.cell_ (i := 2) rfl
  have c3 := h.bk.cell_ (i := 3) rfl
  have f2 := h.bk.frozen 2
  have hg : w.grownBy w (Value.slice A d.bs.length c).ownBlock := ⟨rfl, rfl, rfl, Nat.le_refl _, fun _ _ _ => rfl⟩
  have hl : (d.bs.take n).length = n := by simp; omega
  have o1 : Only (one g) w (w.setCell ⟨g, 2, none⟩ (.slice A n c)) := only_put g 2 _ w
  have b1 : Blk (w.setCell ⟨g, 2, none⟩ (.slice A n c)) g 116 #[.bool d.on, .int .i64 d.fuse, .slice A n c, .int .i64 d.safe] := h.bk.set_ 2 _
  have d3 := b1.cell_ (i := 3) rfl
  have f3 := b1.frozen 3
  have hmin := clamp_min d.safe n
  have b2 : Blk ((w.setCell ⟨g, 2, none⟩ (.slice A n c)).setCell ⟨g, 3, none⟩ (.int .i64 ((min d.safe n : Nat) : Int))) g 116 #[.bool d.on, .int .i64 d.fuse, .slice A n c, .int .i64 ((min d.safe n : Nat) : Int)] := b1.set_ 3 _
  have R : Hid (Left_ B g (.slice A d.bs.length c) w (dTrim n d) ((w.setCell ⟨g, 2, none⟩ (.slice A n c)).setCell ⟨g, 3, none⟩ (.int .i64 ((min d.safe n : Nat) : Int)))) := by
    have o2 := o1.setCell (p := ⟨g, 3, none⟩) (.inl (show one g g from rfl)) (.int .i64 ((min d.safe n : Nat) : Int))
    refine ⟨.slice A n c, ⟨b2, ?_, ?_, h.ge, ?_, ?_, h.fl, h.fh⟩, only_foot o2, fun k hk => .inl (by cases A <;> exact hk)⟩
    · exact owns_only hown o2 (fun k hk e => own_blk_ne hown h.bk (by decide) (by rw [hk, show k = g from e]))
    · exact h.ho.trans' o2 (fun k hk e => by have e' : k = g := e; have := h.ge; omega)
    · show min d.safe n ≤ (d.bs.take n).length; omega
    · show (d.bs.take n).length ≤ _; have := h.ml; omega
  clear h hown hg b1 b2 o1 hl hn
  go_enter Tryz.func90, Tryz.ntmps90
  go_wp2_with fail
  go_end0
  exact ⟨rfl, R.out⟩
theorem trim_clo (B : World) (g p q n : Nat) (d : Dv) (v : Value) (w : World) (h : Dsk B g d v w) (hp : Blk w p 27 #[.pointer (some ⟨g, 0, none⟩)]) (hq : Blk w q 3 #[.int .i64 (n : Int)]) (hn : n ≤ d.bs.length) :
    Calls Tryz.prog 171 #[.pointer (some ⟨p, 0, none⟩), .pointer (some ⟨q, 0, none⟩)] w fun e w' => e = .returned (.tuple #[]) ∧ Left_ B g v w (dTrim n d) w' := by
  have C := disk_keep B g n d v w h hn
  have p0 := hp.cell_ (i := 0) rfl
  have q0 := hq.cell_ (i := 0) rfl
  clear h hp hq hn
  go_enter Tryz.func171, Tryz.ntmps171
  go_wp2_with (go_at_call 90; refine C.mono ?_; rintro e w2 ⟨rfl, l2⟩)
  go_end0
  exact ⟨rfl, l2⟩
theorem disk_trim (B : World) (g : Nat) (n : Int) (d : Dv) (v : Value) (w : World) (h : Dsk B g d v w) :
    Calls Tryz.prog 110 #[.pointer (some ⟨g, 0, none⟩), .int .i64 n] w fun e w' => e = .returned (.int .i64 (chCode d (if n < 0 ∨ (d.bs.length : Int) < n then 2 else 0))) ∧
      Left_ B g v w (chD d (if n < 0 ∨ (d.bs.length : Int) < n then 2 else 0) (dTrim n.toNat (burnt d))) w' := by
  have o := ((Only.refl none_ w).alloc (.cells #[.pointer (some ⟨g, 0, none⟩)] 27)).alloc (.cells #[.int .i64 n] 3)
  have H := Lib.hid (h.keep o)
  have P := Lib.hid ((Blk.new w 27 #[.pointer (some ⟨g, 0, none⟩)]).alloc (.cells #[.int .i64 n] 3))
  have Q := Lib.hid (Blk.new (w.alloc (.cells #[.pointer (some ⟨g, 0, none⟩)] 27)) 3 #[.int .i64 n])
  rw [World.size_alloc] at Q
  have P0 := P.out.cell_ (i := 0) rfl
  have Q0 := Q.out.cell_ (i := 0) rfl
  obtain ⟨A, m, c, rfl⟩ := h.shape
  obtain rfl := h.len
  have C2 := H.out.bk.cell_ (i := 2) rfl
  have O := Lib.hid o
  have hmf : ∀ (fn : Fn) (first cap : Array Value) (w : World), (Instr.makeFunc fn first cap).run Tryz.prog w = .ok (.func fn first cap) w := fun _ _ _ _ => rfl
  clear h o
  by_cases hz : n < 0
  · rw [if_pos (.inl hz)]
    go_enter Tryz.func110, Tryz.ntmps110
    go_wp2_with fail
    go_quiet (fail)
    go_wp2_with (go_at_call 170
                 refine (power_change B g d (dTrim n.toNat (burnt d)) 2 _ 171 #[.pointer (some ⟨w.heap.size, 0, none⟩), .pointer (some ⟨w.heap.size + 1, 0, none⟩)] _ (Dsk.drewN H.out _) (fun w1 => enters_ Tryz.func171 rfl rfl _ _) (fun h => absurd h (by decide))).mono ?_
                 rintro e w2 ⟨rfl, l2⟩)
    go_ret
    exact ⟨rfl, (l2.drewN).after0 O.out⟩
  · by_cases hz2 : (d.bs.length : Int) < n
    · rw [if_pos (.inr hz2)]
      go_enter Tryz.func110, Tryz.ntmps110
      go_wp2_with fail
      go_quiet (fail)
      go_wp2_with (go_at_call 170
                   refine (power_change B g d (dTrim n.toNat (burnt d)) 2 _ 171 #[.pointer (some ⟨w.heap.size, 0, none⟩), .pointer (some ⟨w.heap.size + 1, 0, none⟩)] _ (Dsk.drewN H.out _) (fun w1 => enters_ Tryz.func171 rfl rfl _ _) (fun h => absurd h (by decide))).mono ?_
                   rintro e w2 ⟨rfl, l2⟩)
      go_ret
      exact ⟨rfl, (l2.drewN).after0 O.out⟩
    · rw [if_neg (by omega)]
      obtain ⟨k, rfl⟩ : ∃ k : Nat, n = k := ⟨n.toNat, by omega⟩
      have hk : k ≤ d.bs.length := by omega
      rw [Int.toNat_natCast]
      go_enter Tryz.func110, Tryz.ntmps110
      go_wp2_with fail
      go_quiet (fail)
      go_wp2_with (go_at_call 170
                   refine (power_change B g d (dTrim k (burnt d)) 0 _ 171 #[.pointer (some ⟨w.heap.size, 0, none⟩), .pointer (some ⟨w.heap.size + 1, 0, none⟩)] _ (Dsk.drewN H.out _) (fun w1 => enters_ Tryz.func171 rfl rfl _ _) (fun _ w1 h1 o1 => trim_clo B g w.heap.size (w.heap.size + 1) k (burnt d) _ w1 h1 ((H.out.drewN _).box (P.out.drewN _) (only_foot o1) (by decide) (by decide)) ((H.out.drewN _).box (Q.out.drewN _) (only_foot o1) (by decide) (by decide)) (by rw [(burnt_bs d).1]; exact hk))).mono ?_
                   rintro e w2 ⟨rfl, l2⟩)
      go_ret
      exact ⟨rfl, (l2.drewN).after0 O.out⟩
theorem app_clo (B : World) (g p q : Nat) (d : Dv) (v x : Value) (ys : List UInt8) (S : Nat → Prop) (w : World) (h : Dsk B g d v w) (hp : Blk w p 27 #[.pointer (some ⟨g, 0, none⟩)]) (hq : Blk w q 114 #[x]) (hx : Byt w S x ys)
    (hm : (d.bs ++ ys).length ≤ 1048576) :
    Calls Tryz.prog 292 #[.pointer (some ⟨p, 0, none⟩), .pointer (some ⟨q, 0, none⟩)] w fun e w' => e = .returned (.tuple #[]) ∧ Left_ B g v w (dApp ys d) w' := by
  obtain ⟨i0, hi0, hz0, hz1, hz2⟩ := info_parts u8_info
  have H := Lib.hid h
  have HX := Lib.hid hx
  have P := Lib.hid hp
  have Q := Lib.hid hq
  obtain ⟨A, m, c, rfl⟩ := h.shape
  obtain rfl := h.len
  obtain ⟨X, L, e, rfl⟩ : ∃ X L e, x = .slice X L e := by obtain ⟨X, e, hx', _⟩ := hx; exact ⟨X, _, e, hx'⟩
  have c2 := h.bk.cell_ (i := 2) rfl
  have f2 := h.bk.frozen 2
  have p0 : w.drew.cell? ⟨p, 0, none⟩ = some (.pointer (some ⟨g, 0, none⟩)) := hp.cell_ (i := 0) rfl
  have q0 : w.drew.cell? ⟨q, 0, none⟩ = some (.slice X L e) := hq.cell_ (i := 0) rfl
  have hb : d.bs.length + ys.length ≤ 140737488355328 := by simp at hm; omega
  have hbase : B.heap.size ≤ w.drew.heap.size := h.ho.size
  have HM : Hid (d.safe ≤ (d.bs ++ ys).length ∧ (d.bs ++ ys).length ≤ 1048576) := ⟨by have := h.sl; simp; omega, hm⟩
  have HD := Lib.hid h.drew
  have PD : Hid (Blk w.drew p 27 #[.pointer (some ⟨g, 0, none⟩)]) := hp
  have QD : Hid (Blk w.drew q 114 #[.slice X L e]) := hq
  clear h hp hq hx hm
  go_enter Tryz.func292, Tryz.ntmps292
  go_wp2_with fail
  go_region_law (first
      | (refine step_append_byt _ rfl (.tmp 6) (.tmp 7) _ rfl B.heap.size 5 i0 (.int .u8 0) Tryz.underlying114 hi0 hz0 hz1 hz2 rfl (.slice A d.bs.length c) d.bs rfl (by exact HD.out.ow) S (.slice X L e) ys rfl (by exact HX.out) hb hbase ?_
         intro A5 n5 c5 w5 hown5 hgrow5 hmv5
         have O5 : Only (foot g (.slice A d.bs.length c)) w.drew w5 := (Only.refl _ _).grown hgrow5 (fun k hk => .inl (.inr hk))
         have K5 := HD.out.bk.grown' hgrow5 (own_blk_ne HD.out.ow HD.out.bk (by decide))
         have b2 := K5.cell_ (i := 2) rfl
         have bf := K5.frozen 2
         have bp : w5.cell? ⟨p, 0, none⟩ = some (.pointer (some ⟨g, 0, none⟩)) := (HD.out.box PD.out O5 (by decide) (by decide)).cell_ (i := 0) rfl
         have bq : w5.cell? ⟨q, 0, none⟩ = some (.slice X L e) := (HD.out.box QD.out O5 (by decide) (by decide)).cell_ (i := 0) rfl
         have P5 := (HD.out.box PD.out O5 (by decide) (by decide))
         have Q5 := (HD.out.box QD.out O5 (by decide) (by decide))
         have D5 := Lib.hid (HD.out.app hown5 hgrow5 HM.out.2 HM.out.1)
         have M5 := Lib.hid hmv5
         have sp : (w5.setCell ⟨g, 2, none⟩ (.slice A5 n5 c5)).cell? ⟨p, 0, none⟩ = some (.pointer (some ⟨g, 0, none⟩)) := (P5.far (p := ⟨g, 2, none⟩) (Blk.ne_ P5 K5 (by decide)) (.slice A5 n5 c5)).cell_ (i := 0) rfl
         have sq : (w5.setCell ⟨g, 2, none⟩ (.slice A5 n5 c5)).cell? ⟨q, 0, none⟩ = some (.slice X L e) := (Q5.far (p := ⟨g, 2, none⟩) (Blk.ne_ Q5 K5 (by decide)) (.slice A5 n5 c5)).cell_ (i := 0) rfl
         clear hown5 hgrow5 hmv5))
  all_goals go_wp2_with fail
  all_goals go_end0
  all_goals exact ⟨rfl, Left_.drew ⟨_, D5.out.1, D5.out.2, M5.out⟩⟩
theorem disk_append (B : World) (g : Nat) (d : Dv) (v x : Value) (ys : List UInt8) (S : Nat → Prop) (w : World) (h : Dsk B g d v w) (hx : Byt w S x ys) (hS : ∀ b, S b → b ≠ g) :
    Calls Tryz.prog 284 #[.pointer (some ⟨g, 0, none⟩), x] w fun e w' => e = .returned (.int .i64 (chCode d (if 1048576 < d.bs.length + ys.length then 7 else 0))) ∧
      Left_ B g v w (chD d (if 1048576 < d.bs.length + ys.length then 7 else 0) (dApp ys (burnt d))) w' := by
  obtain ⟨X, L, e, rfl⟩ : ∃ X L e, x = .slice X L e := by obtain ⟨X, e, hx', _⟩ := hx; exact ⟨X, _, e, hx'⟩
  obtain rfl : L = ys.length := by obtain ⟨X', e', hx', _⟩ := hx; injection hx'
  have o := ((Only.refl none_ w).alloc (.cells #[.pointer (some ⟨g, 0, none⟩)] 27)).alloc (.cells #[.slice X ys.length e] 114)
  have H := Lib.hid (h.keep o)
  have HX := Lib.hid ((hx.alloc (.cells #[.pointer (some ⟨g, 0, none⟩)] 27)).alloc (.cells #[.slice X ys.length e] 114))
  have P := Lib.hid ((Blk.new w 27 #[.pointer (some ⟨g, 0, none⟩)]).alloc (.cells #[.slice X ys.length e] 114))
  have Q := Lib.hid (Blk.new (w.alloc (.cells #[.pointer (some ⟨g, 0, none⟩)] 27)) 114 #[.slice X ys.length e])
  rw [World.size_alloc] at Q
  have P0 := P.out.cell_ (i := 0) rfl
  have Q0 := Q.out.cell_ (i := 0) rfl
  obtain ⟨A, m, c, rfl⟩ := h.shape
  obtain rfl := h.len
  have C2 := H.out.bk.cell_ (i := 2) rfl
  have O := Lib.hid o
  have hmf : ∀ (fn : Fn) (first cap : Array Value) (w : World), (Instr.makeFunc fn first cap).run Tryz.prog w = .ok (.func fn first cap) w := fun _ _ _ _ => rfl
  have hml := h.ml
  have hW : IntKind.i64.wrap (1048576 - (d.bs.length : Int)) = 1048576 - (d.bs.length : Int) := IntWalk.i64_in _ (by omega)
  have HS := Lib.hid hS
  clear h o hx hS
  by_cases hz : 1048576 < d.bs.length + ys.length
  · rw [if_pos hz]
    have hz1 : (1048576 : Int) - d.bs.length < ys.length := by omega
    go_enter Tryz.func284, Tryz.ntmps284
    go_wp2_with fail
    go_quiet (fail)
    go_wp2_with (go_at_call 170
                 refine (power_change B g d (dApp ys (burnt d)) 7 _ 292 #[.pointer (some ⟨w.heap.size, 0, none⟩), .pointer (some ⟨w.heap.size + 1, 0, none⟩)] _ (Dsk.drewN H.out _) (fun w1 => enters_ Tryz.func292 rfl rfl _ _) (fun h => absurd h (by decide))).mono ?_
                 rintro e w2 ⟨rfl, l2⟩)
    go_ret
    exact ⟨rfl, (l2.drewN).after0 O.out⟩
  · rw [if_neg hz]
    have hz1 : ¬ (1048576 : Int) - d.bs.length < ys.length := by omega
    have hz2 : ((burnt d).bs ++ ys).length ≤ 1048576 := by rw [(burnt_bs d).1]; simp; omega
    go_enter Tryz.func284, Tryz.ntmps284
    go_wp2_with fail
    go_quiet (fail)
    go_wp2_with (go_at_call 170
                 refine (power_change B g d (dApp ys (burnt d)) 0 _ 292 #[.pointer (some ⟨w.heap.size, 0, none⟩), .pointer (some ⟨w.heap.size + 1, 0, none⟩)] _ (Dsk.drewN H.out _) (fun w1 => enters_ Tryz.func292 rfl rfl _ _)
                   (fun _ w1 h1 o1 => app_clo B g w.heap.size (w.heap.size + 1) (burnt d) _ _ ys S w1 h1 ((H.out.drewN _).box (P.out.drewN _) (only_foot o1) (by decide) (by decide)) ((H.out.drewN _).box (Q.out.drewN _) (only_foot o1) (by decide) (by decide)) ((HX.out.drewN _).only o1 (fun b hb e => HS.out b hb e)) hz2)).mono ?_
                 rintro e w2 ⟨rfl, l2⟩)
    go_ret
    exact ⟨rfl, (l2.drewN).after0 O.out⟩
end Go.Proofs.YtoohpcomnhfgpaaGreat
end
