/- What a reader of package journal does. No statement of the seat is proved here. -/
import Derived.Test.YtbhdnhnkiibaaaaJnB
import Derived.Test.YtbhdnhnkiibaaaaOctE
import Derived.Test.YtbhdnhnkiibaaaaOctU
namespace Go.Proofs.Ytbhdnhnkiibaaaa
open Go.RowKit
set_option maxRecDepth 100000
set_option linter.all false

theorem TabP.any {tt : TypeId} {Q : Array Value} {w : World} {g : Nat} (h : TabP tt #[] Q w g) : ∃ u, w.cell? ⟨g, 0, none⟩ = some u := by
  rcases h with h | h
  · exact ⟨_, h.cell_ (pad_at (P := #[]) (o := 0) (j := 0) rfl (show (rowCells 0 0 0)[0]? = some (.int .u32 0) by rw [rowCells, Array.getElem?_append_left (by simp)]; rfl))⟩
  · exact ⟨_, h.cell_ (pad_at (P := #[]) (o := 0) (j := 0) rfl (show (rowCells 1 0 256)[0]? = some (.int .u32 1) by rw [rowCells, Array.getElem?_append_left (by simp)]; rfl))⟩
theorem TabP.rest {tt : TypeId} {w : World} {g : Nat} {v : Value} (h : TabP tt #[] #[v] w g) : w.cell? ⟨g, 259, none⟩ = some v :=
  h.cell (j := 259) (fun cs hc => TabP.behind (P := #[]) (Q := #[v]) (o := 0) (j := 0) rfl rfl cs hc)

theorem num145two (hd : List UInt8) (h : hd.length = 6) : numR 0 hd 2 = (0, hd.drop 2, leVal (hd.take 2)) := by
  simp [numR, isW, h]
theorem leVal_two (hd : List UInt8) : leVal (hd.take 2) < 65536 := by
  have h1 := leVal_lt (hd.take 2)
  have h2 : (hd.take 2).length ≤ 2 := by rw [List.length_take]; omega
  have h3 : 256 ^ (hd.take 2).length ≤ 256 ^ 2 := Nat.pow_le_pow_right (by omega) h2
  omega

set_option maxHeartbeats 800000 in
theorem length_no (Q : Array Value) (g : Nat) (S : Nat → Prop) (x : Value) (hd : List UInt8) (w : World) (h : TabP 145 #[] Q w g) (hx : Byt w S x hd) (hS : ∀ b, S b → b ≠ g) (hl : hd.length = 6) (hh : crcHolds hd = false) :
    Calls Try.prog 91 #[.pointer (some ⟨g, 0, none⟩), x] w fun e w' => e = .returned (.tuple #[.int .i64 0, .bool false]) ∧ TabP 145 #[] Q w' g ∧ Only (one g) w w' := by
  obtain ⟨u, hu⟩ := h.any
  have HH := holds_at (o := 0) rfl g S x hd w h hx hS (by omega)
  rw [hh] at HH
  have hv : ∃ A c, x = .slice A 6 c := by obtain ⟨A, c, h, _⟩ := hx; exact ⟨A, c, by rw [h, hl]⟩
  obtain ⟨A, c, rfl⟩ := hv
  clear h hx hS hl hh
  go_enter Try.func91, Try.ntmps91
  go_wp2_with (first
    | (go_at_call 92; refine HH.mono ?_; rintro e w1 ⟨rfl, t1, o1⟩))
  go_ret2
  exact ⟨rfl, t1, o1⟩
set_option maxHeartbeats 800000 in
theorem length_yes (Q : Array Value) (g : Nat) (S : Nat → Prop) (x : Value) (hd : List UInt8) (w : World) (h : TabP 145 #[] Q w g) (hx : Byt w S x hd) (hS : ∀ b, S b → b ≠ g) (hl : hd.length = 6) (hh : crcHolds hd = true) :
    Calls Try.prog 91 #[.pointer (some ⟨g, 0, none⟩), x] w fun e w' => e = .returned (.tuple #[.int .i64 (leVal (hd.take 2) : Int), .bool (decide (1 ≤ leVal (hd.take 2)) && decide (leVal (hd.take 2) ≤ 512))]) ∧ TabP 145 #[] Q w' g ∧ Only (one g) w w' := by
  obtain ⟨u, hu⟩ := h.any
  have HH := holds_at (o := 0) rfl g S x hd w h hx hS (by omega)
  rw [hh] at HH
  have HX := Lib.hid (hx.mono (T := fun b => b ≠ g) (fun b _ h => hS b h))
  have HL := Lib.hid hl
  have hv : ∃ A c, x = .slice A 6 c := by obtain ⟨A, c, h, _⟩ := hx; exact ⟨A, c, by rw [h, hl]⟩
  obtain ⟨A, c, rfl⟩ := hv
  have HN := Lib.hid (num145two hd hl)
  obtain ⟨n, hn⟩ : ∃ n, leVal (hd.take 2) = n := ⟨_, rfl⟩
  have hlt : n < 65536 := hn ▸ leVal_two hd
  rw [hn] at HN ⊢
  have hcv : IntKind.i64.wrap (n : Int) = (n : Int) := IntWalk.i64_in _ (by omega)
  have hge : decide ((1 : Int) ≤ (n : Int)) = decide (1 ≤ n) := by simp; omega
  have hle : decide ((n : Int) ≤ 512) = decide (n ≤ 512) := by simp; omega
  have HG := Lib.hid h.lt
  clear h hx hS hl hh hn
  by_cases h1 : 1 ≤ n
  · have d1 : decide (1 ≤ n) = true := by simp [h1]
    rw [d1] at hge ⊢
    by_cases h5 : n ≤ 512
    · have d5 : decide (n ≤ 512) = true := by simp [h5]
      rw [d5] at hle ⊢
      clear d1 d5 h1 h5
      go_enter Try.func91, Try.ntmps91
      go_wp2_with (first
        | (go_at_call 92; refine HH.mono ?_; rintro e w1 ⟨rfl, t1, o1⟩
           have T1 := Lib.hid t1
           have O1 := Lib.hid o1
           have X1 := Lib.hid (HX.out.only o1 (fun _ h => h))
           clear t1 o1)
        | (go_at_call 105; refine (read_any _ hd _ _ X1.out (by have := HL.out; omega)).mono ?_; rintro e w2 ⟨g2, S2, rfl, hg2, r2, hS2, o2⟩
           have R2 := Lib.hid r2
           have T2 := Lib.hid (T1.out.only o2 (fun h => h))
           have O2 := Lib.hid (O1.out.trans o2.of_none)
           have hh := O1.out.size
           have N2 : Hid (g ≠ g2 ∧ w.heap.size ≤ g2) := ⟨by have := HG.out; omega, by omega⟩
           clear hg2 r2 hS2 o2 hh)
        | (go_at_call 106; refine (reader_number g2 S2 _ _ 2 _ R2.out (by have := HL.out; omega)).mono ?_; rw [HN.out]; rintro e w3 ⟨rfl, r3, o3⟩
           have T3 := Lib.hid (T2.out.only o3 (fun e => N2.out.1 e))
           have O3 : Hid (Only (one g) w w3) := O2.out.trans' o3 (fun k hk e => by have e' : k = g2 := e; have := N2.out.2; omega)
           clear r3 o3))
      go_ret2
      exact ⟨rfl, T3.out, O3.out⟩
    · have d5 : decide (n ≤ 512) = false := by simp; omega
      rw [d5] at hle ⊢
      clear d1 d5 h1 h5
      go_enter Try.func91, Try.ntmps91
      go_wp2_with (first
        | (go_at_call 92; refine HH.mono ?_; rintro e w1 ⟨rfl, t1, o1⟩
           have T1 := Lib.hid t1
           have O1 := Lib.hid o1
           have X1 := Lib.hid (HX.out.only o1 (fun _ h => h))
           clear t1 o1)
        | (go_at_call 105; refine (read_any _ hd _ _ X1.out (by have := HL.out; omega)).mono ?_; rintro e w2 ⟨g2, S2, rfl, hg2, r2, hS2, o2⟩
           have R2 := Lib.hid r2
           have T2 := Lib.hid (T1.out.only o2 (fun h => h))
           have O2 := Lib.hid (O1.out.trans o2.of_none)
           have hh := O1.out.size
           have N2 : Hid (g ≠ g2 ∧ w.heap.size ≤ g2) := ⟨by have := HG.out; omega, by omega⟩
           clear hg2 r2 hS2 o2 hh)
        | (go_at_call 106; refine (reader_number g2 S2 _ _ 2 _ R2.out (by have := HL.out; omega)).mono ?_; rw [HN.out]; rintro e w3 ⟨rfl, r3, o3⟩
           have T3 := Lib.hid (T2.out.only o3 (fun e => N2.out.1 e))
           have O3 : Hid (Only (one g) w w3) := O2.out.trans' o3 (fun k hk e => by have e' : k = g2 := e; have := N2.out.2; omega)
           clear r3 o3))
      go_ret2
      exact ⟨rfl, T3.out, O3.out⟩
  · have d1 : decide (1 ≤ n) = false := by simp; omega
    rw [d1] at hge ⊢
    clear d1 h1
    go_enter Try.func91, Try.ntmps91
    go_wp2_with (first
      | (go_at_call 92; refine HH.mono ?_; rintro e w1 ⟨rfl, t1, o1⟩
         have T1 := Lib.hid t1
         have O1 := Lib.hid o1
         have X1 := Lib.hid (HX.out.only o1 (fun _ h => h))
         clear t1 o1)
      | (go_at_call 105; refine (read_any _ hd _ _ X1.out (by have := HL.out; omega)).mono ?_; rintro e w2 ⟨g2, S2, rfl, hg2, r2, hS2, o2⟩
         have R2 := Lib.hid r2
         have T2 := Lib.hid (T1.out.only o2 (fun h => h))
         have O2 := Lib.hid (O1.out.trans o2.of_none)
         have hh := O1.out.size
         have N2 : Hid (g ≠ g2 ∧ w.heap.size ≤ g2) := ⟨by have := HG.out; omega, by omega⟩
         clear hg2 r2 hS2 o2 hh)
      | (go_at_call 106; refine (reader_number g2 S2 _ _ 2 _ R2.out (by have := HL.out; omega)).mono ?_; rw [HN.out]; rintro e w3 ⟨rfl, r3, o3⟩
         have T3 := Lib.hid (T2.out.only o3 (fun e => N2.out.1 e))
         have O3 : Hid (Only (one g) w w3) := O2.out.trans' o3 (fun k hk e => by have e' : k = g2 := e; have := N2.out.2; omega)
         clear r3 o3))
    go_ret2
    exact ⟨rfl, T3.out, O3.out⟩

/-- What is left for a reader. -/
def Rdr (w : World) (g : Nat) (S : Nat → Prop) (bs : List UInt8) : Prop := ∃ A c, TabP 145 #[] #[.slice A bs.length c] w g ∧ Byt w S (.slice A bs.length c) bs
theorem Rdr.only {w w' : World} {g : Nat} {S T : Nat → Prop} {bs : List UInt8} (h : Rdr w g S bs) (ho : Only T w w') (hg : ¬ T g) (hn : ∀ b, S b → ¬ T b) : Rdr w' g S bs := by
  obtain ⟨A, c, h1, h2⟩ := h
  exact ⟨A, c, h1.only ho hg, h2.only ho hn⟩

/-- What a round of reading tells, and leaves. -/
def Nxt (g : Nat) (S : Nat → Prop) (bs : List UInt8) (w : World) (v : Value) (w' : World) : Prop :=
  (jnK bs ≠ 0 ∧ v = .slice none 0 0 ∧ Rdr w' g S bs) ∨ (jnK bs = 0 ∧ ∃ A n c, v = .slice A n c ∧ w'.ownsRow w.heap.size 5 1 (.slice A n c) (jnB bs).length (byts (jnB bs)) ∧ Rdr w' g S (bs.drop (10 + jnN bs)))

set_option maxHeartbeats 3200000 in
theorem next_any (g : Nat) (S : Nat → Prop) (bs : List UInt8) (w : World) (h : Rdr w g S bs) (hS : ∀ b, S b → b ≠ g) (hl : bs.length ≤ 1048576) :
    Calls Try.prog 77 #[.pointer (some ⟨g, 0, none⟩)] w fun e w' => ∃ v, e = .returned (.tuple #[v, .int .i64 (jnK bs : Int)]) ∧ Nxt g S bs w v w' ∧ Only (one g) w w' := by
  obtain ⟨i0, hi0, hz0, hz1, hz2⟩ := info_parts u8_info
  obtain ⟨A, c, ht, hb⟩ := h
  obtain ⟨u, hu⟩ := ht.any
  have hr := ht.rest
  obtain ⟨L, hL⟩ : ∃ L, bs.length = L := ⟨_, rfl⟩
  have HB := Lib.hid hb
  have HT := Lib.hid ht
  have HS := Lib.hid hS
  have HL := Lib.hid hL
  rw [hL] at hr hl
  by_cases h6 : L < 6
  · have hk : Hid (jnK bs = 1) := by rw [Hid, jnK, if_pos (by omega)]
    have d6 : decide ((L : Int) < 6) = true := by simp; omega
    clear ht hb hS hL
    go_enter Try.func77, Try.ntmps77
    go_wp2_with fail
    go_ret2
    exact ⟨_, by rw [hk.out]; rfl, .inl ⟨by rw [hk.out]; decide, rfl, A, c, HT.out, HB.out⟩, Only.refl _ _⟩
  have d6 : decide ((L : Int) < 6) = false := by simp; omega
  rw [hL] at hb
  obtain ⟨A6, hsl6, hb6⟩ := byt_hi Try.underlying71 hi0 hb 6 (by omega) 6 rfl
  have B6 := Lib.hid hb6
  have hl6 : (bs.take 6).length = 6 := by rw [List.length_take]; omega
  obtain ⟨n, hn⟩ : ∃ n, leVal ((bs.take 6).take 2) = n := ⟨_, rfl⟩
  have hn' : jnN bs = n := by rw [jnN, ← hn, List.take_take]; rfl
  have hn5 : n < 65536 := hn ▸ leVal_two _
  by_cases hh : crcHolds (bs.take 6) = false
  · have hk : Hid (jnK bs = 2) := by rw [Hid, jnK, if_neg (by omega), if_pos (.inl hh)]
    have HN := Lib.hid (length_no _ g _ _ _ w HT.out hb6 hS hl6 hh)
    clear ht hb hS hL hb6 hh hn hn' hn5 hl6
    go_enter Try.func77, Try.ntmps77
    go_wp2_with (first
      | (go_at_call 91; refine HN.out.mono ?_; rintro e w1 ⟨rfl, t1, o1⟩))
    go_ret2
    exact ⟨_, by rw [hk.out]; rfl, .inl ⟨by rw [hk.out]; decide, rfl, A, c, t1, HB.out.only o1 HS.out⟩, o1⟩
  have hh : crcHolds (bs.take 6) = true := by simpa using hh
  have HN := Lib.hid (length_yes _ g _ _ _ w HT.out hb6 hS hl6 hh)
  rw [hn] at HN
  by_cases hr5 : n < 1 ∨ 512 < n
  · have hk : Hid (jnK bs = 2) := by rw [Hid, jnK, if_neg (by omega), if_pos (.inr (by rw [hn']; exact hr5))]
    have hf : (decide (1 ≤ n) && decide (n ≤ 512)) = false := by simp; omega
    rw [hf] at HN
    clear ht hb hS hL hb6 hh hn hn' hl6 hr5 hf
    go_enter Try.func77, Try.ntmps77
    go_wp2_with (first
      | (go_at_call 91; refine HN.out.mono ?_; rintro e w1 ⟨rfl, t1, o1⟩))
    go_ret2
    exact ⟨_, by rw [hk.out]; rfl, .inl ⟨by rw [hk.out]; decide, rfl, A, c, t1, HB.out.only o1 HS.out⟩, o1⟩
  have hf : (decide (1 ≤ n) && decide (n ≤ 512)) = true := by simp; omega
  rw [hf] at HN
  have hw1 : IntKind.i64.wrap (6 + (n : Int)) = 6 + (n : Int) := IntWalk.i64_in _ (by omega)
  have hw2 : IntKind.i64.wrap (6 + (n : Int) + 4) = 6 + (n : Int) + 4 := IntWalk.i64_in _ (by omega)
  by_cases hs : L < 10 + n
  · have hk : Hid (jnK bs = 1) := by rw [Hid, jnK, if_neg (by omega), if_neg (by rw [hn', hh]; simp; omega), if_pos (by rw [hn']; omega)]
    have ds : decide ((L : Int) < 6 + (n : Int) + 4) = true := by simp; omega
    clear ht hb hS hL hb6 hh hn hn' hl6 hr5 hf hs
    go_enter Try.func77, Try.ntmps77
    go_wp2_with (first
      | (go_at_call 91; refine HN.out.mono ?_; rintro e w1 ⟨rfl, t1, o1⟩
         have T1 := Lib.hid t1
         have O1 := Lib.hid o1
         have r1 := t1.rest
         obtain ⟨u1, hu1⟩ := t1.any
         rw [HL.out] at r1
         clear t1 o1))
    go_ret2
    exact ⟨_, by rw [hk.out]; rfl, .inl ⟨by rw [hk.out]; decide, rfl, A, c, T1.out, HB.out.only O1.out HS.out⟩, O1.out⟩
  have ds : decide ((L : Int) < 6 + (n : Int) + 4) = false := by simp; omega
  obtain ⟨Am, Lm, cm, hslm, hbm⟩ := byt_mid Try.underlying71 hi0 hz1 hb 6 (10 + n) (by omega) (by omega) 6 (6 + (n : Int) + 4) rfl (by omega)
  rw [show 10 + n - 6 = n + 4 by omega] at hbm
  have hlm : ((bs.drop 6).take (n + 4)).length = n + 4 := by rw [List.length_take, List.length_drop]; omega
  have hLm : Lm = n + 4 := by obtain ⟨_, _, he, _⟩ := hbm; injection he with _ h2 _; rw [h2, hlm]
  subst hLm
  have BM := Lib.hid hbm
  have HM := Lib.hid hlm
  by_cases hm : crcHolds ((bs.drop 6).take (n + 4)) = false
  · have hk : Hid (jnK bs = 2) := by rw [Hid, jnK, if_neg (by omega), if_neg (by rw [hn', hh]; simp; omega), if_neg (by rw [hn']; omega), hn', if_pos hm]
    have HMF := Lib.hid hm
    clear ht hb hS hL hb6 hh hn hn' hl6 hr5 hf hs hbm hlm hm
    go_enter Try.func77, Try.ntmps77
    go_wp2_with (first
      | (go_at_call 91; refine HN.out.mono ?_; rintro e w1 ⟨rfl, t1, o1⟩
         have T1 := Lib.hid t1
         have O1 := Lib.hid o1
         have r1 := t1.rest
         obtain ⟨u1, hu1⟩ := t1.any
         rw [HL.out] at r1
         clear t1 o1)
      | (go_at_call 92; refine (holds_at (o := 0) rfl g S _ _ _ T1.out (BM.out.only O1.out HS.out) HS.out (by have := HM.out; omega)).mono ?_; rw [HMF.out]; rintro e w2 ⟨rfl, t2, o2⟩))
    go_ret2
    exact ⟨_, by rw [hk.out]; rfl, .inl ⟨by rw [hk.out]; decide, rfl, A, c, t2, HB.out.only (O1.out.trans o2) HS.out⟩, O1.out.trans o2⟩
  have hm : crcHolds ((bs.drop 6).take (n + 4)) = true := by simpa using hm
  have hk : Hid (jnK bs = 0) := by rw [Hid, jnK, if_neg (by omega), if_neg (by rw [hn', hh]; simp; omega), if_neg (by rw [hn']; omega), hn', if_neg (by rw [hm]; decide)]
  obtain ⟨Al, Ll, cl, hsll, hbl⟩ := byt_lo Try.underlying71 hi0 hz1 hb (10 + n) (by omega) (6 + (n : Int) + 4) (by omega)
  obtain ⟨Ar, hslr, hbr⟩ := byt_hi Try.underlying71 hi0 hbm n (by omega) (n : Int) rfl
  have hjb : Hid (((bs.drop 6).take (n + 4)).take n = jnB bs) := by rw [Hid, jnB, hn', List.take_take, Nat.min_eq_left (by omega)]
  have HJ := Lib.hid hn'
  have BL := Lib.hid hbl
  have BR := Lib.hid hbr
  have HMT := Lib.hid hm
  have HLl : Hid (Ll = (bs.drop (10 + n)).length) := by obtain ⟨_, _, he, _⟩ := hbl; injection he
  have hjl : ((bs.drop 6).take (n + 4)).take n = ((bs.drop 6).take (n + 4)).take n := rfl
  have HR5 : Hid ((((bs.drop 6).take (n + 4)).take n).length ≤ 140737488355328) := by rw [Hid, List.length_take]; omega
  clear ht hb hS hL hb6 hh hn hn' hl6 hr5 hf hs hbm hlm hm hbl hbr hjl
  go_enter Try.func77, Try.ntmps77
  go_wp2_with (first
    | (go_at_call 91; refine HN.out.mono ?_; rintro e w1 ⟨rfl, t1, o1⟩
       have T1 := Lib.hid t1
       have O1 := Lib.hid o1
       have r1 := t1.rest
       obtain ⟨u1, hu1⟩ := t1.any
       rw [HL.out] at r1
       clear t1 o1)
    | (go_at_call 92; refine (holds_at (o := 0) rfl g S _ _ _ T1.out (BM.out.only O1.out HS.out) HS.out (by have := HM.out; omega)).mono ?_; rw [HMT.out]; rintro e w2 ⟨rfl, t2, o2⟩
       have T2 := Lib.hid t2
       have O2 := Lib.hid (O1.out.trans o2)
       have r2 := t2.rest
       have f2 := t2.frozen 259
       obtain ⟨u2, hu2⟩ := t2.any
       rw [HL.out] at r2
       have T3 : Hid (TabP 145 #[] #[.slice Al Ll cl] (w2.setCell ⟨g, 259, none⟩ (.slice Al Ll cl)) g) := T2.out.setQ (P := #[]) (o := 0) rfl 0 (.slice Al Ll cl)
       have O3 : Hid (Only (one g) w (w2.setCell ⟨g, 259, none⟩ (.slice Al Ll cl))) := O2.out.setCell (p := ⟨g, 259, none⟩) (.inl (show one g g from rfl)) _
       clear t2 o2)
    | (go_at_call 76; refine (bytes_clone _ _ _ _ (BR.out.only O3.out HS.out) HR5.out).mono ?_; rintro e w4 ⟨A4, n4, c4, rfl, own4, o4⟩
       have T4 := Lib.hid (T3.out.only o4 (fun h => h))
       have O4 := Lib.hid (O3.out.trans o4.of_none)
       have X4 := Lib.hid (owns_base own4 O3.out.size)
       clear own4 o4))
  go_ret2
  refine ⟨_, by rw [hk.out]; rfl, .inr ⟨hk.out, _, _, _, rfl, ?_, Al, cl, ?_, ?_⟩, O4.out⟩
  · rw [← hjb.out]; exact X4.out
  · rw [HJ.out, ← HLl.out]; exact T4.out
  · rw [HJ.out, ← HLl.out]; exact BL.out.only O4.out HS.out
end Go.Proofs.Ytbhdnhnkiibaaaa
