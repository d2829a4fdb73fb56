/- The example of layer 10 that each statement calls first. No statement of the seat is proved here. -/
import Derived.Test.YtclngnoapfjghaaRcG
import Derived.BigQuiet
namespace Go.Proofs.Ytclngnoapfjghaa
open Go.RowKit
set_option maxRecDepth 100000
set_option linter.all false

def mA : Mk := ⟨⟨2, 0⟩, ⟨#[97]⟩⟩
def mB : Mk := ⟨⟨1, 0⟩, ⟨#[98]⟩⟩
theorem ab_ne : ¬ ((⟨#[98]⟩ : ByteArray) = ⟨#[97]⟩) := fun e => by injection e with e; simp at e
theorem ab_put : putM [] mB = [mB] ∧ putM [mB] mA = [mA, mB] ∧ belM [mA, mB] mkTop 9 = [mA, mB] ∧ belM [mA, mB] mA 9 = [mB] := by
  have h1 : mkLater mA mB = true := by decide
  have h2 : mkLater mA mA = false := later_irr mA
  have h3 : isTop mkTop = true := by decide
  have h4 : isTop mA = false := by decide
  have h5 : ¬ (mB.k = mA.k) := ab_ne
  refine ⟨rfl, ?_, ?_, ?_⟩
  · simp [putM, dropM, insM, h1, h5]
  · rw [bel_top h3]; rfl
  · simp [belM, belF, h1, h2, h4]

/-- What lies where at the example's end. -/
structure Sp (w : World) (h2 h3 bN bB : Nat) : Prop where
  a0 : w.cell? ⟨h2, 0, none⟩ = some (.int .i64 2)
  a1 : w.cell? ⟨h2, 1, none⟩ = some (.int .i64 0)
  a2 : w.cell? ⟨h2, 2, none⟩ = some (.string ⟨#[97]⟩)
  b0 : w.cell? ⟨h3, 0, none⟩ = some (.int .i64 1)
  b1 : w.cell? ⟨h3, 1, none⟩ = some (.int .i64 0)
  b2 : w.cell? ⟨h3, 2, none⟩ = some (.string ⟨#[98]⟩)
  n0 : w.cell? ⟨bN, 0, none⟩ = some (.int .i64 2)
  n1 : w.cell? ⟨bN, 1, none⟩ = some (.int .i64 0)
  n2 : w.cell? ⟨bN, 2, none⟩ = some (.string ⟨#[97]⟩)
  n3 : w.cell? ⟨bN, 3, none⟩ = some (.int .i64 1)
  n4 : w.cell? ⟨bN, 4, none⟩ = some (.int .i64 0)
  n5 : w.cell? ⟨bN, 5, none⟩ = some (.string ⟨#[98]⟩)
  m0 : w.cell? ⟨bB, 0, none⟩ = some (.int .i64 1)
  m1 : w.cell? ⟨bB, 1, none⟩ = some (.int .i64 0)
  m2 : w.cell? ⟨bB, 2, none⟩ = some (.string ⟨#[98]⟩)
theorem Sp.drew {w : World} {h2 h3 bN bB : Nat} (h : Sp w h2 h3 bN bB) : Sp w.drew h2 h3 bN bB := ⟨h.a0, h.a1, h.a2, h.b0, h.b1, h.b2, h.n0, h.n1, h.n2, h.n3, h.n4, h.n5, h.m0, h.m1, h.m2⟩
theorem sp_mk {w : World} {h2 h3 bN bB : Nat} (a : Blk w h2 39 #[.int .i64 2, .int .i64 0, .string ⟨#[97]⟩]) (b : Blk w h3 39 #[.int .i64 1, .int .i64 0, .string ⟨#[98]⟩])
    (n : ∀ j u, ([.int .i64 2, .int .i64 0, .string ⟨#[97]⟩, .int .i64 1, .int .i64 0, .string ⟨#[98]⟩] : List Value)[j]? = some u → w.cell? ⟨bN, j, none⟩ = some u)
    (m : ∀ j u, ([.int .i64 1, .int .i64 0, .string ⟨#[98]⟩] : List Value)[j]? = some u → w.cell? ⟨bB, j, none⟩ = some u) : Sp w h2 h3 bN bB :=
  ⟨a.cell_ rfl, a.cell_ rfl, a.cell_ rfl, b.cell_ rfl, b.cell_ rfl, b.cell_ rfl, n 0 _ rfl, n 1 _ rfl, n 2 _ rfl, n 3 _ rfl, n 4 _ rfl, n 5 _ rfl, m 0 _ rfl, m 1 _ rfl, m 2 _ rfl⟩

theorem own_told {w : World} {base : Nat} {e : TypeId} {v : Value} {n : Nat} {xs : List Value} (h : w.ownsRow base e 3 v n xs) (hn : 0 < n) : ∃ b c, v = .slice (some ⟨b, 0, none⟩) n c ∧ b < w.heap.size ∧ ∀ j u, xs[j]? = some u → w.cell? ⟨b, j, none⟩ = some u := by
  rcases id h.2 with ⟨_, e0⟩ | ⟨b, cap, cur, rfl, hb, hh, hnc, hcm, hcs, htk⟩
  · omega
  · refine ⟨b, cap, rfl, Blk.lt (t := e) hh, fun j u hu => ?_⟩
    have := h.cells (g := b) rfl j u hu
    have e1 : (⟨b, 0, none⟩ : Addr).add j = ⟨b, 0 + j, none⟩ := by unfold Addr.add; split <;> simp_all
    rw [e1, Nat.zero_add] at this
    exact this

set_option maxHeartbeats 6400000 in
theorem r_speaks (w : World) : Calls Try.prog 9 #[] w fun e w' => e = .returned (.bool true) ∧ Only none_ w w' := by
  obtain ⟨p1, p2, p3, p4⟩ := ab_put
  have HN := Lib.hid (rc_new w)
  have HP1 : Hid (∀ g mb v w', Rc w.heap.size g mb [] [] v w' → Calls Try.prog 14 #[.pointer (some ⟨g, 0, none⟩), .agg #[.int .i64 1, .int .i64 0, .string ⟨#[98]⟩]] w' fun e w'' => (∃ b, e = .returned (.bool b)) ∧ LeftR w.heap.size g mb v w' [mB] w'') := fun g mb v w' h => (rc_put w.heap.size g mb [] v mB w' h (by decide) (by decide)).mono fun e w'' h => ⟨⟨_, h.1⟩, by rw [← p1]; exact h.2⟩
  have HP2 : Hid (∀ g mb v w', Rc w.heap.size g mb [mB] [mB] v w' → Calls Try.prog 14 #[.pointer (some ⟨g, 0, none⟩), .agg #[.int .i64 2, .int .i64 0, .string ⟨#[97]⟩]] w' fun e w'' => (∃ b, e = .returned (.bool b)) ∧ LeftR w.heap.size g mb v w' [mA, mB] w'') := fun g mb v w' h => (rc_put w.heap.size g mb [mB] v mA w' h (by decide) (by decide)).mono fun e w'' h => ⟨⟨_, h.1⟩, by rw [← p2]; exact h.2⟩
  have HNW : Hid (∀ g mb v w', Rc w.heap.size g mb [mA, mB] [mA, mB] v w' → Calls Try.prog 23 #[.pointer (some ⟨g, 0, none⟩), .int .i64 9] w' fun e w'' => ∃ b c, e = .returned (.slice (some ⟨b, 0, none⟩) 2 c) ∧ b < w''.heap.size ∧ (∀ j u, ([.int .i64 2, .int .i64 0, .string ⟨#[97]⟩, .int .i64 1, .int .i64 0, .string ⟨#[98]⟩] : List Value)[j]? = some u → w''.cell? ⟨b, j, none⟩ = some u) ∧ Only none_ w' w'') := fun g mb v w' h => (rc_newest w.heap.size g mb _ _ v 9 w' h).mono fun e w'' h => by
    obtain ⟨v', rfl, own, o⟩ := h
    rw [p3] at own
    obtain ⟨b, c, rfl, hb, hc⟩ := own_told own (by decide)
    exact ⟨b, c, rfl, hb, hc, o⟩
  have HBL : Hid (∀ g mb v w', Rc w.heap.size g mb [mA, mB] [mA, mB] v w' → Calls Try.prog 25 #[.pointer (some ⟨g, 0, none⟩), .agg #[.int .i64 2, .int .i64 0, .string ⟨#[97]⟩], .int .i64 9] w' fun e w'' => ∃ b c, e = .returned (.slice (some ⟨b, 0, none⟩) 1 c) ∧ b < w''.heap.size ∧ (∀ j u, ([.int .i64 1, .int .i64 0, .string ⟨#[98]⟩] : List Value)[j]? = some u → w''.cell? ⟨b, j, none⟩ = some u) ∧ Only none_ w' w'') := fun g mb v w' h => (rc_below w.heap.size g mb _ _ v mA 9 w' h).mono fun e w'' h => by
    obtain ⟨v', rfl, own, o⟩ := h
    rw [p4] at own
    obtain ⟨b, c, rfl, hb, hc⟩ := own_told own (by decide)
    exact ⟨b, c, rfl, hb, hc, o⟩
  have heA := fun w => eqlA w mA mA
  have heB := fun w => eqlA w mB mB
  rw [(mkSame_iff _ _).2 rfl] at heA heB
  simp only [mA, mB] at heA heB
  have tokA : True := trivial
  obtain ⟨b0, hb0⟩ : ∃ b0, w.heap.size = b0 := ⟨_, rfl⟩
  have HB0 := Lib.hid hb0
  rw [hb0] at HN HP1 HP2 HNW HBL
  clear p1 p2 p3 p4 hb0
  go_enter Try.func9, Try.ntmps9
  go_wp2_with (first
    | (go_at_call 11; refine HN.out.mono ?_; rintro e w1 ⟨g, mb, rfl, h1, o1⟩
       obtain ⟨h2, hh2⟩ : ∃ h2, w1.heap.size = h2 := ⟨_, rfl⟩
       have HH2 := Lib.hid hh2
       have BA := Blk.new w1 39 #[.int .i64 2, .int .i64 0, .string ⟨#[97]⟩]
       have BB := Blk.new (w1.alloc (.cells #[.int .i64 2, .int .i64 0, .string ⟨#[97]⟩] 39)) 39 #[.int .i64 1, .int .i64 0, .string ⟨#[98]⟩]
       rw [World.size_alloc, hh2] at BB
       rw [hh2] at BA
       have BA2 := Lib.hid (BA.alloc (.cells #[.int .i64 1, .int .i64 0, .string ⟨#[98]⟩] 39))
       have BB2 := Lib.hid BB
       have bb0 : ((w1.alloc (.cells #[.int .i64 2, .int .i64 0, .string ⟨#[97]⟩] 39)).alloc (.cells #[.int .i64 1, .int .i64 0, .string ⟨#[98]⟩] 39)).cell? ⟨w1.heap.size + 1, 0, none⟩ = some (.int .i64 1) := by rw [hh2]; exact BB.cell_ (i := 0) rfl
       have bb1 : ((w1.alloc (.cells #[.int .i64 2, .int .i64 0, .string ⟨#[97]⟩] 39)).alloc (.cells #[.int .i64 1, .int .i64 0, .string ⟨#[98]⟩] 39)).cell? ⟨w1.heap.size + 1, 1, none⟩ = some (.int .i64 0) := by rw [hh2]; exact BB.cell_ (i := 1) rfl
       have bb2 : ((w1.alloc (.cells #[.int .i64 2, .int .i64 0, .string ⟨#[97]⟩] 39)).alloc (.cells #[.int .i64 1, .int .i64 0, .string ⟨#[98]⟩] 39)).cell? ⟨w1.heap.size + 1, 2, none⟩ = some (.string ⟨#[98]⟩) := by rw [hh2]; exact BB.cell_ (i := 2) rfl
       have R2 := Lib.hid (h1.keep (((Only.refl none_ w1).alloc (.cells #[.int .i64 2, .int .i64 0, .string ⟨#[97]⟩] 39)).alloc (.cells #[.int .i64 1, .int .i64 0, .string ⟨#[98]⟩] 39)))
       have O2 : Hid (Only none_ w ((w1.alloc (.cells #[.int .i64 2, .int .i64 0, .string ⟨#[97]⟩] 39)).alloc (.cells #[.int .i64 1, .int .i64 0, .string ⟨#[98]⟩] 39))) := o1.trans (((Only.refl none_ w1).alloc _).alloc _)
       have FT : Hid (∀ k, Ft g mb (.slice none 0 0) k → b0 ≤ k ∧ k < h2) := fun k hk => by have := h1.foot hk; omega
       clear h1 o1 hh2 BA BB)
    | (go_at_call 14; have _t := tokA; clear tokA; refine (HP1.out _ _ _ _ R2.out).mono ?_; rintro e w3 ⟨⟨bo, rfl⟩, v3, r3, o3, m3⟩
       have R3 := Lib.hid r3
       have BA3 := Lib.hid (BA2.out.only o3 (fun e => by have := (FT.out _ e).2; omega))
       have BB3 := Lib.hid (BB2.out.only o3 (fun e => by have := (FT.out _ e).2; omega))
       have O3 : Hid (Only none_ w w3) := O2.out.trans' o3 (fun k hk e => by have := (FT.out _ e).1; have := HB0.out; omega)
       have FT3 : Hid (∀ k, Ft g mb v3 k → b0 ≤ k ∧ (k < h2 ∨ h2 + 2 ≤ k)) := fun k hk => by
         refine ⟨(r3.foot hk).1, ?_⟩
         by_cases hks : k < h2 + 2
         · have := mv_foot m3 k (by rw [World.size_alloc, World.size_alloc, HH2.out]; omega) hk
           exact .inl (FT.out k this).2
         · exact .inr (by omega)
       have ba0 : w3.cell? ⟨w1.heap.size, 0, none⟩ = some (.int .i64 2) := by rw [HH2.out]; exact BA3.out.cell_ (i := 0) rfl
       have ba1 : w3.cell? ⟨w1.heap.size, 1, none⟩ = some (.int .i64 0) := by rw [HH2.out]; exact BA3.out.cell_ (i := 1) rfl
       have ba2 : w3.cell? ⟨w1.heap.size, 2, none⟩ = some (.string ⟨#[97]⟩) := by rw [HH2.out]; exact BA3.out.cell_ (i := 2) rfl
       have tokB : True := trivial
       clear r3 o3 m3)
    | (go_at_call 14; have _t := tokB; clear tokB; refine (HP2.out _ _ _ _ R3.out).mono ?_; rintro e w4 ⟨⟨bo2, rfl⟩, v4, r4, o4, m4⟩
       have R4 := Lib.hid r4
       have BA4 := Lib.hid (BA3.out.only o4 (fun e => by have := (FT3.out _ e).2; omega))
       have BB4 := Lib.hid (BB3.out.only o4 (fun e => by have := (FT3.out _ e).2; omega))
       have O4 : Hid (Only none_ w w4) := O3.out.trans' o4 (fun k hk e => by have := (FT3.out _ e).1; have := HB0.out; omega)
       clear r4 o4 m4))
  rw [HH2.out]
  have wa0 : w4.drew.cell? ⟨h2, 0, none⟩ = some (.int .i64 2) := BA4.out.cell_ (i := 0) rfl
  have wa1 : w4.drew.cell? ⟨h2, 1, none⟩ = some (.int .i64 0) := BA4.out.cell_ (i := 1) rfl
  have wa2 : w4.drew.cell? ⟨h2, 2, none⟩ = some (.string ⟨#[97]⟩) := BA4.out.cell_ (i := 2) rfl
  go_region_law (first
    | (refine step_call (by simp [Region.wanted]) 23 #[.pointer (some ⟨g, 0, none⟩), .int .i64 9] (by go_simp; try (with_reducible rfl)) ?_
       refine (HNW.out g mb v4 _ (by first | exact R4.out.keep (Only.refl none_ w4).drew | exact RB.out)).mono ?_
       rintro E wN ⟨bN, cN, rfl, hbN, hcN, oN⟩
       refine ⟨_, rfl, ?_⟩
       have ON : Hid (Only none_ w4 wN) := by first | exact ((Only.refl none_ w4).drew).trans oN | exact OB.out.trans oN
       have RN := Lib.hid (R4.out.keep ON.out)
       have CN := Lib.hid (And.intro hbN hcN)
       have na0 := (BA4.out.only ON.out (fun h => h)).cell_ (i := 0) rfl
       have na1 := (BA4.out.only ON.out (fun h => h)).cell_ (i := 1) rfl
       have na2 := (BA4.out.only ON.out (fun h => h)).cell_ (i := 2) rfl
       try have FF : Hid (Sp wN h2 (h2 + 1) bN bB ∧ Only none_ w wN) := ⟨sp_mk (BA4.out.only ON.out (fun h => h)) (BB4.out.only ON.out (fun h => h)) hcN (fun j u hu => (oN.cell (p := ⟨bB, j, none⟩) CB.out.1 (fun h => h)).trans (CB.out.2 j u hu)), O4.out.trans ON.out⟩
       clear hbN hcN oN)
    | (refine step_call (by simp [Region.wanted]) 25 #[.pointer (some ⟨g, 0, none⟩), .agg #[.int .i64 2, .int .i64 0, .string ⟨#[97]⟩], .int .i64 9] (by go_simp; try (with_reducible rfl)) ?_
       refine (HBL.out g mb v4 _ (by first | exact R4.out.keep (Only.refl none_ w4).drew | exact RN.out)).mono ?_
       rintro E wB ⟨bB, cB, rfl, hbB, hcB, oB⟩
       refine ⟨_, rfl, ?_⟩
       have OB : Hid (Only none_ w4 wB) := by first | exact ((Only.refl none_ w4).drew).trans oB | exact ON.out.trans oB
       have RB := Lib.hid (R4.out.keep OB.out)
       have CB := Lib.hid (And.intro hbB hcB)
       try have FF : Hid (Sp wB h2 (h2 + 1) bN bB ∧ Only none_ w wB) := ⟨sp_mk (BA4.out.only OB.out (fun h => h)) (BB4.out.only OB.out (fun h => h)) (fun j u hu => (oB.cell (p := ⟨bN, j, none⟩) CN.out.1 (fun h => h)).trans (CN.out.2 j u hu)) hcB, O4.out.trans OB.out⟩
       clear hbB hcB oB))
  · go_wp2_with fail
    have a0 := FF.out.1.a0; have a1 := FF.out.1.a1; have a2 := FF.out.1.a2; have b0_ := FF.out.1.b0; have b1 := FF.out.1.b1; have b2 := FF.out.1.b2
    have n0 := FF.out.1.n0; have n1 := FF.out.1.n1; have n2 := FF.out.1.n2; have n3 := FF.out.1.n3; have n4 := FF.out.1.n4; have n5 := FF.out.1.n5; have m0 := FF.out.1.m0; have m1 := FF.out.1.m1; have m2 := FF.out.1.m2
    have T9 := Lib.hid FF.out.2
    clear HN HP1 HP2 HNW HBL HB0 HH2 R2 O2 FT R3 BA2 BB2 BA3 BB3 O3 FT3 R4 BA4 BB4 O4 wa0 wa1 wa2
    go_quiet (fail)
    go_wp2_with fail
    go_ret
    exact ⟨rfl, T9.out.drewN _⟩
  · go_wp2_with fail
    have a0 := FF.out.1.a0; have a1 := FF.out.1.a1; have a2 := FF.out.1.a2; have b0_ := FF.out.1.b0; have b1 := FF.out.1.b1; have b2 := FF.out.1.b2
    have n0 := FF.out.1.n0; have n1 := FF.out.1.n1; have n2 := FF.out.1.n2; have n3 := FF.out.1.n3; have n4 := FF.out.1.n4; have n5 := FF.out.1.n5; have m0 := FF.out.1.m0; have m1 := FF.out.1.m1; have m2 := FF.out.1.m2
    have T9 := Lib.hid FF.out.2
    clear HN HP1 HP2 HNW HBL HB0 HH2 R2 O2 FT R3 BA2 BB2 BA3 BB3 O3 FT3 R4 BA4 BB4 O4 wa0 wa1 wa2
    go_quiet (fail)
    go_wp2_with fail
    go_ret
    exact ⟨rfl, T9.out.drewN _⟩
end Go.Proofs.Ytclngnoapfjghaa
