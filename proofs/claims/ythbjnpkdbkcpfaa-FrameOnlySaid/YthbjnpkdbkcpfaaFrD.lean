/- Whether a frame of the program's is the document's; the document's bytes of a frame. No statement of the seat is proved here. -/
import Derived.Test.YthbjnpkdbkcpfaaFrC
namespace Go.Proofs.Ythbjnpkdbkcpfaa
open Go.RowKit

theorem FrV.alloc {w : World} {S : Nat → Prop} {v : Value} {x : Fr} (h : FrV w S v x) (o : Obj) : FrV (w.alloc o) S v x := by
  obtain ⟨A, c, e, hb⟩ := h
  exact ⟨A, c, e, hb.alloc o⟩
theorem FrV.drew {w : World} {S : Nat → Prop} {v : Value} {x : Fr} (h : FrV w S v x) : FrV w.drew S v x := h
theorem FrV.drewN {w : World} {S : Nat → Prop} {v : Value} {x : Fr} (h : FrV w S v x) (n : Nat) : FrV (w.drewN n) S v x := h
theorem FrV.only {w w' : World} {S T : Nat → Prop} {v : Value} {x : Fr} (h : FrV w S v x) (ho : Only T w w') (hn : ∀ b, S b → ¬ T b) : FrV w' S v x := by
  obtain ⟨A, c, e, hb⟩ := h
  exact ⟨A, c, e, hb.only ho hn⟩
theorem FrV.mono {w : World} {S T : Nat → Prop} {v : Value} {x : Fr} (h : FrV w S v x) (hk : ∀ b, b < w.heap.size → S b → T b) : FrV w T v x := by
  obtain ⟨A, c, e, hb⟩ := h
  exact ⟨A, c, e, hb.mono hk⟩

set_option maxHeartbeats 800000 in
theorem is_any (x y : Fr) (vx vy : Value) (S T : Nat → Prop) (w : World) (hx : FrV w S vx x) (hy : FrV w T vy y) :
    Calls Try.prog 16 #[vx, vy] w fun e w' => e = .returned (.bool (frSame x y)) ∧ Only none_ w w' := by
  have HX := Lib.hid hx
  have HY := Lib.hid hy
  obtain ⟨A, c, rfl, _⟩ := hx
  obtain ⟨A', c', rfl, _⟩ := hy
  obtain ⟨L, hL⟩ : ∃ L, L = x.b.length := ⟨_, rfl⟩
  obtain ⟨L', hL'⟩ : ∃ L, L = y.b.length := ⟨_, rfl⟩
  rw [← hL] at HX ⊢
  rw [← hL'] at HY ⊢
  clear hL hL'
  have O := Lib.hid (((Only.refl none_ w).alloc (.cells #[.int .i64 x.f, .int .i64 x.t, .int .i64 x.k, .slice A L c] 47)).alloc (.cells #[.int .i64 y.f, .int .i64 y.t, .int .i64 y.k, .slice A' L' c'] 24))
  go_enter Try.func16, Try.ntmps16
  go_wp2_with (first
    | (go_at_call 13; refine (refSame_any x y _ _ _ _ _ ((HX.out.alloc _).alloc _) ((HY.out.alloc _).alloc _)).mono ?_; rintro e w1 ⟨rfl, o1⟩))
  go_ret
  exact ⟨rfl, O.out.trans o1⟩

/-- A byte of a number. -/
theorem low_byte (z : Int) (h0 : 0 ≤ z) (h1 : z < 256) : Value.int .u8 z = byt (UInt8.ofNat z.toNat) := by
  unfold byt
  rw [UInt8.toNat_ofNat']
  congr 1
  omega
set_option maxRecDepth 100000 in
set_option maxHeartbeats 800000 in
theorem refEncode_any (x : Fr) (v : Value) (S : Nat → Prop) (w : World) (hx : FrV w S v x) (hc : frCode x = 0) (hS : ∀ b, S b → b < w.heap.size) :
    Calls Try.prog 15 #[v] w fun e w' => ∃ A n c, e = .returned (.slice A n c) ∧ w'.ownsRow w.heap.size 5 1 (.slice A n c) (frEnc x).length (byts (frEnc x)) ∧ Only none_ w w' := by
  obtain ⟨A, c, rfl, hb⟩ := hx
  obtain ⟨⟨a1, a2⟩, ⟨b1, b2⟩, ⟨c1, c2⟩, hl⟩ := code_ok hc
  have HF : Hid (frEnc x = crcMark (frHead x ++ x.b)) := rfl
  rcases x with ⟨f, t, k, bs⟩
  simp only at a1 a2 b1 b2 c1 c2 hl hb
  obtain ⟨L, hL⟩ : ∃ L, L = bs.length := ⟨_, rfl⟩
  rw [← hL] at hl hb ⊢
  have HH : Hid (byts (frHead ⟨f, t, k, bs⟩) = [.int .u8 f, .int .u8 t, .int .u8 k, .int .u8 ((L : Int) % 256), .int .u8 ((L : Int) / 256)]) := by
    have e3 := low_byte ((L : Int) % 256) (by omega) (by omega)
    have e4 := low_byte ((L : Int) / 256) (by omega) (by omega)
    rw [Hid, low_byte f a1 (by omega), low_byte t b1 (by omega), low_byte k (by omega) (by omega), e3, e4]
    simp only [byts, frHead, List.map_cons, List.map_nil, ← hL]
    rfl
  have HL := Lib.hid hL
  clear hc hL
  have HB := Lib.hid hb
  clear hb
  obtain ⟨i0, hi0, hz0, hz1, hz2⟩ := info_parts u8_info
  have hc1 : (frHead ⟨f, t, k, bs⟩).length + bs.length ≤ 140737488355328 := by have := HL.out; simp [frHead]; omega
  have hc2 : (frHead ⟨f, t, k, bs⟩ ++ bs).length ≤ 1000000 := by have := HL.out; simp [frHead]; omega
  have O1 := Lib.hid (((Only.refl none_ w).alloc (.cells #[.int .i64 f, .int .i64 t, .int .i64 k, .slice A L c] 24)).alloc (.cells #[.int .u8 f, .int .u8 t, .int .u8 k, .int .u8 ((L : Int) % 256), .int .u8 ((L : Int) / 256)] 5))
  have H1 := Lib.hid ((HB.out.alloc (.cells #[.int .i64 f, .int .i64 t, .int .i64 k, .slice A L c] 24)).alloc (.cells #[.int .u8 f, .int .u8 t, .int .u8 k, .int .u8 ((L : Int) % 256), .int .u8 ((L : Int) / 256)] 5))
  have X1 : Hid (((w.alloc (.cells #[.int .i64 f, .int .i64 t, .int .i64 k, .slice A L c] 24)).alloc (.cells #[.int .u8 f, .int .u8 t, .int .u8 k, .int .u8 ((L : Int) % 256), .int .u8 ((L : Int) / 256)] 5)).ownsRow w.heap.size 5 1 (.slice (some ⟨w.heap.size + 1, 0, none⟩) 5 5) (frHead ⟨f, t, k, bs⟩).length (byts (frHead ⟨f, t, k, bs⟩))) := by
    have := World.ownsRow_lit (e := 5) (size := 1) (w.alloc (.cells #[.int .i64 f, .int .i64 t, .int .i64 k, .slice A L c] 24)) #[.int .u8 f, .int .u8 t, .int .u8 k, .int .u8 ((L : Int) % 256), .int .u8 ((L : Int) / 256)] 5 (Nat.le_refl _) (by simp [maxLen]) rfl
    rw [World.size_alloc] at this
    rw [Hid, HH.out]
    exact owns_base this (by omega)
  have hsz : w.heap.size ≤ ((w.alloc (.cells #[.int .i64 f, .int .i64 t, .int .i64 k, .slice A L c] 24)).alloc (.cells #[.int .u8 f, .int .u8 t, .int .u8 k, .int .u8 ((L : Int) % 256), .int .u8 ((L : Int) / 256)] 5)).heap.size := O1.out.size
  go_enter Try.func15, Try.ntmps15
  go_wp2_with (first
    | (at_builtin; refine wpList_append_byt _ rfl (.tmp 24) (.tmp 26) _ rfl w.heap.size 5 i0 (.int .u8 0) Try.underlying22 hi0 hz0 hz1 hz2 rfl (.slice (some ⟨w.heap.size + 1, 0, none⟩) 5 5) _ rfl X1.out _ _ bs rfl H1.out hc1 hsz ?_
       intro A2 n2 c2 W2 hown2 hgrow2 hmv2
       have O2 : Hid (Only none_ w W2) := O1.out.grown hgrow2 (fun k hk => .inr (by simp [Value.ownBlock] at hk; omega))
       have H2 := Lib.hid (Byt.of_own hown2)
       clear hown2 hgrow2 hmv2)
    | (go_at_call 18; refine (refMark_any _ _ _ _ H2.out hc2).mono ?_; rintro e W3 ⟨A3, n3, c3, rfl, h3, o3⟩))
  go_ret
  rw [HF.out]
  exact ⟨_, _, _, rfl, owns_base h3 O2.out.size, O2.out.trans o3⟩
end Go.Proofs.Ythbjnpkdbkcpfaa
