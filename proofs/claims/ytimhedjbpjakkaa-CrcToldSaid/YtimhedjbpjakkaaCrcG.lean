/- The call of CrcParts answers yes, and changes nothing that was there, if the calls of a table do what is asked of them. The statement itself is proved in another text. -/
import Derived.Test.YtimhedjbpjakkaaCrcP
namespace Go.Proofs.Ytimhedjbpjakkaa
open Go.RowKit
attribute [local go_sem ↓] Go.wp_at_zero Go.wp_at_succ

theorem Rows_.mono {w : World} {S T : Nat → Prop} {pv : Value} {pss : List (List UInt8)} (h : Rows_ w S pv pss) (hk : ∀ b, S b → b < w.heap.size → T b) : Rows_ w T pv pss := by
  obtain ⟨A, c, rfl, h1, h2⟩ := h
  refine ⟨A, c, rfl, h1, fun hp => ?_⟩
  obtain ⟨b, off, rfl, hS, hb, hc⟩ := h2 hp
  refine ⟨b, off, rfl, hk _ hS hb, hb, fun j hj => ?_⟩
  obtain ⟨x, hx, hy⟩ := hc j hj
  exact ⟨x, hx, hy.mono (fun b hb hS => hk b hS hb)⟩
/-- Ahead of the table's block. -/
def low (g : Nat) : Nat → Prop := fun b => b < g
theorem low_far {g b : Nat} (h : low g b) : far g b := by simp only [low, far] at *; omega
theorem rows_low {W w : World} {S : Nat → Prop} {x : Value} {pss : List (List UInt8)} {g : Nat} (h : Rows_ W S x pss) (hS : ∀ b, S b → b < W.heap.size) (ho : Only none_ W w) (hg : W.heap.size ≤ g) : Rows_ w (low g) x pss :=
  (h.only ho (fun _ _ h => h)).mono (fun b hb _ => by have := hS b hb; simp only [low]; omega)
theorem byt_low {W w : World} {S : Nat → Prop} {x : Value} {bs : List UInt8} {g : Nat} (h : Byt W S x bs) (hS : ∀ b, S b → b < W.heap.size) (ho : Only none_ W w) (hg : W.heap.size ≤ g) : Byt w (low g) x bs :=
  (h.only ho (fun _ _ h => h)).mono (fun b _ hb => by have := hS b hb; simp only [low]; omega)
theorem byt_step {w w2 : World} {g n base : Nat} {v x : Value} {xs : List Value} {bs : List UInt8} (hg : g < base) (hown : w.ownsRow base 5 1 v n xs) (hgrow : w.grownBy w2 v.ownBlock) (h : Byt w (low g) x bs) : Byt w2 (low g) x bs :=
  h.only ((Only.refl (fun k => v.ownBlock = some k) w).grown hgrow (fun k hk => .inl hk)) (fun b hb hv => by have := (hown.lt b hv).1; simp only [low] at hb; omega)
theorem rows_far {W w : World} {S : Nat → Prop} {x : Value} {pss : List (List UInt8)} {g : Nat} (h : Rows_ W S x pss) (hS : ∀ b, S b → b < W.heap.size) (ho : Only none_ W w) (hg : W.heap.size ≤ g) : Rows_ w (far g) x pss :=
  (h.only ho (fun _ _ h => h)).mono (fun b hb _ e => by have := hS b hb; omega)
theorem rows_at {w : World} {S : Nat → Prop} {A : Option Addr} {L c j : Nat} {pss : List (List UInt8)} (h : Rows_ w S (.slice A L c) pss) (hj : j < L) :
    ∃ (b off : Nat) (A1 : Option Addr) (L1 c1 : Nat) (hp : j < pss.length), A = some ⟨b, off, none⟩ ∧ w.cell? ⟨b, off + j, none⟩ = some (.slice A1 L1 c1) ∧ L1 = pss[j].length ∧ Byt w S (.slice A1 L1 c1) pss[j] := by
  obtain ⟨A0, c0, e0, _, h4⟩ := h
  injection e0 with e1 e2 e3
  have hp : j < pss.length := by omega
  obtain ⟨b, off, rfl, _, _, hc⟩ := h4 (by omega)
  obtain ⟨x, hcx, hbx⟩ := hc j hp
  obtain ⟨A1, c1, hx1, _⟩ := id hbx
  subst hx1
  exact ⟨b, off, A1, _, c1, hp, e1, hcx, rfl, hbx⟩
theorem own_shape {w : World} {base size n : Nat} {e : TypeId} {v : Value} {xs : List Value} (h : w.ownsRow base e size v n xs) : ∃ A n c, v = .slice A n c := by
  rcases h.2 with ⟨rfl, _⟩ | ⟨g, cap, cur, rfl, _⟩
  · exact ⟨_, _, _, rfl⟩
  · exact ⟨_, _, _, rfl⟩
theorem owns_nil (w : World) (base : Nat) : w.ownsRow base 5 1 (.slice none 0 0) ([] : List UInt8).length (byts []) := ⟨by simp, .inl ⟨rfl, rfl⟩⟩
theorem flatten_short (pss : List (List UInt8)) (h : ∀ bs ∈ pss, bs.length ≤ 30) : pss.flatten.length ≤ 30 * pss.length := by
  induction pss with
  | nil => simp
  | cons a l ih =>
    have h1 := h a (by simp)
    have h2 := ih (fun b hb => h b (by simp [hb]))
    simp only [List.flatten_cons, List.length_append, List.length_cons]
    omega

section
variable {Tb : World → Nat → Prop} (C : TabC Tb) {B w : World} {g : Nat}
include C
theorem pk_step (p : Pk Tb B g w) {w2 : World} {v : Value} {n : Nat} {xs : List Value} (hg : g < B.heap.size) (hown : w.ownsRow B.heap.size 5 1 v n xs) (hgrow : w.grownBy w2 v.ownBlock) : Pk Tb B g w2 :=
  ⟨C.only p.tb ((Only.refl (fun k => v.ownBlock = some k) w).grown hgrow (fun k hk => .inl hk)) (fun hv => by have := (hown.lt g hv).1; omega), p.ho.grown hgrow (fun k hk => .inr (hown.lt k hk).1)⟩
theorem pkO_more (p : Pk Tb B g w) {x : Value} {bs : List UInt8} (h : Byt w (far g) x bs) (s : Nat) (hs : s < 4294967296) :
    Calls Try.prog 14 #[.pointer (some ⟨g, 0, none⟩), .int .u32 (s : Int), x] w fun e w' => e = .returned (.int .u32 (crcMore s bs : Nat)) ∧ Pk Tb B g w' ∧ Only (one g) w w' :=
  (C.more g (far g) s x bs w p.tb hs h (fun _ h => h)).mono fun _ _ ⟨h1, h2, h3⟩ => ⟨h1, p.step h2 h3, h3⟩
theorem pkO_of (p : Pk Tb B g w) {x : Value} {pss : List (List UInt8)} (h : Rows_ w (far g) x pss) :
    Calls Try.prog 12 #[.pointer (some ⟨g, 0, none⟩), x] w fun e w' => e = .returned (.int .u32 (crcSum pss.flatten : Nat)) ∧ Pk Tb B g w' ∧ Only (one g) w w' :=
  (C.sum g (far g) x pss w p.tb h (fun _ h => h)).mono fun _ _ ⟨h1, h2, h3⟩ => ⟨h1, p.step h2 h3, h3⟩
/-- Of one slice, boxed just now. -/
theorem pkO_box (p : Pk Tb B g w) {x : Value} {bs : List UInt8} (h : Byt w (far g) x bs) (t : TypeId) (k : Nat) (hk : k = w.heap.size) :
    Calls Try.prog 12 #[.pointer (some ⟨g, 0, none⟩), .slice (some ⟨k, 0, none⟩) 1 1] (w.alloc (.cells #[x] t)) fun e w' => e = .returned (.int .u32 (crcSum bs : Nat)) ∧ Pk Tb B g w' ∧ Only (one g) w w' := by
  have hg : w.heap.size ≠ g := by have := C.lt p.tb; omega
  have := pkO_of C (Pk.alloc C p (.cells #[x] t)) (rows_one h hg k hk)
  rw [List.flatten_cons, List.flatten_nil, List.append_nil] at this
  exact this.mono fun _ _ ⟨h1, h2, h3⟩ => ⟨h1, h2, ((Only.refl (one g) w).alloc _).trans h3⟩

set_option maxRecDepth 100000 in
set_option maxHeartbeats 1600000 in
theorem parts_short (x : Value) (pss : List (List UInt8)) (S : Nat → Prop) (W : World) (hx : Rows_ W S x pss) (hS : ∀ b, S b → b < W.heap.size) (hl : pss.length ≤ 30) :
    Calls Try.prog 7 #[x] W fun e w' => e = .returned (.bool true) ∧ Below W.heap.size W w' := by
  have hv : ∃ A L c, L = pss.length ∧ x = .slice A L c := by obtain ⟨A, c, h, _⟩ := hx; exact ⟨A, _, c, rfl, h⟩
  obtain ⟨A, L, c, hL, rfl⟩ := hv
  have HB := Lib.hid hx
  have hL3 : L ≤ 30 := by omega
  have HL := Lib.hid hL
  have hz := run_zero_tab
  clear hx hl hL
  go_enter Try.func7, Try.ntmps7
  go_wp2_with (first
    | (go_at_call 9; refine (speaks_any C _).mono ?_; rintro e W1 ⟨rfl, o1⟩))
  have P0 := Lib.hid (Pk.start C W1)
  have hgW : Hid (W1.heap.size < (W1.alloc (.cells tabZero 38)).heap.size) := by simp [Hid]
  have OB : Hid (Only none_ W (W1.alloc (.cells tabZero 38))) := o1.alloc _
  have hWg : Hid (W.heap.size ≤ W1.heap.size) := o1.size
  have FB := Lib.hid (rows_low HB.out hS OB.out hWg.out)
  clear HB
  generalize W1.alloc (.cells tabZero 38) = W2 at *
  generalize W1.heap.size = g at *
  clear o1
  obtain ⟨i0, hi0, hz0, hz1, hz2⟩ := info_parts u8_info
  go_loopw [4, 5, 18] (fun v s k wr => ∃ j : Nat, j ≤ L ∧ k = .int .i64 j ∧ s = .int .u32 (crcSum (pss.take j).flatten : Nat) ∧ wr.ownsRow W2.heap.size 5 1 v (pss.take j).flatten.length (byts (pss.take j).flatten) ∧
    (∀ bs ∈ pss.take j, bs.length ≤ 30) ∧ Pk Tb W2 g wr) (fun _ _ k _ => L - (intOf k).toNat)
  case atStart => exact ⟨0, by omega, rfl, by rw [List.take_zero, List.flatten_nil, sum_nil]; rfl, by rw [List.take_zero, List.flatten_nil]; exact owns_nil _ _, by simp, P0.out⟩
  case round =>
    obtain ⟨j, hj, rfl, rfl, hown, hall, hp⟩ := hrel
    have hu := sum_lt (pss.take j).flatten
    by_cases hlb : j < L
    · obtain ⟨b, off, A1, L1, c1, hlB, eA, hcj, hL1, hbx⟩ := rows_at (FB.out.only hp.ho (fun _ h e => by have := low_far h; exact this e)) hlb
      subst eA
      have hs : Hid (crcSum (pss.take (j + 1)).flatten = crcMore (crcSum (pss.take j).flatten) pss[j]) := by
        rw [Hid, ← sum_append, ← List.take_append_getElem hlB, List.flatten_append, List.flatten_cons, List.flatten_nil, List.append_nil]
      have hf : Hid ((pss.take (j + 1)).flatten = (pss.take j).flatten ++ pss[j]) := by
        rw [Hid, ← List.take_append_getElem hlB, List.flatten_append, List.flatten_cons, List.flatten_nil, List.append_nil]
      have HX := Lib.hid hbx
      have HP := Lib.hid hp
      have HO := Lib.hid hown
      have HLl := Lib.hid hL1
      have HA := Lib.hid hall
      by_cases h30 : L1 ≤ 30
      · have hle : (pss.take j).flatten.length + pss[j].length ≤ 140737488355328 := by
          have := flatten_short _ hall
          have : (pss.take j).length ≤ 30 := by simp; omega
          omega
        have hsz := HP.out.ho.size
        clear hbx hp hown hL1 hall
        go_wp2_with (first
          | (at_builtin; refine wpList_append_byt _ rfl (.tmp 25) (.tmp 26) _ rfl W2.heap.size 5 i0 (.int .u8 0) Try.underlying22 hi0 hz0 hz1 hz2 rfl _ _ rfl HO.out _ _ _ rfl HX.out hle hsz ?_; intro A2 n2 c2 w2 hown2 hgrow2 hmv2
             have P2 := Lib.hid (pk_step C HP.out hgW.out HO.out hgrow2)
             have X2 := Lib.hid ((byt_step hgW.out HO.out hgrow2 HX.out).mono (fun _ _ h => low_far h))
             have H2 := Lib.hid hown2
             clear hgrow2 hmv2 hown2)
          | (go_at_call 14; refine (pkO_more C P2.out X2.out _ hu).mono ?_; rintro e w3 ⟨rfl, p3, o3⟩))
        refine ⟨⟨j + 1, by omega, by go_num, by rw [hs.out], ?_, fun bs hb => ?_, p3⟩, by simp [intOf]; omega⟩
        · rw [hf.out]
          exact owns_only H2.out o3 (fun k hk e => by have := (H2.out.lt k hk).1; have := hgW.out; simp only [one] at e; omega)
        · rw [← List.take_append_getElem hlB] at hb
          rcases List.mem_append.1 hb with h | h
          · exact HA.out bs h
          · have e : bs = pss[j] := by simpa using h
            rw [e, ← HLl.out]
            exact h30
      · have h30' : (30 : Int) < (L1 : Int) := by omega
        clear hbx hp hown hL1 hall h30
        go_wp2
        go_ret
        exact ⟨rfl, Pk.below HP.out OB.out hWg.out⟩
    · have hjL : pss.take j = pss := List.take_of_length_le (by have := HL.out; omega)
      rw [hjL] at hown hu ⊢
      have HR := Lib.hid ((FB.out.only hp.ho (fun _ h e => by have := low_far h; exact this e)).mono (fun _ h _ => low_far h))
      have HP := Lib.hid hp
      have HO := Lib.hid hown
      have tok1 : True := trivial
      obtain ⟨Av, nv, cv, rfl⟩ := own_shape hown
      clear hp hown hjL hall
      go_wp2_with (first
        | (go_at_call 12; have _t := tok1; refine (pkO_of C HP.out HR.out).mono ?_; rintro e w3 ⟨rfl, p3, o3⟩; clear tok1; have tok2 : True := trivial
           have P3 := Lib.hid p3
           have H3 := Lib.hid (owns_only HO.out o3 (fun k hk e => by have := (HO.out.lt k hk).1; have := hgW.out; simp only [one] at e; omega))
           have B3 := Lib.hid ((Byt.of_own H3.out).mono (T := far g) (fun k _ hk => by have := (H3.out.lt k hk).1; have := hgW.out; simp only [far]; omega)))
        | (go_at_call 12; have _t := tok2; refine (pkO_box C P3.out B3.out _ _ rfl).mono ?_; rintro e w4 ⟨rfl, p4, o4⟩; clear tok2
           have P4 := Lib.hid p4
           have H4 := Lib.hid (owns_only H3.out o4 (fun k hk e => by have := (H3.out.lt k hk).1; have := hgW.out; simp only [one] at e; omega))
           have B4 := Lib.hid ((Byt.of_own H4.out).mono (T := far g) (fun k _ hk => by have := (H4.out.lt k hk).1; have := hgW.out; simp only [far]; omega)))
        | (go_at_call 12; refine (pkO_box C P4.out B4.out _ _ rfl).mono ?_; rintro e w5 ⟨rfl, p5, o5⟩))
      go_ret
      exact ⟨rfl, Pk.below p5 OB.out hWg.out⟩
theorem parts_long (x : Value) (A : Option Addr) (n c : Nat) (W : World) (hx : x = .slice A n c) (hn : 30 < n) :
    Calls Try.prog 7 #[x] W fun e w' => e = .returned (.bool true) ∧ Below W.heap.size W w' := by
  subst hx
  go_enter Try.func7, Try.ntmps7
  go_wp2_with fail
  refine (speaks_any C _).mono ?_
  rintro e W1 ⟨rfl, o1⟩
  go_wp2_with fail
  refine (speaks_any C _).mono ?_
  rintro e W3 ⟨rfl, o3⟩
  go_wp2
  go_ret
  exact ⟨rfl, (o1.trans o3).below (Nat.le_refl _) (fun k hk => hk.elim)⟩
end
end Go.Proofs.Ytimhedjbpjakkaa
