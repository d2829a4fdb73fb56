/- The call of JournalRots answers yes, and changes nothing that was there. The statement itself is proved in another text. -/
import Derived.Test.YtdjondjlengapaaJnX
import Derived.Test.YtdjondjlengapaaJnY
namespace Go.Proofs.Ytdjondjlengapaa
open Go.RowKit
set_option maxRecDepth 100000
set_option linter.all false

set_option maxHeartbeats 800000 in
theorem jt_long (x : Value) (l : List (List UInt8)) (at_ : Int) (b : Int) (W : World) (hl : Rows_ W (fun b => b < W.heap.size) x l) (h : fewR l = false ∨ b = 0) :
    Calls Try.prog 7 #[x, .int .i64 at_, .int .u8 b] W fun e w' => e = .returned (.bool true) ∧ Below W.heap.size W w' := by
  have HL := Lib.hid (fun (w : World) (o : Only none_ W w) => rows_few x l _ w (hl.only o (fun _ _ h => h)))
  obtain ⟨A, c, rfl⟩ : ∃ A c, x = .slice A l.length c := by obtain ⟨A, c, h, _⟩ := hl; exact ⟨A, c, h⟩
  obtain ⟨L, hL⟩ : ∃ L, l.length = L := ⟨_, rfl⟩
  rw [hL] at HL ⊢
  have tokA : True := trivial
  clear hl hL
  by_cases h1 : fewR l = true
  · have h2 : b = 0 := h.resolve_left (by rw [h1]; decide)
    subst h2
    rw [h1] at HL
    clear h h1
    go_enter Try.func7, Try.ntmps7
    go_wp2_with (first
      | (go_at_call 20; have _t := tokA; clear tokA; refine (j_speaks _).mono ?_; rintro E w1 ⟨rfl, o1⟩; have O1 := Lib.hid o1; clear o1; have tokB : True := trivial)
      | (go_at_call 35; refine (HL.out _ O1.out).mono ?_; rintro E w8 ⟨rfl, rfl⟩)
      | (go_at_call 20; have _t := tokB; clear tokB; refine (j_speaks _).mono ?_; rintro E w2 ⟨rfl, o2⟩; have O2 := Lib.hid (O1.out.trans o2); clear o2))
    go_ret
    exact ⟨rfl, O2.out.below (Nat.le_refl _) (fun k hk => hk.elim)⟩
  · have h1' : fewR l = false := by simpa using h1
    rw [h1'] at HL
    clear h h1 h1'
    go_enter Try.func7, Try.ntmps7
    go_wp2_with (first
      | (go_at_call 20; have _t := tokA; clear tokA; refine (j_speaks _).mono ?_; rintro E w1 ⟨rfl, o1⟩; have O1 := Lib.hid o1; clear o1; have tokB : True := trivial)
      | (go_at_call 35; refine (HL.out _ O1.out).mono ?_; rintro E w8 ⟨rfl, rfl⟩)
      | (go_at_call 20; have _t := tokB; clear tokB; refine (j_speaks _).mono ?_; rintro E w2 ⟨rfl, o2⟩; have O2 := Lib.hid (O1.out.trans o2); clear o2))
    go_ret
    exact ⟨rfl, O2.out.below (Nat.le_refl _) (fun k hk => hk.elim)⟩

/-- A disk with just these records, and its journal. -/
structure Jr (W : World) (g j : Nat) (ok : List (List UInt8)) (v : Value) (w : World) : Prop where
  d : Dsk W g (dvOf ok) v w
  n : Jn w j g (ok.length : Int)
theorem add_jr (W : World) (g j : Nat) (ok : List (List UInt8)) (b : List UInt8) (hl : (flatB ok).length + 522 ≤ 1048576) (hc : ok.length ≤ 1000000) (v x : Value) (S : Nat → Prop) (w : World) (s : Jr W g j ok v w) (hx : Byt w S x b) (hS : ∀ b, S b → b ≠ g ∧ b ≠ j) (hB : W.heap.size ≤ j) :
    Calls Try.prog 36 #[.pointer (some ⟨j, 0, none⟩), x] w fun e w' => e = .returned (.int .i64 (recCode b.length)) ∧ ∃ v', Jr W g j (if recCode b.length = 0 then ok ++ [b] else ok) v' w' := by
  obtain ⟨e1, e2⟩ := add_all ok b hl
  refine (add_any W g j (ok.length : Int) (dvOf ok) v x b S w s.d s.n hx hS hB (Jn.foot s.d s.n) (by omega) (by omega)).mono ?_
  rintro e w' ⟨rfl, v', d', j', _⟩
  rw [e2] at d'
  rw [adN, e1] at j'
  refine ⟨by rw [e1], v', ?_⟩
  by_cases h : recCode b.length = 0
  · rw [if_pos h] at d' j' ⊢
    exact ⟨d', by rw [List.length_append, List.length_cons, List.length_nil]; push_cast; exact j'⟩
  · rw [if_neg h] at d' j' ⊢
    exact ⟨d', j'⟩

set_option maxHeartbeats 6400000 in
theorem jt_yes (x : Value) (l : List (List UInt8)) (at_ : Int) (b : UInt8) (W : World) (hl : Rows_ W (fun b => b < W.heap.size) x l) (fl : fewR l = true) (hb : b ≠ 0) :
    Calls Try.prog 7 #[x, .int .i64 at_, .int .u8 (b.toNat : Int)] W fun e w' => e = .returned (.bool true) ∧ Below W.heap.size W w' := by
  have HL := Lib.hid (fun (w : World) (o : Only none_ W w) => rows_few x l _ w (hl.only o (fun _ _ h => h)))
  rw [fl] at HL
  have hl2 := (fewR_yes fl).2
  have HRX := Lib.hid hl
  have hbz : ((b.toNat : Int) == 0) = false := by
    have : b.toNat ≠ 0 := fun e => hb (UInt8.toNat_inj.1 e)
    simp; omega
  have HBB := Lib.hid hb
  obtain ⟨A, c, rfl⟩ : ∃ A c, x = .slice A l.length c := by obtain ⟨A, c, h, _⟩ := hl; exact ⟨A, c, h⟩
  obtain ⟨L, hL⟩ : ∃ L, l.length = L := ⟨_, rfl⟩
  have HLL := Lib.hid hL
  rw [hL] at HL HRX hl2 ⊢
  have HOP := Lib.hid (fun (g : Nat) (v : Value) (w : World) (hd : Dsk W g (dvOf []) v w) => open_of W g [] (by simp) v w hd)
  clear hl hL fl hb
  go_enter Try.func7, Try.ntmps7
  go_wp2_with (first
    | (go_at_call 20; refine (j_speaks _).mono ?_; rintro E w0 ⟨rfl, o0⟩; have O0 := Lib.hid o0; clear o0)
    | (go_at_call 35; refine (HL.out _ O0.out).mono ?_; rintro E w8 ⟨rfl, rfl⟩)
    | (go_at_call 27; refine (disk_new W _ O0.out).mono ?_; rintro E w1 ⟨g, rfl, hg, d1, o1⟩
       have D1 := Lib.hid d1
       have G1 : Hid (W.heap.size ≤ g ∧ W.heap.size ≤ w1.heap.size) := ⟨Nat.le_trans O0.out.size hg, (O0.out.trans o1).size⟩
       clear hg d1 o1)
    | (go_at_call 30; refine (HOP.out _ _ _ D1.out).mono ?_; rintro E w2 ⟨jj, vg, rfl, hj1, hjn, hlg, v2, d2, o2, m2⟩
       have JB : Hid (W.heap.size ≤ jj) := by have := G1.out.2; simp only [Hid]; omega
       have J2 : Hid (Jr W g jj [] v2 w2) := ⟨d2, hjn⟩
       clear hj1 hjn hlg d2 o2 m2))
  go_loopw [11, 43] (fun n k wr => ∃ j : Nat, j ≤ L ∧ k = .int .i64 j ∧ n = .int .i64 ((okL (l.take j)).length : Int) ∧ ∃ v, Jr W g jj (okL (l.take j)) v wr) (fun _ k _ => L - (intOf k).toNat)
  case atStart => exact ⟨0, by omega, rfl, by simp [okL], v2, by simpa [okL] using J2.out⟩
  case round =>
    obtain ⟨j, hj, rfl, rfl, v, s⟩ := hrel
    obtain ⟨ok, hok⟩ : ∃ z, okL (l.take j) = z := ⟨_, rfl⟩
    have hrok : ∀ r ∈ ok, Rok r := hok ▸ okL_ok _
    have hcnt : ok.length ≤ 20 := by
      have h1 := okL_len (l.take j)
      rw [hok, List.length_take] at h1
      have := HLL.out; omega
    have hfl : (flatB ok).length ≤ 10440 := by have := flatB_le ok hrok; omega
    rw [hok] at s ⊢
    have S0 := Lib.hid s
    have HROK := Lib.hid hrok
    have HFL := Lib.hid hfl
    have HCN := Lib.hid hcnt
    by_cases hlt : j < L
    · obtain ⟨b0, off, A1, L1, c1, rfl, hSb, hb0, hc, hp, hL1, hB1⟩ := rows_cell HRX.out j hlt
      have hcell := (s.d.ho.cell (p := ⟨b0, off + j, none⟩) hb0 (fun h => h)).trans hc
      have hsn := okL_snoc l j hp
      rw [hok] at hsn
      obtain ⟨bb, hbb⟩ : ∃ z, l[j] = z := ⟨_, rfl⟩
      rw [hbb] at hsn hL1 hB1
      obtain ⟨z, hz⟩ : ∃ z, recCode bb.length = z := ⟨_, rfl⟩
      have HAD := Lib.hid (add_jr W g jj ok bb (by omega) (by omega) v (.slice A1 L1 c1) _ wr s (hB1.only s.d.ho (fun _ _ h => h)) (fun b hb => ⟨by have := G1.out.1; have hb' : b < W.heap.size := hb; omega, by have := JB.out; have hb' : b < W.heap.size := hb; omega⟩) JB.out)
      rw [hz] at hsn HAD
      have HSN := Lib.hid hsn
      clear s hrok hfl hcnt hsn hB1 hL1 hbb hp hok hc hSb hb0 hz
      have hwn : IntKind.i64.wrap ((ok.length : Int) + 1) = (ok.length : Int) + 1 := IntWalk.i64_in _ (by have := HCN.out; omega)
      by_cases hz0 : z = 0
      · have hzb : (z == 0) = true := by simpa using hz0
        have HZ0 := Lib.hid hz0
        clear hz0
        go_wp2_with (first
          | (go_at_call 36; refine HAD.out.mono ?_; rintro E w4 ⟨rfl, v4, s4⟩
             rw [if_pos HZ0.out] at s4
             have S4 := Lib.hid s4
             clear s4))
        go_roundw
        case rel =>
          have e := HSN.out
          rw [if_pos HZ0.out] at e
          refine ⟨j + 1, by omega, by go_num, ?_, v4, ?_⟩
          · rw [e, List.length_append, List.length_cons, List.length_nil]; push_cast; rfl
          · rw [e]; exact S4.out
        case measure => simp [intOf]; omega
      · have hzb : (z == 0) = false := by simpa using hz0
        have HZ0 := Lib.hid hz0
        clear hz0
        go_wp2_with (first
          | (go_at_call 36; refine HAD.out.mono ?_; rintro E w4 ⟨rfl, v4, s4⟩
             rw [if_neg HZ0.out] at s4
             have S4 := Lib.hid s4
             clear s4))
        go_roundw
        case rel =>
          have e := HSN.out
          rw [if_neg HZ0.out] at e
          refine ⟨j + 1, by omega, by go_num, by rw [e], v4, ?_⟩
          rw [e]; exact S4.out
        case measure => simp [intOf]; omega
    · obtain ⟨N, hN⟩ : ∃ N, ok.length = N := ⟨_, rfl⟩
      rw [hN]
      by_cases h0 : N = 0
      · subst h0
        clear s hrok hfl hcnt hok hN
        go_wp2_with fail
        go_ret
        exact ⟨rfl, S0.out.d.ho.below (Nat.le_refl _) (fun k hk => hk.elim)⟩
      · have hge := flatB_ge ok hrok
        obtain ⟨F, hF⟩ : ∃ F, (flatB ok).length = F := ⟨_, rfl⟩
        rw [hN, hF] at hge
        rw [hF] at hfl
        rw [hN] at hcnt
        have hn0 : ((N : Int) == 0) = false := by simp; omega
        have hw11 : IntKind.i64.wrap (11 * (N : Int)) = 11 * (N : Int) := IntWalk.i64_in _ (by omega)
        have hlt11 : ¬ (F : Int) < 11 * (N : Int) := by omega
        have hand := i64_and20 at_
        obtain ⟨q, hq⟩ : ∃ q : Nat, at_ % 1048576 = (q : Int) := ⟨(at_ % 1048576).toNat, by omega⟩
        rw [hq] at hand
        have hFp : 0 < F := by omega
        have hrem : Int.tmod (q : Int) (F : Int) = ((q % F : Nat) : Int) := by rw [Int.tmod_eq_emod_of_nonneg (by omega)]; rfl
        have hrem2 : (q : Int) % (F : Int) = ((q % F : Nat) : Int) := rfl
        have hF0 : ((F : Int) == 0) = false := by simp; omega
        obtain ⟨p, hp⟩ : ∃ p, q % F = p := ⟨_, rfl⟩
        have hpF : p < F := hp ▸ Nat.mod_lt _ hFp
        rw [hp] at hrem hrem2
        have HDL := Lib.hid (fun (v : Value) (w : World) (h : Dsk W g (dvOf ok) v w) => disk_len W g (dvOf ok) v w h)
        rw [show (dvOf ok).bs.length = F from hF] at HDL
        have hrot := rot_all ok hrok p (by omega) b HBB.out
        have HTN : Hid (∀ (v : Value) (w : World), Dsk W g (dvOf ok) v w → Calls Try.prog 38 #[.pointer (some ⟨g, 0, none⟩), .int .i64 (p : Int), .int .u8 (b.toNat : Int)] w fun e w' => e = .returned (.int .i64 0) ∧ Left_ W g v w (dTurn p b (dvOf ok)) w') := by
          intro v w h
          have := disk_turn W g (p : Int) b (dvOf ok) v w h
          have e0 : ¬ ((p : Int) < 0 ∨ ((dvOf ok).bs.length : Int) ≤ (p : Int)) := by
            rw [show (dvOf ok).bs.length = F from hF]; omega
          rw [if_neg e0, if_neg e0, Int.toNat_natCast] at this
          exact this
        have e1 : (jnRead (dTurn p b (dvOf ok)).bs).2.2 = 12 := by
          show (jnRead ((flatB ok).set p ((flatB ok).getD p 0 ^^^ b))).2.2 = 12
          rw [hrot]
        have e2 := op_rot (d := dTurn p b (dvOf ok)) rfl (by rw [e1]; decide)
        rw [e1] at e2
        have HO2 : Hid (∀ (v : Value) (w : World), Dsk W g (dTurn p b (dvOf ok)) v w → Calls Try.prog 30 #[.pointer (some ⟨g, 0, none⟩)] w fun e w' => e = .returned (.tuple #[.pointer none, .slice none 0 0, .int .i64 12]) ∧ Only none_ W w') := by
          intro v w h
          refine (open_any W g _ v w h).mono ?_
          rintro e w' ⟨vj, vl, rfl, ho, v', d', _⟩
          rcases ho with ⟨_, rfl, rfl⟩ | ⟨h0, _⟩
          · exact ⟨by rw [e2.1], d'.ho⟩
          · rw [e2.1] at h0; cases h0
        clear s hrok hfl hcnt hok hN hge hF hq hp hrot e1 e2 h0
        go_wp2_with (first
          | (go_at_call 32; refine (HDL.out _ _ S0.out.d).mono ?_; rintro E w9 ⟨rfl, rfl⟩)
          | (go_at_call 38; refine (HTN.out _ _ S0.out.d).mono ?_; rintro E w5 ⟨rfl, v5, d5, _⟩; have D5 := Lib.hid d5; clear d5)
          | (go_at_call 30; refine (HO2.out _ _ D5.out).mono ?_; rintro E w6 ⟨rfl, o6⟩))
        go_ret
        exact ⟨rfl, o6.below (Nat.le_refl _) (fun k hk => hk.elim)⟩
end Go.Proofs.Ytdjondjlengapaa
