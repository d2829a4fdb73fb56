/- The call of JournalJoins answers yes, and changes nothing that was there. The statement itself is proved in another text. -/
import Derived.Test.YtdjondjlengapaaJnW
import Derived.Test.YtdjondjlengapaaJnS
namespace Go.Proofs.Ytdjondjlengapaa
open Go.RowKit
set_option maxRecDepth 100000
set_option linter.all false

set_option maxHeartbeats 800000 in
theorem jj_long (x y : Value) (l m : List (List UInt8)) (W : World) (hl : Rows_ W (fun b => b < W.heap.size) x l) (hm : Rows_ W (fun b => b < W.heap.size) y m) (h : fewR l = false ∨ fewR m = false) :
    Calls Try.prog 9 #[x, y] W fun e w' => e = .returned (.bool true) ∧ Below W.heap.size W w' := by
  have HL := Lib.hid (fun (w : World) (o : Only none_ W w) => rows_few x l _ w (hl.only o (fun _ _ h => h)))
  have HM := Lib.hid (fun (w : World) (o : Only none_ W w) => rows_few y m _ w (hm.only o (fun _ _ h => h)))
  obtain ⟨A, c, rfl⟩ : ∃ A c, x = .slice A l.length c := by obtain ⟨A, c, h, _⟩ := hl; exact ⟨A, c, h⟩
  obtain ⟨B, d, rfl⟩ : ∃ A c, y = .slice A m.length c := by obtain ⟨A, c, h, _⟩ := hm; exact ⟨A, c, h⟩
  obtain ⟨L, hL⟩ : ∃ L, l.length = L := ⟨_, rfl⟩
  obtain ⟨M, hM⟩ : ∃ L, m.length = L := ⟨_, rfl⟩
  rw [hL] at HL ⊢
  rw [hM] at HM ⊢
  have tokA : True := trivial
  have tokC : True := trivial
  clear hl hm hL hM
  by_cases h1 : fewR l = true
  · have h2 : fewR m = false := h.resolve_left (by rw [h1]; decide)
    rw [h1] at HL
    rw [h2] at HM
    clear h h1 h2
    go_enter Try.func9, Try.ntmps9
    go_wp2_with (first
      | (go_at_call 20; have _t := tokA; clear tokA; refine (j_speaks _).mono ?_; rintro E w1 ⟨rfl, o1⟩; have O1 := Lib.hid o1; clear o1; have tokB : True := trivial)
      | (go_at_call 35; have _t := tokC; clear tokC; refine (HL.out _ O1.out).mono ?_; rintro E w8 ⟨rfl, rfl⟩; have tokD : True := trivial)
      | (go_at_call 35; have _t := tokD; clear tokD; refine (HM.out _ O1.out).mono ?_; rintro E w8 ⟨rfl, rfl⟩)
      | (go_at_call 20; have _t := tokB; clear tokB; refine (j_speaks _).mono ?_; rintro E w2 ⟨rfl, o2⟩; have O2 := Lib.hid (O1.out.trans o2); clear o2))
    go_ret
    exact ⟨rfl, O2.out.below (Nat.le_refl _) (fun k hk => hk.elim)⟩
  · have h1' : fewR l = false := by simpa using h1
    rw [h1'] at HL
    clear h h1 h1'
    go_enter Try.func9, Try.ntmps9
    go_wp2_with (first
      | (go_at_call 20; have _t := tokA; clear tokA; refine (j_speaks _).mono ?_; rintro E w1 ⟨rfl, o1⟩; have O1 := Lib.hid o1; clear o1; have tokB : True := trivial)
      | (go_at_call 35; refine (HL.out _ O1.out).mono ?_; rintro E w8 ⟨rfl, rfl⟩)
      | (go_at_call 20; have _t := tokB; clear tokB; refine (j_speaks _).mono ?_; rintro E w2 ⟨rfl, o2⟩; have O2 := Lib.hid (O1.out.trans o2); clear o2))
    go_ret
    exact ⟨rfl, O2.out.below (Nat.le_refl _) (fun k hk => hk.elim)⟩

theorem Jn.foot {W w : World} {g j : Nat} {n : Int} {D : Dv} {v : Value} (d : Dsk W g D v w) (h : Jn w j g n) : ¬ foot g v j := by
  rintro (e | e)
  · rcases h with h | h
    · exact Blk.ne_ h d.bk (by decide) e
    · exact Blk.ne_ h d.bk (by decide) e
  · rcases h with h | h
    · exact own_blk_ne d.ow h (by decide) e
    · exact own_blk_ne d.ow h (by decide) e
theorem byt_across {W w w' : World} {x : Value} {bs : List UInt8} (h : Byt w (fun b => b < W.heap.size) x bs) (o1 : Only none_ W w) (o2 : Only none_ W w') : Byt w' (fun b => b < W.heap.size) x bs := by
  obtain ⟨A, c, rfl, h1, h2, h3, h4⟩ := h
  refine ⟨A, c, rfl, h1, h2, h3, fun hp => ?_⟩
  obtain ⟨b, off, rfl, hs, hlt, hc⟩ := h4 hp
  exact ⟨b, off, rfl, hs, Nat.lt_of_lt_of_le hs o2.size, fun j hj => (o2.cell (p := ⟨b, off + j, none⟩) hs (fun h => h)).trans ((o1.cell (p := ⟨b, off + j, none⟩) hs (fun h => h)).symm.trans (hc j hj))⟩

/-- What an opening of a disk with just these records is. -/
theorem open_of (W : World) (g : Nat) (l : List (List UInt8)) (h : ∀ r ∈ l, Rok r) (v : Value) (w : World) (hd : Dsk W g (dvOf l) v w) :
    Calls Try.prog 30 #[.pointer (some ⟨g, 0, none⟩)] w fun e w' => ∃ j vg, e = .returned (.tuple #[.pointer (some ⟨j, 0, none⟩), vg, .int .i64 0]) ∧ w.heap.size ≤ j ∧ Jn w' j g (l.length : Int) ∧ Lst w' w.heap.size (fun b => w.heap.size ≤ b) vg l ∧
      ∃ v', Dsk W g (dvOf l) v' w' ∧ Only (foot g v) w w' ∧ Moved w v v' := by
  obtain ⟨e1, e2, e3⟩ := open_all l h
  refine (open_any W g (dvOf l) v w hd).mono ?_
  rintro e w' ⟨vj, vl, rfl, ho, lf⟩
  rw [e2] at lf
  rcases ho with ⟨h0, _⟩ | ⟨_, j, rfl, hj, hjn, hl⟩
  · exact absurd e1 h0
  · rw [e3] at hjn hl
    exact ⟨j, vl, by rw [e1], hj, hjn, hl, lf⟩
theorem add_of (W : World) (g j : Nat) (l : List (List UInt8)) (b : List UInt8) (hl : (flatB l).length + 522 ≤ 1048576) (hc : l.length ≤ 1000000) (v x : Value) (S : Nat → Prop) (w : World) (hd : Dsk W g (dvOf l) v w) (hj : Jn w j g (l.length : Int)) (hx : Byt w S x b) (hS : ∀ b, S b → b ≠ g ∧ b ≠ j) (hB : W.heap.size ≤ j) (hf : ¬ foot g v j) :
    Calls Try.prog 36 #[.pointer (some ⟨j, 0, none⟩), x] w fun e w' => e = .returned (.int .i64 (recCode b.length)) ∧ ∃ v', Dsk W g (if recCode b.length = 0 then dvOf (l ++ [b]) else dvOf l) v' w' ∧ Only (fun k => foot g v k ∨ k = j) w w' ∧ Moved w v v' := by
  obtain ⟨e1, e2⟩ := add_all l b hl
  refine (add_any W g j (l.length : Int) (dvOf l) v x b S w hd hj hx hS hB hf (by omega) (by omega)).mono ?_
  rintro e w' ⟨rfl, v', d', j', o', m', _⟩
  rw [e2] at d'
  exact ⟨by rw [e1], v', d', o', m'⟩

set_option maxHeartbeats 12800000 in
theorem jj_yes (x y : Value) (l m : List (List UInt8)) (W : World) (hl : Rows_ W (fun b => b < W.heap.size) x l) (hm : Rows_ W (fun b => b < W.heap.size) y m) (fl : fewR l = true) (fm : fewR m = true) :
    Calls Try.prog 9 #[x, y] W fun e w' => e = .returned (.bool true) ∧ Below W.heap.size W w' := by
  obtain ⟨i0, hi0, hiz, hz1, hz2⟩ := info_parts u8_info
  have HL := Lib.hid (fun (w : World) (o : Only none_ W w) => rows_few x l _ w (hl.only o (fun _ _ h => h)))
  have HM := Lib.hid (fun (w : World) (o : Only none_ W w) => rows_few y m _ w (hm.only o (fun _ _ h => h)))
  rw [fl] at HL
  rw [fm] at HM
  have hl2 := (fewR_yes fl).2
  have hm2 := (fewR_yes fm).2
  have HRX := Lib.hid hl
  have HRY := Lib.hid hm
  obtain ⟨A, c, rfl⟩ : ∃ A c, x = .slice A l.length c := by obtain ⟨A, c, h, _⟩ := hl; exact ⟨A, c, h⟩
  obtain ⟨B, d, rfl⟩ : ∃ A c, y = .slice A m.length c := by obtain ⟨A, c, h, _⟩ := hm; exact ⟨A, c, h⟩
  obtain ⟨L, hL⟩ : ∃ L, l.length = L := ⟨_, rfl⟩
  obtain ⟨M, hM⟩ : ∃ L, m.length = L := ⟨_, rfl⟩
  rw [hL] at HL HRX hl2 ⊢
  rw [hM] at HM HRY hm2 ⊢
  have HLM : Hid ((l ++ m).length ≤ 40 ∧ ([] : List (List UInt8)).length + l.length ≤ 2000000 ∧ (([] : List (List UInt8)) ++ l).length + m.length ≤ 2000000) := by
    refine ⟨?_, ?_, ?_⟩ <;> simp <;> omega
  have tokC : True := trivial
  have tokE : True := trivial
  clear hl hm hL hM fl fm hl2 hm2
  go_enter Try.func9, Try.ntmps9
  go_wp2_with (first
    | (go_at_call 20; refine (j_speaks _).mono ?_; rintro E w0 ⟨rfl, o0⟩; have O0 := Lib.hid o0; clear o0)
    | (go_at_call 35; have _t := tokC; clear tokC; refine (HL.out _ O0.out).mono ?_; rintro E w8 ⟨rfl, rfl⟩; have tokD : True := trivial)
    | (go_at_call 35; have _t := tokD; clear tokD; refine (HM.out _ O0.out).mono ?_; rintro E w8 ⟨rfl, rfl⟩)
    | (go_at_call 27; refine (disk_new W _ O0.out).mono ?_; rintro E w1 ⟨g, rfl, hg, d1, o1⟩
       have D1 := Lib.hid d1
       have O1 := Lib.hid (O0.out.trans o1)
       have G1 : Hid (W.heap.size ≤ g) := Nat.le_trans O0.out.size hg
       have L1 := Lib.hid (Lst.made w1 W.heap.size (fun b => b < W.heap.size) (O0.out.trans o1).size)
       clear hg d1 o1)
    | (at_builtin; have _t := tokE
       obtain ⟨A2, n2, c2, w2, hrun2, hl2, ho2, hm2⟩ := run_append_rows (w1.alloc (.cells #[] 22)) 56 W.heap.size (fun b => b < W.heap.size) _ [] L1.out _ l ((HRX.out.only (O1.out.alloc (.cells #[] 22)) (fun _ _ h => h)).mono (fun b hb _ => ⟨hb, fun e => by have h1 := (L1.out.own_lt b e).1; omega⟩)) (by have := O1.out.size; rw [World.size_alloc]; omega) HLM.out.2.1
       refine Lib.wpList_append_run _ rfl _ _ _ _ rfl _ _ rfl rfl _ _ hrun2 ?_
       clear tokE
       have L2 := Lib.hid hl2
       have O2 : Hid (Only none_ w1 w2) := ((Only.refl none_ w1).alloc (.cells #[] 22)).trans' ho2 (fun k hk e => by have e' : some w1.heap.size = some k := e; injection e' with e'; omega)
       have M2 : Hid (∀ k, (Value.slice A2 n2 c2).ownBlock = some k → w1.heap.size ≤ k) := fun k hk => by
         rcases hm2 k hk with h | h
         · have e' : some w1.heap.size = some k := h
           injection e' with e'; omega
         · rw [World.size_alloc] at h; omega
       clear hrun2 hl2 ho2 hm2
       have tokF : True := trivial)
    | (at_builtin; have _t := tokF
       obtain ⟨A3, n3, c3, w3, hrun3, hl3, ho3, hm3⟩ := run_append_rows w2 56 W.heap.size (fun b => b < W.heap.size) _ _ L2.out _ m ((HRY.out.only (O1.out.trans O2.out) (fun _ _ h => h)).mono (fun b hb _ => ⟨hb, fun e => by have h1 := (L2.out.own_lt b e).1; omega⟩)) (O1.out.trans O2.out).size HLM.out.2.2
       refine Lib.wpList_append_run _ rfl _ _ _ _ rfl _ _ rfl rfl _ _ hrun3 ?_
       clear tokF
       have O3 : Hid (Only none_ w1 w3) := O2.out.trans' ho3 (fun k hk e => by have := M2.out k e; omega)
       have M3 : Hid (∀ k, (Value.slice A3 n3 c3).ownBlock = some k → w1.heap.size ≤ k) := fun k hk => by
         rcases hm3 k hk with h | h
         · exact M2.out k h
         · have := O2.out.size; omega
       have L3 : Hid (Lst w3 W.heap.size (fun b => b < W.heap.size) (.slice A3 n3 c3) (l ++ m)) := hl3
       have N3 : Hid (n3 = (l ++ m).length) := by obtain ⟨_, _, e⟩ := hl3.shape; injection e
       clear hrun3 hl3 ho3 hm3))
  have J0 : Hid (Jj W g (dvOf []) [] [] (l ++ m) (.slice none 0 0) (.slice none 0 0) (.slice none 0 0) (.slice A3 n3 c3) w3) := by
    have hg1 := D1.out.bk.lt
    refine ⟨D1.out.keep O3.out, World.ownsRow_nil _ _ _ _, Lst.nil _ _ _, L3.out, ?_, ?_, ?_, ?_, ?_, ?_⟩
    · intro k _ e; cases e
    · intro k _ e; cases e
    · intro k hk e
      have := M3.out k e
      rcases hk with rfl | hk
      · omega
      · cases hk
    · intro k e; cases e
    · intro k e; cases e
    · intro k e; cases e
  obtain ⟨xs, hxs⟩ : ∃ z, l ++ m = z := ⟨_, rfl⟩
  have h40 := HLM.out.1
  rw [hxs] at J0 N3 h40
  have H40 := Lib.hid h40
  have hn3 : n3 ≤ 40 := by have := N3.out; omega
  clear HRX HRY HL HM O2 M2 L1 L2 O3 M3 L3 hxs h40 HLM D1
  go_loopw [6, 7, 40] (fun vb va k wr => ∃ j : Nat, j ≤ n3 ∧ k = .int .i64 j ∧ ∃ v, Jj W g (dvOf (okL (xs.take j))) (flatB (okL (xs.take j))) (okL (xs.take j)) xs v vb va (.slice A3 n3 c3) wr) (fun _ _ k _ => n3 - (intOf k).toNat)
  case atStart => exact ⟨0, by omega, rfl, _, by simpa [okL, flatB] using J0.out⟩
  case round =>
    obtain ⟨j, hj, rfl, v, s⟩ := hrel
    obtain ⟨ok, hok⟩ : ∃ z, okL (xs.take j) = z := ⟨_, rfl⟩
    have hrok : ∀ r ∈ ok, Rok r := hok ▸ okL_ok _
    have hcnt : ok.length ≤ 40 := by
      have h1 := okL_len (xs.take j)
      rw [hok, List.length_take] at h1
      have := H40.out; omega
    have hfl : (flatB ok).length ≤ 20880 := by have := flatB_le ok hrok; omega
    rw [hok] at s
    obtain ⟨Ab, nb, cb, rfl⟩ := own_shape s.b
    obtain ⟨Aa, ca, rfl⟩ := s.a.shape
    have hnb := own_len s.b
    have S0 := Lib.hid s
    have HROK := Lib.hid hrok
    have HFL := Lib.hid hfl
    have HCN := Lib.hid hcnt
    have HSM : Hid (∀ (p q : Value) (S T : Nat → Prop) (w : World), Rows_ w S p ok → Rows_ w T q ok → Calls Try.prog 26 #[p, q] w fun e w' => e = .returned (.bool true) ∧ Only none_ w w') := by
      intro p q S T w h1 h2
      have := rf_same p q ok ok S T w h1 h2
      simpa using this
    have hll : ((ok.length : Int) != (ok.length : Int)) = false := by simp
    by_cases hlt : j < n3
    · obtain ⟨b0, A1, L1, c1, e0, hcell, hp, hL1, hB1⟩ := s.l.cell j hlt
      subst e0
      have hsn := okL_snoc xs j hp
      rw [hok] at hsn
      obtain ⟨bb, hbb⟩ : ∃ z, xs[j] = z := ⟨_, rfl⟩
      rw [hbb] at hsn hL1 hB1
      obtain ⟨z, hz⟩ : ∃ z, recCode bb.length = z := ⟨_, rfl⟩
      have HSN := Lib.hid hsn
      have HB1 := Lib.hid hB1
      have HZ := Lib.hid hz
      have HOP := Lib.hid (open_of W g ok hrok v wr s.d)
      have hzz : (z != z) = false := by simp
      clear s hrok hfl hcnt hsn hB1 hL1 hbb hp hok hnb
      by_cases hz0 : z = 0
      · have hzb : (z == 0) = true := by simpa using hz0
        have HZ0 := Lib.hid hz0
        clear hz hz0
        go_wp2_with (first
          | (go_at_call 30; refine HOP.out.mono ?_; rintro E w1 ⟨jj, vg, rfl, hj1, hjn, hlg, v1, d1, o1, m1⟩
             obtain ⟨Ag, cg, rfl⟩ := hlg.shape
             have HJ : Hid (wr.heap.size ≤ jj ∧ W.heap.size ≤ jj ∧ jj < w1.heap.size) := ⟨hj1, Nat.le_trans S0.out.d.ho.size hj1, TabP.lt hjn⟩
             have HOW : Hid ((Value.slice Ab nb cb).ownBlock ≠ some jj ∧ (Value.slice Aa ok.length ca).ownBlock ≠ some jj ∧ (Value.slice (some ⟨b0, 0, none⟩) n3 c3).ownBlock ≠ some jj) := ⟨fun e => by have := S0.out.lt.1 _ e; omega, fun e => by have := S0.out.lt.2.1 _ e; omega, fun e => by have := S0.out.lt.2.2 _ e; omega⟩
             have S1 := Lib.hid (S0.out.disk jj d1 (o1.mono (fun k _ h => .inl h)) m1 ⟨HJ.out.2.1, HOW.out⟩)
             have N1 := Lib.hid hjn
             have RG := Lib.hid hlg.rows
             have RA := Lib.hid S1.out.a.rows
             clear hj1 hjn hlg d1 o1 m1)
          | (go_at_call 26; refine (HSM.out _ _ _ _ _ RG.out RA.out).mono ?_; rintro E w2 ⟨rfl, o2⟩
             have S2 := Lib.hid (S1.out.keep o2)
             have N2 := Lib.hid (N1.out.only o2 (fun h => h))
             have hjd2 := N2.out.disk
             have J2 : Hid (jj < w2.heap.size) := TabP.lt N2.out
             clear o2)
          | (go_at_call 34; refine (jn_len _ _ _ _ N2.out).mono ?_; rintro E w9 ⟨rfl, rfl⟩)
          | (go_at_call 21; refine (record_any _ _ bb _ (byt_across HB1.out S0.out.d.ho S2.out.d.ho)).mono ?_; rw [HZ.out]; rintro E w3 ⟨vr, rfl, hr, o3⟩
             have rr : ∃ A n c, vr = .slice A n c ∧ w3.ownsRow w2.heap.size 5 1 (.slice A n c) (recB bb).length (byts (recB bb)) := by
               rcases hr with ⟨_, h⟩ | ⟨h, _⟩
               · exact h
               · exact absurd (HZ.out.trans HZ0.out) h
             obtain ⟨Ar, nr, cr, rfl, ownr⟩ := rr
             have BR := Lib.hid ((Byt.of_own ownr).mono (T := fun b => w2.heap.size ≤ b) (fun b _ hb => (ownr.lt b hb).1))
             clear ownr
             have S3 := Lib.hid (S2.out.keep o3)
             have N3j := Lib.hid (N2.out.only o3 (fun h => h))
             clear o3 hr)
          | (go_at_call 36; refine (add_of W g jj ok bb (by have := HFL.out; omega) (by have := HCN.out; omega) _ _ _ _ S3.out.d N3j.out (byt_across HB1.out S0.out.d.ho S3.out.d.ho) (fun b hb => ⟨by have := G1.out; omega, by have := HJ.out.2.1; omega⟩) HJ.out.2.1 (Jn.foot S3.out.d N3j.out)).mono ?_; rw [HZ.out]; rintro E w4 ⟨rfl, v4, d4, o4, m4⟩
             rw [if_pos HZ0.out] at d4
             have S4 := Lib.hid (S3.out.disk jj d4 o4 m4 ⟨HJ.out.2.1, HOW.out⟩)
             have R4 : Hid (Byt w4 (fun b => w2.heap.size ≤ b) (.slice Ar nr cr) (recB bb)) := BR.out.only o4 (fun b hb h => by
               rcases h with h | h
               · have := S2.out.d.foot_lt h; omega
               · have := J2.out; omega)
             have hb4 : (flatB ok).length + (recB bb).length ≤ 140737488355328 := by
               have h1 := HFL.out
               have h2 := (rec_ok (HZ.out.trans HZ0.out)).2
               rw [recB_len]; omega
             have hs4 : W.heap.size ≤ w4.heap.size := S4.out.d.ho.size
             clear d4 o4 m4)
          | (at_builtin; refine wpList_append_byt _ rfl (.tmp 81) (.tmp 82) _ rfl W.heap.size 5 i0 (.int .u8 0) Try.underlying22 hi0 hiz hz1 hz2 rfl _ (flatB ok) rfl S4.out.b _ _ (recB bb) rfl R4.out hb4 hs4 ?_
             intro A5 n5 c5 w5 hown5 hgrow5 hmv5
             have S5 := Lib.hid (S4.out.bytes hown5 ((Only.refl (ownb _) w4).grown hgrow5 (fun k hk => .inl hk)) hmv5)
             have hb5 : W.heap.size ≤ w5.heap.size := S5.out.d.ho.size
             have X5 : Hid (Byt w5 (fun b => b < W.heap.size ∧ (Value.slice Aa ok.length ca).ownBlock ≠ some b) (.slice A1 L1 c1) bb) := (byt_across HB1.out S0.out.d.ho S5.out.d.ho).mono (fun b _ hb => ⟨hb, fun e => by have h1 := (S5.out.a.own_lt b e).1; omega⟩)
             have hc5 : ok.length ≤ 2000000 := by have := HCN.out; omega
             clear hown5 hgrow5 hmv5)
          | (at_builtin; refine wpList_append_lst w5 rfl (.tmp 84) (.tmp 86) rfl W.heap.size _ _ ok rfl S5.out.a _ _ rfl X5.out hb5 hc5 ?_
             intro A6 n6 c6 w6 hl6 ho6 hm6
             have S6 := Lib.hid (S5.out.rows hl6 ho6 hm6)
             clear hl6 ho6 hm6))
        go_roundw
        case rel =>
          have e := HSN.out
          rw [HZ.out, if_pos HZ0.out] at e
          refine ⟨j + 1, by omega, by go_num, v4, ?_⟩
          rw [e, flatB_append, flatB_one]
          exact S6.out
        case measure => simp [intOf]; omega
      · have hzb : (z == 0) = false := by simpa using hz0
        have HZ0 := Lib.hid hz0
        clear hz hz0
        go_wp2_with (first
          | (go_at_call 30; refine HOP.out.mono ?_; rintro E w1 ⟨jj, vg, rfl, hj1, hjn, hlg, v1, d1, o1, m1⟩
             obtain ⟨Ag, cg, rfl⟩ := hlg.shape
             have HJ : Hid (wr.heap.size ≤ jj ∧ W.heap.size ≤ jj ∧ jj < w1.heap.size) := ⟨hj1, Nat.le_trans S0.out.d.ho.size hj1, TabP.lt hjn⟩
             have HOW : Hid ((Value.slice Ab nb cb).ownBlock ≠ some jj ∧ (Value.slice Aa ok.length ca).ownBlock ≠ some jj ∧ (Value.slice (some ⟨b0, 0, none⟩) n3 c3).ownBlock ≠ some jj) := ⟨fun e => by have := S0.out.lt.1 _ e; omega, fun e => by have := S0.out.lt.2.1 _ e; omega, fun e => by have := S0.out.lt.2.2 _ e; omega⟩
             have S1 := Lib.hid (S0.out.disk jj d1 (o1.mono (fun k _ h => .inl h)) m1 ⟨HJ.out.2.1, HOW.out⟩)
             have N1 := Lib.hid hjn
             have RG := Lib.hid hlg.rows
             have RA := Lib.hid S1.out.a.rows
             clear hj1 hjn hlg d1 o1 m1)
          | (go_at_call 26; refine (HSM.out _ _ _ _ _ RG.out RA.out).mono ?_; rintro E w2 ⟨rfl, o2⟩
             have S2 := Lib.hid (S1.out.keep o2)
             have N2 := Lib.hid (N1.out.only o2 (fun h => h))
             have hjd2 := N2.out.disk
             have J2 : Hid (jj < w2.heap.size) := TabP.lt N2.out
             clear o2)
          | (go_at_call 34; refine (jn_len _ _ _ _ N2.out).mono ?_; rintro E w9 ⟨rfl, rfl⟩)
          | (go_at_call 21; refine (record_any _ _ bb _ (byt_across HB1.out S0.out.d.ho S2.out.d.ho)).mono ?_; rw [HZ.out]; rintro E w3 ⟨vr, rfl, hr, o3⟩
             have rr : vr = .slice none 0 0 := by
               rcases hr with ⟨h, _⟩ | ⟨_, h⟩
               · exact absurd (HZ.out.symm.trans h) HZ0.out
               · exact h
             obtain rfl := rr
             have S3 := Lib.hid (S2.out.keep o3)
             have N3j := Lib.hid (N2.out.only o3 (fun h => h))
             clear o3 hr)
          | (go_at_call 36; refine (add_of W g jj ok bb (by have := HFL.out; omega) (by have := HCN.out; omega) _ _ _ _ S3.out.d N3j.out (byt_across HB1.out S0.out.d.ho S3.out.d.ho) (fun b hb => ⟨by have := G1.out; omega, by have := HJ.out.2.1; omega⟩) HJ.out.2.1 (Jn.foot S3.out.d N3j.out)).mono ?_; rw [HZ.out]; rintro E w4 ⟨rfl, v4, d4, o4, m4⟩
             rw [if_neg HZ0.out] at d4
             have S4 := Lib.hid (S3.out.disk jj d4 o4 m4 ⟨HJ.out.2.1, HOW.out⟩)
             clear d4 o4 m4))
        go_roundw
        case rel =>
          have e := HSN.out
          rw [HZ.out, if_neg HZ0.out] at e
          refine ⟨j + 1, by omega, by go_num, v4, ?_⟩
          rw [e]
          exact S4.out
        case measure => simp [intOf]; omega
    · have hjn : xs.take j = xs := List.take_of_length_le (by have := N3.out; omega)
      subst hnb
      have hra := read_all ok hrok
      have HRD := read7 Ab cb (flatB ok) _ wr (Byt.of_own s.b) (by omega)
      rw [hra] at HRD
      dsimp only at HRD
      have HRE := Lib.hid HRD
      obtain ⟨N, hN⟩ : ∃ N, (flatB ok).length = N := ⟨_, rfl⟩
      have HDR := Lib.hid (fun (w : World) (h : Dsk W g (dvOf ok) v w) => disk_read W g (dvOf ok) v w h)
      have HDS := Lib.hid (fun (w : World) (h : Dsk W g (dvOf ok) v w) => disk_safe W g (dvOf ok) v w h)
      have e0 : (dvOf ok).on = true := rfl
      have e1 : (dvOf ok).bs = flatB ok := rfl
      have e2 : (dvOf ok).safe = (flatB ok).length := rfl
      simp only [e0, e1, if_true] at HDR
      rw [e2] at HDS
      rw [hN] at HRE HDR HDS S0 ⊢
      have hNN : ((N : Int) == (N : Int)) = true := by simp
      clear s hrok hfl hcnt hra HRD hok hjn hN e0 e1 e2
      go_wp2_with (first
        | (go_at_call 24; refine HRE.out.mono ?_; rintro E w1 ⟨vg, rfl, hlg, o1⟩
           obtain ⟨Ag, cg, rfl⟩ := hlg.shape
           have S1 := Lib.hid (S0.out.keep o1)
           have LG := Lib.hid hlg
           clear hlg o1)
        | (go_at_call 33; refine (HDR.out _ S1.out.d).mono ?_; rintro E w2 ⟨⟨A7, n7, c7, rfl, own7⟩, o7⟩
           have S2 := Lib.hid (S1.out.keep o7)
           have RG := Lib.hid (LG.out.keep o7).rows
           have RA := Lib.hid S2.out.a.rows
           have B7 := Lib.hid (Byt.of_own own7)
           clear own7 o7)
        | (go_at_call 26; refine (HSM.out _ _ _ _ _ RG.out RA.out).mono ?_; rintro E w3 ⟨rfl, o3⟩
           have S3 := Lib.hid (S2.out.keep o3)
           have k1 := run_bytes_string w3 _ _ _ (B7.out.only o3 (fun _ _ h => h))
           have k2 := run_bytes_string w3 _ _ _ (Byt.of_own S3.out.b)
           clear o3)
        | (go_at_call 39; refine (HDS.out _ S3.out.d).mono ?_; rintro E w9 ⟨rfl, rfl⟩))
      go_ret
      exact ⟨rfl, S3.out.d.ho.below (Nat.le_refl _) (fun k hk => hk.elim)⟩
end Go.Proofs.Ytdjondjlengapaa
