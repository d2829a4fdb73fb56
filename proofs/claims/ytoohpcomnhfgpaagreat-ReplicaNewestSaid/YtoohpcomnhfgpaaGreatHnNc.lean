/- What ReplicaNewest comes to. No statement of the seat is proved here. -/
import Derived.Test.YtoohpcomnhfgpaaGreatHn19
import Derived.Test.YtoohpcomnhfgpaaGreatHn20
import Derived.Test.YtoohpcomnhfgpaaGreatHn13
import Derived.Test.YtoohpcomnhfgpaaGreatHn6
section
namespace Go.Proofs.YtoohpcomnhfgpaaGreat
open Go.RowKit
set_option maxRecDepth 100000
set_option linter.all false
def oNw : Ro := ⟨12, 64, 2, 0, 0⟩
theorem oNw_open (w : World) (site : Int) (hs : 0 ≤ site ∧ site < 12) (g : Nat) (v : Value) (X : World) (hX : Dsk w g (dvOf []) v X) :
    Calls Tryz.prog 15 #[.int .i64 site, .agg #[.int .i64 12, .int .i64 64, .int .i64 2, .int .i64 0, .int .i64 0], .pointer (some ⟨g, 0, none⟩)] X fun E w' => ∃ a r, a.r = r ∧ E = .returned (.tuple #[.pointer (some ⟨r, 0, none⟩), .int .i64 0]) ∧ Rp w a (blankS oNw site (dvOf []) 0) w' ∧ Only (foot g v) X w' ∧ ∀ k, allF a k → foot g v k ∨ X.heap.size ≤ k := by
  have h := rp_open w g (dvOf []) v site oNw [] X hX rfl rfl (by decide) rfl (by intro e h; cases h) (by decide) (by decide) hs (by decide)
  have hop : ∀ n : Int, opF [] (blankS oNw site (opD (dvOf [])) n) = some (blankS oNw site (dvOf []) n) := fun n => by rw [(open_all [] (by intro r h; cases h)).2.1]; rfl
  rw [hop] at h
  refine h.mono ?_
  rintro E w' ⟨a, h1, h2, _, h4, h5⟩
  exact ⟨a, _, rfl, h1, h2, h4, h5⟩
def Nc (w : World) (h5 : Nat) (s : Rs) (v6 v7 : Value) (X : World) : Prop := ∃ a r, a.r = r ∧ v6 = .pointer (some ⟨r, 0, none⟩) ∧ v7 = .int .i64 0 ∧ Rp w a s X ∧ Bn a h5 33 #[.int .i64 12, .int .i64 64, .int .i64 2, .int .i64 0, .int .i64 0] X
def Nd (w : World) (a1 : Ra) (s1 s2 : Rs) (v8 v9 : Value) (X : World) : Prop := ∃ a r, a.r = r ∧ v8 = .pointer (some ⟨r, 0, none⟩) ∧ v9 = .int .i64 0 ∧ N2 w a1 s1 a s2 X
theorem nine_at {X : World} {b p : Nat} {e : En} (h : ∀ i u, (#[.string e.k, .string e.v, .bool e.d, .int .i64 e.s.c, .int .i64 e.s.s, .int .i64 e.a.c, .int .i64 e.a.s, .int .i64 e.p, .int .i64 e.g] : Array Value).toList[i]? = some u → X.cell? ⟨b, p + i, none⟩ = some u) : X.cell? ⟨b, p, none⟩ = some (.string e.k) ∧ X.cell? ⟨b, p + 1, none⟩ = some (.string e.v) ∧ X.cell? ⟨b, p + 2, none⟩ = some (.bool e.d) ∧ X.cell? ⟨b, p + 3, none⟩ = some (.int .i64 e.s.c) ∧ X.cell? ⟨b, p + 4, none⟩ = some (.int .i64 e.s.s) ∧ X.cell? ⟨b, p + 5, none⟩ = some (.int .i64 e.a.c) ∧ X.cell? ⟨b, p + 6, none⟩ = some (.int .i64 e.a.s) ∧ X.cell? ⟨b, p + 7, none⟩ = some (.int .i64 e.p) ∧ X.cell? ⟨b, p + 8, none⟩ = some (.int .i64 e.g) :=
  ⟨h 0 _ rfl, h 1 _ rfl, h 2 _ rfl, h 3 _ rfl, h 4 _ rfl, h 5 _ rfl, h 6 _ rfl, h 7 _ rfl, h 8 _ rfl⟩
theorem Gk.of1 {wa w1 : World} (e : En) (hs : Bool) (o : Only none_ wa w1) : Gk wa e hs (.pointer (some ⟨w1.heap.size, 0, none⟩)) (.bool hs) (w1.alloc (.cells #[.string e.k, .string e.v, .bool e.d, .int .i64 e.s.c, .int .i64 e.s.s, .int .i64 e.a.c, .int .i64 e.a.s, .int .i64 e.p, .int .i64 e.g] 82)) :=
  ⟨_, rfl, rfl, o.size, Blk.new _ _ _, o.alloc _⟩
def Nz (w : World) (l : List En) (t k r1 r2 : Nat) (X : World) : Prop := ∃ a1 s1 g1 a2 s2 g2, N2 w a1 s1 a2 s2 X ∧ a1.r = r1 ∧ a2.r = r2 ∧ (Wf g1 s1 ∧ g1.length ≤ k ∧ Nw (l.take k) s1 ∧ s1.o = oNw) ∧ (Wf g2 s2 ∧ g2.length ≤ k ∧ Nw (ordL l t k) s2 ∧ s2.o = oNw)
set_option maxHeartbeats 25600000 in
theorem rp_newest (A : Option Addr) (c : Nat) (S : Nat → Prop) (l : List En) (t : Nat) (ht : t < 256) (w : World) (hx : Cel w S (.slice A l.length c) l.length 9 (l.flatMap enRow)) :
    Calls Tryz.prog 5 #[.slice A l.length c, .int .u8 (t : Int)] w fun E w' => E = .returned (.bool true) ∧ Only none_ w w' := by
  have HSP := Lib.hid (fun (X : World) => rp_speaks X)
  have HX := Lib.hid hx
  obtain ⟨L, hL⟩ : ∃ L, l.length = L := ⟨_, rfl⟩
  have HL := Lib.hid hL
  rw [hL] at HX ⊢
  have hLm : L ≤ 9223372036854775807 := by
    obtain ⟨_, _, e, _, h2, h3, _, _⟩ := HX.out
    injection e with _ _ e
    subst e
    simp only [maxLen] at h3; omega
  clear hL hx
  by_cases h40 : 40 < L
  · have hd : decide ((40 : Int) < (L : Int)) = true := by simp; omega
    as_aux_lemma =>
      clear HX HL
      go_enter Tryz.func5, Tryz.ntmps5
      have tok1 : True := trivial
      go_wp2_with (first
        | (go_at_call 12; have _t := tok1; clear tok1; refine (HSP.out _).mono ?_; rintro E w1 ⟨rfl, o1⟩; have O1 := Lib.hid o1; clear o1; have tok2 : True := trivial)
        | (go_at_call 12; have _t := tok2; clear tok2; refine (HSP.out _).mono ?_; rintro E w3 ⟨rfl, o3⟩; have O3 := Lib.hid (O1.out.trans o3); clear o3))
      go_ret
      exact ⟨rfl, O3.out⟩
  · have hn40 : ¬ (40 : Int) < (L : Int) := by omega
    have hL40 : L ≤ 40 := by omega
    have HDN := Lib.hid (fun (X : World) (o : Only none_ w X) => disk_new w X o)
    have HO1 := Lib.hid (oNw_open w 1 (by decide))
    have HO2 := Lib.hid (oNw_open w 2 (by decide))
    obtain ⟨s1, hs1⟩ : ∃ s, blankS oNw 1 (dvOf []) 0 = s := ⟨_, rfl⟩
    obtain ⟨s2, hs2⟩ : ∃ s, blankS oNw 2 (dvOf []) 0 = s := ⟨_, rfl⟩
    rw [hs1] at HO1
    rw [hs2] at HO2
    have HW1 : Hid (Wf [] s1 ∧ Nw [] s1 ∧ s1.o = oNw) := ⟨by rw [← hs1]; exact wf_blank (by decide) (by decide), by rw [← hs1]; exact Nw.start rfl rfl rfl rfl, by rw [← hs1]; rfl⟩
    have HW2 : Hid (Wf [] s2 ∧ Nw [] s2 ∧ s2.o = oNw) := ⟨by rw [← hs2]; exact wf_blank (by decide) (by decide), by rw [← hs2]; exact Nw.start rfl rfl rfl rfl, by rw [← hs2]; rfl⟩
    clear hs1 hs2
    go_enter Tryz.func5, Tryz.ntmps5
    go_upto_region 4 with (first
      | (go_at_call 12; refine (HSP.out _).mono ?_; rintro E w1 ⟨rfl, o1⟩
         have O2 := Lib.hid (o1.alloc (.cells #[.int .i64 12, .int .i64 64, .int .i64 2, .int .i64 0, .int .i64 0] 33))
         have B2 := Lib.hid (Blk.new w1 33 #[.int .i64 12, .int .i64 64, .int .i64 2, .int .i64 0, .int .i64 0])
         clear o1))
    generalize w1.alloc (.cells #[.int .i64 12, .int .i64 64, .int .i64 2, .int .i64 0, .int .i64 0] 33) = w2 at *
    generalize w1.heap.size = h5 at *
    go_cut [6, 7] (fun v6 v7 X => Nc w h5 s1 v6 v7 X)
    case first =>
      as_aux_lemma =>
        have p0 := (Blk.drew B2.out).cell_ (i := 0) rfl
        have p1 := (Blk.drew B2.out).cell_ (i := 1) rfl
        have p2 := (Blk.drew B2.out).cell_ (i := 2) rfl
        have p3 := (Blk.drew B2.out).cell_ (i := 3) rfl
        have p4 := (Blk.drew B2.out).cell_ (i := 4) rfl
        go_region_law (first
          | (refine Se.step_call (by simp [Region.wanted]) 14 #[] (by go_simp; try (with_reducible rfl)) ?_
             refine (HDN.out _ (O2.out.trans (Only.refl none_ w2).drew)).mono ?_
             rintro E w3 ⟨g, rfl, hgf, hd, o3⟩
             refine ⟨_, rfl, ?_⟩
             have D3 := Lib.hid hd
             have B3 := Lib.hid ((Blk.drew B2.out).only o3 (fun h => h))
             have G3 := Lib.hid hgf
             have u0 := B3.out.cell_ (i := 0) rfl
             have u1 := B3.out.cell_ (i := 1) rfl
             have u2 := B3.out.cell_ (i := 2) rfl
             have u3 := B3.out.cell_ (i := 3) rfl
             have u4 := B3.out.cell_ (i := 4) rfl
             clear hgf hd o3)
          | (refine Se.step_call (by simp [Region.wanted]) 15 #[.int .i64 1, .agg #[.int .i64 12, .int .i64 64, .int .i64 2, .int .i64 0, .int .i64 0], .pointer (some ⟨g, 0, none⟩)] (by go_simp; try (with_reducible rfl)) ?_
             refine (HO1.out g _ _ D3.out).mono ?_
             rintro E w4 ⟨a1, r1, e1, rfl, hR, o4, f4⟩
             refine ⟨_, rfl, ?_⟩
             have R4 := Lib.hid (And.intro e1 (And.intro hR (And.intro o4 f4)))
             clear e1 hR o4 f4))
        all_goals go_wp2_with fail
        all_goals go_meet
        all_goals
          have hlt : h5 < w2.heap.size := B2.out.lt
          have hdr := (Only.refl none_ w2).drew.size
          have hgf := G3.out
          have nf : ¬ foot g (.slice none 0 0) h5 := by
            rintro (e | e)
            · omega
            · cases e
          exact ⟨a1, r1, R4.out.1, rfl, rfl, R4.out.2.1, ⟨B3.out.only R4.out.2.2.1 nf, fun hf => by
            rcases R4.out.2.2.2 _ hf with h | h
            · exact nf h
            · have := B3.out.lt; omega⟩⟩
    case rest =>
      obtain ⟨a1, r1, e1, rfl, rfl, hR1, hB1⟩ := hcut
      have R1 := Lib.hid hR1
      have B1 := Lib.hid hB1
      clear hR1 hB1 HO1 B2 O2
      go_upto_region 5 with fail
      go_cut [8, 9] (fun v8 v9 X => Nd w a1 s1 s2 v8 v9 X)
      case first =>
        as_aux_lemma =>
          have p0 := (Blk.drew B1.out.b).cell_ (i := 0) rfl
          have p1 := (Blk.drew B1.out.b).cell_ (i := 1) rfl
          have p2 := (Blk.drew B1.out.b).cell_ (i := 2) rfl
          have p3 := (Blk.drew B1.out.b).cell_ (i := 3) rfl
          have p4 := (Blk.drew B1.out.b).cell_ (i := 4) rfl
          go_region_law (first
            | (refine Se.step_call (by simp [Region.wanted]) 14 #[] (by go_simp; try (with_reducible rfl)) ?_
               have hdw := (Only.refl none_ wc).drew
               refine (HDN.out _ (R1.out.ho.trans hdw)).mono ?_
               rintro E w3 ⟨g, rfl, hgf, hd, o3⟩
               refine ⟨_, rfl, ?_⟩
               have D3 := Lib.hid hd
               have R3 := Lib.hid (R1.out.keep (hdw.trans o3))
               have B3 := Lib.hid ((Blk.drew B1.out.b).only o3 (fun h => h))
               have G3 := Lib.hid (And.intro hgf hdw.size)
               have u0 := B3.out.cell_ (i := 0) rfl
               have u1 := B3.out.cell_ (i := 1) rfl
               have u2 := B3.out.cell_ (i := 2) rfl
               have u3 := B3.out.cell_ (i := 3) rfl
               have u4 := B3.out.cell_ (i := 4) rfl
               clear hgf hd o3 hdw)
            | (refine Se.step_call (by simp [Region.wanted]) 15 #[.int .i64 2, .agg #[.int .i64 12, .int .i64 64, .int .i64 2, .int .i64 0, .int .i64 0], .pointer (some ⟨g, 0, none⟩)] (by go_simp; try (with_reducible rfl)) ?_
               refine (HO2.out g _ _ D3.out).mono ?_
               rintro E w4 ⟨a2, r2, e2, rfl, hR, o4, f4⟩
               refine ⟨_, rfl, ?_⟩
               have R4 := Lib.hid (And.intro e2 (And.intro hR (And.intro o4 f4)))
               clear e2 hR o4 f4))
          all_goals go_wp2_with fail
          all_goals go_meet
          all_goals
            have hgf := G3.out.1
            have hdr := G3.out.2
            have nf : ∀ k, allF a1 k → ¬ foot g (.slice none 0 0) k := by
              intro k hk e
              have h1 := (R1.out.all_ge hk).2
              rcases e with e | e
              · omega
              · cases e
            refine ⟨a2, r2, R4.out.1, rfl, rfl, R3.out.apart R4.out.2.2.1 nf (fun k hk => ?_), R4.out.2.1, fun k h1 h2 => ?_⟩
            · rcases hk with hk | hk
              · have := R1.out.ho.size; omega
              · cases hk
            · rcases R4.out.2.2.2 _ h2 with h | h
              · exact nf k h1 h
              · have := (R3.out.all_ge h1).2; omega
      case rest =>
        obtain ⟨a2, r2, e2, rfl, rfl, hN⟩ := hcut
        have N0 := Lib.hid hN
        clear hN HO2 HDN R1 B1
        go_wp2_with fail
        go_loopw [70] (fun i X => ∃ k : Nat, k ≤ L ∧ i = .int .i64 (k : Int) ∧ N2 w a1 s1 a2 s2 X) (fun i _ => L - (intOf i).toNat)
        case atStart => exact ⟨0, Nat.zero_le _, rfl, N0.out⟩
        case round =>
          obtain ⟨k, hk, rfl, hN⟩ := hrel
          have N1 := Lib.hid hN
          clear hN N0
          by_cases hlt : k < L
          · skip
            as_aux_lemma =>
              obtain ⟨x, hx⟩ : ∃ x, l[k]? = some x := ⟨l[k]'(by have := HL.out; omega), List.getElem?_eq_getElem _⟩
              obtain ⟨b, off, hA, _, hb, hc⟩ := in_elem enRow_length (by decide) HX.out HL.out hx
              subst hA
              have HCW : Hid (∀ j u, (#[.string x.k, .string x.v, .bool x.d, .int .i64 x.s.c, .int .i64 x.s.s, .int .i64 x.a.c, .int .i64 x.a.s, .int .i64 x.p, .int .i64 x.g] : Array Value).toList[j]? = some u → wr.cell? ⟨b, off + k * 9 + j, none⟩ = some u) := fun j u hu => hc wr N1.out.x.ho j u hu
              obtain ⟨s, hs⟩ : ∃ s, enShort x = s := ⟨_, rfl⟩
              have HSS := Lib.hid hs
              have BX := Lib.hid (Blk.new wr 50 #[.string x.k, .string x.v, .bool x.d, .int .i64 x.s.c, .int .i64 x.s.s, .int .i64 x.a.c, .int .i64 x.a.s, .int .i64 x.p, .int .i64 x.g])
              have ONE1 := Lib.hid (en_cells_one x)
              have hki : (k : Int) < (L : Int) := by omega
              clear hc hx hs
              cases s with
              | false =>
                go_wp2_with (first
                  | (with_reducible refine wpl_piece rfl 50 _ rfl b (off + k * 9) rfl #[.string x.k, .string x.v, .bool x.d, .int .i64 x.s.c, .int .i64 x.s.s, .int .i64 x.a.c, .int .i64 x.a.s, .int .i64 x.p, .int .i64 x.g] _ HCW.out Tryz.underlying50 rfl (by kernel_rfl) ?_)
                  | (with_reducible refine wpl_new rfl rfl 50 rfl _ _ rfl #[.string x.k, .string x.v, .bool x.d, .int .i64 x.s.c, .int .i64 x.s.s, .int .i64 x.a.c, .int .i64 x.a.s, .int .i64 x.p, .int .i64 x.g] rfl rfl (by kernel_rfl) ONE1.out ?_)
                  | (with_reducible refine wpl_load rfl 50 _ rfl wr.heap.size rfl _ #[.string x.k, .string x.v, .bool x.d, .int .i64 x.s.c, .int .i64 x.s.s, .int .i64 x.a.c, .int .i64 x.a.s, .int .i64 x.p, .int .i64 x.g] _ BX.out Tryz.underlying50 rfl (by kernel_rfl) ?_)
                  | (go_at_call 34; refine (rf_short x _).mono ?_; rw [HSS.out]; rintro E w5 ⟨rfl, o5⟩; have O5 := Lib.hid ((N1.out.x.ho.alloc _).trans o5); clear o5))
                go_ret
                exact ⟨rfl, O5.out⟩
              | true =>
                go_wp2_with (first
                  | (with_reducible refine wpl_piece rfl 50 _ rfl b (off + k * 9) rfl #[.string x.k, .string x.v, .bool x.d, .int .i64 x.s.c, .int .i64 x.s.s, .int .i64 x.a.c, .int .i64 x.a.s, .int .i64 x.p, .int .i64 x.g] _ HCW.out Tryz.underlying50 rfl (by kernel_rfl) ?_)
                  | (with_reducible refine wpl_new rfl rfl 50 rfl _ _ rfl #[.string x.k, .string x.v, .bool x.d, .int .i64 x.s.c, .int .i64 x.s.s, .int .i64 x.a.c, .int .i64 x.a.s, .int .i64 x.p, .int .i64 x.g] rfl rfl (by kernel_rfl) ONE1.out ?_)
                  | (with_reducible refine wpl_load rfl 50 _ rfl wr.heap.size rfl _ #[.string x.k, .string x.v, .bool x.d, .int .i64 x.s.c, .int .i64 x.s.s, .int .i64 x.a.c, .int .i64 x.a.s, .int .i64 x.p, .int .i64 x.g] _ BX.out Tryz.underlying50 rfl (by kernel_rfl) ?_)
                  | (go_at_call 34; refine (rf_short x _).mono ?_; rw [HSS.out]; rintro E w5 ⟨rfl, o5⟩; have N5 := Lib.hid (N1.out.keep (((Only.refl none_ wr).alloc _).trans o5)); clear o5))
                go_roundw
                case rel => exact ⟨k + 1, by omega, by go_num, N5.out⟩
                case measure => simp [intOf]; omega
          · obtain rfl : k = L := by omega
            clear hlt hk
            have Z0 : Hid (Nz w l t 0 a1.r a2.r wr) := ⟨a1, s1, [], a2, s2, [], N1.out, rfl, rfl, ⟨HW1.out.1, Nat.zero_le _, HW1.out.2.1, HW1.out.2.2⟩, ⟨HW2.out.1, Nat.zero_le _, HW2.out.2.1, HW2.out.2.2⟩⟩
            rw [e1, e2] at Z0
            clear N1 HW1 HW2 e1 e2
            go_wp2_with fail
            go_loopw [80] (fun i X => ∃ m : Nat, m ≤ k ∧ i = .int .i64 (m : Int) ∧ Nz w l t m r1 r2 X) (fun i _ => k - (intOf i).toNat)
            case atStart => exact ⟨0, Nat.zero_le _, rfl, Z0.out⟩
            case round =>
              obtain ⟨m, hm, rfl, hZ⟩ := hrel
              have Z1 := Lib.hid hZ
              clear hZ Z0
              by_cases hlt : m < k
              · skip
                as_aux_lemma =>
                  obtain ⟨a1, s1, g1, a2, s2, g2, hN, q1, q2, ⟨W1, G1, V1, O1⟩, ⟨W2, G2, V2, O2⟩⟩ := Z1.out
                  obtain ⟨x, hx⟩ : ∃ x, l[m]? = some x := ⟨l[m]'(by have := HL.out; omega), List.getElem?_eq_getElem _⟩
                  obtain ⟨j, hj⟩ : ∃ j, ordI k t m = j := ⟨_, rfl⟩
                  have hjk : j < k := by rw [← hj]; exact ord_lt hlt
                  obtain ⟨y, hy⟩ : ∃ y, l[j]? = some y := ⟨l[j]'(by have := HL.out; omega), List.getElem?_eq_getElem _⟩
                  obtain ⟨b, off, hA, _, hb, hc⟩ := in_elem enRow_length (by decide) HX.out HL.out hx
                  subst hA
                  obtain ⟨b', off', hA', _, hb', hc'⟩ := in_elem enRow_length (by decide) HX.out HL.out hy
                  injection hA' with hA'
                  injection hA' with ea eb
                  subst ea eb
                  have HCX : Hid (∀ X, Only none_ w X → ∀ i u, (#[.string x.k, .string x.v, .bool x.d, .int .i64 x.s.c, .int .i64 x.s.s, .int .i64 x.a.c, .int .i64 x.a.s, .int .i64 x.p, .int .i64 x.g] : Array Value).toList[i]? = some u → X.cell? ⟨b, off + m * 9 + i, none⟩ = some u) := fun X o i u hu => hc X o i u hu
                  have HCY : Hid (∀ X, Only none_ w X → ∀ i u, (#[.string y.k, .string y.v, .bool y.d, .int .i64 y.s.c, .int .i64 y.s.s, .int .i64 y.a.c, .int .i64 y.a.s, .int .i64 y.p, .int .i64 y.g] : Array Value).toList[i]? = some u → X.cell? ⟨b, off + j * 9 + i, none⟩ = some u) := fun X o i u hu => hc' X o i u hu
                  have HTK : Hid (l.take (m + 1) = l.take m ++ [x]) := by
                    obtain ⟨h1, h2⟩ := List.getElem?_eq_some_iff.1 hx
                    rw [Hid, List.take_succ_eq_append_getElem h1, h2]
                  have HOR : Hid (ordL l t (m + 1) = ordL l t m ++ [y]) := ordL_succ (by rw [HL.out, hj]; exact hy)
                  have htm : Int.tmod ((k : Int) - 1 - (m : Int) + (t : Int)) (k : Int) = (j : Int) := by rw [← hj]; exact ord_go hlt
                  have hmd : ((k : Int) - 1 - (m : Int) + (t : Int)) % (k : Int) = (j : Int) := by rw [← htm, Int.tmod_eq_emod_of_nonneg (by omega)]
                  have hw1 : IntKind.i64.wrap ((k : Int) - 1) = (k : Int) - 1 := IntWalk.i64_in _ (by omega)
                  have hw2 : IntKind.i64.wrap ((k : Int) - 1 - (m : Int)) = (k : Int) - 1 - (m : Int) := IntWalk.i64_in _ (by omega)
                  have hw3 : IntKind.i64.wrap ((k : Int) - 1 - (m : Int) + (t : Int)) = (k : Int) - 1 - (m : Int) + (t : Int) := IntWalk.i64_in _ (by omega)
                  have hk0 : ((k : Int) == 0) = false := by simp; omega
                  have hk1 : ¬ (k : Int) = 0 := by omega
                  have hki : (m : Int) < (k : Int) := by omega
                  have hjI : (j : Int) < (k : Int) := by omega
                  have NN := Lib.hid hN
                  clear hx hy hc hc' hN hj
                  go_upto_region 18 with fail
                  (refine wp_region_float (fun X => Only none_ wr X) (wr.heap.size) 12 (by kernel_rfl) (by kernel_rfl) ((Only.refl none_ wr).drew) (fun w h => h.size) (fun w cs t h => h.alloc _) (fun w g cs h hg => h.setRow (.inr hg) cs) ?_; simp only [List.take_succ_cons, List.take_zero, List.drop_succ_cons, List.drop_zero, List.take_nil, List.drop_nil])
                  repeat (first
                    | (refine fl_value (v := ?_) (by rfl) (by rfl) (by rfl) (fun w0 hS => ?_) ?_; rotate_left; (· (have xx := nine_at (HCX.out _ (NN.out.x.ho.trans hS)); have yy := nine_at (HCY.out _ (NN.out.x.ho.trans hS)); go_simp; try (with_reducible rfl))); try simp only [Act.put, List.setIfInBounds_toArray, List.set_cons_zero, List.set_cons_succ, Nat.reduceAdd]))
                  (refine fl_make 14 50 #[.string ⟨#[]⟩, .string ⟨#[]⟩, .bool false, .int .i64 0, .int .i64 0, .int .i64 0, .int .i64 0, .int .i64 0, .int .i64 0] (by rfl) (by rfl) (by rfl) (fun ρ w0 => ?_) ?_; (· (go_simp; try (with_reducible rfl))); try simp only [List.nil_append, List.cons_append, Nat.reduceAdd])
                  (refine fl_make 15 50 #[.string ⟨#[]⟩, .string ⟨#[]⟩, .bool false, .int .i64 0, .int .i64 0, .int .i64 0, .int .i64 0, .int .i64 0, .int .i64 0] (by rfl) (by rfl) (by rfl) (fun ρ w0 => ?_) ?_; (· (go_simp; try (with_reducible rfl))); try simp only [List.nil_append, List.cons_append, Nat.reduceAdd])
                  (refine fl_store ⟨8, 14, 50, #[.string ⟨#[]⟩, .string ⟨#[]⟩, .bool false, .int .i64 0, .int .i64 0, .int .i64 0, .int .i64 0, .int .i64 0, .int .i64 0]⟩ #[.string x.k, .string x.v, .bool x.d, .int .i64 x.s.c, .int .i64 x.s.s, .int .i64 x.a.c, .int .i64 x.a.s, .int .i64 x.p, .int .i64 x.g] 50 _ (by simp) (by simp) (by rfl) (by rfl) (by rfl) (Nat.le_of_ble_eq_true rfl) (by rfl) (by kernel_rfl) (by rfl) (en_cells_one _) ?_; try simp only [List.nil_append, List.cons_append, Nat.reduceAdd])
                  (refine fl_store ⟨9, 15, 50, #[.string ⟨#[]⟩, .string ⟨#[]⟩, .bool false, .int .i64 0, .int .i64 0, .int .i64 0, .int .i64 0, .int .i64 0, .int .i64 0]⟩ #[.string y.k, .string y.v, .bool y.d, .int .i64 y.s.c, .int .i64 y.s.s, .int .i64 y.a.c, .int .i64 y.a.s, .int .i64 y.p, .int .i64 y.g] 50 _ (by simp) (by simp) (by rfl) (by rfl) (by rfl) (Nat.le_of_ble_eq_true rfl) (by rfl) (by kernel_rfl) (by rfl) (en_cells_one _) ?_; try simp only [List.nil_append, List.cons_append, Nat.reduceAdd])
                  refine fl_nil ?_
                  intro G w3 t9 hM hD
                  obtain ⟨⟨z1, bx, _, hz1⟩, gx⟩ := hM _ List.mem_cons_self
                  obtain ⟨⟨z2, by_, _, hz2⟩, gy⟩ := hM _ (List.mem_cons_of_mem _ List.mem_cons_self)
                  have hzx := hz1 _ List.mem_cons_self rfl
                  have hzy := hz2 _ (List.mem_cons_of_mem _ List.mem_cons_self) rfl
                  have hne : G 8 ≠ G 9 := fun e => absurd (hD _ List.mem_cons_self _ (List.mem_cons_of_mem _ List.mem_cons_self) e) (by decide)
                  dsimp only at bx by_ gx gy hzx hzy
                  subst hzx hzy
                  simp only [putAl, Act.put, List.setIfInBounds_toArray, List.set_cons_zero, List.set_cons_succ]
                  generalize G 8 = h14 at *
                  generalize G 9 = h15 at *
                  clear hM hD hz1 hz2
                  have N3 := Lib.hid (NN.out.keep t9)
                  have HB1 : Hid (Bn a1 h14 50 #[.string x.k, .string x.v, .bool x.d, .int .i64 x.s.c, .int .i64 x.s.s, .int .i64 x.a.c, .int .i64 x.a.s, .int .i64 x.p, .int .i64 x.g] w3 ∧ Bn a1 h15 50 #[.string y.k, .string y.v, .bool y.d, .int .i64 y.s.c, .int .i64 y.s.s, .int .i64 y.a.c, .int .i64 y.a.s, .int .i64 y.p, .int .i64 y.g] w3) := ⟨⟨bx, fun e => by have := (NN.out.x.all_ge e).2; omega⟩, ⟨by_, fun e => by have := (NN.out.x.all_ge e).2; omega⟩⟩
                  have HB2 : Hid ((¬ allF a2 h14) ∧ ¬ allF a2 h15) := ⟨fun e => by have := (NN.out.y.all_ge e).2; omega, fun e => by have := (NN.out.y.all_ge e).2; omega⟩
                  have hst1 := V1.step W1 (by omega) (by rw [O1]; decide) x
                  have hft1 := W1.mg (by omega) x
                  have hst2 := V2.step W2 (by omega) (by rw [O2]; decide) y
                  have hft2 := W2.mg (by omega) y
                  have HM1 := Lib.hid (fun (X : World) (hX : Rp w a1 s1 X) => rp_merge w a1 s1 x X hX (W1.rky (by omega)) W1.gok W1.tabok)
                  have HM2 := Lib.hid (fun (X : World) (hX : Rp w a2 s2 X) => rp_merge w a2 s2 y X hX (W2.rky (by omega)) W2.gok W2.tabok)
                  rw [q1] at HM1
                  rw [q2] at HM2
                  obtain ⟨⟨n1, k1, e1, z1⟩, hq1⟩ : ∃ q, mgR s1 x = q := ⟨_, rfl⟩
                  obtain ⟨⟨n2, k2, e2, z2⟩, hq2⟩ : ∃ q, mgR s2 y = q := ⟨_, rfl⟩
                  rw [hq1] at hst1 hft1 HM1
                  rw [hq2] at hst2 hft2 HM2
                  have HC1 := Lib.hid (fun (X : World) => rf_check x X)
                  have HC2 := Lib.hid (fun (X : World) => rf_check y X)
                  have hzz1 : z1 = enCheck x := hst1.1
                  have hzz2 : z2 = enCheck y := hst2.1
                  rw [← hzz1] at HC1
                  rw [← hzz2] at HC2
                  have HS1 : Hid (∃ g', Wf g' n1 ∧ g'.length ≤ m + 1 ∧ Nw (l.take (m + 1)) n1 ∧ n1.o = oNw) := by
                    obtain ⟨g', h1, h2, _⟩ := hft1.ex
                    exact ⟨g', h1, by omega, by rw [HTK.out]; exact hst1.2.1, hst1.2.2.1.trans O1⟩
                  have HS2 : Hid (∃ g', Wf g' n2 ∧ g'.length ≤ m + 1 ∧ Nw (ordL l t (m + 1)) n2 ∧ n2.o = oNw) := by
                    obtain ⟨g', h1, h2, _⟩ := hft2.ex
                    exact ⟨g', h1, by omega, by rw [HOR.out]; exact hst2.2.1, hst2.2.2.1.trans O2⟩
                  have hb1 : (z1 != z1) = false := by simp
                  have hb2 : (z2 != z2) = false := by simp
                  have Q1 := Lib.hid (And.intro q1 q2)
                  obtain ⟨ek, ev, ed, ⟨esc, ess⟩, ⟨eac, eas⟩, ep, eg⟩ := e1
                  obtain ⟨fk, fv, fd, ⟨fsc, fss⟩, ⟨fac, fas⟩, fp, fg⟩ := e2
                  clear hst1 hst2 hft1 hft2 hq1 hq2 hzz1 hzz2 W1 W2 V1 V2 O1 O2 G1 G2 HTK HOR NN t9 bx by_ gx gy q1 q2 hw1 hw2 hw3 htm hmd HCX HCY
                  have tok1 : True := trivial
                  go_wp2_with (first
                    | (with_reducible refine wpl_load rfl 50 _ rfl h14 rfl _ #[.string x.k, .string x.v, .bool x.d, .int .i64 x.s.c, .int .i64 x.s.s, .int .i64 x.a.c, .int .i64 x.a.s, .int .i64 x.p, .int .i64 x.g] _ HB1.out.1.b Tryz.underlying50 rfl (by kernel_rfl) ?_)
                    | (go_at_call 36; have _t := tok1; clear tok1; refine (en_of x _).mono ?_; rintro E w5 ⟨rfl, o5⟩
                       have N5 := Lib.hid (N3.out.keep o5)
                       have B5 := Lib.hid (And.intro (HB1.out.1.keep o5) (HB1.out.2.keep o5))
                       clear o5
                       have tok2 : True := trivial)
                    | (go_at_call 35; have _t := tok2; clear tok2; refine (HM1.out _ N5.out.x).mono ?_; rintro E w6 ⟨rfl, L6⟩
                       obtain ⟨a3, N6, q3⟩ := N5.out.left L6
                       obtain ⟨_, _, o6, _, _, _⟩ := L6
                       have b14 := B5.out.1.b.only o6 B5.out.1.n
                       have b15 := B5.out.2.b.only o6 B5.out.2.n
                       have o7 := (Only.refl none_ w6).alloc (.cells #[.string (⟨ek, ev, ed, ⟨esc, ess⟩, ⟨eac, eas⟩, ep, eg⟩ : En).k, .string (⟨ek, ev, ed, ⟨esc, ess⟩, ⟨eac, eas⟩, ep, eg⟩ : En).v, .bool (⟨ek, ev, ed, ⟨esc, ess⟩, ⟨eac, eas⟩, ep, eg⟩ : En).d, .int .i64 (⟨ek, ev, ed, ⟨esc, ess⟩, ⟨eac, eas⟩, ep, eg⟩ : En).s.c, .int .i64 (⟨ek, ev, ed, ⟨esc, ess⟩, ⟨eac, eas⟩, ep, eg⟩ : En).s.s, .int .i64 (⟨ek, ev, ed, ⟨esc, ess⟩, ⟨eac, eas⟩, ep, eg⟩ : En).a.c, .int .i64 (⟨ek, ev, ed, ⟨esc, ess⟩, ⟨eac, eas⟩, ep, eg⟩ : En).a.s, .int .i64 (⟨ek, ev, ed, ⟨esc, ess⟩, ⟨eac, eas⟩, ep, eg⟩ : En).p, .int .i64 (⟨ek, ev, ed, ⟨esc, ess⟩, ⟨eac, eas⟩, ep, eg⟩ : En).g] 82)
                       have N7 := Lib.hid (N6.keep o7)
                       have B7 : Hid (Bn a2 h14 50 #[.string x.k, .string x.v, .bool x.d, .int .i64 x.s.c, .int .i64 x.s.s, .int .i64 x.a.c, .int .i64 x.a.s, .int .i64 x.p, .int .i64 x.g] _ ∧ Bn a2 h15 50 #[.string y.k, .string y.v, .bool y.d, .int .i64 y.s.c, .int .i64 y.s.s, .int .i64 y.a.c, .int .i64 y.a.s, .int .i64 y.p, .int .i64 y.g] _) := ⟨⟨b14.only o7 (fun h => h), HB2.out.1⟩, ⟨b15.only o7 (fun h => h), HB2.out.2⟩⟩
                       have Q7 : Hid (a3.r = r1) := q3.trans Q1.out.1
                       clear N6 q3 o6 b14 b15 o7
                       have tok3 : True := trivial)
                    | (with_reducible refine wpl_load rfl 50 _ rfl h15 rfl _ #[.string y.k, .string y.v, .bool y.d, .int .i64 y.s.c, .int .i64 y.s.s, .int .i64 y.a.c, .int .i64 y.a.s, .int .i64 y.p, .int .i64 y.g] _ B7.out.2.b Tryz.underlying50 rfl (by kernel_rfl) ?_)
                    | (go_at_call 36; have _t := tok3; clear tok3; refine (en_of y _).mono ?_; rintro E w8 ⟨rfl, o8⟩
                       have N8 := Lib.hid (N7.out.keep o8)
                       have B8 := Lib.hid (And.intro (B7.out.1.keep o8) (B7.out.2.keep o8))
                       clear o8
                       have tok4 : True := trivial)
                    | (go_at_call 35; have _t := tok4; clear tok4; refine (HM2.out _ N8.out.y).mono ?_; rintro E w9 ⟨rfl, L9⟩
                       obtain ⟨a4, N9, q4⟩ := N8.out.swap.left L9
                       obtain ⟨_, _, o9, _, _, _⟩ := L9
                       have b14 := B8.out.1.b.only o9 B8.out.1.n
                       have b15 := B8.out.2.b.only o9 B8.out.2.n
                       have o10 := (Only.refl none_ w9).alloc (.cells #[.string (⟨fk, fv, fd, ⟨fsc, fss⟩, ⟨fac, fas⟩, fp, fg⟩ : En).k, .string (⟨fk, fv, fd, ⟨fsc, fss⟩, ⟨fac, fas⟩, fp, fg⟩ : En).v, .bool (⟨fk, fv, fd, ⟨fsc, fss⟩, ⟨fac, fas⟩, fp, fg⟩ : En).d, .int .i64 (⟨fk, fv, fd, ⟨fsc, fss⟩, ⟨fac, fas⟩, fp, fg⟩ : En).s.c, .int .i64 (⟨fk, fv, fd, ⟨fsc, fss⟩, ⟨fac, fas⟩, fp, fg⟩ : En).s.s, .int .i64 (⟨fk, fv, fd, ⟨fsc, fss⟩, ⟨fac, fas⟩, fp, fg⟩ : En).a.c, .int .i64 (⟨fk, fv, fd, ⟨fsc, fss⟩, ⟨fac, fas⟩, fp, fg⟩ : En).a.s, .int .i64 (⟨fk, fv, fd, ⟨fsc, fss⟩, ⟨fac, fas⟩, fp, fg⟩ : En).p, .int .i64 (⟨fk, fv, fd, ⟨fsc, fss⟩, ⟨fac, fas⟩, fp, fg⟩ : En).g] 82)
                       have N10 := Lib.hid (N9.swap.keep o10)
                       have B10 := Lib.hid (And.intro (b14.only o10 (fun h => h)) (b15.only o10 (fun h => h)))
                       have Q10 : Hid (a4.r = r2) := q4.trans Q1.out.2
                       clear N9 q4 o9 b14 b15 o10
                       have tok5 : True := trivial)
                    | (with_reducible refine wpl_load rfl 50 _ rfl h14 rfl _ #[.string x.k, .string x.v, .bool x.d, .int .i64 x.s.c, .int .i64 x.s.s, .int .i64 x.a.c, .int .i64 x.a.s, .int .i64 x.p, .int .i64 x.g] _ B10.out.1 Tryz.underlying50 rfl (by kernel_rfl) ?_)
                    | (go_at_call 37; have _t := tok5; clear tok5; refine (HC1.out _).mono ?_; rintro E w11 ⟨rfl, o11⟩
                       have N11 := Lib.hid (N10.out.keep o11)
                       have B11 := Lib.hid (B10.out.2.only o11 (fun h => h))
                       have y11 := nine_of B11.out
                       clear o11
                       have tok6 : True := trivial)
                    | (go_at_call 37; have _t := tok6; clear tok6; refine (HC2.out _).mono ?_; rintro E w12 ⟨rfl, o12⟩
                       have N12 := Lib.hid (N11.out.keep o12)
                       clear o12))
                  go_roundw
                  case rel =>
                    obtain ⟨g3, c1, c2, c3, c4⟩ := HS1.out
                    obtain ⟨g4, d1, d2, d3, d4⟩ := HS2.out
                    exact ⟨m + 1, by omega, by go_num, ⟨a3, n1, g3, a4, n2, g4, N12.out, Q7.out, Q10.out, ⟨c1, c2, c3, c4⟩, ⟨d1, d2, d3, d4⟩⟩⟩
                  case measure => simp [intOf]; omega
              · obtain rfl : m = k := by omega
                obtain ⟨a1, s1, g1, a2, s2, g2, hN, q1, q2, ⟨W1, G1, V1, O1⟩, ⟨W2, G2, V2, O2⟩⟩ := Z1.out
                have V3 : Nw l s1 := by rwa [List.take_of_length_le (by have := HL.out; omega)] at V1
                have hmm : ∀ x, x ∈ l ↔ x ∈ ordL l t m := fun x => by have := mem_ordL l t x; rwa [HL.out] at this
                have HBO := Lib.hid (fun (x : En) (hx : x ∈ l) (hc : enCheck x = 0) => V3.both V2 hmm hx hc)
                have HLN := Lib.hid (V3.len V2 hmm W1.ris W2.ris)
                have N0 := Lib.hid hN
                have Q0 := Lib.hid (And.intro q1 q2)
                clear hN V1 V2 V3 W1 W2 G1 G2 O1 O2 hmm Z1 q1 q2 hlt hm
                go_wp2_with fail
                go_loopw [131] (fun i X => ∃ k : Nat, k ≤ m ∧ i = .int .i64 (k : Int) ∧ N2 w a1 s1 a2 s2 X) (fun i _ => m - (intOf i).toNat)
                case atStart => exact ⟨0, Nat.zero_le _, rfl, N0.out⟩
                case round =>
                  obtain ⟨k, hk, rfl, hN⟩ := hrel
                  have N1 := Lib.hid hN
                  clear hN N0
                  by_cases hlt : k < m
                  · skip
                    obtain ⟨x, hx⟩ : ∃ x, l[k]? = some x := ⟨l[k]'(by have := HL.out; omega), List.getElem?_eq_getElem _⟩
                    have hxm : x ∈ l := List.mem_of_getElem? hx
                    obtain ⟨b, off, hA, _, hb, hc⟩ := in_elem enRow_length (by decide) HX.out HL.out hx
                    subst hA
                    have HCW : Hid (∀ j u, (#[.string x.k, .string x.v, .bool x.d, .int .i64 x.s.c, .int .i64 x.s.s, .int .i64 x.a.c, .int .i64 x.a.s, .int .i64 x.p, .int .i64 x.g] : Array Value).toList[j]? = some u → wr.cell? ⟨b, off + k * 9 + j, none⟩ = some u) := fun j u hu => hc wr N1.out.x.ho j u hu
                    have BX := Lib.hid (Blk.new wr 50 #[.string x.k, .string x.v, .bool x.d, .int .i64 x.s.c, .int .i64 x.s.s, .int .i64 x.a.c, .int .i64 x.a.s, .int .i64 x.p, .int .i64 x.g])
                    have N2' := Lib.hid (N1.out.keep ((Only.refl none_ wr).alloc (.cells #[.string x.k, .string x.v, .bool x.d, .int .i64 x.s.c, .int .i64 x.s.s, .int .i64 x.a.c, .int .i64 x.a.s, .int .i64 x.p, .int .i64 x.g] 50)))
                    have ONE1 := Lib.hid (en_cells_one x)
                    have hki : (k : Int) < (m : Int) := by omega
                    have HCK := Lib.hid (fun (X : World) => rf_check x X)
                    clear hc hx
                    by_cases hz : enCheck x = 0
                    · rw [hz] at HCK
                      obtain ⟨e, f, he, hf, hes, hea, hzg1, hzg2, hnw, hal⟩ := HBO.out x hxm hz
                      clear hzg1 hzg2
                      obtain ⟨xk, xv, xd, ⟨xsc, xss⟩, ⟨xac, xas⟩, xp, xg⟩ := x
                      try dsimp only at he hf
                      go_upto_region 28 with (first
                        | (with_reducible refine wpl_piece rfl 50 _ rfl b (off + k * 9) rfl #[.string xk, .string xv, .bool xd, .int .i64 xsc, .int .i64 xss, .int .i64 xac, .int .i64 xas, .int .i64 xp, .int .i64 xg] _ HCW.out Tryz.underlying50 rfl (by kernel_rfl) ?_)
                        | (with_reducible refine wpl_new rfl rfl 50 rfl _ _ rfl #[.string xk, .string xv, .bool xd, .int .i64 xsc, .int .i64 xss, .int .i64 xac, .int .i64 xas, .int .i64 xp, .int .i64 xg] rfl rfl (by kernel_rfl) ONE1.out ?_)
                        | (with_reducible refine wpl_load rfl 50 _ rfl wr.heap.size rfl _ #[.string xk, .string xv, .bool xd, .int .i64 xsc, .int .i64 xss, .int .i64 xac, .int .i64 xas, .int .i64 xp, .int .i64 xg] _ BX.out Tryz.underlying50 rfl (by kernel_rfl) ?_)
                        | (go_at_call 37; refine (HCK.out _).mono ?_; rintro E w5 ⟨rfl, o5⟩
                           have N5 := Lib.hid (N2'.out.keep o5)
                           have B5 := Lib.hid (BX.out.only o5 (fun h => h))
                           clear o5))
                      try simp only [Act.put, List.setIfInBounds_toArray, List.set_cons_succ, List.set_cons_zero, World.size_alloc]
                      generalize wr.heap.size = h23 at *
                      try dsimp only at B5
                      have HE1 : Hid (∀ X, Only none_ w5 X → Calls Tryz.prog 24 #[.pointer (some ⟨r1, 6, none⟩), .string xk] X fun E w' => E = .returned (.tuple #[.agg #[.string e.k, .string e.v, .bool e.d, .int .i64 e.s.c, .int .i64 e.s.s, .int .i64 e.a.c, .int .i64 e.a.s, .int .i64 e.p, .int .i64 e.g], .bool true]) ∧ Only none_ X w') := by
                        intro X o
                        have := ct_entry w a1 s1 xk X (N5.out.x.keep o)
                        rw [he, Option.getD_some, look_has he, Q0.out.1] at this
                        exact this
                      have HEF : Hid (e.s = f.s ∧ e.a = f.a ∧ enNewer ⟨xk, xv, xd, ⟨xsc, xss⟩, ⟨xac, xas⟩, xp, xg⟩ e = false ∧ ∃ y ∈ l, enCheck y = 0 ∧ enAlike y e = true) := ⟨hes, hea, hnw, hal⟩
                      clear hes hea hnw hal HCW BX N2' HCK
                      obtain ⟨ek, ev, ed, ⟨esc, ess⟩, ⟨eac, eas⟩, ep, eg⟩ := e
                      go_cut [24, 25] (fun s5 s6 w' => Gk w5 ⟨ek, ev, ed, ⟨esc, ess⟩, ⟨eac, eas⟩, ep, eg⟩ true s5 s6 w')
                      case first =>
                        have q0 := (Blk.drew B5.out).cell_ (i := 0) rfl
                        have u0 := (Blk.drew (B5.out.alloc (.cells #[.string ⟨#[]⟩, .string ⟨#[]⟩, .bool false, .int .i64 0, .int .i64 0, .int .i64 0, .int .i64 0, .int .i64 0, .int .i64 0] 82))).cell_ (i := 0) rfl
                        have BN := Lib.hid (Blk.drew (Blk.new w5 82 #[.string ⟨#[]⟩, .string ⟨#[]⟩, .bool false, .int .i64 0, .int .i64 0, .int .i64 0, .int .i64 0, .int .i64 0, .int .i64 0]))
                        go_region_law (first
                          | (refine Se.step_call (by simp [Region.wanted]) 24 #[.pointer (some ⟨r1, 6, none⟩), .string xk] (by go_simp; try (with_reducible rfl)) ?_
                             refine (HE1.out _ (by first | exact (Only.refl none_ w5).drew | exact ((Only.refl none_ w5).alloc _).drew)).mono ?_
                             rintro E w1 ⟨rfl, o1⟩
                             refine ⟨_, rfl, ?_⟩
                             have O1 : Hid (Only none_ w5 w1) := by first | exact ((Only.refl none_ w5).drew).trans o1 | exact (((Only.refl none_ w5).alloc _).drew).trans o1
                             try (have B1 := Lib.hid (BN.out.only o1 (fun h => h)); have q1 := nine_of B1.out; have z1 := frozen9 B1.out)
                             have B2 := Lib.hid (Blk.new w1 82 #[.string ⟨#[]⟩, .string ⟨#[]⟩, .bool false, .int .i64 0, .int .i64 0, .int .i64 0, .int .i64 0, .int .i64 0, .int .i64 0])
                             have q2 := nine_of B2.out
                             have z2 := frozen9 B2.out
                             clear o1))
                        all_goals go_wp2_with fail
                        all_goals go_meet
                        all_goals first
                          | with_reducible exact Gk.of1 _ true O1.out
                          | exact Gk.of (x := enZero) (e := ⟨ek, ev, ed, ⟨esc, ess⟩, ⟨eac, eas⟩, ep, eg⟩) O1.out B1.out (Nat.le_refl _)
                          | exact Gk.of (x := enZero) (e := ⟨ek, ev, ed, ⟨esc, ess⟩, ⟨eac, eas⟩, ep, eg⟩) (O1.out.alloc _) B2.out O1.out.size
                      case rest =>
                        obtain ⟨b1, rfl, rfl, hb1, hC6, o6⟩ := hcut
                        obtain ⟨wd, hwd⟩ : ∃ X, X = wc := ⟨_, rfl⟩
                        subst hwd
                        have C6 := Lib.hid hC6
                        have B6 := Lib.hid (B5.out.only o6 (fun h => h))
                        have N6 := Lib.hid (N5.out.keep o6)
                        clear hb1 hC6 o6 HE1 B5 N5
                        have HE2 : Hid (∀ X, Only none_ wd X → Calls Tryz.prog 24 #[.pointer (some ⟨r2, 6, none⟩), .string xk] X fun E w' => E = .returned (.tuple #[.agg #[.string f.k, .string f.v, .bool f.d, .int .i64 f.s.c, .int .i64 f.s.s, .int .i64 f.a.c, .int .i64 f.a.s, .int .i64 f.p, .int .i64 f.g], .bool true]) ∧ Only none_ X w') := by
                          intro X o
                          have := ct_entry w a2 s2 xk X (N6.out.y.keep o)
                          rw [hf, Option.getD_some, look_has hf, Q0.out.2] at this
                          exact this
                        clear he hf
                        obtain ⟨fk, fv, fd, ⟨fsc, fss⟩, ⟨fac, fas⟩, fp, fg⟩ := f
                        obtain ⟨hes, hea, hnw, hal⟩ := HEF.out
                        have hes' : (⟨esc, ess⟩ : St) = ⟨fsc, fss⟩ := hes
                        have hea' : (⟨eac, eas⟩ : St) = ⟨fac, fas⟩ := hea
                        have HNW := Lib.hid hnw
                        have HAL := Lib.hid hal
                        clear HEF hes hea hnw hal
                        injection hes' with h1 h2
                        injection hea' with h3 h4
                        subst h1 h2 h3 h4
                        go_upto_region 29 with fail
                        go_cut [26, 27] (fun s5 s6 w' => Gk wd ⟨fk, fv, fd, ⟨esc, ess⟩, ⟨eac, eas⟩, fp, fg⟩ true s5 s6 w')
                        case first =>
                          have q0 := (Blk.drew B6.out).cell_ (i := 0) rfl
                          have u0 := (Blk.drew (B6.out.alloc (.cells #[.string ⟨#[]⟩, .string ⟨#[]⟩, .bool false, .int .i64 0, .int .i64 0, .int .i64 0, .int .i64 0, .int .i64 0, .int .i64 0] 82))).cell_ (i := 0) rfl
                          have BN := Lib.hid (Blk.drew (Blk.new wd 82 #[.string ⟨#[]⟩, .string ⟨#[]⟩, .bool false, .int .i64 0, .int .i64 0, .int .i64 0, .int .i64 0, .int .i64 0, .int .i64 0]))
                          go_region_law (first
                            | (refine Se.step_call (by simp [Region.wanted]) 24 #[.pointer (some ⟨r2, 6, none⟩), .string xk] (by go_simp; try (with_reducible rfl)) ?_
                               refine (HE2.out _ (by first | exact (Only.refl none_ wd).drew | exact ((Only.refl none_ wd).alloc _).drew)).mono ?_
                               rintro E w1 ⟨rfl, o1⟩
                               refine ⟨_, rfl, ?_⟩
                               have O1 : Hid (Only none_ wd w1) := by first | exact ((Only.refl none_ wd).drew).trans o1 | exact (((Only.refl none_ wd).alloc _).drew).trans o1
                               try (have B1 := Lib.hid (BN.out.only o1 (fun h => h)); have q1 := nine_of B1.out; have z1 := frozen9 B1.out)
                               have B2 := Lib.hid (Blk.new w1 82 #[.string ⟨#[]⟩, .string ⟨#[]⟩, .bool false, .int .i64 0, .int .i64 0, .int .i64 0, .int .i64 0, .int .i64 0, .int .i64 0])
                               have q2 := nine_of B2.out
                               have z2 := frozen9 B2.out
                               clear o1))
                          all_goals go_wp2_with fail
                          all_goals go_meet
                          all_goals first
                            | with_reducible exact Gk.of1 _ true O1.out
                            | exact Gk.of (x := enZero) (e := ⟨fk, fv, fd, ⟨esc, ess⟩, ⟨eac, eas⟩, fp, fg⟩) O1.out B1.out (Nat.le_refl _)
                            | exact Gk.of (x := enZero) (e := ⟨fk, fv, fd, ⟨esc, ess⟩, ⟨eac, eas⟩, fp, fg⟩) (O1.out.alloc _) B2.out O1.out.size
                        case rest =>
                          obtain ⟨b2, rfl, rfl, hb2, hC7, o7⟩ := hcut
                          have D7 := Lib.hid hC7
                          have C7 := Lib.hid (C6.out.only o7 (fun h => h))
                          have B7 := Lib.hid (B6.out.only o7 (fun h => h))
                          have N7 := Lib.hid (N6.out.keep o7)
                          clear hb2 hC7 o7 HE2 C6 B6 N6
                          go_upto_region 30 with fail
                          (refine wp_region_float (fun X => Only none_ wc X) (wc.heap.size) 8 (by kernel_rfl) (by kernel_rfl) ((Only.refl none_ wc).drew) (fun w h => h.size) (fun w cs t h => h.alloc _) (fun w g cs h hg => h.setRow (.inr hg) cs) ?_; simp only [List.take_succ_cons, List.take_zero, List.drop_succ_cons, List.drop_zero, List.take_nil, List.drop_nil])
                          (refine fl_value (v := ?_) (by rfl) (by rfl) (by rfl) (fun w0 hS => ?_) ?_; rotate_left; (· (have xx := nine_of (C7.out.only hS (fun h => h)); go_simp; try (with_reducible rfl))); try simp only [Act.put, List.setIfInBounds_toArray, List.set_cons_zero, List.set_cons_succ, Nat.reduceAdd])
                          (refine fl_call (v := ?_) (f := 26) (args := ?_) (by rfl) (by rfl) (by rfl) (fun w0 hS => ?_) (fun w0 hS => ?_) ?_; rotate_left 2; (· (skip; go_simp; try (with_reducible rfl))); (· (with_reducible refine (en_to ⟨ek, ev, ed, ⟨esc, ess⟩, ⟨eac, eas⟩, ep, eg⟩ _).mono ?_; rintro E w8 ⟨rfl, o8⟩; refine ⟨?_, hS.trans o8, o8⟩; rfl)); try simp only [Act.put, List.setIfInBounds_toArray, List.set_cons_zero, List.set_cons_succ, Nat.reduceAdd])
                          (refine fl_value (v := ?_) (by rfl) (by rfl) (by rfl) (fun w0 hS => ?_) ?_; rotate_left; (· (have yy := nine_of (D7.out.only hS (fun h => h)); go_simp; try (with_reducible rfl))); try simp only [Act.put, List.setIfInBounds_toArray, List.set_cons_zero, List.set_cons_succ, Nat.reduceAdd])
                          (refine fl_call (v := ?_) (f := 26) (args := ?_) (by rfl) (by rfl) (by rfl) (fun w0 hS => ?_) (fun w0 hS => ?_) ?_; rotate_left 2; (· (skip; go_simp; try (with_reducible rfl))); (· (with_reducible refine (en_to ⟨fk, fv, fd, ⟨esc, ess⟩, ⟨eac, eas⟩, fp, fg⟩ _).mono ?_; rintro E w8 ⟨rfl, o8⟩; refine ⟨?_, hS.trans o8, o8⟩; rfl)); try simp only [Act.put, List.setIfInBounds_toArray, List.set_cons_zero, List.set_cons_succ, Nat.reduceAdd])
                          (refine fl_make 28 50 #[.string ⟨#[]⟩, .string ⟨#[]⟩, .bool false, .int .i64 0, .int .i64 0, .int .i64 0, .int .i64 0, .int .i64 0, .int .i64 0] (by rfl) (by rfl) (by rfl) (fun ρ w0 => ?_) ?_; (· (go_simp; try (with_reducible rfl))); try simp only [List.nil_append, List.cons_append, Nat.reduceAdd])
                          (refine fl_make 29 50 #[.string ⟨#[]⟩, .string ⟨#[]⟩, .bool false, .int .i64 0, .int .i64 0, .int .i64 0, .int .i64 0, .int .i64 0, .int .i64 0] (by rfl) (by rfl) (by rfl) (fun ρ w0 => ?_) ?_; (· (go_simp; try (with_reducible rfl))); try simp only [List.nil_append, List.cons_append, Nat.reduceAdd])
                          (refine fl_store ⟨4, 28, 50, #[.string ⟨#[]⟩, .string ⟨#[]⟩, .bool false, .int .i64 0, .int .i64 0, .int .i64 0, .int .i64 0, .int .i64 0, .int .i64 0]⟩ #[.string ek, .string ev, .bool ed, .int .i64 esc, .int .i64 ess, .int .i64 eac, .int .i64 eas, .int .i64 ep, .int .i64 eg] 50 _ (by simp) (by simp) (by rfl) (by rfl) (by rfl) (Nat.le_of_ble_eq_true rfl) (by rfl) (by kernel_rfl) (by rfl) (en_cells_one ⟨ek, ev, ed, ⟨esc, ess⟩, ⟨eac, eas⟩, ep, eg⟩) ?_; try simp only [List.nil_append, List.cons_append, Nat.reduceAdd])
                          (refine fl_store ⟨5, 29, 50, #[.string ⟨#[]⟩, .string ⟨#[]⟩, .bool false, .int .i64 0, .int .i64 0, .int .i64 0, .int .i64 0, .int .i64 0, .int .i64 0]⟩ #[.string fk, .string fv, .bool fd, .int .i64 esc, .int .i64 ess, .int .i64 eac, .int .i64 eas, .int .i64 fp, .int .i64 fg] 50 _ (by simp) (by simp) (by rfl) (by rfl) (by rfl) (Nat.le_of_ble_eq_true rfl) (by rfl) (by kernel_rfl) (by rfl) (en_cells_one ⟨fk, fv, fd, ⟨esc, ess⟩, ⟨eac, eas⟩, fp, fg⟩) ?_; try simp only [List.nil_append, List.cons_append, Nat.reduceAdd])
                          refine fl_nil ?_
                          intro G w3 t9 hM hD
                          simp only [List.forall_mem_cons, List.not_mem_nil, false_imp_iff, implies_true, and_true] at hM
                          obtain ⟨⟨⟨zs1, by1, _, hz1, _⟩, gx1⟩, ⟨zs2, by2, _, _, hz2⟩, gx2⟩ := hM
                          obtain rfl := hz1 trivial
                          obtain rfl := hz2 trivial
                          simp only [putAl, Act.put, List.setIfInBounds_toArray, List.set_cons_zero, List.set_cons_succ]
                          generalize G 4 = gE at *
                          generalize G 5 = gF at *
                          have E9 := Lib.hid by1
                          have F9 := Lib.hid by2
                          have B9 := Lib.hid (B7.out.only t9 (fun h => h))
                          have N9 := Lib.hid (N7.out.keep t9)
                          clear t9 hD by1 by2 gx1 gx2 hz1 hz2 B7 N7 C7 D7
                          have NS := fun (Q : World) => neq_of (eq_ref_stamp Q ⟨esc, ess⟩ ⟨esc, ess⟩ 9998)
                          have NA := fun (Q : World) => neq_of (eq_ref_stamp Q ⟨eac, eas⟩ ⟨eac, eas⟩ 9998)
                          rw [(stEq_iff _ _).2 rfl] at NS NA
                          dsimp only at NS NA
                          have n1 := nine_of E9.out
                          have n2 := nine_of F9.out
                          have n3 := nine_of B9.out
                          have HNE : Hid (∀ Q, Calls Tryz.prog 38 #[.agg #[.string xk, .string xv, .bool xd, .int .i64 xsc, .int .i64 xss, .int .i64 xac, .int .i64 xas, .int .i64 xp, .int .i64 xg], .agg #[.string ek, .string ev, .bool ed, .int .i64 esc, .int .i64 ess, .int .i64 eac, .int .i64 eas, .int .i64 ep, .int .i64 eg]] Q fun E w' => E = .returned (.bool false) ∧ Only none_ Q w') := fun Q => by
                            have := rf_newer ⟨xk, xv, xd, ⟨xsc, xss⟩, ⟨xac, xas⟩, xp, xg⟩ ⟨ek, ev, ed, ⟨esc, ess⟩, ⟨eac, eas⟩, ep, eg⟩ Q
                            rwa [HNW.out] at this
                          clear HNW
                          go_upto_region 33 with (first
                            | (go_at_call 38; refine (HNE.out _).mono ?_; rintro E w10 ⟨rfl, o10⟩
                               have N10 := Lib.hid (N9.out.keep o10)
                               have E10 := Lib.hid (E9.out.only o10 (fun h => h))
                               clear o10))
                          clear n1 n2 n3 NS NA HNE E9 F9 B9 N9
                          have hkd : decide ((k : Int) < (m : Int)) = true := by simp; omega
                          go_wp2_with fail
                          go_loopw [187, 30] (fun i t Q => ∃ j : Nat, j ≤ m ∧ i = .int .i64 (j : Int) ∧ t = .bool ((l.take j).any (fun y : En => decide (enCheck y = 0) && enAlike y ⟨ek, ev, ed, ⟨esc, ess⟩, ⟨eac, eas⟩, ep, eg⟩)) ∧ N2 w a1 s1 a2 s2 Q ∧ Blk Q gE 50 #[.string ek, .string ev, .bool ed, .int .i64 esc, .int .i64 ess, .int .i64 eac, .int .i64 eas, .int .i64 ep, .int .i64 eg]) (fun i _ _ => m - (intOf i).toNat)
                          case atStart => exact ⟨0, Nat.zero_le _, rfl, rfl, N10.out, E10.out⟩
                          case round =>
                            clear N10 E10
                            obtain ⟨j, hj, rfl, rfl, hN, hE⟩ := hrel
                            have N10 := Lib.hid hN
                            have E10 := Lib.hid hE
                            clear hN hE
                            by_cases hjm : j < m
                            · obtain ⟨y, hy⟩ : ∃ y, l[j]? = some y := ⟨l[j]'(by have := HL.out; omega), List.getElem?_eq_getElem _⟩
                              obtain ⟨b', off', hA', _, _, hcy⟩ := in_elem enRow_length (by decide) HX.out HL.out hy
                              obtain ⟨rfl, rfl⟩ : b = b' ∧ off = off' := by
                                injection hA' with h
                                injection h with h1 h2
                                exact ⟨h1, h2⟩
                              have hji : (j : Int) < (m : Int) := by omega
                              have HAN : Hid ((l.take (j + 1)).any (fun y : En => decide (enCheck y = 0) && enAlike y ⟨ek, ev, ed, ⟨esc, ess⟩, ⟨eac, eas⟩, ep, eg⟩) = ((l.take j).any (fun y : En => decide (enCheck y = 0) && enAlike y ⟨ek, ev, ed, ⟨esc, ess⟩, ⟨eac, eas⟩, ep, eg⟩) || (decide (enCheck y = 0) && enAlike y ⟨ek, ev, ed, ⟨esc, ess⟩, ⟨eac, eas⟩, ep, eg⟩))) := by
                                obtain ⟨h1, h2⟩ := List.getElem?_eq_some_iff.1 hy
                                rw [Hid, List.take_succ_eq_append_getElem h1, List.any_append, h2]
                                simp
                              have HCY : Hid (∀ i u, (#[.string y.k, .string y.v, .bool y.d, .int .i64 y.s.c, .int .i64 y.s.s, .int .i64 y.a.c, .int .i64 y.a.s, .int .i64 y.p, .int .i64 y.g] : Array Value).toList[i]? = some u → wr.cell? ⟨b, off + j * 9 + i, none⟩ = some u) := fun i u hu => hcy wr N10.out.x.ho i u hu
                              have Y4 := Lib.hid (Blk.new wr 50 #[.string y.k, .string y.v, .bool y.d, .int .i64 y.s.c, .int .i64 y.s.s, .int .i64 y.a.c, .int .i64 y.a.s, .int .i64 y.p, .int .i64 y.g])
                              have oy := (Only.refl none_ wr).alloc (.cells #[.string y.k, .string y.v, .bool y.d, .int .i64 y.s.c, .int .i64 y.s.s, .int .i64 y.a.c, .int .i64 y.a.s, .int .i64 y.p, .int .i64 y.g] 50)
                              have N11 := Lib.hid (N10.out.keep oy)
                              have E11 := Lib.hid (E10.out.only oy (fun h => h))
                              have HCK := Lib.hid (fun (Q : World) => rf_check y Q)
                              have HLK := Lib.hid (fun (Q : World) => rf_alike y ⟨ek, ev, ed, ⟨esc, ess⟩, ⟨eac, eas⟩, ep, eg⟩ Q)
                              obtain ⟨ca, hca⟩ : ∃ ca, enCheck y = ca := ⟨_, rfl⟩
                              obtain ⟨al, hal⟩ : ∃ al, enAlike y ⟨ek, ev, ed, ⟨esc, ess⟩, ⟨eac, eas⟩, ep, eg⟩ = al := ⟨_, rfl⟩
                              rw [hca] at HCK HAN
                              rw [hal] at HLK HAN
                              obtain ⟨tt, htt⟩ : ∃ tt, (l.take j).any (fun y : En => decide (enCheck y = 0) && enAlike y ⟨ek, ev, ed, ⟨esc, ess⟩, ⟨eac, eas⟩, ep, eg⟩) = tt := ⟨_, rfl⟩
                              rw [htt] at HAN ⊢
                              clear hy hcy oy hca hal htt hA'
                              obtain ⟨yk, yv, yd, ⟨ysc, yss⟩, ⟨yac, yas⟩, yp, yg⟩ := y
                              try dsimp only at Y4 N11 E11 HCY HCK HLK
                              cases tt with
                              | true =>
                                go_wp2_with (first
                                  | (with_reducible refine wpl_piece rfl 50 _ rfl b (off + j * 9) rfl #[.string yk, .string yv, .bool yd, .int .i64 ysc, .int .i64 yss, .int .i64 yac, .int .i64 yas, .int .i64 yp, .int .i64 yg] _ HCY.out Tryz.underlying50 rfl (by kernel_rfl) ?_)
                                  | (with_reducible refine wpl_new rfl rfl 50 rfl _ _ rfl #[.string yk, .string yv, .bool yd, .int .i64 ysc, .int .i64 yss, .int .i64 yac, .int .i64 yas, .int .i64 yp, .int .i64 yg] rfl rfl (by kernel_rfl) (en_cells_one ⟨yk, yv, yd, ⟨ysc, yss⟩, ⟨yac, yas⟩, yp, yg⟩) ?_))
                                go_roundw
                                case rel => exact ⟨j + 1, by omega, by go_num, by rw [HAN.out]; rfl, N11.out, E11.out⟩
                                case measure => simp [intOf]; omega
                              | false =>
                                have m1 := nine_of Y4.out
                                have m2 := nine_of E11.out
                                by_cases hc0 : ca = 0
                                · subst hc0
                                  have HAN2 : Hid ((l.take (j + 1)).any (fun y : En => decide (enCheck y = 0) && enAlike y ⟨ek, ev, ed, ⟨esc, ess⟩, ⟨eac, eas⟩, ep, eg⟩) = al) := by rw [Hid, HAN.out]; simp
                                  clear HAN
                                  go_wp2_with (first
                                    | (with_reducible refine wpl_piece rfl 50 _ rfl b (off + j * 9) rfl #[.string yk, .string yv, .bool yd, .int .i64 ysc, .int .i64 yss, .int .i64 yac, .int .i64 yas, .int .i64 yp, .int .i64 yg] _ HCY.out Tryz.underlying50 rfl (by kernel_rfl) ?_)
                                    | (with_reducible refine wpl_new rfl rfl 50 rfl _ _ rfl #[.string yk, .string yv, .bool yd, .int .i64 ysc, .int .i64 yss, .int .i64 yac, .int .i64 yas, .int .i64 yp, .int .i64 yg] rfl rfl (by kernel_rfl) (en_cells_one ⟨yk, yv, yd, ⟨ysc, yss⟩, ⟨yac, yas⟩, yp, yg⟩) ?_)
                                    | (go_at_call 37; refine (HCK.out _).mono ?_; rintro E w12 ⟨rfl, o12⟩
                                       have N12 := Lib.hid (N11.out.keep o12)
                                       have E12 := Lib.hid (E11.out.only o12 (fun h => h))
                                       have Y12 := Lib.hid (Y4.out.only o12 (fun h => h))
                                       have m3 := nine_of Y12.out
                                       have m4 := nine_of E12.out
                                       clear o12)
                                    | (go_at_call 39; refine (HLK.out _).mono ?_; rintro E w13 ⟨rfl, o13⟩
                                       have N13 := Lib.hid (N12.out.keep o13)
                                       have E13 := Lib.hid (E12.out.only o13 (fun h => h))
                                       clear o13))
                                  go_roundw
                                  case rel => exact ⟨j + 1, by omega, by go_num, by rw [HAN2.out], N13.out, E13.out⟩
                                  case measure => simp [intOf]; omega
                                · have HAN2 : Hid ((l.take (j + 1)).any (fun y : En => decide (enCheck y = 0) && enAlike y ⟨ek, ev, ed, ⟨esc, ess⟩, ⟨eac, eas⟩, ep, eg⟩) = false) := by rw [Hid, HAN.out, decide_eq_false hc0]; rfl
                                  have hcb : (ca == 0) = false := by simpa using hc0
                                  have hcd : ¬ (ca = 0) := hc0
                                  clear HAN
                                  go_wp2_with (first
                                    | (with_reducible refine wpl_piece rfl 50 _ rfl b (off + j * 9) rfl #[.string yk, .string yv, .bool yd, .int .i64 ysc, .int .i64 yss, .int .i64 yac, .int .i64 yas, .int .i64 yp, .int .i64 yg] _ HCY.out Tryz.underlying50 rfl (by kernel_rfl) ?_)
                                    | (with_reducible refine wpl_new rfl rfl 50 rfl _ _ rfl #[.string yk, .string yv, .bool yd, .int .i64 ysc, .int .i64 yss, .int .i64 yac, .int .i64 yas, .int .i64 yp, .int .i64 yg] rfl rfl (by kernel_rfl) (en_cells_one ⟨yk, yv, yd, ⟨ysc, yss⟩, ⟨yac, yas⟩, yp, yg⟩) ?_)
                                    | (go_at_call 37; refine (HCK.out _).mono ?_; rintro E w12 ⟨rfl, o12⟩
                                       have N12 := Lib.hid (N11.out.keep o12)
                                       have E12 := Lib.hid (E11.out.only o12 (fun h => h))
                                       clear o12))
                                  go_roundw
                                  case rel => exact ⟨j + 1, by omega, by go_num, by rw [HAN2.out], N12.out, E12.out⟩
                                  case measure => simp [intOf]; omega
                            · obtain rfl : j = m := by omega
                              have hjd : decide ((j : Int) < (j : Int)) = false := by simp
                              have HT : Hid ((l.take j).any (fun y : En => decide (enCheck y = 0) && enAlike y ⟨ek, ev, ed, ⟨esc, ess⟩, ⟨eac, eas⟩, ep, eg⟩) = true) := by
                                rw [Hid, List.take_of_length_le (by have := HL.out; omega), List.any_eq_true]
                                obtain ⟨y, h1, h2, h3⟩ := HAL.out
                                exact ⟨y, h1, by simp [h2, h3]⟩
                              rw [HT.out]
                              go_wp2_with fail
                              go_roundw
                              case rel => exact ⟨k + 1, by omega, by go_num, N10.out⟩
                              case measure => simp [intOf]; omega
                    · obtain ⟨z, hzz⟩ : ∃ z, enCheck x = z := ⟨_, rfl⟩
                      rw [hzz] at HCK hz
                      have hzb : (z != 0) = true := by simpa using hz
                      clear hz hzz
                      go_wp2_with (first
                        | (with_reducible refine wpl_piece rfl 50 _ rfl b (off + k * 9) rfl #[.string x.k, .string x.v, .bool x.d, .int .i64 x.s.c, .int .i64 x.s.s, .int .i64 x.a.c, .int .i64 x.a.s, .int .i64 x.p, .int .i64 x.g] _ HCW.out Tryz.underlying50 rfl (by kernel_rfl) ?_)
                        | (with_reducible refine wpl_new rfl rfl 50 rfl _ _ rfl #[.string x.k, .string x.v, .bool x.d, .int .i64 x.s.c, .int .i64 x.s.s, .int .i64 x.a.c, .int .i64 x.a.s, .int .i64 x.p, .int .i64 x.g] rfl rfl (by kernel_rfl) ONE1.out ?_)
                        | (with_reducible refine wpl_load rfl 50 _ rfl wr.heap.size rfl _ #[.string x.k, .string x.v, .bool x.d, .int .i64 x.s.c, .int .i64 x.s.s, .int .i64 x.a.c, .int .i64 x.a.s, .int .i64 x.p, .int .i64 x.g] _ BX.out Tryz.underlying50 rfl (by kernel_rfl) ?_)
                        | (go_at_call 37; refine (HCK.out _).mono ?_; rintro E w5 ⟨rfl, o5⟩
                           have N5 := Lib.hid (N2'.out.keep o5)
                           clear o5))
                      go_roundw
                      case rel => exact ⟨k + 1, by omega, by go_num, N5.out⟩
                      case measure => simp [intOf]; omega
                  · obtain rfl : k = m := by omega
                    as_aux_lemma =>
                      obtain ⟨M, hM⟩ : ∃ M, s1.tab.length = M := ⟨_, rfl⟩
                      have HM2 : Hid (s2.tab.length = M) := HLN.out.symm.trans hM
                      have HEN1 : Hid (∀ Q, Only none_ wr Q → Calls Tryz.prog 40 #[.pointer (some ⟨r1, 6, none⟩)] Q fun E w' => ∃ v', E = .returned v' ∧ w'.ownsRow Q.heap.size 82 9 v' M (s1.tab.flatMap enRow) ∧ Only none_ Q w') := fun Q oQ => by
                        have := ct_entries w a1 s1 Q (N1.out.x.keep oQ)
                        rw [hM, Q0.out.1] at this
                        exact this
                      have HEN2 : Hid (∀ Q, Only none_ wr Q → Calls Tryz.prog 40 #[.pointer (some ⟨r2, 6, none⟩)] Q fun E w' => ∃ v', E = .returned v' ∧ w'.ownsRow Q.heap.size 82 9 v' M (s2.tab.flatMap enRow) ∧ Only none_ Q w') := fun Q oQ => by
                        have := ct_entries w a2 s2 Q (N1.out.y.keep oQ)
                        rw [HM2.out, Q0.out.2] at this
                        exact this
                      have p1 := Lib.hid N1.out.x.ho
                      clear hM HM2 HBO HLN N1
                      go_upto_region 42 with fail
                      (refine wp_region_free (fun Q => Only none_ wr Q) (Only none_) (F := ?_) (by kernel_rfl) 217 (by rfl) (by kernel_rfl) (fun x => ?_) ((Only.refl none_ wr).drew) ?_; rotate_left; (· (simp only [putsL, Act.put, List.setIfInBounds_toArray, List.set_cons_zero, List.set_cons_succ, Nat.reduceAdd]; exact rfl)))
                      repeat (first | ((first | refine fr_value (c := ?_) (by rfl) (fun w => Only.refl none_ w) (fun x w0 hS hk => ?_) ?_ | refine fr_value_if (c := ?_) (by rfl) (by rfl) (by rfl) (fun w => Only.refl none_ w) (fun x w0 hS hk => ?_) ?_); rotate_left; (· (have hk2 := hk; (try simp [knAll, Region.binds] at hk2); skip; go_simp; try (with_reducible rfl))); try simp only [List.nil_append, List.cons_append]))
                      ((first | refine fr_some (fun v _ => ∃ A c, v = .slice A M c) (fun _ _ _ _ _ _ h => h) (by rfl) (fun x w0 hS hk => ?_) ?_ | refine fr_some_if (fun v _ => ∃ A c, v = .slice A M c) (fun _ _ _ _ _ _ h => h) (by rfl) (by rfl) (by rfl) (fun x w0 hS hk => ?_) ?_); (· (have hk2 := hk; (try simp [knAll, Region.binds] at hk2); skip; refine got_call (f := 40) (args := ?_) (by go_simp; try (with_reducible rfl)) ?_; refine (HEN1.out _ hS).mono ?_; rintro e w8 ⟨v8, rfl, own8, o8⟩; obtain ⟨A8, n8, c8, rfl⟩ := own_shape own8; obtain rfl : M = n8 := (own_count own8).symm; exact ⟨_, rfl, ⟨A8, c8, rfl⟩, hS.trans o8, o8⟩)); try simp only [List.nil_append, List.cons_append])
                      ((first | refine fr_value (c := ?_) (by rfl) (fun w => Only.refl none_ w) (fun x w0 hS hk => ?_) ?_ | refine fr_value_if (c := ?_) (by rfl) (by rfl) (by rfl) (fun w => Only.refl none_ w) (fun x w0 hS hk => ?_) ?_); rotate_left; (· (have hk2 := hk; (try simp [knAll, Region.binds] at hk2); obtain ⟨A1, c1, e1⟩ := kn_at (j := 3) (by rfl) hk (by rfl); simp only [e1]; go_simp; try (with_reducible rfl))); try simp only [List.nil_append, List.cons_append])
                      repeat (first | ((first | refine fr_value (c := ?_) (by rfl) (fun w => Only.refl none_ w) (fun x w0 hS hk => ?_) ?_ | refine fr_value_if (c := ?_) (by rfl) (by rfl) (by rfl) (fun w => Only.refl none_ w) (fun x w0 hS hk => ?_) ?_); rotate_left; (· (have hk2 := hk; (try simp [knAll, Region.binds] at hk2); skip; go_simp; try (with_reducible rfl))); try simp only [List.nil_append, List.cons_append]))
                      ((first | refine fr_some (fun v _ => ∃ A c, v = .slice A M c) (fun _ _ _ _ _ _ h => h) (by rfl) (fun x w0 hS hk => ?_) ?_ | refine fr_some_if (fun v _ => ∃ A c, v = .slice A M c) (fun _ _ _ _ _ _ h => h) (by rfl) (by rfl) (by rfl) (fun x w0 hS hk => ?_) ?_); (· (have hk2 := hk; (try simp [knAll, Region.binds] at hk2); skip; refine got_call (f := 40) (args := ?_) (by go_simp; try (with_reducible rfl)) ?_; refine (HEN2.out _ hS).mono ?_; rintro e w8 ⟨v8, rfl, own8, o8⟩; obtain ⟨A8, n8, c8, rfl⟩ := own_shape own8; obtain rfl : M = n8 := (own_count own8).symm; exact ⟨_, rfl, ⟨A8, c8, rfl⟩, hS.trans o8, o8⟩)); try simp only [List.nil_append, List.cons_append])
                      ((first | refine fr_value (c := ?_) (by rfl) (fun w => Only.refl none_ w) (fun x w0 hS hk => ?_) ?_ | refine fr_value_if (c := ?_) (by rfl) (by rfl) (by rfl) (fun w => Only.refl none_ w) (fun x w0 hS hk => ?_) ?_); rotate_left; (· (have hk2 := hk; (try simp [knAll, Region.binds] at hk2); obtain ⟨A1, c1, e1⟩ := kn_at (j := 8) (by rfl) hk (by rfl); simp only [e1]; go_simp; try (with_reducible rfl))); try simp only [List.nil_append, List.cons_append])
                      repeat (first | ((first | refine fr_value (c := ?_) (by rfl) (fun w => Only.refl none_ w) (fun x w0 hS hk => ?_) ?_ | refine fr_value_if (c := ?_) (by rfl) (by rfl) (by rfl) (fun w => Only.refl none_ w) (fun x w0 hS hk => ?_) ?_); rotate_left; (· (have hk2 := hk; (try simp [knAll, Region.binds] at hk2); skip; go_simp; try (with_reducible rfl))); try simp only [List.nil_append, List.cons_append]))
                      (refine fr_end ?_; intro x w9 hS hk)
                      have e11 := kn_end_at 11 hk (by rfl)
                      rw [Nat.zero_add] at e11
                      clear hk
                      rw [e11]
                      go_wp2_with fail
                      go_ret
                      exact ⟨rfl, p1.out.trans hS⟩
end Go.Proofs.YtoohpcomnhfgpaaGreat
end
