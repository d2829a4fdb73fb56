/- What ReplicaStamps comes to. No statement of the seat is proved here. -/
import Derived.Test.YtoinpdeikibgmaaGreatRk19
import Derived.Test.YtoinpdeikibgmaaGreatRk18
import Derived.Test.YtoinpdeikibgmaaGreatRk20
import Derived.Test.YtoinpdeikibgmaaGreatRk1
import Derived.Test.YtoinpdeikibgmaaGreatRk2
import Derived.LoopTactic
import Derived.Deep.DeepCutAuto
section
namespace Go.Proofs.YtoinpdeikibgmaaGreat
open Go.RowKit
set_option maxRecDepth 100000
set_option linter.all false
section
variable {log : List En} {s : Rs} {x : En}
theorem Wf.wrw (h : Wf log s) (hl : log.length ≤ 60) {k : ByteArray} (hk : x.k = k) (ha : x.a.c = s.c + 1) (hc : s.c < 4294967295 → enCheck x = 0) :
    (∃ z, z ≠ 0 ∧ wrR s k x = (s, enZero, z)) ∨ (s.c < 4294967295 ∧ wrR s k x = (downS { s with c := s.c + 1 } x, x, 0) ∧ Dn log { s with c := s.c + 1 } x (downS { s with c := s.c + 1 } x) ∧ (hasK s.own k = true ∨ (s.own.length : Int) < s.o.q)) := by
  unfold wrR
  by_cases hb : ((!hasK s.own k && decide (s.o.q ≤ (s.own.length : Int))) || fullM s.o s.tab k) = true
  · rw [if_pos hb]
    exact .inl ⟨7, by decide, rfl⟩
  · rw [if_neg hb]
    unfold nxR
    by_cases hcc : s.c = 4294967295
    · rw [if_pos hcc]
      exact .inl ⟨8, by decide, rfl⟩
    · rw [if_neg hcc]
      have hcl : s.c < 4294967295 := by have := h.c; omega
      have hb2 : (hasK s.own k = true ∨ (s.own.length : Int) < s.o.q) ∧ fullM s.o s.tab k = false := by
        simp only [Bool.or_eq_true, Bool.and_eq_true, Bool.not_eq_true', decide_eq_true_eq, not_or, not_and] at hb
        refine ⟨?_, by simpa using hb.2⟩
        cases hh : hasK s.own k with
        | true => exact .inl rfl
        | false => exact .inr (by have := hb.1 hh; omega)
      obtain ⟨d1, d2⟩ := (h.next hcl).down (x := x) hl (hc hcl) (by show x.a.c ≤ s.c + 1; omega) (by rw [hk]; exact hb2.2)
      exact .inr ⟨hcl, d1, d2, hb2.1⟩
theorem Wf.ptw (h : Wf log s) (hl : log.length ≤ 60) (k v : ByteArray) :
    (∃ z, z ≠ 0 ∧ putRs s k v = (s, enZero, z)) ∨ (s.c < 4294967295 ∧ putRs s k v = (downS { s with c := s.c + 1 } (putE k v ⟨s.c + 1, s.site⟩), putE k v ⟨s.c + 1, s.site⟩, 0) ∧ Dn log { s with c := s.c + 1 } (putE k v ⟨s.c + 1, s.site⟩) (downS { s with c := s.c + 1 } (putE k v ⟨s.c + 1, s.site⟩)) ∧ (hasK s.own k = true ∨ (s.own.length : Int) < s.o.q)) := by
  unfold putRs
  by_cases hc : enCheck (putE k v ⟨1, s.site⟩) = 0
  · rw [if_neg (fun e => e hc)]
    exact h.wrw hl (x := putE k v ⟨s.c + 1, s.site⟩) rfl rfl fun hlt => (put_check k v (good_next h.site h.c.1 hlt) (good_one h.site)).trans hc
  · rw [if_pos hc]
    exact .inl ⟨_, hc, rfl⟩
theorem Wf.dlw (h : Wf log s) (hl : log.length ≤ 60) (k : ByteArray) :
    (∃ z, z ≠ 0 ∧ delRs s k = (s, enZero, z)) ∨ (s.c < 4294967295 ∧ liveM s.tab k = true ∧ ∃ x, x = delE k ⟨s.c + 1, s.site⟩ (enKeepers s.site s.o.r s.o.n) ∧ delRs s k = (downS { s with c := s.c + 1 } x, x, 0) ∧ Dn log { s with c := s.c + 1 } x (downS { s with c := s.c + 1 } x) ∧ (hasK s.own k = true ∨ (s.own.length : Int) < s.o.q)) := by
  have ho := ro_ok h.o
  have hp := keepers_ok ho.1 h.si ho.2.2.1
  unfold delRs
  by_cases hc : enCheck (delE k ⟨1, s.site⟩ (enKeepers s.site s.o.r s.o.n)) = 0
  · rw [if_neg (fun e => e hc)]
    cases hv : liveM s.tab k with
    | false => rw [if_pos rfl]; exact .inl ⟨3, by decide, rfl⟩
    | true =>
      rw [if_neg (by decide)]
      rcases h.wrw hl (x := delE k ⟨s.c + 1, s.site⟩ (enKeepers s.site s.o.r s.o.n)) (k := k) rfl rfl (fun hlt => by
        rw [del_put k (good_next h.site h.c.1 hlt) hp, put_check k ⟨#[]⟩ (good_next h.site h.c.1 hlt) (good_one h.site)]
        rwa [del_put k (good_one h.site) hp] at hc) with h1 | ⟨h1, h2, h3, h4⟩
      · exact .inl h1
      · exact .inr ⟨h1, rfl, _, rfl, h2, h3, h4⟩
  · rw [if_pos hc]
    exact .inl ⟨_, hc, rfl⟩
end
end Go.Proofs.YtoinpdeikibgmaaGreat
end
section
namespace Go.Proofs.YtoinpdeikibgmaaGreat
open Go.RowKit
set_option maxRecDepth 100000
set_option linter.all false
section
variable {keys keys' : List ByteArray} {last last' : Int} {log : List En} {s s1 s' : Rs} {x : En}
theorem young_keys {o : Ro} {l : List En} {x : En} : ∀ e ∈ youngM o l x, ∃ y ∈ l, y.k = e.k := by
  intro e he
  unfold youngM at he
  split at he
  · exact ⟨e, he, rfl⟩
  · next was hw =>
    split at he
    · rcases mem_set he with rfl | ⟨h1, _⟩
      · exact ⟨was, (look_some hw).1, rfl⟩
      · exact ⟨e, h1, rfl⟩
    · exact ⟨e, he, rfl⟩
theorem tick_keys (h : Wf log s) : ∀ e ∈ (tickS s).tab, ∃ y ∈ s.tab, y.k = e.k := by
  have := congrArg Rm.tab h.tick.2.1
  have e1 : (toM (tickS s) log).tab = (tickS s).tab := rfl
  rw [e1] at this
  rw [this]
  intro e he
  unfold tickR at he
  split at he
  · exact ⟨e, he, rfl⟩
  · obtain ⟨y, hy, rfl⟩ := List.mem_map.1 he
    refine ⟨y, (List.mem_filter.1 hy).1, ?_⟩
    unfold oldM
    split <;> rfl
theorem tick_c (h : Wf log s) : (tickS s).c = s.c := by
  have := congrArg Rm.c h.tick.2.1
  have e1 : (toM (tickS s) log).c = (tickS s).c := rfl
  rw [e1] at this
  rw [this]
  unfold tickR
  split <;> rfl
end
end Go.Proofs.YtoinpdeikibgmaaGreat
end
section
namespace Go.Proofs.YtoinpdeikibgmaaGreat
open Go.RowKit
set_option maxRecDepth 100000
set_option linter.all false

theorem st_neq (c : Int) (h : 1 ≤ c) (w : World) : (Op.equalIn 10000 80 (.agg #[.int .i64 c, .int .i64 0]) (.agg #[.int .i64 0, .int .i64 0])).run Tryz.prog w = .ok false w := by
  have := eq_api_stamp w ⟨c, 0⟩ ⟨0, 0⟩ 9998
  have e : stEq (⟨c, 0⟩ : St) ⟨0, 0⟩ = false := by
    cases hh : stEq (⟨c, 0⟩ : St) ⟨0, 0⟩ with
    | false => rfl
    | true => have := (stEq_iff _ _).1 hh; injection this with h1; omega
  rw [e] at this
  exact this
theorem st_zero (w : World) : (Op.equalIn 10000 80 (.agg #[.int .i64 0, .int .i64 0]) (.agg #[.int .i64 0, .int .i64 0])).run Tryz.prog w = .ok true w := eq_api_stamp w ⟨0, 0⟩ ⟨0, 0⟩ 9998
theorem stGood_zero {c : Int} (h1 : 1 ≤ c) (h2 : c ≤ 4294967295) : stGood ⟨c, 0⟩ = true := by
  simp [stGood, stSite]; omega

set_option maxHeartbeats 51200000 in
theorem rp_stamps (o : Ro) (v : Value) (l : List Pa) (S : Nat → Prop) (w : World) (hx : Cel w S v l.length 12 (l.flatMap paRow)) :
    Calls Tryz.prog 7 #[.agg #[.int .i64 o.n, .int .i64 o.q, .int .i64 o.r, .int .i64 o.t1, .int .i64 o.t2], v] w fun E w' => E = .returned (.bool true) ∧ Only none_ w w' := by
  have HSP := Lib.hid (fun (X : World) => rp_speaks X)
  have HFW : Hid (∀ X, Only none_ w X → Calls Tryz.prog 13 #[v, .int .i64 50] X fun E w' => E = .returned (.bool (l.all paShort && decide (l.length ≤ 50))) ∧ Only none_ X w') :=
    fun X ho => rp_few v l 50 X S (hx.only ho (fun _ _ h => h))
  have HCK := Lib.hid (fun (X : World) => rd_check o X)
  have BX := Lib.hid (Blk.new w 23 #[.int .i64 o.n, .int .i64 o.q, .int .i64 o.r, .int .i64 o.t1, .int .i64 o.t2])
  have O0 := Lib.hid ((Only.refl none_ w).alloc (.cells #[.int .i64 o.n, .int .i64 o.q, .int .i64 o.r, .int .i64 o.t1, .int .i64 o.t2] 23))
  obtain ⟨A, c, rfl, _, h2, h3, _, _⟩ := id hx
  have HX := Lib.hid hx
  obtain ⟨L, hL⟩ : ∃ L, l.length = L := ⟨_, rfl⟩
  have HL := Lib.hid hL
  rw [hL] at HX HFW h2 ⊢
  have hLm : L ≤ 9223372036854775807 := by simp only [maxLen] at h3; omega
  obtain ⟨fw, hfw⟩ : ∃ fw, (l.all paShort && decide (L ≤ 50)) = fw := ⟨_, rfl⟩
  have hL50 : fw = true → L ≤ 50 := by intro e; rw [e] at hfw; simp at hfw; exact hfw.2
  rw [hfw] at HFW
  clear hx hL h2 h3 hfw
  cases fw with
  | false =>
    clear HX HL HCK BX hL50
    go_enter Tryz.func7, Tryz.ntmps7
    have tok1 : True := trivial
    go_wp2_with (first
      | (go_at_call 12; have _t := tok1; clear tok1; refine (HSP.out _).mono ?_; rintro E w1 ⟨rfl, o1⟩; have O1 := Lib.hid (O0.out.trans o1); clear o1; have tok2 : True := trivial)
      | (go_at_call 13; refine (HFW.out _ O1.out).mono ?_; rintro E w2 ⟨rfl, o2⟩; have O2 := Lib.hid (O1.out.trans o2); clear o2)
      | (go_at_call 12; have _t := tok2; clear tok2; refine (HSP.out _).mono ?_; rintro E w9 ⟨rfl, o9⟩; have O9 := Lib.hid (O2.out.trans o9); clear o9))
    go_ret
    exact ⟨rfl, O9.out⟩
  | true =>
    have hL50' := hL50 rfl
    clear hL50
    obtain ⟨ck, hck⟩ : ∃ ck, roCheck o = ck := ⟨_, rfl⟩
    rw [hck] at HCK
    by_cases hc0 : ck = 0
    · subst hc0
      have hob : roBad o = false := by
        unfold roCheck at hck
        split at hck
        · cases hck
        · next h => simpa using h
      have HOB := Lib.hid hob
      have HDN := Lib.hid (fun (B X : World) (ho : Only none_ B X) => disk_new B X ho)
      have HRO := Lib.hid (fun (X : World) => rp_of o X)
      have HRM := Lib.hid (fun (X : World) => rd_room o X (by have := ro_room hob; omega))
      clear hck
      go_enter Tryz.func7, Tryz.ntmps7
      go_upto_region 1 with fail
      obtain ⟨B, hB⟩ : ∃ B, w.alloc (.cells #[.int .i64 o.n, .int .i64 o.q, .int .i64 o.r, .int .i64 o.t1, .int .i64 o.t2] 23) = B := ⟨_, rfl⟩
      rw [hB] at BX O0 ⊢
      clear hB
      generalize hg2 : w.heap.size = g2 at *
      have tok1 : True := trivial
      go_upto_region 9 with (first
        | (go_at_call 12; refine (HSP.out _).mono ?_; rintro E w1 ⟨rfl, o1⟩; have P1 := Lib.hid o1; clear o1)
        | (go_at_call 13; refine (HFW.out _ (O0.out.trans P1.out)).mono ?_; rintro E w2 ⟨rfl, o2⟩; have P2 := Lib.hid (P1.out.trans o2); have B2 := Lib.hid (BX.out.only P2.out (fun h => h)); clear o2)
        | (refine wpl_load_if (by rfl) 23 _ rfl g2 rfl 23 #[.int .i64 o.n, .int .i64 o.q, .int .i64 o.r, .int .i64 o.t1, .int .i64 o.t2] _ B2.out Tryz.underlying23 rfl (by kernel_rfl) ?_)
        | (go_at_call 19; refine (HCK.out _).mono ?_; rintro E w3 ⟨rfl, o3⟩; have P3 := Lib.hid (P2.out.trans o3); clear o3)
        | (go_at_call 14; refine (HDN.out B _ P3.out).mono ?_; rintro E w4 ⟨dg, rfl, hdg, hd, o4⟩
           have P4 := Lib.hid (P3.out.trans o4)
           have B4 := Lib.hid (BX.out.only P4.out (fun h => h))
           have D4 := Lib.hid hd
           clear hdg hd o4)
        | (refine wpl_load rfl 23 _ rfl g2 rfl 23 #[.int .i64 o.n, .int .i64 o.q, .int .i64 o.r, .int .i64 o.t1, .int .i64 o.t2] _ B4.out Tryz.underlying23 rfl (by kernel_rfl) ?_)
        | (go_at_call 16; refine (HRO.out _).mono ?_; rintro E w5 ⟨rfl, o5⟩
           have D5 := Lib.hid (D4.out.keep o5)
           clear o5)
        | (go_at_call 15; refine (rq_first HOB.out D5.out).mono ?_; rintro E w6 ⟨a0, r0, rfl, q6, _, _⟩
           have Q6 := Lib.hid q6
           clear q6))
      clear P1 P2 B2 P3 P4 B4 D4 D5 HFW HCK HDN
      have BO : Hid (∀ X, Only none_ B X → Blk X g2 23 #[.int .i64 o.n, .int .i64 o.q, .int .i64 o.r, .int .i64 o.t1, .int .i64 o.t2]) := fun X ho => BX.out.only ho (fun h => h)
      clear BX
      go_wp2_with fail
      go_loopw [6, 8, 9, 51] (fun v6 v8 v9 i X => ∃ (k r : Nat) (last : Int) (a : Ra) (s : Rs) (log : List En) (keys : List ByteArray) (Ak : Option Addr) (nk ck : Nat), k ≤ L ∧ i = .int .i64 (k : Int) ∧ v6 = .pointer (some ⟨r, 0, none⟩) ∧ v8 = .int .i64 last ∧ v9 = .slice Ak nk ck ∧ Rq B o dg a s log r k X ∧ Ks B a (.slice Ak nk ck) keys X ∧ Kn keys log s ∧ La last log s ∧ keys.length ≤ k) (fun _ _ _ i _ => L - (intOf i).toNat)
      case atStart => exact ⟨0, r0, 0, a0, _, [], [], none, 0, 0, Nat.zero_le _, rfl, rfl, rfl, rfl, Q6.out, Ks.nil _ _ _, ⟨fun e he => (by cases he), fun e he => (by cases he)⟩, ⟨Int.le_refl _, Int.le_refl _, .inl rfl⟩, Nat.le_refl _⟩
      case round =>
        obtain ⟨k, r, last, a, s, log, keys, Ak, nk, ck, hk, rfl, rfl, rfl, rfl, hq, hks, hkn, hla, hkl⟩ := hrel
        have HQ := Lib.hid hq
        have HKS := Lib.hid hks
        have HKN := Lib.hid hkn
        have HLA := Lib.hid hla
        clear hq hks hkn hla Q6
        by_cases hlt : k < L
        · obtain ⟨p, hp⟩ : ∃ p, l[k]? = some p := ⟨l[k]'(by have := HL.out; omega), List.getElem?_eq_getElem _⟩
          obtain ⟨b, off, hA, _, hbb, hc⟩ := in_elem paRow_length (by decide) HX.out HL.out hp
          subst hA
          have HC : Hid (∀ j u, (paA p).toList[j]? = some u → wr.cell? ⟨b, off + k * 12 + j, none⟩ = some u) := fun j u hu => hc _ (O0.out.trans HQ.out.p.ho) j u hu
          have hki : (k : Int) < (L : Int) := by omega
          clear hc hp hbb
          go_upto_region 13 with (first
            | (refine wpl_piece rfl 52 _ rfl b (off + k * 12) rfl (paA p) _ HC.out Tryz.underlying52 rfl (by kernel_rfl) ?_)
            | (refine wpl_new rfl rfl 52 rfl _ _ rfl (paA p) rfl rfl (by kernel_rfl) (pa_one p) ?_))
          have oa := (Only.refl none_ wr).alloc (.cells (paA p) 52)
          have ob := (Only.refl none_ (wr.alloc (.cells (paA p) 52))).alloc (.cells #[.int .i64 0, .int .i64 0] 80)
          have R1 := Lib.hid ((HQ.out.keep oa).keep ob)
          have K1 := Lib.hid ((HKS.out.keep oa).keep ob)
          have A1 : Hid (Bn a wr.heap.size 52 (paA p) ((wr.alloc (.cells (paA p) 52)).alloc (.cells #[.int .i64 0, .int .i64 0] 80))) := (Bn.new HQ.out.p).keep ob
          have T1 : Hid (Bn a (wr.heap.size + 1) 80 #[.int .i64 0, .int .i64 0] ((wr.alloc (.cells (paA p) 52)).alloc (.cells #[.int .i64 0, .int .i64 0] 80))) := by
            have := Bn.new (t := 80) (cs := #[.int .i64 0, .int .i64 0]) (HQ.out.keep oa).p
            rwa [World.size_alloc] at this
          have hn1 : Hid (B.heap.size ≤ wr.heap.size ∧ wr.heap.size ≠ wr.heap.size + 1) := ⟨HQ.out.p.ho.size, by omega⟩
          generalize (wr.alloc (.cells (paA p) 52)).alloc _ = W1 at *
          generalize hn2 : wr.heap.size + 1 = n2 at *
          generalize wr.heap.size = n1 at *
          have hB2 : Hid (B.heap.size ≤ n2) := by have := hn1.out.1; simp only [Hid]; omega
          clear oa ob HQ HKS HC hn2
          have hm60 : k ≤ 60 := by omega
          obtain ⟨pk, pu, pv, pe⟩ := p
          have q0 := A1.out.b.cell_ (i := 0) rfl
          have q1 := A1.out.b.cell_ (i := 1) rfl
          have q2 := A1.out.b.cell_ (i := 2) rfl
          have q3 := A1.out.b.cell_ (i := 3) rfl
          try dsimp only at q0 q1 q2 q3
          by_cases hk0 : pk = 0
          · skip
            have k0b : (pk == 0) = true := by simp [hk0]
            clear hk0
            have hwz := st_zero
            rcases R1.out.wf.ptw (by have := R1.out.n; omega) pu pv with ⟨z, hz, hpe⟩ | ⟨hcl, hpe, d, _⟩
            · obtain ⟨x, hxx⟩ : ∃ x, enZero = x := ⟨_, rfl⟩
              rw [hxx] at hpe
              have hzb : (z == 0) = false := by simpa using hz
              have HP := Lib.hid (R1.out.put hm60 hpe R1.out.wf (Nat.le_trans R1.out.n (Nat.le_succ k)))
              clear hpe hxx hz
              go_wp2_with (first
                | (go_at_call 44; refine (HP.out).mono ?_; rintro E w5 ⟨rfl, a5, r5, ol5⟩
                   have ox := (Only.refl none_ w5).alloc (.cells #[.string x.k, .string x.v, .bool x.d, .int .i64 x.s.c, .int .i64 x.s.s, .int .i64 x.a.c, .int .i64 x.a.s, .int .i64 x.p, .int .i64 x.g] 82)
                   have R5 := Lib.hid (r5.keep ox)
                   have T5 := Lib.hid ((ol5.bn T1.out).keep ox)
                   have A5 := Lib.hid ((ol5.bn A1.out).keep ox)
                   have K5 := Lib.hid ((ol5.ks K1.out).keep ox)
                   have X5 : Hid (Bn a5 w5.heap.size 82 #[.string x.k, .string x.v, .bool x.d, .int .i64 x.s.c, .int .i64 x.s.s, .int .i64 x.a.c, .int .i64 x.a.s, .int .i64 x.p, .int .i64 x.g] (w5.alloc (.cells #[.string x.k, .string x.v, .bool x.d, .int .i64 x.s.c, .int .i64 x.s.s, .int .i64 x.a.c, .int .i64 x.a.s, .int .i64 x.p, .int .i64 x.g] 82))) := Bn.new r5.p
                   have n5 : Hid (n1 ≠ w5.heap.size ∧ n2 ≠ w5.heap.size) := ⟨by have := (ol5.bn A1.out).b.lt; omega, by have := (ol5.bn T1.out).b.lt; omega⟩
                   have y1 := A5.out.b.cell_ (i := 1) rfl
                   try dsimp only at y1
                   clear r5 ol5 ox)
                | (with_reducible refine wpl_new rfl rfl 82 rfl _ _ rfl #[.string x.k, .string x.v, .bool x.d, .int .i64 x.s.c, .int .i64 x.s.s, .int .i64 x.a.c, .int .i64 x.a.s, .int .i64 x.p, .int .i64 x.g] rfl rfl (by kernel_rfl) (en_cells_one x) ?_)
                | (with_reducible refine wpl_load rfl 80 _ rfl n2 rfl 80 #[.int .i64 0, .int .i64 0] _ T5.out.b Tryz.underlying80 rfl (by kernel_rfl) ?_))
              go_roundw
              case rel => exact ⟨k + 1, r, last, _, _, _, _, Ak, nk, ck, by omega, by go_num, rfl, rfl, rfl, R5.out, K5.out, HKN.out, HLA.out, by omega⟩
              case measure => simp [intOf]; omega
            · obtain ⟨x, hxx⟩ : ∃ x, putE pu pv ⟨s.c + 1, s.site⟩ = x := ⟨_, rfl⟩
              obtain ⟨c1, hc1⟩ : ∃ c1, s.c + 1 = c1 := ⟨_, rfl⟩
              have hxs : Hid (x.s = ⟨c1, 0⟩ ∧ x.a = ⟨c1, 0⟩ ∧ x.k = pu) := by rw [← hxx, ← hc1, R1.out.hs]; exact ⟨rfl, rfl, rfl⟩
              rw [hxx] at hpe d
              have hlast : last < c1 := by have := HLA.out.lc; omega
              have hc11 : 1 ≤ c1 := by have := HLA.out.l0; omega
              have hc12 : c1 ≤ 4294967295 := by omega
              have HG : Hid (stGood ⟨c1, 0⟩ = true) := stGood_zero hc11 hc12
              have hsn := st_neq c1 hc11
              have HP := Lib.hid (R1.out.put hm60 hpe d.wf (m' := k + 1) (by have := R1.out.n; rw [List.length_append]; simp only [List.length_cons, List.length_nil]; omega))
              have HKN2 : Hid (Kn (notedL keys pu) (log ++ [x]) _) := HKN.out.dn d rfl noted_sub.1 (by rw [hxs.out.2.2]; exact noted_sub.2.1)
              have HLA2 : Hid (La c1 (log ++ [x]) _) := HLA.out.dn d (by omega) (by show c1 ≤ s.c + 1; omega) (.inr (by rw [hxs.out.2.1]; exact Int.le_refl _))
              have hkl2 : (notedL keys pu).length ≤ k + 1 := by have := (noted_sub (keys := keys) (k := pu)).2.2; omega
              clear hpe hxx hwz hc1 hcl d
              go_wp2_with (first
                | (go_at_call 44; refine (HP.out).mono ?_; rintro E w5 ⟨rfl, a5, r5, ol5⟩
                   have ox := (Only.refl none_ w5).alloc (.cells #[.string x.k, .string x.v, .bool x.d, .int .i64 x.s.c, .int .i64 x.s.s, .int .i64 x.a.c, .int .i64 x.a.s, .int .i64 x.p, .int .i64 x.g] 82)
                   have R5 := Lib.hid (r5.keep ox)
                   have T5 := Lib.hid ((ol5.bn T1.out).keep ox)
                   have A5 := Lib.hid ((ol5.bn A1.out).keep ox)
                   have K5 := Lib.hid ((ol5.ks K1.out).keep ox)
                   have X5 : Hid (Bn a5 w5.heap.size 82 #[.string x.k, .string x.v, .bool x.d, .int .i64 x.s.c, .int .i64 x.s.s, .int .i64 x.a.c, .int .i64 x.a.s, .int .i64 x.p, .int .i64 x.g] (w5.alloc (.cells #[.string x.k, .string x.v, .bool x.d, .int .i64 x.s.c, .int .i64 x.s.s, .int .i64 x.a.c, .int .i64 x.a.s, .int .i64 x.p, .int .i64 x.g] 82))) := Bn.new r5.p
                   have n5 : Hid (n1 ≠ w5.heap.size ∧ n2 ≠ w5.heap.size) := ⟨by have := (ol5.bn A1.out).b.lt; omega, by have := (ol5.bn T1.out).b.lt; omega⟩
                   have y1 := A5.out.b.cell_ (i := 1) rfl
                   try dsimp only at y1
                   clear r5 ol5 ox)
                | (with_reducible refine wpl_new rfl rfl 82 rfl _ _ rfl #[.string x.k, .string x.v, .bool x.d, .int .i64 x.s.c, .int .i64 x.s.s, .int .i64 x.a.c, .int .i64 x.a.s, .int .i64 x.p, .int .i64 x.g] rfl rfl (by kernel_rfl) (en_cells_one x) ?_)
                | (with_reducible refine wpl_piece rfl 80 _ rfl w5.heap.size 3 rfl #[.int .i64 c1, .int .i64 0] _ (stamp_piece X5.out.b hxs.out.1) Tryz.underlying80 rfl (by kernel_rfl) ?_)
                | (refine wpList_store_row rfl 80 _ _ rfl n2 #[.int .i64 c1, .int .i64 0] rfl rfl 80 _ T5.out.b (by kernel_rfl) rfl (by simp [Value.oneCell']) ?_
                   have R6 := Lib.hid (R5.out.box T5.out hB2.out (only_rowP _ _ #[.int .i64 c1, .int .i64 0]))
                   have K6 := Lib.hid (K5.out.box T5.out.b (by decide) (only_rowP _ n2 #[.int .i64 c1, .int .i64 0]))
                   have A6 := Lib.hid (A5.out.box hn1.out.2 (only_rowP _ n2 #[.int .i64 c1, .int .i64 0]))
                   have T6 : Hid (Bn _ n2 80 #[.int .i64 c1, .int .i64 0] _) := ⟨T5.out.b.setRow #[.int .i64 c1, .int .i64 0], T5.out.n⟩
                   have y6 := A6.out.b.cell_ (i := 1) rfl; try dsimp only at y6)
                | (go_at_call 45; refine (rp_noted B.heap.size _ keys pu _ K6.out.own (R6.out.p.ho.size) (by omega)).mono ?_; rintro E w7 ⟨v7, rfl, own7, o7, m7⟩
                   obtain ⟨Ak7, nk7, ck7, rfl⟩ := own_shape own7
                   have R7 := Lib.hid (R6.out.kset K6.out o7)
                   have T7 := Lib.hid (T6.out.kset K6.out (by decide) o7)
                   have K7 := Lib.hid (Ks.noted R6.out.p K6.out own7 m7)
                   have z0 := T7.out.b.cell_ (i := 0) rfl; have z1 := T7.out.b.cell_ (i := 1) rfl
                   clear own7 o7 m7)
                | (with_reducible refine wpl_load rfl 80 _ rfl n2 rfl 80 #[.int .i64 c1, .int .i64 0] _ T7.out.b Tryz.underlying80 rfl (by kernel_rfl) ?_)
                | (go_at_call 49; refine (rf_good c1 0 _).mono ?_; rw [HG.out]; rintro E w8 ⟨rfl, o8⟩
                   have R8 := Lib.hid (R7.out.keep o8)
                   have K8 := Lib.hid (K7.out.keep o8)
                   have T8 := Lib.hid (T7.out.keep o8)
                   have z0 := T8.out.b.cell_ (i := 0) rfl
                   clear o8))
              go_roundw
              case rel => exact ⟨k + 1, r, c1, _, _, _, _, _, _, _, by omega, by go_num, rfl, rfl, rfl, R8.out, K8.out, HKN2.out, HLA2.out, hkl2⟩
              case measure => simp [intOf]; omega
          · by_cases hk1 : pk = 1
            · skip
              have k0b : (pk == 0) = false := by simp [hk0]
              have k1b : (pk == 1) = true := by simp [hk1]
              clear hk0 hk1
              have hwz := st_zero
              rcases R1.out.wf.dlw (by have := R1.out.n; omega) pu with ⟨z, hz, hpe⟩ | ⟨hcl, hlive, x, hxx, hpe, d, _⟩
              · obtain ⟨x, hxx⟩ : ∃ x, enZero = x := ⟨_, rfl⟩
                rw [hxx] at hpe
                have hzb : (z == 0) = false := by simpa using hz
                have HP := Lib.hid (R1.out.del hm60 hpe R1.out.wf (Nat.le_trans R1.out.n (Nat.le_succ k)))
                clear hpe hxx hz
                go_wp2_with (first
                  | (go_at_call 46; refine (HP.out).mono ?_; rintro E w5 ⟨rfl, a5, r5, ol5⟩
                     have ox := (Only.refl none_ w5).alloc (.cells #[.string x.k, .string x.v, .bool x.d, .int .i64 x.s.c, .int .i64 x.s.s, .int .i64 x.a.c, .int .i64 x.a.s, .int .i64 x.p, .int .i64 x.g] 82)
                     have R5 := Lib.hid (r5.keep ox)
                     have T5 := Lib.hid ((ol5.bn T1.out).keep ox)
                     have A5 := Lib.hid ((ol5.bn A1.out).keep ox)
                     have K5 := Lib.hid ((ol5.ks K1.out).keep ox)
                     have X5 : Hid (Bn a5 w5.heap.size 82 #[.string x.k, .string x.v, .bool x.d, .int .i64 x.s.c, .int .i64 x.s.s, .int .i64 x.a.c, .int .i64 x.a.s, .int .i64 x.p, .int .i64 x.g] (w5.alloc (.cells #[.string x.k, .string x.v, .bool x.d, .int .i64 x.s.c, .int .i64 x.s.s, .int .i64 x.a.c, .int .i64 x.a.s, .int .i64 x.p, .int .i64 x.g] 82))) := Bn.new r5.p
                     have n5 : Hid (n1 ≠ w5.heap.size ∧ n2 ≠ w5.heap.size) := ⟨by have := (ol5.bn A1.out).b.lt; omega, by have := (ol5.bn T1.out).b.lt; omega⟩
                     have y1 := A5.out.b.cell_ (i := 1) rfl
                     try dsimp only at y1
                     clear r5 ol5 ox)
                  | (with_reducible refine wpl_new rfl rfl 82 rfl _ _ rfl #[.string x.k, .string x.v, .bool x.d, .int .i64 x.s.c, .int .i64 x.s.s, .int .i64 x.a.c, .int .i64 x.a.s, .int .i64 x.p, .int .i64 x.g] rfl rfl (by kernel_rfl) (en_cells_one x) ?_)
                  | (with_reducible refine wpl_load rfl 80 _ rfl n2 rfl 80 #[.int .i64 0, .int .i64 0] _ T5.out.b Tryz.underlying80 rfl (by kernel_rfl) ?_))
                go_roundw
                case rel => exact ⟨k + 1, r, last, _, _, _, _, Ak, nk, ck, by omega, by go_num, rfl, rfl, rfl, R5.out, K5.out, HKN.out, HLA.out, by omega⟩
                case measure => simp [intOf]; omega
              · obtain ⟨c1, hc1⟩ : ∃ c1, s.c + 1 = c1 := ⟨_, rfl⟩
                have hxs : Hid (x.s = ⟨c1, 0⟩ ∧ x.a = ⟨c1, 0⟩ ∧ x.k = pu) := by rw [hxx, ← hc1, R1.out.hs]; exact ⟨rfl, rfl, rfl⟩
                have hlast : last < c1 := by have := HLA.out.lc; omega
                have hc11 : 1 ≤ c1 := by have := HLA.out.l0; omega
                have hc12 : c1 ≤ 4294967295 := by omega
                have HG : Hid (stGood ⟨c1, 0⟩ = true) := stGood_zero hc11 hc12
                have hsn := st_neq c1 hc11
                have HP := Lib.hid (R1.out.del hm60 hpe d.wf (m' := k + 1) (by have := R1.out.n; rw [List.length_append]; simp only [List.length_cons, List.length_nil]; omega))
                have HKN2 : Hid (Kn keys (log ++ [x]) _) := HKN.out.dn d rfl (fun _ h => h) (by obtain ⟨e, he, hek⟩ := live_key hlive; rw [hxs.out.2.2, ← hek]; exact HKN.out.tk e he)
                have HLA2 : Hid (La c1 (log ++ [x]) _) := HLA.out.dn d (by omega) (by show c1 ≤ s.c + 1; omega) (.inr (by rw [hxs.out.2.1]; exact Int.le_refl _))
                clear hpe hxx hwz hc1 hcl d hlive
                go_wp2_with (first
                  | (go_at_call 46; refine (HP.out).mono ?_; rintro E w5 ⟨rfl, a5, r5, ol5⟩
                     have ox := (Only.refl none_ w5).alloc (.cells #[.string x.k, .string x.v, .bool x.d, .int .i64 x.s.c, .int .i64 x.s.s, .int .i64 x.a.c, .int .i64 x.a.s, .int .i64 x.p, .int .i64 x.g] 82)
                     have R5 := Lib.hid (r5.keep ox)
                     have T5 := Lib.hid ((ol5.bn T1.out).keep ox)
                     have A5 := Lib.hid ((ol5.bn A1.out).keep ox)
                     have K5 := Lib.hid ((ol5.ks K1.out).keep ox)
                     have X5 : Hid (Bn a5 w5.heap.size 82 #[.string x.k, .string x.v, .bool x.d, .int .i64 x.s.c, .int .i64 x.s.s, .int .i64 x.a.c, .int .i64 x.a.s, .int .i64 x.p, .int .i64 x.g] (w5.alloc (.cells #[.string x.k, .string x.v, .bool x.d, .int .i64 x.s.c, .int .i64 x.s.s, .int .i64 x.a.c, .int .i64 x.a.s, .int .i64 x.p, .int .i64 x.g] 82))) := Bn.new r5.p
                     have n5 : Hid (n1 ≠ w5.heap.size ∧ n2 ≠ w5.heap.size) := ⟨by have := (ol5.bn A1.out).b.lt; omega, by have := (ol5.bn T1.out).b.lt; omega⟩
                     have y1 := A5.out.b.cell_ (i := 1) rfl
                     try dsimp only at y1
                     clear r5 ol5 ox)
                  | (with_reducible refine wpl_new rfl rfl 82 rfl _ _ rfl #[.string x.k, .string x.v, .bool x.d, .int .i64 x.s.c, .int .i64 x.s.s, .int .i64 x.a.c, .int .i64 x.a.s, .int .i64 x.p, .int .i64 x.g] rfl rfl (by kernel_rfl) (en_cells_one x) ?_)
                  | (with_reducible refine wpl_piece rfl 80 _ rfl w5.heap.size 3 rfl #[.int .i64 c1, .int .i64 0] _ (stamp_piece X5.out.b hxs.out.1) Tryz.underlying80 rfl (by kernel_rfl) ?_)
                  | (refine wpList_store_row rfl 80 _ _ rfl n2 #[.int .i64 c1, .int .i64 0] rfl rfl 80 _ T5.out.b (by kernel_rfl) rfl (by simp [Value.oneCell']) ?_
                     have R6 := Lib.hid (R5.out.box T5.out hB2.out (only_rowP _ _ #[.int .i64 c1, .int .i64 0]))
                     have K6 := Lib.hid (K5.out.box T5.out.b (by decide) (only_rowP _ n2 #[.int .i64 c1, .int .i64 0]))
                     have A6 := Lib.hid (A5.out.box hn1.out.2 (only_rowP _ n2 #[.int .i64 c1, .int .i64 0]))
                     have T6 : Hid (Bn _ n2 80 #[.int .i64 c1, .int .i64 0] _) := ⟨T5.out.b.setRow #[.int .i64 c1, .int .i64 0], T5.out.n⟩
                     have z0 := T6.out.b.cell_ (i := 0) rfl; have z1 := T6.out.b.cell_ (i := 1) rfl)
                  | (with_reducible refine wpl_load rfl 80 _ rfl n2 rfl 80 #[.int .i64 c1, .int .i64 0] _ T6.out.b Tryz.underlying80 rfl (by kernel_rfl) ?_)
                  | (go_at_call 49; refine (rf_good c1 0 _).mono ?_; rw [HG.out]; rintro E w8 ⟨rfl, o8⟩
                     have R8 := Lib.hid (R6.out.keep o8)
                     have K8 := Lib.hid (K6.out.keep o8)
                     have T8 := Lib.hid (T6.out.keep o8)
                     have z0 := T8.out.b.cell_ (i := 0) rfl
                     clear o8))
                go_roundw
                case rel => exact ⟨k + 1, r, c1, _, _, _, _, _, _, _, by omega, by go_num, rfl, rfl, rfl, R8.out, K8.out, HKN2.out, HLA2.out, by omega⟩
                case measure => simp [intOf]; omega
            · by_cases hk2 : pk = 2
              · skip
                have k0b : (pk == 0) = false := by simp [hk0]
                have k1b : (pk == 1) = false := by simp [hk1]
                have k2b : (pk == 2) = true := by simp [hk2]
                clear hk0 hk1 hk2
                have hwz := st_zero
                cases R1.out.wf.mgw (by have := R1.out.n; omega) pe with
                | bad z hz0 e hcz =>
                  clear hz0 hcz
                  have HWF := Lib.hid R1.out.wf
                  have HNL : Hid (log.length ≤ k + 1) := Nat.le_trans R1.out.n (Nat.le_succ k)
                  have HKN2 := Lib.hid HKN.out
                  have HLA2 := Lib.hid HLA.out
                  obtain ⟨x, hxx⟩ : ∃ x, enZero = x := ⟨_, rfl⟩
                  rw [hxx] at e
                  have HE := Lib.hid e
                  clear e hxx
                  by_cases hz : z = 0
                  · have hzb : (z == 0) = true := by simp [hz]
                    clear hz
                    go_wp2_with (first
                      | (with_reducible refine wpl_piece rfl 50 _ rfl n1 3 rfl #[.string pe.k, .string pe.v, .bool pe.d, .int .i64 pe.s.c, .int .i64 pe.s.s, .int .i64 pe.a.c, .int .i64 pe.a.s, .int .i64 pe.p, .int .i64 pe.g] _ (pa_entry (a := ⟨pk, pu, pv, pe⟩) A1.out.b) Tryz.underlying50 rfl (by kernel_rfl) ?_)
                      | (go_at_call 36; refine (en_of pe _).mono ?_; rintro E w4 ⟨rfl, o4⟩
                         have R4 := Lib.hid (R1.out.keep o4)
                         have T4 := Lib.hid (T1.out.keep o4)
                         have A4 := Lib.hid (A1.out.keep o4)
                         have K4 := Lib.hid (K1.out.keep o4)
                         clear o4)
                      | (go_at_call 35; refine (R4.out.mrg hm60 HE.out HWF.out HNL.out).mono ?_; rintro E w5 ⟨rfl, a5, r5, ol5⟩
                         have ox := (Only.refl none_ w5).alloc (.cells #[.string ⟨#[]⟩, .string ⟨#[]⟩, .bool false, .int .i64 0, .int .i64 0, .int .i64 0, .int .i64 0, .int .i64 0, .int .i64 0] 82)
                         have R5 := Lib.hid (r5.keep ox)
                         have T5 := Lib.hid ((ol5.bn T4.out).keep ox)
                         have A5 := Lib.hid ((ol5.bn A4.out).keep ox)
                         have K5 := Lib.hid ((ol5.ks K4.out).keep ox)
                         have X5 : Hid (Bn a5 w5.heap.size 82 #[.string ⟨#[]⟩, .string ⟨#[]⟩, .bool false, .int .i64 0, .int .i64 0, .int .i64 0, .int .i64 0, .int .i64 0, .int .i64 0] (w5.alloc (.cells #[.string ⟨#[]⟩, .string ⟨#[]⟩, .bool false, .int .i64 0, .int .i64 0, .int .i64 0, .int .i64 0, .int .i64 0, .int .i64 0] 82))) := Bn.new r5.p
                         have n5 : Hid (n1 ≠ w5.heap.size ∧ n2 ≠ w5.heap.size ∧ B.heap.size ≤ w5.heap.size) := ⟨by have := (ol5.bn A4.out).b.lt; omega, by have := (ol5.bn T4.out).b.lt; omega, r5.p.ho.size⟩
                         clear r5 ol5 ox)
                      | (refine wpList_store_row rfl 82 _ _ rfl w5.heap.size #[.string x.k, .string x.v, .bool x.d, .int .i64 x.s.c, .int .i64 x.s.s, .int .i64 x.a.c, .int .i64 x.a.s, .int .i64 x.p, .int .i64 x.g] rfl rfl 82 _ X5.out.b (by kernel_rfl) rfl (en_cells_one x) ?_
                         have R6 := Lib.hid (R5.out.box X5.out n5.out.2.2 (only_rowP _ _ #[.string x.k, .string x.v, .bool x.d, .int .i64 x.s.c, .int .i64 x.s.s, .int .i64 x.a.c, .int .i64 x.a.s, .int .i64 x.p, .int .i64 x.g]))
                         have K6 := Lib.hid (K5.out.box X5.out.b (by decide) (only_rowP _ _ #[.string x.k, .string x.v, .bool x.d, .int .i64 x.s.c, .int .i64 x.s.s, .int .i64 x.a.c, .int .i64 x.a.s, .int .i64 x.p, .int .i64 x.g]))
                         have A6 := Lib.hid (A5.out.box n5.out.1 (only_rowP _ _ #[.string x.k, .string x.v, .bool x.d, .int .i64 x.s.c, .int .i64 x.s.s, .int .i64 x.a.c, .int .i64 x.a.s, .int .i64 x.p, .int .i64 x.g]))
                         have T6 := Lib.hid (T5.out.box n5.out.2.1 (only_rowP _ _ #[.string x.k, .string x.v, .bool x.d, .int .i64 x.s.c, .int .i64 x.s.s, .int .i64 x.a.c, .int .i64 x.a.s, .int .i64 x.p, .int .i64 x.g]))
                         have X6 : Hid (Blk _ w5.heap.size 82 #[.string x.k, .string x.v, .bool x.d, .int .i64 x.s.c, .int .i64 x.s.s, .int .i64 x.a.c, .int .i64 x.a.s, .int .i64 x.p, .int .i64 x.g]) := X5.out.b.setRow #[.string x.k, .string x.v, .bool x.d, .int .i64 x.s.c, .int .i64 x.s.s, .int .i64 x.a.c, .int .i64 x.a.s, .int .i64 x.p, .int .i64 x.g]
                         have y3 := A6.out.b.cell_ (i := 3) rfl
                         try dsimp only at y3)
                      | (with_reducible refine wpl_load rfl 80 _ rfl n2 rfl 80 #[.int .i64 0, .int .i64 0] _ T6.out.b Tryz.underlying80 rfl (by kernel_rfl) ?_))
                    go_roundw
                    case rel => exact ⟨k + 1, r, last, _, _, _, _, Ak, nk, ck, by omega, by go_num, rfl, rfl, rfl, R6.out, K6.out, HKN2.out, HLA2.out, by omega⟩
                    case measure => simp [intOf]; omega
                  · have hzb : (z == 0) = false := by simpa using hz
                    clear hz
                    go_wp2_with (first
                      | (with_reducible refine wpl_piece rfl 50 _ rfl n1 3 rfl #[.string pe.k, .string pe.v, .bool pe.d, .int .i64 pe.s.c, .int .i64 pe.s.s, .int .i64 pe.a.c, .int .i64 pe.a.s, .int .i64 pe.p, .int .i64 pe.g] _ (pa_entry (a := ⟨pk, pu, pv, pe⟩) A1.out.b) Tryz.underlying50 rfl (by kernel_rfl) ?_)
                      | (go_at_call 36; refine (en_of pe _).mono ?_; rintro E w4 ⟨rfl, o4⟩
                         have R4 := Lib.hid (R1.out.keep o4)
                         have T4 := Lib.hid (T1.out.keep o4)
                         have A4 := Lib.hid (A1.out.keep o4)
                         have K4 := Lib.hid (K1.out.keep o4)
                         clear o4)
                      | (go_at_call 35; refine (R4.out.mrg hm60 HE.out HWF.out HNL.out).mono ?_; rintro E w5 ⟨rfl, a5, r5, ol5⟩
                         have ox := (Only.refl none_ w5).alloc (.cells #[.string ⟨#[]⟩, .string ⟨#[]⟩, .bool false, .int .i64 0, .int .i64 0, .int .i64 0, .int .i64 0, .int .i64 0, .int .i64 0] 82)
                         have R5 := Lib.hid (r5.keep ox)
                         have T5 := Lib.hid ((ol5.bn T4.out).keep ox)
                         have A5 := Lib.hid ((ol5.bn A4.out).keep ox)
                         have K5 := Lib.hid ((ol5.ks K4.out).keep ox)
                         have X5 : Hid (Bn a5 w5.heap.size 82 #[.string ⟨#[]⟩, .string ⟨#[]⟩, .bool false, .int .i64 0, .int .i64 0, .int .i64 0, .int .i64 0, .int .i64 0, .int .i64 0] (w5.alloc (.cells #[.string ⟨#[]⟩, .string ⟨#[]⟩, .bool false, .int .i64 0, .int .i64 0, .int .i64 0, .int .i64 0, .int .i64 0, .int .i64 0] 82))) := Bn.new r5.p
                         have n5 : Hid (n1 ≠ w5.heap.size ∧ n2 ≠ w5.heap.size ∧ B.heap.size ≤ w5.heap.size) := ⟨by have := (ol5.bn A4.out).b.lt; omega, by have := (ol5.bn T4.out).b.lt; omega, r5.p.ho.size⟩
                         clear r5 ol5 ox)
                      | (refine wpList_store_row rfl 82 _ _ rfl w5.heap.size #[.string x.k, .string x.v, .bool x.d, .int .i64 x.s.c, .int .i64 x.s.s, .int .i64 x.a.c, .int .i64 x.a.s, .int .i64 x.p, .int .i64 x.g] rfl rfl 82 _ X5.out.b (by kernel_rfl) rfl (en_cells_one x) ?_
                         have R6 := Lib.hid (R5.out.box X5.out n5.out.2.2 (only_rowP _ _ #[.string x.k, .string x.v, .bool x.d, .int .i64 x.s.c, .int .i64 x.s.s, .int .i64 x.a.c, .int .i64 x.a.s, .int .i64 x.p, .int .i64 x.g]))
                         have K6 := Lib.hid (K5.out.box X5.out.b (by decide) (only_rowP _ _ #[.string x.k, .string x.v, .bool x.d, .int .i64 x.s.c, .int .i64 x.s.s, .int .i64 x.a.c, .int .i64 x.a.s, .int .i64 x.p, .int .i64 x.g]))
                         have A6 := Lib.hid (A5.out.box n5.out.1 (only_rowP _ _ #[.string x.k, .string x.v, .bool x.d, .int .i64 x.s.c, .int .i64 x.s.s, .int .i64 x.a.c, .int .i64 x.a.s, .int .i64 x.p, .int .i64 x.g]))
                         have T6 := Lib.hid (T5.out.box n5.out.2.1 (only_rowP _ _ #[.string x.k, .string x.v, .bool x.d, .int .i64 x.s.c, .int .i64 x.s.s, .int .i64 x.a.c, .int .i64 x.a.s, .int .i64 x.p, .int .i64 x.g]))
                         have X6 : Hid (Blk _ w5.heap.size 82 #[.string x.k, .string x.v, .bool x.d, .int .i64 x.s.c, .int .i64 x.s.s, .int .i64 x.a.c, .int .i64 x.a.s, .int .i64 x.p, .int .i64 x.g]) := X5.out.b.setRow #[.string x.k, .string x.v, .bool x.d, .int .i64 x.s.c, .int .i64 x.s.s, .int .i64 x.a.c, .int .i64 x.a.s, .int .i64 x.p, .int .i64 x.g]
                         have y3 := A6.out.b.cell_ (i := 3) rfl
                         try dsimp only at y3)
                      | (with_reducible refine wpl_load rfl 80 _ rfl n2 rfl 80 #[.int .i64 0, .int .i64 0] _ T6.out.b Tryz.underlying80 rfl (by kernel_rfl) ?_))
                    go_roundw
                    case rel => exact ⟨k + 1, r, last, _, _, _, _, Ak, nk, ck, by omega, by go_num, rfl, rfl, rfl, R6.out, K6.out, HKN2.out, HLA2.out, by omega⟩
                    case measure => simp [intOf]; omega
                | old hcz hnz e wf =>
                  clear hcz hnz
                  obtain ⟨z, hz00⟩ : ∃ z : Int, 0 = z := ⟨_, rfl⟩
                  have e' : mgR s pe = ({ seeS s pe with tab := youngM s.o s.tab pe }, 0, enZero, z) := by rw [e, ← hz00]
                  clear e hz00
                  have e := e'
                  clear e'
                  have HWF := Lib.hid wf
                  have HNL : Hid (log.length ≤ k + 1) := Nat.le_trans R1.out.n (Nat.le_succ k)
                  have HKN2 := Lib.hid (HKN.out.mono (s' := { seeS s pe with tab := youngM s.o s.tab pe }) young_keys)
                  have HLA2 := Lib.hid (HLA.out.mono (s' := { seeS s pe with tab := youngM s.o s.tab pe }) (seeC_le _ _))
                  obtain ⟨x, hxx⟩ : ∃ x, enZero = x := ⟨_, rfl⟩
                  rw [hxx] at e
                  have HE := Lib.hid e
                  clear e hxx
                  by_cases hz : z = 0
                  · have hzb : (z == 0) = true := by simp [hz]
                    clear hz
                    go_wp2_with (first
                      | (with_reducible refine wpl_piece rfl 50 _ rfl n1 3 rfl #[.string pe.k, .string pe.v, .bool pe.d, .int .i64 pe.s.c, .int .i64 pe.s.s, .int .i64 pe.a.c, .int .i64 pe.a.s, .int .i64 pe.p, .int .i64 pe.g] _ (pa_entry (a := ⟨pk, pu, pv, pe⟩) A1.out.b) Tryz.underlying50 rfl (by kernel_rfl) ?_)
                      | (go_at_call 36; refine (en_of pe _).mono ?_; rintro E w4 ⟨rfl, o4⟩
                         have R4 := Lib.hid (R1.out.keep o4)
                         have T4 := Lib.hid (T1.out.keep o4)
                         have A4 := Lib.hid (A1.out.keep o4)
                         have K4 := Lib.hid (K1.out.keep o4)
                         clear o4)
                      | (go_at_call 35; refine (R4.out.mrg hm60 HE.out HWF.out HNL.out).mono ?_; rintro E w5 ⟨rfl, a5, r5, ol5⟩
                         have ox := (Only.refl none_ w5).alloc (.cells #[.string ⟨#[]⟩, .string ⟨#[]⟩, .bool false, .int .i64 0, .int .i64 0, .int .i64 0, .int .i64 0, .int .i64 0, .int .i64 0] 82)
                         have R5 := Lib.hid (r5.keep ox)
                         have T5 := Lib.hid ((ol5.bn T4.out).keep ox)
                         have A5 := Lib.hid ((ol5.bn A4.out).keep ox)
                         have K5 := Lib.hid ((ol5.ks K4.out).keep ox)
                         have X5 : Hid (Bn a5 w5.heap.size 82 #[.string ⟨#[]⟩, .string ⟨#[]⟩, .bool false, .int .i64 0, .int .i64 0, .int .i64 0, .int .i64 0, .int .i64 0, .int .i64 0] (w5.alloc (.cells #[.string ⟨#[]⟩, .string ⟨#[]⟩, .bool false, .int .i64 0, .int .i64 0, .int .i64 0, .int .i64 0, .int .i64 0, .int .i64 0] 82))) := Bn.new r5.p
                         have n5 : Hid (n1 ≠ w5.heap.size ∧ n2 ≠ w5.heap.size ∧ B.heap.size ≤ w5.heap.size) := ⟨by have := (ol5.bn A4.out).b.lt; omega, by have := (ol5.bn T4.out).b.lt; omega, r5.p.ho.size⟩
                         clear r5 ol5 ox)
                      | (refine wpList_store_row rfl 82 _ _ rfl w5.heap.size #[.string x.k, .string x.v, .bool x.d, .int .i64 x.s.c, .int .i64 x.s.s, .int .i64 x.a.c, .int .i64 x.a.s, .int .i64 x.p, .int .i64 x.g] rfl rfl 82 _ X5.out.b (by kernel_rfl) rfl (en_cells_one x) ?_
                         have R6 := Lib.hid (R5.out.box X5.out n5.out.2.2 (only_rowP _ _ #[.string x.k, .string x.v, .bool x.d, .int .i64 x.s.c, .int .i64 x.s.s, .int .i64 x.a.c, .int .i64 x.a.s, .int .i64 x.p, .int .i64 x.g]))
                         have K6 := Lib.hid (K5.out.box X5.out.b (by decide) (only_rowP _ _ #[.string x.k, .string x.v, .bool x.d, .int .i64 x.s.c, .int .i64 x.s.s, .int .i64 x.a.c, .int .i64 x.a.s, .int .i64 x.p, .int .i64 x.g]))
                         have A6 := Lib.hid (A5.out.box n5.out.1 (only_rowP _ _ #[.string x.k, .string x.v, .bool x.d, .int .i64 x.s.c, .int .i64 x.s.s, .int .i64 x.a.c, .int .i64 x.a.s, .int .i64 x.p, .int .i64 x.g]))
                         have T6 := Lib.hid (T5.out.box n5.out.2.1 (only_rowP _ _ #[.string x.k, .string x.v, .bool x.d, .int .i64 x.s.c, .int .i64 x.s.s, .int .i64 x.a.c, .int .i64 x.a.s, .int .i64 x.p, .int .i64 x.g]))
                         have X6 : Hid (Blk _ w5.heap.size 82 #[.string x.k, .string x.v, .bool x.d, .int .i64 x.s.c, .int .i64 x.s.s, .int .i64 x.a.c, .int .i64 x.a.s, .int .i64 x.p, .int .i64 x.g]) := X5.out.b.setRow #[.string x.k, .string x.v, .bool x.d, .int .i64 x.s.c, .int .i64 x.s.s, .int .i64 x.a.c, .int .i64 x.a.s, .int .i64 x.p, .int .i64 x.g]
                         have y3 := A6.out.b.cell_ (i := 3) rfl
                         try dsimp only at y3)
                      | (with_reducible refine wpl_load rfl 80 _ rfl n2 rfl 80 #[.int .i64 0, .int .i64 0] _ T6.out.b Tryz.underlying80 rfl (by kernel_rfl) ?_))
                    go_roundw
                    case rel => exact ⟨k + 1, r, last, _, _, _, _, Ak, nk, ck, by omega, by go_num, rfl, rfl, rfl, R6.out, K6.out, HKN2.out, HLA2.out, by omega⟩
                    case measure => simp [intOf]; omega
                  · have hzb : (z == 0) = false := by simpa using hz
                    clear hz
                    go_wp2_with (first
                      | (with_reducible refine wpl_piece rfl 50 _ rfl n1 3 rfl #[.string pe.k, .string pe.v, .bool pe.d, .int .i64 pe.s.c, .int .i64 pe.s.s, .int .i64 pe.a.c, .int .i64 pe.a.s, .int .i64 pe.p, .int .i64 pe.g] _ (pa_entry (a := ⟨pk, pu, pv, pe⟩) A1.out.b) Tryz.underlying50 rfl (by kernel_rfl) ?_)
                      | (go_at_call 36; refine (en_of pe _).mono ?_; rintro E w4 ⟨rfl, o4⟩
                         have R4 := Lib.hid (R1.out.keep o4)
                         have T4 := Lib.hid (T1.out.keep o4)
                         have A4 := Lib.hid (A1.out.keep o4)
                         have K4 := Lib.hid (K1.out.keep o4)
                         clear o4)
                      | (go_at_call 35; refine (R4.out.mrg hm60 HE.out HWF.out HNL.out).mono ?_; rintro E w5 ⟨rfl, a5, r5, ol5⟩
                         have ox := (Only.refl none_ w5).alloc (.cells #[.string ⟨#[]⟩, .string ⟨#[]⟩, .bool false, .int .i64 0, .int .i64 0, .int .i64 0, .int .i64 0, .int .i64 0, .int .i64 0] 82)
                         have R5 := Lib.hid (r5.keep ox)
                         have T5 := Lib.hid ((ol5.bn T4.out).keep ox)
                         have A5 := Lib.hid ((ol5.bn A4.out).keep ox)
                         have K5 := Lib.hid ((ol5.ks K4.out).keep ox)
                         have X5 : Hid (Bn a5 w5.heap.size 82 #[.string ⟨#[]⟩, .string ⟨#[]⟩, .bool false, .int .i64 0, .int .i64 0, .int .i64 0, .int .i64 0, .int .i64 0, .int .i64 0] (w5.alloc (.cells #[.string ⟨#[]⟩, .string ⟨#[]⟩, .bool false, .int .i64 0, .int .i64 0, .int .i64 0, .int .i64 0, .int .i64 0, .int .i64 0] 82))) := Bn.new r5.p
                         have n5 : Hid (n1 ≠ w5.heap.size ∧ n2 ≠ w5.heap.size ∧ B.heap.size ≤ w5.heap.size) := ⟨by have := (ol5.bn A4.out).b.lt; omega, by have := (ol5.bn T4.out).b.lt; omega, r5.p.ho.size⟩
                         clear r5 ol5 ox)
                      | (refine wpList_store_row rfl 82 _ _ rfl w5.heap.size #[.string x.k, .string x.v, .bool x.d, .int .i64 x.s.c, .int .i64 x.s.s, .int .i64 x.a.c, .int .i64 x.a.s, .int .i64 x.p, .int .i64 x.g] rfl rfl 82 _ X5.out.b (by kernel_rfl) rfl (en_cells_one x) ?_
                         have R6 := Lib.hid (R5.out.box X5.out n5.out.2.2 (only_rowP _ _ #[.string x.k, .string x.v, .bool x.d, .int .i64 x.s.c, .int .i64 x.s.s, .int .i64 x.a.c, .int .i64 x.a.s, .int .i64 x.p, .int .i64 x.g]))
                         have K6 := Lib.hid (K5.out.box X5.out.b (by decide) (only_rowP _ _ #[.string x.k, .string x.v, .bool x.d, .int .i64 x.s.c, .int .i64 x.s.s, .int .i64 x.a.c, .int .i64 x.a.s, .int .i64 x.p, .int .i64 x.g]))
                         have A6 := Lib.hid (A5.out.box n5.out.1 (only_rowP _ _ #[.string x.k, .string x.v, .bool x.d, .int .i64 x.s.c, .int .i64 x.s.s, .int .i64 x.a.c, .int .i64 x.a.s, .int .i64 x.p, .int .i64 x.g]))
                         have T6 := Lib.hid (T5.out.box n5.out.2.1 (only_rowP _ _ #[.string x.k, .string x.v, .bool x.d, .int .i64 x.s.c, .int .i64 x.s.s, .int .i64 x.a.c, .int .i64 x.a.s, .int .i64 x.p, .int .i64 x.g]))
                         have X6 : Hid (Blk _ w5.heap.size 82 #[.string x.k, .string x.v, .bool x.d, .int .i64 x.s.c, .int .i64 x.s.s, .int .i64 x.a.c, .int .i64 x.a.s, .int .i64 x.p, .int .i64 x.g]) := X5.out.b.setRow #[.string x.k, .string x.v, .bool x.d, .int .i64 x.s.c, .int .i64 x.s.s, .int .i64 x.a.c, .int .i64 x.a.s, .int .i64 x.p, .int .i64 x.g]
                         have y3 := A6.out.b.cell_ (i := 3) rfl
                         try dsimp only at y3)
                      | (with_reducible refine wpl_load rfl 80 _ rfl n2 rfl 80 #[.int .i64 0, .int .i64 0] _ T6.out.b Tryz.underlying80 rfl (by kernel_rfl) ?_))
                    go_roundw
                    case rel => exact ⟨k + 1, r, last, _, _, _, _, Ak, nk, ck, by omega, by go_num, rfl, rfl, rfl, R6.out, K6.out, HKN2.out, HLA2.out, by omega⟩
                    case measure => simp [intOf]; omega
                | not z hcz e wf =>
                  clear hcz
                  have HWF := Lib.hid wf
                  have HNL : Hid (log.length ≤ k + 1) := Nat.le_trans R1.out.n (Nat.le_succ k)
                  have HKN2 := Lib.hid (HKN.out.mono (s' := seeS s pe) (fun e he => ⟨e, he, rfl⟩))
                  have HLA2 := Lib.hid (HLA.out.mono (s' := seeS s pe) (seeC_le _ _))
                  obtain ⟨x, hxx⟩ : ∃ x, enZero = x := ⟨_, rfl⟩
                  rw [hxx] at e
                  have HE := Lib.hid e
                  clear e hxx
                  by_cases hz : z = 0
                  · have hzb : (z == 0) = true := by simp [hz]
                    clear hz
                    go_wp2_with (first
                      | (with_reducible refine wpl_piece rfl 50 _ rfl n1 3 rfl #[.string pe.k, .string pe.v, .bool pe.d, .int .i64 pe.s.c, .int .i64 pe.s.s, .int .i64 pe.a.c, .int .i64 pe.a.s, .int .i64 pe.p, .int .i64 pe.g] _ (pa_entry (a := ⟨pk, pu, pv, pe⟩) A1.out.b) Tryz.underlying50 rfl (by kernel_rfl) ?_)
                      | (go_at_call 36; refine (en_of pe _).mono ?_; rintro E w4 ⟨rfl, o4⟩
                         have R4 := Lib.hid (R1.out.keep o4)
                         have T4 := Lib.hid (T1.out.keep o4)
                         have A4 := Lib.hid (A1.out.keep o4)
                         have K4 := Lib.hid (K1.out.keep o4)
                         clear o4)
                      | (go_at_call 35; refine (R4.out.mrg hm60 HE.out HWF.out HNL.out).mono ?_; rintro E w5 ⟨rfl, a5, r5, ol5⟩
                         have ox := (Only.refl none_ w5).alloc (.cells #[.string ⟨#[]⟩, .string ⟨#[]⟩, .bool false, .int .i64 0, .int .i64 0, .int .i64 0, .int .i64 0, .int .i64 0, .int .i64 0] 82)
                         have R5 := Lib.hid (r5.keep ox)
                         have T5 := Lib.hid ((ol5.bn T4.out).keep ox)
                         have A5 := Lib.hid ((ol5.bn A4.out).keep ox)
                         have K5 := Lib.hid ((ol5.ks K4.out).keep ox)
                         have X5 : Hid (Bn a5 w5.heap.size 82 #[.string ⟨#[]⟩, .string ⟨#[]⟩, .bool false, .int .i64 0, .int .i64 0, .int .i64 0, .int .i64 0, .int .i64 0, .int .i64 0] (w5.alloc (.cells #[.string ⟨#[]⟩, .string ⟨#[]⟩, .bool false, .int .i64 0, .int .i64 0, .int .i64 0, .int .i64 0, .int .i64 0, .int .i64 0] 82))) := Bn.new r5.p
                         have n5 : Hid (n1 ≠ w5.heap.size ∧ n2 ≠ w5.heap.size ∧ B.heap.size ≤ w5.heap.size) := ⟨by have := (ol5.bn A4.out).b.lt; omega, by have := (ol5.bn T4.out).b.lt; omega, r5.p.ho.size⟩
                         clear r5 ol5 ox)
                      | (refine wpList_store_row rfl 82 _ _ rfl w5.heap.size #[.string x.k, .string x.v, .bool x.d, .int .i64 x.s.c, .int .i64 x.s.s, .int .i64 x.a.c, .int .i64 x.a.s, .int .i64 x.p, .int .i64 x.g] rfl rfl 82 _ X5.out.b (by kernel_rfl) rfl (en_cells_one x) ?_
                         have R6 := Lib.hid (R5.out.box X5.out n5.out.2.2 (only_rowP _ _ #[.string x.k, .string x.v, .bool x.d, .int .i64 x.s.c, .int .i64 x.s.s, .int .i64 x.a.c, .int .i64 x.a.s, .int .i64 x.p, .int .i64 x.g]))
                         have K6 := Lib.hid (K5.out.box X5.out.b (by decide) (only_rowP _ _ #[.string x.k, .string x.v, .bool x.d, .int .i64 x.s.c, .int .i64 x.s.s, .int .i64 x.a.c, .int .i64 x.a.s, .int .i64 x.p, .int .i64 x.g]))
                         have A6 := Lib.hid (A5.out.box n5.out.1 (only_rowP _ _ #[.string x.k, .string x.v, .bool x.d, .int .i64 x.s.c, .int .i64 x.s.s, .int .i64 x.a.c, .int .i64 x.a.s, .int .i64 x.p, .int .i64 x.g]))
                         have T6 := Lib.hid (T5.out.box n5.out.2.1 (only_rowP _ _ #[.string x.k, .string x.v, .bool x.d, .int .i64 x.s.c, .int .i64 x.s.s, .int .i64 x.a.c, .int .i64 x.a.s, .int .i64 x.p, .int .i64 x.g]))
                         have X6 : Hid (Blk _ w5.heap.size 82 #[.string x.k, .string x.v, .bool x.d, .int .i64 x.s.c, .int .i64 x.s.s, .int .i64 x.a.c, .int .i64 x.a.s, .int .i64 x.p, .int .i64 x.g]) := X5.out.b.setRow #[.string x.k, .string x.v, .bool x.d, .int .i64 x.s.c, .int .i64 x.s.s, .int .i64 x.a.c, .int .i64 x.a.s, .int .i64 x.p, .int .i64 x.g]
                         have y3 := A6.out.b.cell_ (i := 3) rfl
                         try dsimp only at y3)
                      | (with_reducible refine wpl_load rfl 80 _ rfl n2 rfl 80 #[.int .i64 0, .int .i64 0] _ T6.out.b Tryz.underlying80 rfl (by kernel_rfl) ?_))
                    go_roundw
                    case rel => exact ⟨k + 1, r, last, _, _, _, _, Ak, nk, ck, by omega, by go_num, rfl, rfl, rfl, R6.out, K6.out, HKN2.out, HLA2.out, by omega⟩
                    case measure => simp [intOf]; omega
                  · have hzb : (z == 0) = false := by simpa using hz
                    clear hz
                    go_wp2_with (first
                      | (with_reducible refine wpl_piece rfl 50 _ rfl n1 3 rfl #[.string pe.k, .string pe.v, .bool pe.d, .int .i64 pe.s.c, .int .i64 pe.s.s, .int .i64 pe.a.c, .int .i64 pe.a.s, .int .i64 pe.p, .int .i64 pe.g] _ (pa_entry (a := ⟨pk, pu, pv, pe⟩) A1.out.b) Tryz.underlying50 rfl (by kernel_rfl) ?_)
                      | (go_at_call 36; refine (en_of pe _).mono ?_; rintro E w4 ⟨rfl, o4⟩
                         have R4 := Lib.hid (R1.out.keep o4)
                         have T4 := Lib.hid (T1.out.keep o4)
                         have A4 := Lib.hid (A1.out.keep o4)
                         have K4 := Lib.hid (K1.out.keep o4)
                         clear o4)
                      | (go_at_call 35; refine (R4.out.mrg hm60 HE.out HWF.out HNL.out).mono ?_; rintro E w5 ⟨rfl, a5, r5, ol5⟩
                         have ox := (Only.refl none_ w5).alloc (.cells #[.string ⟨#[]⟩, .string ⟨#[]⟩, .bool false, .int .i64 0, .int .i64 0, .int .i64 0, .int .i64 0, .int .i64 0, .int .i64 0] 82)
                         have R5 := Lib.hid (r5.keep ox)
                         have T5 := Lib.hid ((ol5.bn T4.out).keep ox)
                         have A5 := Lib.hid ((ol5.bn A4.out).keep ox)
                         have K5 := Lib.hid ((ol5.ks K4.out).keep ox)
                         have X5 : Hid (Bn a5 w5.heap.size 82 #[.string ⟨#[]⟩, .string ⟨#[]⟩, .bool false, .int .i64 0, .int .i64 0, .int .i64 0, .int .i64 0, .int .i64 0, .int .i64 0] (w5.alloc (.cells #[.string ⟨#[]⟩, .string ⟨#[]⟩, .bool false, .int .i64 0, .int .i64 0, .int .i64 0, .int .i64 0, .int .i64 0, .int .i64 0] 82))) := Bn.new r5.p
                         have n5 : Hid (n1 ≠ w5.heap.size ∧ n2 ≠ w5.heap.size ∧ B.heap.size ≤ w5.heap.size) := ⟨by have := (ol5.bn A4.out).b.lt; omega, by have := (ol5.bn T4.out).b.lt; omega, r5.p.ho.size⟩
                         clear r5 ol5 ox)
                      | (refine wpList_store_row rfl 82 _ _ rfl w5.heap.size #[.string x.k, .string x.v, .bool x.d, .int .i64 x.s.c, .int .i64 x.s.s, .int .i64 x.a.c, .int .i64 x.a.s, .int .i64 x.p, .int .i64 x.g] rfl rfl 82 _ X5.out.b (by kernel_rfl) rfl (en_cells_one x) ?_
                         have R6 := Lib.hid (R5.out.box X5.out n5.out.2.2 (only_rowP _ _ #[.string x.k, .string x.v, .bool x.d, .int .i64 x.s.c, .int .i64 x.s.s, .int .i64 x.a.c, .int .i64 x.a.s, .int .i64 x.p, .int .i64 x.g]))
                         have K6 := Lib.hid (K5.out.box X5.out.b (by decide) (only_rowP _ _ #[.string x.k, .string x.v, .bool x.d, .int .i64 x.s.c, .int .i64 x.s.s, .int .i64 x.a.c, .int .i64 x.a.s, .int .i64 x.p, .int .i64 x.g]))
                         have A6 := Lib.hid (A5.out.box n5.out.1 (only_rowP _ _ #[.string x.k, .string x.v, .bool x.d, .int .i64 x.s.c, .int .i64 x.s.s, .int .i64 x.a.c, .int .i64 x.a.s, .int .i64 x.p, .int .i64 x.g]))
                         have T6 := Lib.hid (T5.out.box n5.out.2.1 (only_rowP _ _ #[.string x.k, .string x.v, .bool x.d, .int .i64 x.s.c, .int .i64 x.s.s, .int .i64 x.a.c, .int .i64 x.a.s, .int .i64 x.p, .int .i64 x.g]))
                         have X6 : Hid (Blk _ w5.heap.size 82 #[.string x.k, .string x.v, .bool x.d, .int .i64 x.s.c, .int .i64 x.s.s, .int .i64 x.a.c, .int .i64 x.a.s, .int .i64 x.p, .int .i64 x.g]) := X5.out.b.setRow #[.string x.k, .string x.v, .bool x.d, .int .i64 x.s.c, .int .i64 x.s.s, .int .i64 x.a.c, .int .i64 x.a.s, .int .i64 x.p, .int .i64 x.g]
                         have y3 := A6.out.b.cell_ (i := 3) rfl
                         try dsimp only at y3)
                      | (with_reducible refine wpl_load rfl 80 _ rfl n2 rfl 80 #[.int .i64 0, .int .i64 0] _ T6.out.b Tryz.underlying80 rfl (by kernel_rfl) ?_))
                    go_roundw
                    case rel => exact ⟨k + 1, r, last, _, _, _, _, Ak, nk, ck, by omega, by go_num, rfl, rfl, rfl, R6.out, K6.out, HKN2.out, HLA2.out, by omega⟩
                    case measure => simp [intOf]; omega
                | woken hcz hnz y x hyy hov hcl e hxq d =>
                  obtain ⟨c1, hc1⟩ : ∃ c1, (seeS s pe).c + 1 = c1 := ⟨_, rfl⟩
                  have hxs : Hid (x.a = ⟨c1, 0⟩ ∧ x.k = pe.k) := by
                    refine ⟨?_, hxq.1⟩
                    rw [hxq.2.2.1, ← hc1, R1.out.hs]
                  have hse : s.c ≤ (seeS s pe).c := seeC_le _ _
                  have hlast : last < c1 := by have := HLA.out.lc; omega
                  have hc11 : 1 ≤ c1 := by have := HLA.out.l0; omega
                  have hc12 : c1 ≤ 4294967295 := by omega
                  have HG : Hid (stGood ⟨c1, 0⟩ = true) := stGood_zero hc11 hc12
                  have hsn := st_neq c1 hc11
                  have HWF := Lib.hid d.wf
                  have HNL : Hid ((log ++ [x]).length ≤ k + 1) := by have := R1.out.n; simp only [Hid, List.length_append, List.length_cons, List.length_nil]; omega
                  have HE := Lib.hid e
                  have HKN2 : Hid (Kn (notedL keys pe.k) (log ++ [x]) _) := HKN.out.dn d rfl noted_sub.1 (by rw [hxs.out.2]; exact noted_sub.2.1)
                  have HLA2 : Hid (La c1 (log ++ [x]) _) := HLA.out.dn d (by omega) (by show c1 ≤ (seeS s pe).c + 1; omega) (.inr (by rw [hxs.out.1]; exact Int.le_refl _))
                  have hkl2 : (notedL keys pe.k).length ≤ k + 1 := by have := (noted_sub (keys := keys) (k := pe.k)).2.2; omega
                  clear hwz hc1 hcl d e hcz hnz hyy hov hxq hse
                  go_wp2_with (first
                    | (with_reducible refine wpl_piece rfl 50 _ rfl n1 3 rfl #[.string pe.k, .string pe.v, .bool pe.d, .int .i64 pe.s.c, .int .i64 pe.s.s, .int .i64 pe.a.c, .int .i64 pe.a.s, .int .i64 pe.p, .int .i64 pe.g] _ (pa_entry (a := ⟨pk, pu, pv, pe⟩) A1.out.b) Tryz.underlying50 rfl (by kernel_rfl) ?_)
                    | (go_at_call 36; refine (en_of pe _).mono ?_; rintro E w4 ⟨rfl, o4⟩
                       have R4 := Lib.hid (R1.out.keep o4)
                       have T4 := Lib.hid (T1.out.keep o4)
                       have A4 := Lib.hid (A1.out.keep o4)
                       have K4 := Lib.hid (K1.out.keep o4)
                       clear o4)
                    | (go_at_call 35; refine (R4.out.mrg hm60 HE.out HWF.out HNL.out).mono ?_; rintro E w5 ⟨rfl, a5, r5, ol5⟩
                       have ox := (Only.refl none_ w5).alloc (.cells #[.string ⟨#[]⟩, .string ⟨#[]⟩, .bool false, .int .i64 0, .int .i64 0, .int .i64 0, .int .i64 0, .int .i64 0, .int .i64 0] 82)
                       have R5 := Lib.hid (r5.keep ox)
                       have T5 := Lib.hid ((ol5.bn T4.out).keep ox)
                       have A5 := Lib.hid ((ol5.bn A4.out).keep ox)
                       have K5 := Lib.hid ((ol5.ks K4.out).keep ox)
                       have X5 : Hid (Bn a5 w5.heap.size 82 #[.string ⟨#[]⟩, .string ⟨#[]⟩, .bool false, .int .i64 0, .int .i64 0, .int .i64 0, .int .i64 0, .int .i64 0, .int .i64 0] (w5.alloc (.cells #[.string ⟨#[]⟩, .string ⟨#[]⟩, .bool false, .int .i64 0, .int .i64 0, .int .i64 0, .int .i64 0, .int .i64 0, .int .i64 0] 82))) := Bn.new r5.p
                       have n5 : Hid (n1 ≠ w5.heap.size ∧ n2 ≠ w5.heap.size ∧ B.heap.size ≤ w5.heap.size) := ⟨by have := (ol5.bn A4.out).b.lt; omega, by have := (ol5.bn T4.out).b.lt; omega, r5.p.ho.size⟩
                       clear r5 ol5 ox)
                    | (refine wpList_store_row rfl 82 _ _ rfl w5.heap.size #[.string x.k, .string x.v, .bool x.d, .int .i64 x.s.c, .int .i64 x.s.s, .int .i64 x.a.c, .int .i64 x.a.s, .int .i64 x.p, .int .i64 x.g] rfl rfl 82 _ X5.out.b (by kernel_rfl) rfl (en_cells_one x) ?_
                       have R6 := Lib.hid (R5.out.box X5.out n5.out.2.2 (only_rowP _ _ #[.string x.k, .string x.v, .bool x.d, .int .i64 x.s.c, .int .i64 x.s.s, .int .i64 x.a.c, .int .i64 x.a.s, .int .i64 x.p, .int .i64 x.g]))
                       have K6 := Lib.hid (K5.out.box X5.out.b (by decide) (only_rowP _ _ #[.string x.k, .string x.v, .bool x.d, .int .i64 x.s.c, .int .i64 x.s.s, .int .i64 x.a.c, .int .i64 x.a.s, .int .i64 x.p, .int .i64 x.g]))
                       have A6 := Lib.hid (A5.out.box n5.out.1 (only_rowP _ _ #[.string x.k, .string x.v, .bool x.d, .int .i64 x.s.c, .int .i64 x.s.s, .int .i64 x.a.c, .int .i64 x.a.s, .int .i64 x.p, .int .i64 x.g]))
                       have T6 := Lib.hid (T5.out.box n5.out.2.1 (only_rowP _ _ #[.string x.k, .string x.v, .bool x.d, .int .i64 x.s.c, .int .i64 x.s.s, .int .i64 x.a.c, .int .i64 x.a.s, .int .i64 x.p, .int .i64 x.g]))
                       have X6 : Hid (Blk _ w5.heap.size 82 #[.string x.k, .string x.v, .bool x.d, .int .i64 x.s.c, .int .i64 x.s.s, .int .i64 x.a.c, .int .i64 x.a.s, .int .i64 x.p, .int .i64 x.g]) := X5.out.b.setRow #[.string x.k, .string x.v, .bool x.d, .int .i64 x.s.c, .int .i64 x.s.s, .int .i64 x.a.c, .int .i64 x.a.s, .int .i64 x.p, .int .i64 x.g]
                       have y3 := A6.out.b.cell_ (i := 3) rfl
                       try dsimp only at y3)
                    | (with_reducible refine wpl_piece rfl 80 _ rfl w5.heap.size 5 rfl #[.int .i64 c1, .int .i64 0] _ (act_piece X6.out hxs.out.1) Tryz.underlying80 rfl (by kernel_rfl) ?_)
                    | (refine wpList_store_row rfl 80 _ _ rfl n2 #[.int .i64 c1, .int .i64 0] rfl rfl 80 _ T6.out.b (by kernel_rfl) rfl (by simp [Value.oneCell']) ?_
                       have R66 := Lib.hid (R6.out.box T6.out hB2.out (only_rowP _ _ #[.int .i64 c1, .int .i64 0]))
                       have K66 := Lib.hid (K6.out.box T6.out.b (by decide) (only_rowP _ n2 #[.int .i64 c1, .int .i64 0]))
                       have A66 := Lib.hid (A6.out.box hn1.out.2 (only_rowP _ n2 #[.int .i64 c1, .int .i64 0]))
                       have T66 : Hid (Bn _ n2 80 #[.int .i64 c1, .int .i64 0] _) := ⟨T6.out.b.setRow #[.int .i64 c1, .int .i64 0], T6.out.n⟩
                       have y6 := A66.out.b.cell_ (i := 3) rfl
                       try dsimp only at y6)
                    | (go_at_call 45; refine (rp_noted B.heap.size _ keys pe.k _ K66.out.own (R66.out.p.ho.size) (by omega)).mono ?_; rintro E w7 ⟨v7, rfl, own7, o7, m7⟩
                       obtain ⟨Ak7, nk7, ck7, rfl⟩ := own_shape own7
                       have R7 := Lib.hid (R66.out.kset K66.out o7)
                       have T7 := Lib.hid (T66.out.kset K66.out (by decide) o7)
                       have K7 := Lib.hid (Ks.noted R66.out.p K66.out own7 m7)
                       have z0 := T7.out.b.cell_ (i := 0) rfl; have z1 := T7.out.b.cell_ (i := 1) rfl
                       clear own7 o7 m7)
                    | (with_reducible refine wpl_load rfl 80 _ rfl n2 rfl 80 #[.int .i64 c1, .int .i64 0] _ T7.out.b Tryz.underlying80 rfl (by kernel_rfl) ?_)
                    | (go_at_call 49; refine (rf_good c1 0 _).mono ?_; rw [HG.out]; rintro E w8 ⟨rfl, o8⟩
                       have R8 := Lib.hid (R7.out.keep o8)
                       have K8 := Lib.hid (K7.out.keep o8)
                       have T8 := Lib.hid (T7.out.keep o8)
                       have z0 := T8.out.b.cell_ (i := 0) rfl
                       clear o8))
                  go_roundw
                  case rel => exact ⟨k + 1, r, c1, _, _, _, _, _, _, _, by omega, by go_num, rfl, rfl, rfl, R8.out, K8.out, HKN2.out, HLA2.out, hkl2⟩
                  case measure => simp [intOf]; omega
                | taken hcz hnz hltz hov e d =>
                  obtain ⟨x, hxx⟩ : ∃ x, ({ pe with g := ageM s.o s.tab pe } : En) = x := ⟨_, rfl⟩
                  have hxk : Hid (x.k = pe.k) := by rw [← hxx]; exact rfl
                  rw [hxx] at e d
                  have hse : s.c ≤ (seeS s pe).c := seeC_le _ _
                  have HWF := Lib.hid d.wf
                  have HNL : Hid ((log ++ [x]).length ≤ k + 1) := by have := R1.out.n; simp only [Hid, List.length_append, List.length_cons, List.length_nil]; omega
                  have HE := Lib.hid e
                  have HKN2 : Hid (Kn (notedL keys pe.k) (log ++ [x]) _) := HKN.out.dn d rfl noted_sub.1 (by rw [hxk.out]; exact noted_sub.2.1)
                  have HLA2 : Hid (La last (log ++ [x]) _) := HLA.out.dn d HLA.out.l0 (Int.le_trans HLA.out.lc hse) (.inl rfl)
                  have hkl2 : (notedL keys pe.k).length ≤ k + 1 := by have := (noted_sub (keys := keys) (k := pe.k)).2.2; omega
                  clear d e hcz hnz hltz hov hse hxx
                  go_wp2_with (first
                    | (with_reducible refine wpl_piece rfl 50 _ rfl n1 3 rfl #[.string pe.k, .string pe.v, .bool pe.d, .int .i64 pe.s.c, .int .i64 pe.s.s, .int .i64 pe.a.c, .int .i64 pe.a.s, .int .i64 pe.p, .int .i64 pe.g] _ (pa_entry (a := ⟨pk, pu, pv, pe⟩) A1.out.b) Tryz.underlying50 rfl (by kernel_rfl) ?_)
                    | (go_at_call 36; refine (en_of pe _).mono ?_; rintro E w4 ⟨rfl, o4⟩
                       have R4 := Lib.hid (R1.out.keep o4)
                       have T4 := Lib.hid (T1.out.keep o4)
                       have A4 := Lib.hid (A1.out.keep o4)
                       have K4 := Lib.hid (K1.out.keep o4)
                       clear o4)
                    | (go_at_call 35; refine (R4.out.mrg hm60 HE.out HWF.out HNL.out).mono ?_; rintro E w5 ⟨rfl, a5, r5, ol5⟩
                       have ox := (Only.refl none_ w5).alloc (.cells #[.string ⟨#[]⟩, .string ⟨#[]⟩, .bool false, .int .i64 0, .int .i64 0, .int .i64 0, .int .i64 0, .int .i64 0, .int .i64 0] 82)
                       have R5 := Lib.hid (r5.keep ox)
                       have T5 := Lib.hid ((ol5.bn T4.out).keep ox)
                       have A5 := Lib.hid ((ol5.bn A4.out).keep ox)
                       have K5 := Lib.hid ((ol5.ks K4.out).keep ox)
                       have X5 : Hid (Bn a5 w5.heap.size 82 #[.string ⟨#[]⟩, .string ⟨#[]⟩, .bool false, .int .i64 0, .int .i64 0, .int .i64 0, .int .i64 0, .int .i64 0, .int .i64 0] (w5.alloc (.cells #[.string ⟨#[]⟩, .string ⟨#[]⟩, .bool false, .int .i64 0, .int .i64 0, .int .i64 0, .int .i64 0, .int .i64 0, .int .i64 0] 82))) := Bn.new r5.p
                       have n5 : Hid (n1 ≠ w5.heap.size ∧ n2 ≠ w5.heap.size ∧ B.heap.size ≤ w5.heap.size) := ⟨by have := (ol5.bn A4.out).b.lt; omega, by have := (ol5.bn T4.out).b.lt; omega, r5.p.ho.size⟩
                       clear r5 ol5 ox)
                    | (refine wpList_store_row rfl 82 _ _ rfl w5.heap.size #[.string x.k, .string x.v, .bool x.d, .int .i64 x.s.c, .int .i64 x.s.s, .int .i64 x.a.c, .int .i64 x.a.s, .int .i64 x.p, .int .i64 x.g] rfl rfl 82 _ X5.out.b (by kernel_rfl) rfl (en_cells_one x) ?_
                       have R6 := Lib.hid (R5.out.box X5.out n5.out.2.2 (only_rowP _ _ #[.string x.k, .string x.v, .bool x.d, .int .i64 x.s.c, .int .i64 x.s.s, .int .i64 x.a.c, .int .i64 x.a.s, .int .i64 x.p, .int .i64 x.g]))
                       have K6 := Lib.hid (K5.out.box X5.out.b (by decide) (only_rowP _ _ #[.string x.k, .string x.v, .bool x.d, .int .i64 x.s.c, .int .i64 x.s.s, .int .i64 x.a.c, .int .i64 x.a.s, .int .i64 x.p, .int .i64 x.g]))
                       have A6 := Lib.hid (A5.out.box n5.out.1 (only_rowP _ _ #[.string x.k, .string x.v, .bool x.d, .int .i64 x.s.c, .int .i64 x.s.s, .int .i64 x.a.c, .int .i64 x.a.s, .int .i64 x.p, .int .i64 x.g]))
                       have T6 := Lib.hid (T5.out.box n5.out.2.1 (only_rowP _ _ #[.string x.k, .string x.v, .bool x.d, .int .i64 x.s.c, .int .i64 x.s.s, .int .i64 x.a.c, .int .i64 x.a.s, .int .i64 x.p, .int .i64 x.g]))
                       have X6 : Hid (Blk _ w5.heap.size 82 #[.string x.k, .string x.v, .bool x.d, .int .i64 x.s.c, .int .i64 x.s.s, .int .i64 x.a.c, .int .i64 x.a.s, .int .i64 x.p, .int .i64 x.g]) := X5.out.b.setRow #[.string x.k, .string x.v, .bool x.d, .int .i64 x.s.c, .int .i64 x.s.s, .int .i64 x.a.c, .int .i64 x.a.s, .int .i64 x.p, .int .i64 x.g]
                       have y3 := A6.out.b.cell_ (i := 3) rfl
                       try dsimp only at y3)
                    | (go_at_call 45; refine (rp_noted B.heap.size _ keys pe.k _ K6.out.own (R6.out.p.ho.size) (by omega)).mono ?_; rintro E w7 ⟨v7, rfl, own7, o7, m7⟩
                       obtain ⟨Ak7, nk7, ck7, rfl⟩ := own_shape own7
                       have R7 := Lib.hid (R6.out.kset K6.out o7)
                       have T7 := Lib.hid (T6.out.kset K6.out (by decide) o7)
                       have K7 := Lib.hid (Ks.noted R6.out.p K6.out own7 m7)
                       skip
                       clear own7 o7 m7)
                    | (with_reducible refine wpl_load rfl 80 _ rfl n2 rfl 80 #[.int .i64 0, .int .i64 0] _ T7.out.b Tryz.underlying80 rfl (by kernel_rfl) ?_))
                  go_roundw
                  case rel => exact ⟨k + 1, r, last, _, _, _, _, _, _, _, by omega, by go_num, rfl, rfl, rfl, R7.out, K7.out, HKN2.out, HLA2.out, hkl2⟩
                  case measure => simp [intOf]; omega
              · by_cases hk3 : pk = 3
                · skip
                  have k0b : (pk == 0) = false := by simp [hk0]
                  have k1b : (pk == 1) = false := by simp [hk1]
                  have k2b : (pk == 2) = false := by simp [hk2]
                  have k3b : (pk == 3) = true := by simp [hk3]
                  clear hk0 hk1 hk2 hk3
                  have hwz := st_zero
                  have HKN2 : Hid (Kn keys log (tickS s)) := HKN.out.mono (tick_keys R1.out.wf)
                  have HLA2 : Hid (La last log (tickS s)) := HLA.out.mono (Int.le_of_eq (tick_c R1.out.wf).symm)
                  go_wp2_with (first
                    | (go_at_call 47; refine (R1.out.tick).mono ?_; rintro E w5 ⟨vs, rfl, a5, r5, ol5⟩
                       have R5 : Hid (Rq B o dg a5 (tickS s) log r (k + 1) w5) := ⟨r5.p, r5.hr, r5.hd, r5.wf, Nat.le_trans r5.n (Nat.le_succ k), r5.ho, r5.hs⟩
                       have T5 := Lib.hid (ol5.bn T1.out)
                       have K5 := Lib.hid (ol5.ks K1.out)
                       clear r5 ol5)
                    | (with_reducible refine wpl_load rfl 80 _ rfl n2 rfl 80 #[.int .i64 0, .int .i64 0] _ T5.out.b Tryz.underlying80 rfl (by kernel_rfl) ?_))
                  go_roundw
                  case rel => exact ⟨k + 1, r, last, _, _, _, _, Ak, nk, ck, by omega, by go_num, rfl, rfl, rfl, R5.out, K5.out, HKN2.out, HLA2.out, by omega⟩
                  case measure => simp [intOf]; omega
                · by_cases hk4 : pk = 4
                  · skip
                    have k0b : (pk == 0) = false := by simp [hk0]
                    have k1b : (pk == 1) = false := by simp [hk1]
                    have k2b : (pk == 2) = false := by simp [hk2]
                    have k3b : (pk == 3) = false := by simp [hk3]
                    have k4b : (pk == 4) = true := by simp [hk4]
                    clear hk0 hk1 hk2 hk3 hk4
                    have hwz := st_zero
                    have BO1 := Lib.hid (BO.out _ R1.out.p.ho)
                    cases hop : opF log (blankS o 0 (dvOf (log.map encB)) log.length) with
                    | none =>
                      have HOP := Lib.hid hop
                      have hrm : Hid (roRoom o < (keys.length : Int)) := HKN.out.none hop
                      clear hop
                      have hown := own_count K1.out.own
                      subst hown
                      go_wp2_with (first
                        | (with_reducible refine wpl_load rfl 23 _ rfl g2 rfl 23 #[.int .i64 o.n, .int .i64 o.q, .int .i64 o.r, .int .i64 o.t1, .int .i64 o.t2] _ (by first | exact BO5.out | exact BO1.out) Tryz.underlying23 rfl (by kernel_rfl) ?_)
                        | (go_at_call 16; refine (HRO.out _).mono ?_; rintro E w4 ⟨rfl, o4⟩
                           have R4 := Lib.hid (R1.out.keep o4)
                           clear o4)
                        | (go_at_call 15; refine (R4.out.reopen_no hm60 HOP.out).mono ?_; rintro E w5 ⟨rfl, o5⟩
                           have P5 : Hid (Only none_ B w5) := R4.out.p.ho.trans' o5 (fun b hb hf => by have := (R4.out.p.all_ge hf).1; omega)
                           have BO5 := Lib.hid (BO.out _ P5.out)
                           clear o5)
                        | (go_at_call 48; refine (HRM.out _).mono ?_; rintro E w6 ⟨rfl, o6⟩
                           have P6 := Lib.hid (O0.out.trans (P5.out.trans o6))
                           clear o6))
                      go_ret
                      refine ⟨?_, P6.out⟩
                      have := hrm.out
                      first | (simp; omega) | simp [this] | trace_state
                    | some s' =>
                      have HOP := Lib.hid hop
                      have HKN2 := Lib.hid (HKN.out.open hop)
                      have HLA2 := Lib.hid (HLA.out.open R1.out.wf hop)
                      clear hop
                      go_wp2_with (first
                        | (with_reducible refine wpl_load rfl 23 _ rfl g2 rfl 23 #[.int .i64 o.n, .int .i64 o.q, .int .i64 o.r, .int .i64 o.t1, .int .i64 o.t2] _ BO1.out Tryz.underlying23 rfl (by kernel_rfl) ?_)
                        | (go_at_call 16; refine (HRO.out _).mono ?_; rintro E w4 ⟨rfl, o4⟩
                           have R4 := Lib.hid (R1.out.keep o4)
                           have T4 := Lib.hid (T1.out.keep o4)
                           have K4 := Lib.hid (K1.out.keep o4)
                           clear o4)
                        | (go_at_call 15; refine (R4.out.reopen hm60 HOP.out).mono ?_; rintro E w5 ⟨a5, r9, rfl, r5, ol5⟩
                           have R5 : Hid (Rq B o dg a5 s' log r9 (k + 1) w5) := ⟨r5.p, r5.hr, r5.hd, r5.wf, Nat.le_trans r5.n (Nat.le_succ k), r5.ho, r5.hs⟩
                           have T5 := Lib.hid (ol5.bn T4.out)
                           have K5 := Lib.hid (ol5.ks K4.out)
                           clear r5 ol5)
                        | (with_reducible refine wpl_load rfl 80 _ rfl n2 rfl 80 #[.int .i64 0, .int .i64 0] _ T5.out.b Tryz.underlying80 rfl (by kernel_rfl) ?_))
                      go_roundw
                      case rel => exact ⟨k + 1, r9, last, _, _, _, _, Ak, nk, ck, by omega, by go_num, rfl, rfl, rfl, R5.out, K5.out, HKN2.out, HLA2.out, by omega⟩
                      case measure => simp [intOf]; omega
                  · skip
                    have k0b : (pk == 0) = false := by simp [hk0]
                    have k1b : (pk == 1) = false := by simp [hk1]
                    have k2b : (pk == 2) = false := by simp [hk2]
                    have k3b : (pk == 3) = false := by simp [hk3]
                    have k4b : (pk == 4) = false := by simp [hk4]
                    clear hk0 hk1 hk2 hk3 hk4
                    have hwz := st_zero
                    have R5 : Hid (Rq B o dg a s log r (k + 1) W1) := ⟨R1.out.p, R1.out.hr, R1.out.hd, R1.out.wf, Nat.le_trans R1.out.n (Nat.le_succ k), R1.out.ho, R1.out.hs⟩
                    go_wp2_with (first
                      | (with_reducible refine wpl_load rfl 80 _ rfl n2 rfl 80 #[.int .i64 0, .int .i64 0] _ T1.out.b Tryz.underlying80 rfl (by kernel_rfl) ?_))
                    go_roundw
                    case rel => exact ⟨k + 1, r, last, _, _, _, _, Ak, nk, ck, by omega, by go_num, rfl, rfl, rfl, R5.out, K1.out, HKN.out, HLA.out, by omega⟩
                    case measure => simp [intOf]; omega
        · obtain rfl : k = L := by omega
          have P9 := Lib.hid (O0.out.trans HQ.out.p.ho)
          go_wp2_with fail
          go_ret
          exact ⟨rfl, P9.out⟩
    · have hcb : (ck != 0) = true := by simpa using hc0
      clear hck hc0 HX HL
      go_enter Tryz.func7, Tryz.ntmps7
      have tok1 : True := trivial
      go_wp2_with (first
        | (go_at_call 12; have _t := tok1; clear tok1; refine (HSP.out _).mono ?_; rintro E w1 ⟨rfl, o1⟩; have P1 := Lib.hid o1; have O1 := Lib.hid (O0.out.trans o1); clear o1; have tok2 : True := trivial)
        | (go_at_call 13; refine (HFW.out _ O1.out).mono ?_; rintro E w2 ⟨rfl, o2⟩; have P2 := Lib.hid o2; have O2 := Lib.hid (O1.out.trans o2); clear o2)
        | (refine wpl_load_if (by rfl) 23 _ rfl w.heap.size rfl 23 #[.int .i64 o.n, .int .i64 o.q, .int .i64 o.r, .int .i64 o.t1, .int .i64 o.t2] _ (by first | exact BX.out.only (Only.trans P1.out P2.out) (fun h => h)) Tryz.underlying23 rfl (by kernel_rfl) ?_)
        | (go_at_call 19; refine (HCK.out _).mono ?_; rintro E w3 ⟨rfl, o3⟩; have O3 := Lib.hid (O2.out.trans o3); clear o3)
        | (go_at_call 12; have _t := tok2; clear tok2; refine (HSP.out _).mono ?_; rintro E w9 ⟨rfl, o9⟩; have O9 := Lib.hid (O3.out.trans o9); clear o9))
      go_ret
      exact ⟨rfl, O9.out⟩
end Go.Proofs.YtoinpdeikibgmaaGreat
end
