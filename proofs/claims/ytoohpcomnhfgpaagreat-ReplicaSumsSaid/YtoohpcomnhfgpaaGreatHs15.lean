/- Texts of mine, one behind the other: RpL, RpO, RpP, RpQ, RpR, RpT. No statement of the seat is proved here. -/
import Derived.Test.YtoohpcomnhfgpaaGreatHs14
import Derived.Test.YtoohpcomnhfgpaaGreatHs5
import Derived.Test.YtoohpcomnhfgpaaGreatHs8
import Derived.Deep.DeepCutAuto
section
namespace Go.Proofs.YtoohpcomnhfgpaaGreat
open Go.RowKit
set_option maxRecDepth 100000
set_option linter.all false
attribute [local go_sem] Oper.semAt_some
def delRs (s : Rs) (k : ByteArray) : Rs × En × Int :=
  if enCheck (delE k ⟨1, s.site⟩ (enKeepers s.site s.o.r s.o.n)) ≠ 0 then (s, enZero, enCheck (delE k ⟨1, s.site⟩ (enKeepers s.site s.o.r s.o.n)))
  else if liveM s.tab k = false then (s, enZero, 3) else wrR s k (delE k ⟨s.c + 1, s.site⟩ (enKeepers s.site s.o.r s.o.n))
structure Dl (B : World) (a0 : Ra) (w0 : World) (a : Ra) (s : Rs) (k : ByteArray) (p : Int) (n0 n1 nb : Nat) (X : World) : Prop where
  c : Cy B a0 w0 a s X
  k : Bn a n0 9 #[.string k] X
  m : Bn a n1 82 #[.string ⟨#[]⟩, .string ⟨#[]⟩, .bool false, .int .i64 0, .int .i64 0, .int .i64 0, .int .i64 0, .int .i64 0, .int .i64 0] X
  p : Bn a nb 3 #[.int .i64 p] X
theorem Dl.keep {B w0 X Y : World} {a0 a : Ra} {s : Rs} {k : ByteArray} {p : Int} {n0 n1 nb : Nat} (h : Dl B a0 w0 a s k p n0 n1 nb X) (o : Only none_ X Y) : Dl B a0 w0 a s k p n0 n1 nb Y := ⟨h.c.keep o, h.k.keep o, h.m.keep o, h.p.keep o⟩
set_option maxHeartbeats 51200000 in
theorem rp_delete (B : World) (a : Ra) (s : Rs) (k : ByteArray) (w : World) (h : Rp B a s w) (hc0 : 0 ≤ s.c ∧ s.c ≤ 4294967295) (hsi : stSite s.site = true) (ok : Rky s) :
    Calls Tryz.prog 46 #[.pointer (some ⟨a.r, 0, none⟩), .string k] w fun E w' => E = .returned (.tuple #[.agg #[.string (delRs s k).2.1.k, .string (delRs s k).2.1.v, .bool (delRs s k).2.1.d, .int .i64 (delRs s k).2.1.s.c, .int .i64 (delRs s k).2.1.s.s, .int .i64 (delRs s k).2.1.a.c, .int .i64 (delRs s k).2.1.a.s, .int .i64 (delRs s k).2.1.p, .int .i64 (delRs s k).2.1.g], .int .i64 (delRs s k).2.2]) ∧ LeftP B a w (delRs s k).1 w' := by
  obtain ⟨r, hr⟩ : ∃ r, a.r = r := ⟨_, rfl⟩
  have hmf : ∀ (fn : Fn) (first cap : Array Value) (w : World), (Instr.makeFunc fn first cap).run Tryz.prog w = .ok (.func fn first cap) w := fun _ _ _ _ => rfl
  have h1 := h.keep ((Only.refl none_ w).alloc (.cells #[.string k] 9))
  have C2 := Lib.hid (((Cy.begin h).keep ((Only.refl none_ w).alloc (.cells #[.string k] 9))).keep ((Only.refl none_ _).alloc (.cells #[.string ⟨#[]⟩, .string ⟨#[]⟩, .bool false, .int .i64 0, .int .i64 0, .int .i64 0, .int .i64 0, .int .i64 0, .int .i64 0] 82)))
  have K2 : Hid (Bn a w.heap.size 9 #[.string k] ((w.alloc (.cells #[.string k] 9)).alloc (.cells #[.string ⟨#[]⟩, .string ⟨#[]⟩, .bool false, .int .i64 0, .int .i64 0, .int .i64 0, .int .i64 0, .int .i64 0, .int .i64 0] 82))) := (Bn.new h).keep ((Only.refl none_ _).alloc _)
  have M2 : Hid (Bn a (w.heap.size + 1) 82 #[.string ⟨#[]⟩, .string ⟨#[]⟩, .bool false, .int .i64 0, .int .i64 0, .int .i64 0, .int .i64 0, .int .i64 0, .int .i64 0] ((w.alloc (.cells #[.string k] 9)).alloc (.cells #[.string ⟨#[]⟩, .string ⟨#[]⟩, .bool false, .int .i64 0, .int .i64 0, .int .i64 0, .int .i64 0, .int .i64 0, .int .i64 0] 82))) := by
    have := Bn.new (t := 82) (cs := #[.string ⟨#[]⟩, .string ⟨#[]⟩, .bool false, .int .i64 0, .int .i64 0, .int .i64 0, .int .i64 0, .int .i64 0, .int .i64 0]) h1
    rwa [World.size_alloc] at this
  obtain ⟨p, hp⟩ : ∃ p, enKeepers s.site s.o.r s.o.n = p := ⟨_, rfl⟩
  have HSI := Lib.hid (fun (X : World) (hX : Rp B a s X) => clk_site a.ck s.site s.c X hX.ck)
  have HKE := Lib.hid (fun (X : World) => en_keepers s.site s.o.r s.o.n X)
  rw [hp] at HKE
  have HBX : Hid (∀ (a1 : Ra) (nb : Nat) (X : World), Bn a1 w.heap.size 9 #[.string k] X → Bn a1 nb 3 #[.int .i64 p] X → Bx a1 [(w.heap.size, 9, #[.string k]), (nb, 3, #[.int .i64 p])] X) := fun a1 nb X b1 b2 p hp => by
    simp only [List.mem_cons, List.not_mem_nil, or_false] at hp
    rcases hp with rfl | rfl
    · exact b1
    · exact b2
  have HF := Lib.hid (fun (nb : Nat) (X : World) (hX : Rp B a s X) (hB : Bx a [(w.heap.size, 9, #[.string k]), (nb, 3, #[.int .i64 p])] X) => by
    have := rp_fault B a s _ _ _ _ (del_ver w.heap.size nb k p) X hX hB
    rw [hr] at this
    exact this)
  have HG := Lib.hid (fun (X : World) (hX : Rp B a s X) => by
    have := ct_get B a s k X hX
    rw [hr] at this
    exact this)
  generalize ((lookE s.tab k).getD enZero).v = gv at HG
  have HW := Lib.hid (fun (nb : Nat) (hz : enCheck (delE k ⟨1, s.site⟩ p) = 0) (X : World) (hX : Rp B a s X) (hB : Bx a [(w.heap.size, 9, #[.string k]), (nb, 3, #[.int .i64 p])] X) => by
    have hks : k.size ≤ maxLen := key_small (e := delE k ⟨1, s.site⟩ p) hz
    have := rp_write B a s _ _ _ _ (del_ver w.heap.size nb k p) k (delE k ⟨s.c + 1, s.site⟩ p) X hX hB hc0 (fun hl => by
      have hg := good_next hsi hc0.1 hl
      have hc : enCheck (delE k ⟨s.c + 1, s.site⟩ p) = 0 := by rw [del_check k p hg (good_one hsi)]; exact hz
      refine ⟨?_, hc⟩
      unfold enChecked
      rw [if_pos hc]) rfl hks ok
    rw [hr] at this
    exact this)
  have hdl : delRs s k = if enCheck (delE k ⟨1, s.site⟩ p) ≠ 0 then (s, enZero, enCheck (delE k ⟨1, s.site⟩ p)) else if liveM s.tab k = false then (s, enZero, 3) else wrR s k (delE k ⟨s.c + 1, s.site⟩ p) := by rw [← hp]; rfl
  rw [hdl]
  obtain ⟨z, hz⟩ : ∃ z, enCheck (delE k ⟨1, s.site⟩ p) = z := ⟨_, rfl⟩
  obtain ⟨lv, hlv⟩ : ∃ b, liveM s.tab k = b := ⟨_, rfl⟩
  obtain ⟨q, hq⟩ : ∃ q, wrR s k (delE k ⟨s.c + 1, s.site⟩ p) = q := ⟨_, rfl⟩
  rw [hlv] at HG
  rw [hq] at HW
  have hck : (enChecked (delE k ⟨1, s.site⟩ p)).2 = z := by
    unfold enChecked
    split
    · next h => exact h.symm.trans hz
    · exact hz
  simp only [hck] at HF
  rw [hz] at HW
  rw [hz, hlv, hq]
  obtain ⟨⟨s3, e3, z3⟩, hQ⟩ : ∃ t, (if z ≠ 0 then (s, enZero, z) else if lv = false then (s, enZero, 3) else q) = t := ⟨_, rfl⟩
  have HQ := Lib.hid hQ
  rw [hQ]
  dsimp only
  have HC5 : Hid (∀ X, Rp B a s X → X.cell? ⟨r, 5, none⟩ = some (.pointer (some ⟨a.ck, 0, none⟩)) ∧ X.cell? ⟨r, 0, none⟩ = some (.int .i64 s.o.n) ∧ X.cell? ⟨r, 2, none⟩ = some (.int .i64 s.o.r)) := fun X hX => ⟨hX.at_ hr rfl, hX.at_ hr rfl, hX.at_ hr rfl⟩
  generalize s.o.n = N at HC5 HKE
  generalize s.o.r = R at HC5 HKE
  rw [hr]
  have HR := Lib.hid hr
  clear h h1 hr hc0 hsi ok hp hdl hz hlv hq hck hQ
  go_enter Tryz.func46, Tryz.ntmps46
  go_wp2_with fail
  generalize (w.alloc (.cells #[.string k] 9)).alloc (.cells #[.string ⟨#[]⟩, .string ⟨#[]⟩, .bool false, .int .i64 0, .int .i64 0, .int .i64 0, .int .i64 0, .int .i64 0, .int .i64 0] 82) = W2 at C2 K2 M2 ⊢
  (refine wp_region_free_tail (fun X => Only none_ W2 X) (Only none_) (F := ?_) (by kernel_rfl) 17 52 (by rfl) (by kernel_rfl) (fun x => ?_) ((Only.refl none_ W2).drew) ?_; rotate_left; (· (simp only [List.take_succ_cons, List.take_zero, putsL, Act.put, List.setIfInBounds_toArray, List.set_cons_zero, List.set_cons_succ, Nat.reduceAdd]; exact rfl)); simp only [List.take_succ_cons, List.take_zero, List.drop_succ_cons, List.drop_zero])
  repeat (first
    | ((first | refine fr_value (c := ?_) (by rfl) (fun w => Only.refl none_ w) (fun x w0 hS hk => ?_) ?_ | refine fr_value_if (c := ?_) (by rfl) (by rfl) (by rfl) (fun w => Only.refl none_ w) (fun x w0 hS hk => ?_) ?_); rotate_left; (· (have hk2 := hk; (try simp [knAll, Region.binds] at hk2); obtain ⟨c5, c0, c2⟩ := HC5.out _ (C2.out.keep hS).r; go_simp; try (with_reducible rfl))); try simp only [List.nil_append, List.cons_append])
    | ((first | refine fr_some (fun v _ => v = .int .i64 s.site) (fun _ _ _ _ _ _ h => h) (by rfl) (fun x w0 hS hk => ?_) ?_ | refine fr_some_if (fun v _ => v = .int .i64 s.site) (fun _ _ _ _ _ _ h => h) (by rfl) (by rfl) (by rfl) (fun x w0 hS hk => ?_) ?_); (· (have hk2 := hk; (try simp [knAll, Region.binds] at hk2); skip; refine got_call (f := 75) (args := ?_) (by go_simp; try (with_reducible rfl)) ?_; refine (HSI.out _ (C2.out.keep hS).r).mono ?_; rintro E w8 ⟨rfl, rfl⟩; exact ⟨_, rfl, rfl, hS, Only.refl _ _⟩)); try simp only [List.nil_append, List.cons_append])
    | ((first | refine fr_some (fun v _ => v = .int .i64 p) (fun _ _ _ _ _ _ h => h) (by rfl) (fun x w0 hS hk => ?_) ?_ | refine fr_some_if (fun v _ => v = .int .i64 p) (fun _ _ _ _ _ _ h => h) (by rfl) (by rfl) (by rfl) (fun x w0 hS hk => ?_) ?_); (· (have hk2 := hk; (try simp [knAll, Region.binds] at hk2); have k4 := kn_at (j := 4) (by rfl) hk (by rfl); refine got_call (f := 95) (args := ?_) (by go_simp; try (with_reducible rfl)) ?_; refine (HKE.out _).mono ?_; rintro E w8 ⟨rfl, rfl⟩; exact ⟨_, rfl, rfl, hS, Only.refl _ _⟩)); try simp only [List.nil_append, List.cons_append]))
  ((first | refine fr_some (fun v X => ∃ b, v = .pointer (some ⟨b, 0, none⟩) ∧ W2.heap.size ≤ b ∧ Blk X b 3 #[.int .i64 0]) (fun _ _ _ _ _ r ⟨b, h1, h2, h3⟩ => ⟨b, h1, h2, h3.only r (fun h => h)⟩) (by rfl) (fun x w0 hS hk => ?_) ?_ | refine fr_some_if (fun v X => ∃ b, v = .pointer (some ⟨b, 0, none⟩) ∧ W2.heap.size ≤ b ∧ Blk X b 3 #[.int .i64 0]) (fun _ _ _ _ _ r ⟨b, h1, h2, h3⟩ => ⟨b, h1, h2, h3.only r (fun h => h)⟩) (by rfl) (by rfl) (by rfl) (fun x w0 hS hk => ?_) ?_); (· (have hk2 := hk; (try simp [knAll, Region.binds] at hk2); skip; refine got_value (v := ?_) (w' := ?_) (by go_simp; (first | with_reducible rfl | (refine ⟨?_, ?_⟩; with_reducible rfl; with_reducible rfl))) ?_; exact ⟨⟨_, rfl, hS.size, Blk.new _ _ _⟩, hS.alloc _, (Only.refl none_ _).alloc _⟩)); try simp only [List.nil_append, List.cons_append])
  (refine fr_end ?_; intro x w9 hS hk)
  have e15 := kn_end_at 15 hk (by rfl)
  obtain ⟨nb, e16, h16, B16⟩ := kn_end_at 16 hk (by rfl)
  rw [Nat.zero_add] at e15 e16
  rw [e15, e16]
  clear hk e15 e16
  have hlt2 := C2.out.r.ft_ge
  have hnb : ¬ allF a nb := fun hf => by obtain ⟨i, hi⟩ := hf; have := (hlt2 i nb hi).2; omega
  have hsz : w.heap.size + 1 < W2.heap.size := M2.out.b.lt
  have O3 : Only none_ W2 (w9.setCell ⟨nb, 0, none⟩ (.int .i64 p)) := hS.setCell (.inr h16) _
  have D3 : Hid (Dl B a w a s k p w.heap.size (w.heap.size + 1) nb (w9.setCell ⟨nb, 0, none⟩ (.int .i64 p))) :=
    ⟨C2.out.keep O3, K2.out.keep O3, M2.out.keep O3, ⟨by simpa using B16.set_ 0 (.int .i64 p), hnb⟩⟩
  have b0 := B16.cell_ (i := 0) rfl
  have f0 := B16.frozen 0
  clear hlt2 hnb hsz O3 C2 K2 M2 hS h16 B16
  by_cases hz0 : z = 0
  · have HZ := Lib.hid hz0
    have hzb : (z != 0) = false := by simpa using hz0
    have hQ := HQ.out
    rw [if_neg (by rw [hz0]; simp)] at hQ
    clear hz0 HQ
    cases lv with
    | true =>
      rw [if_neg (by simp)] at hQ
      rw [hQ] at HW
      clear hQ
      dsimp only at HW ⊢
      go_wp2_with (first
        | (go_at_call 93; refine (HF.out nb _ D3.out.c.r (HBX.out _ _ _ D3.out.k D3.out.p)).mono ?_; rintro E w4 ⟨rfl, o4⟩
           have D4 := Lib.hid (D3.out.keep o4)
           clear o4))
      (refine wp_region_steady (fun X => Only none_ w4 X) 10 (by kernel_rfl) (by kernel_rfl) ((Only.refl none_ w4).drew) ?_; simp only [List.take_succ_cons, List.take_zero, List.drop_succ_cons, List.drop_zero])
      repeat (first
        | (refine sd_value (v := ?_) (by rfl) (fun w0 hS => ?_) ?_; rotate_left; (· (have q4 := (D4.out.keep hS).k.b.cell_ (i := 0) rfl; go_simp; try (with_reducible rfl))); try simp only [Act.put, List.setIfInBounds_toArray, List.set_cons_zero, List.set_cons_succ])
        | (refine sd_call (v := ?_) (f := 22) (args := ?_) (by rfl) (fun w0 hS => ?_) (fun w0 hS => ?_) ?_; rotate_left 2; (· (have q4 := (D4.out.keep hS).k.b.cell_ (i := 0) rfl; go_simp; try (with_reducible rfl))); (· (refine (HG.out _ (D4.out.keep hS).c.r).mono ?_; rintro E w8 ⟨rfl, o8⟩; refine ⟨?_, hS.trans o8⟩; rfl)); try simp only [Act.put, List.setIfInBounds_toArray, List.set_cons_zero, List.set_cons_succ]))
      refine sd_nil ?_
      intro w5 t5
      have D5 := Lib.hid (D4.out.keep t5)
      have q5 := D5.out.k.b.cell_ (i := 0) rfl
      clear t5
      have HWZ := Lib.hid (HW.out nb HZ.out _ D5.out.c.r (HBX.out _ _ _ D5.out.k D5.out.p))
      go_wp2_with (first
        | (go_at_call 94; refine HWZ.out.mono ?_; rintro E w6 ⟨rfl, L6⟩
           obtain ⟨a6, c6, e6, b6⟩ := D5.out.c.step L6
           have C6 := Lib.hid c6
           have M6 := Lib.hid (b6 _ _ _ D5.out.m)
           clear c6 e6 b6 L6)
        | (refine wpList_store_row rfl 82 _ _ rfl (w.heap.size + 1) #[.string e3.k, .string e3.v, .bool e3.d, .int .i64 e3.s.c, .int .i64 e3.s.s, .int .i64 e3.a.c, .int .i64 e3.a.s, .int .i64 e3.p, .int .i64 e3.g] rfl rfl _ _ M6.out.b (by kernel_rfl) (by kernel_rfl) (en_cells_one _) ?_))
      refine bodyPost_ret (results_cell_tmp rfl _ _ (w.heap.size + 1) 82 #[.string e3.k, .string e3.v, .bool e3.d, .int .i64 e3.s.c, .int .i64 e3.s.s, .int .i64 e3.a.c, .int .i64 e3.a.s, .int .i64 e3.p, .int .i64 e3.g] _ rfl (M6.out.b.setRow _) Tryz.underlying82 rfl (by kernel_rfl) (.int .i64 z3) rfl) rfl ?_
      exact ⟨rfl, (C6.out.box M6.out (by omega) (only_row _ _)).left⟩
    | false =>
      rw [if_pos rfl] at hQ
      injection hQ with h1 hQ
      injection hQ with h2 h3
      subst h1 h2 h3
      clear HW
      go_wp2_with (first
        | (go_at_call 93; refine (HF.out nb _ D3.out.c.r (HBX.out _ _ _ D3.out.k D3.out.p)).mono ?_; rintro E w4 ⟨rfl, o4⟩
           have D4 := Lib.hid (D3.out.keep o4)
           clear o4))
      (refine wp_region_steady (fun X => Only none_ w4 X) 10 (by kernel_rfl) (by kernel_rfl) ((Only.refl none_ w4).drew) ?_; simp only [List.take_succ_cons, List.take_zero, List.drop_succ_cons, List.drop_zero])
      repeat (first
        | (refine sd_value (v := ?_) (by rfl) (fun w0 hS => ?_) ?_; rotate_left; (· (have q4 := (D4.out.keep hS).k.b.cell_ (i := 0) rfl; go_simp; try (with_reducible rfl))); try simp only [Act.put, List.setIfInBounds_toArray, List.set_cons_zero, List.set_cons_succ])
        | (refine sd_call (v := ?_) (f := 22) (args := ?_) (by rfl) (fun w0 hS => ?_) (fun w0 hS => ?_) ?_; rotate_left 2; (· (have q4 := (D4.out.keep hS).k.b.cell_ (i := 0) rfl; go_simp; try (with_reducible rfl))); (· (refine (HG.out _ (D4.out.keep hS).c.r).mono ?_; rintro E w8 ⟨rfl, o8⟩; refine ⟨?_, hS.trans o8⟩; rfl)); try simp only [Act.put, List.setIfInBounds_toArray, List.set_cons_zero, List.set_cons_succ]))
      refine sd_nil ?_
      intro w5 t5
      have D5 := Lib.hid (D4.out.keep t5)
      clear t5
      go_wp2_with (first
        | (refine wpList_store_row rfl 82 _ _ rfl (w.heap.size + 1) #[.string ⟨#[]⟩, .string ⟨#[]⟩, .bool false, .int .i64 0, .int .i64 0, .int .i64 0, .int .i64 0, .int .i64 0, .int .i64 0] rfl rfl _ _ D5.out.m.b (by kernel_rfl) (by kernel_rfl) (by kernel_rfl) ?_))
      refine bodyPost_ret (results_cell_tmp rfl _ _ (w.heap.size + 1) 82 #[.string ⟨#[]⟩, .string ⟨#[]⟩, .bool false, .int .i64 0, .int .i64 0, .int .i64 0, .int .i64 0, .int .i64 0, .int .i64 0] _ rfl (D5.out.m.b.setRow _) Tryz.underlying82 rfl (by kernel_rfl) (.int .i64 3) rfl) rfl ?_
      exact ⟨rfl, (D5.out.c.box D5.out.m (by omega) (only_row _ _)).left⟩
  · have hzb : (z != 0) = true := by simpa using hz0
    have hQ := HQ.out
    rw [if_pos hz0] at hQ
    injection hQ with h1 hQ
    injection hQ with h2 h3
    subst h1 h2 h3
    clear hz0 HW HQ
    go_wp2_with (first
      | (go_at_call 93; refine (HF.out nb _ D3.out.c.r (HBX.out _ _ _ D3.out.k D3.out.p)).mono ?_; rintro E w4 ⟨rfl, o4⟩
         have D4 := Lib.hid (D3.out.keep o4)
         clear o4)
      | (refine wpList_store_row rfl 82 _ _ rfl (w.heap.size + 1) #[.string ⟨#[]⟩, .string ⟨#[]⟩, .bool false, .int .i64 0, .int .i64 0, .int .i64 0, .int .i64 0, .int .i64 0, .int .i64 0] rfl rfl _ _ D4.out.m.b (by kernel_rfl) (by kernel_rfl) (by kernel_rfl) ?_))
    refine bodyPost_ret (results_cell_tmp rfl _ _ (w.heap.size + 1) 82 #[.string ⟨#[]⟩, .string ⟨#[]⟩, .bool false, .int .i64 0, .int .i64 0, .int .i64 0, .int .i64 0, .int .i64 0, .int .i64 0] _ rfl (D4.out.m.b.setRow _) Tryz.underlying82 rfl (by kernel_rfl) (.int .i64 z) rfl) rfl ?_
    exact ⟨rfl, (D4.out.c.box D4.out.m (by omega) (only_row _ _)).left⟩
end Go.Proofs.YtoohpcomnhfgpaaGreat
end
section
namespace Go.Proofs.YtoohpcomnhfgpaaGreat
open Go.RowKit
set_option maxRecDepth 100000
set_option linter.all false
theorem min_two (a b : Int) : ∀ ts t w, (Builtin.min_ ts t #[.int .i64 a, .int .i64 b]).run Tryz.prog w = .ok (.int .i64 (if b < a then b else a)) w := fun ts t w => by
  rw [run_min_int2]
set_option maxHeartbeats 6400000 in
theorem rp_see (B : World) (a : Ra) (s : Rs) (x : St) (w : World) (h : Rp B a s w) :
    Calls Tryz.prog 84 #[.pointer (some ⟨a.ck, 0, none⟩), .agg #[.int .i64 x.c, .int .i64 x.s]] w fun E w' => (∃ b, E = .returned (.bool b)) ∧ LeftP B a w { s with c := seeC s.c x } w' := by
  by_cases hg : stGood x = true
  · by_cases hl : s.c < x.c
    · refine (clk_see a.ck s.site s.c x.c x.s w h.ck hg hl).mono fun E w' ⟨he, hc, o⟩ => ⟨⟨_, he⟩, ?_⟩
      rw [seeC, if_pos ⟨hg, hl⟩]
      exact h.ck_set hc o
    · refine (clk_see_low a.ck s.site s.c x.c x.s w h.ck hg (by omega)).mono fun E w' ⟨he, hc, o⟩ => ⟨⟨_, he⟩, ?_⟩
      rw [seeC, if_neg (fun e => hl e.2)]
      exact LeftP.kept h o
  · refine (clk_see_bad a.ck s.site s.c x.c x.s w h.ck (by simpa using hg)).mono fun E w' ⟨he, hc, o⟩ => ⟨⟨_, he⟩, ?_⟩
    rw [seeC, if_neg (fun e => hg e.1)]
    exact LeftP.kept h o
set_option maxHeartbeats 25600000 in
theorem rp_expired (B : World) (a : Ra) (s : Rs) (x : En) (w : World) (h : Rp B a s w) (hx : x.d = true → 0 ≤ x.g ∧ x.g ≤ 2147483647) :
    Calls Tryz.prog 87 #[.pointer (some ⟨a.r, 0, none⟩), .agg #[.string x.k, .string x.v, .bool x.d, .int .i64 x.s.c, .int .i64 x.s.s, .int .i64 x.a.c, .int .i64 x.a.s, .int .i64 x.p, .int .i64 x.g]] w fun E w' => E = .returned (.bool (lateM s.o x)) ∧ Only none_ w w' := by
  have HC : Hid (∀ X, Only none_ w X → X.cell? ⟨a.r, 3, none⟩ = some (.int .i64 s.o.t1)) := fun X o => (h.keep o).bk.cell_ (i := 3) rfl
  have hlm : lateM s.o x = (x.d && !decide (s.o.t1 = 0) && decide (s.o.t1 ≤ x.g + 1)) := rfl
  rw [hlm]
  generalize s.o.t1 = t1 at HC ⊢
  obtain ⟨k, v, d, ⟨sc, ss⟩, ⟨ac, as_⟩, p, g⟩ := x
  dsimp only at hx ⊢
  have O2 := Lib.hid ((Only.refl none_ w).alloc (.cells #[.string k, .string v, .bool d, .int .i64 sc, .int .i64 ss, .int .i64 ac, .int .i64 as_, .int .i64 p, .int .i64 g] 82))
  have HB := Lib.hid (Blk.new w 82 #[.string k, .string v, .bool d, .int .i64 sc, .int .i64 ss, .int .i64 ac, .int .i64 as_, .int .i64 p, .int .i64 g])
  clear h hlm
  cases d with
  | false =>
    clear hx
    go_enter Tryz.func87, Tryz.ntmps87
    go_wp2_with fail
    generalize w.alloc (.cells #[.string k, .string v, .bool false, .int .i64 sc, .int .i64 ss, .int .i64 ac, .int .i64 as_, .int .i64 p, .int .i64 g] 82) = W2 at O2 HB ⊢
    (refine wp_region_steady (fun X => Only none_ W2 X) 22 (by kernel_rfl) (by kernel_rfl) ((Only.refl none_ W2).drew) ?_; simp only [List.take_succ_cons, List.take_zero, List.drop_succ_cons, List.drop_zero])
    repeat (first
      | (refine sd_value (v := ?_) (by rfl) (fun w0 hS => ?_) ?_; rotate_left; (· (have qq := nine_of (HB.out.only hS (fun h => h)); have c3 := HC.out _ (O2.out.trans hS); go_simp; try (with_reducible rfl))); try simp only [Act.put, List.setIfInBounds_toArray, List.set_cons_zero, List.set_cons_succ])
      | (refine sd_skip (by rfl) ?_; try simp only [Act.put, List.setIfInBounds_toArray, List.set_cons_zero, List.set_cons_succ]))
    refine sd_nil ?_
    intro w5 t5
    have T5 := Lib.hid (O2.out.trans t5)
    clear t5
    go_wp2_with fail
    go_ret
    exact ⟨rfl, T5.out⟩
  | true =>
    have hg := hx rfl
    obtain ⟨g1, hg1⟩ : ∃ y, g + 1 = y := ⟨_, rfl⟩
    have hw : IntKind.i64.wrap (g + 1) = g1 := (IntWalk.i64_in _ (by omega)).trans hg1
    rw [hg1]
    clear hx hg hg1
    by_cases ht : t1 = 0
    · have hd0 : (t1 != 0) = false := by simp [ht]
      have HT : Hid (decide (t1 = 0) = true) := by simp [Hid, ht]
      clear ht
      go_enter Tryz.func87, Tryz.ntmps87
      go_wp2_with fail
      generalize w.alloc (.cells #[.string k, .string v, .bool true, .int .i64 sc, .int .i64 ss, .int .i64 ac, .int .i64 as_, .int .i64 p, .int .i64 g] 82) = W2 at O2 HB ⊢
      (refine wp_region_steady (fun X => Only none_ W2 X) 22 (by kernel_rfl) (by kernel_rfl) ((Only.refl none_ W2).drew) ?_; simp only [List.take_succ_cons, List.take_zero, List.drop_succ_cons, List.drop_zero])
      repeat (first
        | (refine sd_value (v := ?_) (by rfl) (fun w0 hS => ?_) ?_; rotate_left; (· (have qq := nine_of (HB.out.only hS (fun h => h)); have c3 := HC.out _ (O2.out.trans hS); go_simp; try (with_reducible rfl))); try simp only [Act.put, List.setIfInBounds_toArray, List.set_cons_zero, List.set_cons_succ])
        | (refine sd_skip (by rfl) ?_; try simp only [Act.put, List.setIfInBounds_toArray, List.set_cons_zero, List.set_cons_succ]))
      refine sd_nil ?_
      intro w5 t5
      have T5 := Lib.hid (O2.out.trans t5)
      clear t5
      go_wp2_with fail
      go_ret
      exact ⟨by rw [HT.out]; rfl, T5.out⟩
    · have hd0 : (t1 != 0) = true := by simpa using ht
      have HT : Hid (decide (t1 = 0) = false) := by simp [Hid, ht]
      obtain ⟨b, hb⟩ : ∃ b, decide (t1 ≤ g1) = b := ⟨_, rfl⟩
      rw [hb]
      clear ht
      go_enter Tryz.func87, Tryz.ntmps87
      go_wp2_with fail
      generalize w.alloc (.cells #[.string k, .string v, .bool true, .int .i64 sc, .int .i64 ss, .int .i64 ac, .int .i64 as_, .int .i64 p, .int .i64 g] 82) = W2 at O2 HB ⊢
      (refine wp_region_steady (fun X => Only none_ W2 X) 22 (by kernel_rfl) (by kernel_rfl) ((Only.refl none_ W2).drew) ?_; simp only [List.take_succ_cons, List.take_zero, List.drop_succ_cons, List.drop_zero])
      repeat (first
        | (refine sd_value (v := ?_) (by rfl) (fun w0 hS => ?_) ?_; rotate_left; (· (have qq := nine_of (HB.out.only hS (fun h => h)); have c3 := HC.out _ (O2.out.trans hS); go_simp; try (with_reducible rfl))); try simp only [Act.put, List.setIfInBounds_toArray, List.set_cons_zero, List.set_cons_succ])
        | (refine sd_skip (by rfl) ?_; try simp only [Act.put, List.setIfInBounds_toArray, List.set_cons_zero, List.set_cons_succ]))
      refine sd_nil ?_
      intro w5 t5
      have T5 := Lib.hid (O2.out.trans t5)
      clear t5
      go_wp2_with fail
      go_ret
      exact ⟨by rw [HT.out]; rfl, T5.out⟩
theorem age_look (o : Ro) (l : List En) (x : En) : ageM o l x = if x.d = false ∨ o.t1 = 0 then 0 else if ((lookE l x.k).getD enZero).d = true ∧ ((lookE l x.k).getD enZero).g < x.g + 1 then ((lookE l x.k).getD enZero).g else x.g + 1 := by
  unfold ageM
  split
  · rfl
  · cases lookE l x.k with
    | none => rw [if_neg (by simp [enZero])]
    | some was => rfl
set_option maxHeartbeats 25600000 in
theorem rp_age (B : World) (a : Ra) (s : Rs) (x : En) (w : World) (h : Rp B a s w) (hx : x.d = true → 0 ≤ x.g ∧ x.g ≤ 2147483647) :
    Calls Tryz.prog 146 #[.pointer (some ⟨a.r, 0, none⟩), .agg #[.string x.k, .string x.v, .bool x.d, .int .i64 x.s.c, .int .i64 x.s.s, .int .i64 x.a.c, .int .i64 x.a.s, .int .i64 x.p, .int .i64 x.g]] w fun E w' => E = .returned (.int .i64 (ageM s.o s.tab x)) ∧ Only none_ w w' := by
  rw [age_look]
  have HE := Lib.hid (fun (X : World) (o : Only none_ w X) => ct_entry B a s x.k X (h.keep o))
  have HC : Hid (∀ X, Only none_ w X → X.cell? ⟨a.r, 3, none⟩ = some (.int .i64 s.o.t1)) := fun X o => (h.keep o).bk.cell_ (i := 3) rfl
  obtain ⟨e, he⟩ : ∃ e, (lookE s.tab x.k).getD enZero = e := ⟨_, rfl⟩
  rw [he] at HE ⊢
  generalize hasE s.tab x.k = hs at HE
  generalize s.o.t1 = t1 at HC ⊢
  obtain ⟨k, v, d, ⟨sc, ss⟩, ⟨ac, as_⟩, p, g⟩ := x
  dsimp only at hx HE ⊢
  have O2 := Lib.hid ((Only.refl none_ w).alloc (.cells #[.string k, .string v, .bool d, .int .i64 sc, .int .i64 ss, .int .i64 ac, .int .i64 as_, .int .i64 p, .int .i64 g] 82))
  have HB := Lib.hid (Blk.new w 82 #[.string k, .string v, .bool d, .int .i64 sc, .int .i64 ss, .int .i64 ac, .int .i64 as_, .int .i64 p, .int .i64 g])
  have qq := nine_of HB.out
  clear h he
  cases d with
  | false =>
    rw [if_pos (.inl rfl)]
    clear hx
    go_enter Tryz.func146, Tryz.ntmps146
    go_wp2_with fail
    go_ret
    exact ⟨rfl, O2.out⟩
  | true =>
    have hg := hx rfl
    obtain ⟨g1, hg1⟩ : ∃ y, g + 1 = y := ⟨_, rfl⟩
    have hw : IntKind.i64.wrap (g + 1) = g1 := (IntWalk.i64_in _ (by omega)).trans hg1
    rw [hg1]
    clear hx hg hg1
    have c3 := HC.out _ O2.out
    by_cases ht : t1 = 0
    · rw [if_pos (.inr ht)]
      have hd0 : (t1 == 0) = true := by simp [ht]
      clear ht
      go_enter Tryz.func146, Tryz.ntmps146
      go_wp2_with fail
      go_ret
      exact ⟨rfl, O2.out⟩
    · rw [if_neg (by simp [ht])]
      have hd0 : (t1 == 0) = false := by simpa using ht
      clear ht
      obtain ⟨ek, vv, d, ⟨esc, ess⟩, ⟨eac, eas⟩, ep, eg⟩ := e
      dsimp only at HE ⊢
      obtain ⟨R, hR⟩ : ∃ R, (if d = true ∧ eg < g1 then eg else g1) = R := ⟨_, rfl⟩
      rw [hR]
      have HRR := Lib.hid hR
      clear hR
      go_enter Tryz.func146, Tryz.ntmps146
      go_upto_region 4 with fail
      obtain ⟨wa, hwa⟩ : ∃ wa, w.alloc (.cells #[.string k, .string v, .bool true, .int .i64 sc, .int .i64 ss, .int .i64 ac, .int .i64 as_, .int .i64 p, .int .i64 g] 82) = wa := ⟨_, rfl⟩
      rw [hwa] at HB O2 ⊢
      clear hwa c3 qq
      go_cut [6, 7] (fun s5 s6 w' => Gk wa ⟨ek, vv, d, ⟨esc, ess⟩, ⟨eac, eas⟩, ep, eg⟩ hs s5 s6 w')
      case rest =>
        obtain ⟨b, rfl, rfl, hb, B6, o6⟩ := hcut
        obtain ⟨t0, t1_, t2, t3, t4, t5, t6, t7, t8⟩ := nine_of B6
        have O6 := Lib.hid (O2.out.trans o6)
        clear o6 B6 hb
        cases d with
        | false =>
          have hR := HRR.out
          rw [if_neg (by simp)] at hR
          subst hR
          go_wp2_with fail
          go_ret
          exact ⟨rfl, O6.out⟩
        | true =>
          have hmin := min_two g1 eg
          have hR := HRR.out
          have hif : (if true = true ∧ eg < g1 then eg else g1) = (if eg < g1 then eg else g1) := by simp
          rw [hif] at hR
          rw [hR] at hmin
          clear hif hR
          go_wp2_with fail
          go_ret
          exact ⟨rfl, O6.out⟩
      case first =>
        have q0 := (Blk.drew HB.out).cell_ (i := 0) rfl
        have u0 := (Blk.drew (HB.out.alloc (.cells #[.string ⟨#[]⟩, .string ⟨#[]⟩, .bool false, .int .i64 0, .int .i64 0, .int .i64 0, .int .i64 0, .int .i64 0, .int .i64 0] 82))).cell_ (i := 0) rfl
        have BN := Lib.hid (Blk.drew (Blk.new wa 82 #[.string ⟨#[]⟩, .string ⟨#[]⟩, .bool false, .int .i64 0, .int .i64 0, .int .i64 0, .int .i64 0, .int .i64 0, .int .i64 0]))
        go_region_law (first
          | (refine Se.step_call (by simp [Region.wanted]) 24 #[.pointer (some ⟨a.r, 6, none⟩), .string k] (by go_simp; try (with_reducible rfl)) ?_
             refine (HE.out _ (by first | exact O2.out.drew | exact (O2.out.alloc _).drew)).mono ?_
             rintro E w1 ⟨rfl, o1⟩
             refine ⟨_, rfl, ?_⟩
             have O1 : Hid (Only none_ wa w1) := by first | exact ((Only.refl none_ wa).drew).trans o1 | exact (((Only.refl none_ wa).alloc _).drew).trans o1
             try (have B1 := Lib.hid (BN.out.only o1 (fun h => h)); have q1 := nine_of B1.out; have z1 := frozen9 B1.out)
             have B2 := Lib.hid (Blk.new w1 82 #[.string ⟨#[]⟩, .string ⟨#[]⟩, .bool false, .int .i64 0, .int .i64 0, .int .i64 0, .int .i64 0, .int .i64 0, .int .i64 0])
             have q2 := nine_of B2.out
             have z2 := frozen9 B2.out
             clear o1))
        all_goals go_wp2_with fail
        all_goals go_meet
        all_goals first
          | exact ⟨_, rfl, rfl, O1.out.size, Blk.new _ _ _, O1.out.alloc _⟩
          | exact Gk.of (x := enZero) (e := ⟨ek, vv, d, ⟨esc, ess⟩, ⟨eac, eas⟩, ep, eg⟩) O1.out B1.out (Nat.le_refl _)
end Go.Proofs.YtoohpcomnhfgpaaGreat
end
section
namespace Go.Proofs.YtoohpcomnhfgpaaGreat
open Go.RowKit
set_option maxRecDepth 100000
set_option linter.all false
theorem young_look (o : Ro) (l : List En) (x : En) : youngM o l x = if (((lookE l x.k).getD enZero).d && x.d) = true then setE { ((lookE l x.k).getD enZero) with g := ageM o l x } l else l := by
  unfold youngM
  cases lookE l x.k <;> rfl
set_option maxHeartbeats 25600000 in
theorem rp_younger (B : World) (a : Ra) (s : Rs) (x : En) (w : World) (h : Rp B a s w) (hx : x.d = true → 0 ≤ x.g ∧ x.g ≤ 2147483647) :
    Calls Tryz.prog 86 #[.pointer (some ⟨a.r, 0, none⟩), .agg #[.string x.k, .string x.v, .bool x.d, .int .i64 x.s.c, .int .i64 x.s.s, .int .i64 x.a.c, .int .i64 x.a.s, .int .i64 x.p, .int .i64 x.g]] w fun E w' => E = .returned (.tuple #[]) ∧ LeftP B a w { s with tab := youngM s.o s.tab x } w' := by
  rw [young_look]
  have HE := Lib.hid (fun (X : World) (o : Only none_ w X) => ct_entry B a s x.k X (h.keep o))
  have HAG := Lib.hid (fun (X : World) (o : Only none_ w X) => rp_age B a s x X (h.keep o) hx)
  obtain ⟨e, he⟩ : ∃ e, (lookE s.tab x.k).getD enZero = e := ⟨_, rfl⟩
  have HSA : Hid (e.d = true → ∀ (X : World) (o : Only none_ w X), Calls Tryz.prog 99 #[.pointer (some ⟨a.r, 6, none⟩), .agg #[.string e.k, .string e.v, .bool e.d, .int .i64 e.s.c, .int .i64 e.s.s, .int .i64 e.a.c, .int .i64 e.a.s, .int .i64 e.p, .int .i64 e.g], .int .i64 (ageM s.o s.tab x)] X fun E w' => E = .returned (.tuple #[]) ∧ LeftP B a w { s with tab := setE { e with g := ageM s.o s.tab x } s.tab } w') := fun hd X o => by
    refine (ct_age B a s e (ageM s.o s.tab x) X (h.keep o) ?_).mono fun E w' h2 => ⟨h2.1, h2.2.after0 o⟩
    cases hl : lookE s.tab x.k with
    | none => rw [hl] at he; rw [← he] at hd; cases hd
    | some was =>
      rw [hl] at he
      obtain rfl : was = e := he
      exact hasE_mem (look_some hl).1
  have HKE := Lib.hid (fun (X : World) (o : Only none_ w X) => LeftP.kept h o)
  rw [he] at HE ⊢
  generalize hasE s.tab x.k = hs at HE
  generalize ageM s.o s.tab x = age at HAG HSA ⊢
  obtain ⟨s2, hs2⟩ : ∃ s2, ({ s with tab := if (e.d && x.d) = true then setE { e with g := age } s.tab else s.tab } : Rs) = s2 := ⟨_, rfl⟩
  have HS2 := Lib.hid hs2
  rw [hs2]
  obtain ⟨k, v, d, ⟨sc, ss⟩, ⟨ac, as_⟩, p, g⟩ := x
  obtain ⟨ek, vv, ed, ⟨esc, ess⟩, ⟨eac, eas⟩, ep, eg⟩ := e
  dsimp only at HE HAG HSA HS2 ⊢
  have O2 := Lib.hid ((Only.refl none_ w).alloc (.cells #[.string k, .string v, .bool d, .int .i64 sc, .int .i64 ss, .int .i64 ac, .int .i64 as_, .int .i64 p, .int .i64 g] 82))
  have HB := Lib.hid (Blk.new w 82 #[.string k, .string v, .bool d, .int .i64 sc, .int .i64 ss, .int .i64 ac, .int .i64 as_, .int .i64 p, .int .i64 g])
  clear h he hx hs2
  go_enter Tryz.func86, Tryz.ntmps86
  go_upto_region 1 with fail
  obtain ⟨wa, hwa⟩ : ∃ wa, w.alloc (.cells #[.string k, .string v, .bool d, .int .i64 sc, .int .i64 ss, .int .i64 ac, .int .i64 as_, .int .i64 p, .int .i64 g] 82) = wa := ⟨_, rfl⟩
  rw [hwa] at HB O2 ⊢
  clear hwa
  go_cut [4, 5] (fun s5 s6 w' => Gk wa ⟨ek, vv, ed, ⟨esc, ess⟩, ⟨eac, eas⟩, ep, eg⟩ hs s5 s6 w')
  case rest =>
    obtain ⟨b, rfl, rfl, hb, B6, o6⟩ := hcut
    have q6 := nine_of B6
    have qb := nine_of (HB.out.only o6 (fun h => h))
    have HB6 := Lib.hid (HB.out.only o6 (fun h => h))
    have BE6 := Lib.hid B6
    have O6 := Lib.hid (O2.out.trans o6)
    clear o6 B6 hb
    cases ed with
    | false =>
      have hs2 := HS2.out
      rw [if_neg (by simp)] at hs2
      subst hs2
      go_wp2_with fail
      go_end0
      exact ⟨rfl, HKE.out _ O6.out⟩
    | true =>
      cases d with
      | false =>
        have hs2 := HS2.out
        rw [if_neg (by simp)] at hs2
        subst hs2
        go_wp2_with fail
        go_end0
        exact ⟨rfl, HKE.out _ O6.out⟩
      | true =>
        have hs2 := HS2.out
        rw [if_pos (by simp)] at hs2
        subst hs2
        have HSB := Lib.hid (HSA.out rfl)
        clear HSA HS2
        go_wp2_with fail
        (refine wp_region_steady (fun X => Only none_ wc X) 7 (by kernel_rfl) (by kernel_rfl) ((Only.refl none_ wc).drew) ?_; simp only [List.take_succ_cons, List.take_zero, List.drop_succ_cons, List.drop_zero])
        repeat (first
          | (refine sd_value (v := ?_) (by rfl) (fun w0 hS => ?_) ?_; rotate_left; (· (skip; go_simp; try (with_reducible rfl))); try simp only [Act.put, List.setIfInBounds_toArray, List.set_cons_zero, List.set_cons_succ])
          | (refine sd_value (v := ?_) (by rfl) (fun w0 hS => ?_) ?_; rotate_left; (· (have qq := nine_of (BE6.out.only hS (fun h => h)); go_simp; try (with_reducible rfl))); try simp only [Act.put, List.setIfInBounds_toArray, List.set_cons_zero, List.set_cons_succ])
          | (refine sd_value (v := ?_) (by rfl) (fun w0 hS => ?_) ?_; rotate_left; (· (have qq := nine_of (HB6.out.only hS (fun h => h)); go_simp; try (with_reducible rfl))); try simp only [Act.put, List.setIfInBounds_toArray, List.set_cons_zero, List.set_cons_succ])
          | (refine sd_call (v := ?_) (f := 146) (args := ?_) (by rfl) (fun w0 hS => ?_) (fun w0 hS => ?_) ?_; rotate_left 2; (· (skip; go_simp; try (with_reducible rfl))); (· (refine (HAG.out _ (O6.out.trans hS)).mono ?_; rintro E w8 ⟨rfl, o8⟩; refine ⟨?_, hS.trans o8⟩; rfl)); try simp only [Act.put, List.setIfInBounds_toArray, List.set_cons_zero, List.set_cons_succ]))
        refine sd_nil ?_
        intro w7 t7
        have O7 := Lib.hid (O6.out.trans t7)
        clear t7 q6 qb
        go_wp2_with (first
          | (go_at_call 99; refine (HSB.out _ O7.out).mono ?_; rintro E w8 ⟨rfl, L8⟩
             have L := Lib.hid L8
             clear L8))
        go_end0
        exact ⟨rfl, L.out⟩
  case first =>
    have q0 := (Blk.drew HB.out).cell_ (i := 0) rfl
    have u0 := (Blk.drew (HB.out.alloc (.cells #[.string ⟨#[]⟩, .string ⟨#[]⟩, .bool false, .int .i64 0, .int .i64 0, .int .i64 0, .int .i64 0, .int .i64 0, .int .i64 0] 82))).cell_ (i := 0) rfl
    have BN := Lib.hid (Blk.drew (Blk.new wa 82 #[.string ⟨#[]⟩, .string ⟨#[]⟩, .bool false, .int .i64 0, .int .i64 0, .int .i64 0, .int .i64 0, .int .i64 0, .int .i64 0]))
    go_region_law (first
      | (refine Se.step_call (by simp [Region.wanted]) 24 #[.pointer (some ⟨a.r, 6, none⟩), .string k] (by go_simp; try (with_reducible rfl)) ?_
         refine (HE.out _ (by first | exact O2.out.drew | exact (O2.out.alloc _).drew)).mono ?_
         rintro E w1 ⟨rfl, o1⟩
         refine ⟨_, rfl, ?_⟩
         have O1 : Hid (Only none_ wa w1) := by first | exact ((Only.refl none_ wa).drew).trans o1 | exact (((Only.refl none_ wa).alloc _).drew).trans o1
         try (have B1 := Lib.hid (BN.out.only o1 (fun h => h)); have q1 := nine_of B1.out; have z1 := frozen9 B1.out)
         have B2 := Lib.hid (Blk.new w1 82 #[.string ⟨#[]⟩, .string ⟨#[]⟩, .bool false, .int .i64 0, .int .i64 0, .int .i64 0, .int .i64 0, .int .i64 0, .int .i64 0])
         have q2 := nine_of B2.out
         have z2 := frozen9 B2.out
         clear o1))
    all_goals go_wp2_with fail
    all_goals go_meet
    all_goals first
      | exact ⟨_, rfl, rfl, O1.out.size, Blk.new _ _ _, O1.out.alloc _⟩
      | exact Gk.of (x := enZero) (e := ⟨ek, vv, ed, ⟨esc, ess⟩, ⟨eac, eas⟩, ep, eg⟩) O1.out B1.out (Nat.le_refl _)
end Go.Proofs.YtoohpcomnhfgpaaGreat
end
section
namespace Go.Proofs.YtoohpcomnhfgpaaGreat
open Go.RowKit
set_option maxRecDepth 100000
set_option linter.all false
set_option maxHeartbeats 25600000 in
theorem rp_aged (B : World) (a : Ra) (s : Rs) (x : En) (w : World) (h : Rp B a s w) (hx : x.d = true → 0 ≤ x.g ∧ x.g ≤ 2147483647) (ok : Rky s) (hc : enCheck { x with g := ageM s.o s.tab x } = 0) (hf : fullM s.o s.tab x.k = false) :
    Calls Tryz.prog 149 #[.pointer (some ⟨a.r, 0, none⟩), .agg #[.string x.k, .string x.v, .bool x.d, .int .i64 x.s.c, .int .i64 x.s.s, .int .i64 x.a.c, .int .i64 x.a.s, .int .i64 x.p, .int .i64 x.g]] w fun E w' => E = .returned (.tuple #[.agg #[.string (dnR s { x with g := ageM s.o s.tab x }).2.1.k, .string (dnR s { x with g := ageM s.o s.tab x }).2.1.v, .bool (dnR s { x with g := ageM s.o s.tab x }).2.1.d, .int .i64 (dnR s { x with g := ageM s.o s.tab x }).2.1.s.c, .int .i64 (dnR s { x with g := ageM s.o s.tab x }).2.1.s.s, .int .i64 (dnR s { x with g := ageM s.o s.tab x }).2.1.a.c, .int .i64 (dnR s { x with g := ageM s.o s.tab x }).2.1.a.s, .int .i64 (dnR s { x with g := ageM s.o s.tab x }).2.1.p, .int .i64 (dnR s { x with g := ageM s.o s.tab x }).2.1.g], .int .i64 (dnR s { x with g := ageM s.o s.tab x }).2.2]) ∧ LeftP B a w (dnR s { x with g := ageM s.o s.tab x }).1 w' := by
  obtain ⟨r, hr⟩ : ∃ r, a.r = r := ⟨_, rfl⟩
  have C2 := Lib.hid (((Cy.begin h).keep ((Only.refl none_ w).alloc (.cells #[.string x.k, .string x.v, .bool x.d, .int .i64 x.s.c, .int .i64 x.s.s, .int .i64 x.a.c, .int .i64 x.a.s, .int .i64 x.p, .int .i64 x.g] 82))).keep ((Only.refl none_ _).alloc (.cells #[.string ⟨#[]⟩, .string ⟨#[]⟩, .bool false, .int .i64 0, .int .i64 0, .int .i64 0, .int .i64 0, .int .i64 0, .int .i64 0] 82)))
  have N2 : Hid (Bn a w.heap.size 82 #[.string x.k, .string x.v, .bool x.d, .int .i64 x.s.c, .int .i64 x.s.s, .int .i64 x.a.c, .int .i64 x.a.s, .int .i64 x.p, .int .i64 x.g] ((w.alloc (.cells #[.string x.k, .string x.v, .bool x.d, .int .i64 x.s.c, .int .i64 x.s.s, .int .i64 x.a.c, .int .i64 x.a.s, .int .i64 x.p, .int .i64 x.g] 82)).alloc (.cells #[.string ⟨#[]⟩, .string ⟨#[]⟩, .bool false, .int .i64 0, .int .i64 0, .int .i64 0, .int .i64 0, .int .i64 0, .int .i64 0] 82))) := (Bn.new h).keep ((Only.refl none_ _).alloc _)
  have M2 : Hid (Bn a (w.heap.size + 1) 82 #[.string ⟨#[]⟩, .string ⟨#[]⟩, .bool false, .int .i64 0, .int .i64 0, .int .i64 0, .int .i64 0, .int .i64 0, .int .i64 0] ((w.alloc (.cells #[.string x.k, .string x.v, .bool x.d, .int .i64 x.s.c, .int .i64 x.s.s, .int .i64 x.a.c, .int .i64 x.a.s, .int .i64 x.p, .int .i64 x.g] 82)).alloc (.cells #[.string ⟨#[]⟩, .string ⟨#[]⟩, .bool false, .int .i64 0, .int .i64 0, .int .i64 0, .int .i64 0, .int .i64 0, .int .i64 0] 82))) := by
    have := Bn.new (t := 82) (cs := #[.string ⟨#[]⟩, .string ⟨#[]⟩, .bool false, .int .i64 0, .int .i64 0, .int .i64 0, .int .i64 0, .int .i64 0, .int .i64 0]) (h.keep ((Only.refl none_ w).alloc (.cells #[.string x.k, .string x.v, .bool x.d, .int .i64 x.s.c, .int .i64 x.s.s, .int .i64 x.a.c, .int .i64 x.a.s, .int .i64 x.p, .int .i64 x.g] 82)))
    rwa [World.size_alloc] at this
  have HAG := Lib.hid (fun (X : World) (hX : Rp B a s X) => by
    have := rp_age B a s x X hX hx
    rw [hr] at this
    exact this)
  have HDN := Lib.hid (fun (X : World) (hX : Rp B a s X) => by
    have := rp_down B a s { x with g := ageM s.o s.tab x } X hX ok hc hf
    rw [hr] at this
    exact this)
  obtain ⟨⟨s2, e2, z2⟩, hq⟩ : ∃ q, dnR s { x with g := ageM s.o s.tab x } = q := ⟨_, rfl⟩
  rw [hq] at HDN ⊢
  generalize ageM s.o s.tab x = age at HAG HDN
  dsimp only at HDN ⊢
  have q2 := nine_of N2.out.b
  rw [hr]
  clear h hr hx ok hc hf hq
  go_enter Tryz.func149, Tryz.ntmps149
  go_wp2_with (first
    | (go_at_call 146; refine (HAG.out _ C2.out.r).mono ?_; rintro E w3 ⟨rfl, o3⟩
       have C3 := Lib.hid (C2.out.keep o3)
       have N3 := Lib.hid (N2.out.keep o3)
       have M3 := Lib.hid (M2.out.keep o3)
       have f3 := N3.out.b.frozen 8
       have q3 := N3.out.b.cell_ (i := 8) rfl
       have C4 := Lib.hid (C3.out.box N3.out (Nat.le_refl _) (Only.set_one w.heap.size 8 (.int .i64 age) w3))
       have N4 : Hid (Bn a w.heap.size 82 #[.string ({ x with g := age } : En).k, .string ({ x with g := age } : En).v, .bool ({ x with g := age } : En).d, .int .i64 ({ x with g := age } : En).s.c, .int .i64 ({ x with g := age } : En).s.s, .int .i64 ({ x with g := age } : En).a.c, .int .i64 ({ x with g := age } : En).a.s, .int .i64 ({ x with g := age } : En).p, .int .i64 ({ x with g := age } : En).g] (w3.setCell ⟨w.heap.size, 8, none⟩ (.int .i64 age))) := ⟨by have := N3.out.b.set_ 8 (.int .i64 age); simpa using this, N3.out.n⟩
       have M4 := Lib.hid (M3.out.box (by omega) (Only.set_one w.heap.size 8 (.int .i64 age) w3))
       have q4 := nine_of N4.out.b
       clear o3)
    | (go_at_call 194; refine (HDN.out _ C4.out.r).mono ?_; rintro E w5 ⟨rfl, L5⟩
       obtain ⟨a5, c5, e5, b5⟩ := C4.out.step L5
       have C5 := Lib.hid c5
       have M5 := Lib.hid (b5 _ _ _ M4.out)
       clear c5 e5 b5 L5)
    | (refine wpList_store_row rfl 82 _ _ rfl (w.heap.size + 1) #[.string e2.k, .string e2.v, .bool e2.d, .int .i64 e2.s.c, .int .i64 e2.s.s, .int .i64 e2.a.c, .int .i64 e2.a.s, .int .i64 e2.p, .int .i64 e2.g] rfl rfl _ _ M5.out.b (by kernel_rfl) (by kernel_rfl) (en_cells_one _) ?_))
  refine bodyPost_ret (results_cell_tmp rfl _ _ (w.heap.size + 1) 82 #[.string e2.k, .string e2.v, .bool e2.d, .int .i64 e2.s.c, .int .i64 e2.s.s, .int .i64 e2.a.c, .int .i64 e2.a.s, .int .i64 e2.p, .int .i64 e2.g] _ rfl (M5.out.b.setRow _) Tryz.underlying82 rfl (by kernel_rfl) (.int .i64 z2) rfl) rfl ?_
  exact ⟨rfl, (C5.out.box M5.out (by omega) (only_row _ _)).left⟩
set_option maxHeartbeats 3200000 in
theorem wake_clo (n1 : Nat) (e : En) (st : St) (w : World) (h1 : Blk w n1 82 #[.string e.k, .string e.v, .bool e.d, .int .i64 e.s.c, .int .i64 e.s.s, .int .i64 e.a.c, .int .i64 e.a.s, .int .i64 e.p, .int .i64 e.g]) :
    Calls Tryz.prog 196 #[.agg #[.int .i64 st.c, .int .i64 st.s], .pointer (some ⟨n1, 0, none⟩)] w fun E w' => E = .returned (.tuple #[.agg #[.string (enWake e st).1.k, .string (enWake e st).1.v, .bool (enWake e st).1.d, .int .i64 (enWake e st).1.s.c, .int .i64 (enWake e st).1.s.s, .int .i64 (enWake e st).1.a.c, .int .i64 (enWake e st).1.a.s, .int .i64 (enWake e st).1.p, .int .i64 (enWake e st).1.g], .int .i64 (enWake e st).2]) ∧ Only none_ w w' := by
  have O := Lib.hid (((Only.refl none_ w).alloc (.cells #[.int .i64 st.c, .int .i64 st.s] 80)).alloc (.cells #[.string ⟨#[]⟩, .string ⟨#[]⟩, .bool false, .int .i64 0, .int .i64 0, .int .i64 0, .int .i64 0, .int .i64 0, .int .i64 0] 82))
  have BZ := Lib.hid (blk_more (w := w) (t := 80) (u := 82) #[.int .i64 st.c, .int .i64 st.s] #[.string ⟨#[]⟩, .string ⟨#[]⟩, .bool false, .int .i64 0, .int .i64 0, .int .i64 0, .int .i64 0, .int .i64 0, .int .i64 0])
  have B1 := Lib.hid ((Blk.new w 80 #[.int .i64 st.c, .int .i64 st.s]).alloc (.cells #[.string ⟨#[]⟩, .string ⟨#[]⟩, .bool false, .int .i64 0, .int .i64 0, .int .i64 0, .int .i64 0, .int .i64 0, .int .i64 0] 82))
  have c1 := nine_of (h1.only O.out (fun h => h))
  have c3 := two_of B1.out
  have HC := Lib.hid (fun w => en_wake e st w)
  obtain ⟨⟨e2, z⟩, hr⟩ : ∃ r, enWake e st = r := ⟨_, rfl⟩
  rw [hr] at HC ⊢
  clear hr h1
  dsimp only at HC ⊢
  go_enter Tryz.func196, Tryz.ntmps196
  go_wp2_with (first
    | (go_at_call 197; refine (HC.out _).mono ?_; rintro E w1 ⟨rfl, o1⟩
       have O1 := Lib.hid (O.out.trans o1)
       have B4 := Lib.hid (BZ.out.only o1 (fun h => h))
       clear o1)
    | (refine wpList_store_row rfl 82 _ _ rfl (w.heap.size + 1) #[.string e2.k, .string e2.v, .bool e2.d, .int .i64 e2.s.c, .int .i64 e2.s.s, .int .i64 e2.a.c, .int .i64 e2.a.s, .int .i64 e2.p, .int .i64 e2.g] rfl rfl _ _ B4.out (by kernel_rfl) (by kernel_rfl) (en_cells_one _) ?_))
  refine bodyPost_ret (results_cell_tmp rfl _ _ (w.heap.size + 1) 82 #[.string e2.k, .string e2.v, .bool e2.d, .int .i64 e2.s.c, .int .i64 e2.s.s, .int .i64 e2.a.c, .int .i64 e2.a.s, .int .i64 e2.p, .int .i64 e2.g] _ rfl (B4.out.setRow _) Tryz.underlying82 rfl (by kernel_rfl) (.int .i64 z) rfl) rfl ?_
  exact ⟨rfl, O1.out.setRow (.inr (by omega)) _⟩
theorem wake_ver (n1 : Nat) (e : En) : Ver 196 #[.pointer (some ⟨n1, 0, none⟩)] [(n1, 82, #[.string e.k, .string e.v, .bool e.d, .int .i64 e.s.c, .int .i64 e.s.s, .int .i64 e.a.c, .int .i64 e.a.s, .int .i64 e.p, .int .i64 e.g])] (fun st => enWake e st) :=
  ⟨fun args w => enters_ Tryz.func196 rfl rfl args w, fun X st hb => wake_clo n1 e st X (hb _ List.mem_cons_self)⟩
def Gw (B : World) (a0 : Ra) (w0 : World) (a : Ra) (s : Rs) (e : En) (n1 : Nat) (s6 : Value) (w' : World) : Prop := ∃ b, s6 = .pointer (some ⟨b, 0, none⟩) ∧ Cy B a0 w0 a s w' ∧ Bn a b 82 #[.string e.k, .string e.v, .bool e.d, .int .i64 e.s.c, .int .i64 e.s.s, .int .i64 e.a.c, .int .i64 e.a.s, .int .i64 e.p, .int .i64 e.g] w' ∧ Bn a n1 82 #[.string ⟨#[]⟩, .string ⟨#[]⟩, .bool false, .int .i64 0, .int .i64 0, .int .i64 0, .int .i64 0, .int .i64 0, .int .i64 0] w'
theorem Gw.of1 {B w0 w1 : World} {a0 a : Ra} {s : Rs} {e : En} {n1 : Nat} (c : Cy B a0 w0 a s w1) (m : Bn a n1 82 #[.string ⟨#[]⟩, .string ⟨#[]⟩, .bool false, .int .i64 0, .int .i64 0, .int .i64 0, .int .i64 0, .int .i64 0, .int .i64 0] w1) : Gw B a0 w0 a s e n1 (.pointer (some ⟨w1.heap.size, 0, none⟩)) (w1.alloc (.cells #[.string e.k, .string e.v, .bool e.d, .int .i64 e.s.c, .int .i64 e.s.s, .int .i64 e.a.c, .int .i64 e.a.s, .int .i64 e.p, .int .i64 e.g] 82)) :=
  ⟨_, rfl, c.keep ((Only.refl none_ _).alloc _), Bn.new c.r, m.keep ((Only.refl none_ _).alloc _)⟩
theorem Gw.of2 {B w0 w1 : World} {a0 a : Ra} {s : Rs} {e : En} {n1 nb : Nat} (c : Cy B a0 w0 a s w1) (m : Bn a n1 82 #[.string ⟨#[]⟩, .string ⟨#[]⟩, .bool false, .int .i64 0, .int .i64 0, .int .i64 0, .int .i64 0, .int .i64 0, .int .i64 0] w1) (b : Bn a nb 82 #[.string ⟨#[]⟩, .string ⟨#[]⟩, .bool false, .int .i64 0, .int .i64 0, .int .i64 0, .int .i64 0, .int .i64 0, .int .i64 0] w1) (hn : n1 ≠ nb) (h0 : w0.heap.size ≤ nb) :
    Gw B a0 w0 a s e n1 (.pointer (some ⟨nb, 0, none⟩)) (fill9 w1 nb (.string e.k) (.string e.v) (.bool e.d) (.int .i64 e.s.c) (.int .i64 e.s.s) (.int .i64 e.a.c) (.int .i64 e.a.s) (.int .i64 e.p) (.int .i64 e.g)) := by
  have o : Only (one nb) w1 (fill9 w1 nb (.string e.k) (.string e.v) (.bool e.d) (.int .i64 e.s.c) (.int .i64 e.s.s) (.int .i64 e.a.c) (.int .i64 e.a.s) (.int .i64 e.p) (.int .i64 e.g)) := fill9_only (Only.refl (one nb) w1) (.inl (show one nb nb from rfl)) _ _ _ _ _ _ _ _ _
  exact ⟨_, rfl, c.box b h0 o, ⟨fill9_blk b.b _ _ _ _ _ _ _ _ _, b.n⟩, m.box hn o⟩
set_option maxHeartbeats 25600000 in
theorem rp_wake (B : World) (a : Ra) (s : Rs) (x y : En) (w : World) (h : Rp B a s w) (ok : Rky s) (hc0 : 0 ≤ s.c ∧ s.c ≤ 4294967295)
    (hx : s.c < 4294967295 → enWake ((lookE s.gr x.k).getD enZero) ⟨s.c + 1, s.site⟩ = (y, 0) ∧ enCheck y = 0 ∧ fullM s.o s.tab y.k = false) :
    Calls Tryz.prog 151 #[.pointer (some ⟨a.r, 0, none⟩), .agg #[.string x.k, .string x.v, .bool x.d, .int .i64 x.s.c, .int .i64 x.s.s, .int .i64 x.a.c, .int .i64 x.a.s, .int .i64 x.p, .int .i64 x.g]] w fun E w' => E = .returned (.tuple #[.agg #[.string (nxR s y).2.1.k, .string (nxR s y).2.1.v, .bool (nxR s y).2.1.d, .int .i64 (nxR s y).2.1.s.c, .int .i64 (nxR s y).2.1.s.s, .int .i64 (nxR s y).2.1.a.c, .int .i64 (nxR s y).2.1.a.s, .int .i64 (nxR s y).2.1.p, .int .i64 (nxR s y).2.1.g], .int .i64 (nxR s y).2.2]) ∧ LeftP B a w (nxR s y).1 w' := by
  obtain ⟨r, hr⟩ : ∃ r, a.r = r := ⟨_, rfl⟩
  have hmf : ∀ (fn : Fn) (first cap : Array Value) (w : World), (Instr.makeFunc fn first cap).run Tryz.prog w = .ok (.func fn first cap) w := fun _ _ _ _ => rfl
  have C2 := Lib.hid (((Cy.begin h).keep ((Only.refl none_ w).alloc (.cells #[.string x.k, .string x.v, .bool x.d, .int .i64 x.s.c, .int .i64 x.s.s, .int .i64 x.a.c, .int .i64 x.a.s, .int .i64 x.p, .int .i64 x.g] 82))).keep ((Only.refl none_ _).alloc (.cells #[.string ⟨#[]⟩, .string ⟨#[]⟩, .bool false, .int .i64 0, .int .i64 0, .int .i64 0, .int .i64 0, .int .i64 0, .int .i64 0] 82)))
  have N2 : Hid (Bn a w.heap.size 82 #[.string x.k, .string x.v, .bool x.d, .int .i64 x.s.c, .int .i64 x.s.s, .int .i64 x.a.c, .int .i64 x.a.s, .int .i64 x.p, .int .i64 x.g] ((w.alloc (.cells #[.string x.k, .string x.v, .bool x.d, .int .i64 x.s.c, .int .i64 x.s.s, .int .i64 x.a.c, .int .i64 x.a.s, .int .i64 x.p, .int .i64 x.g] 82)).alloc (.cells #[.string ⟨#[]⟩, .string ⟨#[]⟩, .bool false, .int .i64 0, .int .i64 0, .int .i64 0, .int .i64 0, .int .i64 0, .int .i64 0] 82))) := (Bn.new h).keep ((Only.refl none_ _).alloc _)
  have M2 : Hid (Bn a (w.heap.size + 1) 82 #[.string ⟨#[]⟩, .string ⟨#[]⟩, .bool false, .int .i64 0, .int .i64 0, .int .i64 0, .int .i64 0, .int .i64 0, .int .i64 0] ((w.alloc (.cells #[.string x.k, .string x.v, .bool x.d, .int .i64 x.s.c, .int .i64 x.s.s, .int .i64 x.a.c, .int .i64 x.a.s, .int .i64 x.p, .int .i64 x.g] 82)).alloc (.cells #[.string ⟨#[]⟩, .string ⟨#[]⟩, .bool false, .int .i64 0, .int .i64 0, .int .i64 0, .int .i64 0, .int .i64 0, .int .i64 0] 82))) := by
    have := Bn.new (t := 82) (cs := #[.string ⟨#[]⟩, .string ⟨#[]⟩, .bool false, .int .i64 0, .int .i64 0, .int .i64 0, .int .i64 0, .int .i64 0, .int .i64 0]) (h.keep ((Only.refl none_ w).alloc (.cells #[.string x.k, .string x.v, .bool x.d, .int .i64 x.s.c, .int .i64 x.s.s, .int .i64 x.a.c, .int .i64 x.a.s, .int .i64 x.p, .int .i64 x.g] 82)))
    rwa [World.size_alloc] at this
  obtain ⟨e, he⟩ : ∃ e, (lookE s.gr x.k).getD enZero = e := ⟨_, rfl⟩
  have HGT := Lib.hid (fun (X : World) (hX : Rp B a s X) => sh_get B a.gv a.gt s.gr a.vg x.k e he X hX.gv.sh hX.gv.t)
  generalize hasE s.gr x.k = hs at HGT
  rw [he] at hx
  have HNX := Lib.hid (fun (nb : Nat) (X : World) (hX : Rp B a s X) (hB : Bn a nb 82 #[.string e.k, .string e.v, .bool e.d, .int .i64 e.s.c, .int .i64 e.s.s, .int .i64 e.a.c, .int .i64 e.a.s, .int .i64 e.p, .int .i64 e.g] X) => by
    have := rp_next B a s _ _ _ _ (wake_ver nb e) y X hX (fun p hp => by
      simp only [List.mem_cons, List.not_mem_nil, or_false] at hp
      rw [hp]; exact hB) hc0 hx ok
    rw [hr] at this
    exact this)
  obtain ⟨⟨s2, e2, z2⟩, hq⟩ : ∃ q, nxR s y = q := ⟨_, rfl⟩
  rw [hq] at HNX ⊢
  dsimp only at HNX ⊢
  have HC9 : Hid (∀ X, Rp B a s X → X.cell? ⟨r, 9, none⟩ = some (.pointer (some ⟨a.gv, 0, none⟩))) := fun X hX => hX.at_ hr rfl
  rw [hr]
  clear h hr ok hc0 hx hq he
  go_enter Tryz.func151, Tryz.ntmps151
  go_upto_region 1 with fail
  obtain ⟨wa, hwa⟩ : ∃ wa, (w.alloc (.cells #[.string x.k, .string x.v, .bool x.d, .int .i64 x.s.c, .int .i64 x.s.s, .int .i64 x.a.c, .int .i64 x.a.s, .int .i64 x.p, .int .i64 x.g] 82)).alloc (.cells #[.string ⟨#[]⟩, .string ⟨#[]⟩, .bool false, .int .i64 0, .int .i64 0, .int .i64 0, .int .i64 0, .int .i64 0, .int .i64 0] 82) = wa := ⟨_, rfl⟩
  rw [hwa] at C2 N2 M2 ⊢
  clear hwa
  go_cut [6] (fun s6 w' => Gw B a w a s e (w.heap.size + 1) s6 w')
  case rest =>
    obtain ⟨b, rfl, c6, be, bm⟩ := hcut
    have C6 := Lib.hid c6
    have M6 := Lib.hid bm
    have HNY := Lib.hid (HNX.out b _ c6.r be)
    clear c6 be bm
    go_wp2_with (first
      | (go_at_call 153; refine HNY.out.mono ?_; rintro E w5 ⟨rfl, L5⟩
         obtain ⟨a5, c5, e5, b5⟩ := C6.out.step L5
         have C5 := Lib.hid c5
         have M5 := Lib.hid (b5 _ _ _ M6.out)
         clear c5 e5 b5 L5)
      | (refine wpList_store_row rfl 82 _ _ rfl (w.heap.size + 1) #[.string e2.k, .string e2.v, .bool e2.d, .int .i64 e2.s.c, .int .i64 e2.s.s, .int .i64 e2.a.c, .int .i64 e2.a.s, .int .i64 e2.p, .int .i64 e2.g] rfl rfl _ _ M5.out.b (by kernel_rfl) (by kernel_rfl) (en_cells_one _) ?_))
    refine bodyPost_ret (results_cell_tmp rfl _ _ (w.heap.size + 1) 82 #[.string e2.k, .string e2.v, .bool e2.d, .int .i64 e2.s.c, .int .i64 e2.s.s, .int .i64 e2.a.c, .int .i64 e2.a.s, .int .i64 e2.p, .int .i64 e2.g] _ rfl (M5.out.b.setRow _) Tryz.underlying82 rfl (by kernel_rfl) (.int .i64 z2) rfl) rfl ?_
    exact ⟨rfl, (C5.out.box M5.out (by omega) (only_row _ _)).left⟩
  case first =>
    have c9 := HC9.out _ (C2.out.keep (Only.refl none_ wa).drew).r
    have u9 := HC9.out _ (C2.out.keep ((Only.refl none_ wa).alloc (.cells #[.string ⟨#[]⟩, .string ⟨#[]⟩, .bool false, .int .i64 0, .int .i64 0, .int .i64 0, .int .i64 0, .int .i64 0, .int .i64 0] 82)).drew).r
    have q0 := (N2.out.keep (Only.refl none_ wa).drew).b.cell_ (i := 0) rfl
    have u0 := (N2.out.keep ((Only.refl none_ wa).alloc (.cells #[.string ⟨#[]⟩, .string ⟨#[]⟩, .bool false, .int .i64 0, .int .i64 0, .int .i64 0, .int .i64 0, .int .i64 0, .int .i64 0] 82)).drew).b.cell_ (i := 0) rfl
    have BN : Hid (Bn a wa.heap.size 82 #[.string ⟨#[]⟩, .string ⟨#[]⟩, .bool false, .int .i64 0, .int .i64 0, .int .i64 0, .int .i64 0, .int .i64 0, .int .i64 0] (wa.alloc (.cells #[.string ⟨#[]⟩, .string ⟨#[]⟩, .bool false, .int .i64 0, .int .i64 0, .int .i64 0, .int .i64 0, .int .i64 0, .int .i64 0] 82)).drew) := (Bn.new C2.out.r).keep (Only.refl none_ _).drew
    go_region_law (first
      | (refine Se.step_call (by simp [Region.wanted]) 195 #[.pointer (some ⟨a.gv, 0, none⟩), .string x.k] (by go_simp; try (with_reducible rfl)) ?_
         refine (HGT.out _ (by first | exact (C2.out.keep (Only.refl none_ wa).drew).r | exact (C2.out.keep ((Only.refl none_ wa).alloc _).drew).r)).mono ?_
         rintro E w1 ⟨rfl, o1⟩
         refine ⟨_, rfl, ?_⟩
         have O1 : Hid (Only none_ wa w1) := by first | exact ((Only.refl none_ wa).drew).trans o1 | exact (((Only.refl none_ wa).alloc _).drew).trans o1
         have C1 := Lib.hid (C2.out.keep O1.out)
         have M1 := Lib.hid (M2.out.keep O1.out)
         try (have B1 := Lib.hid (BN.out.keep o1); have q1 := nine_of B1.out.b; have z1 := frozen9 B1.out.b)
         have B2 := Lib.hid (Blk.new w1 82 #[.string ⟨#[]⟩, .string ⟨#[]⟩, .bool false, .int .i64 0, .int .i64 0, .int .i64 0, .int .i64 0, .int .i64 0, .int .i64 0])
         have q2 := nine_of B2.out
         have z2 := frozen9 B2.out
         clear o1))
    all_goals go_wp2_with fail
    all_goals go_meet
    all_goals first
      | with_reducible exact Gw.of1 C1.out M1.out
      | with_reducible exact Gw.of2 C1.out M1.out B1.out (Nat.ne_of_lt M2.out.b.lt) C2.out.o.size
end Go.Proofs.YtoohpcomnhfgpaaGreat
end
section
namespace Go.Proofs.YtoohpcomnhfgpaaGreat
open Go.RowKit
set_option maxRecDepth 100000
set_option linter.all false
theorem results_tct {P : Program} {fn : Func} {o p q : Tmp} {ty : TypeId} (h : fn.results = #[.tmp o, .cell p ty, .tmp q]) (tmps : Array Value) (w : World) (g : Nat) (t : TypeId) (cs : Array Value) (d : TypeDesc)
    (hp : tmps.getD p undef = .pointer (some ⟨g, 0, none⟩)) (hg : Blk w g t cs)
    (hu : P.underlying ty = some d) (hd : (match d with | .struct _ | .array _ _ => true | _ => false) = true) (hi : (P.info? ty).map (·.size) = some cs.size) (u v : Value) (ho : tmps.getD o undef = u) (hq : tmps.getD q undef = v) :
    (results fn tmps).run P w = .ok (.tuple #[u, .agg cs, v]) w := by
  have hp' : tmps[p]?.getD undef = .pointer (some ⟨g, 0, none⟩) := by simpa using hp
  have hq' : tmps[q]?.getD undef = v := by simpa using hq
  have ho' : tmps[o]?.getD undef = u := by simpa using ho
  simp [results, h, hp', hq', ho', asAddr, run_loadVar_row w g t ty cs (0, 0) d hg hu hd hi]
def tkR (kind : Int) (q : Rs × En × Int) : Rs × Int × En × Int := if q.2.2 = 0 then (q.1, kind, q.2.1, 0) else (q.1, 0, enZero, q.2.2)
set_option maxHeartbeats 25600000 in
theorem rp_take_new (B : World) (a : Ra) (s : Rs) (x : En) (w : World) (h : Rp B a s w) (ov : overE s.gr x = false) (hx : x.d = true → 0 ≤ x.g ∧ x.g ≤ 2147483647) (ok : Rky s) (hc : enCheck { x with g := ageM s.o s.tab x } = 0) (hf : fullM s.o s.tab x.k = false) :
    Calls Tryz.prog 89 #[.pointer (some ⟨a.r, 0, none⟩), .agg #[.string x.k, .string x.v, .bool x.d, .int .i64 x.s.c, .int .i64 x.s.s, .int .i64 x.a.c, .int .i64 x.a.s, .int .i64 x.p, .int .i64 x.g]] w fun E w' => E = .returned (.tuple #[.int .i64 (tkR 1 (dnR s { x with g := ageM s.o s.tab x })).2.1, .agg #[.string (tkR 1 (dnR s { x with g := ageM s.o s.tab x })).2.2.1.k, .string (tkR 1 (dnR s { x with g := ageM s.o s.tab x })).2.2.1.v, .bool (tkR 1 (dnR s { x with g := ageM s.o s.tab x })).2.2.1.d, .int .i64 (tkR 1 (dnR s { x with g := ageM s.o s.tab x })).2.2.1.s.c, .int .i64 (tkR 1 (dnR s { x with g := ageM s.o s.tab x })).2.2.1.s.s, .int .i64 (tkR 1 (dnR s { x with g := ageM s.o s.tab x })).2.2.1.a.c, .int .i64 (tkR 1 (dnR s { x with g := ageM s.o s.tab x })).2.2.1.a.s, .int .i64 (tkR 1 (dnR s { x with g := ageM s.o s.tab x })).2.2.1.p, .int .i64 (tkR 1 (dnR s { x with g := ageM s.o s.tab x })).2.2.1.g], .int .i64 (tkR 1 (dnR s { x with g := ageM s.o s.tab x })).2.2.2]) ∧ LeftP B a w (tkR 1 (dnR s { x with g := ageM s.o s.tab x })).1 w' := by
  obtain ⟨r, hr⟩ : ∃ r, a.r = r := ⟨_, rfl⟩
  have hmf : ∀ (fn : Fn) (first cap : Array Value) (w : World), (Instr.makeFunc fn first cap).run Tryz.prog w = .ok (.func fn first cap) w := fun _ _ _ _ => rfl
  have C2 := Lib.hid (((Cy.begin h).keep ((Only.refl none_ w).alloc (.cells #[.string x.k, .string x.v, .bool x.d, .int .i64 x.s.c, .int .i64 x.s.s, .int .i64 x.a.c, .int .i64 x.a.s, .int .i64 x.p, .int .i64 x.g] 82))).keep ((Only.refl none_ _).alloc (.cells #[.string ⟨#[]⟩, .string ⟨#[]⟩, .bool false, .int .i64 0, .int .i64 0, .int .i64 0, .int .i64 0, .int .i64 0, .int .i64 0] 82)))
  have N2 : Hid (Bn a w.heap.size 82 #[.string x.k, .string x.v, .bool x.d, .int .i64 x.s.c, .int .i64 x.s.s, .int .i64 x.a.c, .int .i64 x.a.s, .int .i64 x.p, .int .i64 x.g] ((w.alloc (.cells #[.string x.k, .string x.v, .bool x.d, .int .i64 x.s.c, .int .i64 x.s.s, .int .i64 x.a.c, .int .i64 x.a.s, .int .i64 x.p, .int .i64 x.g] 82)).alloc (.cells #[.string ⟨#[]⟩, .string ⟨#[]⟩, .bool false, .int .i64 0, .int .i64 0, .int .i64 0, .int .i64 0, .int .i64 0, .int .i64 0] 82))) := (Bn.new h).keep ((Only.refl none_ _).alloc _)
  have M2 : Hid (Bn a (w.heap.size + 1) 82 #[.string ⟨#[]⟩, .string ⟨#[]⟩, .bool false, .int .i64 0, .int .i64 0, .int .i64 0, .int .i64 0, .int .i64 0, .int .i64 0] ((w.alloc (.cells #[.string x.k, .string x.v, .bool x.d, .int .i64 x.s.c, .int .i64 x.s.s, .int .i64 x.a.c, .int .i64 x.a.s, .int .i64 x.p, .int .i64 x.g] 82)).alloc (.cells #[.string ⟨#[]⟩, .string ⟨#[]⟩, .bool false, .int .i64 0, .int .i64 0, .int .i64 0, .int .i64 0, .int .i64 0, .int .i64 0] 82))) := by
    have := Bn.new (t := 82) (cs := #[.string ⟨#[]⟩, .string ⟨#[]⟩, .bool false, .int .i64 0, .int .i64 0, .int .i64 0, .int .i64 0, .int .i64 0, .int .i64 0]) (h.keep ((Only.refl none_ w).alloc (.cells #[.string x.k, .string x.v, .bool x.d, .int .i64 x.s.c, .int .i64 x.s.s, .int .i64 x.a.c, .int .i64 x.a.s, .int .i64 x.p, .int .i64 x.g] 82)))
    rwa [World.size_alloc] at this
  have HOV := Lib.hid (fun (X : World) (hX : Rp B a s X) => gv_over B a.gv a.gt s.site s.o.t2 s.gr a.vg x X hX.gv)
  rw [ov] at HOV
  have HCA := Lib.hid (fun (X : World) (hX : Rp B a s X) => by
    have := rp_aged B a s x X hX hx ok hc hf
    rw [hr] at this
    exact this)
  obtain ⟨⟨s2, e2, z2⟩, hq⟩ : ∃ q, dnR s { x with g := ageM s.o s.tab x } = q := ⟨_, rfl⟩
  rw [hq] at HCA ⊢
  have HC9 : Hid (∀ X, Rp B a s X → X.cell? ⟨r, 9, none⟩ = some (.pointer (some ⟨a.gv, 0, none⟩))) := fun X hX => hX.at_ hr rfl
  dsimp only at HCA
  obtain ⟨⟨s3, k3, e3, z3⟩, ht⟩ : ∃ t, tkR 1 (s2, e2, z2) = t := ⟨_, rfl⟩
  rw [ht]
  unfold tkR at ht
  dsimp only at ht ⊢
  have HT := Lib.hid ht
  rw [hr]
  clear h hr hq ov ht hx ok hc hf
  go_enter Tryz.func89, Tryz.ntmps89
  go_wp2_with fail
  generalize (w.alloc (.cells #[.string x.k, .string x.v, .bool x.d, .int .i64 x.s.c, .int .i64 x.s.s, .int .i64 x.a.c, .int .i64 x.a.s, .int .i64 x.p, .int .i64 x.g] 82)).alloc (.cells #[.string ⟨#[]⟩, .string ⟨#[]⟩, .bool false, .int .i64 0, .int .i64 0, .int .i64 0, .int .i64 0, .int .i64 0, .int .i64 0] 82) = W2 at C2 N2 M2 ⊢
  (refine wp_region_steady (fun X => Only none_ W2 X) 6 (by kernel_rfl) (by kernel_rfl) ((Only.refl none_ W2).drew) ?_; simp only [List.take_succ_cons, List.take_zero, List.drop_succ_cons, List.drop_zero])
  repeat (first
    | (refine sd_value (v := ?_) (by rfl) (fun w0 hS => ?_) ?_; rotate_left; (· (have c9 := HC9.out _ (C2.out.keep hS).r; have qq := nine_of (N2.out.keep hS).b; go_simp; try (with_reducible rfl))); try simp only [Act.put, List.setIfInBounds_toArray, List.set_cons_zero, List.set_cons_succ])
    | (refine sd_call (v := ?_) (f := 150) (args := ?_) (by rfl) (fun w0 hS => ?_) (fun w0 hS => ?_) ?_; rotate_left 2; (· (skip; go_simp; try (with_reducible rfl))); (· (refine (HOV.out _ (C2.out.keep hS).r).mono ?_; rintro E w8 ⟨rfl, o8⟩; refine ⟨?_, hS.trans o8⟩; rfl)); try simp only [Act.put, List.setIfInBounds_toArray, List.set_cons_zero, List.set_cons_succ]))
  refine sd_nil ?_
  intro w3 t3
  have C3 := Lib.hid (C2.out.keep t3)
  have N3 := Lib.hid (N2.out.keep t3)
  have M3 := Lib.hid (M2.out.keep t3)
  have q3 := nine_of N3.out.b
  clear t3
  by_cases hz : z2 = 0
  · have hzb : (z2 != 0) = false := by simpa using hz
    have ht := HT.out
    rw [if_pos hz] at ht
    injection ht with h1 ht
    injection ht with h2 ht
    injection ht with h3 h4
    subst h1 h2 h3 h4
    clear hz
    go_wp2_with (first
      | (go_at_call 149; refine (HCA.out _ C3.out.r).mono ?_; rintro E w5 ⟨rfl, L5⟩
         obtain ⟨a5, c5, e5, b5⟩ := C3.out.step L5
         have C5 := Lib.hid (c5.keep ((Only.refl none_ _).alloc (.cells #[.string e2.k, .string e2.v, .bool e2.d, .int .i64 e2.s.c, .int .i64 e2.s.s, .int .i64 e2.a.c, .int .i64 e2.a.s, .int .i64 e2.p, .int .i64 e2.g] 82)))
         have M5 := Lib.hid ((b5 _ _ _ M3.out).keep ((Only.refl none_ _).alloc (.cells #[.string e2.k, .string e2.v, .bool e2.d, .int .i64 e2.s.c, .int .i64 e2.s.s, .int .i64 e2.a.c, .int .i64 e2.a.s, .int .i64 e2.p, .int .i64 e2.g] 82)))
         have E5 := Lib.hid (Blk.new w5 82 #[.string e2.k, .string e2.v, .bool e2.d, .int .i64 e2.s.c, .int .i64 e2.s.s, .int .i64 e2.a.c, .int .i64 e2.a.s, .int .i64 e2.p, .int .i64 e2.g])
         clear c5 e5 b5 L5)
      | (with_reducible refine wpl_new rfl rfl 82 rfl _ _ rfl #[.string e2.k, .string e2.v, .bool e2.d, .int .i64 e2.s.c, .int .i64 e2.s.s, .int .i64 e2.a.c, .int .i64 e2.a.s, .int .i64 e2.p, .int .i64 e2.g] rfl rfl (by kernel_rfl) (en_cells_one _) ?_))
    generalize w5.alloc (.cells #[.string e2.k, .string e2.v, .bool e2.d, .int .i64 e2.s.c, .int .i64 e2.s.s, .int .i64 e2.a.c, .int .i64 e2.a.s, .int .i64 e2.p, .int .i64 e2.g] 82) = W5 at C5 M5 E5 ⊢
    (refine wp_region_steady (fun X => Only none_ W5 X) 3 (by kernel_rfl) (by kernel_rfl) ((Only.refl none_ W5).drew) ?_; simp only [List.take_succ_cons, List.take_zero, List.drop_succ_cons, List.drop_zero])
    repeat (first
      | (refine sd_value (v := ?_) (by rfl) (fun w0 hS => ?_) ?_; rotate_left; (· (have qq := nine_of (E5.out.only hS (fun h => h)); go_simp; try (with_reducible rfl))); try simp only [Act.put, List.setIfInBounds_toArray, List.set_cons_zero, List.set_cons_succ]))
    refine sd_nil ?_
    intro w6 t6
    have C6 := Lib.hid (C5.out.keep t6)
    have M6 := Lib.hid (M5.out.keep t6)
    clear t6
    go_wp2_with (first
      | (refine wpList_store_row rfl 82 _ _ rfl (w.heap.size + 1) #[.string e2.k, .string e2.v, .bool e2.d, .int .i64 e2.s.c, .int .i64 e2.s.s, .int .i64 e2.a.c, .int .i64 e2.a.s, .int .i64 e2.p, .int .i64 e2.g] rfl rfl _ _ M6.out.b (by kernel_rfl) (by kernel_rfl) (en_cells_one _) ?_))
    refine bodyPost_ret (results_tct rfl _ _ (w.heap.size + 1) 82 #[.string e2.k, .string e2.v, .bool e2.d, .int .i64 e2.s.c, .int .i64 e2.s.s, .int .i64 e2.a.c, .int .i64 e2.a.s, .int .i64 e2.p, .int .i64 e2.g] _ rfl (M6.out.b.setRow _) Tryz.underlying82 rfl (by kernel_rfl) (.int .i64 1) (.int .i64 0) rfl rfl) rfl ?_
    exact ⟨rfl, (C6.out.box M6.out (by omega) (only_row _ _)).left⟩
  · have hzb : (z2 != 0) = true := by simpa using hz
    have ht := HT.out
    rw [if_neg hz] at ht
    injection ht with h1 ht
    injection ht with h2 ht
    injection ht with h3 h4
    subst h1 h2 h3 h4
    clear hz
    go_wp2_with (first
      | (go_at_call 149; refine (HCA.out _ C3.out.r).mono ?_; rintro E w5 ⟨rfl, L5⟩
         obtain ⟨a5, c5, e5, b5⟩ := C3.out.step L5
         have C5 := Lib.hid (c5.keep ((Only.refl none_ _).alloc (.cells #[.string e2.k, .string e2.v, .bool e2.d, .int .i64 e2.s.c, .int .i64 e2.s.s, .int .i64 e2.a.c, .int .i64 e2.a.s, .int .i64 e2.p, .int .i64 e2.g] 82)))
         have M5 := Lib.hid ((b5 _ _ _ M3.out).keep ((Only.refl none_ _).alloc (.cells #[.string e2.k, .string e2.v, .bool e2.d, .int .i64 e2.s.c, .int .i64 e2.s.s, .int .i64 e2.a.c, .int .i64 e2.a.s, .int .i64 e2.p, .int .i64 e2.g] 82)))
         clear c5 e5 b5 L5)
      | (with_reducible refine wpl_new rfl rfl 82 rfl _ _ rfl #[.string e2.k, .string e2.v, .bool e2.d, .int .i64 e2.s.c, .int .i64 e2.s.s, .int .i64 e2.a.c, .int .i64 e2.a.s, .int .i64 e2.p, .int .i64 e2.g] rfl rfl (by kernel_rfl) (en_cells_one _) ?_)
      | (refine wpList_store_row rfl 82 _ _ rfl (w.heap.size + 1) #[.string ⟨#[]⟩, .string ⟨#[]⟩, .bool false, .int .i64 0, .int .i64 0, .int .i64 0, .int .i64 0, .int .i64 0, .int .i64 0] rfl rfl _ _ M5.out.b (by kernel_rfl) (by kernel_rfl) (by kernel_rfl) ?_))
    refine bodyPost_ret (results_tct rfl _ _ (w.heap.size + 1) 82 #[.string ⟨#[]⟩, .string ⟨#[]⟩, .bool false, .int .i64 0, .int .i64 0, .int .i64 0, .int .i64 0, .int .i64 0, .int .i64 0] _ rfl (M5.out.b.setRow _) Tryz.underlying82 rfl (by kernel_rfl) (.int .i64 0) (.int .i64 z2) rfl rfl) rfl ?_
    exact ⟨rfl, (C5.out.box M5.out (by omega) (only_row _ _)).left⟩
set_option maxHeartbeats 25600000 in
theorem rp_take_woke (B : World) (a : Ra) (s : Rs) (x y : En) (w : World) (h : Rp B a s w) (ov : overE s.gr x = true) (ok : Rky s) (hc0 : 0 ≤ s.c ∧ s.c ≤ 4294967295) (hx : s.c < 4294967295 → enWake ((lookE s.gr x.k).getD enZero) ⟨s.c + 1, s.site⟩ = (y, 0) ∧ enCheck y = 0 ∧ fullM s.o s.tab y.k = false) :
    Calls Tryz.prog 89 #[.pointer (some ⟨a.r, 0, none⟩), .agg #[.string x.k, .string x.v, .bool x.d, .int .i64 x.s.c, .int .i64 x.s.s, .int .i64 x.a.c, .int .i64 x.a.s, .int .i64 x.p, .int .i64 x.g]] w fun E w' => E = .returned (.tuple #[.int .i64 (tkR 2 (nxR s y)).2.1, .agg #[.string (tkR 2 (nxR s y)).2.2.1.k, .string (tkR 2 (nxR s y)).2.2.1.v, .bool (tkR 2 (nxR s y)).2.2.1.d, .int .i64 (tkR 2 (nxR s y)).2.2.1.s.c, .int .i64 (tkR 2 (nxR s y)).2.2.1.s.s, .int .i64 (tkR 2 (nxR s y)).2.2.1.a.c, .int .i64 (tkR 2 (nxR s y)).2.2.1.a.s, .int .i64 (tkR 2 (nxR s y)).2.2.1.p, .int .i64 (tkR 2 (nxR s y)).2.2.1.g], .int .i64 (tkR 2 (nxR s y)).2.2.2]) ∧ LeftP B a w (tkR 2 (nxR s y)).1 w' := by
  obtain ⟨r, hr⟩ : ∃ r, a.r = r := ⟨_, rfl⟩
  have hmf : ∀ (fn : Fn) (first cap : Array Value) (w : World), (Instr.makeFunc fn first cap).run Tryz.prog w = .ok (.func fn first cap) w := fun _ _ _ _ => rfl
  have C2 := Lib.hid (((Cy.begin h).keep ((Only.refl none_ w).alloc (.cells #[.string x.k, .string x.v, .bool x.d, .int .i64 x.s.c, .int .i64 x.s.s, .int .i64 x.a.c, .int .i64 x.a.s, .int .i64 x.p, .int .i64 x.g] 82))).keep ((Only.refl none_ _).alloc (.cells #[.string ⟨#[]⟩, .string ⟨#[]⟩, .bool false, .int .i64 0, .int .i64 0, .int .i64 0, .int .i64 0, .int .i64 0, .int .i64 0] 82)))
  have N2 : Hid (Bn a w.heap.size 82 #[.string x.k, .string x.v, .bool x.d, .int .i64 x.s.c, .int .i64 x.s.s, .int .i64 x.a.c, .int .i64 x.a.s, .int .i64 x.p, .int .i64 x.g] ((w.alloc (.cells #[.string x.k, .string x.v, .bool x.d, .int .i64 x.s.c, .int .i64 x.s.s, .int .i64 x.a.c, .int .i64 x.a.s, .int .i64 x.p, .int .i64 x.g] 82)).alloc (.cells #[.string ⟨#[]⟩, .string ⟨#[]⟩, .bool false, .int .i64 0, .int .i64 0, .int .i64 0, .int .i64 0, .int .i64 0, .int .i64 0] 82))) := (Bn.new h).keep ((Only.refl none_ _).alloc _)
  have M2 : Hid (Bn a (w.heap.size + 1) 82 #[.string ⟨#[]⟩, .string ⟨#[]⟩, .bool false, .int .i64 0, .int .i64 0, .int .i64 0, .int .i64 0, .int .i64 0, .int .i64 0] ((w.alloc (.cells #[.string x.k, .string x.v, .bool x.d, .int .i64 x.s.c, .int .i64 x.s.s, .int .i64 x.a.c, .int .i64 x.a.s, .int .i64 x.p, .int .i64 x.g] 82)).alloc (.cells #[.string ⟨#[]⟩, .string ⟨#[]⟩, .bool false, .int .i64 0, .int .i64 0, .int .i64 0, .int .i64 0, .int .i64 0, .int .i64 0] 82))) := by
    have := Bn.new (t := 82) (cs := #[.string ⟨#[]⟩, .string ⟨#[]⟩, .bool false, .int .i64 0, .int .i64 0, .int .i64 0, .int .i64 0, .int .i64 0, .int .i64 0]) (h.keep ((Only.refl none_ w).alloc (.cells #[.string x.k, .string x.v, .bool x.d, .int .i64 x.s.c, .int .i64 x.s.s, .int .i64 x.a.c, .int .i64 x.a.s, .int .i64 x.p, .int .i64 x.g] 82)))
    rwa [World.size_alloc] at this
  have HOV := Lib.hid (fun (X : World) (hX : Rp B a s X) => gv_over B a.gv a.gt s.site s.o.t2 s.gr a.vg x X hX.gv)
  rw [ov] at HOV
  have HCA := Lib.hid (fun (X : World) (hX : Rp B a s X) => by
    have := rp_wake B a s x y X hX ok hc0 hx
    rw [hr] at this
    exact this)
  obtain ⟨⟨s2, e2, z2⟩, hq⟩ : ∃ q, nxR s y = q := ⟨_, rfl⟩
  rw [hq] at HCA ⊢
  have HC9 : Hid (∀ X, Rp B a s X → X.cell? ⟨r, 9, none⟩ = some (.pointer (some ⟨a.gv, 0, none⟩))) := fun X hX => hX.at_ hr rfl
  dsimp only at HCA
  obtain ⟨⟨s3, k3, e3, z3⟩, ht⟩ : ∃ t, tkR 2 (s2, e2, z2) = t := ⟨_, rfl⟩
  rw [ht]
  unfold tkR at ht
  dsimp only at ht ⊢
  have HT := Lib.hid ht
  rw [hr]
  clear h hr hq ov ht hx ok hc0
  go_enter Tryz.func89, Tryz.ntmps89
  go_wp2_with fail
  generalize (w.alloc (.cells #[.string x.k, .string x.v, .bool x.d, .int .i64 x.s.c, .int .i64 x.s.s, .int .i64 x.a.c, .int .i64 x.a.s, .int .i64 x.p, .int .i64 x.g] 82)).alloc (.cells #[.string ⟨#[]⟩, .string ⟨#[]⟩, .bool false, .int .i64 0, .int .i64 0, .int .i64 0, .int .i64 0, .int .i64 0, .int .i64 0] 82) = W2 at C2 N2 M2 ⊢
  (refine wp_region_steady (fun X => Only none_ W2 X) 6 (by kernel_rfl) (by kernel_rfl) ((Only.refl none_ W2).drew) ?_; simp only [List.take_succ_cons, List.take_zero, List.drop_succ_cons, List.drop_zero])
  repeat (first
    | (refine sd_value (v := ?_) (by rfl) (fun w0 hS => ?_) ?_; rotate_left; (· (have c9 := HC9.out _ (C2.out.keep hS).r; have qq := nine_of (N2.out.keep hS).b; go_simp; try (with_reducible rfl))); try simp only [Act.put, List.setIfInBounds_toArray, List.set_cons_zero, List.set_cons_succ])
    | (refine sd_call (v := ?_) (f := 150) (args := ?_) (by rfl) (fun w0 hS => ?_) (fun w0 hS => ?_) ?_; rotate_left 2; (· (skip; go_simp; try (with_reducible rfl))); (· (refine (HOV.out _ (C2.out.keep hS).r).mono ?_; rintro E w8 ⟨rfl, o8⟩; refine ⟨?_, hS.trans o8⟩; rfl)); try simp only [Act.put, List.setIfInBounds_toArray, List.set_cons_zero, List.set_cons_succ]))
  refine sd_nil ?_
  intro w3 t3
  have C3 := Lib.hid (C2.out.keep t3)
  have N3 := Lib.hid (N2.out.keep t3)
  have M3 := Lib.hid (M2.out.keep t3)
  have q3 := nine_of N3.out.b
  clear t3
  by_cases hz : z2 = 0
  · have hzb : (z2 != 0) = false := by simpa using hz
    have ht := HT.out
    rw [if_pos hz] at ht
    injection ht with h1 ht
    injection ht with h2 ht
    injection ht with h3 h4
    subst h1 h2 h3 h4
    clear hz
    go_wp2_with (first
      | (go_at_call 151; refine (HCA.out _ C3.out.r).mono ?_; rintro E w5 ⟨rfl, L5⟩
         obtain ⟨a5, c5, e5, b5⟩ := C3.out.step L5
         have C5 := Lib.hid (c5.keep ((Only.refl none_ _).alloc (.cells #[.string e2.k, .string e2.v, .bool e2.d, .int .i64 e2.s.c, .int .i64 e2.s.s, .int .i64 e2.a.c, .int .i64 e2.a.s, .int .i64 e2.p, .int .i64 e2.g] 82)))
         have M5 := Lib.hid ((b5 _ _ _ M3.out).keep ((Only.refl none_ _).alloc (.cells #[.string e2.k, .string e2.v, .bool e2.d, .int .i64 e2.s.c, .int .i64 e2.s.s, .int .i64 e2.a.c, .int .i64 e2.a.s, .int .i64 e2.p, .int .i64 e2.g] 82)))
         have E5 := Lib.hid (Blk.new w5 82 #[.string e2.k, .string e2.v, .bool e2.d, .int .i64 e2.s.c, .int .i64 e2.s.s, .int .i64 e2.a.c, .int .i64 e2.a.s, .int .i64 e2.p, .int .i64 e2.g])
         clear c5 e5 b5 L5)
      | (with_reducible refine wpl_new rfl rfl 82 rfl _ _ rfl #[.string e2.k, .string e2.v, .bool e2.d, .int .i64 e2.s.c, .int .i64 e2.s.s, .int .i64 e2.a.c, .int .i64 e2.a.s, .int .i64 e2.p, .int .i64 e2.g] rfl rfl (by kernel_rfl) (en_cells_one _) ?_))
    generalize w5.alloc (.cells #[.string e2.k, .string e2.v, .bool e2.d, .int .i64 e2.s.c, .int .i64 e2.s.s, .int .i64 e2.a.c, .int .i64 e2.a.s, .int .i64 e2.p, .int .i64 e2.g] 82) = W5 at C5 M5 E5 ⊢
    (refine wp_region_steady (fun X => Only none_ W5 X) 3 (by kernel_rfl) (by kernel_rfl) ((Only.refl none_ W5).drew) ?_; simp only [List.take_succ_cons, List.take_zero, List.drop_succ_cons, List.drop_zero])
    repeat (first
      | (refine sd_value (v := ?_) (by rfl) (fun w0 hS => ?_) ?_; rotate_left; (· (have qq := nine_of (E5.out.only hS (fun h => h)); go_simp; try (with_reducible rfl))); try simp only [Act.put, List.setIfInBounds_toArray, List.set_cons_zero, List.set_cons_succ]))
    refine sd_nil ?_
    intro w6 t6
    have C6 := Lib.hid (C5.out.keep t6)
    have M6 := Lib.hid (M5.out.keep t6)
    clear t6
    go_wp2_with (first
      | (refine wpList_store_row rfl 82 _ _ rfl (w.heap.size + 1) #[.string e2.k, .string e2.v, .bool e2.d, .int .i64 e2.s.c, .int .i64 e2.s.s, .int .i64 e2.a.c, .int .i64 e2.a.s, .int .i64 e2.p, .int .i64 e2.g] rfl rfl _ _ M6.out.b (by kernel_rfl) (by kernel_rfl) (en_cells_one _) ?_))
    refine bodyPost_ret (results_tct rfl _ _ (w.heap.size + 1) 82 #[.string e2.k, .string e2.v, .bool e2.d, .int .i64 e2.s.c, .int .i64 e2.s.s, .int .i64 e2.a.c, .int .i64 e2.a.s, .int .i64 e2.p, .int .i64 e2.g] _ rfl (M6.out.b.setRow _) Tryz.underlying82 rfl (by kernel_rfl) (.int .i64 2) (.int .i64 0) rfl rfl) rfl ?_
    exact ⟨rfl, (C6.out.box M6.out (by omega) (only_row _ _)).left⟩
  · have hzb : (z2 != 0) = true := by simpa using hz
    have ht := HT.out
    rw [if_neg hz] at ht
    injection ht with h1 ht
    injection ht with h2 ht
    injection ht with h3 h4
    subst h1 h2 h3 h4
    clear hz
    go_wp2_with (first
      | (go_at_call 151; refine (HCA.out _ C3.out.r).mono ?_; rintro E w5 ⟨rfl, L5⟩
         obtain ⟨a5, c5, e5, b5⟩ := C3.out.step L5
         have C5 := Lib.hid (c5.keep ((Only.refl none_ _).alloc (.cells #[.string e2.k, .string e2.v, .bool e2.d, .int .i64 e2.s.c, .int .i64 e2.s.s, .int .i64 e2.a.c, .int .i64 e2.a.s, .int .i64 e2.p, .int .i64 e2.g] 82)))
         have M5 := Lib.hid ((b5 _ _ _ M3.out).keep ((Only.refl none_ _).alloc (.cells #[.string e2.k, .string e2.v, .bool e2.d, .int .i64 e2.s.c, .int .i64 e2.s.s, .int .i64 e2.a.c, .int .i64 e2.a.s, .int .i64 e2.p, .int .i64 e2.g] 82)))
         clear c5 e5 b5 L5)
      | (with_reducible refine wpl_new rfl rfl 82 rfl _ _ rfl #[.string e2.k, .string e2.v, .bool e2.d, .int .i64 e2.s.c, .int .i64 e2.s.s, .int .i64 e2.a.c, .int .i64 e2.a.s, .int .i64 e2.p, .int .i64 e2.g] rfl rfl (by kernel_rfl) (en_cells_one _) ?_)
      | (refine wpList_store_row rfl 82 _ _ rfl (w.heap.size + 1) #[.string ⟨#[]⟩, .string ⟨#[]⟩, .bool false, .int .i64 0, .int .i64 0, .int .i64 0, .int .i64 0, .int .i64 0, .int .i64 0] rfl rfl _ _ M5.out.b (by kernel_rfl) (by kernel_rfl) (by kernel_rfl) ?_))
    refine bodyPost_ret (results_tct rfl _ _ (w.heap.size + 1) 82 #[.string ⟨#[]⟩, .string ⟨#[]⟩, .bool false, .int .i64 0, .int .i64 0, .int .i64 0, .int .i64 0, .int .i64 0, .int .i64 0] _ rfl (M5.out.b.setRow _) Tryz.underlying82 rfl (by kernel_rfl) (.int .i64 0) (.int .i64 z2) rfl rfl) rfl ?_
    exact ⟨rfl, (C5.out.box M5.out (by omega) (only_row _ _)).left⟩
end Go.Proofs.YtoohpcomnhfgpaaGreat
end
section
namespace Go.Proofs.YtoohpcomnhfgpaaGreat
open Go.RowKit
set_option maxRecDepth 100000
set_option linter.all false
def seeS (s : Rs) (x : En) : Rs := { s with c := seeC s.c x.a }
def wkE (s : Rs) (k : ByteArray) : En := (enWake ((lookE s.gr k).getD enZero) ⟨s.c + 1, s.site⟩).1
def tqR (s : Rs) (x : En) : Rs × Int × En × Int := if overE s.gr x = true then tkR 2 (nxR s (wkE s x.k)) else tkR 1 (dnR s { x with g := ageM s.o s.tab x })
def mgR (s : Rs) (x : En) : Rs × Int × En × Int :=
  if enCheck x ≠ 0 then (s, 0, enZero, enCheck x)
  else if newsM s.tab x = false then ({ seeS s x with tab := youngM s.o s.tab x }, 0, enZero, 0)
  else if lateM s.o x = true then (seeS s x, 0, enZero, 0)
  else if fullM s.o s.tab x.k = true then (seeS s x, 0, enZero, 7)
  else tqR (seeS s x) x
structure Gok (s : Rs) : Prop where
  c : 0 ≤ s.c ∧ s.c ≤ 4294967295
  si : stSite s.site = true
  t : 0 ≤ s.o.t1 ∧ s.o.t1 ≤ 2147483647
  g : ∀ y ∈ s.gr, enCheck y = 0 ∧ y.d = true ∧ y.a.c ≤ s.c
theorem see_ge (c : Int) (a : St) (h : 0 ≤ c ∧ c ≤ 4294967295) : c ≤ seeC c a ∧ 0 ≤ seeC c a ∧ seeC c a ≤ 4294967295 := by
  unfold seeC
  split
  · next h1 => have := good_of h1.1; omega
  · omega
theorem wake_ok {e : En} {st : St} (hc : enCheck e = 0) (hd : e.d = true) (hg : stGood st = true) (hl : e.a.c < st.c) : enWake e st = ((enWake e st).1, 0) ∧ enCheck (enWake e st).1 = 0 ∧ (enWake e st).1.k = e.k := by
  have hlt : stLater st e.a = true := (later_def _ _).2 (.inl hl)
  have hw : enWake e st = (⟨e.k, e.v, e.d, e.s, st, e.p, 0⟩, 0) := by
    unfold enWake
    rw [if_pos hc, if_pos (by rw [hd, hg, hlt]; rfl)]
  rw [hw]
  refine ⟨rfl, ?_, rfl⟩
  obtain ⟨c1, c2, c3, c4, c5, c6, c7, c8⟩ := check_of hc
  have h8 := c8 hd
  have hv : (e.d && decide (0 < e.v.size)) = false := by
    cases h : (e.d && decide (0 < e.v.size)) with
    | false => rfl
    | true =>
      have : enValBad e = true := by unfold enValBad; rw [h]; simp
      unfold enCheck at hc
      rw [this] at hc
      split at hc
      · cases hc
      · cases hc
  have k1 : ¬ (e.k.size < 1 ∨ 16 < e.k.size) := by omega
  have k2 : ¬ 32 < e.v.size := by omega
  have hs : stLater e.s st = false := by
    rw [later_false] at c6 ⊢
    omega
  unfold enCheck
  have b1 : enKeyBad ⟨e.k, e.v, e.d, e.s, st, e.p, 0⟩ = false := by simp only [enKeyBad, Bool.or_eq_false_iff, decide_eq_false_iff_not]; omega
  have b2 : enValBad ⟨e.k, e.v, e.d, e.s, st, e.p, 0⟩ = false := by simp only [enValBad]; rw [hv]; simp; omega
  have b3 : enStBad ⟨e.k, e.v, e.d, e.s, st, e.p, 0⟩ = false := by simp only [enStBad, c4, hg, hs]; rfl
  have b4 : enRestBad ⟨e.k, e.v, e.d, e.s, st, e.p, 0⟩ = false := by
    simp only [enRestBad, hd, if_true, enCert, Bool.not_eq_false', Bool.and_eq_true, decide_eq_true_eq]
    omega
  rw [b1, b2, b3, b4]; simp
theorem age_check {o : Ro} {l : List En} {x : En} (ht : 0 ≤ o.t1 ∧ o.t1 ≤ 2147483647) (hc : enCheck x = 0) (hl : lateM o x = false) (hT : ∀ e ∈ l, enCheck e = 0) : enCheck { x with g := ageM o l x } = 0 := by
  by_cases hd : x.d = true
  · have h8 := (check_of hc).2.2.2.2.2.2.2 hd
    refine check_age hc hd ?_ ?_
    · unfold ageM
      split
      · omega
      · cases h : lookE l x.k with
        | none => simp only; omega
        | some was =>
          simp only
          split
          · next h2 =>
            have := (check_of (hT was (look_some h).1)).2.2.2.2.2.2.2 h2.1
            omega
          · omega
    · by_cases ht0 : o.t1 = 0
      · unfold ageM; rw [if_pos (.inr ht0)]; omega
      · have hg : x.g + 1 < o.t1 ∨ x.g + 1 ≤ 2147483647 := by
          unfold lateM at hl
          rw [hd, decide_eq_false ht0] at hl
          simp only [Bool.true_and, Bool.not_false, decide_eq_false_iff_not] at hl
          exact .inl (by omega)
        unfold ageM
        rw [if_neg (by rw [hd]; simp [ht0])]
        cases h : lookE l x.k with
        | none => simp only; omega
        | some was =>
          simp only
          split
          · next h2 =>
            have := (check_of (hT was (look_some h).1)).2.2.2.2.2.2.2 h2.1
            omega
          · omega
  · have hd' : x.d = false := by simpa using hd
    have : ageM o l x = x.g := by
      unfold ageM
      rw [if_pos (.inl hd')]
      exact (((check_of hc).2.2.2.2.2.2.1 hd').2.2).symm
    rw [this]; exact hc
set_option maxHeartbeats 3200000 in
theorem rp_take (B : World) (a : Ra) (s : Rs) (x : En) (w : World) (h : Rp B a s w) (ok : Rky s) (go : Gok s) (hc : enCheck x = 0) (hl : lateM s.o x = false) (hn : newsM s.tab x = true) (hT : ∀ e ∈ s.tab, enCheck e = 0) (hf : fullM s.o s.tab x.k = false) :
    Calls Tryz.prog 89 #[.pointer (some ⟨a.r, 0, none⟩), .agg #[.string x.k, .string x.v, .bool x.d, .int .i64 x.s.c, .int .i64 x.s.s, .int .i64 x.a.c, .int .i64 x.a.s, .int .i64 x.p, .int .i64 x.g]] w fun E w' => E = .returned (.tuple #[.int .i64 (tqR s x).2.1, .agg #[.string (tqR s x).2.2.1.k, .string (tqR s x).2.2.1.v, .bool (tqR s x).2.2.1.d, .int .i64 (tqR s x).2.2.1.s.c, .int .i64 (tqR s x).2.2.1.s.s, .int .i64 (tqR s x).2.2.1.a.c, .int .i64 (tqR s x).2.2.1.a.s, .int .i64 (tqR s x).2.2.1.p, .int .i64 (tqR s x).2.2.1.g], .int .i64 (tqR s x).2.2.2]) ∧ LeftP B a w (tqR s x).1 w' := by
  have hx : x.d = true → 0 ≤ x.g ∧ x.g ≤ 2147483647 := fun hd => ⟨((check_of hc).2.2.2.2.2.2.2 hd).2.2.1, ((check_of hc).2.2.2.2.2.2.2 hd).2.2.2⟩
  cases ov : overE s.gr x with
  | false =>
    rw [tqR, if_neg (by rw [ov]; simp)]
    refine rp_take_new B a s x w h ov hx ok ?_ hf
    exact age_check go.t hc hl hT
  | true =>
    rw [tqR, if_pos ov]
    refine rp_take_woke B a s x (wkE s x.k) w h ov ok go.c fun hlt => ?_
    rw [overE_look] at ov
    cases hg : lookE s.gr x.k with
    | none => rw [hg] at ov; cases ov
    | some y =>
      obtain ⟨hy, hk⟩ := look_some hg
      obtain ⟨g1, g2, g3⟩ := go.g y hy
      have hw := wake_ok g1 g2 (good_next go.si go.c.1 hlt) (show y.a.c < s.c + 1 by omega)
      have hwk : wkE s x.k = (enWake y ⟨s.c + 1, s.site⟩).1 := by unfold wkE; rw [hg]; rfl
      rw [hwk, Option.getD_some]
      exact ⟨hw.1, hw.2.1, by rw [hw.2.2, hk]; exact hf⟩
set_option maxHeartbeats 12800000 in
theorem rp_merge_bad (B : World) (a : Ra) (s : Rs) (x : En) (w : World) (h : Rp B a s w) (hc : enCheck x ≠ 0) :
    Calls Tryz.prog 35 #[.pointer (some ⟨a.r, 0, none⟩), .agg #[.string x.k, .string x.v, .bool x.d, .int .i64 x.s.c, .int .i64 x.s.s, .int .i64 x.a.c, .int .i64 x.a.s, .int .i64 x.p, .int .i64 x.g]] w fun E w' => E = .returned (.tuple #[.int .i64 0, .agg #[.string ⟨#[]⟩, .string ⟨#[]⟩, .bool false, .int .i64 0, .int .i64 0, .int .i64 0, .int .i64 0, .int .i64 0, .int .i64 0], .int .i64 (enCheck x)]) ∧ LeftP B a w (s) w' := by
  obtain ⟨r, hr⟩ : ∃ r, a.r = r := ⟨_, rfl⟩
  have C2 := Lib.hid (((Cy.begin h).keep ((Only.refl none_ w).alloc (.cells #[.string x.k, .string x.v, .bool x.d, .int .i64 x.s.c, .int .i64 x.s.s, .int .i64 x.a.c, .int .i64 x.a.s, .int .i64 x.p, .int .i64 x.g] 82))).keep ((Only.refl none_ _).alloc (.cells #[.string ⟨#[]⟩, .string ⟨#[]⟩, .bool false, .int .i64 0, .int .i64 0, .int .i64 0, .int .i64 0, .int .i64 0, .int .i64 0] 82)))
  have N2 : Hid (Bn a w.heap.size 82 #[.string x.k, .string x.v, .bool x.d, .int .i64 x.s.c, .int .i64 x.s.s, .int .i64 x.a.c, .int .i64 x.a.s, .int .i64 x.p, .int .i64 x.g] ((w.alloc (.cells #[.string x.k, .string x.v, .bool x.d, .int .i64 x.s.c, .int .i64 x.s.s, .int .i64 x.a.c, .int .i64 x.a.s, .int .i64 x.p, .int .i64 x.g] 82)).alloc (.cells #[.string ⟨#[]⟩, .string ⟨#[]⟩, .bool false, .int .i64 0, .int .i64 0, .int .i64 0, .int .i64 0, .int .i64 0, .int .i64 0] 82))) := (Bn.new h).keep ((Only.refl none_ _).alloc _)
  have M2 : Hid (Bn a (w.heap.size + 1) 82 #[.string ⟨#[]⟩, .string ⟨#[]⟩, .bool false, .int .i64 0, .int .i64 0, .int .i64 0, .int .i64 0, .int .i64 0, .int .i64 0] ((w.alloc (.cells #[.string x.k, .string x.v, .bool x.d, .int .i64 x.s.c, .int .i64 x.s.s, .int .i64 x.a.c, .int .i64 x.a.s, .int .i64 x.p, .int .i64 x.g] 82)).alloc (.cells #[.string ⟨#[]⟩, .string ⟨#[]⟩, .bool false, .int .i64 0, .int .i64 0, .int .i64 0, .int .i64 0, .int .i64 0, .int .i64 0] 82))) := by
    have := Bn.new (t := 82) (cs := #[.string ⟨#[]⟩, .string ⟨#[]⟩, .bool false, .int .i64 0, .int .i64 0, .int .i64 0, .int .i64 0, .int .i64 0, .int .i64 0]) (h.keep ((Only.refl none_ w).alloc (.cells #[.string x.k, .string x.v, .bool x.d, .int .i64 x.s.c, .int .i64 x.s.s, .int .i64 x.a.c, .int .i64 x.a.s, .int .i64 x.p, .int .i64 x.g] 82)))
    rwa [World.size_alloc] at this
  have HCK := Lib.hid (fun (X : World) => en_check x X)
  have q2 := nine_of N2.out.b
  obtain ⟨z, hz⟩ : ∃ z, enCheck x = z := ⟨_, rfl⟩
  rw [hz] at hc HCK ⊢
  have hzb : (z != 0) = true := by simpa using hc
  clear h hc hz hr
  go_enter Tryz.func35, Tryz.ntmps35
  go_wp2_with (first
    | (go_at_call 83; refine (HCK.out _).mono ?_; rintro E w3 ⟨rfl, o3⟩
       have C3 := Lib.hid (C2.out.keep o3)
       have M3 := Lib.hid (M2.out.keep o3)
       clear o3)
    | (refine wpList_store_row rfl 82 _ _ rfl (w.heap.size + 1) #[.string ⟨#[]⟩, .string ⟨#[]⟩, .bool false, .int .i64 0, .int .i64 0, .int .i64 0, .int .i64 0, .int .i64 0, .int .i64 0] rfl rfl _ _ M3.out.b (by kernel_rfl) (by kernel_rfl) (by kernel_rfl) ?_))
  refine bodyPost_ret (results_tct rfl _ _ (w.heap.size + 1) 82 #[.string ⟨#[]⟩, .string ⟨#[]⟩, .bool false, .int .i64 0, .int .i64 0, .int .i64 0, .int .i64 0, .int .i64 0, .int .i64 0] _ rfl (M3.out.b.setRow _) Tryz.underlying82 rfl (by kernel_rfl) (.int .i64 0) (.int .i64 z) rfl rfl) rfl ?_
  exact ⟨rfl, (C3.out.box M3.out (by omega) (only_row _ _)).left⟩
set_option maxHeartbeats 25600000 in
theorem rp_merge_old (B : World) (a : Ra) (s : Rs) (x : En) (w : World) (h : Rp B a s w) (hc : enCheck x = 0) (hn : newsM s.tab x = false) :
    Calls Tryz.prog 35 #[.pointer (some ⟨a.r, 0, none⟩), .agg #[.string x.k, .string x.v, .bool x.d, .int .i64 x.s.c, .int .i64 x.s.s, .int .i64 x.a.c, .int .i64 x.a.s, .int .i64 x.p, .int .i64 x.g]] w fun E w' => E = .returned (.tuple #[.int .i64 0, .agg #[.string ⟨#[]⟩, .string ⟨#[]⟩, .bool false, .int .i64 0, .int .i64 0, .int .i64 0, .int .i64 0, .int .i64 0, .int .i64 0], .int .i64 0]) ∧ LeftP B a w ({ seeS s x with tab := youngM s.o s.tab x }) w' := by
  obtain ⟨r, hr⟩ : ∃ r, a.r = r := ⟨_, rfl⟩
  have C2 := Lib.hid (((Cy.begin h).keep ((Only.refl none_ w).alloc (.cells #[.string x.k, .string x.v, .bool x.d, .int .i64 x.s.c, .int .i64 x.s.s, .int .i64 x.a.c, .int .i64 x.a.s, .int .i64 x.p, .int .i64 x.g] 82))).keep ((Only.refl none_ _).alloc (.cells #[.string ⟨#[]⟩, .string ⟨#[]⟩, .bool false, .int .i64 0, .int .i64 0, .int .i64 0, .int .i64 0, .int .i64 0, .int .i64 0] 82)))
  have N2 : Hid (Bn a w.heap.size 82 #[.string x.k, .string x.v, .bool x.d, .int .i64 x.s.c, .int .i64 x.s.s, .int .i64 x.a.c, .int .i64 x.a.s, .int .i64 x.p, .int .i64 x.g] ((w.alloc (.cells #[.string x.k, .string x.v, .bool x.d, .int .i64 x.s.c, .int .i64 x.s.s, .int .i64 x.a.c, .int .i64 x.a.s, .int .i64 x.p, .int .i64 x.g] 82)).alloc (.cells #[.string ⟨#[]⟩, .string ⟨#[]⟩, .bool false, .int .i64 0, .int .i64 0, .int .i64 0, .int .i64 0, .int .i64 0, .int .i64 0] 82))) := (Bn.new h).keep ((Only.refl none_ _).alloc _)
  have M2 : Hid (Bn a (w.heap.size + 1) 82 #[.string ⟨#[]⟩, .string ⟨#[]⟩, .bool false, .int .i64 0, .int .i64 0, .int .i64 0, .int .i64 0, .int .i64 0, .int .i64 0] ((w.alloc (.cells #[.string x.k, .string x.v, .bool x.d, .int .i64 x.s.c, .int .i64 x.s.s, .int .i64 x.a.c, .int .i64 x.a.s, .int .i64 x.p, .int .i64 x.g] 82)).alloc (.cells #[.string ⟨#[]⟩, .string ⟨#[]⟩, .bool false, .int .i64 0, .int .i64 0, .int .i64 0, .int .i64 0, .int .i64 0, .int .i64 0] 82))) := by
    have := Bn.new (t := 82) (cs := #[.string ⟨#[]⟩, .string ⟨#[]⟩, .bool false, .int .i64 0, .int .i64 0, .int .i64 0, .int .i64 0, .int .i64 0, .int .i64 0]) (h.keep ((Only.refl none_ w).alloc (.cells #[.string x.k, .string x.v, .bool x.d, .int .i64 x.s.c, .int .i64 x.s.s, .int .i64 x.a.c, .int .i64 x.a.s, .int .i64 x.p, .int .i64 x.g] 82)))
    rwa [World.size_alloc] at this
  have HCK := Lib.hid (fun (X : World) => en_check x X)
  have q2 := nine_of N2.out.b
  rw [hc] at HCK
  have hx : x.d = true → 0 ≤ x.g ∧ x.g ≤ 2147483647 := fun hd => ⟨((check_of hc).2.2.2.2.2.2.2 hd).2.2.1, ((check_of hc).2.2.2.2.2.2.2 hd).2.2.2⟩
  have HSE := Lib.hid (fun (X : World) (hX : Rp B a s X) => rp_see B a s x.a X hX)
  obtain ⟨s1, hs1⟩ : ∃ s1, seeS s x = s1 := ⟨_, rfl⟩
  have hs1' : ({ s with c := seeC s.c x.a } : Rs) = s1 := hs1
  rw [hs1'] at HSE
  have ho : s1.o = s.o := by rw [← hs1]; rfl
  have ht : s1.tab = s.tab := by rw [← hs1]; rfl
  have HNE := Lib.hid (fun (a1 : Ra) (X : World) (hX : Rp B a1 s1 X) (e1 : a1.r = r) => by
    have := ct_news B a1 s1 x X hX
    rw [e1, ht, hn] at this
    exact this)
  have HC5 : Hid (∀ X, Rp B a s X → X.cell? ⟨r, 5, none⟩ = some (.pointer (some ⟨a.ck, 0, none⟩))) := fun X hX => hX.at_ hr rfl
  have HYO := Lib.hid (fun (a1 : Ra) (X : World) (hX : Rp B a1 s1 X) (e1 : a1.r = r) => by
    have := rp_younger B a1 s1 x X hX hx
    rw [e1, ho, ht, ← hs1] at this
    exact this)
  rw [hr]
  have HR := Lib.hid hr
  clear h hc hr hx hs1 hs1' ho ht hn
  go_enter Tryz.func35, Tryz.ntmps35
  go_wp2_with (first
    | (go_at_call 83; refine (HCK.out _).mono ?_; rintro E w3 ⟨rfl, o3⟩
       have C3 := Lib.hid (C2.out.keep o3)
       have N3 := Lib.hid (N2.out.keep o3)
       have M3 := Lib.hid (M2.out.keep o3)
       clear o3))
  clear q2 C2 N2 M2 HCK
  (refine wp_region_steady (fun X => Only none_ w3 X) 6 (by kernel_rfl) (by kernel_rfl) ((Only.refl none_ w3).drew) ?_; simp only [List.take_succ_cons, List.take_zero, List.drop_succ_cons, List.drop_zero])
  repeat (first
    | (refine sd_value (v := ?_) (by rfl) (fun w0 hS => ?_) ?_; rotate_left; (· (have c5 := HC5.out _ (C3.out.keep hS).r; have qq := nine_of (N3.out.keep hS).b; go_simp; try (with_reducible rfl))); try simp only [Act.put, List.setIfInBounds_toArray, List.set_cons_zero, List.set_cons_succ]))
  refine sd_nil ?_
  intro w4 t4
  have C4 := Lib.hid (C3.out.keep t4)
  have N4 := Lib.hid (N3.out.keep t4)
  have M4 := Lib.hid (M3.out.keep t4)
  clear t4
  go_wp2_with (first
    | (go_at_call 84; refine (HSE.out _ C4.out.r).mono ?_; rintro E w5 ⟨⟨bs, rfl⟩, L5⟩
       obtain ⟨a5, c5, e5, b5⟩ := C4.out.step L5
       have C5 := Lib.hid c5
       have N5 := Lib.hid (b5 _ _ _ N4.out)
       have M5 := Lib.hid (b5 _ _ _ M4.out)
       have E5 : Hid (a5.r = r) := e5.trans HR.out
       clear c5 b5 e5 L5))
  (refine wp_region_steady (fun X => Only none_ w5 X) 7 (by kernel_rfl) (by kernel_rfl) ((Only.refl none_ w5).drew) ?_; simp only [List.take_succ_cons, List.take_zero, List.drop_succ_cons, List.drop_zero])
  repeat (first
    | (refine sd_value (v := ?_) (by rfl) (fun w0 hS => ?_) ?_; rotate_left; (· (have qq := nine_of (N5.out.keep hS).b; go_simp; try (with_reducible rfl))); try simp only [Act.put, List.setIfInBounds_toArray, List.set_cons_zero, List.set_cons_succ])
    | (refine sd_call (v := ?_) (f := 85) (args := ?_) (by rfl) (fun w0 hS => ?_) (fun w0 hS => ?_) ?_; rotate_left 2; (· (skip; go_simp; try (with_reducible rfl))); (· (refine (HNE.out a5 _ (C5.out.keep hS).r E5.out).mono ?_; rintro E w8 ⟨rfl, o8⟩; refine ⟨?_, hS.trans o8⟩; rfl)); try simp only [Act.put, List.setIfInBounds_toArray, List.set_cons_zero, List.set_cons_succ]))
  refine sd_nil ?_
  intro w6 t6
  have C6 := Lib.hid (C5.out.keep t6)
  have N6 := Lib.hid (N5.out.keep t6)
  have M6 := Lib.hid (M5.out.keep t6)
  have q6 := nine_of N6.out.b
  clear t6 C5 N5 M5 C4 N4 M4 C3 N3 M3
  go_wp2_with (first
    | (go_at_call 86; refine (HYO.out a5 _ C6.out.r E5.out).mono ?_; rintro E w7 ⟨rfl, L7⟩
       obtain ⟨a7, c7, e7, b7⟩ := C6.out.step L7
       have C7 := Lib.hid c7
       have M7 := Lib.hid (b7 _ _ _ M6.out)
       clear c7 b7 e7 L7)
    | (refine wpList_store_row rfl 82 _ _ rfl (w.heap.size + 1) #[.string ⟨#[]⟩, .string ⟨#[]⟩, .bool false, .int .i64 0, .int .i64 0, .int .i64 0, .int .i64 0, .int .i64 0, .int .i64 0] rfl rfl _ _ M7.out.b (by kernel_rfl) (by kernel_rfl) (by kernel_rfl) ?_))
  refine bodyPost_ret (results_tct rfl _ _ (w.heap.size + 1) 82 #[.string ⟨#[]⟩, .string ⟨#[]⟩, .bool false, .int .i64 0, .int .i64 0, .int .i64 0, .int .i64 0, .int .i64 0, .int .i64 0] _ rfl (M7.out.b.setRow _) Tryz.underlying82 rfl (by kernel_rfl) (.int .i64 0) (.int .i64 0) rfl rfl) rfl ?_
  exact ⟨rfl, (C7.out.box M7.out (by omega) (only_row _ _)).left⟩
set_option maxHeartbeats 25600000 in
theorem rp_merge_late (B : World) (a : Ra) (s : Rs) (x : En) (w : World) (h : Rp B a s w) (hc : enCheck x = 0) (hn : newsM s.tab x = true) (hl : lateM s.o x = true) :
    Calls Tryz.prog 35 #[.pointer (some ⟨a.r, 0, none⟩), .agg #[.string x.k, .string x.v, .bool x.d, .int .i64 x.s.c, .int .i64 x.s.s, .int .i64 x.a.c, .int .i64 x.a.s, .int .i64 x.p, .int .i64 x.g]] w fun E w' => E = .returned (.tuple #[.int .i64 0, .agg #[.string ⟨#[]⟩, .string ⟨#[]⟩, .bool false, .int .i64 0, .int .i64 0, .int .i64 0, .int .i64 0, .int .i64 0, .int .i64 0], .int .i64 0]) ∧ LeftP B a w (seeS s x) w' := by
  obtain ⟨r, hr⟩ : ∃ r, a.r = r := ⟨_, rfl⟩
  have C2 := Lib.hid (((Cy.begin h).keep ((Only.refl none_ w).alloc (.cells #[.string x.k, .string x.v, .bool x.d, .int .i64 x.s.c, .int .i64 x.s.s, .int .i64 x.a.c, .int .i64 x.a.s, .int .i64 x.p, .int .i64 x.g] 82))).keep ((Only.refl none_ _).alloc (.cells #[.string ⟨#[]⟩, .string ⟨#[]⟩, .bool false, .int .i64 0, .int .i64 0, .int .i64 0, .int .i64 0, .int .i64 0, .int .i64 0] 82)))
  have N2 : Hid (Bn a w.heap.size 82 #[.string x.k, .string x.v, .bool x.d, .int .i64 x.s.c, .int .i64 x.s.s, .int .i64 x.a.c, .int .i64 x.a.s, .int .i64 x.p, .int .i64 x.g] ((w.alloc (.cells #[.string x.k, .string x.v, .bool x.d, .int .i64 x.s.c, .int .i64 x.s.s, .int .i64 x.a.c, .int .i64 x.a.s, .int .i64 x.p, .int .i64 x.g] 82)).alloc (.cells #[.string ⟨#[]⟩, .string ⟨#[]⟩, .bool false, .int .i64 0, .int .i64 0, .int .i64 0, .int .i64 0, .int .i64 0, .int .i64 0] 82))) := (Bn.new h).keep ((Only.refl none_ _).alloc _)
  have M2 : Hid (Bn a (w.heap.size + 1) 82 #[.string ⟨#[]⟩, .string ⟨#[]⟩, .bool false, .int .i64 0, .int .i64 0, .int .i64 0, .int .i64 0, .int .i64 0, .int .i64 0] ((w.alloc (.cells #[.string x.k, .string x.v, .bool x.d, .int .i64 x.s.c, .int .i64 x.s.s, .int .i64 x.a.c, .int .i64 x.a.s, .int .i64 x.p, .int .i64 x.g] 82)).alloc (.cells #[.string ⟨#[]⟩, .string ⟨#[]⟩, .bool false, .int .i64 0, .int .i64 0, .int .i64 0, .int .i64 0, .int .i64 0, .int .i64 0] 82))) := by
    have := Bn.new (t := 82) (cs := #[.string ⟨#[]⟩, .string ⟨#[]⟩, .bool false, .int .i64 0, .int .i64 0, .int .i64 0, .int .i64 0, .int .i64 0, .int .i64 0]) (h.keep ((Only.refl none_ w).alloc (.cells #[.string x.k, .string x.v, .bool x.d, .int .i64 x.s.c, .int .i64 x.s.s, .int .i64 x.a.c, .int .i64 x.a.s, .int .i64 x.p, .int .i64 x.g] 82)))
    rwa [World.size_alloc] at this
  have HCK := Lib.hid (fun (X : World) => en_check x X)
  have q2 := nine_of N2.out.b
  rw [hc] at HCK
  have hx : x.d = true → 0 ≤ x.g ∧ x.g ≤ 2147483647 := fun hd => ⟨((check_of hc).2.2.2.2.2.2.2 hd).2.2.1, ((check_of hc).2.2.2.2.2.2.2 hd).2.2.2⟩
  have HSE := Lib.hid (fun (X : World) (hX : Rp B a s X) => rp_see B a s x.a X hX)
  obtain ⟨s1, hs1⟩ : ∃ s1, seeS s x = s1 := ⟨_, rfl⟩
  have hs1' : ({ s with c := seeC s.c x.a } : Rs) = s1 := hs1
  rw [hs1'] at HSE
  have ho : s1.o = s.o := by rw [← hs1]; rfl
  have ht : s1.tab = s.tab := by rw [← hs1]; rfl
  have HNE := Lib.hid (fun (a1 : Ra) (X : World) (hX : Rp B a1 s1 X) (e1 : a1.r = r) => by
    have := ct_news B a1 s1 x X hX
    rw [e1, ht, hn] at this
    exact this)
  have HC5 : Hid (∀ X, Rp B a s X → X.cell? ⟨r, 5, none⟩ = some (.pointer (some ⟨a.ck, 0, none⟩))) := fun X hX => hX.at_ hr rfl
  have HEX := Lib.hid (fun (a1 : Ra) (X : World) (hX : Rp B a1 s1 X) (e1 : a1.r = r) => by
    have := rp_expired B a1 s1 x X hX hx
    rw [e1, ho, hl] at this
    exact this)
  rw [hs1]
  rw [hr]
  have HR := Lib.hid hr
  clear h hc hr hx hs1 hs1' ho ht hn hl
  go_enter Tryz.func35, Tryz.ntmps35
  go_wp2_with (first
    | (go_at_call 83; refine (HCK.out _).mono ?_; rintro E w3 ⟨rfl, o3⟩
       have C3 := Lib.hid (C2.out.keep o3)
       have N3 := Lib.hid (N2.out.keep o3)
       have M3 := Lib.hid (M2.out.keep o3)
       clear o3))
  clear q2 C2 N2 M2 HCK
  (refine wp_region_steady (fun X => Only none_ w3 X) 6 (by kernel_rfl) (by kernel_rfl) ((Only.refl none_ w3).drew) ?_; simp only [List.take_succ_cons, List.take_zero, List.drop_succ_cons, List.drop_zero])
  repeat (first
    | (refine sd_value (v := ?_) (by rfl) (fun w0 hS => ?_) ?_; rotate_left; (· (have c5 := HC5.out _ (C3.out.keep hS).r; have qq := nine_of (N3.out.keep hS).b; go_simp; try (with_reducible rfl))); try simp only [Act.put, List.setIfInBounds_toArray, List.set_cons_zero, List.set_cons_succ]))
  refine sd_nil ?_
  intro w4 t4
  have C4 := Lib.hid (C3.out.keep t4)
  have N4 := Lib.hid (N3.out.keep t4)
  have M4 := Lib.hid (M3.out.keep t4)
  clear t4
  go_wp2_with (first
    | (go_at_call 84; refine (HSE.out _ C4.out.r).mono ?_; rintro E w5 ⟨⟨bs, rfl⟩, L5⟩
       obtain ⟨a5, c5, e5, b5⟩ := C4.out.step L5
       have C5 := Lib.hid c5
       have N5 := Lib.hid (b5 _ _ _ N4.out)
       have M5 := Lib.hid (b5 _ _ _ M4.out)
       have E5 : Hid (a5.r = r) := e5.trans HR.out
       clear c5 b5 e5 L5))
  (refine wp_region_steady (fun X => Only none_ w5 X) 7 (by kernel_rfl) (by kernel_rfl) ((Only.refl none_ w5).drew) ?_; simp only [List.take_succ_cons, List.take_zero, List.drop_succ_cons, List.drop_zero])
  repeat (first
    | (refine sd_value (v := ?_) (by rfl) (fun w0 hS => ?_) ?_; rotate_left; (· (have qq := nine_of (N5.out.keep hS).b; go_simp; try (with_reducible rfl))); try simp only [Act.put, List.setIfInBounds_toArray, List.set_cons_zero, List.set_cons_succ])
    | (refine sd_call (v := ?_) (f := 85) (args := ?_) (by rfl) (fun w0 hS => ?_) (fun w0 hS => ?_) ?_; rotate_left 2; (· (skip; go_simp; try (with_reducible rfl))); (· (refine (HNE.out a5 _ (C5.out.keep hS).r E5.out).mono ?_; rintro E w8 ⟨rfl, o8⟩; refine ⟨?_, hS.trans o8⟩; rfl)); try simp only [Act.put, List.setIfInBounds_toArray, List.set_cons_zero, List.set_cons_succ]))
  refine sd_nil ?_
  intro w6 t6
  have C6 := Lib.hid (C5.out.keep t6)
  have N6 := Lib.hid (N5.out.keep t6)
  have M6 := Lib.hid (M5.out.keep t6)
  have q6 := nine_of N6.out.b
  clear t6 C5 N5 M5 C4 N4 M4 C3 N3 M3
  go_wp2_with (first
    | (go_at_call 87; refine (HEX.out a5 _ C6.out.r E5.out).mono ?_; rintro E w7 ⟨rfl, o7⟩
       have C7 := Lib.hid (C6.out.keep o7)
       have N7 := Lib.hid (N6.out.keep o7)
       have M7 := Lib.hid (M6.out.keep o7)
       clear o7)
    | (refine wpList_store_row rfl 82 _ _ rfl (w.heap.size + 1) #[.string ⟨#[]⟩, .string ⟨#[]⟩, .bool false, .int .i64 0, .int .i64 0, .int .i64 0, .int .i64 0, .int .i64 0, .int .i64 0] rfl rfl _ _ M7.out.b (by kernel_rfl) (by kernel_rfl) (by kernel_rfl) ?_))
  refine bodyPost_ret (results_tct rfl _ _ (w.heap.size + 1) 82 #[.string ⟨#[]⟩, .string ⟨#[]⟩, .bool false, .int .i64 0, .int .i64 0, .int .i64 0, .int .i64 0, .int .i64 0, .int .i64 0] _ rfl (M7.out.b.setRow _) Tryz.underlying82 rfl (by kernel_rfl) (.int .i64 0) (.int .i64 0) rfl rfl) rfl ?_
  exact ⟨rfl, (C7.out.box M7.out (by omega) (only_row _ _)).left⟩
set_option maxHeartbeats 25600000 in
theorem rp_merge_full (B : World) (a : Ra) (s : Rs) (x : En) (w : World) (h : Rp B a s w) (hc : enCheck x = 0) (hn : newsM s.tab x = true) (hl : lateM s.o x = false) (hf : fullM s.o s.tab x.k = true) :
    Calls Tryz.prog 35 #[.pointer (some ⟨a.r, 0, none⟩), .agg #[.string x.k, .string x.v, .bool x.d, .int .i64 x.s.c, .int .i64 x.s.s, .int .i64 x.a.c, .int .i64 x.a.s, .int .i64 x.p, .int .i64 x.g]] w fun E w' => E = .returned (.tuple #[.int .i64 0, .agg #[.string ⟨#[]⟩, .string ⟨#[]⟩, .bool false, .int .i64 0, .int .i64 0, .int .i64 0, .int .i64 0, .int .i64 0, .int .i64 0], .int .i64 7]) ∧ LeftP B a w (seeS s x) w' := by
  obtain ⟨r, hr⟩ : ∃ r, a.r = r := ⟨_, rfl⟩
  have C2 := Lib.hid (((Cy.begin h).keep ((Only.refl none_ w).alloc (.cells #[.string x.k, .string x.v, .bool x.d, .int .i64 x.s.c, .int .i64 x.s.s, .int .i64 x.a.c, .int .i64 x.a.s, .int .i64 x.p, .int .i64 x.g] 82))).keep ((Only.refl none_ _).alloc (.cells #[.string ⟨#[]⟩, .string ⟨#[]⟩, .bool false, .int .i64 0, .int .i64 0, .int .i64 0, .int .i64 0, .int .i64 0, .int .i64 0] 82)))
  have N2 : Hid (Bn a w.heap.size 82 #[.string x.k, .string x.v, .bool x.d, .int .i64 x.s.c, .int .i64 x.s.s, .int .i64 x.a.c, .int .i64 x.a.s, .int .i64 x.p, .int .i64 x.g] ((w.alloc (.cells #[.string x.k, .string x.v, .bool x.d, .int .i64 x.s.c, .int .i64 x.s.s, .int .i64 x.a.c, .int .i64 x.a.s, .int .i64 x.p, .int .i64 x.g] 82)).alloc (.cells #[.string ⟨#[]⟩, .string ⟨#[]⟩, .bool false, .int .i64 0, .int .i64 0, .int .i64 0, .int .i64 0, .int .i64 0, .int .i64 0] 82))) := (Bn.new h).keep ((Only.refl none_ _).alloc _)
  have M2 : Hid (Bn a (w.heap.size + 1) 82 #[.string ⟨#[]⟩, .string ⟨#[]⟩, .bool false, .int .i64 0, .int .i64 0, .int .i64 0, .int .i64 0, .int .i64 0, .int .i64 0] ((w.alloc (.cells #[.string x.k, .string x.v, .bool x.d, .int .i64 x.s.c, .int .i64 x.s.s, .int .i64 x.a.c, .int .i64 x.a.s, .int .i64 x.p, .int .i64 x.g] 82)).alloc (.cells #[.string ⟨#[]⟩, .string ⟨#[]⟩, .bool false, .int .i64 0, .int .i64 0, .int .i64 0, .int .i64 0, .int .i64 0, .int .i64 0] 82))) := by
    have := Bn.new (t := 82) (cs := #[.string ⟨#[]⟩, .string ⟨#[]⟩, .bool false, .int .i64 0, .int .i64 0, .int .i64 0, .int .i64 0, .int .i64 0, .int .i64 0]) (h.keep ((Only.refl none_ w).alloc (.cells #[.string x.k, .string x.v, .bool x.d, .int .i64 x.s.c, .int .i64 x.s.s, .int .i64 x.a.c, .int .i64 x.a.s, .int .i64 x.p, .int .i64 x.g] 82)))
    rwa [World.size_alloc] at this
  have HCK := Lib.hid (fun (X : World) => en_check x X)
  have q2 := nine_of N2.out.b
  rw [hc] at HCK
  have hx : x.d = true → 0 ≤ x.g ∧ x.g ≤ 2147483647 := fun hd => ⟨((check_of hc).2.2.2.2.2.2.2 hd).2.2.1, ((check_of hc).2.2.2.2.2.2.2 hd).2.2.2⟩
  have HSE := Lib.hid (fun (X : World) (hX : Rp B a s X) => rp_see B a s x.a X hX)
  obtain ⟨s1, hs1⟩ : ∃ s1, seeS s x = s1 := ⟨_, rfl⟩
  have hs1' : ({ s with c := seeC s.c x.a } : Rs) = s1 := hs1
  rw [hs1'] at HSE
  have ho : s1.o = s.o := by rw [← hs1]; rfl
  have ht : s1.tab = s.tab := by rw [← hs1]; rfl
  have HNE := Lib.hid (fun (a1 : Ra) (X : World) (hX : Rp B a1 s1 X) (e1 : a1.r = r) => by
    have := ct_news B a1 s1 x X hX
    rw [e1, ht, hn] at this
    exact this)
  have HC5 : Hid (∀ X, Rp B a s X → X.cell? ⟨r, 5, none⟩ = some (.pointer (some ⟨a.ck, 0, none⟩))) := fun X hX => hX.at_ hr rfl
  have HEX := Lib.hid (fun (a1 : Ra) (X : World) (hX : Rp B a1 s1 X) (e1 : a1.r = r) => by
    have := rp_expired B a1 s1 x X hX hx
    rw [e1, ho, hl] at this
    exact this)
  have HRM := Lib.hid (fun (a1 : Ra) (X : World) (hX : Rp B a1 s1 X) (e1 : a1.r = r) => by
    have := ct_room B a1 s1 x.k X hX
    rw [e1, ho, ht, hf] at this
    exact this)
  rw [hs1]
  rw [hr]
  have HR := Lib.hid hr
  clear h hc hr hx hs1 hs1' ho ht hn hl hf
  go_enter Tryz.func35, Tryz.ntmps35
  go_wp2_with (first
    | (go_at_call 83; refine (HCK.out _).mono ?_; rintro E w3 ⟨rfl, o3⟩
       have C3 := Lib.hid (C2.out.keep o3)
       have N3 := Lib.hid (N2.out.keep o3)
       have M3 := Lib.hid (M2.out.keep o3)
       clear o3))
  clear q2 C2 N2 M2 HCK
  (refine wp_region_steady (fun X => Only none_ w3 X) 6 (by kernel_rfl) (by kernel_rfl) ((Only.refl none_ w3).drew) ?_; simp only [List.take_succ_cons, List.take_zero, List.drop_succ_cons, List.drop_zero])
  repeat (first
    | (refine sd_value (v := ?_) (by rfl) (fun w0 hS => ?_) ?_; rotate_left; (· (have c5 := HC5.out _ (C3.out.keep hS).r; have qq := nine_of (N3.out.keep hS).b; go_simp; try (with_reducible rfl))); try simp only [Act.put, List.setIfInBounds_toArray, List.set_cons_zero, List.set_cons_succ]))
  refine sd_nil ?_
  intro w4 t4
  have C4 := Lib.hid (C3.out.keep t4)
  have N4 := Lib.hid (N3.out.keep t4)
  have M4 := Lib.hid (M3.out.keep t4)
  clear t4
  go_wp2_with (first
    | (go_at_call 84; refine (HSE.out _ C4.out.r).mono ?_; rintro E w5 ⟨⟨bs, rfl⟩, L5⟩
       obtain ⟨a5, c5, e5, b5⟩ := C4.out.step L5
       have C5 := Lib.hid c5
       have N5 := Lib.hid (b5 _ _ _ N4.out)
       have M5 := Lib.hid (b5 _ _ _ M4.out)
       have E5 : Hid (a5.r = r) := e5.trans HR.out
       clear c5 b5 e5 L5))
  (refine wp_region_steady (fun X => Only none_ w5 X) 7 (by kernel_rfl) (by kernel_rfl) ((Only.refl none_ w5).drew) ?_; simp only [List.take_succ_cons, List.take_zero, List.drop_succ_cons, List.drop_zero])
  repeat (first
    | (refine sd_value (v := ?_) (by rfl) (fun w0 hS => ?_) ?_; rotate_left; (· (have qq := nine_of (N5.out.keep hS).b; go_simp; try (with_reducible rfl))); try simp only [Act.put, List.setIfInBounds_toArray, List.set_cons_zero, List.set_cons_succ])
    | (refine sd_call (v := ?_) (f := 85) (args := ?_) (by rfl) (fun w0 hS => ?_) (fun w0 hS => ?_) ?_; rotate_left 2; (· (skip; go_simp; try (with_reducible rfl))); (· (refine (HNE.out a5 _ (C5.out.keep hS).r E5.out).mono ?_; rintro E w8 ⟨rfl, o8⟩; refine ⟨?_, hS.trans o8⟩; rfl)); try simp only [Act.put, List.setIfInBounds_toArray, List.set_cons_zero, List.set_cons_succ]))
  refine sd_nil ?_
  intro w6 t6
  have C6 := Lib.hid (C5.out.keep t6)
  have N6 := Lib.hid (N5.out.keep t6)
  have M6 := Lib.hid (M5.out.keep t6)
  have q6 := nine_of N6.out.b
  clear t6 C5 N5 M5 C4 N4 M4 C3 N3 M3
  go_wp2_with (first
    | (go_at_call 87; refine (HEX.out a5 _ C6.out.r E5.out).mono ?_; rintro E w7 ⟨rfl, o7⟩
       have C7 := Lib.hid (C6.out.keep o7)
       have N7 := Lib.hid (N6.out.keep o7)
       have M7 := Lib.hid (M6.out.keep o7)
       clear o7))
  (refine wp_region_steady (fun X => Only none_ w7 X) 8 (by kernel_rfl) (by kernel_rfl) ((Only.refl none_ w7).drew) ?_; simp only [List.take_succ_cons, List.take_zero, List.drop_succ_cons, List.drop_zero])
  repeat (first
    | (refine sd_value (v := ?_) (by rfl) (fun w0 hS => ?_) ?_; rotate_left; (· (have qq := nine_of (N7.out.keep hS).b; go_simp; try (with_reducible rfl))); try simp only [Act.put, List.setIfInBounds_toArray, List.set_cons_zero, List.set_cons_succ])
    | (refine sd_call (v := ?_) (f := 88) (args := ?_) (by rfl) (fun w0 hS => ?_) (fun w0 hS => ?_) ?_; rotate_left 2; (· (have qq := nine_of (N7.out.keep hS).b; go_simp; try (with_reducible rfl))); (· (refine (HRM.out a5 _ (C7.out.keep hS).r E5.out).mono ?_; rintro E w9 ⟨rfl, o9⟩; refine ⟨?_, hS.trans o9⟩; rfl)); try simp only [Act.put, List.setIfInBounds_toArray, List.set_cons_zero, List.set_cons_succ]))
  refine sd_nil ?_
  intro w8 t8
  have C8 := Lib.hid (C7.out.keep t8)
  have N8 := Lib.hid (N7.out.keep t8)
  have M8 := Lib.hid (M7.out.keep t8)
  have q8 := nine_of N8.out.b
  clear t8 q6
  go_wp2_with (first
    | (refine wpList_store_row rfl 82 _ _ rfl (w.heap.size + 1) #[.string ⟨#[]⟩, .string ⟨#[]⟩, .bool false, .int .i64 0, .int .i64 0, .int .i64 0, .int .i64 0, .int .i64 0, .int .i64 0] rfl rfl _ _ M8.out.b (by kernel_rfl) (by kernel_rfl) (by kernel_rfl) ?_))
  refine bodyPost_ret (results_tct rfl _ _ (w.heap.size + 1) 82 #[.string ⟨#[]⟩, .string ⟨#[]⟩, .bool false, .int .i64 0, .int .i64 0, .int .i64 0, .int .i64 0, .int .i64 0, .int .i64 0] _ rfl (M8.out.b.setRow _) Tryz.underlying82 rfl (by kernel_rfl) (.int .i64 0) (.int .i64 7) rfl rfl) rfl ?_
  exact ⟨rfl, (C8.out.box M8.out (by omega) (only_row _ _)).left⟩
set_option maxHeartbeats 25600000 in
theorem rp_merge_take (B : World) (a : Ra) (s : Rs) (x : En) (w : World) (h : Rp B a s w) (hc : enCheck x = 0) (hn : newsM s.tab x = true) (hl : lateM s.o x = false) (hf : fullM s.o s.tab x.k = false) (ok : Rky s) (go : Gok s) (hT : ∀ e ∈ s.tab, enCheck e = 0) :
    Calls Tryz.prog 35 #[.pointer (some ⟨a.r, 0, none⟩), .agg #[.string x.k, .string x.v, .bool x.d, .int .i64 x.s.c, .int .i64 x.s.s, .int .i64 x.a.c, .int .i64 x.a.s, .int .i64 x.p, .int .i64 x.g]] w fun E w' => E = .returned (.tuple #[.int .i64 (tqR (seeS s x) x).2.1, .agg #[.string (tqR (seeS s x) x).2.2.1.k, .string (tqR (seeS s x) x).2.2.1.v, .bool (tqR (seeS s x) x).2.2.1.d, .int .i64 (tqR (seeS s x) x).2.2.1.s.c, .int .i64 (tqR (seeS s x) x).2.2.1.s.s, .int .i64 (tqR (seeS s x) x).2.2.1.a.c, .int .i64 (tqR (seeS s x) x).2.2.1.a.s, .int .i64 (tqR (seeS s x) x).2.2.1.p, .int .i64 (tqR (seeS s x) x).2.2.1.g], .int .i64 (tqR (seeS s x) x).2.2.2]) ∧ LeftP B a w ((tqR (seeS s x) x).1) w' := by
  obtain ⟨r, hr⟩ : ∃ r, a.r = r := ⟨_, rfl⟩
  have C2 := Lib.hid (((Cy.begin h).keep ((Only.refl none_ w).alloc (.cells #[.string x.k, .string x.v, .bool x.d, .int .i64 x.s.c, .int .i64 x.s.s, .int .i64 x.a.c, .int .i64 x.a.s, .int .i64 x.p, .int .i64 x.g] 82))).keep ((Only.refl none_ _).alloc (.cells #[.string ⟨#[]⟩, .string ⟨#[]⟩, .bool false, .int .i64 0, .int .i64 0, .int .i64 0, .int .i64 0, .int .i64 0, .int .i64 0] 82)))
  have N2 : Hid (Bn a w.heap.size 82 #[.string x.k, .string x.v, .bool x.d, .int .i64 x.s.c, .int .i64 x.s.s, .int .i64 x.a.c, .int .i64 x.a.s, .int .i64 x.p, .int .i64 x.g] ((w.alloc (.cells #[.string x.k, .string x.v, .bool x.d, .int .i64 x.s.c, .int .i64 x.s.s, .int .i64 x.a.c, .int .i64 x.a.s, .int .i64 x.p, .int .i64 x.g] 82)).alloc (.cells #[.string ⟨#[]⟩, .string ⟨#[]⟩, .bool false, .int .i64 0, .int .i64 0, .int .i64 0, .int .i64 0, .int .i64 0, .int .i64 0] 82))) := (Bn.new h).keep ((Only.refl none_ _).alloc _)
  have M2 : Hid (Bn a (w.heap.size + 1) 82 #[.string ⟨#[]⟩, .string ⟨#[]⟩, .bool false, .int .i64 0, .int .i64 0, .int .i64 0, .int .i64 0, .int .i64 0, .int .i64 0] ((w.alloc (.cells #[.string x.k, .string x.v, .bool x.d, .int .i64 x.s.c, .int .i64 x.s.s, .int .i64 x.a.c, .int .i64 x.a.s, .int .i64 x.p, .int .i64 x.g] 82)).alloc (.cells #[.string ⟨#[]⟩, .string ⟨#[]⟩, .bool false, .int .i64 0, .int .i64 0, .int .i64 0, .int .i64 0, .int .i64 0, .int .i64 0] 82))) := by
    have := Bn.new (t := 82) (cs := #[.string ⟨#[]⟩, .string ⟨#[]⟩, .bool false, .int .i64 0, .int .i64 0, .int .i64 0, .int .i64 0, .int .i64 0, .int .i64 0]) (h.keep ((Only.refl none_ w).alloc (.cells #[.string x.k, .string x.v, .bool x.d, .int .i64 x.s.c, .int .i64 x.s.s, .int .i64 x.a.c, .int .i64 x.a.s, .int .i64 x.p, .int .i64 x.g] 82)))
    rwa [World.size_alloc] at this
  have HCK := Lib.hid (fun (X : World) => en_check x X)
  have q2 := nine_of N2.out.b
  rw [hc] at HCK
  have hx : x.d = true → 0 ≤ x.g ∧ x.g ≤ 2147483647 := fun hd => ⟨((check_of hc).2.2.2.2.2.2.2 hd).2.2.1, ((check_of hc).2.2.2.2.2.2.2 hd).2.2.2⟩
  have HSE := Lib.hid (fun (X : World) (hX : Rp B a s X) => rp_see B a s x.a X hX)
  obtain ⟨s1, hs1⟩ : ∃ s1, seeS s x = s1 := ⟨_, rfl⟩
  have hs1' : ({ s with c := seeC s.c x.a } : Rs) = s1 := hs1
  rw [hs1'] at HSE
  have ho : s1.o = s.o := by rw [← hs1]; rfl
  have ht : s1.tab = s.tab := by rw [← hs1]; rfl
  have HNE := Lib.hid (fun (a1 : Ra) (X : World) (hX : Rp B a1 s1 X) (e1 : a1.r = r) => by
    have := ct_news B a1 s1 x X hX
    rw [e1, ht, hn] at this
    exact this)
  have HC5 : Hid (∀ X, Rp B a s X → X.cell? ⟨r, 5, none⟩ = some (.pointer (some ⟨a.ck, 0, none⟩))) := fun X hX => hX.at_ hr rfl
  have HEX := Lib.hid (fun (a1 : Ra) (X : World) (hX : Rp B a1 s1 X) (e1 : a1.r = r) => by
    have := rp_expired B a1 s1 x X hX hx
    rw [e1, ho, hl] at this
    exact this)
  have HRM := Lib.hid (fun (a1 : Ra) (X : World) (hX : Rp B a1 s1 X) (e1 : a1.r = r) => by
    have := ct_room B a1 s1 x.k X hX
    rw [e1, ho, ht, hf] at this
    exact this)
  have ok1 : Rky s1 := by rw [← hs1]; exact ⟨ok.m, ok.g, ok.w, ok.d, ok.n⟩
  have go1 : Gok s1 := by
    have h2 := see_ge s.c x.a go.c
    rw [← hs1]
    exact ⟨h2.2, go.si, go.t, fun y hy => ⟨(go.g y hy).1, (go.g y hy).2.1, Int.le_trans (go.g y hy).2.2 h2.1⟩⟩
  have HTK := Lib.hid (fun (a1 : Ra) (X : World) (hX : Rp B a1 s1 X) (e1 : a1.r = r) => by
    have := rp_take B a1 s1 x X hX ok1 go1 hc (by rw [ho]; exact hl) (by rw [ht]; exact hn) (by rw [ht]; exact hT) (by rw [ho, ht]; exact hf)
    rw [e1] at this
    exact this)
  rw [hs1]
  obtain ⟨⟨s2, k2, e2, z2⟩, hq⟩ : ∃ q, tqR s1 x = q := ⟨_, rfl⟩
  rw [hq] at HTK ⊢
  dsimp only at HTK ⊢
  clear ok1 go1
  rw [hr]
  have HR := Lib.hid hr
  clear h hc hr hx hs1 hs1' ho ht hn hl hf ok go hT hq
  go_enter Tryz.func35, Tryz.ntmps35
  go_wp2_with (first
    | (go_at_call 83; refine (HCK.out _).mono ?_; rintro E w3 ⟨rfl, o3⟩
       have C3 := Lib.hid (C2.out.keep o3)
       have N3 := Lib.hid (N2.out.keep o3)
       have M3 := Lib.hid (M2.out.keep o3)
       clear o3))
  clear q2 C2 N2 M2 HCK
  (refine wp_region_steady (fun X => Only none_ w3 X) 6 (by kernel_rfl) (by kernel_rfl) ((Only.refl none_ w3).drew) ?_; simp only [List.take_succ_cons, List.take_zero, List.drop_succ_cons, List.drop_zero])
  repeat (first
    | (refine sd_value (v := ?_) (by rfl) (fun w0 hS => ?_) ?_; rotate_left; (· (have c5 := HC5.out _ (C3.out.keep hS).r; have qq := nine_of (N3.out.keep hS).b; go_simp; try (with_reducible rfl))); try simp only [Act.put, List.setIfInBounds_toArray, List.set_cons_zero, List.set_cons_succ]))
  refine sd_nil ?_
  intro w4 t4
  have C4 := Lib.hid (C3.out.keep t4)
  have N4 := Lib.hid (N3.out.keep t4)
  have M4 := Lib.hid (M3.out.keep t4)
  clear t4
  go_wp2_with (first
    | (go_at_call 84; refine (HSE.out _ C4.out.r).mono ?_; rintro E w5 ⟨⟨bs, rfl⟩, L5⟩
       obtain ⟨a5, c5, e5, b5⟩ := C4.out.step L5
       have C5 := Lib.hid c5
       have N5 := Lib.hid (b5 _ _ _ N4.out)
       have M5 := Lib.hid (b5 _ _ _ M4.out)
       have E5 : Hid (a5.r = r) := e5.trans HR.out
       clear c5 b5 e5 L5))
  (refine wp_region_steady (fun X => Only none_ w5 X) 7 (by kernel_rfl) (by kernel_rfl) ((Only.refl none_ w5).drew) ?_; simp only [List.take_succ_cons, List.take_zero, List.drop_succ_cons, List.drop_zero])
  repeat (first
    | (refine sd_value (v := ?_) (by rfl) (fun w0 hS => ?_) ?_; rotate_left; (· (have qq := nine_of (N5.out.keep hS).b; go_simp; try (with_reducible rfl))); try simp only [Act.put, List.setIfInBounds_toArray, List.set_cons_zero, List.set_cons_succ])
    | (refine sd_call (v := ?_) (f := 85) (args := ?_) (by rfl) (fun w0 hS => ?_) (fun w0 hS => ?_) ?_; rotate_left 2; (· (skip; go_simp; try (with_reducible rfl))); (· (refine (HNE.out a5 _ (C5.out.keep hS).r E5.out).mono ?_; rintro E w8 ⟨rfl, o8⟩; refine ⟨?_, hS.trans o8⟩; rfl)); try simp only [Act.put, List.setIfInBounds_toArray, List.set_cons_zero, List.set_cons_succ]))
  refine sd_nil ?_
  intro w6 t6
  have C6 := Lib.hid (C5.out.keep t6)
  have N6 := Lib.hid (N5.out.keep t6)
  have M6 := Lib.hid (M5.out.keep t6)
  have q6 := nine_of N6.out.b
  clear t6 C5 N5 M5 C4 N4 M4 C3 N3 M3
  go_wp2_with (first
    | (go_at_call 87; refine (HEX.out a5 _ C6.out.r E5.out).mono ?_; rintro E w7 ⟨rfl, o7⟩
       have C7 := Lib.hid (C6.out.keep o7)
       have N7 := Lib.hid (N6.out.keep o7)
       have M7 := Lib.hid (M6.out.keep o7)
       clear o7))
  (refine wp_region_steady (fun X => Only none_ w7 X) 8 (by kernel_rfl) (by kernel_rfl) ((Only.refl none_ w7).drew) ?_; simp only [List.take_succ_cons, List.take_zero, List.drop_succ_cons, List.drop_zero])
  repeat (first
    | (refine sd_value (v := ?_) (by rfl) (fun w0 hS => ?_) ?_; rotate_left; (· (have qq := nine_of (N7.out.keep hS).b; go_simp; try (with_reducible rfl))); try simp only [Act.put, List.setIfInBounds_toArray, List.set_cons_zero, List.set_cons_succ])
    | (refine sd_call (v := ?_) (f := 88) (args := ?_) (by rfl) (fun w0 hS => ?_) (fun w0 hS => ?_) ?_; rotate_left 2; (· (have qq := nine_of (N7.out.keep hS).b; go_simp; try (with_reducible rfl))); (· (refine (HRM.out a5 _ (C7.out.keep hS).r E5.out).mono ?_; rintro E w9 ⟨rfl, o9⟩; refine ⟨?_, hS.trans o9⟩; rfl)); try simp only [Act.put, List.setIfInBounds_toArray, List.set_cons_zero, List.set_cons_succ]))
  refine sd_nil ?_
  intro w8 t8
  have C8 := Lib.hid (C7.out.keep t8)
  have N8 := Lib.hid (N7.out.keep t8)
  have M8 := Lib.hid (M7.out.keep t8)
  have q8 := nine_of N8.out.b
  clear t8 q6
  go_wp2_with (first
    | (go_at_call 89; refine (HTK.out a5 _ C8.out.r E5.out).mono ?_; rintro E w9 ⟨rfl, L9⟩
       obtain ⟨a9, c9, e9, b9⟩ := C8.out.step L9
       have C9 := Lib.hid c9
       have M9 := Lib.hid (b9 _ _ _ M8.out)
       clear c9 b9 e9 L9)
    | (refine wpList_store_row rfl 82 _ _ rfl (w.heap.size + 1) #[.string e2.k, .string e2.v, .bool e2.d, .int .i64 e2.s.c, .int .i64 e2.s.s, .int .i64 e2.a.c, .int .i64 e2.a.s, .int .i64 e2.p, .int .i64 e2.g] rfl rfl _ _ M9.out.b (by kernel_rfl) (by kernel_rfl) (en_cells_one _) ?_))
  refine bodyPost_ret (results_tct rfl _ _ (w.heap.size + 1) 82 #[.string e2.k, .string e2.v, .bool e2.d, .int .i64 e2.s.c, .int .i64 e2.s.s, .int .i64 e2.a.c, .int .i64 e2.a.s, .int .i64 e2.p, .int .i64 e2.g] _ rfl (M9.out.b.setRow _) Tryz.underlying82 rfl (by kernel_rfl) (.int .i64 k2) (.int .i64 z2) rfl rfl) rfl ?_
  exact ⟨rfl, (C9.out.box M9.out (by omega) (only_row _ _)).left⟩
theorem rp_merge (B : World) (a : Ra) (s : Rs) (x : En) (w : World) (h : Rp B a s w) (ok : Rky s) (go : Gok s) (hT : ∀ e ∈ s.tab, enCheck e = 0) :
    Calls Tryz.prog 35 #[.pointer (some ⟨a.r, 0, none⟩), .agg #[.string x.k, .string x.v, .bool x.d, .int .i64 x.s.c, .int .i64 x.s.s, .int .i64 x.a.c, .int .i64 x.a.s, .int .i64 x.p, .int .i64 x.g]] w fun E w' => E = .returned (.tuple #[.int .i64 (mgR s x).2.1, .agg #[.string (mgR s x).2.2.1.k, .string (mgR s x).2.2.1.v, .bool (mgR s x).2.2.1.d, .int .i64 (mgR s x).2.2.1.s.c, .int .i64 (mgR s x).2.2.1.s.s, .int .i64 (mgR s x).2.2.1.a.c, .int .i64 (mgR s x).2.2.1.a.s, .int .i64 (mgR s x).2.2.1.p, .int .i64 (mgR s x).2.2.1.g], .int .i64 (mgR s x).2.2.2]) ∧ LeftP B a w ((mgR s x).1) w' := by
  by_cases hc : enCheck x = 0
  · cases hn : newsM s.tab x with
    | false =>
      rw [mgR, if_neg (by simp [hc]), if_pos hn]
      exact rp_merge_old B a s x w h hc hn
    | true =>
      cases hl : lateM s.o x with
      | true =>
        rw [mgR, if_neg (by simp [hc]), if_neg (by simp [hn]), if_pos hl]
        exact rp_merge_late B a s x w h hc hn hl
      | false =>
        cases hf : fullM s.o s.tab x.k with
        | true =>
          rw [mgR, if_neg (by simp [hc]), if_neg (by simp [hn]), if_neg (by simp [hl]), if_pos hf]
          exact rp_merge_full B a s x w h hc hn hl hf
        | false =>
          rw [mgR, if_neg (by simp [hc]), if_neg (by simp [hn]), if_neg (by simp [hl]), if_neg (by simp [hf])]
          exact rp_merge_take B a s x w h hc hn hl hf ok go hT
  · rw [mgR, if_pos hc]
    exact rp_merge_bad B a s x w h hc
end Go.Proofs.YtoohpcomnhfgpaaGreat
end
