/- The document's indexes: Later, Find, Drop, Same. No statement of the seat is proved here. -/
import Derived.Test.YtclngnoapfjghaaRcE
import Derived.Test.YtclngnoapfjghaaStE
import Derived.Test.YtclngnoapfjghaaRcB
import Derived.Test.YtclngnoapfjghaaApp
import Derived.Test.YtclngnoapfjghaaOpn
import Derived.Test.YtclngnoapfjghaaStd
namespace Go.Proofs.Ytclngnoapfjghaa
open Go.RowKit
set_option maxRecDepth 100000
set_option linter.all false

theorem rmark_info : (Try.prog.info? 31).map (fun i => (i.zero, i.size, i.bytes)) = some (some (.agg #[.int .i64 0, .int .i64 0, .string ⟨#[]⟩]), 3, 32) := by kernel_rfl
theorem rinfo_parts {P : Program} {e : TypeId} {z : Value} {n m : Nat} (h : (P.info? e).map (fun i => (i.zero, i.size, i.bytes)) = some (some z, n, m)) : ∃ i, P.info? e = some i ∧ i.zero = some z ∧ i.size = n ∧ i.bytes = m := by
  cases hi : P.info? e with
  | none => rw [hi] at h; cases h
  | some i =>
    rw [hi] at h
    simp only [Option.map_some, Option.some.injEq, Prod.mk.injEq] at h
    exact ⟨i, rfl, h.1, h.2.1, h.2.2⟩

theorem gt_str (a b : ByteArray) : (!Op.bytesLess a.toList b.toList && !a.toList == b.toList) = lt_ b a := by
  rw [str_same, Lib.toList_data, Lib.toList_data]
  have e : Op.bytesLess a.data.toList b.data.toList = lt_ a b := rfl
  rw [e]
  by_cases h : a = b
  · subst h; simp [lt_irr]
  · cases h1 : lt_ a b with
    | true =>
      cases h2 : lt_ b a with
      | true => have := lt_tr h1 h2; rw [lt_irr] at this; cases this
      | false => rfl
    | false =>
      cases h2 : lt_ b a with
      | true => simp [h]
      | false => exact absurd (lt_tri h1 h2) h

set_option maxHeartbeats 1600000 in
theorem rm_later (x y : Mk) (w : World) :
    Calls Try.prog 27 #[.agg #[.int .i64 x.a.c, .int .i64 x.a.s, .string x.k], .agg #[.int .i64 y.a.c, .int .i64 y.a.s, .string y.k]] w fun e w' => e = .returned (.bool (mkLater x y)) ∧ Only none_ w w' := by
  have O := Lib.hid (((Only.refl none_ w).alloc (.cells #[.int .i64 x.a.c, .int .i64 x.a.s, .string x.k] 31)).alloc (.cells #[.int .i64 y.a.c, .int .i64 y.a.s, .string y.k] 31))
  have hne := fun w => neqS w x.a y.a
  by_cases h : stSame x.a y.a = true
  · have H : Hid (mkLater x y = lt_ y.k x.k) := by rw [Hid, mkLater, if_pos h]
    rw [h] at hne
    have G := Lib.hid (gt_str x.k y.k)
    go_enter Try.func27, Try.ntmps27
    go_wp2_with fail
    go_ret
    rw [H.out, ← G.out]
    exact ⟨rfl, O.out⟩
  · have H : Hid (mkLater x y = stLater x.a y.a) := by rw [Hid, mkLater, if_neg h]
    have h' : stSame x.a y.a = false := by simpa using h
    rw [h'] at hne
    have hl := rf_later x.a.c x.a.s y.a.c y.a.s
    have HL := Lib.hid hl
    clear hl h h'
    go_enter Try.func27, Try.ntmps27
    go_wp2_with (first
      | (go_at_call 52; refine (HL.out _).mono ?_; rintro E w3 ⟨rfl, o3⟩
         have O3 := Lib.hid (O.out.trans o3)
         clear o3))
    go_ret
    rw [H.out]
    exact ⟨rfl, O3.out⟩

/-- A mark of the document's lists, wherever they lie. -/
theorem mkr_cell {w : World} {S : Nat → Prop} {A : Option Addr} {n c : Nat} {l : List Mk} (h : Cel w S (.slice A n c) n 3 (l.flatMap mkI)) (i : Nat) (hi : i < l.length) (hn : n = l.length) :
    ∃ b off, A = some ⟨b, off, none⟩ ∧ S b ∧ b < w.heap.size ∧ w.cell? ⟨b, off + i * 3, none⟩ = some (.int .i64 l[i].a.c) ∧ w.cell? ⟨b, off + i * 3 + 1, none⟩ = some (.int .i64 l[i].a.s) ∧ w.cell? ⟨b, off + i * 3 + 2, none⟩ = some (.string l[i].k) := by
  obtain ⟨A', c', e, h0, h1, h2, h3, h4⟩ := h
  injection e with e1 e2 e3
  subst e1 e3
  obtain ⟨b, off, rfl, hs, hlt, hc⟩ := h4 (by omega)
  have f := fun j (hj : j < 3) => flat_at mkI mkI_len l i l[i] (List.getElem?_eq_getElem hi) j hj
  refine ⟨b, off, rfl, hs, hlt, hc _ _ ?_, ?_, ?_⟩
  · have := f 0 (by decide); rw [Nat.add_zero] at this; rw [this]; rfl
  · rw [Nat.add_assoc]; refine hc _ _ ?_; rw [f 1 (by decide)]; rfl
  · rw [Nat.add_assoc]; refine hc _ _ ?_; rw [f 2 (by decide)]; rfl

/-- A list of marks of the call's own, made since B. -/
structure Rm (B : World) (v : Value) (l : List Mk) (w : World) : Prop where
  ow : w.ownsRow B.heap.size 31 3 v l.length (l.flatMap mkI)
  ho : Only none_ B w
theorem Rm.keep {B w w' : World} {v : Value} {l : List Mk} (t : Rm B v l w) (o : Only none_ w w') : Rm B v l w' := ⟨owns_only t.ow o (fun _ _ h => h), t.ho.trans o⟩
theorem Rm.app {B w w' : World} {v v' : Value} {l l' : List Mk} {n : Nat} {p : List Value} (t : Rm B v l w) (own : w'.ownsRow B.heap.size 31 3 v' n p) (hn : n = l'.length) (hp : p = l'.flatMap mkI) (hg : w.grownBy w' v.ownBlock) : Rm B v' l' w' := by
  subst hn hp
  exact ⟨own, t.ho.grown hg (fun k hk => .inr (t.ow.lt k hk).1)⟩
theorem Rm.made (w : World) : Rm w (.slice (some ⟨w.heap.size, 0, none⟩) 0 0) [] (w.alloc (.cells #[] 31)) :=
  ⟨own_made w w.heap.size 31 3 0 #[] (by simp) (by simp [maxLen]) (Nat.le_refl _), (Only.refl none_ w).alloc _⟩
theorem Rm.shape {B w : World} {v : Value} {l : List Mk} (t : Rm B v l w) : ∃ A c, v = .slice A l.length c := by
  rcases t.ow.2 with ⟨rfl, h0⟩ | ⟨_, _, _, rfl, _⟩
  · exact ⟨none, 0, by rw [h0]⟩
  · exact ⟨_, _, rfl⟩
theorem mkI_one' (m : Mk) : ∀ u ∈ mkI m, u.oneCell' = true := by
  intro u hu
  simp only [mkI, List.mem_cons, List.not_mem_nil, or_false] at hu
  rcases hu with rfl | rfl | rfl <;> rfl

set_option maxHeartbeats 1600000 in
theorem rm_find (S : Nat → Prop) (l : List Mk) (A : Option Addr) (n c : Nat) (x : ByteArray) (w : World) (h : Cel w S (.slice A n c) n 3 (l.flatMap mkI)) (hn : n = l.length) (hl : n ≤ 4096) :
    Calls Try.prog 12 #[.slice A n c, .string x] w fun e w' => e = .returned (.int .i64 (fndM l x)) ∧ w = w' := by
  have HC := Lib.hid h
  have HN := Lib.hid hn
  obtain ⟨f, hf⟩ : ∃ f, fndM l x = f := ⟨_, rfl⟩
  have HF := Lib.hid hf
  rw [hf]
  clear h hn hf
  go_enter Try.func12, Try.ntmps12
  go_wp2_with fail
  go_loop [5] (fun s5 => ∃ i : Nat, i ≤ n ∧ s5 = .int .i64 i ∧ ∀ j (hj : j < l.length), j < i → l[j].k ≠ x) (fun s5 => n - (intOf s5).toNat)
  case atStart => exact ⟨0, by omega, rfl, fun j _ h => absurd h (by omega)⟩
  case round =>
    obtain ⟨i, hi, rfl, hno⟩ := hrel
    have HNO := Lib.hid hno
    by_cases hlt : i < n
    · have hin : i < l.length := by have := HN.out; omega
      obtain ⟨b, off, hA, _, _, hc0, hc1, hc2⟩ := mkr_cell HC.out i hin HN.out
      subst hA
      have hbl := str_same l[i].k x
      by_cases he : l[i].k = x
      · have hfi : f = (i : Int) := by rw [← HF.out]; exact fnd_of i hin he HNO.out
        subst hfi
        rw [decide_eq_true he] at hbl
        generalize l[i].k = kk at hc2 hbl
        clear hno he hc0 hc1
        go_wp2_with fail
        go_ret
        exact ⟨rfl, rfl⟩
      · have HE := Lib.hid he
        rw [decide_eq_false he] at hbl
        have HX : Hid (∀ j (hj : j < l.length), j < i + 1 → l[j].k ≠ x) := fun j hj hji => by
          rcases Nat.lt_or_ge j i with h | h
          · exact HNO.out j hj h
          · obtain rfl : j = i := by omega
            exact HE.out
        generalize l[i].k = kk at hc2 hbl
        clear hno he hc0 hc1
        go_wp2_with fail
        go_round
        case rel => exact ⟨i + 1, by omega, by go_num, HX.out⟩
        case measure => simp [intOf]; omega
    · have hfi : f = -1 := by
        rw [← HF.out]
        refine fnd_none (fun y hy => ?_)
        obtain ⟨j, hj, rfl⟩ := List.mem_iff_getElem.1 hy
        exact hno j hj (by have := HN.out; omega)
      subst hfi
      clear hno
      go_wp2_with fail
      go_ret
      exact ⟨rfl, rfl⟩

theorem drop_snoc (l : List Mk) (k : ByteArray) (i : Nat) (hi : i < l.length) : dropM (l.take (i + 1)) k = if l[i].k = k then dropM (l.take i) k else dropM (l.take i) k ++ [l[i]] := by
  unfold dropM
  rw [List.take_succ_eq_append_getElem hi, List.filter_append]
  by_cases h : l[i].k = k <;> simp [h]

set_option maxHeartbeats 3200000 in
theorem rm_drop (S : Nat → Prop) (l : List Mk) (A : Option Addr) (n c : Nat) (x : ByteArray) (w : World) (h : Cel w S (.slice A n c) n 3 (l.flatMap mkI)) (hn : n = l.length) (hl : n ≤ 4096) :
    Calls Try.prog 16 #[.slice A n c, .string x] w fun e w' => ∃ v', e = .returned v' ∧ Rm w v' (dropM l x) w' := by
  obtain ⟨i0, hi0, hz0, hz1, hz2⟩ := rinfo_parts rmark_info
  have HC := Lib.hid (fun (w' : World) (o : Only none_ w w') => h.only o (fun _ _ h => h))
  have HN := Lib.hid hn
  have R0 := Lib.hid (Rm.made w)
  clear h hn
  go_enter Try.func16, Try.ntmps16
  go_wp2_with fail
  go_loopw [5, 6] (fun s5 s6 wr => ∃ i : Nat, i ≤ n ∧ s6 = .int .i64 i ∧ Rm w s5 (dropM (l.take i) x) wr) (fun _ s6 _ => n - (intOf s6).toNat)
  case atStart => exact ⟨0, by omega, rfl, by rw [List.take_zero]; exact R0.out⟩
  case round =>
    obtain ⟨i, hi, rfl, r⟩ := hrel
    have RR := Lib.hid r
    by_cases hlt : i < n
    · have hin : i < l.length := by have := HN.out; omega
      obtain ⟨b, off, hA, _, _, hc0, hc1, hc2⟩ := mkr_cell (HC.out _ r.ho) i hin HN.out
      subst hA
      have hbl := str_same l[i].k x
      have hsn := drop_snoc l x i hin
      by_cases he : l[i].k = x
      · rw [decide_eq_true he] at hbl
        rw [if_pos he] at hsn
        have HSN := Lib.hid hsn
        generalize l[i].k = kk at hc2 hbl
        clear r he hsn hc0 hc1
        go_wp2_with fail
        go_roundw
        case rel => exact ⟨i + 1, by omega, by go_num, by rw [HSN.out]; exact RR.out⟩
        case measure => simp [intOf]; omega
      · rw [decide_eq_false he] at hbl
        rw [if_neg he] at hsn
        have hflat : (dropM (l.take i) x ++ [l[i]]).flatMap mkI = (dropM (l.take i) x).flatMap mkI ++ [.int .i64 l[i].a.c, .int .i64 l[i].a.s, .string l[i].k] := by rw [List.flatMap_append]; simp [mkI]
        have hlen : (dropM (l.take i) x).length ≤ 4096 := by have := mdrop_len (l.take i) x; rw [List.length_take] at this; omega
        have hone := mkI_one' l[i]
        obtain ⟨A1, c1, hs5⟩ := r.shape
        subst hs5
        obtain ⟨d, hd⟩ : ∃ d, dropM (l.take i) x = d := ⟨_, rfl⟩
        rw [hd] at RR hflat hlen hsn
        obtain ⟨L, hL⟩ : ∃ L, d.length = L := ⟨_, rfl⟩
        rw [hL] at RR
        rw [hd, hL]
        have HLL := Lib.hid hL
        have HSN := Lib.hid hsn
        have HFL := Lib.hid hflat
        have HLN : Hid (L + 1 ≤ maxLen ∧ (L + 1) * 32 ≤ 140737488355328) := by simp only [Hid, maxLen]; omega
        generalize l[i] = p at hc0 hc1 hc2 hbl HSN HFL hone
        obtain ⟨⟨pc, ps⟩, pk⟩ := p
        simp only [mkI] at hc0 hc1 hc2 hbl HFL hone
        have HONE := Lib.hid hone
        clear r he hsn hflat hlen hd hL hone
        have C1 : Hid (Cel (wr.alloc (.cells #[.int .i64 pc, .int .i64 ps, .string pk] 31)) (fun b => b = wr.heap.size) (.slice (some ⟨wr.heap.size, 0, none⟩) 1 1) 1 3 [.int .i64 pc, .int .i64 ps, .string pk]) := cel_made wr 31 3 1 #[.int .i64 pc, .int .i64 ps, .string pk] rfl (by simp [maxLen])
        have R1 := Lib.hid (RR.out.keep ((Only.refl none_ wr).alloc (.cells #[.int .i64 pc, .int .i64 ps, .string pk] 31)))
        go_wp2_with (first
          | (at_builtin; refine wpList_append_cel _ rfl (.tmp 21) (.tmp 26) 27 rfl w.heap.size 31 i0 _ 3 32 Try.underlying27 hi0 hz0 hz1 hz2 rfl (by omega) (.slice A1 L c1) L _ rfl (by have := R1.out.ow; rw [HLL.out] at this; exact this) _ _ 1 _ rfl C1.out HONE.out HLN.out.1 HLN.out.2 R1.out.ho.size ?_
             intro A5 n5 c5 w5 hown5 hgrow5 hmv5
             have R5 : Hid (Rm w (.slice A5 n5 c5) (d ++ [⟨⟨pc, ps⟩, pk⟩]) w5) := R1.out.app hown5 (by rw [List.length_append, HLL.out]; rfl) (by rw [HFL.out]) hgrow5
             clear hown5 hgrow5 hmv5))
        go_roundw
        case rel => exact ⟨i + 1, by omega, by go_num, by rw [HSN.out]; exact R5.out⟩
        case measure => simp [intOf]; omega
    · have hin : l.take i = l := List.take_of_length_le (by have := HN.out; omega)
      rw [hin] at RR
      clear r hin
      go_wp2_with fail
      go_ret
      exact ⟨_, rfl, RR.out⟩

set_option maxHeartbeats 3200000 in
theorem rm_same (S T : Nat → Prop) (l : List Mk) (A B : Option Addr) (n c d : Nat) (w : World) (ha : Cel w S (.slice A n c) n 3 (l.flatMap mkI)) (hb : Cel w T (.slice B n d) n 3 (l.flatMap mkI)) (hn : n = l.length) (hl : n ≤ 4096) :
    Calls Try.prog 21 #[.slice A n c, .slice B n d] w fun e w' => e = .returned (.bool true) ∧ Only none_ w w' := by
  have HA := Lib.hid (fun (w' : World) (o : Only none_ w w') => ha.only o (fun _ _ h => h))
  have HB := Lib.hid (fun (w' : World) (o : Only none_ w w') => hb.only o (fun _ _ h => h))
  have HN := Lib.hid hn
  clear ha hb hn
  go_enter Try.func21, Try.ntmps21
  go_wp2_with fail
  go_loopw [5] (fun s5 wr => ∃ i : Nat, i ≤ n ∧ s5 = .int .i64 i ∧ Only none_ w wr) (fun s5 _ => n - (intOf s5).toNat)
  case atStart => exact ⟨0, by omega, rfl, Only.refl _ _⟩
  case round =>
    obtain ⟨i, hi, rfl, o⟩ := hrel
    have O := Lib.hid o
    by_cases hlt : i < n
    · have hin : i < l.length := by have := HN.out; omega
      obtain ⟨a0, off0, hA, _⟩ := mkr_cell (HA.out _ o) i hin HN.out
      obtain ⟨b0, off1, hB, _⟩ := mkr_cell (HB.out _ o) i hin HN.out
      subst hA hB
      have hne := fun w => neqR w l[i] l[i]
      rw [(mkSame_iff _ _).2 rfl] at hne
      have HK : Hid (∀ w', Only none_ w w' → w'.cell? ⟨a0, off0 + i * 3, none⟩ = some (.int .i64 l[i].a.c) ∧ w'.cell? ⟨a0, off0 + i * 3 + 1, none⟩ = some (.int .i64 l[i].a.s) ∧ w'.cell? ⟨a0, off0 + i * 3 + 2, none⟩ = some (.string l[i].k) ∧
          w'.cell? ⟨b0, off1 + i * 3, none⟩ = some (.int .i64 l[i].a.c) ∧ w'.cell? ⟨b0, off1 + i * 3 + 1, none⟩ = some (.int .i64 l[i].a.s) ∧ w'.cell? ⟨b0, off1 + i * 3 + 2, none⟩ = some (.string l[i].k)) := fun w' o' => by
        obtain ⟨a1, f1, e1, _, _, h0, h1, h2⟩ := mkr_cell (HA.out _ o') i hin HN.out
        obtain ⟨b1, f2, e2, _, _, h3, h4, h5⟩ := mkr_cell (HB.out _ o') i hin HN.out
        injection e1 with e1; injection e1 with e3 e4; subst e3 e4
        injection e2 with e2; injection e2 with e3 e4; subst e3 e4
        exact ⟨h0, h1, h2, h3, h4, h5⟩
      generalize l[i] = p at hne HK
      obtain ⟨⟨pc, ps⟩, pk⟩ := p
      simp only [] at hne HK
      clear o
      go_wp2_with fail
      (refine wp_region_steady (fun w' => Only none_ w w') 9 (by kernel_rfl) (by kernel_rfl) (O.out.drew) ?_; simp only [List.take_succ_cons, List.take_zero, List.drop_succ_cons, List.drop_zero])
      repeat (first
        | (refine sd_value (v := ?_) (by rfl) (fun w0 hS => ?_) ?_; rotate_left; (· (have k0 := (HK.out _ hS).1; have k1 := (HK.out _ hS).2.1; have k2 := (HK.out _ hS).2.2.1; have k3 := (HK.out _ hS).2.2.2.1; have k4 := (HK.out _ hS).2.2.2.2.1; have k5 := (HK.out _ hS).2.2.2.2.2; go_simp; try (with_reducible rfl))); try simp only [Act.put, List.setIfInBounds_toArray, List.set_cons_zero, List.set_cons_succ]))
      refine sd_nil ?_
      intro w3 t3
      have T3 := Lib.hid t3
      clear t3
      go_wp2_with fail
      go_roundw
      case rel => exact ⟨i + 1, by omega, by go_num, T3.out⟩
      case measure => simp [intOf]; omega
    · clear o
      go_wp2_with fail
      go_ret
      exact ⟨rfl, O.out⟩
end Go.Proofs.Ytclngnoapfjghaa
