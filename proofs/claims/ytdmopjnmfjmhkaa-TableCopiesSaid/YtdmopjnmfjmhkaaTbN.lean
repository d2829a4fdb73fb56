/- Tables beside the document's: few, is; a call as a step of a region that draws. No statement of the seat is proved here. -/
import Derived.Test.YtdmopjnmfjmhkaaTbL
import Derived.Test.YtdmopjnmfjmhkaaTbF
import Derived.Test.YtdmopjnmfjmhkaaStd
namespace Go.Proofs.Ytdmopjnmfjmhkaa
open Go.RowKit
set_option maxRecDepth 100000
set_option linter.all false

/-- A call of a Go function, as a step of a region that draws. -/
theorem step_call {P : Program} {ops : Array Oper} {o : Oper} {a : Act} {w : World} {K : Act → World → Prop} {Q : Exit → Act → World → Prop} {E : Prop} (hwd : Region.wanted o (yielded ops a.tmps) = true) (f : FuncId) (args : Array Value)
    (hrun : (execOp a.eval o).run P w = .ok (.enter f args) w) (h : Calls P f args w fun e w' => ∃ v, e = .returned v ∧ K (a.put o.dst v) w') :
    if Region.wanted o (yielded ops a.tmps) = true then Oper.wp P o a w K Q else E := by
  rw [if_pos hwd]
  unfold Oper.wp
  rw [hrun]
  exact h.mono fun e w'' ⟨v, he, hk⟩ => by subst he; exact hk

/-- What is done with a table. -/
structure Ta where
  kind : Int
  v : Int
  key : ByteArray
  fr : ByteArray
  n : Int
def taRow (x : Ta) : List Value := [.int .i64 x.kind, .int .i64 x.v, .string x.key, .string x.fr, .int .i64 x.n]
theorem taRow_length (x : Ta) : (taRow x).length = 5 := rfl
def taShort (x : Ta) : Bool := decide (x.key.size ≤ 40) && decide (x.fr.size ≤ 40)
theorem ta_at {W w : World} {b off : Nat} {l : List Ta} (hc : ∀ j u, (l.flatMap taRow)[j]? = some u → W.cell? ⟨b, off + j, none⟩ = some u) (o : Only none_ W w) (hb : b < W.heap.size) {k : Nat} {a : Ta} (ha : l[k]? = some a) :
    w.cell? ⟨b, off + k * 5, none⟩ = some (.int .i64 a.kind) ∧ w.cell? ⟨b, off + k * 5 + 1, none⟩ = some (.int .i64 a.v) ∧ w.cell? ⟨b, off + k * 5 + 2, none⟩ = some (.string a.key) ∧ w.cell? ⟨b, off + k * 5 + 3, none⟩ = some (.string a.fr) ∧ w.cell? ⟨b, off + k * 5 + 4, none⟩ = some (.int .i64 a.n) := by
  have h := flat_at taRow taRow_length l k a ha
  have c : ∀ j u, j < 5 → (taRow a)[j]? = some u → w.cell? ⟨b, off + (k * 5 + j), none⟩ = some u := fun j u hj hu => (o.cell (p := ⟨b, off + (k * 5 + j), none⟩) hb (fun h => h)).trans (hc _ _ ((h j hj).trans hu))
  exact ⟨c 0 _ (by omega) rfl, c 1 _ (by omega) rfl, c 2 _ (by omega) rfl, c 3 _ (by omega) rfl, c 4 _ (by omega) rfl⟩
theorem ta_succ {l : List Ta} {k : Nat} {e : Ta} (h : l[k]? = some e) : (l.take (k + 1)).all taShort = ((l.take k).all taShort && taShort e) := by
  obtain ⟨hk, hb⟩ := List.getElem?_eq_some_iff.1 h
  rw [List.take_succ_eq_append_getElem hk, List.all_append, hb]
  simp

set_option maxHeartbeats 3200000 in
theorem t_few (v : Value) (l : List Ta) (w : World) (S : Nat → Prop) (hx : Cel w S v l.length 5 (l.flatMap taRow)) :
    Calls Try.prog 7 #[v] w fun E w' => E = .returned (.bool (l.all taShort && decide (l.length ≤ 60))) ∧ Only none_ w w' := by
  obtain ⟨A, c, rfl, _, h2, h3, _, h4⟩ := hx
  obtain ⟨L, hL⟩ : ∃ L, L = l.length := ⟨_, rfl⟩
  rw [← hL] at h2 h4 ⊢
  have HX := Lib.hid h4
  have HL := Lib.hid hL
  have hLm : L ≤ 9223372036854775807 := by simp only [maxLen] at h3; omega
  have O0 := Lib.hid (Only.refl none_ w)
  clear h4 hL
  go_enter Try.func7, Try.ntmps7
  go_wp2_with fail
  go_loopw [7] (fun i wr => ∃ k : Nat, k ≤ L ∧ i = .int .i64 (k : Int) ∧ (l.take k).all taShort = true ∧ Only none_ w wr) (fun i _ => L - (intOf i).toNat)
  case atStart => exact ⟨0, Nat.zero_le _, rfl, by simp, O0.out⟩
  case round =>
    obtain ⟨k, hk, rfl, hall, ho⟩ := hrel
    have HW := Lib.hid ho
    have HA := Lib.hid hall
    clear ho hall
    by_cases hlt : k < L
    · obtain ⟨b, off, rfl, _, hb, hc⟩ := HX.out (by omega)
      obtain ⟨a, ha⟩ : ∃ a, l[k]? = some a := ⟨l[k]'(by have := HL.out; omega), List.getElem?_eq_getElem _⟩
      have q := ta_at hc HW.out hb ha
      have HS := Lib.hid (ta_succ ha)
      have hmem : a ∈ l := List.mem_of_getElem? ha
      have O5 := Lib.hid (HW.out.alloc (.cells #[.int .i64 a.kind, .int .i64 a.v, .string a.key, .string a.fr, .int .i64 a.n] 35))
      by_cases h1 : (a.key.size : Int) ≤ 40
      · by_cases h2 : (a.fr.size : Int) ≤ 40
        · have HSS : Hid (taShort a = true) := by simp [Hid, taShort]; omega
          clear ha hc hmem
          go_wp2_with fail
          go_roundw
          case rel => exact ⟨k + 1, by omega, by go_num, by rw [HS.out, HA.out, HSS.out]; rfl, O5.out⟩
          case measure => simp [intOf]; omega
        · have HF : Hid (l.all taShort = false) := by rw [Hid, List.all_eq_false]; exact ⟨a, hmem, by simp [taShort]; omega⟩
          clear ha hc hmem
          go_wp2_with fail
          go_ret
          exact ⟨by rw [HF.out]; rfl, O5.out⟩
      · have HF : Hid (l.all taShort = false) := by rw [Hid, List.all_eq_false]; exact ⟨a, hmem, by simp [taShort]; omega⟩
        clear ha hc hmem
        go_wp2_with fail
        go_ret
        exact ⟨by rw [HF.out]; rfl, O5.out⟩
    · obtain rfl : k = L := by omega
      have HT : Hid (l.all taShort = true) := by have := HA.out; rwa [HL.out, List.take_length] at this
      by_cases h40 : k ≤ 60
      · have hz : Hid (decide (k ≤ 60) = true) := by simp [Hid, h40]
        have hd : decide ((k : Int) ≤ 60) = true := by simp; omega
        go_wp2_with fail
        go_ret
        exact ⟨by rw [HT.out, hz.out]; rfl, HW.out⟩
      · have hz : Hid (decide (k ≤ 60) = false) := by simp [Hid]; omega
        have hd : decide ((k : Int) ≤ 60) = false := by simp; omega
        go_wp2_with fail
        go_ret
        exact ⟨by rw [HT.out, hz.out]; rfl, HW.out⟩

theorem rnk_nil (l : List (Pr Int)) : rnk l ⟨#[]⟩ = 0 := List.countP_eq_zero.2 (fun p _ h => by
  have : Op.bytesLess p.k.data.toList [] = true := h
  cases hp : p.k.data.toList <;> rw [hp] at this <;> simp [Op.bytesLess] at this)
theorem scan_whole (l : List (Pr Int)) (n : Int) (h : (l.length : Int) ≤ n) : scanL l ⟨#[]⟩ n = l := by
  rw [scanL, rnk_nil, List.drop_zero, List.take_of_length_le (by omega)]

/-- A table, the document's in a box, and all else as in W but for what the call made. -/
structure Tm8 (B W : World) (g : Nat) (room : Int) (l : List (Pr Int)) (v : Value) (h0 : Nat) (A : Option Addr) (L c : Nat) (w : World) : Prop where
  t : Tb B g room l v w
  b : Blk w h0 31 #[.int .i64 room, .slice A L c]
  r : Cel w (fun b => ¬ foot g v b) (.slice A L c) L 2 (l.flatMap prI)
  ho : Only none_ W w
theorem Tm8.keep {B W w w' : World} {g : Nat} {room : Int} {l : List (Pr Int)} {v : Value} {h0 : Nat} {A : Option Addr} {L c : Nat} (k : Tm8 B W g room l v h0 A L c w) (o : Only none_ w w') : Tm8 B W g room l v h0 A L c w' :=
  ⟨k.t.keep o, k.b.only o (fun h => h), k.r.only o (fun _ _ h => h), k.ho.trans o⟩

set_option maxHeartbeats 12800000 in
theorem t_is (B : World) (g : Nat) (room : Int) (l : List (Pr Int)) (v m : Value) (w : World) (h : Tb B g room l v w) (hm : Rt w (fun b => ¬ foot g v b) room l m) :
    Calls Try.prog 12 #[.pointer (some ⟨g, 0, none⟩), m] w fun e w' => e = .returned (.bool true) ∧ Only none_ w w' := by
  obtain ⟨A, c, rfl, hc⟩ := hm
  have hml := h.ml
  obtain ⟨L, hL⟩ : ∃ L, l.length = L := ⟨_, rfl⟩
  rw [hL] at hc hml ⊢
  have T : Hid (Tm8 B w g room l v w.heap.size A L c (w.alloc (.cells #[.int .i64 room, .slice A L c] 31))) :=
    ⟨h.keep ((Only.refl none_ w).alloc _), Blk.new w _ _, hc.alloc _, (Only.refl none_ w).alloc _⟩
  have HL := Lib.hid hL
  have HSC : Hid (scanL l ⟨#[]⟩ ((L : Int) + 1) = l) := scan_whole l _ (by omega)
  have q0 := T.out.b.cell_ (i := 0) rfl
  have q1 := T.out.b.cell_ (i := 1) rfl
  clear h hc hL
  go_enter Try.func12, Try.ntmps12
  go_wp2_with (first
    | (go_at_call 28; refine (tb_scan B g room l v ⟨#[]⟩ ((L : Int) + 1) _ T.out.t).mono ?_; rw [HSC.out]; rintro E w1 ⟨v1, rfl, own1, o1⟩
       obtain ⟨A1, n1, c1, rfl⟩ := own_shape own1
       have T1 := Lib.hid (T.out.keep o1)
       have C1 : Hid (Cel w1 (ownb (.slice A1 n1 c1)) (.slice A1 n1 c1) n1 2 (l.flatMap prI)) := by
         have := Cel.of_own own1
         obtain ⟨_, _, e, _⟩ := id this
         injection e with _ e2 _
         rw [e2]; rw [e2] at this; exact this
       have HN1 : Hid (n1 = L) := by
         obtain ⟨_, _, e, _⟩ := Cel.of_own own1
         injection e with _ e2 _
         rw [e2]; exact HL.out
       have hn1 : n1 = L := HN1.out
       subst hn1
       clear own1 o1))
  have t2 := T1.out.keep (Only.refl none_ _).drew
  (refine wp_region_steady (fun w' => Tm8 B w g room l v w.heap.size A n1 c w' ∧ Only none_ w1 w') 21 (by kernel_rfl) (by kernel_rfl) (⟨t2, (Only.refl none_ _).drew⟩) ?_; simp only [List.take_succ_cons, List.take_zero, List.drop_succ_cons, List.drop_zero])
  repeat (first
    | (refine sd_value (v := ?_) (by rfl) (fun w0 hS => ?_) ?_; rotate_left; (· (skip; go_simp; try (with_reducible rfl))); try simp only [Act.put, List.setIfInBounds_toArray, List.set_cons_zero, List.set_cons_succ])
    | (refine sd_value (v := ?_) (by rfl) (fun w0 hS => ?_) ?_; rotate_left; (· (have hc0 := hS.1.b.cell_ (i := 0) rfl; have hc1 := hS.1.b.cell_ (i := 1) rfl; go_simp; try (with_reducible rfl))); try simp only [Act.put, List.setIfInBounds_toArray, List.set_cons_zero, List.set_cons_succ])
    | (refine sd_call (v := ?_) (f := 33) (args := ?_) (by rfl) (fun w0 hS => ?_) (fun w0 hS => ?_) ?_; rotate_left 2; (· (skip; go_simp; try (with_reducible rfl))); (· (refine (tb_len B g room l v _ hS.1.t).mono ?_; rw [HL.out]; rintro E w8 ⟨rfl, e8⟩; refine ⟨?_, e8 ▸ hS⟩; rfl)); try simp only [Act.put, List.setIfInBounds_toArray, List.set_cons_zero, List.set_cons_succ])
    | (refine sd_call (v := ?_) (f := 34) (args := ?_) (by rfl) (fun w0 hS => ?_) (fun w0 hS => ?_) ?_; rotate_left 2; (· (skip; go_simp; try (with_reducible rfl))); (· (refine (tb_room B g room l v _ hS.1.t).mono ?_; rintro E w8 ⟨rfl, e8⟩; refine ⟨?_, e8 ▸ hS⟩; rfl)); try simp only [Act.put, List.setIfInBounds_toArray, List.set_cons_zero, List.set_cons_succ])
    | (refine sd_skip (by rfl) ?_; try simp only [Act.put, List.setIfInBounds_toArray, List.set_cons_zero, List.set_cons_succ]))
  refine sd_nil ?_
  intro w2 t3
  have T3 := Lib.hid t3.1
  have CC : Hid (∀ w', Only none_ w2 w' → Cel w' (ownb (.slice A1 n1 c1)) (.slice A1 n1 c1) n1 2 (l.flatMap prI)) := fun w' o => C1.out.only (t3.2.trans o) (fun _ _ h => h)
  have r1 := T3.out.b.cell_ (i := 1) rfl
  clear t2 t3 q0 q1
  go_wp2_with fail
  go_loopw [38] (fun i wr => ∃ k : Nat, k ≤ n1 ∧ i = .int .i64 (k : Int) ∧ Only none_ w2 wr) (fun i _ => n1 - (intOf i).toNat)
  case atStart => exact ⟨0, Nat.zero_le _, rfl, Only.refl _ _⟩
  case round =>
    obtain ⟨k, hk, rfl, ho⟩ := hrel
    have HW := Lib.hid ho
    clear ho r1
    by_cases hlt : k < n1
    · have hkl : k < l.length := by have := HL.out; omega
      obtain ⟨ba, offa, hA, hba, hlta, ha0, ha1⟩ := prI_cell (CC.out _ HW.out) k hkl HL.out.symm
      obtain ⟨bb, offb, hB, _, hbb, hb0, hb1⟩ := prI_cell (T3.out.r.only HW.out (fun _ _ h => h)) k hkl HL.out.symm
      subst hA hB
      obtain ⟨pp, hpp⟩ : ∃ pp, l[k] = pp := ⟨_, rfl⟩
      rw [hpp] at ha0 ha1 hb0 hb1
      obtain ⟨kk, vv⟩ := pp
      dsimp only at ha0 ha1 hb0 hb1
      have XA : Hid (∀ w', Only none_ wr w' → (w'.cell? ⟨ba, offa + k * 2, none⟩ = some (.string kk) ∧ w'.cell? ⟨ba, offa + k * 2 + 1, none⟩ = some (.int .i64 vv))) := fun w' o => ⟨(o.cell (p := ⟨ba, offa + k * 2, none⟩) hlta (fun h => h)).trans ha0, (o.cell (p := ⟨ba, offa + k * 2 + 1, none⟩) hlta (fun h => h)).trans ha1⟩
      have BX := Lib.hid (Blk.new wr 87 #[.string kk, .int .i64 vv])
      have O9 := Lib.hid ((Only.refl none_ wr).alloc (.cells #[.string kk, .int .i64 vv] 87))
      have hki : (k : Int) < (n1 : Int) := by omega
      clear hpp
      go_wp2_with fail
      (refine wp_region_steady (fun w' => Blk w' wr.heap.size 87 #[.string kk, .int .i64 vv] ∧ Only none_ wr w') 18 (by kernel_rfl) (by kernel_rfl) (⟨BX.out.drew, O9.out.drew⟩) ?_; simp only [List.take_succ_cons, List.take_zero, List.drop_succ_cons, List.drop_zero])
      repeat (first
        | (refine sd_value (v := ?_) (by rfl) (fun w0 hS => ?_) ?_; rotate_left; (· (skip; go_simp; try (with_reducible rfl))); try simp only [Act.put, List.setIfInBounds_toArray, List.set_cons_zero, List.set_cons_succ])
        | (refine sd_value (v := ?_) (by rfl) (fun w0 hS => ?_) ?_; rotate_left; (· (have hc0 := hS.1.cell_ (i := 0) rfl; have hc1 := hS.1.cell_ (i := 1) rfl; have hx := XA.out _ hS.2; go_simp; try (with_reducible rfl))); try simp only [Act.put, List.setIfInBounds_toArray, List.set_cons_zero, List.set_cons_succ])
        | (refine sd_skip (by rfl) ?_; try simp only [Act.put, List.setIfInBounds_toArray, List.set_cons_zero, List.set_cons_succ]))
      refine sd_nil ?_
      intro w5 t5
      have T5 := Lib.hid t5.2
      clear t5
      go_wp2_with fail
      go_roundw
      case rel => exact ⟨k + 1, by omega, by go_num, HW.out.trans T5.out⟩
      case measure => simp [intOf]; omega
    · obtain rfl : n1 = k := by omega
      go_wp2_with fail
      go_ret
      exact ⟨rfl, T3.out.ho.trans HW.out⟩
end Go.Proofs.Ytdmopjnmfjmhkaa
