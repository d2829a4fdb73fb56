/- The call of OctetsBack answers yes, and changes nothing that was there. The statement itself is proved in the text that imports this one. -/
import Derived.Test.YtpccimifpkdfiaaLawB
import Derived.Deep.RegionHeld3
import Derived.Deep.DrawnRows
namespace Go.Proofs.Ytpccimifpkdfiaa
open Go.RowKit
attribute [local go_sem ↓] Go.wp_at_zero Go.wp_at_succ

theorem back_step {l : List PutR} {k : Nat} (hk : k < l.length) {c : Int} {bs : List UInt8} (h : c = 0 → bs = encL (l.take k) ∧ ∀ j (hj : j < l.length), j < k → okP l[j]) :
    putC c l[k] = 0 → putB c bs l[k] = encL (l.take (k + 1)) ∧ ∀ j (hj : j < l.length), j < k + 1 → okP l[j] := by
  intro h0
  have hc : c = 0 := Classical.byContradiction fun hc => hc (by rw [putC_stop hc] at h0; exact h0)
  subst hc
  obtain ⟨h1, h2⟩ := h rfl
  obtain ⟨h3, h4⟩ := put_ok (bs := bs) h0
  refine ⟨by rw [h4, encL_snoc l k hk, h1], fun j hj hjk => ?_⟩
  by_cases hjk' : j < k
  · exact h2 j hj hjk'
  · obtain rfl : j = k := by omega
    exact h3

/-! What the reader tells of a put that goes, and what is left. -/
section
variable {w : World} {g : Nat} {S : Nat → Prop} {p : PutR} {r : List UInt8}
theorem rb_number (h : Rd w g S 0 (encP p ++ r)) (hl : (encP p ++ r).length ≤ 140737488355328) (ho : okP p) (hk : p.kind = 0) :
    Calls Try.prog 21 #[.pointer (some ⟨g, 0, none⟩), .int .i64 p.width] w fun e w' => e = .returned (.int .u64 (p.v : Int)) ∧ Rd w' g S 0 r ∧ Only (one g) w w' := by
  have := reader_number g S 0 _ p.width w h hl
  rwa [num_back ho hk] at this
theorem rb_flag (h : Rd w g S 0 (encP p ++ r)) (hl : (encP p ++ r).length ≤ 140737488355328) (hk : p.kind = 1) :
    Calls Try.prog 23 #[.pointer (some ⟨g, 0, none⟩)] w fun e w' => e = .returned (.bool (decide (0 < p.v))) ∧ Rd w' g S 0 r ∧ Only (one g) w w' := by
  have := reader_flag g S 0 _ w h hl
  rwa [flag_back hk] at this
theorem rb_text (h : Rd w g S 0 (encP p ++ r)) (hl : (encP p ++ r).length ≤ 140737488355328) (ho : okP p) (hk : p.kind = 2) :
    Calls Try.prog 25 #[.pointer (some ⟨g, 0, none⟩), .int .i64 255] w fun e w' => e = .returned (.string ⟨p.bs.toArray⟩) ∧ Rd w' g S 0 r ∧ Only (one g) w w' := by
  have := reader_text g S 0 _ 255 w h hl
  rwa [text_back ho hk] at this
theorem rb_raw (h : Rd w g S 0 (encP p ++ r)) (hl : (encP p ++ r).length ≤ 140737488355328) (hk : p.kind ≠ 0 ∧ p.kind ≠ 1 ∧ p.kind ≠ 2) :
    Calls Try.prog 27 #[.pointer (some ⟨g, 0, none⟩), .int .i64 (p.bs.length : Int)] w fun e w' => ∃ A k c, e = .returned (.slice A k c) ∧ Byt w' (fun _ => True) (.slice A k c) p.bs ∧ Rd w' g S 0 r ∧ Only (one g) w w' := by
  have := reader_raw g S 0 _ (p.bs.length : Int) w h hl
  rw [raw_back hk.1 hk.2.1 hk.2.2] at this
  exact this.mono fun e w' ⟨A, k, c, h1, h2, h3, h4⟩ => ⟨A, k, c, h1, (Byt.of_own h2).mono (fun _ _ _ => trivial), h3, h4⟩
end
theorem encL_len (l : List PutR) (k : Nat) : (encL (l.drop k)).length ≤ (encL l).length := by
  have : encL l = encL (l.take k) ++ encL (l.drop k) := by
    unfold encL
    rw [← List.flatten_append, ← List.map_append, List.take_append_drop]
  rw [this]; simp

/-- What stands while a put is taken back: its copy in block b, the reader alone of what was there may have changed. -/
def InvB (W : World) (g b : Nat) (p : PutR) (xv : Value) (w : World) : Prop :=
  Blk w b 33 #[.int .i64 p.kind, .int .i64 p.width, .int .u64 (p.v : Int), xv] ∧ Only (one g) W w ∧ b ≠ g
section
variable {W w : World} {g b : Nat} {p : PutR} {xv : Value}
theorem InvB.drew (I : InvB W g b p xv w) : InvB W g b p xv w.drew := ⟨I.1, I.2.1.drew, I.2.2⟩
theorem InvB.step {w' : World} (I : InvB W g b p xv w) (ho : Only (one g) w w') : InvB W g b p xv w' := ⟨I.1.only ho I.2.2, I.2.1.trans ho, I.2.2⟩
theorem InvB.seen (I : InvB W g b p xv w) {S : Nat → Prop} (h : Byt W S xv p.bs) (hS : ∀ b, S b → b ≠ g) :
    InvB W g b p xv w ∧ w.cell? ⟨b, 1, none⟩ = some (.int .i64 p.width) ∧ w.cell? ⟨b, 2, none⟩ = some (.int .u64 (p.v : Int)) ∧ w.cell? ⟨b, 3, none⟩ = some xv ∧ (convert 28 9 xv).run Try.prog w = .ok (.string ⟨p.bs.toArray⟩) w :=
  ⟨I, I.1.cell_ (i := 1) rfl, I.1.cell_ (i := 2) rfl, I.1.cell_ (i := 3) rfl, run_bytes_string w S xv p.bs (h.only I.2.1 (fun b hb e => hS b hb e))⟩
end

set_option maxHeartbeats 1600000 in
theorem back_short (pv : Value) (l : List PutR) (S : Nat → Prop) (W : World) (hp : Puts W S pv l) (hS : ∀ b, S b → b < W.heap.size) (hf : fewP l) :
    Calls Try.prog 5 #[pv] W fun e w' => e = .returned (.bool true) ∧ Below W.heap.size W w' := by
  obtain ⟨T, hT, HF⟩ := few_any pv l S W hp
  obtain rfl : T = true := hT.2 hf
  clear hT
  have HP := Lib.hid hp
  have hl40 := hf.2
  have HF1 := Lib.hid hf.1
  have hv : ∃ A c, pv = .slice A l.length c := by obtain ⟨A, c, h, _⟩ := hp; exact ⟨A, c, h⟩
  obtain ⟨Ap, cp, rfl⟩ := hv
  clear hp hf
  go_enter Try.func5, Try.ntmps5
  go_wp2_with (first
    | (go_at_call 8; refine (speaks_any _).mono ?_; rintro e W1 ⟨rfl, o1⟩)
    | (go_at_call 9; refine (HF _ (HP.out.only o1 (fun _ _ h => h))).mono ?_; rintro e W2 ⟨rfl, o2⟩))
  have hWs : Hid (W.heap.size ≤ W2.heap.size) := Nat.le_trans o1.size o2.size
  have O3 : Only none_ W (W2.alloc (.cells #[.int .i64 0, .slice none 0 0] 30)) := (o1.trans o2).alloc _
  have X3 : Wr (W2.alloc (.cells #[.int .i64 0, .slice none 0 0] 30)) W2.heap.size W2.heap.size 0 (.slice none 0 0) [] := ⟨Blk.new _ _ _, World.ownsRow_nil _ _ _ _⟩
  generalize W2.alloc (.cells #[.int .i64 0, .slice none 0 0] 30) = W3 at *
  generalize W2.heap.size = g at *
  clear o1 o2
  go_loopw [20] (fun i wr => ∃ (k : Nat) (c : Int) (bs : List UInt8) (v : Value), k ≤ l.length ∧ i = .int .i64 k ∧ Wr wr g g c v bs ∧ Only none_ W wr ∧ bs.length ≤ 309 * k ∧
      (c = 0 → bs = encL (l.take k) ∧ ∀ j (hj : j < l.length), j < k → okP l[j])) (fun i _ => l.length - (intOf i).toNat)
  case atStart => exact ⟨0, 0, [], _, by omega, rfl, X3, O3, by simp, fun _ => ⟨by simp [encL], fun j _ h => absurd h (by omega)⟩⟩
  case round =>
    obtain ⟨k, c, bs, v, hk, rfl, hv, ho, hbl, hcb⟩ := hrel
    by_cases hlt : k < l.length
    · obtain ⟨A', c', hAe, _, hcs⟩ := HP.out
      injection hAe with hA1 _ hA3
      subst hA1 hA3
      obtain ⟨b, off, rfl, hb, hSb, hc⟩ := hcs (by omega)
      obtain ⟨h0, h1, h2, h3, h4, h5⟩ := (hc k hlt).only hb hSb ho (fun _ _ h => h)
      have hB5 := (hc k hlt).2.2.2.2.2
      have h6 : l[k].bs.length ≤ 300 := HF1.out _ (List.getElem_mem hlt)
      have hst := back_step hlt hcb
      have hlen := putB_len c bs l[k] h6
      obtain ⟨p, hp⟩ : ∃ p, p = l[k] := ⟨_, rfl⟩
      rw [← hp] at h0 h1 h2 h3 h4 h5 hB5 h6 hst hlen
      obtain ⟨A5, c5, hx, _⟩ := h5
      rw [hx] at h3 hB5
      have HB5 := Lib.hid hB5
      have HV := Lib.hid hv
      have HO := Lib.hid ho
      have HST := Lib.hid hst
      clear hp hx hc hcs hB5 hv ho hst hcb
      have H4 : Hid (Wr (wr.alloc (.cells #[.int .i64 p.kind, .int .i64 p.width, .int .u64 (p.v : Int), .slice A5 p.bs.length c5] 33)) g g c v bs) := HV.out.only ((Only.refl none_ wr).alloc _) (fun _ _ h => h)
      have O4 : Hid (Only none_ W (wr.alloc (.cells #[.int .i64 p.kind, .int .i64 p.width, .int .u64 (p.v : Int), .slice A5 p.bs.length c5] 33))) := HO.out.alloc _
      have hg4 : g ≤ wr.heap.size + 1 := by have := HV.out.1.lt; omega
      have hcv : (convert 28 9 (.slice A5 p.bs.length c5)).run Try.prog (wr.alloc (.cells #[.int .i64 p.kind, .int .i64 p.width, .int .u64 (p.v : Int), .slice A5 p.bs.length c5] 33)) = .ok (.string ⟨p.bs.toArray⟩) (wr.alloc (.cells #[.int .i64 p.kind, .int .i64 p.width, .int .u64 (p.v : Int), .slice A5 p.bs.length c5] 33)) :=
        run_bytes_string _ S _ _ (HB5.out.only O4.out (fun _ _ h => h))
      have H5 : ∀ t, Hid (Wr ((wr.alloc (.cells #[.int .i64 p.kind, .int .i64 p.width, .int .u64 (p.v : Int), .slice A5 p.bs.length c5] 33)).alloc (.cells #[.slice A5 p.bs.length c5] t)) g g c v bs ∧
          Parts ((wr.alloc (.cells #[.int .i64 p.kind, .int .i64 p.width, .int .u64 (p.v : Int), .slice A5 p.bs.length c5] 33)).alloc (.cells #[.slice A5 p.bs.length c5] t)) (fun k => k = wr.heap.size + 1 ∨ S k) (.slice (some ⟨wr.heap.size + 1, 0, none⟩) 1 1) [p.bs] ∧ (∀ b, (b = wr.heap.size + 1 ∨ S b) → ¬ foot g v b)) := fun t => by
        refine ⟨H4.out.only ((Only.refl none_ _).alloc _) (fun _ _ h => h), ?_, ?_⟩
        · have := parts_one (t := t) (((HB5.out.only O4.out (fun _ _ h => h)).mono (T := fun k => k = wr.heap.size + 1 ∨ S k) (fun _ _ h => .inr h))) (by simp)
          simpa using this
        · rintro b (rfl | hb) hf
          · have := HV.out.foot_lt hf; omega
          · have h7 := hS b hb; have h8 := HV.out.foot_ge (Nat.le_refl _) hf; have := hWs.out; omega
      have HK := kind4 p
      rcases HK with ⟨b0, e0, hK⟩ | ⟨b0, b1, e0, hK⟩ | ⟨b0, b1, b2, e0, hK⟩ | ⟨b0, b1, b2, e0, hK⟩
      all_goals
        have HKK : Hid (putC c p = _ ∧ putB c bs p = _) := hK c bs
        clear hK e0
        go_wp2_with (first
          | (go_at_call 10; refine (writer_number _ _ _ _ _ _ _ _ H4.out h4 (by omega) (by simpa using hg4)).mono ?_; rintro e W5 ⟨rfl, v5, h5, o5, m5⟩)
          | (go_at_call 13; refine (writer_flag _ _ _ _ _ _ _ H4.out (by omega) (by simpa using hg4)).mono ?_; rintro e W5 ⟨rfl, v5, h5, o5, m5⟩)
          | (go_at_call 14; refine (writer_text _ _ _ _ _ _ _ H4.out (by omega) (by simpa using hg4) (by simp [ByteArray.size]; omega)).mono ?_; rintro e W5 ⟨rfl, v5, h5, o5, m5⟩)
          | (go_at_call 15; refine (writer_raw _ _ _ _ _ _ _ _ _ (H5 28).out.1 (H5 28).out.2.1 (H5 28).out.2.2 (by simp only [List.flatten_cons, List.flatten_nil, List.append_nil]; omega) (by simp only [World.size_alloc]; omega) (by simp)).mono ?_; rintro e W5 ⟨rfl, v5, h5, o5, m5⟩))
        have h6 : Wr W5 g g (putC c p) v5 (putB c bs p) := by
          rw [HKK.out.1, HKK.out.2]
          first | exact h5 | simpa using h5
        have o6 : Only none_ W W5 := by
          first
            | exact O4.out.trans' o5 (fun b hb hf => by have h7 := HV.out.foot_ge (Nat.le_refl _) hf; have := hWs.out; omega)
            | exact (O4.out.alloc _).trans' o5 (fun b hb hf => by have h7 := HV.out.foot_ge (Nat.le_refl _) hf; have := hWs.out; omega)
        go_roundw
        case rel => exact ⟨k + 1, _, _, v5, by omega, by go_num, h6, o6, by omega, HST.out⟩
        case measure => simp [intOf]; omega
    · obtain ⟨W4, rfl⟩ : ∃ W4 : World, W4 = wr := ⟨_, rfl⟩
      obtain rfl : k = l.length := by omega
      rw [List.take_length] at hcb
      have X4 := Lib.hid hv
      have O4 := Lib.hid ho
      have HCB := Lib.hid hcb
      clear hv ho hcb
      by_cases hc0 : c = 0
      · subst hc0
        obtain ⟨hbs, hok⟩ := HCB.out rfl
        have HOK := Lib.hid hok
        subst hbs
        clear hok HCB
        have hbl' : (encL l).length ≤ 12360 := by omega
        go_wp2_with (first
          | (go_at_call 16; refine (writer_err _ _ _ _ _ _ X4.out).mono ?_; rintro e w' ⟨rfl, rfl⟩)
          | (go_at_call 18; refine (writer_bytes _ _ _ _ _ _ X4.out (by omega)).mono ?_; rintro e W5 ⟨A5, n5, c5, rfl, hb5, o5⟩; have B5 := Lib.hid hb5; clear hb5)
          | (go_at_call 19; refine (read_any _ _ _ _ (Byt.of_own B5.out) (by omega)).mono ?_; rintro e W6 ⟨g6, S6, rfl, hg6, h6, hs6, o6⟩; have H6 := Lib.hid h6; clear h6))
        have U6 : Hid (Only (one g6) W W6) := ((O4.out.trans o5).trans o6).of_none
        have hg6' : W.heap.size ≤ g6 := by have := O4.out.size; have := o5.size; omega
        have hgl := H6.out.lt
        clear o5 o6 hs6
        go_loopw [58] (fun i wr => ∃ (k : Nat), k ≤ l.length ∧ i = .int .i64 k ∧ Rd wr g6 S6 0 (encL (l.drop k)) ∧ Only (one g6) W wr) (fun i _ => l.length - (intOf i).toNat)
        case atStart => exact ⟨0, by omega, rfl, by simpa using H6.out, U6.out⟩
        case round =>
          obtain ⟨k, hk, rfl, hr, ho⟩ := hrel
          by_cases hlt : k < l.length
          · obtain ⟨A', c', hAe, _, hcs⟩ := HP.out
            injection hAe with hA1 _ hA3
            subst hA1 hA3
            obtain ⟨b, off, rfl, hb, hSb, hc⟩ := hcs (by omega)
            obtain ⟨h0, h1, h2, h3, h4, h5⟩ := (hc k hlt).only hb hSb ho (fun b hb h => by have := hS b hb; simp only [one] at h; omega)
            have hB5 := (hc k hlt).2.2.2.2.2
            have h6 : l[k].bs.length ≤ 300 := HF1.out _ (List.getElem_mem hlt)
            have hok := HOK.out k hlt hlt
            have hel := encL_len l k
            rw [encL_drop l k hlt] at hr hel
            obtain ⟨p, hp⟩ : ∃ p, p = l[k] := ⟨_, rfl⟩
            rw [← hp] at h0 h1 h2 h3 h4 h5 hB5 h6 hok hr hel
            obtain ⟨A5, c5, hx, _⟩ := h5
            rw [hx] at h3 hB5
            have HB5 := Lib.hid hB5
            have HR := Lib.hid hr
            have HO := Lib.hid ho
            have HP' := Lib.hid hok
            have hSg : Hid (∀ b, S b → b ≠ g6) := fun b hb => by have := hS b hb; omega
            clear hp hx hc hcs hB5 hr ho hok
            obtain ⟨W7, hW7⟩ : ∃ W7, W7 = wr.alloc (.cells #[.int .i64 p.kind, .int .i64 p.width, .int .u64 (p.v : Int), .slice A5 p.bs.length c5] 33) := ⟨_, rfl⟩
            have I7 : Hid (InvB W g6 wr.heap.size p (.slice A5 p.bs.length c5) W7) := ⟨by rw [hW7]; exact Blk.new _ _ _, by rw [hW7]; exact HO.out.alloc _, by have := HR.out.lt; omega⟩
            have R7 : Hid (Rd W7 g6 S6 0 (encP p ++ encL (l.drop (k + 1)))) := by rw [hW7]; exact HR.out.only ((Only.refl none_ wr).alloc _) (fun h => h) (fun _ _ h => h)
            have HW7 := Lib.hid hW7
            clear hW7
            rcases kind4 p with ⟨b0, e0, _⟩ | ⟨b0, b1, e0, _⟩ | ⟨b0, b1, b2, e0, _⟩ | ⟨b0, b1, b2, e0, _⟩
            all_goals
              have E0 := Lib.hid e0
              clear e0
              go_wp2_with fail
              rw [← HW7.out]
              generalize wr.heap.size = b7 at *
            · go_region_held3 (fun w' => InvB W g6 b7 p (.slice A5 p.bs.length c5) w' ∧ w'.cell? ⟨b7, 1, none⟩ = some (.int .i64 p.width) ∧ w'.cell? ⟨b7, 2, none⟩ = some (.int .u64 (p.v : Int)) ∧ w'.cell? ⟨b7, 3, none⟩ = some (.slice A5 p.bs.length c5) ∧ (convert 28 9 (.slice A5 p.bs.length c5)).run Try.prog w' = .ok (.string ⟨p.bs.toArray⟩) w')
                (first | exact I8.out.seen HB5.out hSg.out | exact I7.out.drew.seen HB5.out hSg.out)
                (first | (go_at_call 21; refine (rb_number (by exact R7.out) (by omega) HP'.out E0.out).mono ?_; rintro e W8 ⟨rfl, r8, o8⟩; have R8 := Lib.hid r8; have I8 := Lib.hid (I7.out.drew.step o8); clear r8 o8))
              go_wp2_with fail
              go_roundw
              case rel => exact ⟨k + 1, by omega, by go_num, R8.out, I8.out.2.1⟩
              case measure => simp [intOf]; omega
            · go_region_held3 (fun w' => InvB W g6 b7 p (.slice A5 p.bs.length c5) w' ∧ w'.cell? ⟨b7, 1, none⟩ = some (.int .i64 p.width) ∧ w'.cell? ⟨b7, 2, none⟩ = some (.int .u64 (p.v : Int)) ∧ w'.cell? ⟨b7, 3, none⟩ = some (.slice A5 p.bs.length c5) ∧ (convert 28 9 (.slice A5 p.bs.length c5)).run Try.prog w' = .ok (.string ⟨p.bs.toArray⟩) w')
                (first | exact I8.out.seen HB5.out hSg.out | exact I7.out.drew.seen HB5.out hSg.out)
                (first | (go_at_call 23; refine (rb_flag (by exact R7.out) (by omega) E0.out).mono ?_; rintro e W8 ⟨rfl, r8, o8⟩; have R8 := Lib.hid r8; have I8 := Lib.hid (I7.out.drew.step o8); clear r8 o8))
              go_wp2_with fail
              go_roundw
              case rel => exact ⟨k + 1, by omega, by go_num, R8.out, I8.out.2.1⟩
              case measure => simp [intOf]; omega
            · go_region_held3 (fun w' => InvB W g6 b7 p (.slice A5 p.bs.length c5) w' ∧ w'.cell? ⟨b7, 1, none⟩ = some (.int .i64 p.width) ∧ w'.cell? ⟨b7, 2, none⟩ = some (.int .u64 (p.v : Int)) ∧ w'.cell? ⟨b7, 3, none⟩ = some (.slice A5 p.bs.length c5) ∧ (convert 28 9 (.slice A5 p.bs.length c5)).run Try.prog w' = .ok (.string ⟨p.bs.toArray⟩) w')
                (first | exact I8.out.seen HB5.out hSg.out | exact I7.out.drew.seen HB5.out hSg.out)
                (first | (go_at_call 25; refine (rb_text (by exact R7.out) (by omega) HP'.out E0.out).mono ?_; rintro e W8 ⟨rfl, r8, o8⟩; have R8 := Lib.hid r8; have I8 := Lib.hid (I7.out.drew.step o8); clear r8 o8))
              go_wp2_with fail
              go_roundw
              case rel => exact ⟨k + 1, by omega, by go_num, R8.out, I8.out.2.1⟩
              case measure => simp [intOf]; omega
            · go_region_held3 (fun w' => InvB W g6 b7 p (.slice A5 p.bs.length c5) w' ∧ w'.cell? ⟨b7, 1, none⟩ = some (.int .i64 p.width) ∧ w'.cell? ⟨b7, 2, none⟩ = some (.int .u64 (p.v : Int)) ∧ w'.cell? ⟨b7, 3, none⟩ = some (.slice A5 p.bs.length c5) ∧ (convert 28 9 (.slice A5 p.bs.length c5)).run Try.prog w' = .ok (.string ⟨p.bs.toArray⟩) w')
                (first | exact I8.out.seen HB5.out hSg.out | exact I7.out.drew.seen HB5.out hSg.out)
                (first
                  | (go_at_call 27; refine (rb_raw (by exact R7.out) (by omega) E0.out).mono ?_; rintro e W8 ⟨A8, k8, c8, rfl, b8, r8, o8⟩; have B8 := Lib.hid b8; have R8 := Lib.hid r8; have I8 := Lib.hid (I7.out.drew.step o8); clear b8 r8 o8)
                  | (go_at_call 17; refine (same_yes _ _ _ _ _ _ B8.out (HB5.out.only I8.out.2.1 (fun b hb e => hSg.out b hb e))).mono ?_; rintro e w' ⟨rfl, rfl⟩))
              go_wp2_with fail
              go_roundw
              case rel => exact ⟨k + 1, by omega, by go_num, R8.out, I8.out.2.1⟩
              case measure => simp [intOf]; omega
          · obtain ⟨W7, rfl⟩ : ∃ W7 : World, W7 = wr := ⟨_, rfl⟩
            obtain rfl : k = l.length := by omega
            have R7 : Hid (Rd W7 g6 S6 0 []) := by simpa [Hid, encL] using hr
            have O7 := Lib.hid ho
            have hd : Hid (doneCode 0 [] = 0) := by simp [Hid, doneCode]
            clear hr ho
            go_wp2_with (first
              | (go_at_call 30; refine (reader_done _ _ _ _ _ R7.out).mono ?_; rw [hd.out]; rintro e W8 ⟨rfl, r8, o8⟩; have R8 := Lib.hid r8; have O8 := Lib.hid (O7.out.trans o8); clear r8 o8)
              | (go_at_call 32; refine (reader_left _ _ _ _ _ R8.out).mono ?_; rintro e w' ⟨rfl, rfl⟩))
            go_ret
            exact ⟨rfl, O8.out.below (Nat.le_refl _) (fun k hk => by simp only [one] at hk; omega)⟩
      · have hne : (c != 0) = true := by simp [hc0]
        clear hc0
        go_wp2_with (go_at_call 16; refine (writer_err _ _ _ _ _ _ X4.out).mono ?_; rintro e w' ⟨rfl, rfl⟩)
        go_ret
        exact ⟨rfl, O4.out.below (Nat.le_refl _) (fun k hk => hk.elim)⟩

/-- Too many calls, or too many bytes: the example alone is asked. -/
theorem back_long (pv : Value) (l : List PutR) (S : Nat → Prop) (W : World) (hp : Puts W S pv l) (h : ¬ fewP l) :
    Calls Try.prog 5 #[pv] W fun e w' => e = .returned (.bool true) ∧ Below W.heap.size W w' := by
  obtain ⟨T, hT, HF⟩ := few_any pv l S W hp
  obtain rfl : T = false := by cases T with
    | false => rfl
    | true => exact absurd (hT.1 rfl) h
  have HP := Lib.hid hp
  clear hT h hp
  go_enter Try.func5, Try.ntmps5
  go_wp2_with fail
  refine (speaks_any _).mono ?_
  rintro e W1 ⟨rfl, o1⟩
  go_wp2_with fail
  refine (HF _ (HP.out.only o1 (fun _ _ h => h))).mono ?_
  rintro e W2 ⟨rfl, o2⟩
  go_wp2_with fail
  refine (speaks_any _).mono ?_
  rintro e W3 ⟨rfl, o3⟩
  go_wp2
  go_ret
  exact ⟨rfl, ((o1.trans o2).trans o3).below (Nat.le_refl _) (fun k hk => hk.elim)⟩
end Go.Proofs.Ytpccimifpkdfiaa
