/- The document's tables: Scan. No statement of the seat is proved here. -/
import Derived.Test.YtkailngpmodfhaaTbI
namespace Go.Proofs.Ytkailngpmodfhaa
open Go.RowKit
set_option maxRecDepth 100000
set_option linter.all false

set_option maxHeartbeats 12800000 in
theorem rf_scan (S : Nat → Prop) (room : Int) (l : List (Pr Int)) (m : Value) (x : ByteArray) (n : Int) (w : World) (h : Rt w S room l m) (hr : Ris l) (hl : l.length ≤ 4096) (hS : ∀ b, S b → b < w.heap.size) :
    Calls Try.prog 21 #[m, .string x, .int .i64 n] w fun e w' => ∃ v', e = .returned v' ∧ w'.ownsRow w.heap.size 44 2 v' (scanL l x n).length ((scanL l x n).flatMap prI) ∧ Only none_ w w' := by
  obtain ⟨i0, hi0, hz0, hz1, hz2⟩ := info_parts rpair_info
  obtain ⟨A, c, rfl, h⟩ := h
  have HC := Lib.hid (fun (w' : World) (o : Only none_ w w') => h.only o (fun _ _ h => h))
  have HALL := Lib.hid (scnR_all hr x n)
  obtain ⟨k, hk⟩ : ∃ k, n.toNat = k := ⟨_, rfl⟩
  have HK := Lib.hid hk
  rw [hk] at HALL
  rw [← HALL.out]
  obtain ⟨L, hL⟩ : ∃ L, l.length = L := ⟨_, rfl⟩
  have HL := Lib.hid hL
  rw [hL] at HC hl HALL ⊢
  obtain ⟨g, hg⟩ : ∃ g, w.heap.size = g := ⟨_, rfl⟩
  have HG := Lib.hid hg
  have B := Lib.hid (Blk.new w 31 #[.int .i64 room, .slice A L c])
  have O := Lib.hid ((Only.refl none_ w).alloc (.cells #[.int .i64 room, .slice A L c] 31))
  clear h hr hk hL
  go_enter Try.func21, Try.ntmps21
  go_wp2_with fail
  have M0 : Hid (((w.alloc (.cells #[.int .i64 room, .slice A L c] 31)).alloc (.cells #[] 44)).ownsRow g 44 2 (.slice (some ⟨g + 1, 0, none⟩) 0 0) 0 []) := by
    have := own_made (w.alloc (.cells #[.int .i64 room, .slice A L c] 31)) g 44 2 0 #[] (by simp) (by simp [maxLen]) (by rw [World.size_alloc]; omega)
    rw [World.size_alloc, hg] at this
    exact this
  have B0 : Hid (Blk ((w.alloc (.cells #[.int .i64 room, .slice A L c] 31)).alloc (.cells #[] 44)) g 31 #[.int .i64 room, .slice A L c]) := by
    have := B.out.alloc (.cells #[] 44)
    rwa [hg] at this
  have O0 := Lib.hid (O.out.alloc (.cells #[] 44))
  generalize (w.alloc _).alloc _ = W2 at *
  go_loopw [7, 8] (fun vo s8 wr => ∃ i : Nat, i ≤ L ∧ s8 = .int .i64 i ∧ Only none_ w wr ∧ Blk wr g 31 #[.int .i64 room, .slice A L c] ∧ wr.ownsRow g 44 2 vo (scnR l x k i).length ((scnR l x k i).flatMap prI)) (fun _ s8 _ => L - (intOf s8).toNat)
  case atStart => exact ⟨0, by omega, rfl, O0.out, B0.out, by simpa [scnR] using M0.out⟩
  case round =>
    obtain ⟨i, hi, rfl, o, b, own⟩ := hrel
    obtain ⟨Ao, no, co, rfl⟩ := own_shape own
    have NO : Hid (no = (scnR l x k i).length) := by
      rcases own.2 with ⟨e, h0⟩ | ⟨_, _, _, e, _⟩
      · injection e with _ e _; exact e.trans h0.symm
      · injection e
    have c1 := b.cell_ (i := 1) rfl
    have OW := Lib.hid own
    have OO := Lib.hid o
    have BB := Lib.hid b
    have hno : no ≤ 4096 := by
      have h1 : (scnR l x k i).length ≤ l.length := by
        unfold scnR
        exact Nat.le_trans (List.length_take_le' _ _) (Nat.le_trans (List.length_filter_le _ _) (List.length_take_le' _ _))
      have h2 := NO.out
      have h3 := HL.out
      omega
    by_cases hlt : i < L
    · have hin : i < l.length := by have := HL.out; omega
      obtain ⟨b1, off, hA, _, _, hc0, hc1⟩ := prI_cell (HC.out _ o) i hin HL.out.symm
      subst hA
      have hsn := scnR_snoc l x k i hin
      have hbl : Op.bytesLess l[i].k.toList x.toList = lt_ l[i].k x := by rw [Lib.toList_data, Lib.toList_data]; rfl
      have hpr : prI l[i] = [.string l[i].k, .int .i64 l[i].v] := rfl
      obtain ⟨pp, hpp⟩ : ∃ pp, l[i] = pp := ⟨_, rfl⟩
      rw [hpp] at hsn hbl hc0 hc1 hpr
      obtain ⟨kk, vv⟩ := pp
      dsimp only at hsn hbl hc0 hc1 hpr
      have HSN := Lib.hid hsn
      clear hsn hpp own b
      cases hb : lt_ kk x
      · rw [hb] at hbl
        by_cases hm : no < k
        · have hmn : (no : Int) < n := by have := HK.out; omega
          have E6 : Hid ((wr.alloc (.cells #[.string kk, .int .i64 vv] 44)).ownsRow g 44 2 (.slice Ao no co) no ((scnR l x k i).flatMap prI)) := by
            have h1 := owns_only OW.out ((Only.refl none_ wr).alloc (.cells #[.string kk, .int .i64 vv] 44)) (fun _ _ h => h)
            rw [← NO.out] at h1
            exact h1
          have C6 := Lib.hid (cel_made wr 44 2 1 #[.string kk, .int .i64 vv] rfl (by simp [maxLen]))
          have hs6 : g ≤ (wr.alloc (.cells #[.string kk, .int .i64 vv] 44)).heap.size := by rw [World.size_alloc]; have := BB.out.lt; omega
          have H63 : Hid (no + 1 ≤ maxLen ∧ (no + 1) * 24 ≤ 140737488355328) := by simp only [Hid, maxLen]; omega
          have HM := Lib.hid hm
          have HB := Lib.hid hb
          clear hb
          go_wp2_with (first
            | (at_builtin; refine wpList_append_cel _ rfl (.tmp 31) (.tmp 37) 29 rfl g 44 i0 _ 2 24 Try.underlying29 hi0 hz0 hz1 hz2 rfl (by omega) _ no _ rfl E6.out _ _ 1 [.string kk, .int .i64 vv] rfl C6.out (by simp [Value.oneCell']) H63.out.1 H63.out.2 hs6 ?_
               intro A7 n7 c7 w7 hown7 hgrow7 hmv7
               have F7 : Hid (Only none_ w w7 ∧ Blk w7 g 31 #[.int .i64 room, .slice (some ⟨b1, off, none⟩) L c] ∧ w7.ownsRow g 44 2 (.slice A7 n7 c7) (no + 1) ((scnR l x k i).flatMap prI ++ [.string kk, .int .i64 vv])) := by
                 have o1 := (OO.out.alloc (.cells #[.string kk, .int .i64 vv] 44))
                 have o2 : Only (ownb (.slice Ao no co)) _ w7 := (Only.refl (ownb (.slice Ao no co)) _).grown hgrow7 (fun k hk => .inl hk)
                 refine ⟨o1.trans' o2 (fun q hq e => by have h1 := (E6.out.lt q e).1; have := HG.out; omega), (BB.out.alloc _).only o2 (fun e => own_blk_ne E6.out (BB.out.alloc _) (by decide) e), hown7⟩
               clear hown7 hgrow7 hmv7))
          go_roundw
          case rel =>
            refine ⟨i + 1, by omega, by go_num, F7.out.1, F7.out.2.1, ?_⟩
            have e1 := HSN.out
            rw [if_pos ⟨HB.out, by rw [← NO.out]; exact HM.out⟩] at e1
            rw [e1, List.length_append, ← NO.out, List.flatMap_append]
            exact F7.out.2.2
          case measure => simp [intOf]; omega
        · have hmn : ¬ ((no : Int) < n) := by have := HK.out; omega
          have HM := Lib.hid hm
          clear hb
          go_wp2_with fail
          go_roundw
          case rel =>
            refine ⟨i + 1, by omega, by go_num, OO.out, BB.out, ?_⟩
            have e1 := HSN.out
            rw [if_neg (fun e => HM.out (by rw [NO.out]; exact e.2))] at e1
            rw [e1]
            exact OW.out
          case measure => simp [intOf]; omega
      · rw [hb] at hbl
        have HB := Lib.hid hb
        clear hb
        go_wp2_with fail
        go_roundw
        case rel =>
          refine ⟨i + 1, by omega, by go_num, OO.out, BB.out, ?_⟩
          have e1 := HSN.out
          rw [if_neg (fun e => by rw [HB.out] at e; cases e.1)] at e1
          rw [e1]
          exact OW.out
        case measure => simp [intOf]; omega
    · have hiL : i = L := by omega
      have F : Hid (wr.ownsRow w.heap.size 44 2 (.slice Ao no co) (scnR l x k L).length ((scnR l x k L).flatMap prI)) := by
        have h1 := OW.out
        rw [hiL, ← HG.out] at h1
        exact h1
      clear own b o hiL
      go_wp2_with fail
      go_ret
      exact ⟨_, rfl, F.out, OO.out⟩
end Go.Proofs.Ytkailngpmodfhaa
