/- The call of OctetsPuts answers yes, and changes nothing that was there. The statement itself is proved in the text that imports this one. -/
import Derived.Test.YtpccimifpkdfiaaRefN
import Derived.Deep.RegionHeld3
import Derived.Deep.DrawnRows
import Derived.Deep.Cut
import Derived.Deep.CutBlock
namespace Go.Proofs.Ytpccimifpkdfiaa
open Go.RowKit
attribute [local go_sem ↓] Go.wp_at_zero Go.wp_at_succ

/-- Two slices of the call's own that lie in unlike blocks. -/
def Apart (v x : Value) : Prop := ∀ b, v.ownBlock = some b → x.ownBlock ≠ some b

theorem put_err {bs : List UInt8} {p : PutR} (h : putC 0 p ≠ 0) : putB 0 bs p = bs := by
  unfold putC at h
  unfold putB
  by_cases h0 : p.kind = 0
  · simp only [h0, if_true] at h ⊢
    unfold numCode at h
    unfold numBs
    by_cases hw : isW p.width = true
    · simp only [hw, if_true] at h ⊢
      by_cases hv : p.v / 2 ^ (8 * p.width.toNat) = 0
      · simp [hv] at h
      · simp [hv]
    · simp [hw]
  · by_cases h1 : p.kind = 1
    · simp [h1] at h
    · by_cases h2 : p.kind = 2
      · simp only [h2, textCode] at h
        by_cases hl : 255 < p.bs.length
        · simp [h2, hl, textBs]
        · simp [hl] at h
      · simp [h0, h1, h2] at h
theorem putB_stop {c : Int} (h : c ≠ 0) (bs : List UInt8) (p : PutR) : putB c bs p = bs := by
  unfold putB
  rw [numBs_stop h, textBs_stop h, putS_stop h, putS_stop h]
  split <;> (try split) <;> (try split) <;> rfl

/-- Where the ways of one put meet: the writer, the row of the document's answer (as it was), the bytes and the error that the document has for this put. -/
def MetP (W : World) (g : Nat) (c : Int) (bs : List UInt8) (p : PutR) (want : Value) (s8 s9 : Value) (w : World) : Prop :=
  ∃ (v : Value) (bv : List UInt8) (A : Option Addr) (n k : Nat), Wr w g g (putC c p) v (putB c bs p) ∧ w.ownsRow g 5 1 want bs.length (byts bs) ∧ Apart v want ∧ Only none_ W w ∧
    s8 = .slice A n k ∧ Byt w (fun _ => True) (.slice A n k) bv ∧ s9 = .int .i64 (putC 0 p) ∧ (putC 0 p = 0 → bv = encP p) ∧ bv.length ≤ 309

/-- What stands while one put is gone through. -/
def PackP (W : World) (g : Nat) (want : Value) (ws : List UInt8) (b : Nat) (cs : Array Value) (c : Int) (v : Value) (bs : List UInt8) (w : World) : Prop :=
  Wr w g g c v bs ∧ w.ownsRow g 5 1 want ws.length (byts ws) ∧ Apart v want ∧ Only none_ W w ∧ Blk w b 33 cs ∧ W.heap.size ≤ g
section
variable {W w : World} {g : Nat} {want : Value} {ws : List UInt8} {b : Nat} {cs : Array Value} {c : Int} {v : Value} {bs : List UInt8}
theorem PackP.keep (I : PackP W g want ws b cs c v bs w) {w' : World} (ho : Only none_ w w') : PackP W g want ws b cs c v bs w' :=
  ⟨I.1.only ho (fun _ _ h => h), owns_only I.2.1 ho (fun _ _ h => h), I.2.2.1, I.2.2.2.1.trans ho, I.2.2.2.2.1.only ho (fun h => h), I.2.2.2.2.2⟩
theorem PackP.step (I : PackP W g want ws b cs c v bs w) {w' : World} {c' : Int} {v' : Value} {bs' : List UInt8} (hw : Wr w' g g c' v' bs') (ho : Only (foot g v) w w') (hm : Moved w v v') : PackP W g want ws b cs c' v' bs' w' := by
  obtain ⟨h1, h2, h3, h4, h5, h6⟩ := I
  refine ⟨hw, owns_only h2 ho ?_, ?_, h4.trans' ho ?_, h5.only ho ?_, h6⟩
  · rintro k hk (rfl | hf)
    · exact own_blk_ne h2 h1.1 (by decide) hk
    · exact h3 k hf hk
  · intro k hk hk2
    rcases hm k hk with h | h
    · exact h3 k h hk2
    · have := (h2.lt k hk2).2; omega
  · intro k hk hf
    have := h1.foot_ge (Nat.le_refl _) hf
    omega
  · rintro (h | h)
    · exact Blk.ne_ h5 h1.1 (by decide) h
    · exact own_blk_ne h1.2 h5 (by decide) h
theorem PackP.met {p : PutR} (I : PackP W g want bs b cs (putC c p) v (putB c bs p) w) {A : Option Addr} {n k : Nat} {bv : List UInt8} {S : Nat → Prop} (hb : Byt w S (.slice A n k) bv) {s9 : Value} (h9 : s9 = .int .i64 (putC 0 p)) (he : putC 0 p = 0 → bv = encP p) (hl : bv.length ≤ 309) :
    MetP W g c bs p want (.slice A n k) s9 w :=
  ⟨v, bv, A, n, k, I.1, I.2.1, I.2.2.1, I.2.2.2.1, rfl, hb.mono (fun _ _ _ => trivial), h9, he, hl⟩
end

theorem own_cell (w : World) (x : Value) (b : UInt8) (hx : x = byt b) {base : Nat} (hb : base ≤ w.heap.size) (t : TypeId) : (w.alloc (.cells #[x] t)).ownsRow base t 1 (.slice (some ⟨w.heap.size, 0, none⟩) 1 1) [b].length (byts [b]) := by
  subst hx
  exact World.ownsRow_lit (e := t) (size := 1) w #[byt b] 1 hb (by simp [maxLen]) rfl
theorem byt_len (n : Nat) : Value.int .u8 ((n : Int) % 256) = byt (UInt8.ofNat n) := by
  unfold byt
  simp
theorem byt_len' (n : Nat) (h : n ≤ 255) : Value.int .u8 (n : Int) = byt (UInt8.ofNat n) := by
  rw [← byt_len]
  congr 1
  omega

theorem parts_three {w : World} {S : Nat → Prop} {x y z : Value} {bs cs ds : List UInt8} {t : TypeId} (h : Byt w S x bs) (h' : Byt w S y cs) (h'' : Byt w S z ds) (hS : S w.heap.size) :
    Parts (w.alloc (.cells #[x, y, z] t)) S (.slice (some ⟨w.heap.size, 0, none⟩) 3 3) [bs, cs, ds] := by
  refine ⟨_, _, 3, rfl, by simp, hS, fun j hj => ?_⟩
  have hj0 : j = 0 ∨ j = 1 ∨ j = 2 := by simp at hj; omega
  rcases hj0 with rfl | rfl | rfl
  · exact ⟨x, by simp, h.alloc _⟩
  · exact ⟨y, by simp, h'.alloc _⟩
  · exact ⟨z, by simp, h''.alloc _⟩

/-- The width that the document's Number is asked for. -/
theorem clamp_width (wd : Int) : ∃ q : Nat, q ≤ 8 ∧ (isW wd = true → wd = q) ∧ ∃ z : Int, (∀ ts t w, (Builtin.max_ ts t #[.int .i64 wd, .int .i64 1]).run Try.prog w = .ok (.int .i64 z) w) ∧ ∀ ts t w, (Builtin.min_ ts t #[.int .i64 z, .int .i64 8]).run Try.prog w = .ok (.int .i64 (q : Int)) w := by
  have hmax : ∃ z : Int, 1 ≤ z ∧ (1 ≤ wd → z = wd) ∧ ∀ ts t w, (Builtin.max_ ts t #[.int .i64 wd, .int .i64 1]).run Try.prog w = .ok (.int .i64 z) w := by
    by_cases h : wd < 1
    · exact ⟨1, by omega, by omega, fun ts t w => by rw [run_max_int2]; simp [h]⟩
    · refine ⟨wd, by omega, fun _ => rfl, fun ts t w => by rw [run_max_int2]; simp; omega⟩
  obtain ⟨z, hz1, hz2, hz3⟩ := hmax
  by_cases h : (8 : Int) < z
  · exact ⟨8, by omega, fun hw => by have : 1 ≤ wd ∧ wd ≤ 8 := by simpa [isW] using hw
                                     omega, z, hz3, fun ts t w => by rw [run_min_int2, if_pos h]; rfl⟩
  · exact ⟨z.toNat, by omega, fun hw => by have : 1 ≤ wd ∧ wd ≤ 8 := by simpa [isW] using hw
                                           omega, z, hz3, fun ts t w => by rw [run_min_int2, if_neg h, show ((z.toNat : Nat) : Int) = z from by omega]⟩

set_option maxRecDepth 100000 in
set_option maxHeartbeats 1600000 in
theorem puts_short (pv : Value) (l : List PutR) (S : Nat → Prop) (W : World) (hp : Puts W S pv l) (hS : ∀ b, S b → b < W.heap.size) (hf : fewP l) :
    Calls Try.prog 3 #[pv] W fun e w' => e = .returned (.bool true) ∧ Below W.heap.size W w' := by
  obtain ⟨T, hT, HF⟩ := few_any pv l S W hp
  obtain rfl : T = true := hT.2 hf
  clear hT
  have HP := Lib.hid hp
  have hl40 := hf.2
  have HF1 := Lib.hid hf.1
  have hv : ∃ A c, pv = .slice A l.length c := by obtain ⟨A, c, h, _⟩ := hp; exact ⟨A, c, h⟩
  obtain ⟨Ap, cp, rfl⟩ := hv
  clear hp hf
  go_enter Try.func3, Try.ntmps3
  go_wp2_with (first
    | (go_at_call 8; refine (speaks_any _).mono ?_; rintro e W1 ⟨rfl, o1⟩)
    | (go_at_call 9; refine (HF _ (HP.out.only o1 (fun _ _ h => h))).mono ?_; rintro e W2 ⟨rfl, o2⟩))
  have hWs : Hid (W.heap.size ≤ W2.heap.size) := Nat.le_trans o1.size o2.size
  have O3 : Only none_ W ((W2.alloc (.cells #[.int .i64 0, .slice none 0 0] 30)).alloc (.cells #[] 5)) := ((o1.trans o2).alloc _).alloc _
  have X3 : Wr ((W2.alloc (.cells #[.int .i64 0, .slice none 0 0] 30)).alloc (.cells #[] 5)) W2.heap.size W2.heap.size 0 (.slice none 0 0) [] := ⟨(Blk.new _ _ _).alloc _, World.ownsRow_nil _ _ _ _⟩
  have Y3 : ((W2.alloc (.cells #[.int .i64 0, .slice none 0 0] 30)).alloc (.cells #[] 5)).ownsRow W2.heap.size 5 1 (.slice (some ⟨W2.heap.size + 1, 0, none⟩) 0 0) ([] : List UInt8).length (byts []) := by
    have := World.ownsRow_made (base := W2.heap.size) (e := 5) (size := 1) (W2.alloc (.cells #[.int .i64 0, .slice none 0 0] 30)) #[] 0 (by simp) (by simp [maxLen]) rfl
    simpa [byts] using this
  generalize (W2.alloc (.cells #[.int .i64 0, .slice none 0 0] 30)).alloc (.cells #[] 5) = W3 at *
  generalize W2.heap.size = g at *
  clear o1 o2
  go_loopw [4, 5, 23] (fun s4 s5 i wr => ∃ (k : Nat) (c : Int) (bs : List UInt8) (v : Value) (A : Option Addr) (n' c' : Nat), k ≤ l.length ∧ i = .int .i64 k ∧ s4 = .slice A n' c' ∧ s5 = .int .i64 c ∧ Wr wr g g c v bs ∧
      wr.ownsRow g 5 1 (.slice A n' c') bs.length (byts bs) ∧ Apart v (.slice A n' c') ∧ Only none_ W wr ∧ bs.length ≤ 309 * k) (fun _ _ i _ => l.length - (intOf i).toNat)
  case atStart => exact ⟨0, 0, [], _, _, _, _, by omega, rfl, rfl, rfl, X3, Y3, fun b h => by simp [Value.ownBlock] at h, O3, by simp⟩
  case round =>
    obtain ⟨k, c, bs, v, A, n', c', hk, rfl, rfl, rfl, hv, hown, hap, ho, hbl⟩ := hrel
    by_cases hlt : k < l.length
    · obtain ⟨A', c1, hAe, _, hcs⟩ := HP.out
      injection hAe with hA1 _ hA3
      subst hA1 hA3
      obtain ⟨b, off, rfl, hb, hSb, hc⟩ := hcs (by omega)
      obtain ⟨h0, h1, h2, h3, h4, h5⟩ := (hc k hlt).only hb hSb ho (fun _ _ h => h)
      have hB5 := (hc k hlt).2.2.2.2.2
      have h6 : l[k].bs.length ≤ 300 := HF1.out _ (List.getElem_mem hlt)
      have hlen := putB_len c bs l[k] h6
      obtain ⟨p, hp⟩ : ∃ p, p = l[k] := ⟨_, rfl⟩
      rw [← hp] at h0 h1 h2 h3 h4 h5 hB5 h6 hlen
      obtain ⟨A5, c5, hx, _⟩ := h5
      rw [hx] at h3 hB5
      have HB5 := Lib.hid hB5
      have HV := Lib.hid hv
      have HO := Lib.hid ho
      have HW := Lib.hid hown
      have HA := Lib.hid hap
      clear hp hx hc hcs hB5 hv ho hown hap
      go_upto_block 2 with (fail)
      have HI : Hid (Wr (wr.alloc (.cells #[.int .i64 p.kind, .int .i64 p.width, .int .u64 (p.v : Int), .slice A5 p.bs.length c5] 33)) g g c v bs ∧
          Blk (wr.alloc (.cells #[.int .i64 p.kind, .int .i64 p.width, .int .u64 (p.v : Int), .slice A5 p.bs.length c5] 33)) wr.heap.size 33 #[.int .i64 p.kind, .int .i64 p.width, .int .u64 (p.v : Int), .slice A5 p.bs.length c5] ∧
          Only none_ W (wr.alloc (.cells #[.int .i64 p.kind, .int .i64 p.width, .int .u64 (p.v : Int), .slice A5 p.bs.length c5] 33)) ∧
          (wr.alloc (.cells #[.int .i64 p.kind, .int .i64 p.width, .int .u64 (p.v : Int), .slice A5 p.bs.length c5] 33)).ownsRow g 5 1 (.slice A n' c') bs.length (byts bs)) :=
        ⟨HV.out.only ((Only.refl none_ wr).alloc _) (fun _ _ h => h), Blk.new _ _ _, HO.out.alloc _, owns_only HW.out ((Only.refl none_ wr).alloc _) (fun _ _ h => h)⟩
      generalize wr.alloc (.cells #[.int .i64 p.kind, .int .i64 p.width, .int .u64 (p.v : Int), .slice A5 p.bs.length c5] 33) = W4 at *
      generalize wr.heap.size = b4 at *
      clear HV HO HW
      go_cut [8, 9] from 29 (fun s8 s9 w' => MetP W g c bs p (.slice A n' c') s8 s9 w')
      case rest =>
        clear HI
        obtain ⟨v1, bv, A8, n8, k8, hv1, hw1, ha1, ho1, hs8, hb1, hs9, he1, hl1⟩ := hcut
        subst hs8
        obtain ⟨i0, hi0, hz0, hz1, hz2⟩ := info_parts u8_info
        have hgl := hv1.1.lt
        by_cases hc0 : c = 0
        · subst hc0
          by_cases hk0 : putC 0 p = 0
          · have hpb := (put_ok (bs := bs) hk0).2
            rw [hpb, ← he1 hk0, hk0] at hv1
            rw [hpb, ← he1 hk0] at hlen
            rw [hk0] at hs9
            subst hs9
            have HV1 := Lib.hid hv1
            have HW1 := Lib.hid hw1
            have HA1 := Lib.hid ha1
            have HO1 := Lib.hid ho1
            have HB1 := Lib.hid hb1
            have hnl : n8 = bv.length := by obtain ⟨_, _, h, _⟩ := hb1; injection h
            simp only [List.length_append] at hlen
            have hcap : bs.length + bv.length ≤ 140737488355328 := by omega
            clear hv1 hw1 ha1 ho1 hb1 hpb he1 hk0 hnl
            go_wp2_with (first
              | (at_builtin; refine wpList_append_byt _ rfl (.tmp 106) (.tmp 107) _ rfl g 5 i0 (.int .u8 0) Try.underlying28 hi0 hz0 hz1 hz2 rfl (.slice A n' c') bs rfl HW1.out _ _ bv rfl HB1.out hcap (Nat.le_of_lt hgl) ?_
                 intro A2 n2 c2 W6 hown2 hgrow2 hmv2
                 have hne : ∀ b, v1.ownBlock = some b → (Value.slice A n' c').ownBlock ≠ some b := HA1.out
                 have X1 : Hid (Wr W6 g g 0 v1 (bs ++ bv)) := ⟨HV1.out.1.grown' hgrow2 (own_blk_ne HW1.out HV1.out.1 (by decide)), HV1.out.2.kept hgrow2 (by
                   cases hvb : v1.ownBlock with
                   | none => exact .inl rfl
                   | some b => exact .inr (fun h => hne b hvb h.symm))⟩
                 have Y1 := Lib.hid hown2
                 have Z1 : Hid (Apart v1 (.slice A2 n2 c2)) := fun b hb hb2 => by
                   rcases hmv2 b hb2 with h | h
                   · exact hne b hb h
                   · have := (HV1.out.2.lt b hb).2; omega
                 have O1 : Hid (Only none_ W W6) := HO1.out.grown hgrow2 (fun b hb => .inr (by have := (HW1.out.lt b hb).1; have := hWs.out; omega))
                 clear hown2 hgrow2 hmv2 hne)
              | (go_at_call 16; refine (writer_err _ _ _ _ _ _ X1.out).mono ?_; rintro e w' ⟨rfl, rfl⟩)
              | (go_at_call 18; refine (writer_bytes _ _ _ _ _ _ X1.out (by simp only [List.length_append]; omega)).mono ?_; rintro e W8 ⟨AA, nA, cA, rfl, hbA, oA⟩; have BA := Lib.hid (Byt.of_own hbA); have X2 := Lib.hid (X1.out.only oA (fun _ _ h => h)); have Y2 := Lib.hid (owns_only Y1.out oA (fun _ _ h => h)); have O2 := Lib.hid (O1.out.trans oA); clear hbA oA)
              | (go_at_call 17; refine (same_yes _ _ _ _ _ _ BA.out (Byt.of_own Y2.out)).mono ?_; rintro e w' ⟨rfl, rfl⟩))
            go_roundw
            case rel => exact ⟨k + 1, 0, bs ++ bv, v1, A2, n2, c2, by omega, by go_num, rfl, rfl, X2.out, Y2.out, Z1.out, O2.out, by simp only [List.length_append]; omega⟩
            case measure => simp [intOf]; omega
          · rw [put_err hk0] at hv1
            obtain ⟨e1, he⟩ : ∃ e1, e1 = putC 0 p := ⟨_, rfl⟩
            rw [← he] at hv1 hs9 hk0
            subst hs9
            have hb0 : (e1 == 0) = false := by simp [hk0]
            have X1 := Lib.hid hv1
            have Y1 := Lib.hid hw1
            have Z1 := Lib.hid ha1
            have O1 := Lib.hid ho1
            clear hv1 hw1 ha1 ho1 hb1 he1 hk0 he
            go_wp2_with (first
              | (go_at_call 16; refine (writer_err _ _ _ _ _ _ X1.out).mono ?_; rintro e w' ⟨rfl, rfl⟩)
              | (go_at_call 18; refine (writer_bytes _ _ _ _ _ _ X1.out (by omega)).mono ?_; rintro e W8 ⟨AA, nA, cA, rfl, hbA, oA⟩; have BA := Lib.hid (Byt.of_own hbA); have X2 := Lib.hid (X1.out.only oA (fun _ _ h => h)); have Y2 := Lib.hid (owns_only Y1.out oA (fun _ _ h => h)); have O2 := Lib.hid (O1.out.trans oA); clear hbA oA)
              | (go_at_call 17; refine (same_yes _ _ _ _ _ _ BA.out (Byt.of_own Y2.out)).mono ?_; rintro e w' ⟨rfl, rfl⟩))
            go_roundw
            case rel => exact ⟨k + 1, e1, bs, v1, A, n', c', by omega, by go_num, rfl, rfl, X2.out, Y2.out, Z1.out, O2.out, by omega⟩
            case measure => simp [intOf]; omega
        · rw [putB_stop hc0, putC_stop hc0] at hv1
          obtain ⟨e1, he⟩ : ∃ e1, e1 = putC 0 p := ⟨_, rfl⟩
          rw [← he] at hs9
          subst hs9
          have hb0 : (c == 0) = false := by simp [hc0]
          have X1 := Lib.hid hv1
          have Y1 := Lib.hid hw1
          have Z1 := Lib.hid ha1
          have O1 := Lib.hid ho1
          clear hv1 hw1 ha1 ho1 hb1 he1 hc0 he
          go_wp2_with (first
            | (go_at_call 16; refine (writer_err _ _ _ _ _ _ X1.out).mono ?_; rintro e w' ⟨rfl, rfl⟩)
            | (go_at_call 18; refine (writer_bytes _ _ _ _ _ _ X1.out (by omega)).mono ?_; rintro e W8 ⟨AA, nA, cA, rfl, hbA, oA⟩; have BA := Lib.hid (Byt.of_own hbA); have X2 := Lib.hid (X1.out.only oA (fun _ _ h => h)); have Y2 := Lib.hid (owns_only Y1.out oA (fun _ _ h => h)); have O2 := Lib.hid (O1.out.trans oA); clear hbA oA)
            | (go_at_call 17; refine (same_yes _ _ _ _ _ _ BA.out (Byt.of_own Y2.out)).mono ?_; rintro e w' ⟨rfl, rfl⟩))
          go_roundw
          case rel => exact ⟨k + 1, c, bs, v1, A, n', c', by omega, by go_num, rfl, rfl, X2.out, Y2.out, Z1.out, O2.out, by omega⟩
          case measure => simp [intOf]; omega
      case first =>
        have P4 : Hid (PackP W g (.slice A n' c') bs b4 #[.int .i64 p.kind, .int .i64 p.width, .int .u64 (p.v : Int), .slice A5 p.bs.length c5] c v bs W4) := ⟨HI.out.1, HI.out.2.2.2, HA.out, HI.out.2.2.1, HI.out.2.1, hWs.out⟩
        clear HI HA
        have h0 : W4.cell? ⟨b4, 0, none⟩ = some (.int .i64 p.kind) := P4.out.2.2.2.2.1.cell_ (i := 0) rfl
        have h1 : W4.cell? ⟨b4, 1, none⟩ = some (.int .i64 p.width) := P4.out.2.2.2.2.1.cell_ (i := 1) rfl
        have h2 : W4.cell? ⟨b4, 2, none⟩ = some (.int .u64 (p.v : Int)) := P4.out.2.2.2.2.1.cell_ (i := 2) rfl
        have h3 : W4.cell? ⟨b4, 3, none⟩ = some (.slice A5 p.bs.length c5) := P4.out.2.2.2.2.1.cell_ (i := 3) rfl
        have hgl : g ≤ W4.heap.size := Nat.le_of_lt P4.out.1.1.lt
        have hbb : bs.length + 300 ≤ 140737488355328 := by omega
        rcases kind4 p with ⟨b0, e0, hK⟩ | ⟨b0, b1, e0, hK⟩ | ⟨b0, b1, b2, e0, hK⟩ | ⟨b0, b1, b2, e0, hK⟩
        · obtain ⟨q, hq8, hqw, z, hmx, hmn⟩ := clamp_width p.width
          have E0 := Lib.hid e0
          have HKK : Hid (∀ c bs, putC c p = numCode c p.v p.width ∧ putB c bs p = numBs c bs p.v p.width) := hK
          have HQ := Lib.hid hqw
          clear e0 hK hqw
          by_cases hw : isW p.width = true
          · have hqe : Hid (p.width = q) := HQ.out hw
            by_cases hv0 : p.v / 2 ^ (8 * q) = 0
            · have hC : Hid (putC 0 p = 0) := by rw [Hid, (HKK.out 0 []).1, numCode, if_pos hw, hqe.out]; simp [hv0]
              have HWW := Lib.hid hw
              have HV0 := Lib.hid hv0
              clear hw hv0
              go_wp2_with (first
                | (go_at_call 10; refine (writer_number _ _ _ _ _ _ _ _ P4.out.1 h4 (by omega) hgl).mono ?_; rintro e W8 ⟨rfl, v8, hw8, o8, m8⟩; rw [← (HKK.out c bs).1, ← (HKK.out c bs).2] at hw8; have P8 := Lib.hid (P4.out.step hw8 o8 m8); clear hw8 o8 m8
                   have h81 : W8.cell? ⟨b4, 1, none⟩ = some (.int .i64 p.width) := P8.out.2.2.2.2.1.cell_ (i := 1) rfl
                   have h82 : W8.cell? ⟨b4, 2, none⟩ = some (.int .u64 (p.v : Int)) := P8.out.2.2.2.2.1.cell_ (i := 2) rfl)
                | (go_at_call 11; refine (refNumber_any _ _ h4 hq8 _).mono ?_; rintro e W9 ⟨A9, k9, c9, T, rfl, hT, hb9, o9⟩; obtain rfl : T = true := hT.2 HV0.out; have P9 := Lib.hid (P8.out.keep o9)
                   have h91 : W9.cell? ⟨b4, 1, none⟩ = some (.int .i64 p.width) := P9.out.2.2.2.2.1.cell_ (i := 1) rfl
                   have B9 : Hid (Byt W9 (fun b => (Value.slice A9 k9 c9).ownBlock = some b) (.slice A9 k9 c9) (leBytes p.v q)) := Byt.of_own (n := q) hb9
                   clear hT hb9 o9)
                | (go_at_call 12; refine (refWidth_any _ _).mono ?_; rintro e w' ⟨rfl, rfl⟩; rw [HWW.out]))
              go_meet
              case rel => exact P9.out.met B9.out (by rw [hC.out]) (fun _ => by simp [encP, E0.out, hqe.out]) (by rw [leBytes_length]; omega)
            · have hC : Hid (putC 0 p = 2) := by rw [Hid, (HKK.out 0 []).1, numCode, if_pos hw, hqe.out]; simp [hv0, first_]
              have HWW := Lib.hid hw
              have HV0 := Lib.hid hv0
              clear hw hv0
              go_wp2_with (first
                | (go_at_call 10; refine (writer_number _ _ _ _ _ _ _ _ P4.out.1 h4 (by omega) hgl).mono ?_; rintro e W8 ⟨rfl, v8, hw8, o8, m8⟩; rw [← (HKK.out c bs).1, ← (HKK.out c bs).2] at hw8; have P8 := Lib.hid (P4.out.step hw8 o8 m8); clear hw8 o8 m8
                   have h81 : W8.cell? ⟨b4, 1, none⟩ = some (.int .i64 p.width) := P8.out.2.2.2.2.1.cell_ (i := 1) rfl
                   have h82 : W8.cell? ⟨b4, 2, none⟩ = some (.int .u64 (p.v : Int)) := P8.out.2.2.2.2.1.cell_ (i := 2) rfl)
                | (go_at_call 11; refine (refNumber_any _ _ h4 hq8 _).mono ?_; rintro e W9 ⟨A9, k9, c9, T, rfl, hT, hb9, o9⟩; have hTf : T = false := by
                     cases T with
                     | false => rfl
                     | true => exact absurd (hT.1 rfl) HV0.out
                   subst hTf
                   have P9 := Lib.hid (P8.out.keep o9)
                   have h91 : W9.cell? ⟨b4, 1, none⟩ = some (.int .i64 p.width) := P9.out.2.2.2.2.1.cell_ (i := 1) rfl
                   have B9 : Hid (Byt W9 (fun b => (Value.slice A9 k9 c9).ownBlock = some b) (.slice A9 k9 c9) (leBytes p.v q)) := Byt.of_own (n := q) hb9
                   clear hT hb9 o9)
                | (go_at_call 12; refine (refWidth_any _ _).mono ?_; rintro e w' ⟨rfl, rfl⟩; rw [HWW.out]))
              go_meet
              case rel => exact P9.out.met B9.out (by rw [hC.out]) (fun h => by rw [hC.out] at h; exact absurd h (by decide)) (by rw [leBytes_length]; omega)
          · have hwf : isW p.width = false := by simpa using hw
            have hC : Hid (putC 0 p = 1) := by rw [Hid, (HKK.out 0 []).1, numCode, if_neg hw]; simp [first_]
            have HWW := Lib.hid hwf
            clear hw hwf
            by_cases hv0 : p.v / 2 ^ (8 * q) = 0
            · have HV0 := Lib.hid hv0
              clear hv0
              go_wp2_with (first
                | (go_at_call 10; refine (writer_number _ _ _ _ _ _ _ _ P4.out.1 h4 (by omega) hgl).mono ?_; rintro e W8 ⟨rfl, v8, hw8, o8, m8⟩; rw [← (HKK.out c bs).1, ← (HKK.out c bs).2] at hw8; have P8 := Lib.hid (P4.out.step hw8 o8 m8); clear hw8 o8 m8
                   have h81 : W8.cell? ⟨b4, 1, none⟩ = some (.int .i64 p.width) := P8.out.2.2.2.2.1.cell_ (i := 1) rfl
                   have h82 : W8.cell? ⟨b4, 2, none⟩ = some (.int .u64 (p.v : Int)) := P8.out.2.2.2.2.1.cell_ (i := 2) rfl)
                | (go_at_call 11; refine (refNumber_any _ _ h4 hq8 _).mono ?_; rintro e W9 ⟨A9, k9, c9, T, rfl, hT, hb9, o9⟩; obtain rfl : T = true := hT.2 HV0.out; have P9 := Lib.hid (P8.out.keep o9)
                   have h91 : W9.cell? ⟨b4, 1, none⟩ = some (.int .i64 p.width) := P9.out.2.2.2.2.1.cell_ (i := 1) rfl
                   have B9 : Hid (Byt W9 (fun b => (Value.slice A9 k9 c9).ownBlock = some b) (.slice A9 k9 c9) (leBytes p.v q)) := Byt.of_own (n := q) hb9
                   clear hT hb9 o9)
                | (go_at_call 12; refine (refWidth_any _ _).mono ?_; rintro e w' ⟨rfl, rfl⟩; rw [HWW.out]))
              go_meet
              case rel => exact P9.out.met B9.out (by rw [hC.out]) (fun h => by rw [hC.out] at h; exact absurd h (by decide)) (by rw [leBytes_length]; omega)
            · have HV0 := Lib.hid hv0
              clear hv0
              go_wp2_with (first
                | (go_at_call 10; refine (writer_number _ _ _ _ _ _ _ _ P4.out.1 h4 (by omega) hgl).mono ?_; rintro e W8 ⟨rfl, v8, hw8, o8, m8⟩; rw [← (HKK.out c bs).1, ← (HKK.out c bs).2] at hw8; have P8 := Lib.hid (P4.out.step hw8 o8 m8); clear hw8 o8 m8
                   have h81 : W8.cell? ⟨b4, 1, none⟩ = some (.int .i64 p.width) := P8.out.2.2.2.2.1.cell_ (i := 1) rfl
                   have h82 : W8.cell? ⟨b4, 2, none⟩ = some (.int .u64 (p.v : Int)) := P8.out.2.2.2.2.1.cell_ (i := 2) rfl)
                | (go_at_call 11; refine (refNumber_any _ _ h4 hq8 _).mono ?_; rintro e W9 ⟨A9, k9, c9, T, rfl, hT, hb9, o9⟩; have hTf : T = false := by
                     cases T with
                     | false => rfl
                     | true => exact absurd (hT.1 rfl) HV0.out
                   subst hTf
                   have P9 := Lib.hid (P8.out.keep o9)
                   have h91 : W9.cell? ⟨b4, 1, none⟩ = some (.int .i64 p.width) := P9.out.2.2.2.2.1.cell_ (i := 1) rfl
                   have B9 : Hid (Byt W9 (fun b => (Value.slice A9 k9 c9).ownBlock = some b) (.slice A9 k9 c9) (leBytes p.v q)) := Byt.of_own (n := q) hb9
                   clear hT hb9 o9)
                | (go_at_call 12; refine (refWidth_any _ _).mono ?_; rintro e w' ⟨rfl, rfl⟩; rw [HWW.out]))
              go_meet
              case rel => exact P9.out.met B9.out (by rw [hC.out]) (fun h => by rw [hC.out] at h; exact absurd h (by decide)) (by rw [leBytes_length]; omega)
        · have E0 := Lib.hid e0
          have HKK : Hid (∀ c bs, putC c p = c ∧ putB c bs p = putS c bs [UInt8.ofNat (bitN (decide (0 < p.v)))]) := hK
          have hC : Hid (putC 0 p = 0) := (HKK.out 0 []).1
          clear e0 hK
          by_cases hv0 : 0 < p.v
          · have hE : Hid (encP p = [1]) := by simp [Hid, encP, E0.out, hv0, bitN]
            have hd : Hid (decide (0 < p.v) = true) := by simp [Hid, hv0]
            go_wp2_with (first
                | (go_at_call 13; refine (writer_flag _ _ _ _ _ _ _ P4.out.1 (by omega) hgl).mono ?_; rintro e W8 ⟨rfl, v8, hw8, o8, m8⟩
                   have P8 : Hid (PackP W g (.slice A n' c') bs b4 #[.int .i64 p.kind, .int .i64 p.width, .int .u64 (p.v : Int), .slice A5 p.bs.length c5] (putC c p) v8 (putB c bs p) W8) := P4.out.step (by rw [(HKK.out c bs).1, (HKK.out c bs).2, hd.out]; exact hw8) o8 m8
                   clear hw8 o8 m8
                   have h82 : ∀ o, (W8.alloc o).cell? ⟨b4, 2, none⟩ = some (.int .u64 (p.v : Int)) := fun o => (P8.out.2.2.2.2.1.alloc o).cell_ (i := 2) rfl))
            go_meet
            case rel =>
              have hcell := byt_cell (W8.alloc (.cells #[.int .u8 0] 5)) (.int .u8 1) 1 rfl 5
              simp only [World.size_alloc] at hcell
              exact (P8.out.keep (((Only.refl none_ W8).alloc _).alloc _)).met hcell (by rw [hC.out]) (fun _ => hE.out.symm) (by simp)
          · have hE : Hid (encP p = [0]) := by simp [Hid, encP, E0.out, hv0, bitN]
            have hd : Hid (decide (0 < p.v) = false) := by simp [Hid, hv0]
            go_wp2_with (first
                | (go_at_call 13; refine (writer_flag _ _ _ _ _ _ _ P4.out.1 (by omega) hgl).mono ?_; rintro e W8 ⟨rfl, v8, hw8, o8, m8⟩
                   have P8 : Hid (PackP W g (.slice A n' c') bs b4 #[.int .i64 p.kind, .int .i64 p.width, .int .u64 (p.v : Int), .slice A5 p.bs.length c5] (putC c p) v8 (putB c bs p) W8) := P4.out.step (by rw [(HKK.out c bs).1, (HKK.out c bs).2, hd.out]; exact hw8) o8 m8
                   clear hw8 o8 m8
                   have h82 : ∀ o, (W8.alloc o).cell? ⟨b4, 2, none⟩ = some (.int .u64 (p.v : Int)) := fun o => (P8.out.2.2.2.2.1.alloc o).cell_ (i := 2) rfl))
            go_meet
            case rel => exact (P8.out.keep ((Only.refl none_ W8).alloc _)).met (byt_cell _ _ 0 rfl _) (by rw [hC.out]) (fun _ => hE.out.symm) (by simp)
        · have E0 := Lib.hid e0
          have HKK : Hid (∀ c bs, putC c p = textCode c p.bs ∧ putB c bs p = textBs c bs p.bs) := hK
          clear e0 hK
          obtain ⟨i0, hi0, hz0, hz1, hz2⟩ := info_parts u8_info
          have hcv : (convert 28 9 (.slice A5 p.bs.length c5)).run Try.prog W4 = .ok (.string ⟨p.bs.toArray⟩) W4 := run_bytes_string _ S _ _ (HB5.out.only P4.out.2.2.2.1 (fun _ _ h => h))
          by_cases hl : 255 < p.bs.length
          · have hC : Hid (putC 0 p = 2) := by rw [Hid, (HKK.out 0 []).1, textCode, if_pos hl]; simp [first_]
            have hcd : (UInt8.ofNat p.bs.length :: p.bs).length ≤ 309 := by simp; omega
            go_wp2_with (first
                | (go_at_call 14; refine (writer_text _ _ _ _ _ _ _ P4.out.1 (by omega) hgl (by simp [ByteArray.size]; omega)).mono ?_; rintro e W8 ⟨rfl, v8, hw8, o8, m8⟩
                   have P8 : Hid (PackP W g (.slice A n' c') bs b4 #[.int .i64 p.kind, .int .i64 p.width, .int .u64 (p.v : Int), .slice A5 p.bs.length c5] (putC c p) v8 (putB c bs p) W8) := P4.out.step (by rw [(HKK.out c bs).1, (HKK.out c bs).2]; exact hw8) o8 m8
                   clear hw8 o8 m8
                   have h83 : W8.cell? ⟨b4, 3, none⟩ = some (.slice A5 p.bs.length c5) := P8.out.2.2.2.2.1.cell_ (i := 3) rfl
                   have h84 : ∀ o, (W8.alloc o).cell? ⟨b4, 3, none⟩ = some (.slice A5 p.bs.length c5) := fun o => (P8.out.2.2.2.2.1.alloc o).cell_ (i := 3) rfl
                   have hg8 : g ≤ W8.heap.size := Nat.le_of_lt P8.out.1.1.lt)
                | (at_builtin; refine wpList_append_byt _ rfl (.tmp 96) (.tmp 98) _ rfl g 5 i0 (.int .u8 0) Try.underlying28 hi0 hz0 hz1 hz2 rfl (.slice (some ⟨W8.heap.size, 0, none⟩) 1 1) [UInt8.ofNat p.bs.length] rfl (own_cell W8 _ _ (byt_len _) hg8 _) S _ p.bs rfl (HB5.out.only (P8.out.2.2.2.1.alloc _) (fun _ _ h => h)) (by simp; omega) (by simp; omega) ?_
                   intro A9 n9 c9 W9 hown9 hgrow9 hmv9
                   have O9 : Hid (Only none_ W8 W9) := ((Only.refl none_ W8).alloc _).grown hgrow9 (fun b hb => .inr (by simp [Value.ownBlock] at hb; omega))
                   have B9 := Lib.hid (Byt.of_own hown9)
                   clear hown9 hgrow9 hmv9))
            go_meet
            case rel => exact (P8.out.keep O9.out).met B9.out (by rw [hC.out]) (fun h => by rw [hC.out] at h; exact absurd h (by decide)) (by simpa using hcd)
          · have hC : Hid (putC 0 p = 0) := by rw [Hid, (HKK.out 0 []).1, textCode, if_neg hl]
            have hcd : (UInt8.ofNat p.bs.length :: p.bs).length ≤ 309 := by simp; omega
            go_wp2_with (first
                | (go_at_call 14; refine (writer_text _ _ _ _ _ _ _ P4.out.1 (by omega) hgl (by simp [ByteArray.size]; omega)).mono ?_; rintro e W8 ⟨rfl, v8, hw8, o8, m8⟩
                   have P8 : Hid (PackP W g (.slice A n' c') bs b4 #[.int .i64 p.kind, .int .i64 p.width, .int .u64 (p.v : Int), .slice A5 p.bs.length c5] (putC c p) v8 (putB c bs p) W8) := P4.out.step (by rw [(HKK.out c bs).1, (HKK.out c bs).2]; exact hw8) o8 m8
                   clear hw8 o8 m8
                   have h83 : W8.cell? ⟨b4, 3, none⟩ = some (.slice A5 p.bs.length c5) := P8.out.2.2.2.2.1.cell_ (i := 3) rfl
                   have h84 : ∀ o, (W8.alloc o).cell? ⟨b4, 3, none⟩ = some (.slice A5 p.bs.length c5) := fun o => (P8.out.2.2.2.2.1.alloc o).cell_ (i := 3) rfl
                   have hg8 : g ≤ W8.heap.size := Nat.le_of_lt P8.out.1.1.lt)
                | (at_builtin; refine wpList_append_byt _ rfl (.tmp 96) (.tmp 98) _ rfl g 5 i0 (.int .u8 0) Try.underlying28 hi0 hz0 hz1 hz2 rfl (.slice (some ⟨W8.heap.size, 0, none⟩) 1 1) [UInt8.ofNat p.bs.length] rfl (own_cell W8 _ _ (byt_len' _ (by omega)) hg8 _) S _ p.bs rfl (HB5.out.only (P8.out.2.2.2.1.alloc _) (fun _ _ h => h)) (by simp; omega) (by simp; omega) ?_
                   intro A9 n9 c9 W9 hown9 hgrow9 hmv9
                   have O9 : Hid (Only none_ W8 W9) := ((Only.refl none_ W8).alloc _).grown hgrow9 (fun b hb => .inr (by simp [Value.ownBlock] at hb; omega))
                   have B9 := Lib.hid (Byt.of_own hown9)
                   clear hown9 hgrow9 hmv9))
            go_meet
            case rel => exact (P8.out.keep O9.out).met B9.out (by rw [hC.out]) (fun _ => by simp [encP, E0.out]) (by simpa using hcd)
        · have E0 := Lib.hid e0
          have HKK : Hid (∀ c bs, putC c p = c ∧ putB c bs p = putS c bs p.bs) := hK
          have hC : Hid (putC 0 p = 0) := (HKK.out 0 []).1
          clear e0 hK
          obtain ⟨i0, hi0, _, hz1, _⟩ := info_parts u8_info
          have hhl : p.bs.length / 2 ≤ p.bs.length := Nat.div_le_self _ _
          obtain ⟨Ah, rh, bh⟩ := byt_hi Try.underlying28 hi0 HB5.out (p.bs.length / 2) hhl ((p.bs.length : Int) / 2) (by omega)
          obtain ⟨Al, Ll, cl, rl, bl⟩ := byt_lo Try.underlying28 hi0 hz1 HB5.out (p.bs.length / 2) hhl ((p.bs.length : Int) / 2) (by omega)
          have BH := Lib.hid bh
          have BL := Lib.hid bl
          have hw0 : IntKind.i64.wrap ((p.bs.length : Int) / 2) = (p.bs.length : Int) / 2 := IntWalk.i64_in _ (by omega)
          clear bh bl hhl
          have HR : Calls Try.prog 15 #[.pointer (some ⟨g, 0, none⟩), .slice (some ⟨W4.heap.size, 0, none⟩) 3 3] (W4.alloc (.cells #[.slice Ah (p.bs.length / 2) c5, .slice none 0 0, .slice Al Ll cl] 28)).drew fun e w' =>
              e = .returned (.pointer (some ⟨g, 0, none⟩)) ∧ ∃ v', PackP W g (.slice A n' c') bs b4 #[.int .i64 p.kind, .int .i64 p.width, .int .u64 (p.v : Int), .slice A5 p.bs.length c5] (putC c p) v' (putB c bs p) w' := by
            have PK := P4.out.keep ((Only.refl none_ W4).alloc (.cells #[.slice Ah (p.bs.length / 2) c5, .slice none 0 0, .slice Al Ll cl] 28)).drew
            have hO := P4.out.2.2.2.1
            have h3p := parts_three (t := 28) ((BH.out.only hO (fun _ _ h => h)).mono (T := fun k => k = W4.heap.size ∨ S k) (fun _ _ h => .inr h)) (Byt.nil W4 _) ((BL.out.only hO (fun _ _ h => h)).mono (T := fun k => k = W4.heap.size ∨ S k) (fun _ _ h => .inr h)) (.inl rfl)
            refine (writer_raw g g c v _ bs _ _ _ PK.1 h3p ?_ ?_ ?_ ?_).mono ?_
            · rintro k (rfl | hk) hf
              · have := P4.out.1.foot_lt hf; omega
              · have h7 := hS k hk; have h8 := P4.out.1.foot_ge (Nat.le_refl _) hf; have := hWs.out; omega
            · simp; omega
            · simp; omega
            · simp
            · rintro e w' ⟨rfl, v', hw', o', m'⟩
              refine ⟨rfl, v', PK.step ?_ o' m'⟩
              rw [(HKK.out c bs).1, (HKK.out c bs).2]
              simpa using hw'
          go_wp2_with fail
          go_region_held3 (fun w' => w'.cell? ⟨b4, 3, none⟩ = some (.slice A5 p.bs.length c5))
            (first | exact P8.out.2.2.2.2.1.cell_ (i := 3) rfl | exact (P4.out.keep (Only.refl none_ W4).drew).2.2.2.2.1.cell_ (i := 3) rfl | exact (P4.out.keep ((Only.refl none_ W4).alloc _).drew).2.2.2.2.1.cell_ (i := 3) rfl)
            (first | (go_at_call 15; refine HR.mono ?_; rintro e W8 ⟨rfl, v8, p8⟩; have P8 := Lib.hid p8; clear p8))
          go_wp2_with fail
          go_meet
          case rel => exact P8.out.met (HB5.out.only P8.out.2.2.2.1 (fun _ _ h => h)) (by rw [hC.out]) (fun _ => by simp [encP, E0.out]) (by omega)
    · go_wp2
      go_ret
      exact ⟨rfl, ho.below (Nat.le_refl _) (fun k hk => hk.elim)⟩

set_option maxRecDepth 100000 in
/-- Too many calls, or too many bytes: the example alone is asked. -/
theorem puts_long (pv : Value) (l : List PutR) (S : Nat → Prop) (W : World) (hp : Puts W S pv l) (h : ¬ fewP l) :
    Calls Try.prog 3 #[pv] W fun e w' => e = .returned (.bool true) ∧ Below W.heap.size W w' := by
  obtain ⟨T, hT, HF⟩ := few_any pv l S W hp
  obtain rfl : T = false := by cases T with
    | false => rfl
    | true => exact absurd (hT.1 rfl) h
  have HP := Lib.hid hp
  clear hT h hp
  go_enter Try.func3, Try.ntmps3
  go_wp2_with fail
  refine (speaks_any _).mono ?_
  rintro e W1 ⟨rfl, o1⟩
  go_wp2_with fail
  refine (HF _ (HP.out.only o1 (fun _ _ h => h))).mono ?_
  rintro e W2 ⟨rfl, o2⟩
  go_wp2_with fail
  refine (speaks_any _).mono ?_
  rintro e W3 ⟨rfl, o3⟩
  go_wp2
  go_ret
  exact ⟨rfl, ((o1.trans o2).trans o3).below (Nat.le_refl _) (fun k hk => hk.elim)⟩
end Go.Proofs.Ytpccimifpkdfiaa
