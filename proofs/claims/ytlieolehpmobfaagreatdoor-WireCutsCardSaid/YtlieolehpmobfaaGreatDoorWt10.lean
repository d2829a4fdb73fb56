/- Texts of mine, one behind the other: RefN, WiR, Frt, EnEo, TbA, Pcs, WiK. No statement of the seat is proved here. -/
import Derived.Test.YtlieolehpmobfaaGreatDoorWt1
import Derived.Test.YtlieolehpmobfaaGreatDoorWt9
import Derived.Test.YtlieolehpmobfaaGreatDoorWt5
import Derived.Test.YtlieolehpmobfaaGreatDoorWt3
import Derived.Test.YtlieolehpmobfaaGreatDoorWt6
import Derived.Lib.AppendZerosOnto
import Derived.Lib.Overlaps
import Derived.Laws.CopyRow
import Derived.Laws.Externs
section
namespace Go.Proofs.YtlieolehpmobfaaGreatDoor
open Go.RowKit
set_option maxRecDepth 100000
theorem byt_at_cell (w : World) (x : Value) (b : UInt8) (hx : x = byt b) (t : TypeId) : Byt (w.alloc (.cells #[x] t)) (fun k => k = w.heap.size) (.slice (some ⟨w.heap.size, 0, none⟩) 1 1) [b] := by
  subst hx
  refine ⟨_, 1, rfl, by simp, by simp [maxLen], by simp, fun _ => ⟨_, 0, rfl, rfl, by simp, fun j hj => ?_⟩⟩
  have hj0 : j = 0 := by simp at hj; omega
  subst hj0
  simp
theorem byt_mod (n k y : Nat) (hy : y = n / 256 ^ k) : Value.int .u8 ((y : Int) % 256) = byt (leByte n k) := by
  have h1 : byt (leByte n k) = .int .u8 ((n / 256 ^ k % 256 : Nat) : Int) := by
    unfold byt leByte
    rw [Nat.pow_mul]
    simp
  rw [h1, hy]
  rfl
set_option maxHeartbeats 400000 in
theorem refNumber_any (n m : Nat) (hn : n < 18446744073709551616) (hm : m ≤ 8) (w : World) :
    Calls Tryz.prog 179 #[.int .u64 (n : Int), .int .i64 (m : Int)] w fun e w' =>
      ∃ A k c T, e = .returned (.tuple #[.slice A k c, .bool T]) ∧ (T = true ↔ n / 2 ^ (8 * m) = 0) ∧ w'.ownsRow w.heap.size 5 1 (.slice A k c) m (byts (leBytes n m)) ∧ Only none_ w w' := by
  obtain ⟨i0, hi0, hz0, hz1, hz2⟩ := info_parts u8_info
  go_enter Tryz.func179, Tryz.ntmps179
  go_wp2
  go_loopw [0, 6, 7] (fun x o i wr => ∃ (k y : Nat) (A : Option Addr) (n' c' : Nat), k ≤ m ∧ i = .int .i64 k ∧ x = .int .u64 (y : Int) ∧ Hid (y = n / 256 ^ k) ∧ y < 18446744073709551616 ∧ o = .slice A n' c' ∧ wr.ownsRow w.heap.size 5 1 (.slice A n' c') (leBytes n k).length (byts (leBytes n k)) ∧ Only none_ w wr) (fun _ _ i _ => m - (intOf i).toNat)
  case atStart =>
    refine ⟨0, n, _, _, _, by omega, rfl, rfl, by simp [Hid], hn, rfl, ?_, (Only.refl none_ w).alloc _⟩
    have := World.ownsRow_made (base := w.heap.size) (e := 5) (size := 1) w #[] 0 (Nat.le_refl _) (by simp [maxLen]) rfl
    simpa [leBytes, byts] using this
  case round =>
    obtain ⟨k, y, A, n', c', hk, rfl, rfl, hy, hy2, rfl, hown, ho⟩ := hrel
    by_cases hlt : k < m
    · have H1 := Lib.hid hown
      have HO := Lib.hid ho
      clear hown ho
      have hb := byt_mod n k y hy.out
      have HB := Lib.hid (byt_at_cell wr _ _ hb 5)
      have hll : (leBytes n k).length + 1 ≤ 140737488355328 := by rw [leBytes_length]; omega
      clear hb
      go_wp2_with (first
        | (at_builtin; refine wpList_append_byt _ rfl (.tmp 14) (.tmp 18) _ rfl w.heap.size 5 i0 (.int .u8 0) Tryz.underlying35 hi0 hz0 hz1 hz2 rfl (.slice A n' c') (leBytes n k) rfl (H1.out.alloc _) _ _ [leByte n k] rfl HB.out hll (by have := HO.out.size; simp; omega) ?_
           intro A2 n2 c2 w2 hown2 hgrow2 hmv2
           have O2 : Hid (Only none_ w w2) := (HO.out.alloc _).grown hgrow2 (fun b hb => .inr (H1.out.lt b hb).1)
           have N2 := Lib.hid hown2
           clear hown2 hgrow2 hmv2))
      have HY : Hid (y / 256 = n / 256 ^ (k + 1)) := by
        rw [Hid, hy.out, Nat.div_div_eq_div_mul, Nat.pow_succ]
      go_roundw
      case rel => exact ⟨k + 1, y / 256, A2, n2, c2, by omega, by go_num, by go_num, HY.out, by omega, rfl, by rw [leBytes_succ]; exact N2.out, O2.out⟩
      case measure => simp [intOf]; omega
    · obtain rfl : k = m := by omega
      have H1 := Lib.hid hown
      have HO := Lib.hid ho
      have HT : Hid (((y : Int) == 0) = true ↔ n / 2 ^ (8 * k) = 0) := by
        rw [Hid, Nat.pow_mul, ← hy.out]
        simp
      clear hown ho
      go_wp2
      go_ret2
      refine ⟨A, n', c', _, rfl, ?_, by have := H1.out; rw [leBytes_length] at this; exact this, HO.out⟩
      exact HT.out
end Go.Proofs.YtlieolehpmobfaaGreatDoor
end
section
namespace Go.Proofs.YtlieolehpmobfaaGreatDoor
open Go.RowKit
set_option linter.all false
set_option maxRecDepth 100000
def spM : Ms := ⟨8, 0, 0, false, [3, 7], 0, 0, mkTop, [], []⟩
theorem spM_good : wGood spM = 0 := by decide +kernel
theorem spM_enc : wEnc spM = [2, 3, 7] := by decide +kernel
set_option maxHeartbeats 1600000 in
theorem wi_speaks (w : World) (hk : Kd w) : Calls Tryz.prog 13 #[] w fun E w' => E = .returned (.bool true) ∧ Only none_ w w' := by
  have O := Lib.hid ((Only.refl none_ w).alloc (.cells #[.int .i64 3, .int .i64 7] 3))
  have HL : Hid (Ml (fun _ => True) spM (.slice (some ⟨w.heap.size, 0, none⟩) 2 2) (.slice none 0 0) (.slice none 0 0) (w.alloc (.cells #[.int .i64 3, .int .i64 7] 3))) :=
    ⟨(cel_made w 3 1 2 #[.int .i64 3, .int .i64 7] rfl (by simp [maxLen])).mono (fun _ _ _ => trivial), Cel.nil _ _ _, Cel.nil _ _ _⟩
  have HE := Lib.hid (wi_encode_ok _ spM _ _ _ _ (hk.keep O.out) HL.out (by decide) spM_good (by decide))
  rw [spM_enc] at HE
  clear hk
  go_enter Tryz.func13, Tryz.ntmps13
  go_wp2_with (first
    | (go_at_call 16; refine HE.out.mono ?_; rintro E w1 ⟨A, n, c, rfl, ow1, o1⟩
       have O1 := Lib.hid (O.out.trans o1)
       have k1 := run_bytes_string w1 _ _ _ (Byt.of_own ow1)
       clear ow1 o1))
  go_ret
  exact ⟨rfl, O1.out⟩
end Go.Proofs.YtlieolehpmobfaaGreatDoor
end
section
namespace Go.Proofs.YtlieolehpmobfaaGreatDoor
open Go.RowKit
set_option linter.all false
section
variable {P : Program} {S : World → Prop} {R : World → World → Prop}
theorem unl_set_eq {n : Nat} {listed : Array Bool} {i : Nat} (hin : i < n) (hs : n ≤ listed.size) (h : listed.getD i true = false) : unl n (listed.setIfInBounds i true) + 1 = unl n listed := by
  unfold unl
  have e : ∀ m, i < m → (List.range m).countP (fun j => !(listed.setIfInBounds i true).getD j true) + 1 = (List.range m).countP fun j => !listed.getD j true := by
    intro m
    induction m with
    | zero => intro h; omega
    | succ m ih =>
      intro hm
      rw [List.range_succ, List.countP_append, List.countP_append]
      by_cases h1 : i < m
      · have hne : i ≠ m := by omega
        have := ih h1
        simp only [List.countP_singleton, getD_set_ne true hne]
        omega
      · obtain rfl : i = m := by omega
        have e1 : (List.range i).countP (fun j => !(listed.setIfInBounds i true).getD j true) = (List.range i).countP fun j => !listed.getD j true := by
          refine List.countP_congr fun j hj => ?_
          have : i ≠ j := by have := List.mem_range.1 hj; omega
          rw [getD_set_ne true this]
        have e2 : (listed.setIfInBounds i true).getD i true = true := by
          simp [Array.getD_eq_getD_getElem?, Array.getElem?_setIfInBounds]
          split <;> simp
        simp only [List.countP_singleton, e1, e2, h]
        simp
  exact e n hin
theorem wanted_take {l : List Oper} {n m : Nat} {o : Oper} (hs : frSlot (l.take n) m = true) (ho : o ∈ l.take n) (t : Array Value) : Region.wanted o (yielded l.toArray t) = Region.wanted o (yielded (l.take n).toArray t) := by
  simp only [frSlot, List.all_eq_true, Bool.and_eq_true] at hs
  have h1 := (hs o ho).2
  unfold Region.wanted
  cases hg : o.guard with
  | none => rfl
  | some jb =>
    obtain ⟨j, b⟩ := jb
    rw [hg] at h1
    simp only at h1 ⊢
    cases hj : (l.take n)[j]? with
    | none => rw [hj] at h1; cases h1
    | some oj =>
      have hl : l[j]? = some oj := by
        rw [List.getElem?_take] at hj
        split at hj
        · exact hj
        · cases hj
      unfold yielded
      simp only [List.getElem?_toArray, hj, hl]
theorem frt_wp {l : List Oper} {n : Nat} {F : (Nat → Value) → Act} {a : Act} {Q : Exit → Act → World → Prop} {ps : List Pst} (hnl : n < l.length) (hd : frDst (l.take n) = true) (ha : frAft (l.take n) 0 = true) (hsl : frSlot (l.take n) a.tmps.size = true) (hF : ∀ x, putsL x (l.take n) 0 a = F x) (hlen : ps.length = n)
    (hsk : Region.sinkB .any l.toArray n = true) (hch : Region.chainB .any l.toArray n = true) (hsq : Region.seqB .any l.toArray (l.length - n) n (Array.replicate n true ++ Array.replicate (l.length - n) false) = true)
    (hO : ∀ i o p, (l.take n)[i]? = some o → ps[i]? = some p → (∀ v w w', S w → S w' → R w w' → p v w → p v w') ∧ Owed P S R F (ps.take i) o p)
    (hQ : ∀ x w, S w → knEnd x w ps 0 → wpList P l.toArray Q (l.drop n) (F x) w) :
    ∀ (f : Nat) (listed : Array Bool) (x : Nat → Value) (w : World), unl n listed = f → HeadInv .any l.toArray n listed → S w → (∀ (j : Nat) (q : Pst), listed.getD j false = true → ps[j]? = some q → q (x j) w) → wpAny P .any l.toArray Q (f + (l.length - n)) listed (F x) w := by
  have hln : (l.take n).length = n := by rw [List.length_take]; omega
  intro f
  induction f with
  | zero =>
    intro listed x w hu inv hS hk
    have hall : ∀ i, i < n → listed.getD i false = true := fun i hi => by
      have h1 := unl_zero hu i hi
      cases h2 : listed.getD i false with
      | true => rfl
      | false => rw [getD_in (by have := inv.size; simp at this; omega) h2] at h1; cases h1
    have hA : listed = Array.replicate n true ++ Array.replicate (l.length - n) false := by
      have hsz : listed.size = l.length := by have := inv.size; simpa using this
      apply Array.ext
      · simp [hsz]; omega
      · intro i h1 h2
        have hget : listed[i] = listed.getD i false := by simp [Array.getD_eq_getD_getElem?, h1]
        rw [hget]
        rcases Nat.lt_or_ge i n with hi | hi
        · rw [hall i hi, Array.getElem_append_left (by simpa using hi)]; simp
        · rw [getD_both (inv.tail i hi (by simp; omega)), Array.getElem_append_right (by simpa using hi)]; simp
    rw [Nat.zero_add]
    have := wpAny_of_seq (md := .any) (P := P) (Q' := Q) (ops := l.toArray) (l.drop n) n listed (F x) w (fun j => by simp [List.getElem?_drop]) (by rw [List.length_drop, hA]; exact hsq) (hQ x w hS (knEnd_of x w ps 0 fun j q hq => by
      have hj : j < ps.length := (List.getElem?_eq_some_iff.1 hq).1
      rw [Nat.zero_add]
      exact hk j q (hall j (by omega)) hq))
    rwa [List.length_drop] at this
  | succ f ih =>
    intro listed x w hu inv hS hk
    have hsz : listed.size = l.length := by have := inv.size; simpa using this
    have hun : ∃ i, i < n ∧ listed.getD i true = false := by
      have h0 : 0 < unl n listed := by omega
      obtain ⟨i, hi, hp⟩ := List.countP_pos_iff.1 h0
      exact ⟨i, List.mem_range.1 hi, by simpa using hp⟩
    rw [show f + 1 + (l.length - n) = (f + (l.length - n)) + 1 by omega]
    refine ⟨fun h => ?_, fun i hi => ?_⟩
    · exfalso
      have : ∀ i, i < n → listed.getD i false = true := by
        intro i
        induction i using Nat.strongRecOn with
        | _ i ihi =>
          intro hi
          cases hl : listed.getD i false with
          | true => rfl
          | false =>
            have hm : i ∈ Region.ready .any l.toArray listed := by
              refine mem_ready.2 ⟨getD_in (by omega) hl, l[i], by simp, fun e he _ => ?_⟩
              have := frAft_at (l.take n) 0 i l[i] ha (by rw [List.getElem?_take, if_pos hi]; exact List.getElem?_eq_getElem (by omega)) e he
              exact ihi e.on (by omega) (by omega)
            rw [h] at hm
            cases hm
      obtain ⟨i, hi, hf⟩ := hun
      have h1 := getD_both hf
      rw [this i hi] at h1
      cases h1
    · obtain ⟨h1, o, ho, hw⟩ := mem_ready.1 hi
      have hin : i < n := by
        rcases Nat.lt_or_ge i n with h | h
        · exact h
        · obtain ⟨j, hj, hf⟩ := hun
          exact absurd hi (tail_waits hsk hch (by simpa using hnl) inv _ j rfl hj hf i h)
      have hol : (l.take n)[i]? = some o := by rw [List.getElem?_take, if_pos hin]; simpa using ho
      have hp : ps[i]? = some ps[i] := List.getElem?_eq_getElem (by omega)
      obtain ⟨_, how⟩ := hO i o _ hol hp
      have hkk : knAll (ps.take i) x w o.after.toList := knAll_of ps _ x w (fun j q hq => by
        rw [List.getElem?_take] at hq
        split at hq
        · exact hq
        · cases hq) _ fun e he hb q hq => hk e.on q (hw e (by simpa using he) hb) hq
      have step : ∀ v w', S w' → R w w' → ps[i] v w' → wpAny P .any l.toArray Q (f + (l.length - n)) (listed.setIfInBounds i true) ((F x).put o.dst v) w' := by
        intro v w' hS' hR hpv
        have e : (F x).put o.dst v = F (updN x i v) := by
          have := puts_set x v (l.take n) 0 i a o hd hol
          rw [Nat.zero_add] at this
          rw [← hF, this, hF]
        rw [e]
        refine ih _ _ _ (by have := unl_set_eq hin (by omega) h1; omega) (inv.set hi hin) hS' (fun j q hj hq => ?_)
        by_cases hji : j = i
        · subst hji
          rw [hp] at hq
          injection hq with hq
          subst hq
          simp only [updN, if_true]
          exact hpv
        · simp only [updN, if_neg hji]
          have hj' : listed.getD j false = true := by
            have : i ≠ j := fun e => hji e.symm
            rwa [getD_set_ne false this] at hj
          have hjl : j < n := by
            have := (List.getElem?_eq_some_iff.1 hq).1
            omega
          exact (hO j l[j] q (by rw [List.getElem?_take, if_pos hjl]; exact List.getElem?_eq_getElem (by omega)) hq).1 _ w w' hS hS' hR (hk j q hj' hq)
      unfold wpOp
      simp only [ho]
      have hgot : Got P S R w ps[i] ((execOp (F x).eval o).run P w) → o.wp P (F x) w (wpAny P .any l.toArray Q (f + (l.length - n)) (listed.setIfInBounds i true)) Q := by
        intro hg
        unfold Oper.wp
        generalize (execOp (F x).eval o).run P w = r at hg ⊢
        cases r with
        | halt z w' => exact hg.elim
        | ok n w' =>
          cases n <;> simp only [Got] at hg <;> simp only [Oper.upon]
          case value u => exact step u w' hg.2.1 hg.2.2 hg.1
          case skip => exact step undef w' hg.2.1 hg.2.2 hg.1
          case enter g args => exact hg.mono fun e w'' ⟨v, he, h1, h2, h3⟩ => by subst he; exact step v w'' h2 h3 h1
      have how := how x w hS hkk
      have hmem : o ∈ l.take n := List.mem_of_getElem? hol
      cases hgd : o.guard with
      | none =>
        rw [hgd] at how
        rw [if_pos (by simp [Region.wanted, hgd])]
        exact .inl (hgot how)
      | some jb =>
        obtain ⟨j, b⟩ := jb
        rw [hgd] at how
        have hw2 := puts_want (x := x) (a := a) hd hsl hmem hgd
        rw [hF, ← wanted_take hsl hmem] at hw2
        rcases how with ⟨e, hg⟩ | ⟨e, hg, hr⟩
        · rw [if_pos (hw2.1 e)]
          exact .inl (hgot hg)
        · rw [if_neg (by rw [hw2.2 e]; simp)]
          exact step undef w hS hr hg
def frTail (l : List Oper) (n m : Nat) : Bool :=
  decide (n < l.length) && frDst (l.take n) && frAft (l.take n) 0 && frSlot (l.take n) m && Region.sinkB .any l.toArray n && Region.chainB .any l.toArray n && Region.seqB .any l.toArray (l.length - n) n (Array.replicate n true ++ Array.replicate (l.length - n) false)
theorem wp_region_free_tail (S : World → Prop) (R : World → World → Prop) {id : Nat} {Q : Exit → Act → World → Prop} {a : Act} {w : World} {l : List Oper} {F : (Nat → Value) → Act} (hm : P.follows .mixedOrders = true) (n m : Nat) (hn : a.tmps.size = m) (hB : frTail l n m = true) (hF : ∀ x, putsL x (l.take n) 0 a = F x) (hS : S w.drew)
    (h : frList P S R F (fun ps => ∀ x w', S w' → knEnd x w' ps 0 → wpList P l.toArray Q (l.drop n) (F x) w') (l.take n) []) : (Code.region id l.toArray true).wp P Q a w := by
  simp only [frTail, Bool.and_eq_true, decide_eq_true_eq] at hB
  obtain ⟨⟨⟨⟨⟨⟨b1, b2⟩, b3⟩, b4⟩, b5⟩, b6⟩, b7⟩ := hB
  obtain ⟨qs, k1, k2, k3⟩ := fr_all (l.take n) [] h
  rw [List.nil_append] at k1
  have hln : (l.take n).length = n := by rw [List.length_take]; omega
  refine wp_region_any hm ?_
  have hx : F (oldV (l.take n) 0 a) = a := by
    rw [← hF]
    refine puts_old a _ (l.take n) 0 fun i o d hi hd => ?_
    simp only [oldV, Nat.zero_add, Nat.sub_zero, hi, Option.bind_some, hd]
  have inv0 : HeadInv .any l.toArray n (Array.replicate l.toArray.size false) :=
    ⟨by simp, fun j oj _ hl => (by rw [getD_replicate_false] at hl; cases hl), fun t _ ht => getD_in (by simpa using ht) (getD_replicate_false _ _)⟩
  have hu : unl n (Array.replicate l.toArray.size false) = n := by
    unfold unl
    have : (List.range n).countP (fun i => !(Array.replicate l.toArray.size false).getD i true) = (List.range n).length := by
      refine List.countP_eq_length.2 fun i hi => ?_
      have hi := List.mem_range.1 hi
      simp [Array.getD_eq_getD_getElem?, Array.getElem?_replicate]
      rw [if_pos (by omega)]; rfl
    rw [this, List.length_range]
  have := frt_wp (P := P) (S := S) (R := R) (F := F) (a := a) (Q := Q) b1 b2 b3 (hn ▸ b4) hF (by rw [k2, hln]) b5 b6 b7 (fun i o p hi hp => by have := k3 i o p hi hp; rwa [List.nil_append] at this) k1 n _ (oldV (l.take n) 0 a) w.drew hu inv0 hS (fun j q hj _ => by rw [getD_replicate_false] at hj; cases hj)
  rw [hx, show n + (l.length - n) = l.toArray.size by simp; omega] at this
  exact this
theorem got_value {w w' : World} {p : Pst} {v : Value} {z : Result Next} (hz : z = .ok (.value v) w') (h : p v w' ∧ S w' ∧ R w w') : Got P S R w p z := by
  subst hz; exact h
end
end Go.Proofs.YtlieolehpmobfaaGreatDoor
end
section
namespace Go.Proofs.YtlieolehpmobfaaGreatDoor
open Go.RowKit
set_option linter.all false
set_option maxRecDepth 100000
set_option maxHeartbeats 1600000 in
theorem en_of (e : En) (w : World) :
    Calls Tryz.prog 65 #[.agg #[.string e.k, .string e.v, .bool e.d, .int .i64 e.s.c, .int .i64 e.s.s, .int .i64 e.a.c, .int .i64 e.a.s, .int .i64 e.p, .int .i64 e.g]] w fun E w' => E = .returned (.agg #[.string e.k, .string e.v, .bool e.d, .int .i64 e.s.c, .int .i64 e.s.s, .int .i64 e.a.c, .int .i64 e.a.s, .int .i64 e.p, .int .i64 e.g]) ∧ Only none_ w w' := by
  have O := Lib.hid (((Only.refl none_ w).alloc (.cells #[.string e.k, .string e.v, .bool e.d, .int .i64 e.s.c, .int .i64 e.s.s, .int .i64 e.a.c, .int .i64 e.a.s, .int .i64 e.p, .int .i64 e.g] 123)).alloc (.cells #[.string enZero.k, .string enZero.v, .bool enZero.d, .int .i64 enZero.s.c, .int .i64 enZero.s.s, .int .i64 enZero.a.c, .int .i64 enZero.a.s, .int .i64 enZero.p, .int .i64 enZero.g] 147))
  have B := Blk.new (w.alloc (.cells #[.string e.k, .string e.v, .bool e.d, .int .i64 e.s.c, .int .i64 e.s.s, .int .i64 e.a.c, .int .i64 e.a.s, .int .i64 e.p, .int .i64 e.g] 123)) 147 #[.string enZero.k, .string enZero.v, .bool enZero.d, .int .i64 enZero.s.c, .int .i64 enZero.s.s, .int .i64 enZero.a.c, .int .i64 enZero.a.s, .int .i64 enZero.p, .int .i64 enZero.g]
  rw [World.size_alloc] at B
  have T : Hid (Bo ((w.alloc (.cells #[.string e.k, .string e.v, .bool e.d, .int .i64 e.s.c, .int .i64 e.s.s, .int .i64 e.a.c, .int .i64 e.a.s, .int .i64 e.p, .int .i64 e.g] 123)).alloc (.cells #[.string enZero.k, .string enZero.v, .bool enZero.d, .int .i64 enZero.s.c, .int .i64 enZero.s.s, .int .i64 enZero.a.c, .int .i64 enZero.a.s, .int .i64 enZero.p, .int .i64 enZero.g] 147)) w.heap.size (w.heap.size + 1) 123 147 e enZero ((w.alloc (.cells #[.string e.k, .string e.v, .bool e.d, .int .i64 e.s.c, .int .i64 e.s.s, .int .i64 e.a.c, .int .i64 e.a.s, .int .i64 e.p, .int .i64 e.g] 123)).alloc (.cells #[.string enZero.k, .string enZero.v, .bool enZero.d, .int .i64 enZero.s.c, .int .i64 enZero.s.s, .int .i64 enZero.a.c, .int .i64 enZero.a.s, .int .i64 enZero.p, .int .i64 enZero.g] 147))) :=
    ⟨(Blk.new w _ _).alloc _, B, Only.refl _ _⟩
  clear B
  simp only [enZero, stZero] at O T
  go_enter Tryz.func65, Tryz.ntmps65
  go_wp2_with fail
  have hne : w.heap.size ≠ w.heap.size + 1 := by omega
  have hge : w.heap.size ≤ w.heap.size + 1 := by omega
  have HN := Lib.hid hne
  have HGE := Lib.hid hge
  clear hne hge
  generalize (w.alloc _).alloc _ = W2 at *
  have t2 := T.out.keep (Only.refl none_ W2).drew
  (refine wp_region_steady (fun w' => Bo W2 w.heap.size (w.heap.size + 1) 123 147 e enZero w') 16 (by kernel_rfl) (by kernel_rfl) (t2) ?_; simp only [List.take_succ_cons, List.take_zero, List.drop_succ_cons, List.drop_zero])
  repeat (first
    | (refine sd_value (v := ?_) (by rfl) (fun w0 hS => ?_) ?_; rotate_left; (· (have hc := hS.cells; go_simp; try (with_reducible rfl))); try simp only [Act.put, List.setIfInBounds_toArray, List.set_cons_zero, List.set_cons_succ])
    | (refine sd_call (v := ?_) (f := 149) (args := ?_) (by rfl) (fun w0 hS => ?_) (fun w0 hS => ?_) ?_; rotate_left 2; (· (have hc := hS.cells; go_simp; try (with_reducible rfl))); (· (refine (st_of _ _ _).mono ?_; rintro E w2 ⟨rfl, o2⟩; refine ⟨?_, hS.keep o2⟩; rfl)); try simp only [Act.put, List.setIfInBounds_toArray, List.set_cons_zero, List.set_cons_succ]))
  refine sd_nil ?_
  intro w5 t5
  have q5 := nine_of t5.y
  have z5 := frozen9 t5.y
  simp only [enZero, stZero] at q5
  go_wp2_with fail
  exact bodyPost_ret (results_cell_row rfl _ _ (w.heap.size + 1) 147 _ (0, 0) _ rfl (fill9_blk t5.y _ _ _ _ _ _ _ _ _) Tryz.underlying147 rfl (by kernel_rfl)) rfl ⟨rfl, fill9_only (O.out.trans t5.ho) (.inr HGE.out) _ _ _ _ _ _ _ _ _⟩
end Go.Proofs.YtlieolehpmobfaaGreatDoor
end
section
namespace Go.Proofs.YtlieolehpmobfaaGreatDoor
open Go.RowKit
set_option linter.all false
section
variable {P : Program}
structure Rw_ (w : World) (base g : Nat) (e : TypeId) (k cap : Nat) (cur : List Value) : Prop where
  ge : base ≤ g
  bk : w.heap[g]? = some (.cells cur.toArray e (0, 0))
  cm : cap ≤ maxLen
  cs : cur.length = cap * k
theorem Rw_.own {w : World} {base g : Nat} {e : TypeId} {k cap : Nat} {cur : List Value} (h : Rw_ w base g e k cap cur) (n : Nat) (xs : List Value) (hn : n ≤ cap) (hx : cur.take (n * k) = xs) :
    w.ownsRow base e k (.slice (some ⟨g, 0, none⟩) n cap) n xs := by
  refine ⟨?_, .inr ⟨g, cap, cur.toArray, rfl, h.ge, h.bk, hn, h.cm, by simpa using h.cs, by simpa using hx⟩⟩
  rw [← hx, List.length_take, h.cs]
  exact Nat.min_eq_left (Nat.mul_le_mul_right k hn)
theorem Rw_.set {w : World} {base g : Nat} {e : TypeId} {k cap : Nat} {cur cur' : List Value} (h : Rw_ w base g e k cap cur) (hl : cur'.length = cur.length) : Rw_ (w.setRow g cur'.toArray) base g e k cap cur' :=
  ⟨h.ge, setRow_heap w g _ cur'.toArray e (0, 0) h.bk, h.cm, hl.trans h.cs⟩
theorem Rw_.cell {w : World} {base g : Nat} {e : TypeId} {k cap : Nat} {cur : List Value} (h : Rw_ w base g e k cap cur) (j : Nat) : w.cell? ⟨g, j, none⟩ = cur[j]? := by
  rw [cell_of_row w g j _ e (0, 0) h.bk]; simp
theorem Rw_.drew {w : World} {base g : Nat} {e : TypeId} {k cap : Nat} {cur : List Value} (h : Rw_ w base g e k cap cur) : Rw_ w.drew base g e k cap cur := ⟨h.ge, h.bk, h.cm, h.cs⟩
theorem Rw_.lt {w : World} {base g : Nat} {e : TypeId} {k cap : Nat} {cur : List Value} (h : Rw_ w base g e k cap cur) : g < w.heap.size := Blk.lt (t := e) h.bk
theorem Rw_.only {w w' : World} {base g : Nat} {e : TypeId} {k cap : Nat} {cur : List Value} {S : Nat → Prop} (h : Rw_ w base g e k cap cur) (o : Only S w w') (hS : ¬ S g) : Rw_ w' base g e k cap cur := ⟨h.ge, (o.block g h.lt hS).trans h.bk, h.cm, h.cs⟩
end
end Go.Proofs.YtlieolehpmobfaaGreatDoor
end
section
namespace Go.Proofs.YtlieolehpmobfaaGreatDoor
open Go.RowKit
set_option linter.all false
set_option maxRecDepth 100000
theorem enRow_one (e : En) : ∀ u ∈ enRow e, u.oneCell' = true := by
  intro u hu; simp [enRow] at hu; rcases hu with rfl | rfl | rfl | rfl | rfl | rfl | rfl | rfl | rfl <;> rfl
theorem rent_info : (Tryz.prog.info? 123).map (fun i => (i.zero, i.size, i.bytes)) = some (some (.agg #[.string ⟨#[]⟩, .string ⟨#[]⟩, .bool false, .int .i64 0, .int .i64 0, .int .i64 0, .int .i64 0, .int .i64 0, .int .i64 0]), 9, 88) := by kernel_rfl
structure Tz (w : World) (b1 b2 b3 : Nat) (m : Ms) (vp vm ve um ue : Value) (dm : List Mk) (de : List En) (X : World) : Prop where
  x1 : Blk X b1 45 #[.int .i64 m.kd, .int .i64 m.pe, .int .i64 m.hp, .bool m.hi, vp, .int .i64 m.nu, .int .u64 (m.su : Int), .int .i64 m.mr.a.c, .int .i64 m.mr.a.s, .string m.mr.k, vm, ve]
  x2 : Blk X b2 31 #[.int .i64 0, .int .i64 0, .int .i64 0, .bool false, .slice none 0 0, .int .i64 0, .int .u64 0, .int .i64 0, .int .i64 0, .string ⟨#[]⟩, .slice none 0 0, .slice none 0 0]
  x3 : Blk X b3 31 #[.int .i64 m.kd, .int .i64 m.pe, .int .i64 m.hp, .bool m.hi, vp, .int .i64 m.nu, .int .u64 (m.su : Int), .int .i64 m.mr.a.c, .int .i64 m.mr.a.s, .string m.mr.k, um, ue]
  om : X.ownsRow w.heap.size 27 3 um dm.length (dm.flatMap mkI)
  oe : X.ownsRow w.heap.size 123 9 ue de.length (de.flatMap enRow)
  ho : Only none_ w X
  ge : w.heap.size ≤ b1 ∧ w.heap.size ≤ b2 ∧ w.heap.size ≤ b3 ∧ b1 ≠ b2 ∧ b1 ≠ b3 ∧ b2 ≠ b3
section
variable {w X X' : World} {b1 b2 b3 : Nat} {m : Ms} {vp vm ve um ue um' ue' : Value} {dm : List Mk} {de : List En}
theorem Tz.keep (h : Tz w b1 b2 b3 m vp vm ve um ue dm de X) (o : Only none_ X X') : Tz w b1 b2 b3 m vp vm ve um ue dm de X' :=
  ⟨h.x1.only o (fun h => h), h.x2.only o (fun h => h), h.x3.only o (fun h => h), owns_only h.om o (fun _ _ h => h), owns_only h.oe o (fun _ _ h => h), h.ho.trans o, h.ge⟩
theorem Tz.mark (h : Tz w b1 b2 b3 m vp vm ve um ue dm de X) (x : Mk) {n : Nat} {p : List Value} (own : X'.ownsRow w.heap.size 27 3 um' n p) (hn : n = dm.length + 1) (hp : p = dm.flatMap mkI ++ mkI x) (hg : X.grownBy X' um.ownBlock) :
    Tz w b1 b2 b3 m vp vm ve um' ue (dm ++ [x]) de (X'.setCell ⟨b3, 10, none⟩ um') := by
  subst hn hp
  have o : Only (fun b => um.ownBlock = some b) X X' := (Only.refl _ X).grown hg (fun k hk => .inl hk)
  have y1 := h.x1.only o (fun e => own_blk_ne h.om h.x1 (by decide) e)
  have y2 := h.x2.only o (fun e => own_blk_ne h.om h.x2 (by decide) e)
  have y3 := h.x3.only o (fun e => own_blk_ne h.om h.x3 (by decide) e)
  have ye := owns_only h.oe o (fun b hb e => own_apart h.oe h.om (by decide) b hb e)
  have oc : Only (one b3) X' (X'.setCell ⟨b3, 10, none⟩ um') := (Only.refl (one b3) X').setCell (p := ⟨b3, 10, none⟩) (.inl rfl) um'
  have g := h.ge
  refine ⟨y1.only oc (fun e => by have e' : b1 = b3 := e; exact g.2.2.2.2.1 e'), y2.only oc (fun e => by have e' : b2 = b3 := e; exact g.2.2.2.2.2 e'), by simpa using y3.set_ 10 um', ?_, owns_only ye oc (fun b hb e => by have e' : b = b3 := e; subst e'; exact own_blk_ne ye y3 (by decide) hb),
    (h.ho.grown hg (fun k hk => .inr (h.om.lt k hk).1)).setCell (p := ⟨b3, 10, none⟩) (.inr g.2.2.1) um', g⟩
  have z := owns_only own oc (fun b hb e => by have e' : b = b3 := e; subst e'; exact own_blk_ne own y3 (by decide) hb)
  rw [List.length_append, List.flatMap_append]
  simpa using z
theorem Tz.entry (h : Tz w b1 b2 b3 m vp vm ve um ue dm de X) (x : En) {n : Nat} {p : List Value} (own : X'.ownsRow w.heap.size 123 9 ue' n p) (hn : n = de.length + 1) (hp : p = de.flatMap enRow ++ enRow x) (hg : X.grownBy X' ue.ownBlock) :
    Tz w b1 b2 b3 m vp vm ve um ue' dm (de ++ [x]) (X'.setCell ⟨b3, 11, none⟩ ue') := by
  subst hn hp
  have o : Only (fun b => ue.ownBlock = some b) X X' := (Only.refl _ X).grown hg (fun k hk => .inl hk)
  have y1 := h.x1.only o (fun e => own_blk_ne h.oe h.x1 (by decide) e)
  have y2 := h.x2.only o (fun e => own_blk_ne h.oe h.x2 (by decide) e)
  have y3 := h.x3.only o (fun e => own_blk_ne h.oe h.x3 (by decide) e)
  have ye := owns_only h.om o (fun b hb e => own_apart h.om h.oe (by decide) b hb e)
  have oc : Only (one b3) X' (X'.setCell ⟨b3, 11, none⟩ ue') := (Only.refl (one b3) X').setCell (p := ⟨b3, 11, none⟩) (.inl rfl) ue'
  have g := h.ge
  refine ⟨y1.only oc (fun e => by have e' : b1 = b3 := e; exact g.2.2.2.2.1 e'), y2.only oc (fun e => by have e' : b2 = b3 := e; exact g.2.2.2.2.2 e'), by simpa using y3.set_ 11 ue', owns_only ye oc (fun b hb e => by have e' : b = b3 := e; subst e'; exact own_blk_ne ye y3 (by decide) hb), ?_,
    (h.ho.grown hg (fun k hk => .inr (h.oe.lt k hk).1)).setCell (p := ⟨b3, 11, none⟩) (.inr g.2.2.1) ue', g⟩
  have z := owns_only own oc (fun b hb e => by have e' : b = b3 := e; subst e'; exact own_blk_ne own y3 (by decide) hb)
  rw [List.length_append, List.flatMap_append]
  simpa using z
end
set_option maxHeartbeats 6400000 in
theorem lw_to (S : Nat → Prop) (m : Ms) (vp vm ve : Value) (w : World) (hl : Ml S m vp vm ve w) (hf : m.ms.length ≤ 1000 ∧ m.es.length ≤ 1000) :
    Calls Tryz.prog 25 #[.agg #[.int .i64 m.kd, .int .i64 m.pe, .int .i64 m.hp, .bool m.hi, vp, .int .i64 m.nu, .int .u64 (m.su : Int), .int .i64 m.mr.a.c, .int .i64 m.mr.a.s, .string m.mr.k, vm, ve]] w fun e w' => ∃ um ue, e = .returned (.agg #[.int .i64 m.kd, .int .i64 m.pe, .int .i64 m.hp, .bool m.hi, vp, .int .i64 m.nu, .int .u64 (m.su : Int), .int .i64 m.mr.a.c, .int .i64 m.mr.a.s, .string m.mr.k, um, ue]) ∧ Ml (fun b => S b ∨ w.heap.size ≤ b) m vp um ue w' ∧ Only none_ w w' := by
  have HL := Lib.hid (fun (w' : World) (o : Only none_ w w') => hl.keep o)
  obtain ⟨⟨A1, c1, ea, _⟩, ⟨A2, c2, eb, _⟩, ⟨A3, c3, ec, _⟩⟩ := hl
  obtain ⟨n1, hn1⟩ : ∃ n, m.ps.length = n := ⟨_, rfl⟩
  obtain ⟨n2, hn2⟩ : ∃ n, m.ms.length = n := ⟨_, rfl⟩
  obtain ⟨n3, hn3⟩ : ∃ n, m.es.length = n := ⟨_, rfl⟩
  rw [hn1] at ea
  rw [hn2] at eb hf
  rw [hn3] at ec hf
  subst ea eb ec
  obtain ⟨hf2, hf3⟩ := hf
  have N2 := Lib.hid hn2
  have N3 := Lib.hid hn3
  clear hn1 hn2 hn3
  obtain ⟨i0, hi0, hz0, hz1, hz2⟩ := rinfo_parts rmark_info
  obtain ⟨j0, hj0, hy0, hy1, hy2⟩ := rinfo_parts rent_info
  obtain ⟨w0, hw0⟩ : ∃ w0, (w.alloc (.cells #[.int .i64 m.kd, .int .i64 m.pe, .int .i64 m.hp, .bool m.hi, .slice A1 n1 c1, .int .i64 m.nu, .int .u64 (m.su : Int), .int .i64 m.mr.a.c, .int .i64 m.mr.a.s, .string m.mr.k, .slice A2 n2 c2, .slice A3 n3 c3] 45)).alloc (.cells #[.int .i64 0, .int .i64 0, .int .i64 0, .bool false, .slice none 0 0, .int .i64 0, .int .u64 0, .int .i64 0, .int .i64 0, .string ⟨#[]⟩, .slice none 0 0, .slice none 0 0] 31) = w0 := ⟨_, rfl⟩
  have X1 : Hid (Blk w0 w.heap.size 45 #[.int .i64 m.kd, .int .i64 m.pe, .int .i64 m.hp, .bool m.hi, .slice A1 n1 c1, .int .i64 m.nu, .int .u64 (m.su : Int), .int .i64 m.mr.a.c, .int .i64 m.mr.a.s, .string m.mr.k, .slice A2 n2 c2, .slice A3 n3 c3]) := by rw [Hid, ← hw0]; exact (Blk.new w _ _).alloc _
  have X2 : Hid (Blk w0 (w.heap.size + 1) 31 #[.int .i64 0, .int .i64 0, .int .i64 0, .bool false, .slice none 0 0, .int .i64 0, .int .u64 0, .int .i64 0, .int .i64 0, .string ⟨#[]⟩, .slice none 0 0, .slice none 0 0]) := by
    rw [Hid, ← hw0]; have := Blk.new (w.alloc (.cells #[.int .i64 m.kd, .int .i64 m.pe, .int .i64 m.hp, .bool m.hi, .slice A1 n1 c1, .int .i64 m.nu, .int .u64 (m.su : Int), .int .i64 m.mr.a.c, .int .i64 m.mr.a.s, .string m.mr.k, .slice A2 n2 c2, .slice A3 n3 c3] 45)) 31 #[.int .i64 0, .int .i64 0, .int .i64 0, .bool false, .slice none 0 0, .int .i64 0, .int .u64 0, .int .i64 0, .int .i64 0, .string ⟨#[]⟩, .slice none 0 0, .slice none 0 0]; rwa [World.size_alloc] at this
  have O0 : Hid (Only none_ w w0) := by rw [Hid, ← hw0]; exact ((Only.refl none_ w).alloc _).alloc _
  have Z0 : Hid (w0.heap.size = w.heap.size + 2) := by rw [Hid, ← hw0]; simp
  have HW := Lib.hid hw0
  clear hw0
  go_enter Tryz.func25, Tryz.ntmps25
  go_upto_region 1 with fail
  rw [HW.out]
  (refine wp_region_free_tail (fun X => Only none_ w0 X) (Only none_) (F := ?_) (by kernel_rfl) 19 57 (by rfl) (by kernel_rfl) (fun x => ?_) ((Only.refl none_ w0).drew) ?_; rotate_left; (· (simp only [List.take_succ_cons, List.take_zero, putsL, Act.put, List.setIfInBounds_toArray, List.set_cons_zero, List.set_cons_succ, Nat.reduceAdd]; exact rfl)); simp only [List.take_succ_cons, List.take_zero, List.drop_succ_cons, List.drop_zero])
  repeat (first
    | ((first | refine fr_some (fun v _ => v = .agg #[.int .i64 m.mr.a.c, .int .i64 m.mr.a.s, .string m.mr.k]) (fun _ _ _ _ _ _ h => h) (by rfl) (fun x w0 hS hk => ?_) ?_ | refine fr_some_if (fun v _ => v = .agg #[.int .i64 m.mr.a.c, .int .i64 m.mr.a.s, .string m.mr.k]) (fun _ _ _ _ _ _ h => h) (by rfl) (by rfl) (by rfl) (fun x w0 hS hk => ?_) ?_); (· (have hk2 := hk; (try simp [knAll, Region.binds] at hk2); skip; refine got_call (f := 80) (args := ?_) (by go_simp; try (with_reducible rfl)) ?_; refine (mk_to m.mr _).mono ?_; rintro E w8 ⟨rfl, o8⟩; exact ⟨_, rfl, rfl, hS.trans o8, o8⟩)); try simp only [List.nil_append, List.cons_append])
    | ((first | refine fr_some (fun v X => ∃ b, v = .pointer (some ⟨b, 0, none⟩) ∧ w0.heap.size ≤ b ∧ Blk X b 31 #[.int .i64 0, .int .i64 0, .int .i64 0, .bool false, .slice none 0 0, .int .i64 0, .int .u64 0, .int .i64 0, .int .i64 0, .string ⟨#[]⟩, .slice none 0 0, .slice none 0 0]) (fun _ _ _ _ _ r ⟨b, h1, h2, h3⟩ => ⟨b, h1, h2, h3.only r (fun h => h)⟩) (by rfl) (fun x w0 hS hk => ?_) ?_ | refine fr_some_if (fun v X => ∃ b, v = .pointer (some ⟨b, 0, none⟩) ∧ w0.heap.size ≤ b ∧ Blk X b 31 #[.int .i64 0, .int .i64 0, .int .i64 0, .bool false, .slice none 0 0, .int .i64 0, .int .u64 0, .int .i64 0, .int .i64 0, .string ⟨#[]⟩, .slice none 0 0, .slice none 0 0]) (fun _ _ _ _ _ r ⟨b, h1, h2, h3⟩ => ⟨b, h1, h2, h3.only r (fun h => h)⟩) (by rfl) (by rfl) (by rfl) (fun x w0 hS hk => ?_) ?_); (· (have hk2 := hk; (try simp [knAll, Region.binds] at hk2); skip; refine got_value (v := ?_) (w' := ?_) (by go_simp; (first | with_reducible rfl | (refine ⟨?_, ?_⟩; with_reducible rfl; with_reducible rfl))) ?_; exact ⟨⟨_, rfl, hS.size, Blk.new _ _ _⟩, hS.alloc _, (Only.refl none_ _).alloc _⟩)); try simp only [List.nil_append, List.cons_append])
    | ((first | refine fr_value (c := ?_) (by rfl) (fun w => Only.refl none_ w) (fun x w0 hS hk => ?_) ?_ | refine fr_value_if (c := ?_) (by rfl) (by rfl) (by rfl) (fun w => Only.refl none_ w) (fun x w0 hS hk => ?_) ?_); rotate_left; (· (have hk2 := hk; (try simp [knAll, Region.binds] at hk2); have y := X1.out.only hS (fun h => h); have y0 := y.cell_ (i := 0) rfl; have y1 := y.cell_ (i := 1) rfl; have y2 := y.cell_ (i := 2) rfl; have y3 := y.cell_ (i := 3) rfl; have y4 := y.cell_ (i := 4) rfl; have y5 := y.cell_ (i := 5) rfl; have y6 := y.cell_ (i := 6) rfl; have y7 := y.cell_ (i := 7) rfl; have y8 := y.cell_ (i := 8) rfl; have y9 := y.cell_ (i := 9) rfl; go_simp; try (with_reducible rfl))); try simp only [List.nil_append, List.cons_append]))
  (refine fr_end ?_; intro x w9 hS hk)
  obtain ⟨b3, e18, h18, B18⟩ := kn_end_at 18 hk (by rfl)
  have e17 := kn_end_at 17 hk (by rfl)
  rw [Nat.zero_add] at e17 e18
  rw [e17, e18]
  clear hk e17 e18
  refine wpList_store_row rfl 31 _ _ rfl b3 #[.int .i64 m.kd, .int .i64 m.pe, .int .i64 m.hp, .bool m.hi, .slice A1 n1 c1, .int .i64 m.nu, .int .u64 (m.su : Int), .int .i64 m.mr.a.c, .int .i64 m.mr.a.s, .string m.mr.k, .slice none 0 0, .slice none 0 0] rfl rfl _ _ B18 (by kernel_rfl) rfl (ms_one _ _ _ _ _ _ _ _ _ _) ?_
  have hsz := X2.out.lt
  have hz0 := Z0.out
  have O1 : Only none_ w0 (w9.setRow b3 #[.int .i64 m.kd, .int .i64 m.pe, .int .i64 m.hp, .bool m.hi, .slice A1 n1 c1, .int .i64 m.nu, .int .u64 (m.su : Int), .int .i64 m.mr.a.c, .int .i64 m.mr.a.s, .string m.mr.k, .slice none 0 0, .slice none 0 0]) := hS.setRow (.inr h18) _
  have T1 : Hid (Tz w w.heap.size (w.heap.size + 1) b3 m (.slice A1 n1 c1) (.slice A2 n2 c2) (.slice A3 n3 c3) (.slice none 0 0) (.slice none 0 0) [] [] (w9.setRow b3 #[.int .i64 m.kd, .int .i64 m.pe, .int .i64 m.hp, .bool m.hi, .slice A1 n1 c1, .int .i64 m.nu, .int .u64 (m.su : Int), .int .i64 m.mr.a.c, .int .i64 m.mr.a.s, .string m.mr.k, .slice none 0 0, .slice none 0 0])) :=
    ⟨X1.out.only O1 (fun h => h), X2.out.only O1 (fun h => h), B18.setRow _, World.ownsRow_nil _ _ _ _, World.ownsRow_nil _ _ _ _, O0.out.trans O1, ⟨by omega, by omega, by omega, by omega, by omega, by omega⟩⟩
  clear hS B18 h18 hsz hz0 O1 X1 X2 O0 Z0 HW
  generalize w9.setRow b3 #[.int .i64 m.kd, .int .i64 m.pe, .int .i64 m.hp, .bool m.hi, .slice A1 n1 c1, .int .i64 m.nu, .int .u64 (m.su : Int), .int .i64 m.mr.a.c, .int .i64 m.mr.a.s, .string m.mr.k, .slice none 0 0, .slice none 0 0] = w10 at *
  obtain ⟨b1, hb1⟩ : ∃ b, w.heap.size = b := ⟨_, rfl⟩
  obtain ⟨b2, hb2⟩ : ∃ b, w.heap.size + 1 = b := ⟨_, rfl⟩
  rw [hb2, hb1] at T1 ⊢
  have k10 := T1.out.x1.cell_ (i := 10) rfl
  clear hb1 hb2
  go_wp2_with fail
  go_loopw [29] (fun s29 wr => ∃ i : Nat, i ≤ n2 ∧ s29 = .int .i64 i ∧ ∃ um, Tz w b1 b2 b3 m (.slice A1 n1 c1) (.slice A2 n2 c2) (.slice A3 n3 c3) um (.slice none 0 0) (m.ms.take i) [] wr) (fun s29 _ => n2 - (intOf s29).toNat)
  case atStart => exact ⟨0, by omega, rfl, _, by rw [List.take_zero]; exact T1.out⟩
  case round =>
    obtain ⟨i, hi, rfl, um, t⟩ := hrel
    obtain ⟨u, hu⟩ : ∃ u, u = um := ⟨_, rfl⟩
    have T2 := Lib.hid t
    by_cases hlt : i < n2
    · have hin : i < m.ms.length := by have := N2.out; omega
      obtain ⟨xm, hx⟩ : ∃ x, m.ms[i]? = some x := ⟨_, List.getElem?_eq_getElem hin⟩
      have hq := (HL.out _ t.ho).q
      rw [N2.out] at hq
      obtain ⟨a0, off0, hA, _, _, hc⟩ := in_elem mkI_len (by decide) hq N2.out hx
      subst hA
      have HCI : Hid (∀ j u, (#[.int .i64 xm.a.c, .int .i64 xm.a.s, .string xm.k] : Array Value).toList[j]? = some u → wr.cell? ⟨a0, off0 + i * 3 + j, none⟩ = some u) := fun j u hu => hc _ (Only.refl none_ _) j u hu
      have hsn : m.ms.take (i + 1) = m.ms.take i ++ [xm] := by rw [List.take_add_one, hx]; rfl
      obtain ⟨d, hd⟩ : ∃ d, m.ms.take i = d := ⟨_, rfl⟩
      have hdl : d.length = i := by rw [← hd, List.length_take]; have := N2.out; omega
      rw [hd] at T2 hsn t
      obtain ⟨A5, k5, hs5⟩ : ∃ A c, um = .slice A i c := by
        rcases t.om.2 with ⟨e, h0⟩ | ⟨_, _, _, e, _⟩
        · exact ⟨none, 0, by rw [e, ← hdl, h0]⟩
        · rw [hdl] at e; exact ⟨_, _, e⟩
      subst hs5
      have HSN := Lib.hid hsn
      have HDL := Lib.hid hdl
      have HLN : Hid (i + 1 ≤ maxLen ∧ (i + 1) * 32 ≤ 140737488355328) := by simp only [Hid, maxLen]; omega
      have N3b := Lib.hid (Blk.new wr 41 #[.int .i64 xm.a.c, .int .i64 xm.a.s, .string xm.k])
      have OX := Lib.hid ((Only.refl none_ wr).alloc (.cells #[.int .i64 xm.a.c, .int .i64 xm.a.s, .string xm.k] 41))
      clear hq hc hx hsn hd hdl t hu u
      go_upto_region 5 with (first
        | (refine wpl_piece rfl 41 _ rfl a0 (off0 + i * 3) rfl #[.int .i64 xm.a.c, .int .i64 xm.a.s, .string xm.k] _ HCI.out Tryz.underlying41 rfl (by kernel_rfl) ?_)
        | (refine wpl_new rfl rfl 41 rfl _ _ rfl #[.int .i64 xm.a.c, .int .i64 xm.a.s, .string xm.k] rfl rfl (by kernel_rfl) (mkI_one5 xm) ?_))
      generalize wr.heap.size = nb at *
      generalize wr.alloc (.cells #[.int .i64 xm.a.c, .int .i64 xm.a.s, .string xm.k] 41) = w3 at *
      have T3 := Lib.hid (T2.out.keep OX.out)
      (refine wp_region_free_tail (fun X => Only none_ w3 X) (Only none_) (F := ?_) (by kernel_rfl) 5 57 (by rfl) (by kernel_rfl) (fun x => ?_) ((Only.refl none_ w3).drew) ?_; rotate_left; (· (simp only [List.take_succ_cons, List.take_zero, putsL, Act.put, List.setIfInBounds_toArray, List.set_cons_zero, List.set_cons_succ, Nat.reduceAdd]; exact rfl)); simp only [List.take_succ_cons, List.take_zero, List.drop_succ_cons, List.drop_zero])
      repeat (first
        | ((first | refine fr_some (fun v _ => v = .agg #[.int .i64 xm.a.c, .int .i64 xm.a.s, .string xm.k]) (fun _ _ _ _ _ _ h => h) (by rfl) (fun x w0 hS hk => ?_) ?_ | refine fr_some_if (fun v _ => v = .agg #[.int .i64 xm.a.c, .int .i64 xm.a.s, .string xm.k]) (fun _ _ _ _ _ _ h => h) (by rfl) (by rfl) (by rfl) (fun x w0 hS hk => ?_) ?_); (· (have hk2 := hk; (try simp [knAll, Region.binds] at hk2); skip; refine got_call (f := 80) (args := ?_) (by go_simp; try (with_reducible rfl)) ?_; refine (mk_to xm _).mono ?_; rintro E w8 ⟨rfl, o8⟩; exact ⟨_, rfl, rfl, hS.trans o8, o8⟩)); try simp only [List.nil_append, List.cons_append])
        | ((first | refine fr_value (c := ?_) (by rfl) (fun w => Only.refl none_ w) (fun x w0 hS hk => ?_) ?_ | refine fr_value_if (c := ?_) (by rfl) (by rfl) (by rfl) (fun w => Only.refl none_ w) (fun x w0 hS hk => ?_) ?_); rotate_left; (· (have hk2 := hk; (try simp [knAll, Region.binds] at hk2); have q0 := (N3b.out.only hS (fun h => h)).cell_ (i := 0) rfl; have q1 := (N3b.out.only hS (fun h => h)).cell_ (i := 1) rfl; have q2 := (N3b.out.only hS (fun h => h)).cell_ (i := 2) rfl; have y := T3.out.x3.only hS (fun h => h); have y1 := y.cell_ (i := 10) rfl; go_simp; try (with_reducible rfl))); try simp only [List.nil_append, List.cons_append])
        | ((first | refine fr_some (fun v X => ∃ g, v = .slice (some ⟨g, 0, none⟩) 1 1 ∧ Blk X g 27 #[.int .i64 xm.a.c, .int .i64 xm.a.s, .string xm.k]) (fun _ _ _ _ _ r ⟨g, h1, h2⟩ => ⟨g, h1, h2.only r (fun h => h)⟩) (by rfl) (fun x w0 hS hk => ?_) ?_ | refine fr_some_if (fun v X => ∃ g, v = .slice (some ⟨g, 0, none⟩) 1 1 ∧ Blk X g 27 #[.int .i64 xm.a.c, .int .i64 xm.a.s, .string xm.k]) (fun _ _ _ _ _ r ⟨g, h1, h2⟩ => ⟨g, h1, h2.only r (fun h => h)⟩) (by rfl) (by rfl) (by rfl) (fun x w0 hS hk => ?_) ?_); (· (have hk2 := hk; (try simp [knAll, Region.binds] at hk2); have e3 := kn_at (j := 3) (by rfl) hk (by rfl); refine got_value (v := ?_) (w' := ?_) (by go_simp; (first | with_reducible rfl | (refine ⟨?_, ?_⟩; with_reducible rfl; with_reducible rfl))) ?_; exact ⟨⟨_, rfl, Blk.new _ _ _⟩, hS.alloc _, (Only.refl none_ _).alloc _⟩)); try simp only [List.nil_append, List.cons_append]))
      (refine fr_end ?_; intro x w9 hS hk)
      obtain ⟨g9, e10, bk9⟩ := kn_end_at 4 hk (by rfl)
      have e1 := kn_end_at 1 hk (by rfl)
      rw [Nat.zero_add] at e1 e10
      rw [e1, e10]
      have T4 := Lib.hid (T3.out.keep hS)
      have C9 : Hid (Cel w9 (fun j => j = g9) (.slice (some ⟨g9, 0, none⟩) 1 1) 1 3 (mkI xm)) := one_elem bk9 rfl
      clear hk e1 e10 hS bk9
      refine wpList_append_cel _ rfl (.tmp 34) (.tmp 37) 28 rfl w.heap.size 27 i0 _ 3 32 Tryz.underlying28 hi0 hz0 hz1 hz2 rfl (by omega) (.slice A5 i k5) i _ rfl (by have := T4.out.om; rw [HDL.out] at this; exact this) _ _ 1 _ rfl C9.out (mkI_one' xm) HLN.out.1 HLN.out.2 T4.out.ho.size ?_
      intro A6 n6 k6 w6 hown hgrow hmv
      have T6 : Hid (Tz w b1 b2 b3 m (.slice A1 n1 c1) _ (.slice A3 n3 c3) (.slice A6 n6 k6) (.slice none 0 0) (d ++ [xm]) [] (w6.setCell ⟨b3, 10, none⟩ (.slice A6 n6 k6))) :=
        T4.out.mark xm hown (by rw [HDL.out]) rfl hgrow
      have o6 : Only (fun b => (Value.slice A5 i k5).ownBlock = some b) w9 w6 := (Only.refl _ w9).grown hgrow (fun k hk => .inl hk)
      have y6 := T4.out.x3.only o6 (fun e => own_blk_ne T4.out.om T4.out.x3 (by decide) e)
      have c6 := y6.cell_ (i := 10) rfl
      have f6 := y6.frozen 10
      clear hown hgrow hmv o6 y6
      go_wp2_with fail
      go_roundw
      case rel => exact ⟨i + 1, by omega, by go_num, _, by rw [HSN.out]; exact T6.out⟩
      case measure => simp [intOf]; omega
    · obtain rfl : n2 = i := by omega
      rw [List.take_of_length_le (by have := N2.out; omega)] at T2
      obtain ⟨A7, c7, e7⟩ : ∃ A c, um = .slice A m.ms.length c := by
        rcases T2.out.om.2 with ⟨e, h0⟩ | ⟨_, _, _, e, _⟩
        · exact ⟨none, 0, by rw [e, h0]⟩
        · exact ⟨_, _, e⟩
      have TA := T2
      clear t hu u T2 T1 k10
      have k11 := TA.out.x1.cell_ (i := 11) rfl
      go_wp2_with fail
      go_loopw [44] (fun s44 wr => ∃ i : Nat, i ≤ n3 ∧ s44 = .int .i64 i ∧ ∃ ue, Tz w b1 b2 b3 m (.slice A1 n1 c1) (.slice A2 n2 c2) (.slice A3 n3 c3) um ue m.ms (m.es.take i) wr) (fun s44 _ => n3 - (intOf s44).toNat)
      case atStart => exact ⟨0, by omega, rfl, _, by rw [List.take_zero]; exact TA.out⟩
      case round =>
        obtain ⟨i, hi, rfl, ue, t⟩ := hrel
        obtain ⟨u, hu⟩ : ∃ u, u = ue := ⟨_, rfl⟩
        have TB := Lib.hid t
        by_cases hlt : i < n3
        · have hin : i < m.es.length := by have := N3.out; omega
          obtain ⟨xm, hx⟩ : ∃ x, m.es[i]? = some x := ⟨_, List.getElem?_eq_getElem hin⟩
          have hq := (HL.out _ t.ho).r
          rw [N3.out] at hq
          obtain ⟨a0, off0, hA, _, _, hc⟩ := in_elem enRow_length (by decide) hq N3.out hx
          subst hA
          have HCI : Hid (∀ j u, (#[.string xm.k, .string xm.v, .bool xm.d, .int .i64 xm.s.c, .int .i64 xm.s.s, .int .i64 xm.a.c, .int .i64 xm.a.s, .int .i64 xm.p, .int .i64 xm.g] : Array Value).toList[j]? = some u → wr.cell? ⟨a0, off0 + i * 9 + j, none⟩ = some u) := fun j u hu => hc _ (Only.refl none_ _) j u hu
          have hsn : m.es.take (i + 1) = m.es.take i ++ [xm] := by rw [List.take_add_one, hx]; rfl
          obtain ⟨d, hd⟩ : ∃ d, m.es.take i = d := ⟨_, rfl⟩
          have hdl : d.length = i := by rw [← hd, List.length_take]; have := N3.out; omega
          rw [hd] at TB hsn t
          obtain ⟨A5, k5, hs5⟩ : ∃ A c, ue = .slice A i c := by
            rcases t.oe.2 with ⟨e, h0⟩ | ⟨_, _, _, e, _⟩
            · exact ⟨none, 0, by rw [e, ← hdl, h0]⟩
            · rw [hdl] at e; exact ⟨_, _, e⟩
          subst hs5
          have HSN := Lib.hid hsn
          have HDL := Lib.hid hdl
          have HLN : Hid (i + 1 ≤ maxLen ∧ (i + 1) * 88 ≤ 140737488355328) := by simp only [Hid, maxLen]; omega
          have N5b := Lib.hid (Blk.new wr 147 #[.string xm.k, .string xm.v, .bool xm.d, .int .i64 xm.s.c, .int .i64 xm.s.s, .int .i64 xm.a.c, .int .i64 xm.a.s, .int .i64 xm.p, .int .i64 xm.g])
          have OX := Lib.hid ((Only.refl none_ wr).alloc (.cells #[.string xm.k, .string xm.v, .bool xm.d, .int .i64 xm.s.c, .int .i64 xm.s.s, .int .i64 xm.a.c, .int .i64 xm.a.s, .int .i64 xm.p, .int .i64 xm.g] 147))
          clear hq hc hx hsn hd hdl t hu u
          go_upto_region 10 with (first
            | (refine wpl_piece rfl 147 _ rfl a0 (off0 + i * 9) rfl #[.string xm.k, .string xm.v, .bool xm.d, .int .i64 xm.s.c, .int .i64 xm.s.s, .int .i64 xm.a.c, .int .i64 xm.a.s, .int .i64 xm.p, .int .i64 xm.g] _ HCI.out Tryz.underlying147 rfl (by kernel_rfl) ?_)
            | (refine wpl_new rfl rfl 147 rfl _ _ rfl #[.string xm.k, .string xm.v, .bool xm.d, .int .i64 xm.s.c, .int .i64 xm.s.s, .int .i64 xm.a.c, .int .i64 xm.a.s, .int .i64 xm.p, .int .i64 xm.g] rfl rfl (by kernel_rfl) (en_cells_one xm) ?_))
          generalize wr.heap.size = nb at *
          generalize wr.alloc (.cells #[.string xm.k, .string xm.v, .bool xm.d, .int .i64 xm.s.c, .int .i64 xm.s.s, .int .i64 xm.a.c, .int .i64 xm.a.s, .int .i64 xm.p, .int .i64 xm.g] 147) = w3 at *
          have T3 := Lib.hid (TB.out.keep OX.out)
          (refine wp_region_free_tail (fun X => Only none_ w3 X) (Only none_) (F := ?_) (by kernel_rfl) 5 57 (by rfl) (by kernel_rfl) (fun x => ?_) ((Only.refl none_ w3).drew) ?_; rotate_left; (· (simp only [List.take_succ_cons, List.take_zero, putsL, Act.put, List.setIfInBounds_toArray, List.set_cons_zero, List.set_cons_succ, Nat.reduceAdd]; exact rfl)); simp only [List.take_succ_cons, List.take_zero, List.drop_succ_cons, List.drop_zero])
          repeat (first
            | ((first | refine fr_some (fun v _ => v = .agg #[.string xm.k, .string xm.v, .bool xm.d, .int .i64 xm.s.c, .int .i64 xm.s.s, .int .i64 xm.a.c, .int .i64 xm.a.s, .int .i64 xm.p, .int .i64 xm.g]) (fun _ _ _ _ _ _ h => h) (by rfl) (fun x w0 hS hk => ?_) ?_ | refine fr_some_if (fun v _ => v = .agg #[.string xm.k, .string xm.v, .bool xm.d, .int .i64 xm.s.c, .int .i64 xm.s.s, .int .i64 xm.a.c, .int .i64 xm.a.s, .int .i64 xm.p, .int .i64 xm.g]) (fun _ _ _ _ _ _ h => h) (by rfl) (by rfl) (by rfl) (fun x w0 hS hk => ?_) ?_); (· (have hk2 := hk; (try simp [knAll, Region.binds] at hk2); skip; refine got_call (f := 81) (args := ?_) (by go_simp; try (with_reducible rfl)) ?_; refine (en_to xm _).mono ?_; rintro E w8 ⟨rfl, o8⟩; exact ⟨_, rfl, rfl, hS.trans o8, o8⟩)); try simp only [List.nil_append, List.cons_append])
            | ((first | refine fr_value (c := ?_) (by rfl) (fun w => Only.refl none_ w) (fun x w0 hS hk => ?_) ?_ | refine fr_value_if (c := ?_) (by rfl) (by rfl) (by rfl) (fun w => Only.refl none_ w) (fun x w0 hS hk => ?_) ?_); rotate_left; (· (have hk2 := hk; (try simp [knAll, Region.binds] at hk2); have q0 := (N5b.out.only hS (fun h => h)).cell_ (i := 0) rfl; have q1 := (N5b.out.only hS (fun h => h)).cell_ (i := 1) rfl; have q2 := (N5b.out.only hS (fun h => h)).cell_ (i := 2) rfl; have q3 := (N5b.out.only hS (fun h => h)).cell_ (i := 3) rfl; have q4 := (N5b.out.only hS (fun h => h)).cell_ (i := 4) rfl; have q5 := (N5b.out.only hS (fun h => h)).cell_ (i := 5) rfl; have q6 := (N5b.out.only hS (fun h => h)).cell_ (i := 6) rfl; have q7 := (N5b.out.only hS (fun h => h)).cell_ (i := 7) rfl; have q8 := (N5b.out.only hS (fun h => h)).cell_ (i := 8) rfl; have y := T3.out.x3.only hS (fun h => h); have y1 := y.cell_ (i := 11) rfl; go_simp; try (with_reducible rfl))); try simp only [List.nil_append, List.cons_append])
            | ((first | refine fr_some (fun v X => ∃ g, v = .slice (some ⟨g, 0, none⟩) 1 1 ∧ Blk X g 123 #[.string xm.k, .string xm.v, .bool xm.d, .int .i64 xm.s.c, .int .i64 xm.s.s, .int .i64 xm.a.c, .int .i64 xm.a.s, .int .i64 xm.p, .int .i64 xm.g]) (fun _ _ _ _ _ r ⟨g, h1, h2⟩ => ⟨g, h1, h2.only r (fun h => h)⟩) (by rfl) (fun x w0 hS hk => ?_) ?_ | refine fr_some_if (fun v X => ∃ g, v = .slice (some ⟨g, 0, none⟩) 1 1 ∧ Blk X g 123 #[.string xm.k, .string xm.v, .bool xm.d, .int .i64 xm.s.c, .int .i64 xm.s.s, .int .i64 xm.a.c, .int .i64 xm.a.s, .int .i64 xm.p, .int .i64 xm.g]) (fun _ _ _ _ _ r ⟨g, h1, h2⟩ => ⟨g, h1, h2.only r (fun h => h)⟩) (by rfl) (by rfl) (by rfl) (fun x w0 hS hk => ?_) ?_); (· (have hk2 := hk; (try simp [knAll, Region.binds] at hk2); have e3 := kn_at (j := 3) (by rfl) hk (by rfl); refine got_value (v := ?_) (w' := ?_) (by go_simp; (first | with_reducible rfl | (refine ⟨?_, ?_⟩; with_reducible rfl; with_reducible rfl))) ?_; exact ⟨⟨_, rfl, Blk.new _ _ _⟩, hS.alloc _, (Only.refl none_ _).alloc _⟩)); try simp only [List.nil_append, List.cons_append]))
          (refine fr_end ?_; intro x w9 hS hk)
          obtain ⟨g9, e10, bk9⟩ := kn_end_at 4 hk (by rfl)
          have e1 := kn_end_at 1 hk (by rfl)
          rw [Nat.zero_add] at e1 e10
          rw [e1, e10]
          have T4 := Lib.hid (T3.out.keep hS)
          have C9 : Hid (Cel w9 (fun j => j = g9) (.slice (some ⟨g9, 0, none⟩) 1 1) 1 9 (enRow xm)) := one_elem bk9 rfl
          clear hk e1 e10 hS bk9
          refine wpList_append_cel _ rfl (.tmp 49) (.tmp 52) 29 rfl w.heap.size 123 j0 _ 9 88 Tryz.underlying29 hj0 hy0 hy1 hy2 rfl (by omega) (.slice A5 i k5) i _ rfl (by have := T4.out.oe; rw [HDL.out] at this; exact this) _ _ 1 _ rfl C9.out (enRow_one xm) HLN.out.1 HLN.out.2 T4.out.ho.size ?_
          intro A6 n6 k6 w6 hown hgrow hmv
          have T6 : Hid (Tz w b1 b2 b3 m (.slice A1 n1 c1) (.slice A2 n2 c2) _ um (.slice A6 n6 k6) m.ms (d ++ [xm]) (w6.setCell ⟨b3, 11, none⟩ (.slice A6 n6 k6))) :=
            T4.out.entry xm hown (by rw [HDL.out]) rfl hgrow
          have o6 : Only (fun b => (Value.slice A5 i k5).ownBlock = some b) w9 w6 := (Only.refl _ w9).grown hgrow (fun k hk => .inl hk)
          have y6 := T4.out.x3.only o6 (fun e => own_blk_ne T4.out.oe T4.out.x3 (by decide) e)
          have c6 := y6.cell_ (i := 11) rfl
          have f6 := y6.frozen 11
          clear hown hgrow hmv o6 y6
          go_wp2_with fail
          go_roundw
          case rel => exact ⟨i + 1, by omega, by go_num, _, by rw [HSN.out]; exact T6.out⟩
          case measure => simp [intOf]; omega
        · obtain rfl : n3 = i := by omega
          rw [List.take_of_length_le (by have := N3.out; omega)] at TB
          obtain ⟨A8, c8, e8⟩ : ∃ A c, ue = .slice A m.es.length c := by
            rcases TB.out.oe.2 with ⟨e, h0⟩ | ⟨_, _, _, e, _⟩
            · exact ⟨none, 0, by rw [e, h0]⟩
            · exact ⟨_, _, e⟩
          subst e7 e8
          clear t hu u
          go_wp2_with (first
            | (refine wpl_load rfl 31 _ rfl b3 rfl 31 #[.int .i64 m.kd, .int .i64 m.pe, .int .i64 m.hp, .bool m.hi, .slice A1 n1 c1, .int .i64 m.nu, .int .u64 (m.su : Int), .int .i64 m.mr.a.c, .int .i64 m.mr.a.s, .string m.mr.k, .slice A7 m.ms.length c7, .slice A8 m.es.length c8] _ TB.out.x3 Tryz.underlying31 rfl (by kernel_rfl) ?_)
            | (refine wpList_store_row rfl 31 _ _ rfl b2 #[.int .i64 m.kd, .int .i64 m.pe, .int .i64 m.hp, .bool m.hi, .slice A1 n1 c1, .int .i64 m.nu, .int .u64 (m.su : Int), .int .i64 m.mr.a.c, .int .i64 m.mr.a.s, .string m.mr.k, .slice A7 m.ms.length c7, .slice A8 m.es.length c8] rfl rfl 31 _ TB.out.x2 (by kernel_rfl) rfl (ms_one _ _ _ _ _ _ _ _ _ _) ?_
               have R5 := Lib.hid (TB.out.x2.setRow #[.int .i64 m.kd, .int .i64 m.pe, .int .i64 m.hp, .bool m.hi, .slice A1 n1 c1, .int .i64 m.nu, .int .u64 (m.su : Int), .int .i64 m.mr.a.c, .int .i64 m.mr.a.s, .string m.mr.k, .slice A7 m.ms.length c7, .slice A8 m.es.length c8])
               have O5 := Lib.hid (TB.out.ho.setRow (g := b2) (.inr TB.out.ge.2.1) #[.int .i64 m.kd, .int .i64 m.pe, .int .i64 m.hp, .bool m.hi, .slice A1 n1 c1, .int .i64 m.nu, .int .u64 (m.su : Int), .int .i64 m.mr.a.c, .int .i64 m.mr.a.s, .string m.mr.k, .slice A7 m.ms.length c7, .slice A8 m.es.length c8])
               have M5 := Lib.hid ((Only.refl (one b2) wr).setRow (g := b2) (.inl rfl) #[.int .i64 m.kd, .int .i64 m.pe, .int .i64 m.hp, .bool m.hi, .slice A1 n1 c1, .int .i64 m.nu, .int .u64 (m.su : Int), .int .i64 m.mr.a.c, .int .i64 m.mr.a.s, .string m.mr.k, .slice A7 m.ms.length c7, .slice A8 m.es.length c8])))
          refine bodyPost_ret (results_cell_row rfl _ _ b2 31 _ (0, 0) _ rfl R5.out Tryz.underlying31 rfl (by kernel_rfl)) rfl ?_
          have g := TB.out.ge
          have hp := (HL.out _ O5.out).p
          exact ⟨_, _, rfl, ⟨hp.mono (fun b _ hb => .inl hb), ((Cel.of_own (owns_only TB.out.om M5.out (fun b hb e => own_blk_ne TB.out.om TB.out.x2 (by decide) (by rw [← (show b = b2 from e)]; exact hb)))).mono (fun b _ hb => .inr (TB.out.om.lt b hb).1)),
            ((Cel.of_own (owns_only TB.out.oe M5.out (fun b hb e => own_blk_ne TB.out.oe TB.out.x2 (by decide) (by rw [← (show b = b2 from e)]; exact hb)))).mono (fun b _ hb => .inr (TB.out.oe.lt b hb).1))⟩, O5.out⟩
end Go.Proofs.YtlieolehpmobfaaGreatDoor
end
