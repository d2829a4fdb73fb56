/- Texts of mine, one behind the other: WiFe, EoA, EnY, EoE, EoI, WiBa, WiBf. No statement of the seat is proved here. -/
import Derived.Test.YtlieolehpmobfaaGreatDoorWt9
import Derived.Test.YtlieolehpmobfaaGreatDoorWt5
import Derived.Test.YtlieolehpmobfaaGreatDoorWt4
import Derived.Test.YtlieolehpmobfaaGreatDoorWt6
section
namespace Go.Proofs.YtlieolehpmobfaaGreatDoor
open Go.RowKit
set_option linter.all false
set_option maxRecDepth 100000
def enBrief (e : En) : Bool := decide (e.k.size ≤ 300) && decide (e.v.size ≤ 300)
def mkBrief (x : Mk) : Bool := decide (x.k.size ≤ 300)
def fewM (m : Ms) : Bool := decide (m.ps.length ≤ 20) && decide (m.ms.length ≤ 20) && decide (m.es.length ≤ 20) && mkBrief m.mr && m.ms.all mkBrief && m.es.all enBrief
theorem all_upto {α : Type} {g : α → Bool} {l : List α} {k : Nat} {e : α} (h : l[k]? = some e) : (l.take (k + 1)).all g = ((l.take k).all g && g e) := by
  obtain ⟨hk, hb⟩ := List.getElem?_eq_some_iff.1 h
  rw [List.take_succ_eq_append_getElem hk, List.all_append, hb]
  simp
theorem lw_short (e : En) (w : World) :
    Calls Tryz.prog 54 #[.agg #[.string e.k, .string e.v, .bool e.d, .int .i64 e.s.c, .int .i64 e.s.s, .int .i64 e.a.c, .int .i64 e.a.s, .int .i64 e.p, .int .i64 e.g]] w fun E w' => E = .returned (.bool (enBrief e)) ∧ Only none_ w w' := by
  by_cases h1 : (e.k.size : Int) ≤ 300
  · by_cases h2 : (e.v.size : Int) ≤ 300
    · have H : Hid (enBrief e = true) := by simp [Hid, enBrief]; omega
      go_enter Tryz.func54, Tryz.ntmps54
      go_wp2
      go_ret
      rw [H.out]
      exact ⟨rfl, (Only.refl none_ w).alloc _⟩
    · have H : Hid (enBrief e = false) := by simp [Hid, enBrief]; omega
      go_enter Tryz.func54, Tryz.ntmps54
      go_wp2
      go_ret
      rw [H.out]
      exact ⟨rfl, (Only.refl none_ w).alloc _⟩
  · have H : Hid (enBrief e = false) := by simp [Hid, enBrief]; omega
    go_enter Tryz.func54, Tryz.ntmps54
    go_wp2
    go_ret
    rw [H.out]
    exact ⟨rfl, (Only.refl none_ w).alloc _⟩
set_option maxHeartbeats 6400000 in
theorem lw_few (S : Nat → Prop) (m : Ms) (vp vm ve : Value) (w : World) (hl : Ml S m vp vm ve w) :
    Calls Tryz.prog 14 #[.agg #[.int .i64 m.kd, .int .i64 m.pe, .int .i64 m.hp, .bool m.hi, vp, .int .i64 m.nu, .int .u64 (m.su : Int), .int .i64 m.mr.a.c, .int .i64 m.mr.a.s, .string m.mr.k, vm, ve]] w fun e w' => e = .returned (.bool (fewM m)) ∧ Only none_ w w' := by
  obtain ⟨A1, c1, A2, c2, A3, c3, e1, e2, e3⟩ := hl.shape
  subst e1 e2 e3
  have HL := Lib.hid hl
  have HF : Hid (fewM m = (decide (m.ps.length ≤ 20) && decide (m.ms.length ≤ 20) && decide (m.es.length ≤ 20) && mkBrief m.mr && m.ms.all mkBrief && m.es.all enBrief)) := rfl
  obtain ⟨p, hp⟩ : ∃ p, m.ps.length = p := ⟨_, rfl⟩
  obtain ⟨q, hq⟩ : ∃ p, m.ms.length = p := ⟨_, rfl⟩
  obtain ⟨r, hr⟩ : ∃ p, m.es.length = p := ⟨_, rfl⟩
  rw [hp, hq, hr] at HF
  have HQ := Lib.hid hq
  have HR := Lib.hid hr
  rw [hp, hq, hr] at HL ⊢
  have XB := Lib.hid (Blk.new w 31 #[.int .i64 m.kd, .int .i64 m.pe, .int .i64 m.hp, .bool m.hi, .slice A1 p c1, .int .i64 m.nu, .int .u64 (m.su : Int), .int .i64 m.mr.a.c, .int .i64 m.mr.a.s, .string m.mr.k, .slice A2 q c2, .slice A3 r c3])
  have OB := Lib.hid ((Only.refl none_ w).alloc (.cells #[.int .i64 m.kd, .int .i64 m.pe, .int .i64 m.hp, .bool m.hi, .slice A1 p c1, .int .i64 m.nu, .int .u64 (m.su : Int), .int .i64 m.mr.a.c, .int .i64 m.mr.a.s, .string m.mr.k, .slice A2 q c2, .slice A3 r c3] 31))
  have x4 := XB.out.cell_ (i := 4) rfl
  have x9 := XB.out.cell_ (i := 9) rfl
  have x10 := XB.out.cell_ (i := 10) rfl
  have x11 := XB.out.cell_ (i := 11) rfl
  clear hl hp hq hr
  by_cases h1 : (p : Int) ≤ 20
  · by_cases h2 : (q : Int) ≤ 20
    · by_cases h3 : (r : Int) ≤ 20
      · by_cases h4 : (m.mr.k.size : Int) ≤ 300
        · have HF2 : Hid (fewM m = (m.ms.all mkBrief && m.es.all enBrief)) := by
            rw [Hid, HF.out, decide_eq_true (by omega : p ≤ 20), decide_eq_true (by omega : q ≤ 20), decide_eq_true (by omega : r ≤ 20), show mkBrief m.mr = true by simp [mkBrief]; omega]
            simp
          clear HF
          go_enter Tryz.func14, Tryz.ntmps14
          go_wp2_with fail
          go_loopw [33] (fun s33 wr => ∃ k : Nat, k ≤ q ∧ s33 = .int .i64 (k : Int) ∧ (m.ms.take k).all mkBrief = true ∧ Only none_ w wr ∧ Blk wr w.heap.size 31 #[.int .i64 m.kd, .int .i64 m.pe, .int .i64 m.hp, .bool m.hi, .slice A1 p c1, .int .i64 m.nu, .int .u64 (m.su : Int), .int .i64 m.mr.a.c, .int .i64 m.mr.a.s, .string m.mr.k, .slice A2 q c2, .slice A3 r c3]) (fun s33 _ => q - (intOf s33).toNat)
          case atStart => exact ⟨0, Nat.zero_le _, rfl, by simp, OB.out, XB.out⟩
          case round =>
            obtain ⟨k, hk, rfl, hall, ho, hb⟩ := hrel
            have HW := Lib.hid ho
            have HA := Lib.hid hall
            have HB := Lib.hid hb
            clear hall hb
            by_cases hlt : k < q
            · obtain ⟨a, ha⟩ : ∃ a, m.ms[k]? = some a := ⟨m.ms[k]'(by have := HQ.out; omega), List.getElem?_eq_getElem _⟩
              have hcl := (HL.out.keep ho).q
              rw [HQ.out] at hcl
              obtain ⟨b, off, hA, _, hbl, hc⟩ := in_elem mkI_len (by decide) hcl HQ.out ha
              subst hA
              have q0 := hc _ (Only.refl none_ _) 0 _ rfl
              have q1 := hc _ (Only.refl none_ _) 1 _ rfl
              have q2 := hc _ (Only.refl none_ _) 2 _ rfl
              rw [Nat.add_zero] at q0
              have HS := Lib.hid (all_upto (g := mkBrief) ha)
              have hmem : a ∈ m.ms := List.mem_of_getElem? ha
              have O5 := Lib.hid (ho.alloc (.cells #[.int .i64 a.a.c, .int .i64 a.a.s, .string a.k] 27))
              have B5 := Lib.hid (HB.out.alloc (.cells #[.int .i64 a.a.c, .int .i64 a.a.s, .string a.k] 27))
              clear ho hcl hc hbl
              by_cases h5 : (a.k.size : Int) ≤ 300
              · have HSS : Hid (mkBrief a = true) := by simp [Hid, mkBrief]; omega
                clear ha hmem
                go_wp2_with fail
                go_roundw
                case rel => exact ⟨k + 1, by omega, by go_num, by rw [HS.out, HA.out, HSS.out]; rfl, O5.out, B5.out⟩
                case measure => simp [intOf]; omega
              · have HN : Hid (m.ms.all mkBrief = false) := by rw [Hid, List.all_eq_false]; exact ⟨a, hmem, by simp [mkBrief]; omega⟩
                clear ha hmem
                go_wp2_with fail
                go_ret
                exact ⟨by rw [HF2.out, HN.out]; rfl, O5.out⟩
            · obtain rfl : k = q := by omega
              have HT : Hid (m.ms.all mkBrief = true) := by have := HA.out; rwa [← HQ.out, List.take_length] at this
              have y11 := HB.out.cell_ (i := 11) rfl
              clear ho
              go_wp2_with fail
              go_loopw [45] (fun s45 wx => ∃ j : Nat, j ≤ r ∧ s45 = .int .i64 (j : Int) ∧ (m.es.take j).all enBrief = true ∧ Only none_ w wx) (fun s45 _ => r - (intOf s45).toNat)
              case atStart => exact ⟨0, Nat.zero_le _, rfl, by simp, HW.out⟩
              case round =>
                obtain ⟨j, hj, rfl, hall, ho⟩ := hrel
                have HV := Lib.hid ho
                have HE := Lib.hid hall
                clear hall
                by_cases hlt2 : j < r
                · obtain ⟨a, ha⟩ : ∃ a, m.es[j]? = some a := ⟨m.es[j]'(by have := HR.out; omega), List.getElem?_eq_getElem _⟩
                  have hcl := (HL.out.keep ho).r
                  rw [HR.out] at hcl
                  obtain ⟨b, off, hA, _, hbl, hc⟩ := in_elem enRow_length (by decide) hcl HR.out ha
                  subst hA
                  have q0 := hc _ (Only.refl none_ _) 0 _ rfl
                  have q1 := hc _ (Only.refl none_ _) 1 _ rfl
                  have q2 := hc _ (Only.refl none_ _) 2 _ rfl
                  have q3 := hc _ (Only.refl none_ _) 3 _ rfl
                  have q4 := hc _ (Only.refl none_ _) 4 _ rfl
                  have q5 := hc _ (Only.refl none_ _) 5 _ rfl
                  have q6 := hc _ (Only.refl none_ _) 6 _ rfl
                  have q7 := hc _ (Only.refl none_ _) 7 _ rfl
                  have q8 := hc _ (Only.refl none_ _) 8 _ rfl
                  rw [Nat.add_zero] at q0
                  have HS := Lib.hid (all_upto (g := enBrief) ha)
                  have hmem : a ∈ m.es := List.mem_of_getElem? ha
                  have O5 := Lib.hid (ho.alloc (.cells #[.string a.k, .string a.v, .bool a.d, .int .i64 a.s.c, .int .i64 a.s.s, .int .i64 a.a.c, .int .i64 a.a.s, .int .i64 a.p, .int .i64 a.g] 123))
                  clear ho hcl hc hbl
                  obtain ⟨bb, hbb⟩ : ∃ b, enBrief a = b := ⟨_, rfl⟩
                  have HBB := Lib.hid hbb
                  clear hbb
                  cases bb
                  · have HN : Hid (m.es.all enBrief = false) := by rw [Hid, List.all_eq_false]; exact ⟨a, hmem, by rw [HBB.out]; decide⟩
                    clear ha hmem
                    go_wp2_with (first
                      | (go_at_call 54; refine (lw_short a _).mono ?_; rintro E w9 ⟨rfl, o9⟩; rw [HBB.out]; have O9 := Lib.hid (O5.out.trans o9); clear o9))
                    go_ret
                    exact ⟨by rw [HF2.out, HT.out, HN.out]; rfl, O9.out⟩
                  · clear ha hmem
                    go_wp2_with (first
                      | (go_at_call 54; refine (lw_short a _).mono ?_; rintro E w9 ⟨rfl, o9⟩; rw [HBB.out]; have O9 := Lib.hid (O5.out.trans o9); clear o9))
                    go_roundw
                    case rel => exact ⟨j + 1, by omega, by go_num, by rw [HS.out, HE.out, HBB.out]; rfl, O9.out⟩
                    case measure => simp [intOf]; omega
                · obtain rfl : j = r := by omega
                  have HT2 : Hid (m.es.all enBrief = true) := by have := HE.out; rwa [← HR.out, List.take_length] at this
                  go_wp2_with fail
                  go_ret
                  exact ⟨by rw [HF2.out, HT.out, HT2.out]; rfl, HV.out⟩
        · have HX : Hid (fewM m = false) := by rw [Hid, HF.out, show mkBrief m.mr = false by simp [mkBrief]; omega]; simp
          go_enter Tryz.func14, Tryz.ntmps14
          go_wp2_with fail
          go_ret
          exact ⟨by rw [HX.out]; rfl, OB.out⟩
      · have HX : Hid (fewM m = false) := by rw [Hid, HF.out, decide_eq_false (by omega : ¬ r ≤ 20)]; simp
        go_enter Tryz.func14, Tryz.ntmps14
        go_wp2_with fail
        go_ret
        exact ⟨by rw [HX.out]; rfl, OB.out⟩
    · have HX : Hid (fewM m = false) := by rw [Hid, HF.out, decide_eq_false (by omega : ¬ q ≤ 20)]; simp
      go_enter Tryz.func14, Tryz.ntmps14
      go_wp2_with fail
      go_ret
      exact ⟨by rw [HX.out]; rfl, OB.out⟩
  · have HX : Hid (fewM m = false) := by rw [Hid, HF.out, decide_eq_false (by omega : ¬ p ≤ 20)]; simp
    go_enter Tryz.func14, Tryz.ntmps14
    go_wp2_with fail
    go_ret
    exact ⟨by rw [HX.out]; rfl, OB.out⟩
end Go.Proofs.YtlieolehpmobfaaGreatDoor
end
section
namespace Go.Proofs.YtlieolehpmobfaaGreatDoor
open Go.RowKit
set_option maxRecDepth 100000
theorem leVal_leBytes : ∀ (m n : Nat), n < 256 ^ m → leVal (leBytes n m) = n
  | 0, n, h => by simp at h; subst h; rfl
  | m + 1, n, h => by
    have e : leBytes n (m + 1) = UInt8.ofNat n :: leBytes (n / 256) m := by
      unfold leBytes
      rw [List.range_succ_eq_map, List.map_cons, List.map_map]
      congr 1
      · simp [leByte]
      apply List.map_congr_left
      intro k _
      show leByte n (k + 1) = leByte (n / 256) k
      unfold leByte
      rw [Nat.div_div_eq_div_mul]
      congr 2
      rw [show 8 * (k + 1) = 8 + 8 * k by omega, Nat.pow_add]
    have h2 : n / 256 < 256 ^ m := by
      rw [Nat.div_lt_iff_lt_mul (by omega)]
      rw [Nat.pow_succ] at h
      exact h
    rw [e]
    show (UInt8.ofNat n).toNat + 256 * leVal (leBytes (n / 256) m) = n
    rw [leVal_leBytes m _ h2]
    have : (UInt8.ofNat n).toNat = n % 256 := by simp
    omega
theorem numR_back (n m : Nat) (rest : List UInt8) (h1 : 1 ≤ m) (h8 : m ≤ 8) (hn : n < 256 ^ m) : numR 0 (leBytes n m ++ rest) (m : Int) = (0, rest, n) := by
  have hw : isW (m : Int) = true := by simp [isW]; omega
  have hl := leBytes_len n m
  unfold numR
  rw [if_pos hw, if_pos (by rw [Int.toNat_natCast, List.length_append, hl]; exact ⟨rfl, by omega⟩), Int.toNat_natCast]
  rw [List.take_append_of_le_length (by omega), List.take_of_length_le (by omega), leVal_leBytes m n hn]
  rw [List.drop_append_of_le_length (by omega), List.drop_of_length_le (by omega), List.nil_append]
theorem flagR_back (d : Bool) (rest : List UInt8) : flagR 0 ([UInt8.ofNat (bitN d)] ++ rest) = (0, rest, d) := by
  cases d <;> simp [flagR, bitN]
theorem textR_back (s : ByteArray) (most : Nat) (rest : List UInt8) (h : s.size ≤ most) (h2 : s.size ≤ 255) : textR 0 (txtB s ++ rest) (most : Int) = (0, rest, s.data.toList) := by
  have hl : s.data.toList.length = s.size := Array.length_toList
  have hn : (UInt8.ofNat s.size).toNat = s.size := by simp; omega
  show textR 0 (UInt8.ofNat s.size :: (s.data.toList ++ rest)) (most : Int) = _
  unfold textR
  dsimp only
  rw [hn, if_neg (by simp), if_neg (by omega), if_neg (by rw [List.length_append, hl]; omega)]
  rw [List.drop_append_of_le_length (by omega), List.drop_of_length_le (by omega), List.nil_append, List.take_append_of_le_length (by omega), List.take_of_length_le (by omega)]
theorem stampR_back (a b : Nat) (rest : List UInt8) (ha : a < 256 ^ 4) (hb : b < 256 ^ 1) : stampR 0 (leBytes a 4 ++ (leBytes b 1 ++ rest)) = (0, rest, ⟨a, b⟩) := by
  have h1 := numR_back a 4 (leBytes b 1 ++ rest) (by omega) (by omega) ha
  have h2 := numR_back b 1 rest (by omega) (by omega) hb
  unfold stampR
  rw [show ((4 : Nat) : Int) = 4 from rfl] at h1
  rw [show ((1 : Nat) : Int) = 1 from rfl] at h2
  rw [h1]
  dsimp only
  rw [h2]
end Go.Proofs.YtlieolehpmobfaaGreatDoor
end
section
namespace Go.Proofs.YtlieolehpmobfaaGreatDoor
open Go.RowKit
set_option linter.all false
set_option maxRecDepth 100000
structure Rdr {α : Type} (f : Tkn α) (x : α) (b : List UInt8) : Prop where
  back : ∀ r, f 0 (b ++ r) = (0, r, x)
  cut : ∀ n, n < b.length → (f 0 (b.take n)).1 = 6
  stop : ∀ c bs, c ≠ 0 → (f c bs).1 = c
theorem first_keeps {c e : Int} (h : c ≠ 0) : first_ c e = c := if_neg h
theorem cut_seq {α : Type} {f : Tkn α} {x : α} {b1 b2 : List UInt8} (hf : Rdr f x b1) (K : Int → List UInt8 → α → Int) (hs : ∀ c bs v, c ≠ 0 → K c bs v = c) (hc : ∀ n, n < b2.length → K 0 (b2.take n) x = 6) :
    ∀ n, n < (b1 ++ b2).length → K (f 0 ((b1 ++ b2).take n)).1 (f 0 ((b1 ++ b2).take n)).2.1 (f 0 ((b1 ++ b2).take n)).2.2 = 6 := by
  intro n hn
  by_cases h : n < b1.length
  · have e : (b1 ++ b2).take n = b1.take n := List.take_append_of_le_length (by omega)
    have h6 := hf.cut n h
    rw [e, hs _ _ _ (by omega), h6]
  · have e : (b1 ++ b2).take n = b1 ++ b2.take (n - b1.length) := by
      rw [List.take_append, List.take_of_length_le (by omega)]
    rw [e, hf.back]
    rw [List.length_append] at hn
    exact hc _ (by omega)
theorem num_stop {c : Int} (h : c ≠ 0) (bs : List UInt8) (n : Int) : (numR c bs n).1 = c := by
  unfold numR
  split
  · split
    · next hc => exact absurd hc.1 h
    · show takeCode c bs _ = c
      unfold takeCode
      split
      · exact first_keeps h
      · rfl
  · exact first_keeps h
theorem num_cut {bs : List UInt8} {m : Nat} (h1 : 1 ≤ m) (h8 : m ≤ 8) (h : bs.length < m) : (numR 0 bs (m : Int)).1 = 6 := by
  have hw : isW (m : Int) = true := by simp [isW]; omega
  unfold numR
  rw [if_pos hw, if_neg (by rw [Int.toNat_natCast]; omega)]
  show takeCode 0 bs _ = 6
  unfold takeCode
  rw [if_pos (by rw [Int.toNat_natCast]; exact h)]
  rfl
theorem num_zero2 (code : Int) (bs : List UInt8) (n : Int) (h : (numR code bs n).1 ≠ 0) : (numR code bs n).2.2 = 0 := by
  unfold numR at h ⊢
  split
  · rename_i hw
    rw [if_pos hw] at h
    split
    · rename_i hc; rw [if_pos hc] at h; exact absurd rfl h
    · rfl
  · rfl
theorem num_rdr (n m : Nat) (h1 : 1 ≤ m) (h8 : m ≤ 8) (hn : n < 256 ^ m) : Rdr (fun c bs => numR c bs (m : Int)) n (leBytes n m) :=
  ⟨fun r => numR_back n m r h1 h8 hn, fun k hk => num_cut h1 h8 (by rw [List.length_take]; rw [leBytes_len] at hk; omega), fun c bs h => num_stop h bs _⟩
theorem flag_rdr (d : Bool) : Rdr flagR d [UInt8.ofNat (bitN d)] :=
  ⟨fun r => flagR_back d r, fun k hk => by
      have : k = 0 := by simp at hk; omega
      subst this; rfl, fun c bs h => by
      cases bs with
      | nil => exact first_keeps h
      | cons b r => unfold flagR; dsimp only; rw [if_pos h]⟩
theorem text_stop {c : Int} (h : c ≠ 0) (bs : List UInt8) (n : Int) : (textR c bs n).1 = c := by
  cases bs with
  | nil => exact first_keeps h
  | cons b r => unfold textR; dsimp only; rw [if_pos h]
theorem text_rdr (s : ByteArray) (most : Nat) (h : s.size ≤ most) (h2 : s.size ≤ 255) : Rdr (fun c bs => textR c bs (most : Int)) s.data.toList (txtB s) :=
  ⟨fun r => textR_back s most r h h2, fun k hk => by
      have hl : s.data.toList.length = s.size := Array.length_toList
      have hb : (UInt8.ofNat s.size).toNat = s.size := by simp; omega
      rw [txtB_len] at hk
      show (textR 0 ((UInt8.ofNat s.size :: s.data.toList).take k) most).1 = 6
      cases k with
      | zero => rfl
      | succ k =>
        rw [List.take_succ_cons]
        unfold textR
        dsimp only
        rw [hb, if_neg (by simp), if_neg (by omega), if_pos (by rw [List.length_take]; omega)],
   fun c bs h => text_stop h bs _⟩
theorem stamp_stop {c : Int} (h : c ≠ 0) (bs : List UInt8) : (stampR c bs).1 = c := by
  unfold stampR
  dsimp only
  have h1 := num_stop h bs 4
  rw [num_stop (by rw [h1]; exact h), h1]
theorem stamp_rdr (a b : Nat) (ha : a < 256 ^ 4) (hb : b < 256 ^ 1) : Rdr stampR ⟨a, b⟩ (leBytes a 4 ++ leBytes b 1) :=
  ⟨fun r => by rw [List.append_assoc]; exact stampR_back a b r ha hb,
   fun n hn => by
     have := cut_seq (num_rdr a 4 (by omega) (by omega) ha) (fun c bs _ => (numR c bs 1).1) (fun c bs _ h => num_stop h bs 1) (b2 := leBytes b 1) (fun k hk => (num_rdr b 1 (by omega) (by omega) hb).cut k hk) n hn
     exact this, fun c bs h => stamp_stop h bs⟩
theorem node_rdr {x : Int} (h0 : 0 ≤ x) (h : x < 256) : Rdr nodeR x (nodeL x) :=
  ⟨fun r => by
     have := numR_back x.toNat 1 r (by omega) (by omega) (by omega)
     have e : nodeR 0 (nodeL x ++ r) = ((numR 0 (leBytes x.toNat 1 ++ r) ((1 : Nat) : Int)).1, (numR 0 (leBytes x.toNat 1 ++ r) ((1 : Nat) : Int)).2.1, ((numR 0 (leBytes x.toNat 1 ++ r) ((1 : Nat) : Int)).2.2 : Int)) := rfl
     rw [e, this]
     dsimp only
     rw [show (x.toNat : Int) = x by omega],
   fun n hn => (num_rdr x.toNat 1 (by omega) (by omega) (by omega)).cut n hn, fun c bs h => num_stop h bs 1⟩
theorem len_stop {c : Int} (h : c ≠ 0) (bs : List UInt8) : (lenR c bs).1 = c := by
  have h1 := num_stop h bs 1
  unfold lenR
  split
  · show first_ (numR c bs 1).1 4 = c
    rw [h1, first_keeps h]
  · exact h1
theorem len_rdr {n : Nat} (h : n ≤ 8) : Rdr lenR n (leBytes n 1) :=
  ⟨fun r => by
     have e := numR_back n 1 r (by omega) (by omega) (by omega)
     rw [show ((1 : Nat) : Int) = 1 from rfl] at e
     unfold lenR
     rw [e, if_neg (by dsimp only; omega)],
   fun k hk => by
     have hz := num_zero2 0 ((leBytes n 1).take k) 1
     have e := (num_rdr n 1 (by omega) (by omega) (by omega)).cut k hk
     rw [show ((1 : Nat) : Int) = 1 from rfl] at e
     have h0 := hz (by rw [e]; omega)
     unfold lenR
     rw [h0, if_neg (by omega)]
     exact e, fun c bs h => len_stop h bs⟩
theorem list_stop {α : Type} {f : Tkn α} (hf : ∀ c bs, c ≠ 0 → (f c bs).1 = c) {c : Int} (h : c ≠ 0) (bs : List UInt8) : ∀ n, (listR f n c bs).1 = c
  | 0 => rfl
  | n + 1 => by
    have ih := list_stop hf h bs n
    show (f (listR f n c bs).1 (listR f n c bs).2.1).1 = c
    rw [hf _ _ (by rw [ih]; exact h), ih]
theorem list_back {α : Type} {f : Tkn α} {g : α → List UInt8} (l : List α) (hf : ∀ x ∈ l, Rdr f x (g x)) (r : List UInt8) : ∀ n, n ≤ l.length → listR f n 0 (l.flatMap g ++ r) = (0, (l.drop n).flatMap g ++ r, l.take n)
  | 0, _ => by simp [listR]
  | n + 1, hn => by
    have ih := list_back l hf r n (by omega)
    have hd : l.drop n = l[n]'(by omega) :: l.drop (n + 1) := List.drop_eq_getElem_cons (by omega)
    have hb := (hf (l[n]'(by omega)) (List.getElem_mem _)).back ((l.drop (n + 1)).flatMap g ++ r)
    show ((f (listR f n 0 (l.flatMap g ++ r)).1 (listR f n 0 (l.flatMap g ++ r)).2.1).1, (f (listR f n 0 (l.flatMap g ++ r)).1 (listR f n 0 (l.flatMap g ++ r)).2.1).2.1, (listR f n 0 (l.flatMap g ++ r)).2.2 ++ [(f (listR f n 0 (l.flatMap g ++ r)).1 (listR f n 0 (l.flatMap g ++ r)).2.1).2.2]) = _
    rw [ih]
    dsimp only
    rw [hd, List.flatMap_cons, List.append_assoc, hb]
    dsimp only
    rw [List.take_succ_eq_append_getElem (by omega)]
theorem flat_snoc2 {α : Type} (g : α → List UInt8) (l : List α) (n : Nat) (hn : n < l.length) : (l.take (n + 1)).flatMap g = (l.take n).flatMap g ++ g (l[n]) := by
  rw [List.take_succ_eq_append_getElem hn, List.flatMap_append]; simp
theorem list_cut {α : Type} {f : Tkn α} {g : α → List UInt8} (hs : ∀ c bs, c ≠ 0 → (f c bs).1 = c) : ∀ (l : List α) (hf : ∀ x ∈ l, Rdr f x (g x)) (n : Nat), n < (l.flatMap g).length → (listR f l.length 0 ((l.flatMap g).take n)).1 = 6 := by
  intro l hf
  -- by how many are read whole
  suffices H : ∀ j, j ≤ l.length → ∀ n, n < ((l.take j).flatMap g).length → (listR f j 0 (((l.take j).flatMap g).take n)).1 = 6 by
    have := H l.length (Nat.le_refl _)
    rw [List.take_length] at this
    exact this
  intro j
  induction j with
  | zero => intro _ n hn; simp at hn
  | succ j ih =>
    intro hj n hn
    have hfl := flat_snoc2 g l j (by omega)
    rw [hfl] at hn ⊢
    show (f (listR f j 0 _).1 (listR f j 0 _).2.1).1 = 6
    by_cases h : n < ((l.take j).flatMap g).length
    · rw [List.take_append_of_le_length (by omega)]
      have h6 := ih (by omega) n h
      rw [hs _ _ (by omega), h6]
    · rw [List.take_append, List.take_of_length_le (by omega)]
      have hb := list_back (l.take j) (fun x hx => hf x (List.mem_of_mem_take hx)) ((g l[j]).take (n - ((l.take j).flatMap g).length)) j (by rw [List.length_take]; omega)
      rw [hb]
      dsimp only
      rw [List.drop_of_length_le (by rw [List.length_take]; omega), List.flatMap_nil, List.nil_append]
      rw [List.length_append] at hn
      exact (hf l[j] (List.getElem_mem _)).cut _ (by omega)
theorem many_rdr {α : Type} {f : Tkn α} {g : α → List UInt8} (hs : ∀ c bs, c ≠ 0 → (f c bs).1 = c) (l : List α) (h8 : l.length ≤ 8) (hf : ∀ x ∈ l, Rdr f x (g x)) : Rdr (manyR f) l (listB g l) :=
  ⟨fun r => by
     have e1 := (len_rdr h8).back (l.flatMap g ++ r)
     have e2 := list_back l hf r l.length (Nat.le_refl _)
     show listR f (lenR 0 ((leBytes l.length 1 ++ l.flatMap g) ++ r)).2.2 (lenR 0 ((leBytes l.length 1 ++ l.flatMap g) ++ r)).1 (lenR 0 ((leBytes l.length 1 ++ l.flatMap g) ++ r)).2.1 = _
     rw [List.append_assoc, e1]
     dsimp only
     rw [e2, List.drop_length, List.take_length]
     rfl,
   fun n hn => cut_seq (len_rdr h8) (fun c bs k => (listR f k c bs).1) (fun c bs k h => list_stop hs h bs k) (b2 := l.flatMap g) (fun k hk => list_cut hs l hf k hk) n hn,
   fun c bs h => by
     show (listR f (lenR c bs).2.2 (lenR c bs).1 (lenR c bs).2.1).1 = c
     have h1 := len_stop h bs
     rw [list_stop hs (by rw [h1]; exact h), h1]⟩
theorem mark_stop (c : Int) (bs : List UInt8) (h : c ≠ 0) : (markR c bs).1 = c := by
  have h1 := stamp_stop h bs
  show (textR (stampR c bs).1 (stampR c bs).2.1 16).1 = c
  rw [text_stop (by rw [h1]; exact h), h1]
theorem mark_rdr {x : Mk} (hx : mkFit x) : Rdr markR x (markB x) := by
  obtain ⟨⟨c0, c1⟩, ⟨s0, s1⟩, hk⟩ := hx
  have RS := stamp_rdr x.a.c.toNat x.a.s.toNat (by omega) (by omega)
  have RT := text_rdr x.k 16 hk (by omega)
  refine ⟨fun r => ?_, fun n hn => ?_, mark_stop⟩
  · have e1 := RS.back (txtB x.k ++ r)
    have e2 := RT.back r
    show ((textR (stampR 0 (markB x ++ r)).1 (stampR 0 (markB x ++ r)).2.1 16).1, (textR (stampR 0 (markB x ++ r)).1 (stampR 0 (markB x ++ r)).2.1 16).2.1, (⟨(stampR 0 (markB x ++ r)).2.2, ⟨(textR (stampR 0 (markB x ++ r)).1 (stampR 0 (markB x ++ r)).2.1 16).2.2.toArray⟩⟩ : Mk)) = _
    unfold markB
    rw [List.append_assoc, e1]
    dsimp only at e2 ⊢
    rw [show ((16 : Nat) : Int) = 16 from rfl] at e2
    rw [e2]
    have ea : (⟨(x.a.c.toNat : Int), (x.a.s.toNat : Int)⟩ : St) = x.a := St.eq (by show (x.a.c.toNat : Int) = x.a.c; omega) (by show (x.a.s.toNat : Int) = x.a.s; omega)
    rw [ea]
  · exact cut_seq RS (fun c bs _ => (textR c bs 16).1) (fun c bs _ h => text_stop h bs 16) (b2 := txtB x.k) (fun k hk => RT.cut k hk) n hn
theorem fields_stop (c : Int) (bs : List UInt8) (h : c ≠ 0) : (fieldsF c bs).a7.1 = c := by
  unfold fieldsF
  dsimp only
  have h1 := text_stop h bs 16
  have h2 : (flagR (textR c bs 16).1 (textR c bs 16).2.1).1 = c := by rw [(flag_rdr true).stop _ _ (by rw [h1]; exact h), h1]
  generalize flagR (textR c bs 16).1 (textR c bs 16).2.1 = a2 at *
  have h3 := text_stop (c := a2.1) (by rw [h2]; exact h) a2.2.1 32
  generalize textR a2.1 a2.2.1 32 = a3 at *
  have h4 := stamp_stop (c := a3.1) (by rw [h3, h2]; exact h) a3.2.1
  generalize stampR a3.1 a3.2.1 = a4 at *
  have h5 := stamp_stop (c := a4.1) (by rw [h4, h3, h2]; exact h) a4.2.1
  generalize stampR a4.1 a4.2.1 = a5 at *
  have h6 := num_stop (c := a5.1) (by rw [h5, h4, h3, h2]; exact h) a5.2.1 2
  generalize numR a5.1 a5.2.1 2 = a6 at *
  rw [num_stop (by rw [h6, h5, h4, h3, h2]; exact h), h6, h5, h4, h3, h2]
theorem fields_back2 (m : Ne) (ok : m.ok) (h16 : m.k.size ≤ 16) (h32 : m.v.size ≤ 32) (r : List UInt8) : (fieldsF 0 (layB m ++ r)).en = m.en ∧ (fieldsF 0 (layB m ++ r)).a7.1 = 0 ∧ (fieldsF 0 (layB m ++ r)).a7.2.1 = r := by
  obtain ⟨k, x, d, s1, s2, a1, a2, p, q⟩ := m
  obtain ⟨hk, hv, h1, h2, h3, h4, h5, h6⟩ := ok
  dsimp only at hk hv h1 h2 h3 h4 h5 h6 h16 h32
  have e : layB ⟨k, x, d, s1, s2, a1, a2, p, q⟩ ++ r = txtB k ++ ([UInt8.ofNat (bitN d)] ++ (txtB x ++ (leBytes s1 4 ++ (leBytes s2 1 ++ (leBytes a1 4 ++ (leBytes a2 1 ++ (leBytes p 2 ++ (leBytes q 4 ++ r)))))))) := by
    simp only [layB, List.append_assoc]
  rw [e]
  have r1 := textR_back k 16 ([UInt8.ofNat (bitN d)] ++ (txtB x ++ (leBytes s1 4 ++ (leBytes s2 1 ++ (leBytes a1 4 ++ (leBytes a2 1 ++ (leBytes p 2 ++ (leBytes q 4 ++ r)))))))) h16 hk
  have r2 := flagR_back d (txtB x ++ (leBytes s1 4 ++ (leBytes s2 1 ++ (leBytes a1 4 ++ (leBytes a2 1 ++ (leBytes p 2 ++ (leBytes q 4 ++ r)))))))
  have r3 := textR_back x 32 (leBytes s1 4 ++ (leBytes s2 1 ++ (leBytes a1 4 ++ (leBytes a2 1 ++ (leBytes p 2 ++ (leBytes q 4 ++ r)))))) h32 hv
  have r4 := stampR_back s1 s2 (leBytes a1 4 ++ (leBytes a2 1 ++ (leBytes p 2 ++ (leBytes q 4 ++ r)))) (by omega) (by omega)
  have r5 := stampR_back a1 a2 (leBytes p 2 ++ (leBytes q 4 ++ r)) (by omega) (by omega)
  have r6 := numR_back p 2 (leBytes q 4 ++ r) (by omega) (by omega) (by omega)
  have r7 := numR_back q 4 r (by omega) (by omega) (by omega)
  rw [show ((16 : Nat) : Int) = 16 from rfl] at r1
  rw [show ((32 : Nat) : Int) = 32 from rfl] at r3
  rw [show ((2 : Nat) : Int) = 2 from rfl] at r6
  rw [show ((4 : Nat) : Int) = 4 from rfl] at r7
  unfold fieldsF
  dsimp only
  simp only [r1, r2, r3, r4, r5, r6, r7]
  exact ⟨rfl, trivial, trivial⟩
theorem fields_cut (m : Ne) (ok : m.ok) (h16 : m.k.size ≤ 16) (h32 : m.v.size ≤ 32) (n : Nat) (hn : n < (layB m).length) : (fieldsF 0 ((layB m).take n)).a7.1 = 6 := by
  obtain ⟨k, x, d, s1, s2, a1, a2, p, q⟩ := m
  obtain ⟨hk, hv, h1, h2, h3, h4, h5, h6⟩ := ok
  dsimp only at hk hv h1 h2 h3 h4 h5 h6 h16 h32
  have e : layB ⟨k, x, d, s1, s2, a1, a2, p, q⟩ = txtB k ++ ([UInt8.ofNat (bitN d)] ++ (txtB x ++ ((leBytes s1 4 ++ leBytes s2 1) ++ ((leBytes a1 4 ++ leBytes a2 1) ++ (leBytes p 2 ++ leBytes q 4))))) := by
    simp only [layB, List.append_assoc]
  rw [e] at hn ⊢
  have R1 := text_rdr k 16 h16 hk
  have R2 := flag_rdr d
  have R3 := text_rdr x 32 h32 hv
  have R4 := stamp_rdr s1 s2 (by omega) (by omega)
  have R5 := stamp_rdr a1 a2 (by omega) (by omega)
  have R6 := num_rdr p 2 (by omega) (by omega) (by omega)
  have R7 := num_rdr q 4 (by omega) (by omega) (by omega)
  let K6 : Int → List UInt8 → Nat → Int := fun c bs _ => (numR c bs 4).1
  let K5 : Int → List UInt8 → St → Int := fun c bs _ => K6 (numR c bs 2).1 (numR c bs 2).2.1 (numR c bs 2).2.2
  let K4 : Int → List UInt8 → St → Int := fun c bs _ => K5 (stampR c bs).1 (stampR c bs).2.1 (stampR c bs).2.2
  let K3 : Int → List UInt8 → List UInt8 → Int := fun c bs _ => K4 (stampR c bs).1 (stampR c bs).2.1 (stampR c bs).2.2
  let K2 : Int → List UInt8 → Bool → Int := fun c bs _ => K3 (textR c bs 32).1 (textR c bs 32).2.1 (textR c bs 32).2.2
  let K1 : Int → List UInt8 → List UInt8 → Int := fun c bs _ => K2 (flagR c bs).1 (flagR c bs).2.1 (flagR c bs).2.2
  have S6 : ∀ c bs v, c ≠ 0 → K6 c bs v = c := fun c bs v h => num_stop h bs 4
  have S5 : ∀ c bs v, c ≠ 0 → K5 c bs v = c := fun c bs v h => by have h1 := num_stop h bs 2; exact (S6 _ _ (numR c bs 2).2.2 (by rw [h1]; exact h)).trans h1
  have S4 : ∀ c bs v, c ≠ 0 → K4 c bs v = c := fun c bs v h => by have h1 := stamp_stop h bs; exact (S5 _ _ (stampR c bs).2.2 (by rw [h1]; exact h)).trans h1
  have S3 : ∀ c bs v, c ≠ 0 → K3 c bs v = c := fun c bs v h => by have h1 := stamp_stop h bs; exact (S4 _ _ (stampR c bs).2.2 (by rw [h1]; exact h)).trans h1
  have S2 : ∀ c bs v, c ≠ 0 → K2 c bs v = c := fun c bs v h => by have h1 := text_stop h bs 32; exact (S3 _ _ (textR c bs 32).2.2 (by rw [h1]; exact h)).trans h1
  have S1 : ∀ c bs v, c ≠ 0 → K1 c bs v = c := fun c bs v h => by have h1 := (flag_rdr true).stop c bs h; exact (S2 _ _ (flagR c bs).2.2 (by rw [h1]; exact h)).trans h1
  have C6 : ∀ n, n < (leBytes q 4).length → K6 0 ((leBytes q 4).take n) p = 6 := fun n hn => R7.cut n hn
  have C5 := cut_seq R6 K6 S6 C6
  have C4 := cut_seq R5 K5 S5 (b2 := leBytes p 2 ++ leBytes q 4) C5
  have C3 := cut_seq R4 K4 S4 (b2 := (leBytes a1 4 ++ leBytes a2 1) ++ (leBytes p 2 ++ leBytes q 4)) C4
  have C2 := cut_seq R3 K3 S3 (b2 := (leBytes s1 4 ++ leBytes s2 1) ++ ((leBytes a1 4 ++ leBytes a2 1) ++ (leBytes p 2 ++ leBytes q 4))) C3
  have C1 := cut_seq R2 K2 S2 (b2 := txtB x ++ ((leBytes s1 4 ++ leBytes s2 1) ++ ((leBytes a1 4 ++ leBytes a2 1) ++ (leBytes p 2 ++ leBytes q 4)))) C2
  exact cut_seq R1 K1 S1 (b2 := [UInt8.ofNat (bitN d)] ++ (txtB x ++ ((leBytes s1 4 ++ leBytes s2 1) ++ ((leBytes a1 4 ++ leBytes a2 1) ++ (leBytes p 2 ++ leBytes q 4))))) C1 n hn
theorem ent_stop (c : Int) (bs : List UInt8) (h : c ≠ 0) : (entR c bs).1 = c := by
  have h1 := fields_stop c bs h
  show takeC c bs = c
  unfold takeC
  rw [h1]
  split
  · rfl
  · exact first_keeps h
theorem ent_rdr {e : En} (he : enOk e = true) : Rdr entR e (entB e) := by
  obtain ⟨h1, h2, h16, h32⟩ := enNe_en he
  have hc : enCheck e = 0 := by simpa [enOk] using he
  refine ⟨fun r => ?_, fun n hn => ?_, ent_stop⟩
  · obtain ⟨f1, f2, f3⟩ := fields_back2 (enNe e) h2 h16 h32 r
    have t1 : takeC 0 (entB e ++ r) = 0 := by rw [takeC, entB, f1, h1, if_pos hc, f2]
    show (takeC 0 (entB e ++ r), takeB 0 (entB e ++ r), takeE 0 (entB e ++ r)) = _
    rw [takeE, t1, if_pos rfl, takeB, entB, f3, f1, h1]
  · have h6 := fields_cut (enNe e) h2 h16 h32 n hn
    show takeC 0 ((layB (enNe e)).take n) = 6
    unfold takeC
    rw [h6]
    split
    · rfl
    · rfl
def setF (i : Nat) (m m' : Ms) : Ms :=
  match i with
  | 0 => { m' with pe := m.pe }
  | 1 => { m' with hp := m.hp }
  | 2 => { m' with hi := m.hi }
  | 3 => { m' with ps := m.ps }
  | 4 => { m' with nu := m.nu }
  | 5 => { m' with su := m.su }
  | 6 => { m' with mr := m.mr }
  | 7 => { m' with ms := m.ms }
  | _ => { m' with es := m.es }
theorem node_stop (c : Int) (bs : List UInt8) (h : c ≠ 0) : (nodeR c bs).1 = c := num_stop h bs 1
theorem field_rdr {m : Ms} {i : Nat} (hi : i < 9) (h : fits m i) : (∀ r m', fieldR i 0 (fieldB m i ++ r) m' = (0, r, setF i m m')) ∧ (∀ n m', n < (fieldB m i).length → (fieldR i 0 ((fieldB m i).take n) m').1 = 6) := by
  rcases nine_ways hi with rfl | rfl | rfl | rfl | rfl | rfl | rfl | rfl | rfl
  · have h' : nodeB m.pe = true := h
    simp only [nodeB, Bool.and_eq_true, decide_eq_true_eq] at h'
    have R := node_rdr (x := m.pe) h'.1 (by omega)
    refine ⟨fun r m' => ?_, fun n m' hn => R.cut n hn⟩
    show ((nodeR 0 (nodeL m.pe ++ r)).1, (nodeR 0 (nodeL m.pe ++ r)).2.1, { m' with pe := (nodeR 0 (nodeL m.pe ++ r)).2.2 }) = _
    rw [R.back]; rfl
  · have h' : 0 ≤ m.hp ∧ m.hp ≤ 8 := h
    have R := node_rdr (x := m.hp) h'.1 (by omega)
    refine ⟨fun r m' => ?_, fun n m' hn => R.cut n hn⟩
    show ((nodeR 0 (nodeL m.hp ++ r)).1, (nodeR 0 (nodeL m.hp ++ r)).2.1, { m' with hp := (nodeR 0 (nodeL m.hp ++ r)).2.2 }) = _
    rw [R.back]; rfl
  · have R := flag_rdr m.hi
    refine ⟨fun r m' => ?_, fun n m' hn => R.cut n hn⟩
    show ((flagR 0 ([UInt8.ofNat (bitN m.hi)] ++ r)).1, (flagR 0 ([UInt8.ofNat (bitN m.hi)] ++ r)).2.1, { m' with hi := (flagR 0 ([UInt8.ofNat (bitN m.hi)] ++ r)).2.2 }) = _
    rw [R.back]; rfl
  · have h' : m.ps.length ≤ 8 ∧ ∀ x ∈ m.ps, nodeB x = true := h
    have R := many_rdr node_stop m.ps h'.1 (g := nodeL) (fun x hx => by
      have hb := h'.2 x hx
      simp only [nodeB, Bool.and_eq_true, decide_eq_true_eq] at hb
      exact node_rdr hb.1 (by omega))
    refine ⟨fun r m' => ?_, fun n m' hn => R.cut n hn⟩
    show ((manyR nodeR 0 (listB nodeL m.ps ++ r)).1, (manyR nodeR 0 (listB nodeL m.ps ++ r)).2.1, { m' with ps := (manyR nodeR 0 (listB nodeL m.ps ++ r)).2.2 }) = _
    rw [R.back]; rfl
  · have h' : 0 ≤ m.nu ∧ m.nu ≤ 4294967295 := h
    have R := num_rdr m.nu.toNat 4 (by omega) (by omega) (by omega)
    refine ⟨fun r m' => ?_, fun n m' hn => R.cut n hn⟩
    have e := R.back r
    rw [show ((4 : Nat) : Int) = 4 from rfl] at e
    show ((numR 0 (leBytes m.nu.toNat 4 ++ r) 4).1, (numR 0 (leBytes m.nu.toNat 4 ++ r) 4).2.1, { m' with nu := ((numR 0 (leBytes m.nu.toNat 4 ++ r) 4).2.2 : Int) }) = _
    rw [e]
    dsimp only
    rw [show (m.nu.toNat : Int) = m.nu by omega]; rfl
  · have h' : m.su < 18446744073709551616 := h
    have R := num_rdr m.su 8 (by omega) (by omega) (by omega)
    refine ⟨fun r m' => ?_, fun n m' hn => R.cut n hn⟩
    have e := R.back r
    rw [show ((8 : Nat) : Int) = 8 from rfl] at e
    show ((numR 0 (leBytes m.su 8 ++ r) 8).1, (numR 0 (leBytes m.su 8 ++ r) 8).2.1, { m' with su := (numR 0 (leBytes m.su 8 ++ r) 8).2.2 }) = _
    rw [e]; rfl
  · have R := mark_rdr (x := m.mr) h
    refine ⟨fun r m' => ?_, fun n m' hn => R.cut n hn⟩
    show ((markR 0 (markB m.mr ++ r)).1, (markR 0 (markB m.mr ++ r)).2.1, { m' with mr := (markR 0 (markB m.mr ++ r)).2.2 }) = _
    rw [R.back]; rfl
  · have h' : m.ms.length ≤ 8 ∧ ∀ x ∈ m.ms, mkFit x := h
    have R := many_rdr mark_stop m.ms h'.1 (g := markB) (fun x hx => mark_rdr (h'.2 x hx))
    refine ⟨fun r m' => ?_, fun n m' hn => R.cut n hn⟩
    show ((manyR markR 0 (listB markB m.ms ++ r)).1, (manyR markR 0 (listB markB m.ms ++ r)).2.1, { m' with ms := (manyR markR 0 (listB markB m.ms ++ r)).2.2 }) = _
    rw [R.back]; rfl
  · have h' : m.es.length ≤ 8 ∧ ∀ x ∈ m.es, enOk x = true := h
    have R := many_rdr ent_stop m.es h'.1 (g := entB) (fun x hx => ent_rdr (h'.2 x hx))
    refine ⟨fun r m' => ?_, fun n m' hn => R.cut n hn⟩
    show ((manyR entR 0 (listB entB m.es ++ r)).1, (manyR entR 0 (listB entB m.es ++ r)).2.1, { m' with es := (manyR entR 0 (listB entB m.es ++ r)).2.2 }) = _
    rw [R.back]; rfl
def mixF (m : Ms) : Nat → Ms
  | 0 => msZero m.kd
  | n + 1 => if wHas m.kd n = true then setF n m (mixF m n) else mixF m n
def allF (m : Ms) (n : Nat) : Ms :=
  ⟨m.kd, if 0 < n then m.pe else 0, if 1 < n then m.hp else 0, if 2 < n then m.hi else false, if 3 < n then m.ps else [], if 4 < n then m.nu else 0, if 5 < n then m.su else 0, if 6 < n then m.mr else mkTop, if 7 < n then m.ms else [], if 8 < n then m.es else []⟩
theorem allF_nine (m : Ms) : allF m 9 = m := by simp [allF]
theorem allF_zero (m : Ms) : allF m 0 = msZero m.kd := by simp [allF, msZero]
theorem allF_succ (m : Ms) {n : Nat} (hn : n < 9) : allF m (n + 1) = setF n m (allF m n) := by
  rcases nine_ways hn with rfl | rfl | rfl | rfl | rfl | rfl | rfl | rfl | rfl <;> simp [allF, setF]
theorem isTop_eq {x : Mk} (h : isTop x = true) : x = mkTop := by
  simp only [isTop, Bool.and_eq_true, decide_eq_true_eq] at h
  exact Mk.eq ((stSame_iff _ _).1 h.1) h.2
theorem none_set {m : Ms} {i : Nat} (hi : i < 9) (h : wNone m i = true) : setF i m (allF m i) = allF m i := by
  rcases nine_ways hi with rfl | rfl | rfl | rfl | rfl | rfl | rfl | rfl | rfl
  · have h' : (m.pe == 0) = true := h
    have e : m.pe = 0 := by simpa using h'
    simp [setF, allF, e]
  · have h' : (m.hp == 0) = true := h
    have e : m.hp = 0 := by simpa using h'
    simp [setF, allF, e]
  · have h' : (!m.hi) = true := h
    have e : m.hi = false := by simpa using h'
    simp [setF, allF, e]
  · have h' : ((m.ps.length : Int) == 0) = true := h
    have e : m.ps = [] := List.eq_nil_of_length_eq_zero (by have : (m.ps.length : Int) = 0 := by simpa using h'
                                                            omega)
    simp [setF, allF, e]
  · have h' : (m.nu == 0) = true := h
    have e : m.nu = 0 := by simpa using h'
    simp [setF, allF, e]
  · have h' : ((m.su : Int) == 0) = true := h
    have e : m.su = 0 := by
      have : (m.su : Int) = 0 := by simpa using h'
      omega
    simp [setF, allF, e]
  · have e : m.mr = mkTop := isTop_eq h
    simp [setF, allF, e]
  · have h' : ((m.ms.length : Int) == 0) = true := h
    have e : m.ms = [] := List.eq_nil_of_length_eq_zero (by have : (m.ms.length : Int) = 0 := by simpa using h'
                                                            omega)
    simp [setF, allF, e]
  · have h' : ((m.es.length : Int) == 0) = true := h
    have e : m.es = [] := List.eq_nil_of_length_eq_zero (by have : (m.es.length : Int) = 0 := by simpa using h'
                                                            omega)
    simp [setF, allF, e]
theorem mix_all {m : Ms} (h : wGood m = 0) : ∀ n, n ≤ 9 → mixF m n = allF m n
  | 0, _ => (allF_zero m).symm
  | n + 1, hn => by
    have ih := mix_all h n (by omega)
    rw [allF_succ m (by omega)]
    show (if wHas m.kd n = true then setF n m (mixF m n) else mixF m n) = setF n m (allF m n)
    split
    · rw [ih]
    · next hh =>
      have hf := good_field h (i := n) (by omega)
      unfold wField at hf
      rw [if_neg hh] at hf
      rw [ih, none_set (by omega) hf]
theorem run_forth {m : Ms} (hf : ∀ i, i < 9 → wHas m.kd i = true → fits m i) : ∀ n, n ≤ 9 → ∀ r, runR m.kd (runB m n ++ r) n = (0, r, mixF m n)
  | 0, _, r => rfl
  | n + 1, hn, r => by
    by_cases hh : wHas m.kd n = true
    · have e1 : runB m (n + 1) = runB m n ++ fieldB m n := if_pos hh
      have e2 : ∀ bs, runR m.kd bs (n + 1) = fieldR n (runR m.kd bs n).1 (runR m.kd bs n).2.1 (runR m.kd bs n).2.2 := fun bs => if_pos hh
      have e3 : mixF m (n + 1) = setF n m (mixF m n) := if_pos hh
      rw [e1, e2, e3, List.append_assoc, run_forth hf n (by omega)]
      exact (field_rdr (by omega) (hf n (by omega) hh)).1 r _
    · have e1 : runB m (n + 1) = runB m n := if_neg hh
      have e2 : ∀ bs, runR m.kd bs (n + 1) = runR m.kd bs n := fun bs => if_neg hh
      have e3 : mixF m (n + 1) = mixF m n := if_neg hh
      rw [e1, e2, e3]
      exact run_forth hf n (by omega) r
theorem wd_forth {m : Ms} (h : wGood m = 0) (hs : m.su < 18446744073709551616) (r : List UInt8) : wdC m.kd (wEnc m ++ r) = (if r.length = 0 then 0 else 4) ∧ wdM m.kd (wEnc m ++ r) = (if r.length = 0 then m else msZero 0) := by
  have hf : ∀ i, i < 9 → wHas m.kd i = true → fits m i := fun i hi hh => good_fits h hs hi hh
  have e := run_forth hf 9 (Nat.le_refl _) r
  rw [mix_all h 9 (Nat.le_refl _), allF_nine] at e
  have hc : wdC m.kd (wEnc m ++ r) = (if r.length = 0 then 0 else 4) := by
    unfold wdC wEnc
    rw [if_pos (good_kind h), e]
    dsimp only
    by_cases h0 : r.length = 0
    · have hd : doneCode 0 r = 0 := by unfold doneCode; rw [if_neg (by omega)]
      rw [hd, if_pos rfl, if_pos h0, h]
    · have hd : doneCode 0 r = 4 := by unfold doneCode; rw [if_pos (by omega)]; rfl
      rw [hd, if_neg (by decide), if_neg h0]
  refine ⟨hc, ?_⟩
  unfold wdM
  rw [hc]
  by_cases h0 : r.length = 0
  · rw [if_pos h0, if_pos rfl, if_pos h0]
    unfold wEnc
    rw [e]
  · rw [if_neg h0, if_neg (by decide), if_neg h0]
end Go.Proofs.YtlieolehpmobfaaGreatDoor
end
