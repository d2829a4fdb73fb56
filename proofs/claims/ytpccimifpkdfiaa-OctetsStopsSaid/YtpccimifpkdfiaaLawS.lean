/- The call of OctetsStops answers yes, and changes nothing that was there. The statement itself is proved in the text that imports this one. -/
import Derived.Test.YtpccimifpkdfiaaPuts
import Derived.Deep.RegionHeld3
import Derived.Deep.DrawnRows
namespace Go.Proofs.Ytpccimifpkdfiaa
open Go.RowKit
attribute [local go_sem ↓] Go.wp_at_zero Go.wp_at_succ

/-- What a call at a stopped writer leaves. -/
def Stopped (w w' : World) (g base : Nat) (c : Int) (v : Value) (bs : List UInt8) (e : Ending) : Prop :=
  e = .returned (.pointer (some ⟨g, 0, none⟩)) ∧ ∃ v', Wr w' g base c v' bs ∧ Only (foot g v) w w'

section
variable {w : World} {g base : Nat} {c : Int} {v : Value} {bs : List UInt8}
theorem number_stop (h : Wr w g base c v bs) (hc : c ≠ 0) (n : Nat) (hn : n < 18446744073709551616) (wd : Int) (hb : bs.length + 8 ≤ 140737488355328) (hbase : base ≤ w.heap.size) :
    Calls Try.prog 10 #[.pointer (some ⟨g, 0, none⟩), .int .u64 (n : Int), .int .i64 wd] w fun e w' => Stopped w w' g base c v bs e := by
  have := writer_number g base c wd n v bs w h hn hb hbase
  rw [numCode_stop hc, numBs_stop hc] at this
  exact this.mono fun e w' ⟨h1, v', h2, h3, _⟩ => ⟨h1, v', h2, h3⟩
theorem flag_stop (h : Wr w g base c v bs) (hc : c ≠ 0) (b : Bool) (hb : bs.length + 8 ≤ 140737488355328) (hbase : base ≤ w.heap.size) :
    Calls Try.prog 13 #[.pointer (some ⟨g, 0, none⟩), .bool b] w fun e w' => Stopped w w' g base c v bs e := by
  have := writer_flag g base c b v bs w h hb hbase
  rw [putS_stop hc] at this
  exact this.mono fun e w' ⟨h1, v', h2, h3, _⟩ => ⟨h1, v', h2, h3⟩
theorem text_stop (h : Wr w g base c v bs) (hc : c ≠ 0) (s : ByteArray) (hb : bs.length + 300 ≤ 140737488355328) (hbase : base ≤ w.heap.size) (hs : s.size ≤ 9223372036854775807) :
    Calls Try.prog 14 #[.pointer (some ⟨g, 0, none⟩), .string s] w fun e w' => Stopped w w' g base c v bs e := by
  have := writer_text g base c s v bs w h hb hbase hs
  rw [textCode_stop hc, textBs_stop hc] at this
  exact this.mono fun e w' ⟨h1, v', h2, h3, _⟩ => ⟨h1, v', h2, h3⟩
theorem raw_stop (h : Wr w g base c v bs) (hc : c ≠ 0) (pv : Value) (pss : List (List UInt8)) (S : Nat → Prop) (hp : Parts w S pv pss) (hS : ∀ b, S b → ¬ foot g v b) (hb : bs.length + pss.flatten.length ≤ 140737488355328) (hbase : base ≤ w.heap.size) (hpl : pss.length ≤ 1000) :
    Calls Try.prog 15 #[.pointer (some ⟨g, 0, none⟩), pv] w fun e w' => Stopped w w' g base c v bs e := by
  have := writer_raw g base c v pv bs pss S w h hp hS hb hbase hpl
  rw [putS_stop hc] at this
  exact this.mono fun e w' ⟨h1, v', h2, h3, _⟩ => ⟨h1, v', h2, h3⟩
end

/-- What stands while one put is gone through: the writer is stopped, the put's copy lies in block b, nothing of W has changed. -/
def InvS (W : World) (g b : Nat) (kd wd : Int) (n : Nat) (xv : Value) (w : World) : Prop :=
  (∃ v, Wr w g g 2 v []) ∧ Blk w b 33 #[.int .i64 kd, .int .i64 wd, .int .u64 (n : Int), xv] ∧ Only none_ W w ∧ W.heap.size ≤ g
def KeepB (w w' : World) : Prop := ∀ b cs, Blk w b 28 cs → Blk w' b 28 cs

section
variable {W w : World} {g b : Nat} {kd wd : Int} {n : Nat} {xv : Value}
theorem InvS.step {w' : World} (I : InvS W g b kd wd n xv w) {v v' : Value} (hv : Wr w g g 2 v []) (hw : Wr w' g g 2 v' []) (ho : Only (foot g v) w w') : InvS W g b kd wd n xv w' ∧ KeepB w w' := by
  obtain ⟨_, hb, hO, hg⟩ := I
  refine ⟨⟨⟨v', hw⟩, hb.only ho ?_, hO.trans' ho ?_, hg⟩, fun b' cs h => h.only ho ?_⟩
  · rintro (h | h)
    · exact Blk.ne_ hb hv.1 (by decide) h
    · exact own_blk_ne hv.2 hb (by decide) h
  · intro k hk hf
    have := hv.foot_ge (Nat.le_refl _) hf
    omega
  · rintro (h' | h')
    · exact Blk.ne_ h hv.1 (by decide) h'
    · exact own_blk_ne hv.2 h (by decide) h'
theorem InvS.alloc (I : InvS W g b kd wd n xv w) (o : Obj) : InvS W g b kd wd n xv (w.alloc o) := by
  obtain ⟨⟨v, hv⟩, hb, hO, hg⟩ := I
  exact ⟨⟨v, hv.only ((Only.refl none_ w).alloc o) (fun _ _ h => h)⟩, hb.alloc o, hO.alloc o, hg⟩
theorem InvS.drew (I : InvS W g b kd wd n xv w) : InvS W g b kd wd n xv w.drew := ⟨I.1, I.2.1, I.2.2.1.drew, I.2.2.2⟩
theorem number_inv (I : InvS W g b kd wd n xv w) (hn : n < 18446744073709551616) :
    Calls Try.prog 10 #[.pointer (some ⟨g, 0, none⟩), .int .u64 (n : Int), .int .i64 wd] w fun e w' => e = .returned (.pointer (some ⟨g, 0, none⟩)) ∧ InvS W g b kd wd n xv w' ∧ KeepB w w' := by
  obtain ⟨v, hv⟩ := I.1
  refine (number_stop hv (by decide) n hn wd (by simp) (Nat.le_of_lt hv.1.lt)).mono ?_
  rintro e w' ⟨rfl, v', h1, h2⟩
  exact ⟨rfl, I.step hv h1 h2⟩
theorem flag_inv (I : InvS W g b kd wd n xv w) (t : Bool) :
    Calls Try.prog 13 #[.pointer (some ⟨g, 0, none⟩), .bool t] w fun e w' => e = .returned (.pointer (some ⟨g, 0, none⟩)) ∧ InvS W g b kd wd n xv w' ∧ KeepB w w' := by
  obtain ⟨v, hv⟩ := I.1
  refine (flag_stop hv (by decide) t (by simp) (Nat.le_of_lt hv.1.lt)).mono ?_
  rintro e w' ⟨rfl, v', h1, h2⟩
  exact ⟨rfl, I.step hv h1 h2⟩
theorem text_inv (I : InvS W g b kd wd n xv w) (s : ByteArray) (hs : s.size ≤ 9223372036854775807) :
    Calls Try.prog 14 #[.pointer (some ⟨g, 0, none⟩), .string s] w fun e w' => e = .returned (.pointer (some ⟨g, 0, none⟩)) ∧ InvS W g b kd wd n xv w' ∧ KeepB w w' := by
  obtain ⟨v, hv⟩ := I.1
  refine (text_stop hv (by decide) s (by simp) (Nat.le_of_lt hv.1.lt) hs).mono ?_
  rintro e w' ⟨rfl, v', h1, h2⟩
  exact ⟨rfl, I.step hv h1 h2⟩
theorem parts_blk {S : Nat → Prop} {bs : List UInt8} {b' : Nat} (h : Byt w S xv bs) (hb : Blk w b' 28 #[xv]) : Parts w (fun k => k = b' ∨ S k) (.slice (some ⟨b', 0, none⟩) 1 1) [bs] := by
  refine ⟨_, _, 1, rfl, hb.lt, .inl rfl, fun j hj => ?_⟩
  have hj0 : j = 0 := by simp at hj; omega
  subst hj0
  exact ⟨xv, by simpa using hb.cell_ (i := 0) (u := xv) rfl, h.mono fun _ _ h => .inr h⟩
theorem raw_inv (I : InvS W g b kd wd n xv w) {S : Nat → Prop} {bs : List UInt8} {b' : Nat} (h : Byt W S xv bs) (hS : ∀ b, S b → b < W.heap.size) (hl : bs.length ≤ 300) (hb : Blk w b' 28 #[xv]) :
    Calls Try.prog 15 #[.pointer (some ⟨g, 0, none⟩), .slice (some ⟨b', 0, none⟩) 1 1] w fun e w' => e = .returned (.pointer (some ⟨g, 0, none⟩)) ∧ InvS W g b kd wd n xv w' ∧ KeepB w w' := by
  obtain ⟨v, hv⟩ := I.1
  refine (raw_stop hv (by decide) _ [bs] _ (parts_blk (h.only I.2.2.1 (fun _ _ h => h)) hb) ?_ (by simp; omega) (Nat.le_of_lt hv.1.lt) (by simp)).mono ?_
  · rintro k (rfl | hk) (h' | h')
    · exact Blk.ne_ hb hv.1 (by decide) h'
    · exact own_blk_ne hv.2 hb (by decide) h'
    · have := hS k hk; have := I.2.2.2; omega
    · have := hS k hk; have := I.2.2.2; have := (hv.2.lt k h').1; omega
  · rintro e w' ⟨rfl, v', h1, h2⟩
    exact ⟨rfl, I.step hv h1 h2⟩
/-- What the loads of the put's copy, and the text made of its bytes, come to. -/
def SeenS (W : World) (g b : Nat) (kd wd : Int) (n : Nat) (xv : Value) (bs : List UInt8) (w : World) : Prop :=
  InvS W g b kd wd n xv w ∧ w.cell? ⟨b, 1, none⟩ = some (.int .i64 wd) ∧ w.cell? ⟨b, 2, none⟩ = some (.int .u64 (n : Int)) ∧ w.cell? ⟨b, 3, none⟩ = some xv ∧ (convert 28 9 xv).run Try.prog w = .ok (.string ⟨bs.toArray⟩) w
theorem InvS.seen (I : InvS W g b kd wd n xv w) {S : Nat → Prop} {bs : List UInt8} (h : Byt W S xv bs) : SeenS W g b kd wd n xv bs w :=
  ⟨I, I.2.1.cell_ (i := 1) rfl, I.2.1.cell_ (i := 2) rfl, I.2.1.cell_ (i := 3) rfl, run_bytes_string w S xv bs (h.only I.2.2.1 (fun _ _ h => h))⟩
end

/-- What stands while one take is gone through: the reader is stopped, the take's copy lies in block b, of W the reader alone may have changed. -/
def InvT (W : World) (g b : Nat) (S : Nat → Prop) (kd n : Int) (bs : List UInt8) (w : World) : Prop :=
  Rd w g S 6 bs ∧ Blk w b 51 #[.int .i64 kd, .int .i64 n] ∧ Only (one g) W w ∧ b ≠ g
section
variable {W w : World} {g b : Nat} {S : Nat → Prop} {kd n : Int} {bs : List UInt8}
theorem InvT.step {w' : World} (I : InvT W g b S kd n bs w) (h : Rd w' g S 6 bs) (ho : Only (one g) w w') : InvT W g b S kd n bs w' ∧ w'.cell? ⟨b, 0, none⟩ = some (.int .i64 kd) ∧ w'.cell? ⟨b, 1, none⟩ = some (.int .i64 n) := by
  obtain ⟨_, hb, hO, hg⟩ := I
  have hb' := hb.only ho hg
  exact ⟨⟨h, hb', hO.trans ho, hg⟩, hb'.cell_ (i := 0) rfl, hb'.cell_ (i := 1) rfl⟩
theorem rnumber_inv (I : InvT W g b S kd n bs w) (hl : bs.length ≤ 600) (m : Int) :
    Calls Try.prog 21 #[.pointer (some ⟨g, 0, none⟩), .int .i64 m] w fun e w' => e = .returned (.int .u64 0) ∧ InvT W g b S kd n bs w' ∧ w'.cell? ⟨b, 0, none⟩ = some (.int .i64 kd) ∧ w'.cell? ⟨b, 1, none⟩ = some (.int .i64 n) := by
  have := reader_number g S 6 bs m w I.1 (by omega)
  rw [numR_stop (by decide)] at this
  exact this.mono fun e w' ⟨h1, h2, h3⟩ => ⟨h1, I.step h2 h3⟩
theorem rflag_inv (I : InvT W g b S kd n bs w) (hl : bs.length ≤ 600) :
    Calls Try.prog 23 #[.pointer (some ⟨g, 0, none⟩)] w fun e w' => e = .returned (.bool false) ∧ InvT W g b S kd n bs w' ∧ w'.cell? ⟨b, 0, none⟩ = some (.int .i64 kd) ∧ w'.cell? ⟨b, 1, none⟩ = some (.int .i64 n) := by
  have := reader_flag g S 6 bs w I.1 (by omega)
  rw [flagR_stop (by decide)] at this
  exact this.mono fun e w' ⟨h1, h2, h3⟩ => ⟨h1, I.step h2 h3⟩
theorem rtext_inv (I : InvT W g b S kd n bs w) (hl : bs.length ≤ 600) (m : Int) :
    Calls Try.prog 25 #[.pointer (some ⟨g, 0, none⟩), .int .i64 m] w fun e w' => e = .returned (.string ⟨#[]⟩) ∧ InvT W g b S kd n bs w' ∧ w'.cell? ⟨b, 0, none⟩ = some (.int .i64 kd) ∧ w'.cell? ⟨b, 1, none⟩ = some (.int .i64 n) := by
  have := reader_text g S 6 bs m w I.1 (by omega)
  rw [textR_stop (by decide)] at this
  exact this.mono fun e w' ⟨h1, h2, h3⟩ => ⟨h1, I.step h2 h3⟩
theorem InvT.drew (I : InvT W g b S kd n bs w) : InvT W g b S kd n bs w.drew := ⟨I.1, I.2.1, I.2.2.1.drew, I.2.2.2⟩
theorem rfail_inv (I : InvT W g b S kd n bs w) (m : Int) :
    Calls Try.prog 28 #[.pointer (some ⟨g, 0, none⟩), .int .i64 m] w fun e w' => e = .returned (.tuple #[]) ∧ InvT W g b S kd n bs w' ∧ w'.cell? ⟨b, 0, none⟩ = some (.int .i64 kd) ∧ w'.cell? ⟨b, 1, none⟩ = some (.int .i64 n) := by
  have := reader_fail g S 6 m bs w I.1
  rw [first_stop (by decide)] at this
  exact this.mono fun e w' ⟨h1, h2, h3⟩ => ⟨h1, I.step h2 h3⟩
theorem rraw_inv (I : InvT W g b S kd n bs w) (hl : bs.length ≤ 600) (m : Int) :
    Calls Try.prog 27 #[.pointer (some ⟨g, 0, none⟩), .int .i64 m] w fun e w' => (∃ A c, e = .returned (.slice A 0 c)) ∧ InvT W g b S kd n bs w' ∧ w'.cell? ⟨b, 0, none⟩ = some (.int .i64 kd) ∧ w'.cell? ⟨b, 1, none⟩ = some (.int .i64 n) := by
  have := reader_raw g S 6 bs m w I.1 (by omega)
  rw [rawR_stop (by decide)] at this
  refine this.mono ?_
  rintro e w' ⟨A, k, c, rfl, h1, h2, h3⟩
  obtain rfl : k = 0 := by simpa using own_len h1
  exact ⟨⟨A, c, rfl⟩, I.step h2 h3⟩
end

set_option maxHeartbeats 1600000 in
theorem stops_short (pv : Value) (l : List PutR) (x : Value) (bs : List UInt8) (tv : Value) (ts : List TakeR) (S : Nat → Prop) (W : World) (hp : Puts W S pv l) (hb : Byt W S x bs) (ht : Takes W S tv ts) (hS : ∀ b, S b → b < W.heap.size)
    (hf : fewP l) (hl : bs.length ≤ 600) (hm : ts.length ≤ 40) :
    Calls Try.prog 7 #[pv, x, tv] W fun e w' => e = .returned (.bool true) ∧ Below W.heap.size W w' := by
  obtain ⟨T, hT, HF⟩ := few_any pv l S W hp
  obtain rfl : T = true := hT.2 hf
  clear hT
  have HP := Lib.hid hp
  have HB := Lib.hid hb
  have HT := Lib.hid ht
  have hl40 := hf.2
  have HF1 := Lib.hid hf.1
  have hv : ∃ A c, x = .slice A bs.length c := by obtain ⟨A, c, h, _⟩ := hb; exact ⟨A, c, h⟩
  obtain ⟨A, c, rfl⟩ := hv
  have hv : ∃ A c, pv = .slice A l.length c := by obtain ⟨A, c, h, _⟩ := hp; exact ⟨A, c, h⟩
  obtain ⟨Ap, cp, rfl⟩ := hv
  have hv : ∃ A c, tv = .slice A ts.length c := by obtain ⟨A, c, h, _⟩ := ht; exact ⟨A, c, h⟩
  obtain ⟨At, ct, rfl⟩ := hv
  clear hp hb ht hf
  have hN : Hid (numCode 0 256 1 = 2 ∧ numBs 0 [] 256 1 = []) := ⟨by simp [numCode, isW, first_], by simp [numBs, isW]⟩
  go_enter Try.func7, Try.ntmps7
  go_wp2_with (first
    | (go_at_call 8; refine (speaks_any _).mono ?_; rintro e W1 ⟨rfl, o1⟩)
    | (go_at_call 9; refine (HF _ (HP.out.only o1 (fun _ _ h => h))).mono ?_; rintro e W2 ⟨rfl, o2⟩
       have hW2 : Wr (W2.alloc (.cells #[.int .i64 0, .slice none 0 0] 30)) W2.heap.size W2.heap.size 0 (.slice none 0 0) [] := ⟨Blk.new _ _ _, World.ownsRow_nil _ _ _ _⟩
       have HN := writer_number _ _ 0 1 256 _ _ _ hW2 (by omega) (by simp) (by simp)
       rw [hN.out.1, hN.out.2] at HN)
    | (go_at_call 10; refine HN.mono ?_; rintro e W3 ⟨rfl, v3, h3, o3, m3⟩; have H3 := Lib.hid h3; clear h3 m3))
  have hWs : Hid (W.heap.size ≤ W2.heap.size) := Nat.le_trans o1.size o2.size
  have O3 : Only none_ W W3 := by
    refine ((o1.trans o2).alloc _).trans' o3 ?_
    rintro k hk (rfl | hf)
    · have := hWs.out; omega
    · simp [Value.ownBlock] at hf
  generalize W2.heap.size = g at *
  clear o1 o2 o3 HN hW2
  go_loopw [34] (fun i wr => ∃ (k : Nat) (v : Value), k ≤ l.length ∧ i = .int .i64 k ∧ Wr wr g g 2 v [] ∧ Only none_ W wr) (fun i _ => l.length - (intOf i).toNat)
  case atStart => exact ⟨0, v3, by omega, rfl, H3.out, O3⟩
  case round =>
    obtain ⟨k, v, hk, rfl, hv, ho⟩ := hrel
    by_cases hlt : k < l.length
    · obtain ⟨A', c', hAe, _, hcs⟩ := HP.out
      injection hAe with hA1 _ hA3
      subst hA1 hA3
      obtain ⟨b, off, rfl, hb, hSb, hc⟩ := hcs (by omega)
      obtain ⟨h0, h1, h2, h3, h4, h5⟩ := (hc k hlt).only hb hSb ho (fun _ _ h => h)
      have hB5 := (hc k hlt).2.2.2.2.2
      have h6 : Hid (l[k].bs.length ≤ 300) := HF1.out _ (List.getElem_mem hlt)
      obtain ⟨p, hp⟩ : ∃ p, p = l[k] := ⟨_, rfl⟩
      rw [← hp] at h0 h1 h2 h3 h4 h5 hB5 h6
      obtain ⟨A5, c5, hx, _⟩ := h5
      rw [hx] at h3 hB5
      have HB5 := Lib.hid hB5
      have HV := Lib.hid hv
      have HO := Lib.hid ho
      clear hp hx hc hcs hB5 hv ho
      go_wp2_with fail
      have HI : Hid (InvS W g wr.heap.size p.kind p.width p.v (.slice A5 p.bs.length c5) (wr.alloc (.cells #[.int .i64 p.kind, .int .i64 p.width, .int .u64 (p.v : Int), .slice A5 p.bs.length c5] 33))) :=
        ⟨⟨v, HV.out.only ((Only.refl none_ wr).alloc _) (fun _ _ h => h)⟩, Blk.new _ _ _, HO.out.alloc _, hWs.out⟩
      generalize (wr.alloc (.cells #[.int .i64 p.kind, .int .i64 p.width, .int .u64 (p.v : Int), .slice A5 p.bs.length c5] 33)) = W4 at *
      generalize wr.heap.size = b4 at *
      go_region_held3 (fun w' => InvS W g b4 p.kind p.width p.v (.slice A5 p.bs.length c5) w' ∧ w'.cell? ⟨b4, 1, none⟩ = some (.int .i64 p.width) ∧ w'.cell? ⟨b4, 2, none⟩ = some (.int .u64 (p.v : Int)) ∧ w'.cell? ⟨b4, 3, none⟩ = some (.slice A5 p.bs.length c5) ∧ (convert 28 9 (.slice A5 p.bs.length c5)).run Try.prog w' = .ok (.string ⟨p.bs.toArray⟩) w')
        (first | exact I8.out.seen HB5.out | exact HI.out.drew.seen HB5.out | exact (HI.out.alloc _).drew.seen HB5.out | exact I7.out.seen HB5.out | exact (I7.out.alloc _).seen HB5.out | exact I6.out.seen HB5.out | exact (I6.out.alloc _).seen HB5.out | exact I5.out.seen HB5.out | exact (I5.out.alloc _).seen HB5.out)
        (first
        | (go_at_call 10; refine (number_inv (by first | exact HI.out.drew | exact (HI.out.alloc _).drew) h4).mono ?_; rintro e W5 ⟨rfl, i5, k5⟩; have I5 := Lib.hid i5; have K5 := Lib.hid k5; clear i5 k5)
        | (go_at_call 13; refine (flag_inv (by first | exact I5.out | exact I5.out.alloc _) true).mono ?_; rintro e W6 ⟨rfl, i6, k6⟩; have I6 := Lib.hid i6; have K6 := Lib.hid k6; clear i6 k6)
        | (go_at_call 14; refine (text_inv (by first | exact I6.out | exact I6.out.alloc _) _ (by have := h6.out; simp [ByteArray.size]; omega)).mono ?_; rintro e W7 ⟨rfl, i7, k7⟩; have I7 := Lib.hid i7; have K7 := Lib.hid k7; clear i7 k7)
        | (go_at_call 15; refine (raw_inv (by first | exact I7.out | exact I7.out.alloc _) HB5.out hS h6.out
            (by first | exact Blk.new _ _ _ | exact K7.out _ _ (Blk.new _ _ _) | exact K7.out _ _ (K6.out _ _ (Blk.new _ _ _)) | exact K7.out _ _ (K6.out _ _ (K5.out _ _ (Blk.new _ _ _))) | exact K7.out _ _ (K6.out _ _ (K5.out _ _ (Blk.drew (Blk.new _ _ _)))))).mono ?_; rintro e W8 ⟨rfl, i8, k8⟩; have I8 := Lib.hid i8; clear i8 k8))
      all_goals
        go_wp2_with fail
        go_roundw
        case rel =>
          obtain ⟨⟨v8, hv8⟩, _, hO8, _⟩ := I8.out
          exact ⟨k + 1, v8, by omega, by go_num, hv8, hO8⟩
        case measure => simp [intOf]; omega
    · obtain ⟨W4, rfl⟩ : ∃ W4 : World, W4 = wr := ⟨_, rfl⟩
      have hv4 := Lib.hid hv
      have hO4 := Lib.hid ho
      have hsz4 := ho.size
      clear hv ho
      have HR : ∀ w g', Rd w g' (fun b => W4.heap.size ≤ b ∧ b < w.heap.size) 0 bs → True := fun _ _ _ => trivial
      clear HR
      go_wp2_with (first
        | (go_at_call 19; refine (read_any _ bs _ _ (HB.out.only hO4.out (fun _ _ h => h)) (by omega)).mono ?_; rintro e W5 ⟨g5, S5, rfl, hg5, h5, hs5, o5⟩; have H5 := Lib.hid h5; have HS5 := Lib.hid hs5; have O5 := Lib.hid o5; clear h5 hs5 o5
           have HR : Calls Try.prog 27 #[.pointer (some ⟨g5, 0, none⟩), .int .i64 ((bs.length : Int) + 1)] W5 fun e w' => ∃ A k c, e = .returned (.slice A k c) ∧ Rd w' g5 S5 6 bs ∧ Only (one g5) W5 w' := by
             have := reader_raw g5 S5 0 bs ((bs.length : Int) + 1) W5 H5.out (by omega)
             have hR : rawR 0 bs ((bs.length : Int) + 1) = (6, bs, []) := by
               have h1 : ¬ ((bs.length : Int) + 1 < 0) := by omega
               have h2 : ((bs.length : Int) + 1).toNat = bs.length + 1 := by omega
               simp [rawR, h1, h2, takeCode, first_]
             rw [hR] at this
             exact this.mono fun e w' ⟨A, k, c, h1, _, h2, h3⟩ => ⟨A, k, c, h1, h2, h3⟩)
        | (go_at_call 27; refine HR.mono ?_; rintro e W6 ⟨A6, k6, c6, rfl, h6, o6⟩; have H6 := Lib.hid h6; have O6 := Lib.hid o6; clear h6 o6 HR))
      have X6 : Hid (Wr W6 g g 2 v []) := (hv4.out.only O5.out (fun _ _ h => h)).only O6.out (fun b hb h => by
        have := hv4.out.foot_lt hb
        simp only [one] at h
        omega)
      have U6 : Hid (Only none_ W W6) := (hO4.out.trans O5.out).trans' O6.out (fun b hb h => by simp only [one] at h; omega)
      have hsz6 : W4.heap.size ≤ W6.heap.size := Nat.le_trans O5.out.size O6.out.size
      have hgl := hv4.out.1.lt
      have hg5' := H6.out.lt
      have HS6 : Hid (∀ b, S5 b → W4.heap.size ≤ b ∧ b < W6.heap.size) := fun b hb => ⟨(HS5.out b hb).1, Nat.lt_of_lt_of_le (HS5.out b hb).2 O6.out.size⟩
      go_loopw [64] (fun i wr => ∃ k : Nat, k ≤ ts.length ∧ i = .int .i64 k ∧ Rd wr g5 S5 6 bs ∧ Only (one g5) W6 wr) (fun i _ => ts.length - (intOf i).toNat)
      case atStart => exact ⟨0, by omega, rfl, H6.out, Only.refl _ _⟩
      case round =>
        obtain ⟨k, hk, rfl, hr, ho⟩ := hrel
        by_cases hlt : k < ts.length
        · obtain ⟨A', c', hAe, _, hcs⟩ := HT.out.only (U6.out.of_none.trans ho) (fun b hb h => by have := hS b hb; simp only [one] at h; omega)
          injection hAe with hA1 _ hA3
          subst hA1 hA3
          obtain ⟨b, off, rfl, hb, hSb, hc⟩ := hcs (by omega)
          obtain ⟨h0, h1⟩ := hc k hlt
          obtain ⟨t, htt⟩ : ∃ t, t = ts[k] := ⟨_, rfl⟩
          rw [← htt] at h0 h1
          have HR := Lib.hid hr
          have HO := Lib.hid ho
          clear htt hc hcs hr ho
          go_wp2_with fail
          have HI : Hid (InvT W6 g5 wr.heap.size S5 t.kind t.n bs (wr.alloc (.cells #[.int .i64 t.kind, .int .i64 t.n] 51))) :=
            ⟨HR.out.only ((Only.refl none_ wr).alloc _) (fun h => h) (fun _ _ h => h), Blk.new _ _ _, HO.out.alloc _, by have := HR.out.lt; omega⟩
          have hc0 : (wr.alloc (.cells #[.int .i64 t.kind, .int .i64 t.n] 51)).cell? ⟨wr.heap.size, 1, none⟩ = some (.int .i64 t.n) := HI.out.2.1.cell_ (i := 1) rfl
          generalize (wr.alloc (.cells #[.int .i64 t.kind, .int .i64 t.n] 51)) = W7 at *
          generalize wr.heap.size = b7 at *
          go_wp2_with (first
            | (go_at_call 21; refine (rnumber_inv HI.out hl _).mono ?_; rintro e W8 ⟨rfl, i8, k8, c8⟩; have I8 := Lib.hid i8; clear i8)
            | (go_at_call 23; refine (rflag_inv I8.out hl).mono ?_; rintro e W9 ⟨rfl, i9, k9, c9⟩; have I9 := Lib.hid i9; clear i9)
            | (go_at_call 25; refine (rtext_inv I9.out hl _).mono ?_; rintro e W10 ⟨rfl, i10, k10, c10⟩; have I10 := Lib.hid i10; clear i10)
            | (go_at_call 27; refine (rraw_inv I10.out hl _).mono ?_; rintro e W11 ⟨⟨A11, c11, rfl⟩, i11, k11, d11⟩; have I11 := Lib.hid i11; clear i11))
          go_region_held3 (fun w' => w'.cell? ⟨b7, 0, none⟩ = some (.int .i64 t.kind)) (first | exact k12 | exact k11)
            (first | (go_at_call 28; refine (rfail_inv I11.out.drew _).mono ?_; rintro e W12 ⟨rfl, i12, k12, d12⟩; have I12 := Lib.hid i12; clear i12))
          go_wp2_with fail
          go_roundw
          case rel => exact ⟨k + 1, by omega, by go_num, I12.out.1, I12.out.2.2.1⟩
          case measure => simp [intOf]; omega
        · obtain ⟨W7, rfl⟩ : ∃ W7 : World, W7 = wr := ⟨_, rfl⟩
          have X7 : Hid (Wr W7 g g 2 v []) := X6.out.only ho (fun b hb h => by
            have := hv4.out.foot_lt hb
            simp only [one] at h
            omega)
          have U7 : Hid (Only (one g5) W W7) := U6.out.of_none.trans ho
          have H7 := Lib.hid hr
          have hd : Hid (doneCode 6 bs = 6) := doneCode_stop (by decide) bs
          clear hr ho
          go_wp2_with (first
            | (go_at_call 16; refine (writer_err _ _ _ _ _ _ X7.out).mono ?_; rintro e w' ⟨rfl, rfl⟩)
            | (go_at_call 18; refine (writer_bytes _ _ _ _ _ _ X7.out (by simp)).mono ?_; rintro e W8 ⟨A8, n8, c8, rfl, hb8, o8⟩; obtain rfl := own_len hb8; have H8 := Lib.hid (H7.out.only o8 (fun h => h) (fun _ _ h => h)); have U8 := Lib.hid (U7.out.trans o8.of_none); clear o8 hb8)
            | (go_at_call 31; refine (reader_err _ _ _ _ _ H8.out).mono ?_; rintro e w' ⟨rfl, rfl⟩)
            | (go_at_call 32; refine (reader_left _ _ _ _ _ H8.out).mono ?_; rintro e w' ⟨rfl, rfl⟩)
            | (go_at_call 30; refine (reader_done _ _ _ _ _ H8.out).mono ?_; rintro e W9 ⟨rfl, h9, o9⟩; rw [hd.out]; have U9 := Lib.hid (U8.out.trans o9); clear h9 o9))
          go_ret
          refine ⟨rfl, U9.out.below (Nat.le_refl _) (fun k hk => by simp only [one] at hk; have := hWs.out; have := hO4.out.size; omega)⟩

/-- Too many calls, or too many bytes: the example alone is asked. -/
theorem stops_long (pv x tv : Value) (l : List PutR) (A At : Option Addr) (n c nt ct : Nat) (S : Nat → Prop) (W : World) (hp : Puts W S pv l) (hx : x = .slice A n c) (ht : tv = .slice At nt ct)
    (h : ¬ (fewP l ∧ n ≤ 600 ∧ nt ≤ 40)) :
    Calls Try.prog 7 #[pv, x, tv] W fun e w' => e = .returned (.bool true) ∧ Below W.heap.size W w' := by
  subst hx ht
  obtain ⟨T, hT, HF⟩ := few_any pv l S W hp
  have HP := Lib.hid hp
  cases T with
  | false =>
    clear hT h hp
    go_enter Try.func7, Try.ntmps7
    go_wp2_with fail
    refine (speaks_any _).mono ?_
    rintro e W1 ⟨rfl, o1⟩
    go_wp2_with fail
    refine (HF _ (HP.out.only o1 (fun _ _ h => h))).mono ?_
    rintro e W2 ⟨rfl, o2⟩
    go_wp2_with fail
    refine (speaks_any _).mono ?_
    rintro e W3 ⟨rfl, o3⟩
    go_wp2
    go_ret
    exact ⟨rfl, ((o1.trans o2).trans o3).below (Nat.le_refl _) (fun k hk => hk.elim)⟩
  | true =>
    have hf : fewP l := hT.1 rfl
    by_cases hn : n ≤ 600
    · have hnt : 40 < nt := by
        have : ¬ nt ≤ 40 := fun h' => h ⟨hf, hn, h'⟩
        omega
      clear hT h hp hf
      go_enter Try.func7, Try.ntmps7
      go_wp2_with fail
      refine (speaks_any _).mono ?_
      rintro e W1 ⟨rfl, o1⟩
      go_wp2_with fail
      refine (HF _ (HP.out.only o1 (fun _ _ h => h))).mono ?_
      rintro e W2 ⟨rfl, o2⟩
      go_wp2_with fail
      refine (speaks_any _).mono ?_
      rintro e W3 ⟨rfl, o3⟩
      go_wp2
      go_ret
      exact ⟨rfl, ((o1.trans o2).trans o3).below (Nat.le_refl _) (fun k hk => hk.elim)⟩
    · have hn' : 600 < n := by omega
      clear hT h hp hf
      go_enter Try.func7, Try.ntmps7
      go_wp2_with fail
      refine (speaks_any _).mono ?_
      rintro e W1 ⟨rfl, o1⟩
      go_wp2_with fail
      refine (HF _ (HP.out.only o1 (fun _ _ h => h))).mono ?_
      rintro e W2 ⟨rfl, o2⟩
      go_wp2_with fail
      refine (speaks_any _).mono ?_
      rintro e W3 ⟨rfl, o3⟩
      go_wp2
      go_ret
      exact ⟨rfl, ((o1.trans o2).trans o3).below (Nat.le_refl _) (fun k hk => hk.elim)⟩
end Go.Proofs.Ytpccimifpkdfiaa
