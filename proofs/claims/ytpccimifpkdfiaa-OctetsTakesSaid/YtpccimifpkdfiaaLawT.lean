/- The call of OctetsTakes answers yes, and changes nothing that was there. The statement itself is proved in the text that imports this one. -/
import Derived.Test.YtpccimifpkdfiaaRefV
import Derived.Deep.Cut
import Derived.Deep.CutBlock
namespace Go.Proofs.Ytpccimifpkdfiaa
open Go.RowKit
attribute [local go_sem ↓] Go.wp_at_zero Go.wp_at_succ

/-- What stands while one take is gone through: the reader, the document's cursor in block h, the take's copy in block b. -/
def PackT (W : World) (g : Nat) (S : Nat → Prop) (h b : Nat) (cs : Array Value) (err : Int) (rest : List UInt8) (x y z : Value) (w : World) : Prop :=
  Rd w g S err rest ∧ Blk w h 49 #[x, y, z] ∧ Blk w b 51 cs ∧ Only none_ W w ∧ (W.heap.size ≤ h ∧ W.heap.size ≤ g ∧ g ≠ h ∧ ¬ S h ∧ b ≠ h ∧ b ≠ g)
section
variable {W w : World} {g : Nat} {S : Nat → Prop} {h b : Nat} {cs : Array Value} {err : Int} {rest : List UInt8} {x y z : Value}
theorem PackT.keep (I : PackT W g S h b cs err rest x y z w) {w' : World} (ho : Only none_ w w') : PackT W g S h b cs err rest x y z w' :=
  ⟨I.1.only ho (fun h => h) (fun _ _ h => h), I.2.1.only ho (fun h => h), I.2.2.1.only ho (fun h => h), I.2.2.2.1.trans ho, I.2.2.2.2⟩
theorem PackT.fill (I : PackT W g S h b cs err rest x y z w) (a p c : Value) : PackT W g S h b cs err rest a p c (((w.setCell ⟨h, 0, none⟩ a).setCell ⟨h, 1, none⟩ p).setCell ⟨h, 2, none⟩ c) := by
  obtain ⟨h1, h2, h3, h4, h5, h6, h7, h8, h9, h10⟩ := I
  have ho := only_fill (Only.refl (one h) w) (.inl (show one h h from rfl)) a p c
  refine ⟨h1.only ho h7 (fun k hk e => h8 (by rw [← show k = h from e]; exact hk)), blk_fill h2 a p c, h3.only ho h9, h4.trans' ho (fun k hk e => by simp only [one] at e; omega), h5, h6, h7, h8, h9, h10⟩
theorem PackT.read (I : PackT W g S h b cs err rest x y z w) {w' : World} {err' : Int} {rest' : List UInt8} (hr : Rd w' g S err' rest') (ho : Only (one g) w w') : PackT W g S h b cs err' rest' x y z w' := by
  obtain ⟨h1, h2, h3, h4, h5, h6, h7, h8, h9, h10⟩ := I
  exact ⟨hr, h2.only ho (fun e => h7 e.symm), h3.only ho h10, h4.trans' ho (fun k hk e => by simp only [one] at e; omega), h5, h6, h7, h8, h9, h10⟩
/-- The cursor's cells behind a new block; the take's number behind that and three stores. -/
theorem PackT.cur (I : PackT W g S h b cs err rest x y z w) (o : Obj) : (w.alloc o).cell? ⟨h, 0, none⟩ = some x ∧ (w.alloc o).cell? ⟨h, 1, none⟩ = some y ∧ (w.alloc o).cell? ⟨h, 2, none⟩ = some z ∧
    (w.alloc o).frozen? ⟨h, 0, none⟩ = false ∧ (w.alloc o).frozen? ⟨h, 1, none⟩ = false ∧ (w.alloc o).frozen? ⟨h, 2, none⟩ = false := cur_facts (I.2.1.alloc o)
theorem PackT.num {kd n : Int} (I : PackT W g S h b #[.int .i64 kd, .int .i64 n] err rest x y z w) (o : Obj) (a p c : Value) :
    ((((w.alloc o).setCell ⟨h, 0, none⟩ a).setCell ⟨h, 1, none⟩ p).setCell ⟨h, 2, none⟩ c).cell? ⟨b, 1, none⟩ = some (.int .i64 n) :=
  ((I.keep ((Only.refl none_ w).alloc o)).fill a p c).2.2.1.cell_ (i := 1) rfl
theorem PackT.drew (I : PackT W g S h b cs err rest x y z w) : PackT W g S h b cs err rest x y z w.drew := ⟨I.1, I.2.1, I.2.2.1, I.2.2.2.1.drew, I.2.2.2.2⟩
theorem PackT.third (I : PackT W g S h b cs err rest x y z w) (c : Value) : PackT W g S h b cs err rest x y c (w.setCell ⟨h, 2, none⟩ c) := by
  obtain ⟨h1, h2, h3, h4, h5, h6, h7, h8, h9, h10⟩ := I
  have ho := (Only.refl (one h) w).setCell (p := ⟨h, 2, none⟩) (.inl (show one h h from rfl)) c
  refine ⟨h1.only ho h7 (fun k hk e => h8 (by rw [← show k = h from e]; exact hk)), by simpa using h2.set_ 2 c, h3.only ho h9, h4.trans' ho (fun k hk e => by simp only [one] at e; omega), h5, h6, h7, h8, h9, h10⟩
theorem fail_pack (I : PackT W g S h b cs err rest x y z w) (m : Int) :
    Calls Try.prog 28 #[.pointer (some ⟨g, 0, none⟩), .int .i64 m] w fun e w' => e = .returned (.tuple #[]) ∧ PackT W g S h b cs (first_ err m) rest x y z w' :=
  (reader_fail g S err m rest w I.1).mono fun _ _ ⟨h1, h2, h3⟩ => ⟨h1, I.read h2 h3⟩
theorem done_pack (I : PackT W g S h b cs err rest x y z w) :
    Calls Try.prog 30 #[.pointer (some ⟨g, 0, none⟩)] w fun e w' => e = .returned (.int .i64 (doneCode err rest)) ∧ PackT W g S h b cs (doneCode err rest) rest x y z w' :=
  (reader_done g S err rest w I.1).mono fun _ _ ⟨h1, h2, h3⟩ => ⟨h1, I.read h2 h3⟩
end
def MetT (W : World) (g : Nat) (S : Nat → Prop) (h : Nat) (bs : List UInt8) (A : Option Addr) (L c : Nat) (w : World) : Prop :=
  ∃ (k : Nat) (err : Int), k ≤ L ∧ Rd w g S err (bs.drop k) ∧ Blk w h 49 #[.slice A L c, .int .i64 (k : Int), .int .i64 err] ∧ Only none_ W w

theorem PackT.met {W w : World} {g : Nat} {S : Nat → Prop} {h b : Nat} {cs : Array Value} {err : Int} {rest : List UInt8} {A : Option Addr} {L c : Nat} {p e2 : Int} (I : PackT W g S h b cs err rest (.slice A L c) (.int .i64 p) (.int .i64 e2) w)
    (bs : List UInt8) (k : Nat) (hr : rest = bs.drop k) (hk : k ≤ L) (hp : p = (k : Int)) (he : e2 = err) : MetT W g S h bs A L c w := by
  subst hr hp he
  exact ⟨k, e2, hk, I.1, I.2.1, I.2.2.2.1⟩

set_option maxRecDepth 100000 in
set_option maxHeartbeats 1600000 in
theorem takes_short (x : Value) (bs : List UInt8) (tv : Value) (ts : List TakeR) (S : Nat → Prop) (W : World) (hb : Byt W S x bs) (ht : Takes W S tv ts) (hS : ∀ b, S b → b < W.heap.size) (hl : bs.length ≤ 600) (hm : ts.length ≤ 40)
    (hn : ∀ t ∈ ts, -9223372036854775808 ≤ t.n ∧ t.n ≤ 9223372036854775807) :
    Calls Try.prog 4 #[x, tv] W fun e w' => e = .returned (.bool true) ∧ Below W.heap.size W w' := by
  have hv : ∃ A L c, L = bs.length ∧ x = .slice A L c := by obtain ⟨A, c, h, _⟩ := hb; exact ⟨A, _, c, rfl, h⟩
  obtain ⟨A, L, c, hL, rfl⟩ := hv
  have hv : ∃ A c, tv = .slice A ts.length c := by obtain ⟨A, c, h, _⟩ := ht; exact ⟨A, c, h⟩
  obtain ⟨At, ct, rfl⟩ := hv
  have HB := Lib.hid hb
  have HT := Lib.hid ht
  have HN := Lib.hid hn
  have hLl : L ≤ 600 := by omega
  have HL := Lib.hid hL
  clear hb ht hn hL hl
  go_enter Try.func4, Try.ntmps4
  go_wp2_with (first
    | (go_at_call 8; refine (speaks_any _).mono ?_; rintro e W1 ⟨rfl, o1⟩)
    | (go_at_call 19; refine (read_any _ bs _ _ (HB.out.only o1 (fun _ _ h => h)) (by have := HL.out; omega)).mono ?_; rintro e W2 ⟨g, S2, rfl, hg, h2, hs2, o2⟩; have H2 := Lib.hid h2; have HS2 := Lib.hid hs2; clear h2 hs2))
  have hW1 := o1.size
  have hg2 := H2.out.lt
  have H3 : Hid (Rd (W2.alloc (.cells #[.slice A L c, .int .i64 0, .int .i64 0] 49)) g S2 0 bs) := H2.out.only ((Only.refl none_ W2).alloc _) (fun h => h) (fun _ _ h => h)
  have B3 : Hid (Blk (W2.alloc (.cells #[.slice A L c, .int .i64 0, .int .i64 0] 49)) W2.heap.size 49 #[.slice A L c, .int .i64 0, .int .i64 0]) := Blk.new _ _ _
  have O3 : Hid (Only none_ W (W2.alloc (.cells #[.slice A L c, .int .i64 0, .int .i64 0] 49))) := (o1.trans o2).alloc _
  have HP : Hid (W.heap.size ≤ W2.heap.size ∧ W.heap.size ≤ g ∧ g ≠ W2.heap.size ∧ ¬ S2 W2.heap.size) := ⟨Nat.le_trans o1.size o2.size, by omega, by omega, fun h => absurd (HS2.out _ h).2 (Nat.lt_irrefl _)⟩
  clear o1 o2 H2 HS2 hg
  generalize W2.alloc (.cells #[.slice A L c, .int .i64 0, .int .i64 0] 49) = W3 at *
  generalize W2.heap.size = gc at *
  go_loopw [38] (fun i wr => ∃ k : Nat, k ≤ ts.length ∧ i = .int .i64 k ∧ MetT W g S2 gc bs A L c wr) (fun i _ => ts.length - (intOf i).toNat)
  case atStart => exact ⟨0, by omega, rfl, 0, 0, by omega, by simpa using H3.out, B3.out, O3.out⟩
  case round =>
    obtain ⟨k, hk, rfl, a, err, hka, hr, hbl, ho⟩ := hrel
    by_cases hlt : k < ts.length
    · obtain ⟨A', c', hAe, _, hcs⟩ := HT.out.only ho (fun _ _ h => h)
      injection hAe with hA1 _ hA3
      subst hA1 hA3
      obtain ⟨b, off, rfl, hb, hSb, hc⟩ := hcs (by omega)
      obtain ⟨h0, h1⟩ := hc k hlt
      have hn := HN.out _ (List.getElem_mem hlt)
      obtain ⟨t, htt⟩ : ∃ t, t = ts[k] := ⟨_, rfl⟩
      rw [← htt] at h0 h1 hn
      have P4 : Hid (PackT W g S2 gc wr.heap.size #[.int .i64 t.kind, .int .i64 t.n] err (bs.drop a) (.slice A L c) (.int .i64 (a : Int)) (.int .i64 err) (wr.alloc (.cells #[.int .i64 t.kind, .int .i64 t.n] 51))) :=
        ⟨hr.only ((Only.refl none_ wr).alloc _) (fun h => h) (fun _ _ h => h), hbl.alloc _, Blk.new _ _ _, ho.alloc _, HP.out.1, HP.out.2.1, HP.out.2.2.1, HP.out.2.2.2, by have := hbl.lt; omega, by have := hr.lt; omega⟩
      clear htt hc hcs hr hbl ho
      go_upto_block 2 with (fail)
      have hgl := HP.out
      generalize wr.alloc (.cells #[.int .i64 t.kind, .int .i64 t.n] 51) = W4 at *
      generalize wr.heap.size = b8 at *
      clear hgl h0 h1
      go_cut [] from 42 (fun w' => MetT W g S2 gc bs A L c w')
      case rest =>
        clear P4 hka
        obtain ⟨a, err, hka, hr, hbl, ho⟩ := hcut
        have HR := Lib.hid hr
        have HBl := Lib.hid hbl
        have HO := Lib.hid ho
        have HLft : ∀ w, Rd w g S2 err (bs.drop a) → Calls Try.prog 32 #[.pointer (some ⟨g, 0, none⟩)] w fun e w' => e = .returned (.int .i64 ((L : Int) - (a : Int))) ∧ w = w' := fun w hw => by
          have := reader_left g S2 err (bs.drop a) w hw
          rwa [show (((bs.drop a).length : Nat) : Int) = (L : Int) - (a : Int) from by rw [List.length_drop, ← HL.out]; omega] at this
        have hwr : IntKind.i64.wrap ((L : Int) - (a : Int)) = (L : Int) - (a : Int) := IntWalk.i64_in _ (by omega)
        obtain ⟨x0, x1, x2, _, _, _⟩ := cur_facts hbl
        clear hr hbl ho
        go_wp2_with fail
        go_region_held3 (fun w' => w'.cell? ⟨gc, 0, none⟩ = some (.slice A L c) ∧ w'.cell? ⟨gc, 1, none⟩ = some (.int .i64 (a : Int)) ∧ w'.cell? ⟨gc, 2, none⟩ = some (.int .i64 err))
          (exact ⟨x0, x1, x2⟩)
          (first
            | (go_at_call 31; refine (reader_err _ _ _ _ _ (by exact HR.out)).mono ?_; rintro e w' ⟨rfl, rfl⟩)
            | (go_at_call 32; refine (HLft _ (by exact HR.out)).mono ?_; rintro e w' ⟨rfl, rfl⟩))
        all_goals
          go_wp2_with fail
          go_roundw
          case rel => exact ⟨k + 1, by omega, by go_num, a, err, hka, HR.out, HBl.out, HO.out.drew⟩
          case measure => simp [intOf]; omega
      case first =>
        have k0 : W4.cell? ⟨b8, 0, none⟩ = some (.int .i64 t.kind) := P4.out.2.2.1.cell_ (i := 0) rfl
        have k1 : W4.cell? ⟨b8, 1, none⟩ = some (.int .i64 t.n) := P4.out.2.2.1.cell_ (i := 1) rfl
        obtain ⟨x0, x1, x2, f0, f1, f2⟩ := cur_facts P4.out.2.1
        have hB4 : Byt W4 S (.slice A L c) bs := HB.out.only P4.out.2.2.2.1 (fun _ _ h => h)
        have hS4 : ∀ b, S b → b < W4.heap.size := fun b hb => Nat.lt_of_lt_of_le (hS b hb) P4.out.2.2.2.1.size
        have hla : (bs.drop a).length ≤ 140737488355328 := by have := HL.out; simp; omega
        by_cases e0 : t.kind = 0
        · have q0 : (t.kind == 0) = true := by simp [e0]
          clear e0
          go_wp2_with (first
            | (go_at_call 20; refine (ref_take A L c bs a err t.n S W4 hB4 hS4 hka (by omega) hn.2).mono ?_; rintro e w1 ⟨d, rfl, hR, hd, o1⟩
               have P1 := Lib.hid (P4.out.keep o1)
               have HR := Lib.hid hR
               have y0 := fun o => (P1.out.cur o).1
               have y1 := fun o => (P1.out.cur o).2.1
               have y2 := fun o => (P1.out.cur o).2.2.1
               have y3 := fun o => (P1.out.cur o).2.2.2.1
               have y4 := fun o => (P1.out.cur o).2.2.2.2.1
               have y5 := fun o => (P1.out.cur o).2.2.2.2.2
               have y6 := P1.out.num
               clear hR o1 x0 x1 x2 f0 f1 f2 hB4 hS4 k0 k1)
            | (go_at_call 21; refine (reader_number _ _ _ _ _ _ (by exact ((P1.out.keep ((Only.refl none_ w1).alloc _)).fill _ _ _).1) hla).mono ?_; rintro e w2 ⟨rfl, hr2, o2⟩
               have M2 := Lib.hid ((((P1.out.keep ((Only.refl none_ w1).alloc _)).fill _ _ _).read hr2 o2).met bs (a + d) HR.out hd rfl rfl)
               clear hr2 o2))
          go_meet
          case rel => exact M2.out
        · have q0 : (t.kind == 0) = false := by simp [e0]
          by_cases e1 : t.kind = 1
          · have q1 : (t.kind == 1) = true := by simp [e1]
            clear e1
            go_wp2_with (first
            | (go_at_call 22; refine (ref_flag A L c bs a err S W4 hB4 hS4 hka (by omega)).mono ?_; rintro e w1 ⟨d, rfl, hR, hd, o1⟩
               have P1 := Lib.hid (P4.out.keep o1)
               have HR := Lib.hid hR
               have y0 := fun o => (P1.out.cur o).1
               have y1 := fun o => (P1.out.cur o).2.1
               have y2 := fun o => (P1.out.cur o).2.2.1
               have y3 := fun o => (P1.out.cur o).2.2.2.1
               have y4 := fun o => (P1.out.cur o).2.2.2.2.1
               have y5 := fun o => (P1.out.cur o).2.2.2.2.2
               have y6 := P1.out.num
               clear hR o1 x0 x1 x2 f0 f1 f2 hB4 hS4 k0 k1)
            | (go_at_call 23; refine (reader_flag _ _ _ _ _ (by exact ((P1.out.keep ((Only.refl none_ w1).alloc _)).fill _ _ _).1) hla).mono ?_; rintro e w2 ⟨rfl, hr2, o2⟩
               have M2 := Lib.hid ((((P1.out.keep ((Only.refl none_ w1).alloc _)).fill _ _ _).read hr2 o2).met bs (a + d) HR.out hd rfl rfl)
               clear hr2 o2))
            go_meet
            case rel => exact M2.out
          · have q1 : (t.kind == 1) = false := by simp [e1]
            by_cases e2 : t.kind = 2
            · have q2 : (t.kind == 2) = true := by simp [e2]
              clear e2
              go_wp2_with (first
              | (go_at_call 24; refine (ref_text A L c bs a err t.n S W4 hB4 hS4 hka (by omega)).mono ?_; rintro e w1 ⟨d, rfl, hR, hd, o1⟩
                 have P1 := Lib.hid (P4.out.keep o1)
                 have HR := Lib.hid hR
                 have y0 := fun o => (P1.out.cur o).1
                 have y1 := fun o => (P1.out.cur o).2.1
                 have y2 := fun o => (P1.out.cur o).2.2.1
                 have y3 := fun o => (P1.out.cur o).2.2.2.1
                 have y4 := fun o => (P1.out.cur o).2.2.2.2.1
                 have y5 := fun o => (P1.out.cur o).2.2.2.2.2
                 have y6 := P1.out.num
                 clear hR o1 x0 x1 x2 f0 f1 f2 hB4 hS4 k0 k1)
              | (go_at_call 25; refine (reader_text _ _ _ _ _ _ (by exact ((P1.out.keep ((Only.refl none_ w1).alloc _)).fill _ _ _).1) hla).mono ?_; rintro e w2 ⟨rfl, hr2, o2⟩
                 have M2 := Lib.hid ((((P1.out.keep ((Only.refl none_ w1).alloc _)).fill _ _ _).read hr2 o2).met bs (a + d) HR.out hd rfl rfl)
                 clear hr2 o2))
              go_meet
              case rel => exact M2.out
            · have q2 : (t.kind == 2) = false := by simp [e2]
              by_cases e3 : t.kind = 3
              · have q3 : (t.kind == 3) = true := by simp [e3]
                clear e3
                have hd : a + (rawR err (bs.drop a) t.n).2.2.length ≤ L := by
                  have h1 := rawR_len err (bs.drop a) t.n
                  rw [List.length_drop, ← HL.out] at h1
                  omega
                have HR : Hid ((rawR err (bs.drop a) t.n).2.1 = bs.drop (a + (rawR err (bs.drop a) t.n).2.2.length)) := (rawR_left _ _ _).trans drop_more
                have hSc : ∀ b, S b → ¬ one gc b := fun b hb e => by
                  have h1 := hS b hb
                  have h2 := HP.out.1
                  simp only [one] at e
                  omega
                have hSg : ∀ b, S b → ¬ one g b := fun b hb e => by
                  have h1 := hS b hb
                  have h2 := HP.out.2.1
                  simp only [one] at e
                  omega
                go_wp2_with (first
                | (go_at_call 26; refine (ref_raw A L c bs a err t.n S W4 hB4 hka (by omega) hn.2).mono ?_; rintro e w1 ⟨A1, L1, c1, rfl, hb1, o1⟩
                   have P1 := Lib.hid (P4.out.keep o1)
                   have B1 := Lib.hid hb1
                   have y0 := fun o => (P1.out.cur o).1
                   have y1 := fun o => (P1.out.cur o).2.1
                   have y2 := fun o => (P1.out.cur o).2.2.1
                   have y3 := fun o => (P1.out.cur o).2.2.2.1
                   have y4 := fun o => (P1.out.cur o).2.2.2.2.1
                   have y5 := fun o => (P1.out.cur o).2.2.2.2.2
                   have y6 := P1.out.num
                   clear hb1 o1 x0 x1 x2 f0 f1 f2 hB4 hS4 k0 k1)
                | (go_at_call 27; refine (reader_raw _ _ _ _ _ _ (by exact ((P1.out.keep ((Only.refl none_ w1).alloc _)).fill _ _ _).1) hla).mono ?_; rintro e w2 ⟨A2, n2, c2, rfl, hw2, hr2, o2⟩
                   have M2 := Lib.hid ((((P1.out.keep ((Only.refl none_ w1).alloc _)).fill _ _ _).read hr2 o2).met bs (a + _) HR.out hd rfl rfl)
                   have B2 := Lib.hid (Byt.of_own hw2)
                   have C2 := Lib.hid ((B1.out.only (only_fill ((Only.refl (one gc) w1).alloc _) (.inl (show one gc gc from rfl)) _ _ _) hSc).only o2 hSg)
                   clear hw2 hr2 o2)
                | (go_at_call 17; refine (same_yes _ _ _ _ _ _ B2.out C2.out).mono ?_; rintro e w' ⟨rfl, rfl⟩))
                go_meet
                case rel => exact M2.out
              · have q3 : (t.kind == 3) = false := by simp [e3]
                by_cases e4 : t.kind = 4
                · have q4 : (t.kind == 4) = true := by simp [e4]
                  clear e4
                  clear hB4 hS4
                  by_cases ez : err = 0
                  · have z0 : (err == 0) = true := by simp [ez]
                    have HE : Hid (first_ err t.n = t.n) := by simp [Hid, first_, ez]
                    clear ez
                    go_wp2_with fail
                    go_region_held3 (fun w' => w'.cell? ⟨b8, 1, none⟩ = some (.int .i64 t.n)) (first | exact k15 | exact k1)
                      (first | (go_at_call 28; refine (fail_pack P4.out.drew t.n).mono ?_; rintro e W5 ⟨rfl, p5⟩; have P5 := Lib.hid p5; have k15 : W5.cell? ⟨b8, 1, none⟩ = some (.int .i64 t.n) := p5.2.2.1.cell_ (i := 1) rfl
                                obtain ⟨y0, y1, y2, f3, f4, f5⟩ := cur_facts p5.2.1
                                clear p5))
                    all_goals
                      go_wp2_with fail
                      go_meet
                      case rel => exact (P5.out.third _).met bs a rfl hka rfl HE.out.symm
                  · have z0 : (err == 0) = false := by simp [ez]
                    have HE : Hid (first_ err t.n = err) := by simp [Hid, first_, ez]
                    clear ez
                    go_wp2_with fail
                    go_region_held3 (fun w' => w'.cell? ⟨b8, 1, none⟩ = some (.int .i64 t.n)) (first | exact k15 | exact k1)
                      (first | (go_at_call 28; refine (fail_pack P4.out.drew t.n).mono ?_; rintro e W5 ⟨rfl, p5⟩; have P5 := Lib.hid p5; have k15 : W5.cell? ⟨b8, 1, none⟩ = some (.int .i64 t.n) := p5.2.2.1.cell_ (i := 1) rfl
                                obtain ⟨y0, y1, y2, f3, f4, f5⟩ := cur_facts p5.2.1
                                clear p5))
                    all_goals
                      go_wp2_with fail
                      go_meet
                      case rel => exact P5.out.met bs a rfl hka rfl HE.out.symm
                · have q4 : (t.kind == 4) = false := by simp [e4]
                  clear hB4 hS4
                  go_wp2_with (first
                  | (go_at_call 29; refine (ref_done A L c bs a err W4 HL.out hka (by omega)).mono ?_; rintro e w1 ⟨rfl, o1⟩
                     have P1 := Lib.hid (P4.out.keep o1)
                     obtain ⟨y0, y1, y2, y3, y4, y5⟩ := cur_facts P1.out.2.1
                     clear o1 x0 x1 x2 f0 f1 f2 k0 k1))
                  have F2 := Lib.hid (P1.out.fill (.slice A L c) (.int .i64 (a : Int)) (.int .i64 (doneCode err (bs.drop a))))
                  generalize ((w1.setCell ⟨gc, 0, none⟩ (.slice A L c)).setCell ⟨gc, 1, none⟩ (.int .i64 (a : Int))).setCell ⟨gc, 2, none⟩ (.int .i64 (doneCode err (bs.drop a))) = W6 at *
                  have m2 : W6.cell? ⟨gc, 2, none⟩ = some (.int .i64 (doneCode err (bs.drop a))) := (cur_facts F2.out.2.1).2.2.1
                  clear y0 y1 y2 y3 y4 y5
                  go_region_held3 (fun w' => w'.cell? ⟨gc, 2, none⟩ = some (.int .i64 (doneCode err (bs.drop a)))) (first | exact m3 | exact m2)
                    (first | (go_at_call 30; refine (done_pack F2.out.drew).mono ?_; rintro e W7 ⟨rfl, p7⟩; have P7 := Lib.hid p7; have m3 : W7.cell? ⟨gc, 2, none⟩ = some (.int .i64 (doneCode err (bs.drop a))) := (cur_facts p7.2.1).2.2.1
                              clear p7))
                  all_goals
                    go_wp2_with fail
                    go_meet
                    case rel => exact P7.out.met bs a rfl hka rfl rfl
    · obtain ⟨a, err, hka, hr, hbl, ho⟩ : MetT W g S2 gc bs A L c wr := ⟨a, err, hka, hr, hbl, ho⟩
      clear hr hbl
      go_wp2
      go_ret
      exact ⟨rfl, ho.below (Nat.le_refl _) (fun k hk => hk.elim)⟩

theorem takes_long (x tv : Value) (A At : Option Addr) (n c nt ct : Nat) (W : World) (hx : x = .slice A n c) (ht : tv = .slice At nt ct) (h : ¬ (n ≤ 600 ∧ nt ≤ 40)) :
    Calls Try.prog 4 #[x, tv] W fun e w' => e = .returned (.bool true) ∧ Below W.heap.size W w' := by
  subst hx ht
  by_cases hn : n ≤ 600
  · have hnt : 40 < nt := by omega
    clear h
    go_enter Try.func4, Try.ntmps4
    go_wp2_with fail
    refine (speaks_any _).mono ?_
    rintro e W1 ⟨rfl, o1⟩
    go_wp2_with fail
    refine (speaks_any _).mono ?_
    rintro e W3 ⟨rfl, o3⟩
    go_wp2
    go_ret
    exact ⟨rfl, (o1.trans o3).below (Nat.le_refl _) (fun k hk => hk.elim)⟩
  · have hn' : 600 < n := by omega
    clear h hn
    go_enter Try.func4, Try.ntmps4
    go_wp2_with fail
    refine (speaks_any _).mono ?_
    rintro e W1 ⟨rfl, o1⟩
    go_wp2_with fail
    refine (speaks_any _).mono ?_
    rintro e W3 ⟨rfl, o3⟩
    go_wp2
    go_ret
    exact ⟨rfl, (o1.trans o3).below (Nat.le_refl _) (fun k hk => hk.elim)⟩
end Go.Proofs.Ytpccimifpkdfiaa
