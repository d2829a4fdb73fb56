/- What takeFields of package entry does: the nine fields, off a reader. No statement of the seat is proved here. -/
import Derived.Test.YtdjondjlengapaaEnV
import Derived.Test.YtdjondjlengapaaOctS
import Derived.Test.YtdjondjlengapaaEnE
import Derived.Laws.Tables
namespace Go.Proofs.Ytdjondjlengapaa
open Go.RowKit
set_option maxRecDepth 100000
set_option linter.all false

theorem wpl_load {P : Program} {ops : Array Oper} {rest : List Oper} {o : Oper} {a : Act} {w : World} {Q : Exit → Act → World → Prop} (hgd : o.guard = none) (ty : TypeId) (x : Operand) (ho : o.op = .load ty x)
    (g : Nat) (hx : a.eval x = .pointer (some ⟨g, 0, none⟩)) (t : TypeId) (cs : Array Value) (d : TypeDesc) (hg : Blk w g t cs)
    (hu : P.underlying ty = some d) (hd : (match d with | .struct _ | .array _ _ => true | _ => false) = true) (hi : (P.info? ty).map (·.size) = some cs.size)
    (h : wpList P ops Q rest (a.put o.dst (.agg cs)) w) : wpList P ops Q (o :: rest) a w :=
  wpList_plain hgd fun _ hK => wp_load_row ty x ho g hx t cs (0, 0) d hg hu hd hi (hK _ _ h)

theorem textR_len (code : Int) (bs : List UInt8) (most : Int) : (textR code bs most).2.1.length ≤ bs.length := by
  unfold textR
  split
  · simp
  · split
    · exact Nat.le_refl _
    · split
      · exact Nat.le_refl _
      · split
        · exact Nat.le_refl _
        · simp only [List.length_drop, List.length_cons]; omega
theorem flagR_len (code : Int) (bs : List UInt8) : (flagR code bs).2.1.length ≤ bs.length := by
  unfold flagR
  split
  · simp
  · split
    · exact Nat.le_refl _
    · split
      · exact Nat.le_refl _
      · simp
theorem stampR_len (code : Int) (bs : List UInt8) : (stampR code bs).2.1.length ≤ bs.length :=
  Nat.le_trans (numR_len _ _ 1) (numR_len _ _ 4)

theorem Tk.new2 {w : World} {g : Nat} {S : Nat → Prop} {t : TypeId} {cs : Array Value} {code : Int} {bs : List UInt8} (o : Obj) (hr : Rd w g S code bs) (fr : ∀ b, S b → b < w.heap.size) :
    Tk (w.alloc o) g S (w.heap.size + 1) t cs code bs ((w.alloc o).alloc (.cells cs t)) := by
  have := Tk.new (t := t) (cs := cs) (hr.only ((Only.refl none_ _).alloc o) (fun h => h) (fun _ _ h => h)) (fun b hb => by rw [World.size_alloc]; have := fr b hb; omega)
  rwa [World.size_alloc] at this
theorem size_le_alloc (w : World) (o : Obj) : w.heap.size ≤ (w.alloc o).heap.size := by rw [World.size_alloc]; omega
/-- The fields asked for: what each of the seven calls tells. -/
structure Fr7 where
  a1 : Int × List UInt8 × List UInt8
  a2 : Int × List UInt8 × Bool
  a3 : Int × List UInt8 × List UInt8
  a4 : Int × List UInt8 × St
  a5 : Int × List UInt8 × St
  a6 : Int × List UInt8 × Nat
  a7 : Int × List UInt8 × Nat
def fieldsF (code : Int) (bs : List UInt8) : Fr7 :=
  let a1 := textR code bs 16
  let a2 := flagR a1.1 a1.2.1
  let a3 := textR a2.1 a2.2.1 32
  let a4 := stampR a3.1 a3.2.1
  let a5 := stampR a4.1 a4.2.1
  let a6 := numR a5.1 a5.2.1 2
  let a7 := numR a6.1 a6.2.1 4
  ⟨a1, a2, a3, a4, a5, a6, a7⟩
def Fr7.en (f : Fr7) : En := ⟨⟨f.a1.2.2.toArray⟩, ⟨f.a3.2.2.toArray⟩, f.a2.2.2, f.a4.2.2, f.a5.2.2, f.a6.2.2, f.a7.2.2⟩

set_option maxHeartbeats 1600000 in
theorem take_fields (g : Nat) (S : Nat → Prop) (code : Int) (bs : List UInt8) (w : World) (hr : Rd w g S code bs) (fr : ∀ b, S b → b < w.heap.size) (hm : bs.length ≤ 140737488355328) :
    Calls Try.prog 45 #[.pointer (some ⟨g, 0, none⟩)] w fun e w' =>
      e = .returned (.agg #[.string (fieldsF code bs).en.k, .string (fieldsF code bs).en.v, .bool (fieldsF code bs).en.d, .int .i64 (fieldsF code bs).en.s.c, .int .i64 (fieldsF code bs).en.s.s, .int .i64 (fieldsF code bs).en.a.c, .int .i64 (fieldsF code bs).en.a.s, .int .i64 (fieldsF code bs).en.p, .int .i64 (fieldsF code bs).en.g]) ∧ Rd w' g S (fieldsF code bs).a7.1 (fieldsF code bs).a7.2.1 ∧ Only (one g) w w' := by
  have hg := hr.lt
  have HG := Lib.hid hg
  clear hg
  have R0 := Lib.hid (Blk.new w 27 #[.string ⟨#[]⟩, .string ⟨#[]⟩, .bool false, .int .i64 0, .int .i64 0, .int .i64 0, .int .i64 0, .int .i64 0, .int .i64 0])
  have O0 := Lib.hid ((Only.refl (one g) w).alloc (.cells #[.string ⟨#[]⟩, .string ⟨#[]⟩, .bool false, .int .i64 0, .int .i64 0, .int .i64 0, .int .i64 0, .int .i64 0, .int .i64 0] 27))
  have T0 := Tk.new2 (t := 27) (cs := #[.string ⟨#[]⟩, .string ⟨#[]⟩, .bool false, .int .i64 0, .int .i64 0, .int .i64 0, .int .i64 0, .int .i64 0, .int .i64 0]) (.cells #[.string ⟨#[]⟩, .string ⟨#[]⟩, .bool false, .int .i64 0, .int .i64 0, .int .i64 0, .int .i64 0, .int .i64 0, .int .i64 0] 27) hr fr
  have T := Lib.hid T0
  clear T0
  obtain ⟨a1, h1⟩ : ∃ a, textR code bs 16 = a := ⟨_, rfl⟩
  obtain ⟨a2, h2⟩ : ∃ a, flagR a1.1 a1.2.1 = a := ⟨_, rfl⟩
  obtain ⟨a3, h3⟩ : ∃ a, textR a2.1 a2.2.1 32 = a := ⟨_, rfl⟩
  obtain ⟨a4, h4⟩ : ∃ a, stampR a3.1 a3.2.1 = a := ⟨_, rfl⟩
  obtain ⟨a5, h5⟩ : ∃ a, stampR a4.1 a4.2.1 = a := ⟨_, rfl⟩
  obtain ⟨a6, h6⟩ : ∃ a, numR a5.1 a5.2.1 2 = a := ⟨_, rfl⟩
  obtain ⟨a7, h7⟩ : ∃ a, numR a6.1 a6.2.1 4 = a := ⟨_, rfl⟩
  have l6 : a6.2.2 < 256 ^ 2 := h6 ▸ numR_lt a5.1 a5.2.1 2
  have l7 : a7.2.2 < 256 ^ 4 := h7 ▸ numR_lt a6.1 a6.2.1 4
  have m1 : a1.2.1.length ≤ 140737488355328 := Nat.le_trans (h1 ▸ textR_len code bs 16) hm
  have m2 : a2.2.1.length ≤ 140737488355328 := Nat.le_trans (h2 ▸ flagR_len a1.1 a1.2.1) m1
  have m3 : a3.2.1.length ≤ 140737488355328 := Nat.le_trans (h3 ▸ textR_len a2.1 a2.2.1 32) m2
  have m4 : a4.2.1.length ≤ 140737488355328 := Nat.le_trans (h4 ▸ stampR_len a3.1 a3.2.1) m3
  have m5 : a5.2.1.length ≤ 140737488355328 := Nat.le_trans (h5 ▸ stampR_len a4.1 a4.2.1) m4
  have m6 : a6.2.1.length ≤ 140737488355328 := Nat.le_trans (h6 ▸ numR_len a5.1 a5.2.1 2) m5
  have HS : Hid (fieldsF code bs = ⟨a1, a2, a3, a4, a5, a6, a7⟩) := by rw [Hid, fieldsF]; simp only [h1, h2, h3, h4, h5, h6, h7]
  have A6 : IntKind.i64.wrap (a6.2.2 : Int) = (a6.2.2 : Int) := IntWalk.i64_in _ (by omega)
  have A7 : IntKind.i64.wrap (a7.2.2 : Int) = (a7.2.2 : Int) := IntWalk.i64_in _ (by omega)
  have M1 := Lib.hid m1
  have M2 := Lib.hid m2
  have M3 := Lib.hid m3
  have M4 := Lib.hid m4
  have M5 := Lib.hid m5
  have M6 := Lib.hid m6
  have H1 := Lib.hid h1
  have H2 := Lib.hid h2
  have H3 := Lib.hid h3
  have H4 := Lib.hid h4
  have H5 := Lib.hid h5
  have H6 := Lib.hid h6
  have H7 := Lib.hid h7
  have HM := Lib.hid hm
  have FR := Lib.hid fr
  have FR2 : Hid (∀ (w' : World), w.heap.size ≤ w'.heap.size → ∀ b, S b → b < w'.heap.size) := fun w' h b hb => Nat.lt_of_lt_of_le (fr b hb) h
  have hle := size_le_alloc w (.cells #[.string ⟨#[]⟩, .string ⟨#[]⟩, .bool false, .int .i64 0, .int .i64 0, .int .i64 0, .int .i64 0, .int .i64 0, .int .i64 0] 27)
  have HLE := Lib.hid hle
  clear h1 h2 h3 h4 h5 h6 h7 l6 l7 m1 m2 m3 m4 m5 m6 hr fr hm hle
  have tok1 : True := trivial
  go_enter Try.func45, Try.ntmps45
  go_wp2_with (first
    | (go_at_call 69; have _t := tok1; clear tok1; refine (reader_text g S _ _ 16 _ T.out.rd HM.out).mono ?_; rw [H1.out]; rintro e w1 ⟨rfl, k, o⟩
       have T1 : Hid (Tk (w.alloc (.cells #[.string ⟨#[]⟩, .string ⟨#[]⟩, .bool false, .int .i64 0, .int .i64 0, .int .i64 0, .int .i64 0, .int .i64 0, .int .i64 0] 27)) g S (w.heap.size + 1) 27 #[.string ⟨#[]⟩, .string ⟨#[]⟩, .bool false, .int .i64 0, .int .i64 0, .int .i64 0, .int .i64 0, .int .i64 0, .int .i64 0] a1.1 a1.2.1 (w1)) := T.out.step k o
       have z1 := T1.out.bx.frozen 0
       have v1 := T1.out.bx.cell_ (i := 0) rfl
       have U1 : Hid (Tk (w.alloc (.cells #[.string ⟨#[]⟩, .string ⟨#[]⟩, .bool false, .int .i64 0, .int .i64 0, .int .i64 0, .int .i64 0, .int .i64 0, .int .i64 0] 27)) g S (w.heap.size + 1) 27 #[.string ⟨a1.2.2.toArray⟩, .string ⟨#[]⟩, .bool false, .int .i64 0, .int .i64 0, .int .i64 0, .int .i64 0, .int .i64 0, .int .i64 0] a1.1 a1.2.1 (w1.setCell ⟨w.heap.size + 1, 0, none⟩ (.string ⟨a1.2.2.toArray⟩))) := T1.out.set 0 _
       clear k o
       have tok2 : True := trivial)
    | (go_at_call 70; have _t := tok2; clear tok2; refine (reader_flag g S _ _ _ U1.out.rd M1.out).mono ?_; rw [H2.out]; rintro e w2 ⟨rfl, k, o⟩
       have T2 : Hid (Tk (w.alloc (.cells #[.string ⟨#[]⟩, .string ⟨#[]⟩, .bool false, .int .i64 0, .int .i64 0, .int .i64 0, .int .i64 0, .int .i64 0, .int .i64 0] 27)) g S (w.heap.size + 1) 27 #[.string ⟨a1.2.2.toArray⟩, .string ⟨#[]⟩, .bool false, .int .i64 0, .int .i64 0, .int .i64 0, .int .i64 0, .int .i64 0, .int .i64 0] a2.1 a2.2.1 (w2)) := U1.out.step k o
       have z2 := T2.out.bx.frozen 2
       have v2 := T2.out.bx.cell_ (i := 2) rfl
       have U2 : Hid (Tk (w.alloc (.cells #[.string ⟨#[]⟩, .string ⟨#[]⟩, .bool false, .int .i64 0, .int .i64 0, .int .i64 0, .int .i64 0, .int .i64 0, .int .i64 0] 27)) g S (w.heap.size + 1) 27 #[.string ⟨a1.2.2.toArray⟩, .string ⟨#[]⟩, .bool a2.2.2, .int .i64 0, .int .i64 0, .int .i64 0, .int .i64 0, .int .i64 0, .int .i64 0] a2.1 a2.2.1 (w2.setCell ⟨w.heap.size + 1, 2, none⟩ (.bool a2.2.2))) := T2.out.set 2 _
       clear k o
       have tok3 : True := trivial)
    | (go_at_call 69; have _t := tok3; clear tok3; refine (reader_text g S _ _ 32 _ U2.out.rd M2.out).mono ?_; rw [H3.out]; rintro e w3 ⟨rfl, k, o⟩
       have T3 : Hid (Tk (w.alloc (.cells #[.string ⟨#[]⟩, .string ⟨#[]⟩, .bool false, .int .i64 0, .int .i64 0, .int .i64 0, .int .i64 0, .int .i64 0, .int .i64 0] 27)) g S (w.heap.size + 1) 27 #[.string ⟨a1.2.2.toArray⟩, .string ⟨#[]⟩, .bool a2.2.2, .int .i64 0, .int .i64 0, .int .i64 0, .int .i64 0, .int .i64 0, .int .i64 0] a3.1 a3.2.1 (w3)) := U2.out.step k o
       have z3 := T3.out.bx.frozen 1
       have v3 := T3.out.bx.cell_ (i := 1) rfl
       have U3 : Hid (Tk (w.alloc (.cells #[.string ⟨#[]⟩, .string ⟨#[]⟩, .bool false, .int .i64 0, .int .i64 0, .int .i64 0, .int .i64 0, .int .i64 0, .int .i64 0] 27)) g S (w.heap.size + 1) 27 #[.string ⟨a1.2.2.toArray⟩, .string ⟨a3.2.2.toArray⟩, .bool a2.2.2, .int .i64 0, .int .i64 0, .int .i64 0, .int .i64 0, .int .i64 0, .int .i64 0] a3.1 a3.2.1 (w3.setCell ⟨w.heap.size + 1, 1, none⟩ (.string ⟨a3.2.2.toArray⟩))) := T3.out.set 1 _
       clear k o
       have tok4 : True := trivial)
    | (go_at_call 71; have _t := tok4; clear tok4; refine (take_stamp g S _ _ _ U3.out.rd (FR2.out _ (Nat.le_trans HLE.out U3.out.ho.size)) M3.out).mono ?_; rw [H4.out]; rintro e w4 ⟨rfl, k, o⟩
       have T4 : Hid (Tk (w.alloc (.cells #[.string ⟨#[]⟩, .string ⟨#[]⟩, .bool false, .int .i64 0, .int .i64 0, .int .i64 0, .int .i64 0, .int .i64 0, .int .i64 0] 27)) g S (w.heap.size + 1) 27 #[.string ⟨a1.2.2.toArray⟩, .string ⟨a3.2.2.toArray⟩, .bool a2.2.2, .int .i64 0, .int .i64 0, .int .i64 0, .int .i64 0, .int .i64 0, .int .i64 0] a4.1 a4.2.1 (w4)) := U3.out.step k o
       have z4 := T4.out.bx.frozen 3
       have v4 := T4.out.bx.cell_ (i := 3) rfl
       have U4 : Hid (Tk (w.alloc (.cells #[.string ⟨#[]⟩, .string ⟨#[]⟩, .bool false, .int .i64 0, .int .i64 0, .int .i64 0, .int .i64 0, .int .i64 0, .int .i64 0] 27)) g S (w.heap.size + 1) 27 #[.string ⟨a1.2.2.toArray⟩, .string ⟨a3.2.2.toArray⟩, .bool a2.2.2, .int .i64 a4.2.2.c, .int .i64 0, .int .i64 0, .int .i64 0, .int .i64 0, .int .i64 0] a4.1 a4.2.1 (w4.setCell ⟨w.heap.size + 1, 3, none⟩ (.int .i64 a4.2.2.c))) := T4.out.set 3 _
       have y4 := U4.out.bx.frozen 4
       have x4 := U4.out.bx.cell_ (i := 4) rfl
       have V4 : Hid (Tk (w.alloc (.cells #[.string ⟨#[]⟩, .string ⟨#[]⟩, .bool false, .int .i64 0, .int .i64 0, .int .i64 0, .int .i64 0, .int .i64 0, .int .i64 0] 27)) g S (w.heap.size + 1) 27 #[.string ⟨a1.2.2.toArray⟩, .string ⟨a3.2.2.toArray⟩, .bool a2.2.2, .int .i64 a4.2.2.c, .int .i64 a4.2.2.s, .int .i64 0, .int .i64 0, .int .i64 0, .int .i64 0] a4.1 a4.2.1 ((w4.setCell ⟨w.heap.size + 1, 3, none⟩ (.int .i64 a4.2.2.c)).setCell ⟨w.heap.size + 1, 4, none⟩ (.int .i64 a4.2.2.s))) := U4.out.set 4 _
       clear k o
       have tok5 : True := trivial)
    | (go_at_call 71; have _t := tok5; clear tok5; refine (take_stamp g S _ _ _ V4.out.rd (FR2.out _ (Nat.le_trans HLE.out V4.out.ho.size)) M4.out).mono ?_; rw [H5.out]; rintro e w5 ⟨rfl, k, o⟩
       have T5 : Hid (Tk (w.alloc (.cells #[.string ⟨#[]⟩, .string ⟨#[]⟩, .bool false, .int .i64 0, .int .i64 0, .int .i64 0, .int .i64 0, .int .i64 0, .int .i64 0] 27)) g S (w.heap.size + 1) 27 #[.string ⟨a1.2.2.toArray⟩, .string ⟨a3.2.2.toArray⟩, .bool a2.2.2, .int .i64 a4.2.2.c, .int .i64 a4.2.2.s, .int .i64 0, .int .i64 0, .int .i64 0, .int .i64 0] a5.1 a5.2.1 (w5)) := V4.out.step k o
       have z5 := T5.out.bx.frozen 5
       have v5 := T5.out.bx.cell_ (i := 5) rfl
       have U5 : Hid (Tk (w.alloc (.cells #[.string ⟨#[]⟩, .string ⟨#[]⟩, .bool false, .int .i64 0, .int .i64 0, .int .i64 0, .int .i64 0, .int .i64 0, .int .i64 0] 27)) g S (w.heap.size + 1) 27 #[.string ⟨a1.2.2.toArray⟩, .string ⟨a3.2.2.toArray⟩, .bool a2.2.2, .int .i64 a4.2.2.c, .int .i64 a4.2.2.s, .int .i64 a5.2.2.c, .int .i64 0, .int .i64 0, .int .i64 0] a5.1 a5.2.1 (w5.setCell ⟨w.heap.size + 1, 5, none⟩ (.int .i64 a5.2.2.c))) := T5.out.set 5 _
       have y5 := U5.out.bx.frozen 6
       have x5 := U5.out.bx.cell_ (i := 6) rfl
       have V5 : Hid (Tk (w.alloc (.cells #[.string ⟨#[]⟩, .string ⟨#[]⟩, .bool false, .int .i64 0, .int .i64 0, .int .i64 0, .int .i64 0, .int .i64 0, .int .i64 0] 27)) g S (w.heap.size + 1) 27 #[.string ⟨a1.2.2.toArray⟩, .string ⟨a3.2.2.toArray⟩, .bool a2.2.2, .int .i64 a4.2.2.c, .int .i64 a4.2.2.s, .int .i64 a5.2.2.c, .int .i64 a5.2.2.s, .int .i64 0, .int .i64 0] a5.1 a5.2.1 ((w5.setCell ⟨w.heap.size + 1, 5, none⟩ (.int .i64 a5.2.2.c)).setCell ⟨w.heap.size + 1, 6, none⟩ (.int .i64 a5.2.2.s))) := U5.out.set 6 _
       clear k o
       have tok6 : True := trivial)
    | (go_at_call 72; have _t := tok6; clear tok6; refine (reader_number g S _ _ 2 _ V5.out.rd M5.out).mono ?_; rw [H6.out]; rintro e w6 ⟨rfl, k, o⟩
       have T6 : Hid (Tk (w.alloc (.cells #[.string ⟨#[]⟩, .string ⟨#[]⟩, .bool false, .int .i64 0, .int .i64 0, .int .i64 0, .int .i64 0, .int .i64 0, .int .i64 0] 27)) g S (w.heap.size + 1) 27 #[.string ⟨a1.2.2.toArray⟩, .string ⟨a3.2.2.toArray⟩, .bool a2.2.2, .int .i64 a4.2.2.c, .int .i64 a4.2.2.s, .int .i64 a5.2.2.c, .int .i64 a5.2.2.s, .int .i64 0, .int .i64 0] a6.1 a6.2.1 (w6)) := V5.out.step k o
       have z6 := T6.out.bx.frozen 7
       have v6 := T6.out.bx.cell_ (i := 7) rfl
       have U6 : Hid (Tk (w.alloc (.cells #[.string ⟨#[]⟩, .string ⟨#[]⟩, .bool false, .int .i64 0, .int .i64 0, .int .i64 0, .int .i64 0, .int .i64 0, .int .i64 0] 27)) g S (w.heap.size + 1) 27 #[.string ⟨a1.2.2.toArray⟩, .string ⟨a3.2.2.toArray⟩, .bool a2.2.2, .int .i64 a4.2.2.c, .int .i64 a4.2.2.s, .int .i64 a5.2.2.c, .int .i64 a5.2.2.s, .int .i64 (a6.2.2 : Int), .int .i64 0] a6.1 a6.2.1 (w6.setCell ⟨w.heap.size + 1, 7, none⟩ (.int .i64 (a6.2.2 : Int)))) := T6.out.set 7 _
       clear k o
       have tok7 : True := trivial)
    | (go_at_call 72; have _t := tok7; clear tok7; refine (reader_number g S _ _ 4 _ U6.out.rd M6.out).mono ?_; rw [H7.out]; rintro e w7 ⟨rfl, k, o⟩
       have T7 : Hid (Tk (w.alloc (.cells #[.string ⟨#[]⟩, .string ⟨#[]⟩, .bool false, .int .i64 0, .int .i64 0, .int .i64 0, .int .i64 0, .int .i64 0, .int .i64 0] 27)) g S (w.heap.size + 1) 27 #[.string ⟨a1.2.2.toArray⟩, .string ⟨a3.2.2.toArray⟩, .bool a2.2.2, .int .i64 a4.2.2.c, .int .i64 a4.2.2.s, .int .i64 a5.2.2.c, .int .i64 a5.2.2.s, .int .i64 (a6.2.2 : Int), .int .i64 0] a7.1 a7.2.1 (w7)) := U6.out.step k o
       have z7 := T7.out.bx.frozen 8
       have v7 := T7.out.bx.cell_ (i := 8) rfl
       have U7 : Hid (Tk (w.alloc (.cells #[.string ⟨#[]⟩, .string ⟨#[]⟩, .bool false, .int .i64 0, .int .i64 0, .int .i64 0, .int .i64 0, .int .i64 0, .int .i64 0] 27)) g S (w.heap.size + 1) 27 #[.string ⟨a1.2.2.toArray⟩, .string ⟨a3.2.2.toArray⟩, .bool a2.2.2, .int .i64 a4.2.2.c, .int .i64 a4.2.2.s, .int .i64 a5.2.2.c, .int .i64 a5.2.2.s, .int .i64 (a6.2.2 : Int), .int .i64 (a7.2.2 : Int)] a7.1 a7.2.1 (w7.setCell ⟨w.heap.size + 1, 8, none⟩ (.int .i64 (a7.2.2 : Int)))) := T7.out.set 8 _
       clear k o
       have tok8 : True := trivial)
    | (refine wpl_load rfl 27 _ rfl (w.heap.size + 1) rfl 27 #[.string ⟨a1.2.2.toArray⟩, .string ⟨a3.2.2.toArray⟩, .bool a2.2.2, .int .i64 a4.2.2.c, .int .i64 a4.2.2.s, .int .i64 a5.2.2.c, .int .i64 a5.2.2.s, .int .i64 (a6.2.2 : Int), .int .i64 (a7.2.2 : Int)] _ U7.out.bx Try.underlying27 rfl (by kernel_rfl) ?_
       have R7 := Lib.hid (R0.out.only U7.out.ho (fun e => by have e' : w.heap.size = g := e; have := HG.out; omega)))
    | (refine wpList_store_row rfl 27 _ _ rfl w.heap.size #[.string ⟨a1.2.2.toArray⟩, .string ⟨a3.2.2.toArray⟩, .bool a2.2.2, .int .i64 a4.2.2.c, .int .i64 a4.2.2.s, .int .i64 a5.2.2.c, .int .i64 a5.2.2.s, .int .i64 (a6.2.2 : Int), .int .i64 (a7.2.2 : Int)] rfl rfl 27 _ R7.out (by kernel_rfl) rfl (by simp [Value.oneCell']) ?_
       have R8 := Lib.hid (R7.out.setRow #[.string ⟨a1.2.2.toArray⟩, .string ⟨a3.2.2.toArray⟩, .bool a2.2.2, .int .i64 a4.2.2.c, .int .i64 a4.2.2.s, .int .i64 a5.2.2.c, .int .i64 a5.2.2.s, .int .i64 (a6.2.2 : Int), .int .i64 (a7.2.2 : Int)])))
  refine bodyPost_ret (results_cell_row rfl _ _ w.heap.size 27 _ (0, 0) _ rfl R8.out Try.underlying27 rfl (by kernel_rfl)) rfl ?_
  have oF := (Only.refl (one w.heap.size) (w7.setCell ⟨w.heap.size + 1, 8, none⟩ (.int .i64 (a7.2.2 : Int)))).setRow (g := w.heap.size) (.inl (show one w.heap.size w.heap.size from rfl)) #[.string ⟨a1.2.2.toArray⟩, .string ⟨a3.2.2.toArray⟩, .bool a2.2.2, .int .i64 a4.2.2.c, .int .i64 a4.2.2.s, .int .i64 a5.2.2.c, .int .i64 a5.2.2.s, .int .i64 (a6.2.2 : Int), .int .i64 (a7.2.2 : Int)]
  rw [HS.out]
  exact ⟨rfl, U7.out.rd.only oF (fun e => by have e' : g = w.heap.size := e; have := HG.out; omega) (fun b hb e => by have e' : b = w.heap.size := e; have := FR.out b hb; omega),
    (O0.out.trans U7.out.ho).setRow (g := w.heap.size) (.inr (Nat.le_refl _)) _⟩
end Go.Proofs.Ytdjondjlengapaa
