/- Texts of mine, one behind the other: EnW, EnX, EnY, EoE, RpW, JnU, JoE. No statement of the seat is proved here. -/
import Derived.Test.YtoohpcomnhfgpaaGreatGk16
import Derived.Test.YtoohpcomnhfgpaaGreatGk14
import Derived.Test.YtoohpcomnhfgpaaGreatGk2
import Derived.Laws.Tables
import Derived.Test.YtoohpcomnhfgpaaGreatGk3
import Derived.Test.YtoohpcomnhfgpaaGreatGk9
import Derived.Test.YtoohpcomnhfgpaaGreatGk10
import Derived.Test.YtoohpcomnhfgpaaGreatGk5
import Derived.Lib.AppendZeros
import Derived.Test.YtoohpcomnhfgpaaGreatGk11
section
namespace Go.Proofs.YtoohpcomnhfgpaaGreat
open Go.RowKit
set_option maxRecDepth 100000
set_option linter.all false
theorem textR_len (code : Int) (bs : List UInt8) (most : Int) : (textR code bs most).2.1.length ≤ bs.length := by
  unfold textR
  split
  · simp
  · split
    · exact Nat.le_refl _
    · split
      · exact Nat.le_refl _
      · split
        · exact Nat.le_refl _
        · simp only [List.length_drop, List.length_cons]; omega
theorem flagR_len (code : Int) (bs : List UInt8) : (flagR code bs).2.1.length ≤ bs.length := by
  unfold flagR
  split
  · simp
  · split
    · exact Nat.le_refl _
    · split
      · exact Nat.le_refl _
      · simp
theorem stampR_len (code : Int) (bs : List UInt8) : (stampR code bs).2.1.length ≤ bs.length :=
  Nat.le_trans (numR_len _ _ 1) (numR_len _ _ 4)
theorem Tk.new2 {w : World} {g : Nat} {S : Nat → Prop} {t : TypeId} {cs : Array Value} {code : Int} {bs : List UInt8} (o : Obj) (hr : Rd w g S code bs) (fr : ∀ b, S b → b < w.heap.size) :
    Tk (w.alloc o) g S (w.heap.size + 1) t cs code bs ((w.alloc o).alloc (.cells cs t)) := by
  have := Tk.new (t := t) (cs := cs) (hr.only ((Only.refl none_ _).alloc o) (fun h => h) (fun _ _ h => h)) (fun b hb => by rw [World.size_alloc]; have := fr b hb; omega)
  rwa [World.size_alloc] at this
theorem size_le_alloc (w : World) (o : Obj) : w.heap.size ≤ (w.alloc o).heap.size := by rw [World.size_alloc]; omega
structure Fr7 where
  a1 : Int × List UInt8 × List UInt8
  a2 : Int × List UInt8 × Bool
  a3 : Int × List UInt8 × List UInt8
  a4 : Int × List UInt8 × St
  a5 : Int × List UInt8 × St
  a6 : Int × List UInt8 × Nat
  a7 : Int × List UInt8 × Nat
def fieldsF (code : Int) (bs : List UInt8) : Fr7 :=
  let a1 := textR code bs 16
  let a2 := flagR a1.1 a1.2.1
  let a3 := textR a2.1 a2.2.1 32
  let a4 := stampR a3.1 a3.2.1
  let a5 := stampR a4.1 a4.2.1
  let a6 := numR a5.1 a5.2.1 2
  let a7 := numR a6.1 a6.2.1 4
  ⟨a1, a2, a3, a4, a5, a6, a7⟩
def Fr7.en (f : Fr7) : En := ⟨⟨f.a1.2.2.toArray⟩, ⟨f.a3.2.2.toArray⟩, f.a2.2.2, f.a4.2.2, f.a5.2.2, f.a6.2.2, f.a7.2.2⟩
set_option maxHeartbeats 1600000 in
theorem take_fields (g : Nat) (S : Nat → Prop) (code : Int) (bs : List UInt8) (w : World) (hr : Rd w g S code bs) (fr : ∀ b, S b → b < w.heap.size) (hm : bs.length ≤ 140737488355328) :
    Calls Tryz.prog 219 #[.pointer (some ⟨g, 0, none⟩)] w fun e w' =>
      e = .returned (.agg #[.string (fieldsF code bs).en.k, .string (fieldsF code bs).en.v, .bool (fieldsF code bs).en.d, .int .i64 (fieldsF code bs).en.s.c, .int .i64 (fieldsF code bs).en.s.s, .int .i64 (fieldsF code bs).en.a.c, .int .i64 (fieldsF code bs).en.a.s, .int .i64 (fieldsF code bs).en.p, .int .i64 (fieldsF code bs).en.g]) ∧ Rd w' g S (fieldsF code bs).a7.1 (fieldsF code bs).a7.2.1 ∧ Only (one g) w w' := by
  have hg := hr.lt
  have HG := Lib.hid hg
  clear hg
  have R0 := Lib.hid (Blk.new w 82 #[.string ⟨#[]⟩, .string ⟨#[]⟩, .bool false, .int .i64 0, .int .i64 0, .int .i64 0, .int .i64 0, .int .i64 0, .int .i64 0])
  have O0 := Lib.hid ((Only.refl (one g) w).alloc (.cells #[.string ⟨#[]⟩, .string ⟨#[]⟩, .bool false, .int .i64 0, .int .i64 0, .int .i64 0, .int .i64 0, .int .i64 0, .int .i64 0] 82))
  have T0 := Tk.new2 (t := 82) (cs := #[.string ⟨#[]⟩, .string ⟨#[]⟩, .bool false, .int .i64 0, .int .i64 0, .int .i64 0, .int .i64 0, .int .i64 0, .int .i64 0]) (.cells #[.string ⟨#[]⟩, .string ⟨#[]⟩, .bool false, .int .i64 0, .int .i64 0, .int .i64 0, .int .i64 0, .int .i64 0, .int .i64 0] 82) hr fr
  have T := Lib.hid T0
  clear T0
  obtain ⟨a1, h1⟩ : ∃ a, textR code bs 16 = a := ⟨_, rfl⟩
  obtain ⟨a2, h2⟩ : ∃ a, flagR a1.1 a1.2.1 = a := ⟨_, rfl⟩
  obtain ⟨a3, h3⟩ : ∃ a, textR a2.1 a2.2.1 32 = a := ⟨_, rfl⟩
  obtain ⟨a4, h4⟩ : ∃ a, stampR a3.1 a3.2.1 = a := ⟨_, rfl⟩
  obtain ⟨a5, h5⟩ : ∃ a, stampR a4.1 a4.2.1 = a := ⟨_, rfl⟩
  obtain ⟨a6, h6⟩ : ∃ a, numR a5.1 a5.2.1 2 = a := ⟨_, rfl⟩
  obtain ⟨a7, h7⟩ : ∃ a, numR a6.1 a6.2.1 4 = a := ⟨_, rfl⟩
  have l6 : a6.2.2 < 256 ^ 2 := h6 ▸ numR_lt a5.1 a5.2.1 2
  have l7 : a7.2.2 < 256 ^ 4 := h7 ▸ numR_lt a6.1 a6.2.1 4
  have m1 : a1.2.1.length ≤ 140737488355328 := Nat.le_trans (h1 ▸ textR_len code bs 16) hm
  have m2 : a2.2.1.length ≤ 140737488355328 := Nat.le_trans (h2 ▸ flagR_len a1.1 a1.2.1) m1
  have m3 : a3.2.1.length ≤ 140737488355328 := Nat.le_trans (h3 ▸ textR_len a2.1 a2.2.1 32) m2
  have m4 : a4.2.1.length ≤ 140737488355328 := Nat.le_trans (h4 ▸ stampR_len a3.1 a3.2.1) m3
  have m5 : a5.2.1.length ≤ 140737488355328 := Nat.le_trans (h5 ▸ stampR_len a4.1 a4.2.1) m4
  have m6 : a6.2.1.length ≤ 140737488355328 := Nat.le_trans (h6 ▸ numR_len a5.1 a5.2.1 2) m5
  have HS : Hid (fieldsF code bs = ⟨a1, a2, a3, a4, a5, a6, a7⟩) := by rw [Hid, fieldsF]; simp only [h1, h2, h3, h4, h5, h6, h7]
  have A6 : IntKind.i64.wrap (a6.2.2 : Int) = (a6.2.2 : Int) := IntWalk.i64_in _ (by omega)
  have A7 : IntKind.i64.wrap (a7.2.2 : Int) = (a7.2.2 : Int) := IntWalk.i64_in _ (by omega)
  have M1 := Lib.hid m1
  have M2 := Lib.hid m2
  have M3 := Lib.hid m3
  have M4 := Lib.hid m4
  have M5 := Lib.hid m5
  have M6 := Lib.hid m6
  have H1 := Lib.hid h1
  have H2 := Lib.hid h2
  have H3 := Lib.hid h3
  have H4 := Lib.hid h4
  have H5 := Lib.hid h5
  have H6 := Lib.hid h6
  have H7 := Lib.hid h7
  have HM := Lib.hid hm
  have FR := Lib.hid fr
  have FR2 : Hid (∀ (w' : World), w.heap.size ≤ w'.heap.size → ∀ b, S b → b < w'.heap.size) := fun w' h b hb => Nat.lt_of_lt_of_le (fr b hb) h
  have hle := size_le_alloc w (.cells #[.string ⟨#[]⟩, .string ⟨#[]⟩, .bool false, .int .i64 0, .int .i64 0, .int .i64 0, .int .i64 0, .int .i64 0, .int .i64 0] 82)
  have HLE := Lib.hid hle
  clear h1 h2 h3 h4 h5 h6 h7 l6 l7 m1 m2 m3 m4 m5 m6 hr fr hm hle
  have tok1 : True := trivial
  go_enter Tryz.func219, Tryz.ntmps219
  go_wp2_with (first
    | (go_at_call 255; have _t := tok1; clear tok1; refine (reader_text g S _ _ 16 _ T.out.rd HM.out).mono ?_; rw [H1.out]; rintro e w1 ⟨rfl, k, o⟩
       have T1 : Hid (Tk (w.alloc (.cells #[.string ⟨#[]⟩, .string ⟨#[]⟩, .bool false, .int .i64 0, .int .i64 0, .int .i64 0, .int .i64 0, .int .i64 0, .int .i64 0] 82)) g S (w.heap.size + 1) 82 #[.string ⟨#[]⟩, .string ⟨#[]⟩, .bool false, .int .i64 0, .int .i64 0, .int .i64 0, .int .i64 0, .int .i64 0, .int .i64 0] a1.1 a1.2.1 (w1)) := T.out.step k o
       have z1 := T1.out.bx.frozen 0
       have v1 := T1.out.bx.cell_ (i := 0) rfl
       have U1 : Hid (Tk (w.alloc (.cells #[.string ⟨#[]⟩, .string ⟨#[]⟩, .bool false, .int .i64 0, .int .i64 0, .int .i64 0, .int .i64 0, .int .i64 0, .int .i64 0] 82)) g S (w.heap.size + 1) 82 #[.string ⟨a1.2.2.toArray⟩, .string ⟨#[]⟩, .bool false, .int .i64 0, .int .i64 0, .int .i64 0, .int .i64 0, .int .i64 0, .int .i64 0] a1.1 a1.2.1 (w1.setCell ⟨w.heap.size + 1, 0, none⟩ (.string ⟨a1.2.2.toArray⟩))) := T1.out.set 0 _
       clear k o
       have tok2 : True := trivial)
    | (go_at_call 256; have _t := tok2; clear tok2; refine (reader_flag g S _ _ _ U1.out.rd M1.out).mono ?_; rw [H2.out]; rintro e w2 ⟨rfl, k, o⟩
       have T2 : Hid (Tk (w.alloc (.cells #[.string ⟨#[]⟩, .string ⟨#[]⟩, .bool false, .int .i64 0, .int .i64 0, .int .i64 0, .int .i64 0, .int .i64 0, .int .i64 0] 82)) g S (w.heap.size + 1) 82 #[.string ⟨a1.2.2.toArray⟩, .string ⟨#[]⟩, .bool false, .int .i64 0, .int .i64 0, .int .i64 0, .int .i64 0, .int .i64 0, .int .i64 0] a2.1 a2.2.1 (w2)) := U1.out.step k o
       have z2 := T2.out.bx.frozen 2
       have v2 := T2.out.bx.cell_ (i := 2) rfl
       have U2 : Hid (Tk (w.alloc (.cells #[.string ⟨#[]⟩, .string ⟨#[]⟩, .bool false, .int .i64 0, .int .i64 0, .int .i64 0, .int .i64 0, .int .i64 0, .int .i64 0] 82)) g S (w.heap.size + 1) 82 #[.string ⟨a1.2.2.toArray⟩, .string ⟨#[]⟩, .bool a2.2.2, .int .i64 0, .int .i64 0, .int .i64 0, .int .i64 0, .int .i64 0, .int .i64 0] a2.1 a2.2.1 (w2.setCell ⟨w.heap.size + 1, 2, none⟩ (.bool a2.2.2))) := T2.out.set 2 _
       clear k o
       have tok3 : True := trivial)
    | (go_at_call 255; have _t := tok3; clear tok3; refine (reader_text g S _ _ 32 _ U2.out.rd M2.out).mono ?_; rw [H3.out]; rintro e w3 ⟨rfl, k, o⟩
       have T3 : Hid (Tk (w.alloc (.cells #[.string ⟨#[]⟩, .string ⟨#[]⟩, .bool false, .int .i64 0, .int .i64 0, .int .i64 0, .int .i64 0, .int .i64 0, .int .i64 0] 82)) g S (w.heap.size + 1) 82 #[.string ⟨a1.2.2.toArray⟩, .string ⟨#[]⟩, .bool a2.2.2, .int .i64 0, .int .i64 0, .int .i64 0, .int .i64 0, .int .i64 0, .int .i64 0] a3.1 a3.2.1 (w3)) := U2.out.step k o
       have z3 := T3.out.bx.frozen 1
       have v3 := T3.out.bx.cell_ (i := 1) rfl
       have U3 : Hid (Tk (w.alloc (.cells #[.string ⟨#[]⟩, .string ⟨#[]⟩, .bool false, .int .i64 0, .int .i64 0, .int .i64 0, .int .i64 0, .int .i64 0, .int .i64 0] 82)) g S (w.heap.size + 1) 82 #[.string ⟨a1.2.2.toArray⟩, .string ⟨a3.2.2.toArray⟩, .bool a2.2.2, .int .i64 0, .int .i64 0, .int .i64 0, .int .i64 0, .int .i64 0, .int .i64 0] a3.1 a3.2.1 (w3.setCell ⟨w.heap.size + 1, 1, none⟩ (.string ⟨a3.2.2.toArray⟩))) := T3.out.set 1 _
       clear k o
       have tok4 : True := trivial)
    | (go_at_call 257; have _t := tok4; clear tok4; refine (take_stamp g S _ _ _ U3.out.rd (FR2.out _ (Nat.le_trans HLE.out U3.out.ho.size)) M3.out).mono ?_; rw [H4.out]; rintro e w4 ⟨rfl, k, o⟩
       have T4 : Hid (Tk (w.alloc (.cells #[.string ⟨#[]⟩, .string ⟨#[]⟩, .bool false, .int .i64 0, .int .i64 0, .int .i64 0, .int .i64 0, .int .i64 0, .int .i64 0] 82)) g S (w.heap.size + 1) 82 #[.string ⟨a1.2.2.toArray⟩, .string ⟨a3.2.2.toArray⟩, .bool a2.2.2, .int .i64 0, .int .i64 0, .int .i64 0, .int .i64 0, .int .i64 0, .int .i64 0] a4.1 a4.2.1 (w4)) := U3.out.step k o
       have z4 := T4.out.bx.frozen 3
       have v4 := T4.out.bx.cell_ (i := 3) rfl
       have U4 : Hid (Tk (w.alloc (.cells #[.string ⟨#[]⟩, .string ⟨#[]⟩, .bool false, .int .i64 0, .int .i64 0, .int .i64 0, .int .i64 0, .int .i64 0, .int .i64 0] 82)) g S (w.heap.size + 1) 82 #[.string ⟨a1.2.2.toArray⟩, .string ⟨a3.2.2.toArray⟩, .bool a2.2.2, .int .i64 a4.2.2.c, .int .i64 0, .int .i64 0, .int .i64 0, .int .i64 0, .int .i64 0] a4.1 a4.2.1 (w4.setCell ⟨w.heap.size + 1, 3, none⟩ (.int .i64 a4.2.2.c))) := T4.out.set 3 _
       have y4 := U4.out.bx.frozen 4
       have x4 := U4.out.bx.cell_ (i := 4) rfl
       have V4 : Hid (Tk (w.alloc (.cells #[.string ⟨#[]⟩, .string ⟨#[]⟩, .bool false, .int .i64 0, .int .i64 0, .int .i64 0, .int .i64 0, .int .i64 0, .int .i64 0] 82)) g S (w.heap.size + 1) 82 #[.string ⟨a1.2.2.toArray⟩, .string ⟨a3.2.2.toArray⟩, .bool a2.2.2, .int .i64 a4.2.2.c, .int .i64 a4.2.2.s, .int .i64 0, .int .i64 0, .int .i64 0, .int .i64 0] a4.1 a4.2.1 ((w4.setCell ⟨w.heap.size + 1, 3, none⟩ (.int .i64 a4.2.2.c)).setCell ⟨w.heap.size + 1, 4, none⟩ (.int .i64 a4.2.2.s))) := U4.out.set 4 _
       clear k o
       have tok5 : True := trivial)
    | (go_at_call 257; have _t := tok5; clear tok5; refine (take_stamp g S _ _ _ V4.out.rd (FR2.out _ (Nat.le_trans HLE.out V4.out.ho.size)) M4.out).mono ?_; rw [H5.out]; rintro e w5 ⟨rfl, k, o⟩
       have T5 : Hid (Tk (w.alloc (.cells #[.string ⟨#[]⟩, .string ⟨#[]⟩, .bool false, .int .i64 0, .int .i64 0, .int .i64 0, .int .i64 0, .int .i64 0, .int .i64 0] 82)) g S (w.heap.size + 1) 82 #[.string ⟨a1.2.2.toArray⟩, .string ⟨a3.2.2.toArray⟩, .bool a2.2.2, .int .i64 a4.2.2.c, .int .i64 a4.2.2.s, .int .i64 0, .int .i64 0, .int .i64 0, .int .i64 0] a5.1 a5.2.1 (w5)) := V4.out.step k o
       have z5 := T5.out.bx.frozen 5
       have v5 := T5.out.bx.cell_ (i := 5) rfl
       have U5 : Hid (Tk (w.alloc (.cells #[.string ⟨#[]⟩, .string ⟨#[]⟩, .bool false, .int .i64 0, .int .i64 0, .int .i64 0, .int .i64 0, .int .i64 0, .int .i64 0] 82)) g S (w.heap.size + 1) 82 #[.string ⟨a1.2.2.toArray⟩, .string ⟨a3.2.2.toArray⟩, .bool a2.2.2, .int .i64 a4.2.2.c, .int .i64 a4.2.2.s, .int .i64 a5.2.2.c, .int .i64 0, .int .i64 0, .int .i64 0] a5.1 a5.2.1 (w5.setCell ⟨w.heap.size + 1, 5, none⟩ (.int .i64 a5.2.2.c))) := T5.out.set 5 _
       have y5 := U5.out.bx.frozen 6
       have x5 := U5.out.bx.cell_ (i := 6) rfl
       have V5 : Hid (Tk (w.alloc (.cells #[.string ⟨#[]⟩, .string ⟨#[]⟩, .bool false, .int .i64 0, .int .i64 0, .int .i64 0, .int .i64 0, .int .i64 0, .int .i64 0] 82)) g S (w.heap.size + 1) 82 #[.string ⟨a1.2.2.toArray⟩, .string ⟨a3.2.2.toArray⟩, .bool a2.2.2, .int .i64 a4.2.2.c, .int .i64 a4.2.2.s, .int .i64 a5.2.2.c, .int .i64 a5.2.2.s, .int .i64 0, .int .i64 0] a5.1 a5.2.1 ((w5.setCell ⟨w.heap.size + 1, 5, none⟩ (.int .i64 a5.2.2.c)).setCell ⟨w.heap.size + 1, 6, none⟩ (.int .i64 a5.2.2.s))) := U5.out.set 6 _
       clear k o
       have tok6 : True := trivial)
    | (go_at_call 251; have _t := tok6; clear tok6; refine (reader_number g S _ _ 2 _ V5.out.rd M5.out).mono ?_; rw [H6.out]; rintro e w6 ⟨rfl, k, o⟩
       have T6 : Hid (Tk (w.alloc (.cells #[.string ⟨#[]⟩, .string ⟨#[]⟩, .bool false, .int .i64 0, .int .i64 0, .int .i64 0, .int .i64 0, .int .i64 0, .int .i64 0] 82)) g S (w.heap.size + 1) 82 #[.string ⟨a1.2.2.toArray⟩, .string ⟨a3.2.2.toArray⟩, .bool a2.2.2, .int .i64 a4.2.2.c, .int .i64 a4.2.2.s, .int .i64 a5.2.2.c, .int .i64 a5.2.2.s, .int .i64 0, .int .i64 0] a6.1 a6.2.1 (w6)) := V5.out.step k o
       have z6 := T6.out.bx.frozen 7
       have v6 := T6.out.bx.cell_ (i := 7) rfl
       have U6 : Hid (Tk (w.alloc (.cells #[.string ⟨#[]⟩, .string ⟨#[]⟩, .bool false, .int .i64 0, .int .i64 0, .int .i64 0, .int .i64 0, .int .i64 0, .int .i64 0] 82)) g S (w.heap.size + 1) 82 #[.string ⟨a1.2.2.toArray⟩, .string ⟨a3.2.2.toArray⟩, .bool a2.2.2, .int .i64 a4.2.2.c, .int .i64 a4.2.2.s, .int .i64 a5.2.2.c, .int .i64 a5.2.2.s, .int .i64 (a6.2.2 : Int), .int .i64 0] a6.1 a6.2.1 (w6.setCell ⟨w.heap.size + 1, 7, none⟩ (.int .i64 (a6.2.2 : Int)))) := T6.out.set 7 _
       clear k o
       have tok7 : True := trivial)
    | (go_at_call 251; have _t := tok7; clear tok7; refine (reader_number g S _ _ 4 _ U6.out.rd M6.out).mono ?_; rw [H7.out]; rintro e w7 ⟨rfl, k, o⟩
       have T7 : Hid (Tk (w.alloc (.cells #[.string ⟨#[]⟩, .string ⟨#[]⟩, .bool false, .int .i64 0, .int .i64 0, .int .i64 0, .int .i64 0, .int .i64 0, .int .i64 0] 82)) g S (w.heap.size + 1) 82 #[.string ⟨a1.2.2.toArray⟩, .string ⟨a3.2.2.toArray⟩, .bool a2.2.2, .int .i64 a4.2.2.c, .int .i64 a4.2.2.s, .int .i64 a5.2.2.c, .int .i64 a5.2.2.s, .int .i64 (a6.2.2 : Int), .int .i64 0] a7.1 a7.2.1 (w7)) := U6.out.step k o
       have z7 := T7.out.bx.frozen 8
       have v7 := T7.out.bx.cell_ (i := 8) rfl
       have U7 : Hid (Tk (w.alloc (.cells #[.string ⟨#[]⟩, .string ⟨#[]⟩, .bool false, .int .i64 0, .int .i64 0, .int .i64 0, .int .i64 0, .int .i64 0, .int .i64 0] 82)) g S (w.heap.size + 1) 82 #[.string ⟨a1.2.2.toArray⟩, .string ⟨a3.2.2.toArray⟩, .bool a2.2.2, .int .i64 a4.2.2.c, .int .i64 a4.2.2.s, .int .i64 a5.2.2.c, .int .i64 a5.2.2.s, .int .i64 (a6.2.2 : Int), .int .i64 (a7.2.2 : Int)] a7.1 a7.2.1 (w7.setCell ⟨w.heap.size + 1, 8, none⟩ (.int .i64 (a7.2.2 : Int)))) := T7.out.set 8 _
       clear k o
       have tok8 : True := trivial)
    | (refine wpl_load rfl 82 _ rfl (w.heap.size + 1) rfl 82 #[.string ⟨a1.2.2.toArray⟩, .string ⟨a3.2.2.toArray⟩, .bool a2.2.2, .int .i64 a4.2.2.c, .int .i64 a4.2.2.s, .int .i64 a5.2.2.c, .int .i64 a5.2.2.s, .int .i64 (a6.2.2 : Int), .int .i64 (a7.2.2 : Int)] _ U7.out.bx Tryz.underlying82 rfl (by kernel_rfl) ?_
       have R7 := Lib.hid (R0.out.only U7.out.ho (fun e => by have e' : w.heap.size = g := e; have := HG.out; omega)))
    | (refine wpList_store_row rfl 82 _ _ rfl w.heap.size #[.string ⟨a1.2.2.toArray⟩, .string ⟨a3.2.2.toArray⟩, .bool a2.2.2, .int .i64 a4.2.2.c, .int .i64 a4.2.2.s, .int .i64 a5.2.2.c, .int .i64 a5.2.2.s, .int .i64 (a6.2.2 : Int), .int .i64 (a7.2.2 : Int)] rfl rfl 82 _ R7.out (by kernel_rfl) rfl (by simp [Value.oneCell']) ?_
       have R8 := Lib.hid (R7.out.setRow #[.string ⟨a1.2.2.toArray⟩, .string ⟨a3.2.2.toArray⟩, .bool a2.2.2, .int .i64 a4.2.2.c, .int .i64 a4.2.2.s, .int .i64 a5.2.2.c, .int .i64 a5.2.2.s, .int .i64 (a6.2.2 : Int), .int .i64 (a7.2.2 : Int)])))
  refine bodyPost_ret (results_cell_row rfl _ _ w.heap.size 82 _ (0, 0) _ rfl R8.out Tryz.underlying82 rfl (by kernel_rfl)) rfl ?_
  have oF := (Only.refl (one w.heap.size) (w7.setCell ⟨w.heap.size + 1, 8, none⟩ (.int .i64 (a7.2.2 : Int)))).setRow (g := w.heap.size) (.inl (show one w.heap.size w.heap.size from rfl)) #[.string ⟨a1.2.2.toArray⟩, .string ⟨a3.2.2.toArray⟩, .bool a2.2.2, .int .i64 a4.2.2.c, .int .i64 a4.2.2.s, .int .i64 a5.2.2.c, .int .i64 a5.2.2.s, .int .i64 (a6.2.2 : Int), .int .i64 (a7.2.2 : Int)]
  rw [HS.out]
  exact ⟨rfl, U7.out.rd.only oF (fun e => by have e' : g = w.heap.size := e; have := HG.out; omega) (fun b hb e => by have e' : b = w.heap.size := e; have := FR.out b hb; omega),
    (O0.out.trans U7.out.ho).setRow (g := w.heap.size) (.inr (Nat.le_refl _)) _⟩
end Go.Proofs.YtoohpcomnhfgpaaGreat
end
section
namespace Go.Proofs.YtoohpcomnhfgpaaGreat
open Go.RowKit
set_option linter.all false
set_option maxRecDepth 100000
def takeC (code : Int) (bs : List UInt8) : Int := if enCheck (fieldsF code bs).en = 0 then (fieldsF code bs).a7.1 else first_ (fieldsF code bs).a7.1 4
def takeB (code : Int) (bs : List UInt8) : List UInt8 := (fieldsF code bs).a7.2.1
def takeE (code : Int) (bs : List UInt8) : En := if takeC code bs = 0 then (fieldsF code bs).en else enZero
theorem first_four (c : Int) : first_ c 4 ≠ 0 := by unfold first_; split <;> simp_all
set_option maxHeartbeats 1600000 in
theorem take_any (g : Nat) (S : Nat → Prop) (code : Int) (bs : List UInt8) (w : World) (hr : Rd w g S code bs) (fr : ∀ b, S b → b < w.heap.size) (hm : bs.length ≤ 140737488355328) :
    Calls Tryz.prog 175 #[.pointer (some ⟨g, 0, none⟩)] w fun e w' =>
      e = .returned (.agg #[.string (takeE code bs).k, .string (takeE code bs).v, .bool (takeE code bs).d, .int .i64 (takeE code bs).s.c, .int .i64 (takeE code bs).s.s, .int .i64 (takeE code bs).a.c, .int .i64 (takeE code bs).a.s, .int .i64 (takeE code bs).p, .int .i64 (takeE code bs).g]) ∧ Rd w' g S (takeC code bs) (takeB code bs) ∧ Only (one g) w w' := by
  have hg := hr.lt
  have R0 := Lib.hid (Blk.new w 82 #[.string ⟨#[]⟩, .string ⟨#[]⟩, .bool false, .int .i64 0, .int .i64 0, .int .i64 0, .int .i64 0, .int .i64 0, .int .i64 0])
  have o0 := (Only.refl none_ w).alloc (.cells #[.string ⟨#[]⟩, .string ⟨#[]⟩, .bool false, .int .i64 0, .int .i64 0, .int .i64 0, .int .i64 0, .int .i64 0, .int .i64 0] 82)
  have C := take_fields g S code bs (w.alloc (.cells #[.string ⟨#[]⟩, .string ⟨#[]⟩, .bool false, .int .i64 0, .int .i64 0, .int .i64 0, .int .i64 0, .int .i64 0, .int .i64 0] 82)) (hr.only o0 (fun h => h) (fun _ _ h => h)) (fun b hb => Nat.lt_of_lt_of_le (fr b hb) o0.size) hm
  have HD : Hid (takeC code bs = (if enCheck (fieldsF code bs).en = 0 then (fieldsF code bs).a7.1 else first_ (fieldsF code bs).a7.1 4) ∧ takeB code bs = (fieldsF code bs).a7.2.1 ∧ takeE code bs = (if takeC code bs = 0 then (fieldsF code bs).en else enZero)) := ⟨rfl, rfl, rfl⟩
  obtain ⟨f, hf⟩ : ∃ f, fieldsF code bs = f := ⟨_, rfl⟩
  rw [hf] at C HD
  obtain ⟨E, hE⟩ : ∃ E, f.en = E := ⟨_, rfl⟩
  obtain ⟨c7, h7⟩ : ∃ c, f.a7.1 = c := ⟨_, rfl⟩
  obtain ⟨b7, hb7⟩ : ∃ c, f.a7.2.1 = c := ⟨_, rfl⟩
  rw [hE, h7, hb7] at C HD
  obtain ⟨z, hz⟩ : ∃ z, enCheck E = z := ⟨_, rfl⟩
  rw [hz] at HD
  have HZ := Lib.hid hz
  have HG := Lib.hid hg
  have HC := Lib.hid C
  have FR := Lib.hid fr
  have O0 := Lib.hid (o0.of_none (S := one g))
  have ne0 : Hid (∀ k, k = w.heap.size → ¬ one g k) := fun k e e' => by have e'' : k = g := e'; omega
  clear hr fr hm hf hE h7 hb7 hz C hg o0
  by_cases hz0 : z = 0
  · subst hz0
    obtain ⟨hc1, hc2, hc3⟩ := HD.out
    rw [if_pos rfl] at hc1
    rw [hc1] at hc3
    by_cases h0 : c7 = 0
    · subst h0
      rw [if_pos rfl] at hc3
      have HE : Hid (takeC code bs = 0 ∧ takeB code bs = b7 ∧ takeE code bs = E) := ⟨hc1, hc2, hc3⟩
      clear hc1 hc2 hc3 HD
      go_enter Tryz.func175, Tryz.ntmps175
      go_wp2_with (first
        | (go_at_call 219; refine HC.out.mono ?_; rintro e w1 ⟨rfl, r1, o1⟩
           have R1 := Lib.hid (R0.out.only o1 (ne0.out _ rfl))
           have O1 := Lib.hid (O0.out.trans o1)
           have D1 := Lib.hid (r1.only ((Only.refl none_ w1).alloc (.cells #[.string E.k, .string E.v, .bool E.d, .int .i64 E.s.c, .int .i64 E.s.s, .int .i64 E.a.c, .int .i64 E.a.s, .int .i64 E.p, .int .i64 E.g] 82)) (fun h => h) (fun _ _ h => h))
           have B1 := Lib.hid (Blk.new w1 82 #[.string E.k, .string E.v, .bool E.d, .int .i64 E.s.c, .int .i64 E.s.s, .int .i64 E.a.c, .int .i64 E.a.s, .int .i64 E.p, .int .i64 E.g])
           have G1 : Hid (w1.heap.size ≠ g) := by have := HG.out; have := o1.size; rw [World.size_alloc] at this; simp only [Hid]; omega
           clear r1 o1)
        | (refine wpl_load rfl 82 _ rfl w1.heap.size rfl 82 #[.string E.k, .string E.v, .bool E.d, .int .i64 E.s.c, .int .i64 E.s.s, .int .i64 E.a.c, .int .i64 E.a.s, .int .i64 E.p, .int .i64 E.g] _ B1.out Tryz.underlying82 rfl (by kernel_rfl) ?_)
        | (go_at_call 83; refine (en_check E _).mono ?_; rw [HZ.out]; rintro e w2 ⟨rfl, o2⟩
           have oo := ((Only.refl none_ w1).alloc (.cells #[.string E.k, .string E.v, .bool E.d, .int .i64 E.s.c, .int .i64 E.s.s, .int .i64 E.a.c, .int .i64 E.a.s, .int .i64 E.p, .int .i64 E.g] 82)).trans o2
           have R2 := Lib.hid (R1.out.only oo (fun h => h))
           have O2 := Lib.hid (O1.out.trans oo.of_none)
           have D2 := Lib.hid (D1.out.only o2 (fun h => h) (fun _ _ h => h))
           have B2 := Lib.hid (B1.out.only o2 (fun h => h))
           clear oo o2)
        | (go_at_call 221; refine (reader_err g S _ _ _ D2.out).mono ?_; rintro e w4 ⟨rfl, rfl⟩)
        | (refine wpl_load rfl 82 _ rfl w1.heap.size rfl 82 #[.string E.k, .string E.v, .bool E.d, .int .i64 E.s.c, .int .i64 E.s.s, .int .i64 E.a.c, .int .i64 E.a.s, .int .i64 E.p, .int .i64 E.g] _ B2.out Tryz.underlying82 rfl (by kernel_rfl) ?_)
        | (refine wpList_store_row rfl 82 _ _ rfl w.heap.size #[.string E.k, .string E.v, .bool E.d, .int .i64 E.s.c, .int .i64 E.s.s, .int .i64 E.a.c, .int .i64 E.a.s, .int .i64 E.p, .int .i64 E.g] rfl rfl 82 _ R2.out (by kernel_rfl) rfl (by simp [Value.oneCell']) ?_
           have R5 := Lib.hid (R2.out.setRow #[.string E.k, .string E.v, .bool E.d, .int .i64 E.s.c, .int .i64 E.s.s, .int .i64 E.a.c, .int .i64 E.a.s, .int .i64 E.p, .int .i64 E.g])
           have W5 := Lib.hid ((Only.refl (one w.heap.size) w2).setRow (g := w.heap.size) (.inl (show one w.heap.size w.heap.size from rfl)) #[.string E.k, .string E.v, .bool E.d, .int .i64 E.s.c, .int .i64 E.s.s, .int .i64 E.a.c, .int .i64 E.a.s, .int .i64 E.p, .int .i64 E.g])
           have O5 := Lib.hid (O2.out.setRow (g := w.heap.size) (.inr (Nat.le_refl _)) #[.string E.k, .string E.v, .bool E.d, .int .i64 E.s.c, .int .i64 E.s.s, .int .i64 E.a.c, .int .i64 E.a.s, .int .i64 E.p, .int .i64 E.g])))
      refine bodyPost_ret (results_cell_row rfl _ _ w.heap.size 82 _ (0, 0) _ rfl R5.out Tryz.underlying82 rfl (by kernel_rfl)) rfl ?_
      have rF := D2.out.only W5.out (fun e => by have e' : g = w.heap.size := e; have := HG.out; omega) (fun b hb e => by have e' : b = w.heap.size := e; have := FR.out b hb; omega)
      rw [HE.out.1, HE.out.2.1, HE.out.2.2]
      exact ⟨rfl, rF, O5.out⟩
    · rw [if_neg h0] at hc3
      have HE : Hid (takeC code bs = c7 ∧ takeB code bs = b7 ∧ takeE code bs = enZero) := ⟨hc1, hc2, hc3⟩
      clear hc1 hc2 hc3 HD
      go_enter Tryz.func175, Tryz.ntmps175
      go_wp2_with (first
        | (go_at_call 219; refine HC.out.mono ?_; rintro e w1 ⟨rfl, r1, o1⟩
           have R1 := Lib.hid (R0.out.only o1 (ne0.out _ rfl))
           have O1 := Lib.hid (O0.out.trans o1)
           have D1 := Lib.hid (r1.only ((Only.refl none_ w1).alloc (.cells #[.string E.k, .string E.v, .bool E.d, .int .i64 E.s.c, .int .i64 E.s.s, .int .i64 E.a.c, .int .i64 E.a.s, .int .i64 E.p, .int .i64 E.g] 82)) (fun h => h) (fun _ _ h => h))
           have B1 := Lib.hid (Blk.new w1 82 #[.string E.k, .string E.v, .bool E.d, .int .i64 E.s.c, .int .i64 E.s.s, .int .i64 E.a.c, .int .i64 E.a.s, .int .i64 E.p, .int .i64 E.g])
           have G1 : Hid (w1.heap.size ≠ g) := by have := HG.out; have := o1.size; rw [World.size_alloc] at this; simp only [Hid]; omega
           clear r1 o1)
        | (refine wpl_load rfl 82 _ rfl w1.heap.size rfl 82 #[.string E.k, .string E.v, .bool E.d, .int .i64 E.s.c, .int .i64 E.s.s, .int .i64 E.a.c, .int .i64 E.a.s, .int .i64 E.p, .int .i64 E.g] _ B1.out Tryz.underlying82 rfl (by kernel_rfl) ?_)
        | (go_at_call 83; refine (en_check E _).mono ?_; rw [HZ.out]; rintro e w2 ⟨rfl, o2⟩
           have oo := ((Only.refl none_ w1).alloc (.cells #[.string E.k, .string E.v, .bool E.d, .int .i64 E.s.c, .int .i64 E.s.s, .int .i64 E.a.c, .int .i64 E.a.s, .int .i64 E.p, .int .i64 E.g] 82)).trans o2
           have R2 := Lib.hid (R1.out.only oo (fun h => h))
           have O2 := Lib.hid (O1.out.trans oo.of_none)
           have D2 := Lib.hid (D1.out.only o2 (fun h => h) (fun _ _ h => h))
           have B2 := Lib.hid (B1.out.only o2 (fun h => h))
           clear oo o2)
        | (go_at_call 221; refine (reader_err g S _ _ _ D2.out).mono ?_; rintro e w4 ⟨rfl, rfl⟩)
        | (refine wpList_store_row rfl 82 _ _ rfl w.heap.size #[.string ⟨#[]⟩, .string ⟨#[]⟩, .bool false, .int .i64 0, .int .i64 0, .int .i64 0, .int .i64 0, .int .i64 0, .int .i64 0] rfl rfl 82 _ R2.out (by kernel_rfl) rfl (by simp [Value.oneCell']) ?_
           have R5 := Lib.hid (R2.out.setRow #[.string ⟨#[]⟩, .string ⟨#[]⟩, .bool false, .int .i64 0, .int .i64 0, .int .i64 0, .int .i64 0, .int .i64 0, .int .i64 0])
           have W5 := Lib.hid ((Only.refl (one w.heap.size) w2).setRow (g := w.heap.size) (.inl (show one w.heap.size w.heap.size from rfl)) #[.string ⟨#[]⟩, .string ⟨#[]⟩, .bool false, .int .i64 0, .int .i64 0, .int .i64 0, .int .i64 0, .int .i64 0, .int .i64 0])
           have O5 := Lib.hid (O2.out.setRow (g := w.heap.size) (.inr (Nat.le_refl _)) #[.string ⟨#[]⟩, .string ⟨#[]⟩, .bool false, .int .i64 0, .int .i64 0, .int .i64 0, .int .i64 0, .int .i64 0, .int .i64 0])))
      refine bodyPost_ret (results_cell_row rfl _ _ w.heap.size 82 _ (0, 0) _ rfl R5.out Tryz.underlying82 rfl (by kernel_rfl)) rfl ?_
      have rF := D2.out.only W5.out (fun e => by have e' : g = w.heap.size := e; have := HG.out; omega) (fun b hb e => by have e' : b = w.heap.size := e; have := FR.out b hb; omega)
      rw [HE.out.1, HE.out.2.1, HE.out.2.2]
      exact ⟨rfl, rF, O5.out⟩
  · obtain ⟨hc1, hc2, hc3⟩ := HD.out
    rw [if_neg hz0] at hc1
    rw [hc1] at hc3
    have h4 := first_four c7
    rw [if_neg h4] at hc3
    obtain ⟨c8, h8⟩ : ∃ c, first_ c7 4 = c := ⟨_, rfl⟩
    rw [h8] at h4 hc1
    have HE : Hid (takeC code bs = c8 ∧ takeB code bs = b7 ∧ takeE code bs = enZero) := ⟨hc1, hc2, hc3⟩
    have H8 := Lib.hid h8
    clear hc1 hc2 hc3 HD h8
    go_enter Tryz.func175, Tryz.ntmps175
    go_wp2_with (first
      | (go_at_call 219; refine HC.out.mono ?_; rintro e w1 ⟨rfl, r1, o1⟩
         have R1 := Lib.hid (R0.out.only o1 (ne0.out _ rfl))
         have O1 := Lib.hid (O0.out.trans o1)
         have D1 := Lib.hid (r1.only ((Only.refl none_ w1).alloc (.cells #[.string E.k, .string E.v, .bool E.d, .int .i64 E.s.c, .int .i64 E.s.s, .int .i64 E.a.c, .int .i64 E.a.s, .int .i64 E.p, .int .i64 E.g] 82)) (fun h => h) (fun _ _ h => h))
         have B1 := Lib.hid (Blk.new w1 82 #[.string E.k, .string E.v, .bool E.d, .int .i64 E.s.c, .int .i64 E.s.s, .int .i64 E.a.c, .int .i64 E.a.s, .int .i64 E.p, .int .i64 E.g])
         have G1 : Hid (w1.heap.size ≠ g) := by have := HG.out; have := o1.size; rw [World.size_alloc] at this; simp only [Hid]; omega
         clear r1 o1)
      | (refine wpl_load rfl 82 _ rfl w1.heap.size rfl 82 #[.string E.k, .string E.v, .bool E.d, .int .i64 E.s.c, .int .i64 E.s.s, .int .i64 E.a.c, .int .i64 E.a.s, .int .i64 E.p, .int .i64 E.g] _ B1.out Tryz.underlying82 rfl (by kernel_rfl) ?_)
      | (go_at_call 83; refine (en_check E _).mono ?_; rw [HZ.out]; rintro e w2 ⟨rfl, o2⟩
         have oo := ((Only.refl none_ w1).alloc (.cells #[.string E.k, .string E.v, .bool E.d, .int .i64 E.s.c, .int .i64 E.s.s, .int .i64 E.a.c, .int .i64 E.a.s, .int .i64 E.p, .int .i64 E.g] 82)).trans o2
         have R2 := Lib.hid (R1.out.only oo (fun h => h))
         have O2 := Lib.hid (O1.out.trans oo.of_none)
         have D2 := Lib.hid (D1.out.only o2 (fun h => h) (fun _ _ h => h))
         have B2 := Lib.hid (B1.out.only o2 (fun h => h))
         clear oo o2)
      | (go_at_call 220; refine (reader_fail g S _ 4 _ _ D2.out).mono ?_; rw [H8.out]; rintro e w3 ⟨rfl, r3, o3⟩
         have R3 := Lib.hid (R2.out.only o3 (ne0.out _ rfl))
         have O3 := Lib.hid (O2.out.trans o3)
         have D3 := Lib.hid r3
         have B3 := Lib.hid (B2.out.only o3 (fun e => G1.out e))
         clear r3 o3)
      | (go_at_call 221; refine (reader_err g S _ _ _ D3.out).mono ?_; rintro e w4 ⟨rfl, rfl⟩)
      | (refine wpList_store_row rfl 82 _ _ rfl w.heap.size #[.string ⟨#[]⟩, .string ⟨#[]⟩, .bool false, .int .i64 0, .int .i64 0, .int .i64 0, .int .i64 0, .int .i64 0, .int .i64 0] rfl rfl 82 _ R3.out (by kernel_rfl) rfl (by simp [Value.oneCell']) ?_
         have R5 := Lib.hid (R3.out.setRow #[.string ⟨#[]⟩, .string ⟨#[]⟩, .bool false, .int .i64 0, .int .i64 0, .int .i64 0, .int .i64 0, .int .i64 0, .int .i64 0])
         have W5 := Lib.hid ((Only.refl (one w.heap.size) w3).setRow (g := w.heap.size) (.inl (show one w.heap.size w.heap.size from rfl)) #[.string ⟨#[]⟩, .string ⟨#[]⟩, .bool false, .int .i64 0, .int .i64 0, .int .i64 0, .int .i64 0, .int .i64 0, .int .i64 0])
         have O5 := Lib.hid (O3.out.setRow (g := w.heap.size) (.inr (Nat.le_refl _)) #[.string ⟨#[]⟩, .string ⟨#[]⟩, .bool false, .int .i64 0, .int .i64 0, .int .i64 0, .int .i64 0, .int .i64 0, .int .i64 0])))
    refine bodyPost_ret (results_cell_row rfl _ _ w.heap.size 82 _ (0, 0) _ rfl R5.out Tryz.underlying82 rfl (by kernel_rfl)) rfl ?_
    have rF := D3.out.only W5.out (fun e => by have e' : g = w.heap.size := e; have := HG.out; omega) (fun b hb e => by have e' : b = w.heap.size := e; have := FR.out b hb; omega)
    rw [HE.out.1, HE.out.2.1, HE.out.2.2]
    exact ⟨rfl, rF, O5.out⟩
end Go.Proofs.YtoohpcomnhfgpaaGreat
end
section
namespace Go.Proofs.YtoohpcomnhfgpaaGreat
open Go.RowKit
set_option linter.all false
set_option maxRecDepth 100000
def decC (bs : List UInt8) : Int := doneCode (takeC 0 bs) (takeB 0 bs)
def decE (bs : List UInt8) : En := if decC bs = 0 then takeE 0 bs else enZero
theorem only_new {w a b : World} {g : Nat} (h : Only none_ w a) (o : Only (one g) a b) (hg : w.heap.size ≤ g) : Only none_ w b :=
  h.trans' o (fun k hk e => by have e' : k = g := e; omega)
set_option maxHeartbeats 1600000 in
theorem decode_any (A : Option Addr) (L c : Nat) (bs : List UInt8) (S : Nat → Prop) (w : World) (hx : Byt w S (.slice A L c) bs) (hm : bs.length ≤ 140737488355328) :
    Calls Tryz.prog 115 #[.slice A L c] w fun e w' => e = .returned (.tuple #[.agg #[.string (decE bs).k, .string (decE bs).v, .bool (decE bs).d, .int .i64 (decE bs).s.c, .int .i64 (decE bs).s.s, .int .i64 (decE bs).a.c, .int .i64 (decE bs).a.s, .int .i64 (decE bs).p, .int .i64 (decE bs).g], .int .i64 (decC bs)]) ∧ Only none_ w w' := by
  have R0 := Lib.hid (Blk.new w 82 #[.string ⟨#[]⟩, .string ⟨#[]⟩, .bool false, .int .i64 0, .int .i64 0, .int .i64 0, .int .i64 0, .int .i64 0, .int .i64 0])
  have O0 := Lib.hid ((Only.refl none_ w).alloc (.cells #[.string ⟨#[]⟩, .string ⟨#[]⟩, .bool false, .int .i64 0, .int .i64 0, .int .i64 0, .int .i64 0, .int .i64 0, .int .i64 0] 82))
  have X0 := Lib.hid (hx.alloc (.cells #[.string ⟨#[]⟩, .string ⟨#[]⟩, .bool false, .int .i64 0, .int .i64 0, .int .i64 0, .int .i64 0, .int .i64 0, .int .i64 0] 82))
  have Z0 : Hid (w.heap.size + 1 ≤ (w.alloc (.cells #[.string ⟨#[]⟩, .string ⟨#[]⟩, .bool false, .int .i64 0, .int .i64 0, .int .i64 0, .int .i64 0, .int .i64 0, .int .i64 0] 82)).heap.size) := by simp [Hid]
  have HM := Lib.hid hm
  have HD : Hid (decC bs = doneCode (takeC 0 bs) (takeB 0 bs) ∧ decE bs = (if decC bs = 0 then takeE 0 bs else enZero)) := ⟨rfl, rfl⟩
  have HT : Hid (∀ g S w, Rd w g S 0 bs → (∀ b, S b → b < w.heap.size) → Calls Tryz.prog 175 #[.pointer (some ⟨g, 0, none⟩)] w fun e w' => e = .returned (.agg #[.string (takeE 0 bs).k, .string (takeE 0 bs).v, .bool (takeE 0 bs).d, .int .i64 (takeE 0 bs).s.c, .int .i64 (takeE 0 bs).s.s, .int .i64 (takeE 0 bs).a.c, .int .i64 (takeE 0 bs).a.s, .int .i64 (takeE 0 bs).p, .int .i64 (takeE 0 bs).g]) ∧ Rd w' g S (takeC 0 bs) (takeB 0 bs) ∧ Only (one g) w w') :=
    fun g S w hr fr => take_any g S 0 bs w hr fr hm
  obtain ⟨E, hE⟩ : ∃ E, takeE 0 bs = E := ⟨_, rfl⟩
  obtain ⟨c7, h7⟩ : ∃ c, takeC 0 bs = c := ⟨_, rfl⟩
  obtain ⟨b7, hb7⟩ : ∃ c, takeB 0 bs = c := ⟨_, rfl⟩
  obtain ⟨z, hz⟩ : ∃ c, doneCode c7 b7 = c := ⟨_, rfl⟩
  rw [hE, h7, hb7] at HT
  rw [hE, h7, hb7, hz] at HD
  have HZ := Lib.hid hz
  clear hx hm hE h7 hb7 hz
  by_cases hz0 : z = 0
  · subst hz0
    have HE : Hid (decC bs = 0 ∧ decE bs = E) := ⟨HD.out.1, by have h1 := HD.out.2; rw [HD.out.1, if_pos rfl] at h1; exact h1⟩
    clear HD
    go_enter Tryz.func115, Tryz.ntmps115
    go_wp2_with (first
      | (go_at_call 174; refine (read_any _ bs S _ X0.out HM.out).mono ?_; rintro e w1 ⟨g, S1, rfl, hg, r1, hS1, o1⟩
         have D1 := Lib.hid r1
         have R1 := Lib.hid (R0.out.only o1 (fun h => h))
         have O1 := Lib.hid (O0.out.trans o1)
         have FR := Lib.hid hS1
         have HG : Hid (w.heap.size + 1 ≤ g) := Nat.le_trans Z0.out hg
         clear r1 o1 hg hS1)
      | (go_at_call 175; refine (HT.out g S1 w1 D1.out (fun b hb => (FR.out b hb).2)).mono ?_; rintro e w2 ⟨rfl, r2, o2⟩
         have hgt := HG.out
         have oa := (Only.refl none_ w2).alloc (.cells #[.string E.k, .string E.v, .bool E.d, .int .i64 E.s.c, .int .i64 E.s.s, .int .i64 E.a.c, .int .i64 E.a.s, .int .i64 E.p, .int .i64 E.g] 82)
         have D2 := Lib.hid (r2.only oa (fun h => h) (fun _ _ h => h))
         have R2 := Lib.hid ((R1.out.only o2 (fun e => by have e' : w.heap.size = g := e; omega)).only oa (fun h => h))
         have O2 := Lib.hid ((only_new O1.out o2 (by omega)).trans oa)
         have B2 := Lib.hid (Blk.new w2 82 #[.string E.k, .string E.v, .bool E.d, .int .i64 E.s.c, .int .i64 E.s.s, .int .i64 E.a.c, .int .i64 E.a.s, .int .i64 E.p, .int .i64 E.g])
         have G2 : Hid (w2.heap.size ≠ g) := by have := D1.out.lt; have := o2.size; simp only [Hid]; omega
         clear r2 o2 oa hgt)
      | (go_at_call 176; refine (reader_done g S1 _ _ _ D2.out).mono ?_; rw [HZ.out]; rintro e w3 ⟨rfl, r3, o3⟩
         have hgt := HG.out
         have R3 := Lib.hid (R2.out.only o3 (fun e => by have e' : w.heap.size = g := e; omega))
         have O3 := Lib.hid (only_new O2.out o3 (by omega))
         have B3 := Lib.hid (B2.out.only o3 (fun e => G2.out e))
         clear r3 o3 hgt)
      | (refine wpl_load rfl 82 _ rfl w2.heap.size rfl 82 #[.string E.k, .string E.v, .bool E.d, .int .i64 E.s.c, .int .i64 E.s.s, .int .i64 E.a.c, .int .i64 E.a.s, .int .i64 E.p, .int .i64 E.g] _ B3.out Tryz.underlying82 rfl (by kernel_rfl) ?_)
      | (refine wpList_store_row rfl 82 _ _ rfl w.heap.size #[.string E.k, .string E.v, .bool E.d, .int .i64 E.s.c, .int .i64 E.s.s, .int .i64 E.a.c, .int .i64 E.a.s, .int .i64 E.p, .int .i64 E.g] rfl rfl 82 _ R3.out (by kernel_rfl) rfl (by simp [Value.oneCell']) ?_
         have R5 := Lib.hid (R3.out.setRow #[.string E.k, .string E.v, .bool E.d, .int .i64 E.s.c, .int .i64 E.s.s, .int .i64 E.a.c, .int .i64 E.a.s, .int .i64 E.p, .int .i64 E.g])
         have O5 := Lib.hid (O3.out.setRow (g := w.heap.size) (.inr (Nat.le_refl _)) #[.string E.k, .string E.v, .bool E.d, .int .i64 E.s.c, .int .i64 E.s.s, .int .i64 E.a.c, .int .i64 E.a.s, .int .i64 E.p, .int .i64 E.g])))
    refine bodyPost_ret (results_cell_tmp rfl _ _ w.heap.size 82 _ _ rfl R5.out Tryz.underlying82 rfl (by kernel_rfl) (.int .i64 0) rfl) rfl ?_
    rw [HE.out.1, HE.out.2]
    exact ⟨rfl, O5.out⟩
  · have HE : Hid (decC bs = z ∧ decE bs = enZero) := ⟨HD.out.1, by have h1 := HD.out.2; rw [HD.out.1, if_neg hz0] at h1; exact h1⟩
    clear HD
    go_enter Tryz.func115, Tryz.ntmps115
    go_wp2_with (first
      | (go_at_call 174; refine (read_any _ bs S _ X0.out HM.out).mono ?_; rintro e w1 ⟨g, S1, rfl, hg, r1, hS1, o1⟩
         have D1 := Lib.hid r1
         have R1 := Lib.hid (R0.out.only o1 (fun h => h))
         have O1 := Lib.hid (O0.out.trans o1)
         have FR := Lib.hid hS1
         have HG : Hid (w.heap.size + 1 ≤ g) := Nat.le_trans Z0.out hg
         clear r1 o1 hg hS1)
      | (go_at_call 175; refine (HT.out g S1 w1 D1.out (fun b hb => (FR.out b hb).2)).mono ?_; rintro e w2 ⟨rfl, r2, o2⟩
         have hgt := HG.out
         have oa := (Only.refl none_ w2).alloc (.cells #[.string E.k, .string E.v, .bool E.d, .int .i64 E.s.c, .int .i64 E.s.s, .int .i64 E.a.c, .int .i64 E.a.s, .int .i64 E.p, .int .i64 E.g] 82)
         have D2 := Lib.hid (r2.only oa (fun h => h) (fun _ _ h => h))
         have R2 := Lib.hid ((R1.out.only o2 (fun e => by have e' : w.heap.size = g := e; omega)).only oa (fun h => h))
         have O2 := Lib.hid ((only_new O1.out o2 (by omega)).trans oa)
         have B2 := Lib.hid (Blk.new w2 82 #[.string E.k, .string E.v, .bool E.d, .int .i64 E.s.c, .int .i64 E.s.s, .int .i64 E.a.c, .int .i64 E.a.s, .int .i64 E.p, .int .i64 E.g])
         have G2 : Hid (w2.heap.size ≠ g) := by have := D1.out.lt; have := o2.size; simp only [Hid]; omega
         clear r2 o2 oa hgt)
      | (go_at_call 176; refine (reader_done g S1 _ _ _ D2.out).mono ?_; rw [HZ.out]; rintro e w3 ⟨rfl, r3, o3⟩
         have hgt := HG.out
         have R3 := Lib.hid (R2.out.only o3 (fun e => by have e' : w.heap.size = g := e; omega))
         have O3 := Lib.hid (only_new O2.out o3 (by omega))
         have B3 := Lib.hid (B2.out.only o3 (fun e => G2.out e))
         clear r3 o3 hgt)
      | (refine wpList_store_row rfl 82 _ _ rfl w.heap.size #[.string ⟨#[]⟩, .string ⟨#[]⟩, .bool false, .int .i64 0, .int .i64 0, .int .i64 0, .int .i64 0, .int .i64 0, .int .i64 0] rfl rfl 82 _ R3.out (by kernel_rfl) rfl (by simp [Value.oneCell']) ?_
         have R5 := Lib.hid (R3.out.setRow #[.string ⟨#[]⟩, .string ⟨#[]⟩, .bool false, .int .i64 0, .int .i64 0, .int .i64 0, .int .i64 0, .int .i64 0, .int .i64 0])
         have O5 := Lib.hid (O3.out.setRow (g := w.heap.size) (.inr (Nat.le_refl _)) #[.string ⟨#[]⟩, .string ⟨#[]⟩, .bool false, .int .i64 0, .int .i64 0, .int .i64 0, .int .i64 0, .int .i64 0, .int .i64 0])))
    refine bodyPost_ret (results_cell_tmp rfl _ _ w.heap.size 82 _ _ rfl R5.out Tryz.underlying82 rfl (by kernel_rfl) (.int .i64 z) rfl) rfl ?_
    rw [HE.out.1, HE.out.2]
    exact ⟨rfl, O5.out⟩
end Go.Proofs.YtoohpcomnhfgpaaGreat
end
section
namespace Go.Proofs.YtoohpcomnhfgpaaGreat
open Go.RowKit
set_option maxRecDepth 100000
theorem leVal_leBytes : ∀ (m n : Nat), n < 256 ^ m → leVal (leBytes n m) = n
  | 0, n, h => by simp at h; subst h; rfl
  | m + 1, n, h => by
    have e : leBytes n (m + 1) = UInt8.ofNat n :: leBytes (n / 256) m := by
      unfold leBytes
      rw [List.range_succ_eq_map, List.map_cons, List.map_map]
      congr 1
      · simp [leByte]
      apply List.map_congr_left
      intro k _
      show leByte n (k + 1) = leByte (n / 256) k
      unfold leByte
      rw [Nat.div_div_eq_div_mul]
      congr 2
      rw [show 8 * (k + 1) = 8 + 8 * k by omega, Nat.pow_add]
    have h2 : n / 256 < 256 ^ m := by
      rw [Nat.div_lt_iff_lt_mul (by omega)]
      rw [Nat.pow_succ] at h
      exact h
    rw [e]
    show (UInt8.ofNat n).toNat + 256 * leVal (leBytes (n / 256) m) = n
    rw [leVal_leBytes m _ h2]
    have : (UInt8.ofNat n).toNat = n % 256 := by simp
    omega
theorem numR_back (n m : Nat) (rest : List UInt8) (h1 : 1 ≤ m) (h8 : m ≤ 8) (hn : n < 256 ^ m) : numR 0 (leBytes n m ++ rest) (m : Int) = (0, rest, n) := by
  have hw : isW (m : Int) = true := by simp [isW]; omega
  have hl := leBytes_len n m
  unfold numR
  rw [if_pos hw, if_pos (by rw [Int.toNat_natCast, List.length_append, hl]; exact ⟨rfl, by omega⟩), Int.toNat_natCast]
  rw [List.take_append_of_le_length (by omega), List.take_of_length_le (by omega), leVal_leBytes m n hn]
  rw [List.drop_append_of_le_length (by omega), List.drop_of_length_le (by omega), List.nil_append]
theorem flagR_back (d : Bool) (rest : List UInt8) : flagR 0 ([UInt8.ofNat (bitN d)] ++ rest) = (0, rest, d) := by
  cases d <;> simp [flagR, bitN]
theorem textR_back (s : ByteArray) (most : Nat) (rest : List UInt8) (h : s.size ≤ most) (h2 : s.size ≤ 255) : textR 0 (txtB s ++ rest) (most : Int) = (0, rest, s.data.toList) := by
  have hl : s.data.toList.length = s.size := Array.length_toList
  have hn : (UInt8.ofNat s.size).toNat = s.size := by simp; omega
  show textR 0 (UInt8.ofNat s.size :: (s.data.toList ++ rest)) (most : Int) = _
  unfold textR
  dsimp only
  rw [hn, if_neg (by simp), if_neg (by omega), if_neg (by rw [List.length_append, hl]; omega)]
  rw [List.drop_append_of_le_length (by omega), List.drop_of_length_le (by omega), List.nil_append, List.take_append_of_le_length (by omega), List.take_of_length_le (by omega)]
theorem stampR_back (a b : Nat) (rest : List UInt8) (ha : a < 256 ^ 4) (hb : b < 256 ^ 1) : stampR 0 (leBytes a 4 ++ (leBytes b 1 ++ rest)) = (0, rest, ⟨a, b⟩) := by
  have h1 := numR_back a 4 (leBytes b 1 ++ rest) (by omega) (by omega) ha
  have h2 := numR_back b 1 rest (by omega) (by omega) hb
  unfold stampR
  rw [show ((4 : Nat) : Int) = 4 from rfl] at h1
  rw [show ((1 : Nat) : Int) = 1 from rfl] at h2
  rw [h1]
  dsimp only
  rw [h2]
theorem fields_back (m : Ne) (ok : m.ok) (h16 : m.k.size ≤ 16) (h32 : m.v.size ≤ 32) : (fieldsF 0 (layB m)).en = m.en ∧ (fieldsF 0 (layB m)).a7.1 = 0 ∧ (fieldsF 0 (layB m)).a7.2.1 = [] := by
  obtain ⟨k, x, d, s1, s2, a1, a2, p, q⟩ := m
  obtain ⟨hk, hv, h1, h2, h3, h4, h5, h6⟩ := ok
  dsimp only at hk hv h1 h2 h3 h4 h5 h6 h16 h32
  have e : layB ⟨k, x, d, s1, s2, a1, a2, p, q⟩ = txtB k ++ ([UInt8.ofNat (bitN d)] ++ (txtB x ++ (leBytes s1 4 ++ (leBytes s2 1 ++ (leBytes a1 4 ++ (leBytes a2 1 ++ (leBytes p 2 ++ (leBytes q 4 ++ [])))))))) := by
    simp only [layB, List.append_assoc, List.append_nil]
  rw [e]
  have r1 := textR_back k 16 ([UInt8.ofNat (bitN d)] ++ (txtB x ++ (leBytes s1 4 ++ (leBytes s2 1 ++ (leBytes a1 4 ++ (leBytes a2 1 ++ (leBytes p 2 ++ (leBytes q 4 ++ [])))))))) h16 hk
  have r2 := flagR_back d (txtB x ++ (leBytes s1 4 ++ (leBytes s2 1 ++ (leBytes a1 4 ++ (leBytes a2 1 ++ (leBytes p 2 ++ (leBytes q 4 ++ [])))))))
  have r3 := textR_back x 32 (leBytes s1 4 ++ (leBytes s2 1 ++ (leBytes a1 4 ++ (leBytes a2 1 ++ (leBytes p 2 ++ (leBytes q 4 ++ [])))))) h32 hv
  have r4 := stampR_back s1 s2 (leBytes a1 4 ++ (leBytes a2 1 ++ (leBytes p 2 ++ (leBytes q 4 ++ [])))) (by omega) (by omega)
  have r5 := stampR_back a1 a2 (leBytes p 2 ++ (leBytes q 4 ++ [])) (by omega) (by omega)
  have r6 := numR_back p 2 (leBytes q 4 ++ []) (by omega) (by omega) (by omega)
  have r7 := numR_back q 4 [] (by omega) (by omega) (by omega)
  rw [show ((16 : Nat) : Int) = 16 from rfl] at r1
  rw [show ((32 : Nat) : Int) = 32 from rfl] at r3
  rw [show ((2 : Nat) : Int) = 2 from rfl] at r6
  rw [show ((4 : Nat) : Int) = 4 from rfl] at r7
  have ef : fieldsF 0 (txtB k ++ ([UInt8.ofNat (bitN d)] ++ (txtB x ++ (leBytes s1 4 ++ (leBytes s2 1 ++ (leBytes a1 4 ++ (leBytes a2 1 ++ (leBytes p 2 ++ (leBytes q 4 ++ [])))))))))
      = ⟨(0, ([UInt8.ofNat (bitN d)] ++ (txtB x ++ (leBytes s1 4 ++ (leBytes s2 1 ++ (leBytes a1 4 ++ (leBytes a2 1 ++ (leBytes p 2 ++ (leBytes q 4 ++ [])))))))), k.data.toList), (0, (txtB x ++ (leBytes s1 4 ++ (leBytes s2 1 ++ (leBytes a1 4 ++ (leBytes a2 1 ++ (leBytes p 2 ++ (leBytes q 4 ++ []))))))), d), (0, (leBytes s1 4 ++ (leBytes s2 1 ++ (leBytes a1 4 ++ (leBytes a2 1 ++ (leBytes p 2 ++ (leBytes q 4 ++ [])))))), x.data.toList), (0, (leBytes a1 4 ++ (leBytes a2 1 ++ (leBytes p 2 ++ (leBytes q 4 ++ [])))), ⟨s1, s2⟩), (0, (leBytes p 2 ++ (leBytes q 4 ++ [])), ⟨a1, a2⟩), (0, (leBytes q 4 ++ []), p), (0, [], q)⟩ := by
    unfold fieldsF
    simp only [r1, r2, r3, r4, r5, r6, r7]
  rw [ef]
  exact ⟨rfl, rfl, rfl⟩
theorem dec_back (m : Ne) (ok : m.ok) (h16 : m.k.size ≤ 16) (h32 : m.v.size ≤ 32) (hc : enCheck m.en = 0) : decC (layB m) = 0 ∧ decE (layB m) = m.en := by
  obtain ⟨h1, h2, h3⟩ := fields_back m ok h16 h32
  have t1 : takeC 0 (layB m) = 0 := by rw [takeC, h1, if_pos hc, h2]
  have t2 : takeB 0 (layB m) = [] := h3
  have t3 : takeE 0 (layB m) = m.en := by rw [takeE, if_pos t1, h1]
  have d1 : decC (layB m) = 0 := by rw [decC, t1, t2]; rfl
  exact ⟨d1, by rw [decE, if_pos d1, t3]⟩
end Go.Proofs.YtoohpcomnhfgpaaGreat
end
section
namespace Go.Proofs.YtoohpcomnhfgpaaGreat
open Go.RowKit
set_option maxRecDepth 100000
set_option linter.all false
def rcS (s : Rs) (x : En) : Rs := noteS (if newsM s.tab x = true then placeS (seeS s x) x else seeS s x) x
set_option maxHeartbeats 25600000 in
theorem rp_recall_full (B : World) (a : Ra) (s : Rs) (x : En) (A : Option Addr) (n c : Nat) (S : Nat → Prop) (w : World) (h : Rp B a s w) (hb : Byt w S (.slice A n c) (encB x)) (hc : enCheck x = 0) (hf : fullM s.o s.tab x.k = true) :
    Calls Tryz.prog 65 #[.pointer (some ⟨a.r, 0, none⟩), .slice A n c] w fun E w' => E = .returned (.int .i64 12) ∧ LeftP B a w (s) w' := by
  obtain ⟨r, hr⟩ : ∃ r, a.r = r := ⟨_, rfl⟩
  obtain ⟨m, hm, ok1, h16, h32, hbm⟩ := enc_of hc
  have hbk := dec_back m ok1 h16 h32 (hm ▸ hc)
  have hDE : decE (encB x) = x := by rw [hbm, hbk.2, hm]
  have hDC : decC (encB x) = 0 := by rw [hbm, hbk.1]
  have HDE := Lib.hid (decode_any A n c (encB x) S w hb (by have := (enc_len hc).2; omega))
  rw [hDE, hDC] at HDE
  have C1 := Lib.hid (Cy.begin h)
  have HRM := Lib.hid (fun (X : World) (hX : Rp B a s X) => by
    have := ct_room B a s x.k X hX
    rw [hr, hf] at this
    exact this)
  rw [hr]
  have HR := Lib.hid hr
  clear h hb hc hr hm hbm hbk hDE hDC ok1 hf
  go_enter Tryz.func65, Tryz.ntmps65
  go_wp2_with (first
    | (go_at_call 115; refine HDE.out.mono ?_; rintro E w2 ⟨rfl, o2⟩
       have C2 := Lib.hid ((C1.out.keep o2).keep ((Only.refl none_ _).alloc (.cells #[.string x.k, .string x.v, .bool x.d, .int .i64 x.s.c, .int .i64 x.s.s, .int .i64 x.a.c, .int .i64 x.a.s, .int .i64 x.p, .int .i64 x.g] 82)))
       have N2 : Hid (Bn a w2.heap.size 82 #[.string x.k, .string x.v, .bool x.d, .int .i64 x.s.c, .int .i64 x.s.s, .int .i64 x.a.c, .int .i64 x.a.s, .int .i64 x.p, .int .i64 x.g] (w2.alloc (.cells #[.string x.k, .string x.v, .bool x.d, .int .i64 x.s.c, .int .i64 x.s.s, .int .i64 x.a.c, .int .i64 x.a.s, .int .i64 x.p, .int .i64 x.g] 82))) := Bn.new (C1.out.keep o2).r
       clear o2)
    | (with_reducible refine wpl_new rfl rfl 82 rfl _ _ rfl #[.string x.k, .string x.v, .bool x.d, .int .i64 x.s.c, .int .i64 x.s.s, .int .i64 x.a.c, .int .i64 x.a.s, .int .i64 x.p, .int .i64 x.g] rfl rfl (by kernel_rfl) (en_cells_one x) ?_))
  generalize w2.alloc (.cells #[.string x.k, .string x.v, .bool x.d, .int .i64 x.s.c, .int .i64 x.s.s, .int .i64 x.a.c, .int .i64 x.a.s, .int .i64 x.p, .int .i64 x.g] 82) = W2 at C2 N2 ⊢
  generalize w2.heap.size = n0 at N2 ⊢
  (refine wp_region_steady (fun X => Only none_ W2 X) 11 (by kernel_rfl) (by kernel_rfl) ((Only.refl none_ W2).drew) ?_; simp only [List.take_succ_cons, List.take_zero, List.drop_succ_cons, List.drop_zero])
  repeat (first
    | (refine sd_value (v := ?_) (by rfl) (fun w0 hS => ?_) ?_; rotate_left; (· (have qq := nine_of (N2.out.keep hS).b; go_simp; try (with_reducible rfl))); try simp only [Act.put, List.setIfInBounds_toArray, List.set_cons_zero, List.set_cons_succ])
    | (refine sd_call (v := ?_) (f := 88) (args := ?_) (by rfl) (fun w0 hS => ?_) (fun w0 hS => ?_) ?_; rotate_left 2; (· (have qq := nine_of (N2.out.keep hS).b; go_simp; try (with_reducible rfl))); (· (refine (HRM.out _ (C2.out.keep hS).r).mono ?_; rintro E w9 ⟨rfl, o9⟩; refine ⟨?_, hS.trans o9⟩; rfl)); try simp only [Act.put, List.setIfInBounds_toArray, List.set_cons_zero, List.set_cons_succ]))
  refine sd_nil ?_
  intro w3 t3
  have C3 := Lib.hid (C2.out.keep t3)
  have N3 := Lib.hid (N2.out.keep t3)
  clear t3 C2 N2
  go_wp2_with fail
  go_ret
  exact ⟨rfl, C3.out.left⟩
set_option maxHeartbeats 25600000 in
theorem rp_recall_new (B : World) (a : Ra) (s : Rs) (x : En) (A : Option Addr) (n c : Nat) (S : Nat → Prop) (w : World) (h : Rp B a s w) (hb : Byt w S (.slice A n c) (encB x)) (hc : enCheck x = 0) (hf : fullM s.o s.tab x.k = false) (hn : newsM s.tab x = true) (ok : Rky s) :
    Calls Tryz.prog 65 #[.pointer (some ⟨a.r, 0, none⟩), .slice A n c] w fun E w' => E = .returned (.int .i64 0) ∧ LeftP B a w (rcS s x) w' := by
  obtain ⟨r, hr⟩ : ∃ r, a.r = r := ⟨_, rfl⟩
  obtain ⟨m, hm, ok1, h16, h32, hbm⟩ := enc_of hc
  have hbk := dec_back m ok1 h16 h32 (hm ▸ hc)
  have hDE : decE (encB x) = x := by rw [hbm, hbk.2, hm]
  have hDC : decC (encB x) = 0 := by rw [hbm, hbk.1]
  have HDE := Lib.hid (decode_any A n c (encB x) S w hb (by have := (enc_len hc).2; omega))
  rw [hDE, hDC] at HDE
  have C1 := Lib.hid (Cy.begin h)
  have HRM := Lib.hid (fun (X : World) (hX : Rp B a s X) => by
    have := ct_room B a s x.k X hX
    rw [hr, hf] at this
    exact this)
  have HC5 : Hid (∀ X, Rp B a s X → X.cell? ⟨r, 5, none⟩ = some (.pointer (some ⟨a.ck, 0, none⟩))) := fun X hX => hX.at_ hr rfl
  have HSE := Lib.hid (fun (X : World) (hX : Rp B a s X) => rp_see B a s x.a X hX)
  obtain ⟨s1, hs1⟩ : ∃ s1, seeS s x = s1 := ⟨_, rfl⟩
  have hs1' : ({ s with c := seeC s.c x.a } : Rs) = s1 := hs1
  rw [hs1'] at HSE
  have ht : s1.tab = s.tab := by rw [← hs1]; rfl
  have HNE := Lib.hid (fun (a1 : Ra) (X : World) (hX : Rp B a1 s1 X) (e1 : a1.r = r) => by
    have := ct_news B a1 s1 x X hX
    rw [e1, ht, hn] at this
    exact this)
  obtain ⟨s2, hs2⟩ : ∃ s2, (if newsM s.tab x = true then placeS s1 x else s1) = s2 := ⟨_, rfl⟩
  have HPL := Lib.hid (fun (a1 : Ra) (X : World) (hX : Rp B a1 s1 X) (e1 : a1.r = r) => by
    have := ct_place B a1 s1 x X hX (by rw [← hs1]; exact hf) (key_small hc) (by rw [← hs1]; exact ok.m)
    have e2 : ({ s1 with tab := setE x s1.tab, z := s1.z + (hsh x - hsh ((lookE s1.tab x.k).getD enZero)), mks := putM s1.mks (mkOf x) } : Rs) = s2 := by rw [← hs2, if_pos hn]; rfl
    rw [e1, e2] at this
    exact this)
  have hnn := ok.w
  have HNO := Lib.hid (fun (a1 : Ra) (X : World) (hX : Rp B a1 s2 X) (e1 : a1.r = r) => by
    have := rp_note B a1 s2 x X hX (by rw [← hs2, ← hs1]; split <;> exact ok.g) (by rw [← hs2, ← hs1]; split <;> exact ok.w) (key_small hc)
    rw [e1] at this
    exact this)
  have hrc : rcS s x = noteS s2 x := by rw [← hs2, ← hs1]; rfl
  rw [hrc]
  generalize noteS s2 x = s3 at HNO ⊢
  rw [hr]
  have HR := Lib.hid hr
  clear h hb hc hr hm hbm hbk hDE hDC ok1 hf hs1 hs1' ht hs2 hnn hrc hn ok
  go_enter Tryz.func65, Tryz.ntmps65
  go_wp2_with (first
    | (go_at_call 115; refine HDE.out.mono ?_; rintro E w2 ⟨rfl, o2⟩
       have C2 := Lib.hid ((C1.out.keep o2).keep ((Only.refl none_ _).alloc (.cells #[.string x.k, .string x.v, .bool x.d, .int .i64 x.s.c, .int .i64 x.s.s, .int .i64 x.a.c, .int .i64 x.a.s, .int .i64 x.p, .int .i64 x.g] 82)))
       have N2 : Hid (Bn a w2.heap.size 82 #[.string x.k, .string x.v, .bool x.d, .int .i64 x.s.c, .int .i64 x.s.s, .int .i64 x.a.c, .int .i64 x.a.s, .int .i64 x.p, .int .i64 x.g] (w2.alloc (.cells #[.string x.k, .string x.v, .bool x.d, .int .i64 x.s.c, .int .i64 x.s.s, .int .i64 x.a.c, .int .i64 x.a.s, .int .i64 x.p, .int .i64 x.g] 82))) := Bn.new (C1.out.keep o2).r
       clear o2)
    | (with_reducible refine wpl_new rfl rfl 82 rfl _ _ rfl #[.string x.k, .string x.v, .bool x.d, .int .i64 x.s.c, .int .i64 x.s.s, .int .i64 x.a.c, .int .i64 x.a.s, .int .i64 x.p, .int .i64 x.g] rfl rfl (by kernel_rfl) (en_cells_one x) ?_))
  generalize w2.alloc (.cells #[.string x.k, .string x.v, .bool x.d, .int .i64 x.s.c, .int .i64 x.s.s, .int .i64 x.a.c, .int .i64 x.a.s, .int .i64 x.p, .int .i64 x.g] 82) = W2 at C2 N2 ⊢
  generalize w2.heap.size = n0 at N2 ⊢
  (refine wp_region_steady (fun X => Only none_ W2 X) 11 (by kernel_rfl) (by kernel_rfl) ((Only.refl none_ W2).drew) ?_; simp only [List.take_succ_cons, List.take_zero, List.drop_succ_cons, List.drop_zero])
  repeat (first
    | (refine sd_value (v := ?_) (by rfl) (fun w0 hS => ?_) ?_; rotate_left; (· (have qq := nine_of (N2.out.keep hS).b; go_simp; try (with_reducible rfl))); try simp only [Act.put, List.setIfInBounds_toArray, List.set_cons_zero, List.set_cons_succ])
    | (refine sd_call (v := ?_) (f := 88) (args := ?_) (by rfl) (fun w0 hS => ?_) (fun w0 hS => ?_) ?_; rotate_left 2; (· (have qq := nine_of (N2.out.keep hS).b; go_simp; try (with_reducible rfl))); (· (refine (HRM.out _ (C2.out.keep hS).r).mono ?_; rintro E w9 ⟨rfl, o9⟩; refine ⟨?_, hS.trans o9⟩; rfl)); try simp only [Act.put, List.setIfInBounds_toArray, List.set_cons_zero, List.set_cons_succ]))
  refine sd_nil ?_
  intro w3 t3
  have C3 := Lib.hid (C2.out.keep t3)
  have N3 := Lib.hid (N2.out.keep t3)
  clear t3 C2 N2
  have q3 := N3.out.b
  clear q3
  go_upto_region 4 with fail
  (refine wp_region_steady (fun X => Only none_ w3 X) 6 (by kernel_rfl) (by kernel_rfl) ((Only.refl none_ w3).drew) ?_; simp only [List.take_succ_cons, List.take_zero, List.drop_succ_cons, List.drop_zero])
  repeat (first
    | (refine sd_value (v := ?_) (by rfl) (fun w0 hS => ?_) ?_; rotate_left; (· (have c5 := HC5.out _ (C3.out.keep hS).r; have qq := nine_of (N3.out.keep hS).b; go_simp; try (with_reducible rfl))); try simp only [Act.put, List.setIfInBounds_toArray, List.set_cons_zero, List.set_cons_succ]))
  refine sd_nil ?_
  intro w4 t4
  have C4 := Lib.hid (C3.out.keep t4)
  have N4 := Lib.hid (N3.out.keep t4)
  clear t4
  go_wp2_with (first
    | (go_at_call 84; refine (HSE.out _ C4.out.r).mono ?_; rintro E w5 ⟨⟨bs, rfl⟩, L5⟩
       obtain ⟨a5, c5, e5, b5⟩ := C4.out.step L5
       have C5 := Lib.hid c5
       have N5 := Lib.hid (b5 _ _ _ N4.out)
       have E5 : Hid (a5.r = r) := e5.trans HR.out
       clear c5 b5 e5 L5))
  (refine wp_region_steady (fun X => Only none_ w5 X) 5 (by kernel_rfl) (by kernel_rfl) ((Only.refl none_ w5).drew) ?_; simp only [List.take_succ_cons, List.take_zero, List.drop_succ_cons, List.drop_zero])
  repeat (first
    | (refine sd_value (v := ?_) (by rfl) (fun w0 hS => ?_) ?_; rotate_left; (· (have qq := nine_of (N5.out.keep hS).b; go_simp; try (with_reducible rfl))); try simp only [Act.put, List.setIfInBounds_toArray, List.set_cons_zero, List.set_cons_succ])
    | (refine sd_call (v := ?_) (f := 85) (args := ?_) (by rfl) (fun w0 hS => ?_) (fun w0 hS => ?_) ?_; rotate_left 2; (· (skip; go_simp; try (with_reducible rfl))); (· (refine (HNE.out a5 _ (C5.out.keep hS).r E5.out).mono ?_; rintro E w8 ⟨rfl, o8⟩; refine ⟨?_, hS.trans o8⟩; rfl)); try simp only [Act.put, List.setIfInBounds_toArray, List.set_cons_zero, List.set_cons_succ]))
  refine sd_nil ?_
  intro w6 t6
  have C6 := Lib.hid (C5.out.keep t6)
  have N6 := Lib.hid (N5.out.keep t6)
  have q6 := nine_of N6.out.b
  clear t6 C5 N5 C4 N4 C3 N3
  go_wp2_with fail
  (refine wp_region_steady (fun X => Only none_ w6 X) 4 (by kernel_rfl) (by kernel_rfl) ((Only.refl none_ w6).drew) ?_; simp only [List.take_succ_cons, List.take_zero, List.drop_succ_cons, List.drop_zero])
  repeat (first
    | (refine sd_value (v := ?_) (by rfl) (fun w0 hS => ?_) ?_; rotate_left; (· (have qq := nine_of (N6.out.keep hS).b; go_simp; try (with_reducible rfl))); try simp only [Act.put, List.setIfInBounds_toArray, List.set_cons_zero, List.set_cons_succ]))
  refine sd_nil ?_
  intro w7 t7
  have C7 := Lib.hid (C6.out.keep t7)
  have N7 := Lib.hid (N6.out.keep t7)
  clear t7 q6
  go_wp2_with (first
    | (go_at_call 116; refine (HPL.out a5 _ C7.out.r E5.out).mono ?_; rintro E w8 ⟨rfl, L8⟩
       obtain ⟨a8, c8, e8, b8⟩ := C7.out.step L8
       have C8 := Lib.hid c8
       have N8 := Lib.hid (b8 _ _ _ N7.out)
       have E8 : Hid (a8.r = r) := e8.trans E5.out
       have q8 := nine_of N8.out.b
       clear c8 b8 e8 L8)
    | (go_at_call 117; refine (HNO.out a8 _ C8.out.r E8.out).mono ?_; rintro E w9 ⟨rfl, L9⟩
       obtain ⟨a9, c9, e9, b9⟩ := C8.out.step L9
       have C9 := Lib.hid c9
       clear c9 b9 e9 L9))
  go_ret
  exact ⟨rfl, C9.out.left⟩
set_option maxHeartbeats 25600000 in
theorem rp_recall_old (B : World) (a : Ra) (s : Rs) (x : En) (A : Option Addr) (n c : Nat) (S : Nat → Prop) (w : World) (h : Rp B a s w) (hb : Byt w S (.slice A n c) (encB x)) (hc : enCheck x = 0) (hf : fullM s.o s.tab x.k = false) (hn : newsM s.tab x = false) (ok : Rky s) :
    Calls Tryz.prog 65 #[.pointer (some ⟨a.r, 0, none⟩), .slice A n c] w fun E w' => E = .returned (.int .i64 0) ∧ LeftP B a w (rcS s x) w' := by
  obtain ⟨r, hr⟩ : ∃ r, a.r = r := ⟨_, rfl⟩
  obtain ⟨m, hm, ok1, h16, h32, hbm⟩ := enc_of hc
  have hbk := dec_back m ok1 h16 h32 (hm ▸ hc)
  have hDE : decE (encB x) = x := by rw [hbm, hbk.2, hm]
  have hDC : decC (encB x) = 0 := by rw [hbm, hbk.1]
  have HDE := Lib.hid (decode_any A n c (encB x) S w hb (by have := (enc_len hc).2; omega))
  rw [hDE, hDC] at HDE
  have C1 := Lib.hid (Cy.begin h)
  have HRM := Lib.hid (fun (X : World) (hX : Rp B a s X) => by
    have := ct_room B a s x.k X hX
    rw [hr, hf] at this
    exact this)
  have HC5 : Hid (∀ X, Rp B a s X → X.cell? ⟨r, 5, none⟩ = some (.pointer (some ⟨a.ck, 0, none⟩))) := fun X hX => hX.at_ hr rfl
  have HSE := Lib.hid (fun (X : World) (hX : Rp B a s X) => rp_see B a s x.a X hX)
  obtain ⟨s1, hs1⟩ : ∃ s1, seeS s x = s1 := ⟨_, rfl⟩
  have hs1' : ({ s with c := seeC s.c x.a } : Rs) = s1 := hs1
  rw [hs1'] at HSE
  have ht : s1.tab = s.tab := by rw [← hs1]; rfl
  have HNE := Lib.hid (fun (a1 : Ra) (X : World) (hX : Rp B a1 s1 X) (e1 : a1.r = r) => by
    have := ct_news B a1 s1 x X hX
    rw [e1, ht, hn] at this
    exact this)
  obtain ⟨s2, hs2⟩ : ∃ s2, (if newsM s.tab x = true then placeS s1 x else s1) = s2 := ⟨_, rfl⟩
  have hs12 : s1 = s2 := by rw [← hs2, if_neg (by rw [hn]; simp)]
  have hnn := ok.w
  have HNO := Lib.hid (fun (a1 : Ra) (X : World) (hX : Rp B a1 s2 X) (e1 : a1.r = r) => by
    have := rp_note B a1 s2 x X hX (by rw [← hs2, ← hs1]; split <;> exact ok.g) (by rw [← hs2, ← hs1]; split <;> exact ok.w) (key_small hc)
    rw [e1] at this
    exact this)
  have hrc : rcS s x = noteS s2 x := by rw [← hs2, ← hs1]; rfl
  rw [hrc]
  generalize noteS s2 x = s3 at HNO ⊢
  have HS12 := Lib.hid hs12
  rw [hr]
  have HR := Lib.hid hr
  clear h hb hc hr hm hbm hbk hDE hDC ok1 hf hs1 hs1' ht hs2 hnn hrc hn ok hs12
  go_enter Tryz.func65, Tryz.ntmps65
  go_wp2_with (first
    | (go_at_call 115; refine HDE.out.mono ?_; rintro E w2 ⟨rfl, o2⟩
       have C2 := Lib.hid ((C1.out.keep o2).keep ((Only.refl none_ _).alloc (.cells #[.string x.k, .string x.v, .bool x.d, .int .i64 x.s.c, .int .i64 x.s.s, .int .i64 x.a.c, .int .i64 x.a.s, .int .i64 x.p, .int .i64 x.g] 82)))
       have N2 : Hid (Bn a w2.heap.size 82 #[.string x.k, .string x.v, .bool x.d, .int .i64 x.s.c, .int .i64 x.s.s, .int .i64 x.a.c, .int .i64 x.a.s, .int .i64 x.p, .int .i64 x.g] (w2.alloc (.cells #[.string x.k, .string x.v, .bool x.d, .int .i64 x.s.c, .int .i64 x.s.s, .int .i64 x.a.c, .int .i64 x.a.s, .int .i64 x.p, .int .i64 x.g] 82))) := Bn.new (C1.out.keep o2).r
       clear o2)
    | (with_reducible refine wpl_new rfl rfl 82 rfl _ _ rfl #[.string x.k, .string x.v, .bool x.d, .int .i64 x.s.c, .int .i64 x.s.s, .int .i64 x.a.c, .int .i64 x.a.s, .int .i64 x.p, .int .i64 x.g] rfl rfl (by kernel_rfl) (en_cells_one x) ?_))
  generalize w2.alloc (.cells #[.string x.k, .string x.v, .bool x.d, .int .i64 x.s.c, .int .i64 x.s.s, .int .i64 x.a.c, .int .i64 x.a.s, .int .i64 x.p, .int .i64 x.g] 82) = W2 at C2 N2 ⊢
  generalize w2.heap.size = n0 at N2 ⊢
  (refine wp_region_steady (fun X => Only none_ W2 X) 11 (by kernel_rfl) (by kernel_rfl) ((Only.refl none_ W2).drew) ?_; simp only [List.take_succ_cons, List.take_zero, List.drop_succ_cons, List.drop_zero])
  repeat (first
    | (refine sd_value (v := ?_) (by rfl) (fun w0 hS => ?_) ?_; rotate_left; (· (have qq := nine_of (N2.out.keep hS).b; go_simp; try (with_reducible rfl))); try simp only [Act.put, List.setIfInBounds_toArray, List.set_cons_zero, List.set_cons_succ])
    | (refine sd_call (v := ?_) (f := 88) (args := ?_) (by rfl) (fun w0 hS => ?_) (fun w0 hS => ?_) ?_; rotate_left 2; (· (have qq := nine_of (N2.out.keep hS).b; go_simp; try (with_reducible rfl))); (· (refine (HRM.out _ (C2.out.keep hS).r).mono ?_; rintro E w9 ⟨rfl, o9⟩; refine ⟨?_, hS.trans o9⟩; rfl)); try simp only [Act.put, List.setIfInBounds_toArray, List.set_cons_zero, List.set_cons_succ]))
  refine sd_nil ?_
  intro w3 t3
  have C3 := Lib.hid (C2.out.keep t3)
  have N3 := Lib.hid (N2.out.keep t3)
  clear t3 C2 N2
  have q3 := N3.out.b
  clear q3
  go_upto_region 4 with fail
  (refine wp_region_steady (fun X => Only none_ w3 X) 6 (by kernel_rfl) (by kernel_rfl) ((Only.refl none_ w3).drew) ?_; simp only [List.take_succ_cons, List.take_zero, List.drop_succ_cons, List.drop_zero])
  repeat (first
    | (refine sd_value (v := ?_) (by rfl) (fun w0 hS => ?_) ?_; rotate_left; (· (have c5 := HC5.out _ (C3.out.keep hS).r; have qq := nine_of (N3.out.keep hS).b; go_simp; try (with_reducible rfl))); try simp only [Act.put, List.setIfInBounds_toArray, List.set_cons_zero, List.set_cons_succ]))
  refine sd_nil ?_
  intro w4 t4
  have C4 := Lib.hid (C3.out.keep t4)
  have N4 := Lib.hid (N3.out.keep t4)
  clear t4
  go_wp2_with (first
    | (go_at_call 84; refine (HSE.out _ C4.out.r).mono ?_; rintro E w5 ⟨⟨bs, rfl⟩, L5⟩
       obtain ⟨a5, c5, e5, b5⟩ := C4.out.step L5
       have C5 := Lib.hid c5
       have N5 := Lib.hid (b5 _ _ _ N4.out)
       have E5 : Hid (a5.r = r) := e5.trans HR.out
       clear c5 b5 e5 L5))
  (refine wp_region_steady (fun X => Only none_ w5 X) 5 (by kernel_rfl) (by kernel_rfl) ((Only.refl none_ w5).drew) ?_; simp only [List.take_succ_cons, List.take_zero, List.drop_succ_cons, List.drop_zero])
  repeat (first
    | (refine sd_value (v := ?_) (by rfl) (fun w0 hS => ?_) ?_; rotate_left; (· (have qq := nine_of (N5.out.keep hS).b; go_simp; try (with_reducible rfl))); try simp only [Act.put, List.setIfInBounds_toArray, List.set_cons_zero, List.set_cons_succ])
    | (refine sd_call (v := ?_) (f := 85) (args := ?_) (by rfl) (fun w0 hS => ?_) (fun w0 hS => ?_) ?_; rotate_left 2; (· (skip; go_simp; try (with_reducible rfl))); (· (refine (HNE.out a5 _ (C5.out.keep hS).r E5.out).mono ?_; rintro E w8 ⟨rfl, o8⟩; refine ⟨?_, hS.trans o8⟩; rfl)); try simp only [Act.put, List.setIfInBounds_toArray, List.set_cons_zero, List.set_cons_succ]))
  refine sd_nil ?_
  intro w6 t6
  have C6 := Lib.hid (C5.out.keep t6)
  have N6 := Lib.hid (N5.out.keep t6)
  have q6 := nine_of N6.out.b
  clear t6 C5 N5 C4 N4 C3 N3
  go_wp2_with (first
    | (go_at_call 117; refine (HNO.out a5 _ (by rw [← HS12.out]; exact C6.out.r) E5.out).mono ?_; rintro E w9 ⟨rfl, L9⟩
       have c6 := C6.out
       rw [HS12.out] at c6
       obtain ⟨a9, c9, e9, b9⟩ := c6.step L9
       have C9 := Lib.hid c9
       clear c9 b9 e9 L9 c6))
  go_ret
  exact ⟨rfl, C9.out.left⟩
theorem rp_recall (B : World) (a : Ra) (s : Rs) (x : En) (A : Option Addr) (n c : Nat) (S : Nat → Prop) (w : World) (h : Rp B a s w) (hb : Byt w S (.slice A n c) (encB x)) (hc : enCheck x = 0) (ok : Rky s) :
    Calls Tryz.prog 65 #[.pointer (some ⟨a.r, 0, none⟩), .slice A n c] w fun E w' => E = .returned (.int .i64 (if fullM s.o s.tab x.k = true then 12 else 0)) ∧ LeftP B a w (if fullM s.o s.tab x.k = true then s else rcS s x) w' := by
  cases hf : fullM s.o s.tab x.k with
  | true => exact rp_recall_full B a s x A n c S w h hb hc hf
  | false =>
    cases hn : newsM s.tab x with
    | true => exact rp_recall_new B a s x A n c S w h hb hc hf hn ok
    | false => exact rp_recall_old B a s x A n c S w h hb hc hf hn ok
end Go.Proofs.YtoohpcomnhfgpaaGreat
end
section
namespace Go.Proofs.YtoohpcomnhfgpaaGreat
open Go.RowKit
set_option maxRecDepth 100000
set_option linter.all false
def Far_ (B w w' : World) (g : Nat) (v : Value) (d : Dv) (l : List (List UInt8)) (j m : Nat) (vl v' : Value) : Prop :=
  w.heap.size ≤ m ∧ m ≤ j ∧ j < w'.heap.size ∧ Jn w' j g (l.length : Int) ∧ Lst w' w.heap.size (fun b => w.heap.size ≤ b ∧ b < m) vl l ∧ (∀ k, vl.ownBlock = some k → k < m) ∧
    Dsk B g d v' w' ∧ Only (foot g v) w w' ∧ (∀ k, v'.ownBlock = some k → v.ownBlock = some k ∨ m ≤ k)
set_option maxHeartbeats 3200000 in
theorem open_far (B : World) (g : Nat) (d : Dv) (v : Value) (w : World) (h : Dsk B g d v w) (hon1 : d.on = true) (hko : (jnRead d.bs).2.2 = 0) (hfo : d.fuse ≠ 0) :
    Calls Tryz.prog 63 #[.pointer (some ⟨g, 0, none⟩)] w fun e w' => ∃ j m vl v', e = .returned (.tuple #[.pointer (some ⟨j, 0, none⟩), vl, .int .i64 0]) ∧ Far_ B w w' g v (opD d) (jnRead d.bs).1 j m vl v' := by
  have HRD := disk_read B g d v w h
  have H := Lib.hid h
  have hml := h.ml
  rw [hon1] at HRD
  simp only [if_true] at HRD
  obtain ⟨R, hR⟩ : ∃ r, jnRead d.bs = r := ⟨_, rfl⟩
  have hle := jnRead_le d.bs
  have hct := jnRead_count d.bs
  have HQ : Hid (∀ (A : Option Addr) (n c : Nat) (S : Nat → Prop) (w' : World), Byt w' S (.slice A n c) d.bs → n = d.bs.length → Calls Tryz.prog 109 #[.slice A n c] w' fun e w'' => ∃ v, e = .returned (.tuple #[v, .int .i64 ((jnRead d.bs).2.1 : Int), .int .i64 (jnRead d.bs).2.2]) ∧ Lst w'' (w'.heap.size + 1) (fun b => w'.heap.size + 1 ≤ b) v (jnRead d.bs).1 ∧ Only none_ w' w'') := by
    intro A n c S w' hb hn
    subst hn
    exact read7 A c d.bs S w' hb hml
  rw [hR] at hle hct hko
  rw [hR] at HQ
  obtain ⟨l, n, k⟩ := R
  dsimp only at HQ hle hct hko
  have HR := Lib.hid HRD
  obtain ⟨L, hL⟩ : ∃ L, d.bs.length = L := ⟨_, rfl⟩
  have HL := Lib.hid hL
  rw [hL] at hle hml
  subst hko
  by_cases hs : n < L
  · have hsb : decide ((n : Int) < (L : Int)) = true := by simp; omega
    have HT := fun (w' : World) (v' : Value) (h' : Dsk B g d v' w') => disk_trim B g n d v' w' h'
    have hf0 : (if (n : Int) < 0 ∨ (d.bs.length : Int) < (n : Int) then (2 : Int) else 0) = 0 := if_neg (by rw [hL]; omega)
    simp only [hf0, Int.toNat_natCast] at HT
    have hcc : chCode d 0 = 0 := by simp [chCode, hon1, hfo]
    have e1 : Hid (opD d = chD d 0 (dTrim n (burnt d)) ∧ (jnRead d.bs).1 = l) := by
      refine ⟨?_, by rw [hR]⟩
      simp only [opD, hon1, hR, hL]; simp [hs]
    rw [hcc] at HT
    have HTT := Lib.hid HT
    clear h HRD hml hon1 hR hle hct HT hf0 hfo hcc hL
    go_enter Tryz.func63, Tryz.ntmps63
    go_wp2_with (first
      | (go_at_call 108; refine HR.out.mono ?_; rintro e w1 ⟨⟨A1, n1, c1, rfl, own1⟩, o1⟩
         obtain rfl : n1 = L := by rw [own_len own1]; exact HL.out
         have B1 := Lib.hid (Byt.of_own own1)
         have O1 := Lib.hid o1
         have N1 : Hid (w.heap.size ≤ w1.heap.size) := o1.size
         clear own1 o1)
      | (go_at_call 109; refine (HQ.out A1 _ c1 _ _ B1.out HL.out.symm).mono ?_; rintro e w2 ⟨v2, rfl, l2, o2⟩
         obtain ⟨A2, c2, rfl⟩ := l2.shape
         have L2 : Hid (Lst w2 w.heap.size (fun b => w.heap.size ≤ b ∧ b < w2.heap.size) (.slice A2 l.length c2) l ∧ w.heap.size ≤ w2.heap.size) :=
           ⟨(l2.based (by have := N1.out; omega)).mono (fun b hlt hb => ⟨by have hb' : w1.heap.size + 1 ≤ b := hb; have := N1.out; omega, hlt⟩), (O1.out.trans o2).size⟩
         have O2 := Lib.hid (O1.out.trans o2)
         have D2 := Lib.hid (H.out.keep O2.out)
         clear l2 o2)
      | (go_at_call 110; refine (HTT.out _ _ D2.out).mono ?_; rintro e w3 ⟨rfl, l3⟩
         obtain ⟨v3, d3, o3, m3⟩ := l3
         have L3 := Lib.hid (L2.out.1.only o3 (fun b hb hf => by have h1 := H.out.foot_lt hf; have h2 := (L2.out.1.own_lt b hb).1; omega) (fun b hb hf => by have h1 := H.out.foot_lt hf; have h2 := hb.1; omega))
         have N3 : Hid (w2.heap.size ≤ w3.heap.size) := o3.size
         have D3 := Lib.hid d3
         have O3 := Lib.hid (O2.out.of_none.trans' o3 (fun k _ h => h))
         have M3 := Lib.hid m3
         clear d3 o3 m3))
    refine bodyPost_ret (v := .tuple #[.pointer (some ⟨w3.heap.size, 0, none⟩), .slice A2 l.length c2, .int .i64 0]) (by simp [results, Tryz.results63, go_sem]) rfl ?_
    have oa := (Only.refl none_ w3).alloc (.cells (jnCells (.pointer (some ⟨g, 0, none⟩)) (.int .i64 (l.length : Int))) 212)
    rw [e1.out.1, e1.out.2]
    refine ⟨_, w2.heap.size, _, v3, rfl, L2.out.2, N3.out, by rw [World.size_alloc]; omega, Jn.new _ _ _, L3.out.keep oa, fun k hk => (L2.out.1.own_lt k hk).2, D3.out.keep oa, O3.out.trans' oa (fun _ _ h => h.elim), fun k hk => M3.out k hk⟩
  · have hnL : n = L := by omega
    have hsb : decide ((n : Int) < (L : Int)) = false := by simp; omega
    have e1 : Hid (opD d = d ∧ (jnRead d.bs).1 = l) := by
      refine ⟨?_, by rw [hR]⟩
      simp only [opD, hon1, hR, hL]; simp [hs]
    clear h HRD hml hon1 hR hle hct hL hnL hfo
    go_enter Tryz.func63, Tryz.ntmps63
    go_wp2_with (first
      | (go_at_call 108; refine HR.out.mono ?_; rintro e w1 ⟨⟨A1, n1, c1, rfl, own1⟩, o1⟩
         obtain rfl : n1 = L := by rw [own_len own1]; exact HL.out
         have B1 := Lib.hid (Byt.of_own own1)
         have O1 := Lib.hid o1
         have N1 : Hid (w.heap.size ≤ w1.heap.size) := o1.size
         clear own1 o1)
      | (go_at_call 109; refine (HQ.out A1 _ c1 _ _ B1.out HL.out.symm).mono ?_; rintro e w2 ⟨v2, rfl, l2, o2⟩
         obtain ⟨A2, c2, rfl⟩ := l2.shape
         have L2 : Hid (Lst w2 w.heap.size (fun b => w.heap.size ≤ b ∧ b < w2.heap.size) (.slice A2 l.length c2) l ∧ w.heap.size ≤ w2.heap.size) :=
           ⟨(l2.based (by have := N1.out; omega)).mono (fun b hlt hb => ⟨by have hb' : w1.heap.size + 1 ≤ b := hb; have := N1.out; omega, hlt⟩), (O1.out.trans o2).size⟩
         have O2 := Lib.hid (O1.out.trans o2)
         have D2 := Lib.hid (H.out.keep O2.out)
         clear l2 o2))
    refine bodyPost_ret (v := .tuple #[.pointer (some ⟨w2.heap.size, 0, none⟩), .slice A2 l.length c2, .int .i64 0]) (by simp [results, Tryz.results63, go_sem]) rfl ?_
    have oa := (Only.refl none_ w2).alloc (.cells (jnCells (.pointer (some ⟨g, 0, none⟩)) (.int .i64 (l.length : Int))) 212)
    rw [e1.out.1, e1.out.2]
    exact ⟨_, w2.heap.size, _, v, rfl, L2.out.2, Nat.le_refl _, by rw [World.size_alloc]; omega, Jn.new _ _ _, L2.out.1.keep oa, fun k hk => (L2.out.1.own_lt k hk).2, D2.out.keep oa, (O2.out.trans oa).of_none, fun k hk => .inl hk⟩
end Go.Proofs.YtoohpcomnhfgpaaGreat
end
