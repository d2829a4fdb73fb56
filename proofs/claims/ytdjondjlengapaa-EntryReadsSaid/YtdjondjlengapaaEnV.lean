/- What takeStamp of package entry does: two numbers of a reader. No statement of the seat is proved here. -/
import Derived.Test.YtdjondjlengapaaOctU
import Derived.Test.YtdjondjlengapaaStM
namespace Go.Proofs.Ytdjondjlengapaa
open Go.RowKit
set_option maxRecDepth 100000
set_option linter.all false

theorem numR_lt (code : Int) (bs : List UInt8) (m : Nat) : (numR code bs (m : Int)).2.2 < 256 ^ m := by
  have h0 : 0 < 256 ^ m := Nat.pow_pos (by omega)
  unfold numR
  split
  · split
    · rename_i h
      rw [Int.toNat_natCast] at h ⊢
      exact le_take_lt bs m h.2
    · exact h0
  · exact h0
theorem numR_len (code : Int) (bs : List UInt8) (width : Int) : (numR code bs width).2.1.length ≤ bs.length := by
  unfold numR
  split
  · split
    · simp only [List.length_drop]; omega
    · exact Nat.le_refl _
  · exact Nat.le_refl _

/-- A reader in block g, and a block h of the call's own; all else as in B. -/
structure Tk (B : World) (g : Nat) (S : Nat → Prop) (h : Nat) (t : TypeId) (cs : Array Value) (code : Int) (bs : List UInt8) (w : World) : Prop where
  rd : Rd w g S code bs
  bx : Blk w h t cs
  ho : Only (one g) B w
  gl : g < B.heap.size
  fr : ∀ b, S b → b < B.heap.size
  ge : B.heap.size ≤ h
section
variable {B w w' : World} {g h : Nat} {S : Nat → Prop} {t : TypeId} {cs : Array Value} {code code' : Int} {bs bs' : List UInt8}
theorem Tk.new (hr : Rd B g S code bs) (fr : ∀ b, S b → b < B.heap.size) : Tk B g S B.heap.size t cs code bs (B.alloc (.cells cs t)) :=
  ⟨hr.only ((Only.refl none_ _).alloc _) (fun h => h) (fun _ _ h => h), Blk.new _ _ _, (Only.refl _ _).alloc _, hr.lt, fr, Nat.le_refl _⟩
theorem Tk.step (s : Tk B g S h t cs code bs w) (hr : Rd w' g S code' bs') (o : Only (one g) w w') : Tk B g S h t cs code' bs' w' :=
  ⟨hr, s.bx.only o (fun e => by have e' : h = g := e; have := s.gl; have := s.ge; omega), s.ho.trans o, s.gl, s.fr, s.ge⟩
theorem Tk.keep (s : Tk B g S h t cs code bs w) (o : Only none_ w w') : Tk B g S h t cs code bs w' :=
  s.step (s.rd.only o (fun h => h) (fun _ _ h => h)) o.of_none
theorem Tk.set (s : Tk B g S h t cs code bs w) (i : Nat) (u : Value) : Tk B g S h t (cs.setIfInBounds i u) code bs (w.setCell ⟨h, i, none⟩ u) :=
  ⟨s.rd.only ((Only.refl (one h) w).setCell (p := ⟨h, i, none⟩) (.inl rfl) u) (fun e => by have e' : g = h := e; have := s.gl; have := s.ge; omega)
      (fun b hb e => by have e' : b = h := e; have := s.fr b hb; have := s.ge; omega),
    s.bx.set_ i u, s.ho.setCell (p := ⟨h, i, none⟩) (.inr s.ge) u, s.gl, s.fr, s.ge⟩
end

/-- A stamp asked for. -/
def stampR (code : Int) (bs : List UInt8) : Int × List UInt8 × St :=
  ((numR (numR code bs 4).1 (numR code bs 4).2.1 1).1, (numR (numR code bs 4).1 (numR code bs 4).2.1 1).2.1, ⟨(numR code bs 4).2.2, (numR (numR code bs 4).1 (numR code bs 4).2.1 1).2.2⟩)

set_option maxHeartbeats 800000 in
theorem take_stamp (g : Nat) (S : Nat → Prop) (code : Int) (bs : List UInt8) (w : World) (hr : Rd w g S code bs) (fr : ∀ b, S b → b < w.heap.size) (hm : bs.length ≤ 140737488355328) :
    Calls Try.prog 71 #[.pointer (some ⟨g, 0, none⟩)] w fun e w' =>
      e = .returned (.agg #[.int .i64 (stampR code bs).2.2.c, .int .i64 (stampR code bs).2.2.s]) ∧ Rd w' g S (stampR code bs).1 (stampR code bs).2.1 ∧ Only (one g) w w' := by
  have hg := hr.lt
  have HG := Lib.hid hg
  clear hg
  have R0 := Lib.hid (Blk.new w 25 #[.int .i64 0, .int .i64 0])
  have O0 := Lib.hid ((Only.refl (one g) w).alloc (.cells #[.int .i64 0, .int .i64 0] 25))
  have T0 := Tk.new (t := 25) (cs := #[.int .i64 0, .int .i64 0]) (hr.only ((Only.refl none_ _).alloc (.cells #[.int .i64 0, .int .i64 0] 25)) (fun h => h) (fun _ _ h => h)) (fun b hb => by rw [World.size_alloc]; have := fr b hb; omega)
  rw [World.size_alloc] at T0
  have T := Lib.hid T0
  clear T0
  obtain ⟨a, ha⟩ : ∃ a, numR code bs 4 = a := ⟨_, rfl⟩
  obtain ⟨b, hb⟩ : ∃ b, numR a.1 a.2.1 1 = b := ⟨_, rfl⟩
  have la : a.2.2 < 256 ^ 4 := ha ▸ numR_lt code bs 4
  have lb : b.2.2 < 256 ^ 1 := hb ▸ numR_lt a.1 a.2.1 1
  have l2 : a.2.1.length ≤ bs.length := ha ▸ numR_len code bs 4
  have HS : Hid (stampR code bs = (b.1, b.2.1, ⟨(a.2.2 : Nat), (b.2.2 : Nat)⟩)) := by rw [Hid, stampR, ha, hb]
  have A1 : IntKind.i64.wrap (a.2.2 : Int) = (a.2.2 : Int) := IntWalk.i64_in _ (by omega)
  have B1 : IntKind.i64.wrap (b.2.2 : Int) = (b.2.2 : Int) := IntWalk.i64_in _ (by omega)
  have HB := Lib.hid hb
  have HM : Hid (a.2.1.length ≤ 140737488355328) := Nat.le_trans l2 hm
  have C1 := reader_number g S code bs 4 _ T.out.rd hm
  rw [ha] at C1
  have FR := Lib.hid fr
  clear ha hb la lb l2 hr fr hm
  have tok1 : True := trivial
  go_enter Try.func71, Try.ntmps71
  go_wp2_with (first
    | (go_at_call 72; have _t := tok1; clear tok1; refine C1.mono ?_; clear C1; rintro e w1 ⟨rfl, h1, o1⟩
       have T1 := Lib.hid (T.out.step h1 o1)
       have z1 := T1.out.bx.frozen 0
       have v1 := T1.out.bx.cell_ (i := 0) rfl
       have T2 := Lib.hid (T1.out.set 0 (.int .i64 a.2.2))
       clear h1 o1
       have tok2 : True := trivial)
    | (go_at_call 72; have _t := tok2; clear tok2; refine (reader_number g S _ _ 1 _ T2.out.rd HM.out).mono ?_; rw [HB.out]; rintro e w2 ⟨rfl, h2, o2⟩
       have T3 := Lib.hid (T2.out.step h2 o2)
       have z2 := T3.out.bx.frozen 1
       have v2 := T3.out.bx.cell_ (i := 1) rfl
       have T4 := Lib.hid (T3.out.set 1 (.int .i64 b.2.2))
       have c0 := T4.out.bx.cell_ (i := 0) rfl
       have c1 := T4.out.bx.cell_ (i := 1) rfl
       have R4 := Lib.hid (R0.out.only T4.out.ho (fun e => by have e' : w.heap.size = g := e; have := HG.out; omega))
       have y0 := R4.out.frozen 0
       have y1 := (R4.out.set_ 0 (.int .i64 a.2.2)).frozen 1
       have x0 := R4.out.cell_ (i := 0) rfl
       have x1 := (R4.out.set_ 0 (.int .i64 a.2.2)).cell_ (i := 1) rfl
       clear h2 o2))
  have hF : Blk (((w2.setCell ⟨w.heap.size + 1, 1, none⟩ (.int .i64 b.2.2)).setCell ⟨w.heap.size, 0, none⟩ (.int .i64 a.2.2)).setCell ⟨w.heap.size, 1, none⟩ (.int .i64 b.2.2)) w.heap.size 25 #[.int .i64 a.2.2, .int .i64 b.2.2] := by
    have := (R4.out.set_ 0 (.int .i64 a.2.2)).set_ 1 (.int .i64 b.2.2)
    simpa using this
  have oF := ((Only.refl (one w.heap.size) (w2.setCell ⟨w.heap.size + 1, 1, none⟩ (.int .i64 b.2.2))).setCell (p := ⟨w.heap.size, 0, none⟩) (.inl rfl) (.int .i64 a.2.2)).setCell (p := ⟨w.heap.size, 1, none⟩) (.inl rfl) (.int .i64 b.2.2)
  exact bodyPost_ret (results_cell_row rfl _ _ w.heap.size 25 _ (0, 0) _ rfl hF Try.underlying25 rfl (by kernel_rfl)) rfl
    (by rw [HS.out]; exact ⟨rfl, T4.out.rd.only oF (fun e => by have e' : g = w.heap.size := e; have := HG.out; omega) (fun b hb e => by have e' : b = w.heap.size := e; have := FR.out b hb; omega),
      ((O0.out.trans T4.out.ho).setCell (p := ⟨w.heap.size, 0, none⟩) (.inr (Nat.le_refl _)) _).setCell (p := ⟨w.heap.size, 1, none⟩) (.inr (Nat.le_refl _)) _⟩)
end Go.Proofs.Ytdjondjlengapaa
