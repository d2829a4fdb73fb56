/- The example of layer 8 that each statement calls first; pairs held against each other; texts that came in. No statement of the seat is proved here. -/
import Derived.Test.YtdmopjnmfjmhkaaTbE
import Derived.ChangeKeysEq
import Derived.Laws.StructEq
import Derived.Laws.Cover1
namespace Go.Proofs.Ytdmopjnmfjmhkaa
open Go.RowKit
set_option maxRecDepth 100000
set_option linter.all false

theorem eq_struct8 {P : Program} {t : TypeId} {fs : Array Field} (ht : P.underlying t = some (.struct fs)) (hp : P.stoodInHeld t = false) (d : Nat) (xs ys : Array Value) (w : World) :
    (Op.equalIn (d + 1) t (.agg xs) (.agg ys)).run P w = (Op.eqFields d xs ys fs.toList).run P w := by
  have e : P.fieldsOf t = fs := by rw [Program.fieldsOf, ht]
  rw [run_equalIn_struct w d t xs ys (by rw [e]; exact ht) hp, e]
theorem eq_pairI (w : World) (a b : ByteArray) (x y : Int) (d : Nat) : (Op.equalIn (d + 2) 78 (.agg #[.string a, .int .i64 x]) (.agg #[.string b, .int .i64 y])).run Try.prog w = .ok (a.toList == b.toList && x == y) w := by
  rw [eq_struct8 Try.underlying78 (by kernel_rfl)]
  have e1 : ∀ (a b : ByteArray), (Op.equalIn (d + 1) 9 (.string a) (.string b)).run Try.prog w = .ok (a.toList == b.toList) w := fun a b => run_equalIn_string w d 9 a b Try.underlying9
  have e2 : ∀ (a b : Int), (Op.equalIn (d + 1) 3 (.int .i64 a) (.int .i64 b)).run Try.prog w = .ok (a == b) w := fun a b => run_equalIn_int w d 3 .i64 .i64 a b Try.underlying3
  cases h1 : a.toList == b.toList <;> cases h2 : x == y <;> simp [Op.eqFields, part, isAgg, run_underlying Try.underlying9, run_underlying Try.underlying3, e1, e2, h1, h2]
theorem eql_pairI (w : World) (a : ByteArray) (x : Int) : (binOp .eql 78 (.agg #[.string a, .int .i64 x]) (.agg #[.string a, .int .i64 x])).run Try.prog w = .ok (.bool true) w := by
  rw [run_eql_struct, eq_pairI w a a x x 9998]
  simp
theorem neq_pairI (w : World) (a : ByteArray) (x : Int) : (binOp .neq 78 (.agg #[.string a, .int .i64 x]) (.agg #[.string a, .int .i64 x])).run Try.prog w = .ok (.bool false) w := by
  rw [run_neq_struct, eq_pairI w a a x x 9998]
  simp

theorem putT_ba : putT 4 [] ⟨#[98]⟩ 2 = [⟨⟨#[98]⟩, 2⟩] ∧ putT 4 [⟨⟨#[98]⟩, 2⟩] ⟨#[97]⟩ 1 = [⟨⟨#[97]⟩, 1⟩, ⟨⟨#[98]⟩, 2⟩] ∧ putC 4 [] ⟨#[98]⟩ = 0 ∧ putC 4 [⟨⟨#[98]⟩, 2⟩] ⟨#[97]⟩ = 0 ∧ scanL [⟨⟨#[97]⟩, 1⟩, ⟨⟨#[98]⟩, 2⟩] ⟨#[]⟩ 9 = [⟨⟨#[97]⟩, 1⟩, ⟨⟨#[98]⟩, 2⟩] := by
  have n1 : ¬ ((⟨#[98]⟩ : ByteArray) = ⟨#[97]⟩) := fun e => by injection e with e; simp at e
  have l1 : lt_ ⟨#[98]⟩ ⟨#[97]⟩ = false := by decide
  have l2 : ∀ a : ByteArray, lt_ a ⟨#[]⟩ = false := fun a => by unfold lt_; cases a.data.toList <;> rfl
  refine ⟨?_, ?_, ?_, ?_, ?_⟩
  · simp [putT, has, putL, rnk]
  · simp [putT, has, putL, rnk, n1, l1]
  · simp [putC, has]
  · simp [putC, has, n1]
  · simp [scanL, rnk, l2]

set_option maxHeartbeats 3200000 in
theorem t_speaks (w : World) : Calls Try.prog 6 #[] w fun e w' => e = .returned (.bool true) ∧ Only none_ w w' := by
  obtain ⟨p1, p2, p3, p4, p5⟩ := putT_ba
  have HN : Hid (Calls Try.prog 8 #[.int .i64 4] w fun e w' => ∃ g, e = .returned (.tuple #[.pointer (some ⟨g, 0, none⟩), .int .i64 0]) ∧ Tb w g 4 [] (.slice none 0 0) w') := (tb_new_yes w 4 w (Only.refl _ _) (by decide) (by decide)).mono fun e w' h => by
    obtain ⟨g, h2, _, h3, _⟩ := h
    exact ⟨g, h2, h3⟩
  have HP1 : Hid (∀ g v w', Tb w g 4 [] v w' → Calls Try.prog 27 #[.pointer (some ⟨g, 0, none⟩), .string ⟨#[98]⟩, .int .i64 2] w' fun e w'' => e = .returned (.int .i64 0) ∧ ∃ v', Tb w g 4 [⟨⟨#[98]⟩, 2⟩] v' w'') := fun g v w' h => (tb_put w g 4 [] v ⟨#[98]⟩ 2 w' h).mono fun e w'' h => by
    obtain ⟨h1, v', h2, _⟩ := h
    rw [p1] at h2
    rw [p3] at h1
    exact ⟨h1, v', h2⟩
  have HP2 : Hid (∀ g v w', Tb w g 4 [⟨⟨#[98]⟩, 2⟩] v w' → Calls Try.prog 27 #[.pointer (some ⟨g, 0, none⟩), .string ⟨#[97]⟩, .int .i64 1] w' fun e w'' => e = .returned (.int .i64 0) ∧ ∃ v', Tb w g 4 [⟨⟨#[97]⟩, 1⟩, ⟨⟨#[98]⟩, 2⟩] v' w'') := fun g v w' h => (tb_put w g 4 _ v ⟨#[97]⟩ 1 w' h).mono fun e w'' h => by
    obtain ⟨h1, v', h2, _⟩ := h
    rw [p2] at h2
    rw [p4] at h1
    exact ⟨h1, v', h2⟩
  have HSC : Hid (∀ g v w', Tb w g 4 [⟨⟨#[97]⟩, 1⟩, ⟨⟨#[98]⟩, 2⟩] v w' → Calls Try.prog 28 #[.pointer (some ⟨g, 0, none⟩), .string ⟨#[]⟩, .int .i64 9] w' fun e w'' => ∃ b c, e = .returned (.slice (some ⟨b, 0, none⟩) 2 c) ∧ w''.cell? ⟨b, 0, none⟩ = some (.string ⟨#[97]⟩) ∧ w''.cell? ⟨b, 1, none⟩ = some (.int .i64 1) ∧ w''.cell? ⟨b, 2, none⟩ = some (.string ⟨#[98]⟩) ∧ w''.cell? ⟨b, 3, none⟩ = some (.int .i64 2) ∧ Only none_ w w'') := fun g v w' h => (tb_scan w g 4 _ v ⟨#[]⟩ 9 w' h).mono fun e w'' h2 => by
    obtain ⟨v', rfl, own, o⟩ := h2
    rw [p5] at own
    obtain ⟨A, n, c, rfl⟩ := own_shape own
    rcases own.2 with ⟨_, e0⟩ | ⟨b, cap, cur, e1, hb, hh, hnc, hcm, hcs, htk⟩
    · cases e0
    · injection e1 with e1 e2 e3
      subst e1 e2 e3
      have hcl : ∀ j u, ([.string ⟨#[97]⟩, .int .i64 1, .string ⟨#[98]⟩, .int .i64 2] : List Value)[j]? = some u → w''.cell? ⟨b, j, none⟩ = some u := fun j u hu => by
        have := own.cells (g := b) rfl j u hu
        have e1 : (⟨b, 0, none⟩ : Addr).add j = ⟨b, 0 + j, none⟩ := by unfold Addr.add; split <;> simp_all
        rw [e1, Nat.zero_add] at this
        exact this
      exact ⟨b, c, rfl, hcl 0 _ rfl, hcl 1 _ rfl, hcl 2 _ rfl, hcl 3 _ rfl, h.ho.trans o⟩
  have heq := eql_pairI
  have tokA : True := trivial
  clear p1 p2 p3 p4 p5
  go_enter Try.func6, Try.ntmps6
  go_wp2_with (first
    | (go_at_call 8; refine HN.out.mono ?_; rintro e w1 ⟨g, rfl, h1⟩; have H1 := Lib.hid h1; clear h1)
    | (go_at_call 27; have _t := tokA; clear tokA; refine (HP1.out _ _ _ H1.out).mono ?_; rintro e w2 ⟨rfl, v2, h2⟩; have H2 := Lib.hid h2; clear h2; have tokB : True := trivial)
    | (go_at_call 27; have _t := tokB; clear tokB; refine (HP2.out _ _ _ H2.out).mono ?_; rintro e w3 ⟨rfl, v3, h3⟩; have H3 := Lib.hid h3; clear h3)
    | (go_at_call 28; refine (HSC.out _ _ _ H3.out).mono ?_; rintro e w4 ⟨b, c, rfl, c0, c1, c2, c3, o4⟩; have O4 := Lib.hid o4; clear o4))
  go_ret
  exact ⟨rfl, O4.out⟩

/-- Texts that came in. -/
def strC (s : ByteArray) : List Value := [.string s]
theorem str_cell {w : World} {S : Nat → Prop} {A : Option Addr} {n c : Nat} {l : List ByteArray} (h : Cel w S (.slice A n c) n 1 (l.flatMap strC)) (i : Nat) (hi : i < l.length) (hn : n = l.length) :
    ∃ b off, A = some ⟨b, off, none⟩ ∧ S b ∧ b < w.heap.size ∧ w.cell? ⟨b, off + i, none⟩ = some (.string l[i]) := by
  obtain ⟨A', c', e, h0, h1, h2, h3, h4⟩ := h
  injection e with e1 e2 e3
  subst e1 e3
  obtain ⟨b, off, rfl, hs, hlt, hc⟩ := h4 (by omega)
  refine ⟨b, off, rfl, hs, hlt, hc _ _ ?_⟩
  have := flat_at strC (k := 1) (fun _ => rfl) l i l[i] (List.getElem?_eq_getElem hi) 0 (by decide)
  rw [Nat.mul_one, Nat.add_zero] at this
  rw [this]; rfl
theorem strs_arg {H : Type} {enc : TypeId × Value → H} {W : World} {a : Option Addr} {len cap : Nat} {d : DataW H} {p : List MemPlace} (h : DataW.Trod enc Try.prog W 0 (fun _ => true) true 41 (.slice a len cap) d p) :
    ∃ l : List ByteArray, len = l.length ∧ Cel W (fun b => b < W.heap.size) (.slice a len cap) len 1 (l.flatMap strC) := by
  obtain ⟨l, h1, h2, _⟩ := cel_in strC (fun _ => True) Try.underlying41 (by kernel_rfl) (fun _ => rfl) (by decide) (fun n r y hr ht => by
    match r, hr with
    | [r0], _ =>
      obtain ⟨s, q0, _⟩ := DataW.trod_string Try.underlying9 ht
      simp only [List.cons.injEq, and_true] at q0
      exact ⟨s, by rw [q0]; rfl, trivial⟩) h
  exact ⟨l, h1, h2⟩
end Go.Proofs.Ytdmopjnmfjmhkaa
