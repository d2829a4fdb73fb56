/- The document's cursor by what is left; six numbers asked for. No statement of the seat is proved here. -/
import Derived.Test.YtdjondjlengapaaRefV
import Derived.Test.YtdjondjlengapaaEnX
namespace Go.Proofs.Ytdjondjlengapaa
open Go.RowKit
set_option maxRecDepth 100000

theorem rest_ok {bs r : List UInt8} {L k : Nat} (hL : L = bs.length) (h : r = bs.drop k) (hk : k ≤ L) : L - r.length = k ∧ r = bs.drop (L - r.length) ∧ r.length ≤ L := by
  have hl : r.length = L - k := by rw [h, List.length_drop, hL]
  have e : L - r.length = k := by omega
  exact ⟨e, by rw [e]; exact h, by omega⟩
/-- What is left of the bytes bs. -/
def Rest (bs r : List UInt8) : Prop := r = bs.drop (bs.length - r.length) ∧ r.length ≤ bs.length
section
variable {A : Option Addr} {c : Nat} {bs r : List UInt8} {err : Int} {S : Nat → Prop} {w : World} (h : Byt w S (.slice A bs.length c) bs) (hS : ∀ b, S b → b < w.heap.size) (hr : Rest bs r) (hL : bs.length ≤ 100000)
include h hS hr hL
theorem rest_take (p : Nat) (hp : p = bs.length - r.length) (n : Int) (hn : n ≤ 9223372036854775807) :
    Calls Try.prog 50 #[.agg #[.slice A bs.length c, .int .i64 (p : Int), .int .i64 err], .int .i64 n] w fun E w' =>
      ∃ q : Nat, E = .returned (.tuple #[.agg #[.slice A bs.length c, .int .i64 (q : Int), .int .i64 (numR err r n).1], .int .u64 ((numR err r n).2.2 : Int)]) ∧ q = bs.length - (numR err r n).2.1.length ∧ Rest bs (numR err r n).2.1 ∧ Only none_ w w' := by
  subst hp
  have := ref_take A bs.length c bs (bs.length - r.length) err n S w h hS (by omega) hL hn
  rw [← hr.1] at this
  refine this.mono ?_
  rintro E w' ⟨d, rfl, hd, hk, o⟩
  obtain ⟨e1, e2, e3⟩ := rest_ok rfl hd hk
  exact ⟨_, rfl, e1.symm, ⟨e2, e3⟩, o⟩
theorem rest_text (p : Nat) (hp : p = bs.length - r.length) (most : Int) :
    Calls Try.prog 48 #[.agg #[.slice A bs.length c, .int .i64 (p : Int), .int .i64 err], .int .i64 most] w fun E w' =>
      ∃ q : Nat, E = .returned (.tuple #[.agg #[.slice A bs.length c, .int .i64 (q : Int), .int .i64 (textR err r most).1], .string ⟨(textR err r most).2.2.toArray⟩]) ∧ q = bs.length - (textR err r most).2.1.length ∧ Rest bs (textR err r most).2.1 ∧ Only none_ w w' := by
  subst hp
  have := ref_text A bs.length c bs (bs.length - r.length) err most S w h hS (by omega) hL
  rw [← hr.1] at this
  refine this.mono ?_
  rintro E w' ⟨d, rfl, hd, hk, o⟩
  obtain ⟨e1, e2, e3⟩ := rest_ok rfl hd hk
  exact ⟨_, rfl, e1.symm, ⟨e2, e3⟩, o⟩
theorem rest_flag (p : Nat) (hp : p = bs.length - r.length) :
    Calls Try.prog 49 #[.agg #[.slice A bs.length c, .int .i64 (p : Int), .int .i64 err]] w fun E w' =>
      ∃ q : Nat, E = .returned (.tuple #[.agg #[.slice A bs.length c, .int .i64 (q : Int), .int .i64 (flagR err r).1], .bool (flagR err r).2.2]) ∧ q = bs.length - (flagR err r).2.1.length ∧ Rest bs (flagR err r).2.1 ∧ Only none_ w w' := by
  subst hp
  have := ref_flag A bs.length c bs (bs.length - r.length) err S w h hS (by omega) hL
  rw [← hr.1] at this
  refine this.mono ?_
  rintro E w' ⟨d, rfl, hd, hk, o⟩
  obtain ⟨e1, e2, e3⟩ := rest_ok rfl hd hk
  exact ⟨_, rfl, e1.symm, ⟨e2, e3⟩, o⟩
end

/-- Six numbers, one behind the other. -/
def wd (j : Nat) : Nat := [4, 1, 4, 1, 2, 4].getD j 0
def curs (e : Int) (r : List UInt8) : Nat → Int × List UInt8
  | 0 => (e, r)
  | j + 1 => ((numR (curs e r j).1 (curs e r j).2 (wd j : Int)).1, (numR (curs e r j).1 (curs e r j).2 (wd j : Int)).2.1)
def vals (e : Int) (r : List UInt8) (j : Nat) : Nat := (numR (curs e r j).1 (curs e r j).2 (wd j : Int)).2.2
def nArr (f : Nat → Nat) (j : Nat) : Array Value := ((List.range 6).map fun i => if i < j then .int .u64 (f i : Int) else .int .u64 0).toArray
theorem nArr_set (f : Nat → Nat) (j : Nat) (hj : j < 6) : (nArr f j).setIfInBounds j (.int .u64 (f j : Int)) = nArr f (j + 1) := by
  apply Array.ext_getElem?
  intro i
  rw [Array.getElem?_setIfInBounds]
  simp only [nArr, List.size_toArray, List.length_map, List.length_range, List.getElem?_toArray, List.getElem?_map]
  by_cases hi : i < 6
  · rw [List.getElem?_range hi]
    by_cases hij : j = i
    · subst hij; simp [hj]
    · simp only [hij, if_false, Option.map_some]
      congr 1
      by_cases h1 : i < j
      · rw [if_pos h1, if_pos (by omega)]
      · rw [if_neg h1, if_neg (by omega)]
  · have hn : (List.range 6)[i]? = none := List.getElem?_eq_none (by simp; omega)
    rw [hn]
    split
    · next h => subst h; omega
    · rfl
theorem nArr_zero (f : Nat → Nat) : nArr f 0 = #[.int .u64 0, .int .u64 0, .int .u64 0, .int .u64 0, .int .u64 0, .int .u64 0] := rfl
theorem nArr_six (f : Nat → Nat) : nArr f 6 = #[.int .u64 (f 0 : Int), .int .u64 (f 1 : Int), .int .u64 (f 2 : Int), .int .u64 (f 3 : Int), .int .u64 (f 4 : Int), .int .u64 (f 5 : Int)] := rfl
theorem wd_cell {w : World} {g : Nat} {t : TypeId} (b : Blk w g t #[.int .i64 4, .int .i64 1, .int .i64 4, .int .i64 1, .int .i64 2, .int .i64 4]) (j : Nat) (hj : j < 6) : w.cell? ⟨g, j, none⟩ = some (.int .i64 (wd j : Int)) := by
  rw [b.cell]
  match j, hj with
  | 0, _ => rfl
  | 1, _ => rfl
  | 2, _ => rfl
  | 3, _ => rfl
  | 4, _ => rfl
  | 5, _ => rfl
theorem wd_small (j : Nat) : (wd j : Int) ≤ 9223372036854775807 := by
  by_cases h : j < 6
  · match j, h with
    | 0, _ => decide
    | 1, _ => decide
    | 2, _ => decide
    | 3, _ => decide
    | 4, _ => decide
    | 5, _ => decide
  · have : wd j = 0 := by unfold wd; rw [List.getD_eq_getElem?_getD, List.getElem?_eq_none (by simp; omega)]; rfl
    rw [this]; decide
/-- The fields asked for are these six numbers. -/
theorem fields_curs (code : Int) (bs : List UInt8) (a1 : Int × List UInt8 × List UInt8) (a2 : Int × List UInt8 × Bool) (a3 : Int × List UInt8 × List UInt8) (h1 : textR code bs 16 = a1) (h2 : flagR a1.1 a1.2.1 = a2) (h3 : textR a2.1 a2.2.1 32 = a3) :
    (fieldsF code bs).en = ⟨⟨a1.2.2.toArray⟩, ⟨a3.2.2.toArray⟩, a2.2.2, ⟨vals a3.1 a3.2.1 0, vals a3.1 a3.2.1 1⟩, ⟨vals a3.1 a3.2.1 2, vals a3.1 a3.2.1 3⟩, vals a3.1 a3.2.1 4, vals a3.1 a3.2.1 5⟩ ∧
    (fieldsF code bs).a7.1 = (curs a3.1 a3.2.1 6).1 ∧ (fieldsF code bs).a7.2.1 = (curs a3.1 a3.2.1 6).2 := by
  subst h3 h2 h1
  exact ⟨rfl, rfl, rfl⟩
end Go.Proofs.Ytdjondjlengapaa
