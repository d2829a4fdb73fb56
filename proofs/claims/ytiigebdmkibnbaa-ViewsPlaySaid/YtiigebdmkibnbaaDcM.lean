/- Dice as plain values: what is drawn, what is left; how some are drawn of a list. No statement of the seat is proved here. -/
import Derived.Test.YtiigebdmkibnbaaBase
namespace Go.Proofs.Ytiigebdmkibnbaa
open Go.RowKit
set_option linter.all false

/-- A number of 64 bits. -/
def I64 (z : Int) : Prop := -9223372036854775808 ≤ z ∧ z ≤ 9223372036854775807
def nums (zs : List Int) : List Value := zs.map (.int .i64)
@[simp] theorem nums_length (zs : List Int) : (nums zs).length = zs.length := by simp [nums]
theorem nums_append (a b : List Int) : nums (a ++ b) = nums a ++ nums b := by simp [nums]
theorem nums_one (zs : List Int) : ∀ u ∈ nums zs, u.oneCell' = true := by
  intro u hu
  simp only [nums, List.mem_map] at hu
  obtain ⟨b, _, rfl⟩ := hu
  rfl
theorem nums_at {zs : List Int} {j : Nat} {z : Int} (h : zs[j]? = some z) : (nums zs)[j]? = some (.int .i64 z) := by simp [nums, h]
theorem nums_drop (zs : List Int) (n : Nat) : nums (zs.drop n) = (nums zs).drop n := by simp [nums, List.map_drop]
theorem nums_take (zs : List Int) (n : Nat) : nums (zs.take n) = (nums zs).take n := by simp [nums, List.map_take]
theorem nums_erase (zs : List Int) (n : Nat) : nums (zs.eraseIdx n) = (nums zs).eraseIdx n := by rw [List.eraseIdx_eq_take_drop_succ, List.eraseIdx_eq_take_drop_succ, nums_append, nums_take, nums_drop]

/-- What is drawn below n, and what is left. -/
def drN (zs : List Int) (n : Int) : Int := if n < 1 then 0 else match zs with | [] => 0 | z :: _ => z % n
def drL (zs : List Int) (n : Int) : List Int := if n < 1 then zs else zs.tail
theorem drN_pos {zs : List Int} {n : Int} (h : 0 < n) : 0 ≤ drN zs n ∧ drN zs n < n := by
  unfold drN
  rw [if_neg (by omega)]
  cases zs with
  | nil => exact ⟨Int.le_refl 0, h⟩
  | cons z l => exact ⟨Int.emod_nonneg _ (by omega), Int.emod_lt_of_pos _ h⟩
theorem drN_low {zs : List Int} {n : Int} (h : n < 1) : drN zs n = 0 := by unfold drN; rw [if_pos h]
theorem drL_low {zs : List Int} {n : Int} (h : n < 1) : drL zs n = zs := by unfold drL; rw [if_pos h]
theorem drN_nil (n : Int) : drN [] n = 0 := by unfold drN; split <;> rfl
theorem drL_nil (n : Int) : drL [] n = [] := by unfold drL; split <;> rfl
theorem drN_cons {z : Int} {l : List Int} {n : Int} (h : 0 < n) : drN (z :: l) n = z % n := by unfold drN; rw [if_neg (by omega)]
theorem drL_cons {z : Int} {l : List Int} {n : Int} (h : 0 < n) : drL (z :: l) n = l := by unfold drL; rw [if_neg (by omega)]; rfl
theorem drL_len (zs : List Int) (n : Int) : (drL zs n).length ≤ zs.length := by unfold drL; split <;> simp
theorem drL_mem {zs : List Int} {n x : Int} (h : x ∈ drL zs n) : x ∈ zs := by
  unfold drL at h
  split at h
  · exact h
  · exact List.mem_of_mem_tail h
theorem drN_64 {zs : List Int} {n : Int} (hn : I64 n) : I64 (drN zs n) := by
  rcases Int.lt_or_le n 1 with h | h
  · rw [drN_low h]; exact ⟨by decide, by decide⟩
  · have := drN_pos (zs := zs) (show 0 < n by omega)
    have := hn.2
    exact ⟨by omega, by omega⟩
theorem tmod_64 {z n : Int} (hn : 0 < n) : -n < Int.tmod z n ∧ Int.tmod z n < n := by
  refine ⟨?_, Int.tmod_lt_of_pos z hn⟩
  rcases Int.lt_or_le z 0 with h | h
  · have h1 := Int.tmod_lt_of_pos (-z) hn
    rw [Int.neg_tmod] at h1
    omega
  · have h1 := Int.tmod_nonneg n h
    omega
/-- What % leaves, and what is made of it. -/
theorem tmod_neg {z n : Int} (hn : 0 < n) (h : Int.tmod z n < 0) : Int.tmod z n + n = z % n := by
  have h1 : n * Int.tdiv z n + Int.tmod z n = z := Int.mul_tdiv_add_tmod z n
  have h2 : -n < Int.tmod z n := (tmod_64 hn).1
  have h3 : z % n = (Int.tmod z n) % n := by
    conv => lhs; rw [← h1]
    rw [Int.add_comm, Int.add_mul_emod_self_left]
  rw [h3, ← Int.add_emod_right, Int.emod_eq_of_lt (by omega) (by omega)]
theorem tmod_pos {z n : Int} (hn : 0 < n) (h : ¬ Int.tmod z n < 0) : Int.tmod z n = z % n := by
  have h1 : n * Int.tdiv z n + Int.tmod z n = z := Int.mul_tdiv_add_tmod z n
  have h2 : Int.tmod z n < n := Int.tmod_lt_of_pos z hn
  have h3 : z % n = (Int.tmod z n) % n := by
    conv => lhs; rw [← h1]
    rw [Int.add_comm, Int.add_mul_emod_self_left]
  rw [h3, Int.emod_eq_of_lt (by omega) (by omega)]
theorem tmod_two {z n : Int} (hn : 0 < n) : Int.tmod (Int.tmod z n + n) n = z % n := by
  have h2 := tmod_64 (z := z) hn
  rw [Int.tmod_eq_emod_of_nonneg (by omega), Int.add_emod_right]
  have h1 : n * Int.tdiv z n + Int.tmod z n = z := Int.mul_tdiv_add_tmod z n
  conv => rhs; rw [← h1]
  rw [Int.add_comm, Int.add_mul_emod_self_left]

/-- Numbers that are left, what was drawn, what wasn't. -/
structure Sq where
  l : List Int
  out : List Int
  rest : List Int
/-- The place that is drawn. -/
def sqI (s : Sq) : Nat := (drN s.l s.rest.length).toNat
def sqStep (s : Sq) : Sq := ⟨drL s.l s.rest.length, s.out ++ [s.rest.getD (sqI s) 0], s.rest.eraseIdx (sqI s)⟩
def sqN (l of_ : List Int) : Nat → Sq
  | 0 => ⟨l, [], of_⟩
  | j + 1 => sqStep (sqN l of_ j)
/-- How many are drawn. -/
def clampK (k : Int) (n : Nat) : Nat := min k.toNat n
theorem sqI_lt {s : Sq} (h : 0 < s.rest.length) : sqI s < s.rest.length := by
  have := drN_pos (zs := s.l) (n := s.rest.length) (by omega)
  unfold sqI
  omega
theorem sqI_int {s : Sq} (h : 0 < s.rest.length) : ((sqI s : Nat) : Int) = drN s.l s.rest.length := by
  have := drN_pos (zs := s.l) (n := s.rest.length) (by omega)
  unfold sqI
  omega
theorem sq_len (l of_ : List Int) : ∀ j, j ≤ of_.length → (sqN l of_ j).out.length = j ∧ (sqN l of_ j).rest.length = of_.length - j
  | 0, _ => ⟨rfl, rfl⟩
  | j + 1, h => by
    obtain ⟨h1, h2⟩ := sq_len l of_ j (by omega)
    have h3 := sqI_lt (s := sqN l of_ j) (by omega)
    refine ⟨by simp [sqN, sqStep, h1], ?_⟩
    show ((sqN l of_ j).rest.eraseIdx _).length = _
    rw [List.length_eraseIdx_of_lt h3, h2]
    omega
theorem sq_left (l of_ : List Int) : ∀ j, (sqN l of_ j).l.length ≤ l.length
  | 0 => Nat.le_refl _
  | j + 1 => Nat.le_trans (drL_len _ _) (sq_left l of_ j)
theorem sq_mem (l of_ : List Int) : ∀ j x, x ∈ (sqN l of_ j).l → x ∈ l
  | 0, _, h => h
  | j + 1, x, h => sq_mem l of_ j x (drL_mem h)
theorem erase_count {R : List Int} {a : Nat} (h : a < R.length) (z : Int) : (R.eraseIdx a).count z + (if R[a] = z then 1 else 0) = R.count z := by
  have e : R = R.take a ++ R[a] :: R.drop (a + 1) := by rw [List.getElem_cons_drop, List.take_append_drop]
  conv => rhs; rw [e]
  rw [List.eraseIdx_eq_take_drop_succ, List.count_append, List.count_append, List.count_cons]
  simp only [beq_iff_eq]
  omega
theorem sq_count (l of_ : List Int) (z : Int) : ∀ j, j ≤ of_.length → (sqN l of_ j).out.count z + (sqN l of_ j).rest.count z = of_.count z
  | 0, _ => by simp [sqN]
  | j + 1, h => by
    have h0 := sq_count l of_ z j (by omega)
    obtain ⟨_, h2⟩ := sq_len l of_ j (by omega)
    have h3 := sqI_lt (s := sqN l of_ j) (by omega)
    have h4 := erase_count h3 z
    show ((sqN l of_ j).out ++ [(sqN l of_ j).rest.getD (sqI (sqN l of_ j)) 0]).count z + ((sqN l of_ j).rest.eraseIdx (sqI (sqN l of_ j))).count z = _
    rw [List.count_append, List.count_singleton, List.getD_eq_getElem?_getD, List.getElem?_eq_getElem h3, Option.getD_some]
    simp only [beq_iff_eq]
    omega
theorem sq_out64 (l of_ : List Int) (h : ∀ z ∈ of_, I64 z) : ∀ j, j ≤ of_.length → (∀ z ∈ (sqN l of_ j).out, I64 z) ∧ ∀ z ∈ (sqN l of_ j).rest, I64 z
  | 0, _ => ⟨fun z hz => by simp [sqN] at hz, h⟩
  | j + 1, hj => by
    obtain ⟨h1, h2⟩ := sq_out64 l of_ h j (by omega)
    obtain ⟨_, h3⟩ := sq_len l of_ j (by omega)
    have h4 := sqI_lt (s := sqN l of_ j) (by omega)
    refine ⟨fun z hz => ?_, fun z hz => h2 z (List.mem_of_mem_eraseIdx hz)⟩
    have hz' : z ∈ (sqN l of_ j).out ++ [(sqN l of_ j).rest.getD (sqI (sqN l of_ j)) 0] := hz
    rcases List.mem_append.1 hz' with h5 | h5
    · exact h1 z h5
    · rw [List.mem_singleton] at h5
      rw [h5, List.getD_eq_getElem?_getD, List.getElem?_eq_getElem h4, Option.getD_some]
      exact h2 _ (List.getElem_mem h4)
/-- The document goes on till none is there, or so many are drawn. -/
theorem clamp_le (k : Int) (n : Nat) : clampK k n ≤ n := Nat.min_le_right _ _
end Go.Proofs.Ytiigebdmkibnbaa
