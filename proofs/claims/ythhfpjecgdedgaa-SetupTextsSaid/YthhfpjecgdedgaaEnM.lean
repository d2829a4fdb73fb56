/- Entries as plain values: which may be, which is newer, which are alike. No statement of the seat is proved here. -/
import Derived.Test.YthhfpjecgdedgaaStM
namespace Go.Proofs.Ythhfpjecgdedgaa
set_option maxRecDepth 100000

structure En where
  k : ByteArray
  v : ByteArray
  d : Bool
  s : St
  a : St
  p : Int
  g : Int
def enZero : En := ⟨⟨#[]⟩, ⟨#[]⟩, false, stZero, stZero, 0, 0⟩
def stEq (x y : St) : Bool := x.c == y.c && x.s == y.s
theorem stEq_iff (x y : St) : stEq x y = true ↔ x = y := by
  simp only [stEq, Bool.and_eq_true, beq_iff_eq]
  exact ⟨fun h => St.eq h.1 h.2, fun h => by subst h; exact ⟨rfl, rfl⟩⟩
def enKeyBad (e : En) : Bool := decide (e.k.size < 1) || decide (16 < e.k.size)
def enValBad (e : En) : Bool := decide (32 < e.v.size) || (e.d && decide (0 < e.v.size))
def enStBad (e : En) : Bool := !(stGood e.s && stGood e.a) || stLater e.s e.a
def enLive (e : En) : Bool := stEq e.a e.s && e.p == 0 && e.g == 0
def enCert (e : En) : Bool := decide (1 ≤ e.p) && decide (e.p ≤ 4095) && decide (0 ≤ e.g) && decide (e.g ≤ 2147483647)
def enRestBad (e : En) : Bool := !(if e.d then enCert e else enLive e)
def enCheck (e : En) : Int := if enKeyBad e = true then 9 else if enValBad e = true then 10 else if enStBad e = true then 1 else if enRestBad e = true then 1 else 0
def enNewer (x y : En) : Bool := if stEq x.s y.s = true then stLater x.a y.a else stLater x.s y.s

theorem str_empty (s : ByteArray) : (s.toList == ByteArray.toList ⟨#[]⟩) = decide (s.size = 0) := by
  rw [ByteArray.toList_eq, ByteArray.toList_eq]
  obtain ⟨⟨l⟩⟩ := s
  cases l <;> simp [ByteArray.size]
theorem str_eq {s t : ByteArray} : (s.toList == t.toList) = true ↔ s = t := by
  rw [beq_iff_eq, ByteArray.toList_eq, ByteArray.toList_eq]
  obtain ⟨⟨x⟩⟩ := s
  obtain ⟨⟨y⟩⟩ := t
  simp
def enEq (x y : En) : Bool := (x.k.toList == y.k.toList) && (x.v.toList == y.v.toList) && (x.d == y.d) && stEq x.s y.s && stEq x.a y.a && (x.p == y.p) && (x.g == y.g)
theorem enEq_iff (x y : En) : enEq x y = true ↔ x = y := by
  unfold enEq
  simp only [Bool.and_eq_true, stEq_iff, beq_iff_eq]
  constructor
  · rintro ⟨⟨⟨⟨⟨⟨h1, h2⟩, h3⟩, h4⟩, h5⟩, h6⟩, h7⟩
    have h1 := str_eq.1 (beq_iff_eq.2 h1)
    have h2 := str_eq.1 (beq_iff_eq.2 h2)
    cases x; cases y; simp_all
  · rintro rfl
    simp
theorem enEq_refl (x : En) : enEq x x = true := (enEq_iff x x).2 rfl

def enAlike (x y : En) : Bool := enEq ⟨x.k, x.v, x.d, x.s, x.a, x.p, y.g⟩ y
theorem stEq_cmp (x y : St) : stEq x y = (stCmp x y == 0) := by
  rw [Bool.eq_iff_iff, stEq_iff, beq_iff_eq, stCmp_zero]
theorem newer_cmp (x y : En) : enNewer x y = if (stCmp x.s y.s != 0) = true then decide (0 < stCmp x.s y.s) else if (stCmp x.a y.a != 0) = true then decide (0 < stCmp x.a y.a) else false := by
  have e : ∀ a b : St, stLater a b = decide (0 < stCmp a b) := fun a b => by rw [Bool.eq_iff_iff, decide_eq_true_eq, stCmp_pos]
  rw [enNewer, stEq_cmp, e, e]
  by_cases h : stCmp x.s y.s = 0
  · by_cases h2 : stCmp x.a y.a = 0
    · simp [h, h2]
    · simp [h, h2]
  · simp [h]
def enChecked (e : En) : En × Int := if enCheck e = 0 then (e, 0) else (enZero, enCheck e)
def enWake (e : En) (a : St) : En × Int := if enCheck e = 0 then (if (e.d && stGood a && stLater a e.a) = true then (⟨e.k, e.v, e.d, e.s, a, e.p, 0⟩, 0) else (enZero, 1)) else (enZero, enCheck e)
/-- The ways that Wake goes. -/
theorem wake_ways (e : En) (a : St) (z : Int) (gb lt : Bool) (r : Int) (hz : enCheck e = z) (hg : stGood a = gb) (hl : stLater a e.a = lt) (hr : stCmp a e.a = r) :
    ((z != 0) = true ∧ enWake e a = (enZero, z)) ∨
    ((z != 0) = false ∧ e.d = false ∧ enWake e a = (enZero, 1)) ∨
    ((z != 0) = false ∧ e.d = true ∧ gb = false ∧ enWake e a = (enZero, 1)) ∨
    ((z != 0) = false ∧ e.d = true ∧ gb = true ∧ lt = false ∧ decide (r ≤ 0) = true ∧ enWake e a = (enZero, 1)) ∨
    ((z != 0) = false ∧ e.d = true ∧ gb = true ∧ lt = true ∧ decide (r ≤ 0) = false ∧ enWake e a = (⟨e.k, e.v, true, e.s, a, e.p, 0⟩, 0)) := by
  have hlt : lt = decide (0 < r) := by rw [← hl, Bool.eq_iff_iff, decide_eq_true_eq, ← hr, stCmp_pos]
  unfold enWake
  rw [hz, hg, hl]
  by_cases h0 : z = 0
  · cases hd : e.d
    · simp [h0]
    · cases gb
      · simp [h0]
      · by_cases hp : 0 < r
        · have : ¬ r ≤ 0 := by omega
          simp [h0, hlt, hp, this]
        · have : r ≤ 0 := by omega
          simp [h0, hlt, hp, this]
  · simp [h0]
end Go.Proofs.Ythhfpjecgdedgaa
