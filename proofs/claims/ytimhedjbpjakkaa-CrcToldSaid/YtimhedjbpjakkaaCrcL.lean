/- What is asked of a table of sums, in words, and what the statements' own first call gives then. No statement of the seat is proved here. -/
import Derived.Test.YtimhedjbpjakkaaCrcR
namespace Go.Proofs.Ytimhedjbpjakkaa
open Go.RowKit
attribute [local go_sem ↓] Go.wp_at_zero Go.wp_at_succ

/-- A slice of slices of bytes that is only read, the empty one too. -/
def Rows_ (w : World) (S : Nat → Prop) (pv : Value) (pss : List (List UInt8)) : Prop :=
  ∃ A c, pv = .slice A pss.length c ∧ pss.length ≤ maxLen ∧ (0 < pss.length → ∃ b off, A = some ⟨b, off, none⟩ ∧ S b ∧ b < w.heap.size ∧ ∀ j (hj : j < pss.length), ∃ x, w.cell? ⟨b, off + j, none⟩ = some x ∧ Byt w S x pss[j])
theorem Rows_.nil (w : World) (S : Nat → Prop) : Rows_ w S (.slice none 0 0) [] := ⟨none, 0, rfl, by simp [maxLen], by simp⟩
theorem Rows_.only {w w' : World} {S T : Nat → Prop} {pv : Value} {pss : List (List UInt8)} (h : Rows_ w S pv pss) (ho : Only T w w') (hn : ∀ b, S b → ¬ T b) : Rows_ w' S pv pss := by
  obtain ⟨A, c, rfl, h1, h2⟩ := h
  refine ⟨A, c, rfl, h1, fun hp => ?_⟩
  obtain ⟨b, off, rfl, hS, hb, hc⟩ := h2 hp
  refine ⟨b, off, rfl, hS, Nat.lt_of_lt_of_le hb ho.size, fun j hj => ?_⟩
  obtain ⟨x, hx, hy⟩ := hc j hj
  exact ⟨x, (ho.cell (p := ⟨b, off + j, none⟩) hb (hn _ hS)).trans hx, hy.only ho hn⟩
theorem rows_two {w : World} {S : Nat → Prop} {x y : Value} {bs cs : List UInt8} {t : TypeId} (h : Byt w S x bs) (h' : Byt w S y cs) (hS : S w.heap.size) (g : Nat) (hg : g = w.heap.size) :
    Rows_ (w.alloc (.cells #[x, y] t)) S (.slice (some ⟨g, 0, none⟩) 2 2) [bs, cs] := by
  subst hg
  refine ⟨_, 2, rfl, by simp [maxLen], fun _ => ⟨_, _, rfl, hS, by simp, fun j hj => ?_⟩⟩
  have hj0 : j = 0 ∨ j = 1 := by simp at hj; omega
  rcases hj0 with rfl | rfl
  · exact ⟨x, by simp, h.alloc _⟩
  · exact ⟨y, by simp, h'.alloc _⟩
theorem rows_one {w : World} {S : Nat → Prop} {x : Value} {bs : List UInt8} {t : TypeId} (h : Byt w S x bs) (hS : S w.heap.size) (g : Nat) (hg : g = w.heap.size) :
    Rows_ (w.alloc (.cells #[x] t)) S (.slice (some ⟨g, 0, none⟩) 1 1) [bs] := by
  subst hg
  refine ⟨_, 1, rfl, by simp [maxLen], fun _ => ⟨_, _, rfl, hS, by simp, fun j hj => ?_⟩⟩
  have hj0 : j = 0 := by simp at hj; omega
  subst hj0
  exact ⟨x, by simp, h.alloc _⟩
theorem rows_three {w : World} {S : Nat → Prop} {x y z : Value} {bs cs ds : List UInt8} {t : TypeId} (h : Byt w S x bs) (h' : Byt w S y cs) (h'' : Byt w S z ds) (hS : S w.heap.size) (g : Nat) (hg : g = w.heap.size) :
    Rows_ (w.alloc (.cells #[x, y, z] t)) S (.slice (some ⟨g, 0, none⟩) 3 3) [bs, cs, ds] := by
  subst hg
  refine ⟨_, 3, rfl, by simp [maxLen], fun _ => ⟨_, _, rfl, hS, by simp, fun j hj => ?_⟩⟩
  have hj0 : j = 0 ∨ j = 1 ∨ j = 2 := by simp at hj; omega
  rcases hj0 with rfl | rfl | rfl
  · exact ⟨x, by simp, h.alloc _⟩
  · exact ⟨y, by simp, h'.alloc _⟩
  · exact ⟨z, by simp, h''.alloc _⟩

theorem byt_lit (w : World) (bs : List UInt8) (hl : bs.length ≤ maxLen) (t : TypeId) (cs : Array Value) (hc : cs = (byts bs).toArray) (g : Nat) (hg : g = w.heap.size) (n : Nat) (hn : n = bs.length) : Byt (w.alloc (.cells cs t)) (fun k => k = g) (.slice (some ⟨g, 0, none⟩) n n) bs := by
  subst hc hg hn
  have h : (w.alloc (.cells (byts bs).toArray t)).ownsRow w.heap.size t 1 (.slice (some ⟨w.heap.size, 0, none⟩) bs.length bs.length) bs.length (byts bs) := World.ownsRow_lit (e := t) (size := 1) w (byts bs).toArray bs.length (Nat.le_refl _) hl (by simp)
  refine (Byt.of_own h).mono (fun b _ hb => ?_)
  simpa [Value.ownBlock] using hb.symm

/-- The cells of a new table. -/
noncomputable def tabZero : Array Value := match (Try.prog.info? 38).bind (·.zero) with
  | some (.agg cs) => cs
  | _ => #[]
theorem tab_zero : (Try.prog.info? 38).map (·.zero) = some (some (.agg tabZero)) := by kernel_rfl
theorem run_zero_tab (w : World) : (zeroValue 38).run Try.prog w = .ok (.agg tabZero) w := by
  have h := tab_zero
  cases hi : Try.prog.info? 38 with
  | none => rw [hi] at h; cases h
  | some i =>
    rw [hi] at h
    have hz : i.zero = some (.agg tabZero) := by simpa using h
    simp [zeroValue, typeInfo, hi, hz]

/-- What is asked of the calls of a table that lies in a block of its own. -/
structure TabC (Tb : World → Nat → Prop) : Prop where
  new : ∀ w : World, Tb (w.alloc (.cells tabZero 38)) w.heap.size
  only : ∀ {S : Nat → Prop} {w w' : World} {g : Nat}, Tb w g → Only S w w' → ¬ S g → Tb w' g
  lt : ∀ {w : World} {g : Nat}, Tb w g → g < w.heap.size
  head : ∀ {w : World} {g : Nat}, Tb w g → ∀ j A n c, w.cell? ⟨g, j, none⟩ ≠ some (.slice A n c)
  row : ∀ (g : Nat) (i : Int) (w : World), Tb w g → Calls Try.prog 10 #[.pointer (some ⟨g, 0, none⟩), .int .i64 i] w fun e w' => e = .returned (.int .u32 (crcRow i : Nat)) ∧ Tb w' g ∧ Only (one g) w w'
  sum : ∀ (g : Nat) (S : Nat → Prop) (pv : Value) (pss : List (List UInt8)) (w : World), Tb w g → Rows_ w S pv pss → (∀ b, S b → b ≠ g) → Calls Try.prog 12 #[.pointer (some ⟨g, 0, none⟩), pv] w fun e w' => e = .returned (.int .u32 (crcSum pss.flatten : Nat)) ∧ Tb w' g ∧ Only (one g) w w'
  more : ∀ (g : Nat) (S : Nat → Prop) (s : Nat) (x : Value) (bs : List UInt8) (w : World), Tb w g → s < 4294967296 → Byt w S x bs → (∀ b, S b → b ≠ g) → Calls Try.prog 14 #[.pointer (some ⟨g, 0, none⟩), .int .u32 (s : Int), x] w fun e w' => e = .returned (.int .u32 (crcMore s bs : Nat)) ∧ Tb w' g ∧ Only (one g) w w'
  join : ∀ (g a b : Nat) (n : Int) (w : World), Tb w g → a < 4294967296 → b < 4294967296 → n ≤ 9223372036854775807 → Calls Try.prog 16 #[.pointer (some ⟨g, 0, none⟩), .int .u32 (a : Int), .int .u32 (b : Int), .int .i64 n] w fun e w' => e = .returned (.int .u32 (b ^^^ cstN (8 * n.toNat) a : Nat)) ∧ Tb w' g ∧ Only (one g) w w'
  mark : ∀ (g : Nat) (S : Nat → Prop) (x : Value) (bs : List UInt8) (w : World), Tb w g → Byt w S x bs → (∀ b, S b → b ≠ g) → bs.length ≤ 1000000 → Calls Try.prog 18 #[.pointer (some ⟨g, 0, none⟩), x] w fun e w' => ∃ A n c, e = .returned (.slice A n c) ∧ w'.ownsRow w.heap.size 5 1 (.slice A n c) (crcMark bs).length (byts (crcMark bs)) ∧ Tb w' g ∧ Only (one g) w w'
  holds : ∀ (g : Nat) (S : Nat → Prop) (x : Value) (bs : List UInt8) (w : World), Tb w g → Byt w S x bs → (∀ b, S b → b ≠ g) → bs.length ≤ 1000000 → Calls Try.prog 19 #[.pointer (some ⟨g, 0, none⟩), x] w fun e w' => e = .returned (.bool (crcHolds bs)) ∧ Tb w' g ∧ Only (one g) w w'

section
variable {Tb : World → Nat → Prop} (C : TabC Tb)
include C
/-- What was there stays, but for the table, which is new. -/
theorem tab_sum {W w : World} {g : Nat} {S : Nat → Prop} {pv : Value} {pss : List (List UInt8)} (ht : Tb w g) (hp : Rows_ w S pv pss) (hS : ∀ b, S b → b ≠ g) (hg : W.heap.size ≤ g) (ho : Only none_ W w) :
    Calls Try.prog 12 #[.pointer (some ⟨g, 0, none⟩), pv] w fun e w' => e = .returned (.int .u32 (crcSum pss.flatten : Nat)) ∧ Tb w' g ∧ Only (one g) w w' ∧ Only none_ W w' :=
  (C.sum g S pv pss w ht hp hS).mono fun _ _ ⟨h1, h2, h3⟩ => ⟨h1, h2, h3, ho.trans' h3 (fun k hk e => by simp only [one] at e; omega)⟩

theorem speaks_any (w : World) : Calls Try.prog 9 #[] w fun e w' => e = .returned (.bool true) ∧ Only none_ w w' := by
  have hz := run_zero_tab
  have T0 := Lib.hid (C.new w)
  have O0 := Lib.hid ((Only.refl none_ w).alloc (.cells tabZero 38))
  have hs0 : Hid (crcSum ([] : List (List UInt8)).flatten = 0) := sum_nil
  have hs1 : Hid (crcSum [[49, 50, 51], [52, 53, 54, 55, 56, 57]].flatten = 3421780262) := by rw [Hid]; decide +kernel
  have hg : Hid (w.heap.size ≤ w.heap.size) := Nat.le_refl _
  go_enter Try.func9, Try.ntmps9
  go_wp2_with (first
    | (go_at_call 12; refine (tab_sum C (S := fun b => b ≠ w.heap.size) T0.out (Rows_.nil _ _) (fun _ h => h) hg.out O0.out).mono ?_; rintro e W1 ⟨rfl, t1, _, O1⟩; rw [hs0.out]
       have T1 := Lib.hid t1
       have O1h := Lib.hid O1
       have h1 : w.heap.size < W1.heap.size := C.lt t1
       have e1 : ∀ o : Obj, (W1.alloc o).heap.size = W1.heap.size + 1 := fun o => by simp
       have B1 := Lib.hid (byt_lit W1 [49, 50, 51] (by simp [maxLen]) 5 #[.int .u8 49, .int .u8 50, .int .u8 51] rfl W1.heap.size rfl 3 rfl)
       have B2 := Lib.hid (byt_lit (W1.alloc (.cells #[.int .u8 49, .int .u8 50, .int .u8 51] 5)) [52, 53, 54, 55, 56, 57] (by simp [maxLen]) 5 #[.int .u8 52, .int .u8 53, .int .u8 54, .int .u8 55, .int .u8 56, .int .u8 57] rfl (W1.heap.size + 1) (e1 _).symm 6 rfl)
       have B3 := Lib.hid (rows_two (t := 22) (S := fun b => b ≠ w.heap.size) ((B1.out.alloc (.cells #[.int .u8 52, .int .u8 53, .int .u8 54, .int .u8 55, .int .u8 56, .int .u8 57] 5)).mono (fun b _ h => by omega)) (B2.out.mono (fun b _ h => by omega)) (by simp; omega) (W1.heap.size + 1 + 1) (by simp))
       have T3 := Lib.hid (C.only t1 ((((Only.refl none_ W1).alloc (.cells #[.int .u8 49, .int .u8 50, .int .u8 51] 5)).alloc (.cells #[.int .u8 52, .int .u8 53, .int .u8 54, .int .u8 55, .int .u8 56, .int .u8 57] 5)).alloc
         (.cells #[.slice (some ⟨W1.heap.size, 0, none⟩) 3 3, .slice (some ⟨W1.heap.size + 1, 0, none⟩) 6 6] 22)) (fun h => h))
       clear t1 O1 T0 O0 B1 B2 h1 e1)
    | (go_at_call 12; refine (tab_sum C T3.out (by exact B3.out) (fun _ h => h) hg.out (((O1h.out.alloc _).alloc _).alloc _)).mono ?_; rintro e W2 ⟨rfl, _, _, O2⟩; rw [hs1.out]))
  go_ret
  exact ⟨rfl, O2⟩
end
end Go.Proofs.Ytimhedjbpjakkaa
