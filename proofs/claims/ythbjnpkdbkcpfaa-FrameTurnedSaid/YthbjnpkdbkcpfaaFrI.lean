/- A zero codec, what Encode gives of any frame, and the example that the statements of layer 3 begin with. No statement of the seat is proved here. -/
import Derived.Test.YthbjnpkdbkcpfaaFrH
import Derived.Test.YthbjnpkdbkcpfaaPhase
namespace Go.Proofs.Ythbjnpkdbkcpfaa
open Go.RowKit

theorem codec_zero : (Try.prog.info? 42).map (·.zero) = some (some (.agg tabZero)) := by kernel_rfl
theorem run_zero_codec (w : World) : (zeroValue 42).run Try.prog w = .ok (.agg tabZero) w := by
  have h := codec_zero
  cases hi : Try.prog.info? 42 with
  | none => rw [hi] at h; cases h
  | some i =>
    rw [hi] at h
    have hz : i.zero = some (.agg tabZero) := by simpa using h
    simp [zeroValue, typeInfo, hi, hz]
def Cod : World → Nat → Prop := Tab 42
theorem Cod.new (w : World) : Cod (w.alloc (.cells tabZero 42)) w.heap.size := Tab.new _ w
theorem Cod.only {S : Nat → Prop} {w w' : World} {g : Nat} (h : Cod w g) (ho : Only S w w') (hn : ¬ S g) : Cod w' g := Tab.only h ho hn
theorem Cod.lt {w : World} {g : Nat} (h : Cod w g) : g < w.heap.size := Tab.lt h

/-- What Encode answers. -/
def EncR (w w' : World) (g : Nat) (x : Fr) (e : Ending) : Prop :=
  (frCode x = 0 → ∃ A n c, e = .returned (.tuple #[.slice A n c, .int .i64 0]) ∧ w'.ownsRow w.heap.size 5 1 (.slice A n c) (frEnc x).length (byts (frEnc x))) ∧
  (frCode x ≠ 0 → e = .returned (.tuple #[.slice none 0 0, .int .i64 (frCode x)])) ∧ Cod w' g ∧ Only (one g) w w'
theorem encode_any (g : Nat) (x : Fr) (v : Value) (S : Nat → Prop) (w : World) (ht : Cod w g) (hx : FrV w S v x) (hS : ∀ b, S b → b < w.heap.size) :
    Calls Try.prog 9 #[.pointer (some ⟨g, 0, none⟩), v] w fun e w' => EncR w w' g x e := by
  by_cases hc : frCode x = 0
  · obtain ⟨A, c, rfl, hb⟩ := hx
    obtain ⟨⟨a1, _⟩, ⟨b1, _⟩, ⟨c1, _⟩, _⟩ := code_ok hc
    rcases x with ⟨f, t, k, bs⟩
    simp only at a1 b1 c1 hb
    obtain ⟨f', rfl⟩ : ∃ f' : Nat, f = f' := ⟨f.toNat, by omega⟩
    obtain ⟨t', rfl⟩ : ∃ t' : Nat, t = t' := ⟨t.toNat, by omega⟩
    obtain ⟨k', rfl⟩ : ∃ k' : Nat, k = k' := ⟨k.toNat, by omega⟩
    refine (encode_ok g f' t' k' bs A c S w ht hb hS hc).mono ?_
    rintro e w' ⟨A', n', c', rfl, h1, h2, h3⟩
    exact ⟨fun _ => ⟨_, _, _, rfl, h1⟩, fun h => absurd hc h, h2, h3⟩
  · refine (encode_no g x v S w ht hx hc).mono ?_
    rintro e w' ⟨rfl, h1, h2⟩
    exact ⟨fun h => absurd h hc, fun _ => rfl, h1, h2.of_none⟩

theorem byt_new (w : World) (bs : List UInt8) (hl : bs.length ≤ maxLen) (t : TypeId) (cs : Array Value) (hc : cs = (byts bs).toArray) (n : Nat) (hn : n = bs.length) : Byt (w.alloc (.cells cs t)) (fun k => k = w.heap.size) (.slice (some ⟨w.heap.size, 0, none⟩) n n) bs := by
  subst hc hn
  have h : (w.alloc (.cells (byts bs).toArray t)).ownsRow w.heap.size t 1 (.slice (some ⟨w.heap.size, 0, none⟩) bs.length bs.length) bs.length (byts bs) := World.ownsRow_lit (e := t) (size := 1) w (byts bs).toArray bs.length (Nat.le_refl _) hl (by simp)
  refine (Byt.of_own h).mono (fun b _ hb => ?_)
  simpa [Value.ownBlock] using hb.symm

set_option maxRecDepth 100000 in
set_option maxHeartbeats 1600000 in
theorem speaks_any (w : World) : Calls Try.prog 7 #[] w fun e w' => e = .returned (.bool true) ∧ Only none_ w w' := by
  have hz := run_zero_codec
  have O0 := Lib.hid (((Only.refl none_ w).alloc (.cells tabZero 42)).alloc (.cells #[.int .u8 7] 5))
  have C0 : Hid (Cod ((w.alloc (.cells tabZero 42)).alloc (.cells #[.int .u8 7] 5)) w.heap.size) := (Cod.new w).only (S := none_) ((Only.refl _ _).alloc _) (fun h => h)
  have B0 : Hid (FrV ((w.alloc (.cells tabZero 42)).alloc (.cells #[.int .u8 7] 5)) (fun k => k = w.heap.size + 1) (.agg #[.int .i64 1, .int .i64 2, .int .i64 3, .slice (some ⟨w.heap.size + 1, 0, none⟩) 1 1]) ⟨1, 2, 3, [7]⟩) := by
    have := byt_new (w.alloc (.cells tabZero 42)) [7] (by simp [maxLen]) 5 #[.int .u8 7] rfl 1 rfl
    rw [World.size_alloc] at this
    exact ⟨_, _, rfl, this⟩
  have hc : frCode ⟨1, 2, 3, [7]⟩ = 0 := by decide
  have he : Hid (frEnc ⟨1, 2, 3, [7]⟩ = crcMark [1, 2, 3, 1, 0, 7]) := rfl
  have hcH := Lib.hid hc
  have hml : ([1, 2, 3, 1, 0, 7] : List UInt8).length ≤ 1000000 := by decide
  clear hc
  go_enter Try.func7, Try.ntmps7
  go_wp2_with (first
    | (go_at_call 9; refine (encode_any w.heap.size ⟨1, 2, 3, [7]⟩ _ _ _ C0.out B0.out (fun b hb => by simp; omega)).mono ?_
       rintro e w1 ⟨h1, _, t1, o1⟩
       obtain ⟨A1, n1, c1, rfl, own1⟩ := h1 hcH.out
       rw [he.out] at own1
       have N1 := Lib.hid own1
       have B1 := Lib.hid (Byt.of_own own1)
       have O1 : Hid (Only none_ w w1) := O0.out.trans' o1 (fun k hk e => by simp only [one] at e; omega)
       clear h1 t1 o1 own1))
  have k0 := run_bytes_string w1.drew _ _ _ B1.out.drew
  have B2 := Lib.hid (byt_new w1 [1, 2, 3, 1, 0, 7] (by simp [maxLen]) 5 #[.int .u8 1, .int .u8 2, .int .u8 3, .int .u8 1, .int .u8 0, .int .u8 7] rfl 6 rfl).drew
  have P2 := Lib.hid ((Only.refl none_ w1).alloc (.cells #[.int .u8 1, .int .u8 2, .int .u8 3, .int .u8 1, .int .u8 0, .int .u8 7] 5)).drew
  have k1 := run_bytes_string (w1.alloc (.cells #[.int .u8 1, .int .u8 2, .int .u8 3, .int .u8 1, .int .u8 0, .int .u8 7] 5)).drew _ _ _ (B1.out.only P2.out (fun _ _ h => h))
  go_region_held3 (fun w' => (convert 22 9 (.slice A1 n1 c1)).run Try.prog w' = .ok (.string ⟨(crcMark [1, 2, 3, 1, 0, 7]).toArray⟩) w')
    (first | with_reducible exact k0 | with_reducible exact k1 | with_reducible exact ⟨k3, k2⟩)
    (first
      | (go_at_call 18; refine (refMark_any _ _ _ _ B2.out hml).mono ?_; rintro e w2 ⟨A2, n2, c2, rfl, hm2, o2⟩
         have O2 := P2.out.trans o2
         have k2 := run_bytes_string w2 _ _ _ (Byt.of_own hm2)
         have k3 := run_bytes_string w2 _ _ _ (B1.out.only O2 (fun _ _ h => h))
         clear hm2 o2
         have eK := shut_more (fun w' => (convert 22 9 (.slice A1 n1 c1)).run Try.prog w' = .ok (.string ⟨(crcMark [1, 2, 3, 1, 0, 7]).toArray⟩) w' ∧ (convert 22 9 (.slice A2 n2 c2)).run Try.prog w' = .ok (.string ⟨(crcMark [1, 2, 3, 1, 0, 7]).toArray⟩) w') (fun _ h => h.1) ‹Shut _›
         simp only [eK] at *
         clear eK))
  all_goals
    go_wp2_with fail
    go_ret
    exact ⟨rfl, O1.out.trans O2⟩
end Go.Proofs.Ythbjnpkdbkcpfaa
