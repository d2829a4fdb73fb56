/- Three lists of the call's own beside one another: bytes, rows, numbers. No statement of the seat is proved here. -/
import Derived.Test.YtbhdnhnkiibaaaaJnW
namespace Go.Proofs.Ytbhdnhnkiibaaaa
open Go.RowKit
set_option maxRecDepth 100000
set_option linter.all false

theorem owns_apart {w : World} {b b' s s' n n' : Nat} {e e' : TypeId} {v v' : Value} {xs ys : List Value} (h : w.ownsRow b e s v n xs) (h' : w.ownsRow b' e' s' v' n' ys) (hne : e ≠ e') : ∀ k, v.ownBlock = some k → v'.ownBlock ≠ some k := by
  intro k hk hk'
  rcases h.2 with ⟨rfl, _⟩ | ⟨g, cap, cur, rfl, _, hh, _⟩
  · cases hk
  · rcases h'.2 with ⟨rfl, _⟩ | ⟨g', cap', cur', rfl, _, hh', _⟩
    · cases hk'
    · have e1 : some g = some k := hk
      have e2 : some g' = some k := hk'
      injection e1 with e1
      injection e2 with e2
      subst e1
      subst e2
      rw [hh] at hh'
      injection hh' with hh'
      injection hh' with _ h2
      exact hne h2
theorem ints_info : (Try.prog.info? 3).map (fun i => (i.zero, i.size, i.bytes)) = some (some (.int .i64 0), 1, 8) := by kernel_rfl
/-- Where each record ends. -/
def endsV (ok : List (List UInt8)) : List Value := (List.range ok.length).map fun i => .int .i64 ((flatB (ok.take (i + 1))).length : Int)
theorem endsV_snoc (ok : List (List UInt8)) (b : List UInt8) : endsV (ok ++ [b]) = endsV ok ++ [.int .i64 ((flatB (ok ++ [b])).length : Int)] := by
  unfold endsV
  rw [List.length_append, List.length_cons, List.length_nil, List.range_succ, List.map_append]
  congr 1
  · refine List.map_congr_left (fun i hi => ?_)
    have h := List.mem_range.1 hi
    rw [List.take_append_of_le_length (by omega)]
  · simp [List.take_of_length_le]
theorem endsV_len (ok : List (List UInt8)) : (endsV ok).length = ok.length := by simp [endsV]
theorem endsV_at (ok : List (List UInt8)) (i : Nat) (h : i < ok.length) : (endsV ok)[i]? = some (.int .i64 ((flatB (ok.take (i + 1))).length : Int)) := by
  simp [endsV, h]

/-- The bytes, the rows, the ends. -/
structure Jc (W : World) (ob : List UInt8) (oa oe : List (List UInt8)) (vb va ve : Value) (w : World) : Prop where
  b : w.ownsRow W.heap.size 5 1 vb ob.length (byts ob)
  a : Lst w W.heap.size (fun b => b < W.heap.size) va oa
  e : w.ownsRow W.heap.size 3 1 ve oe.length (endsV oe)
  ho : Only none_ W w
section
variable {W w w' : World} {ob ob' : List UInt8} {oa oa' oe oe' : List (List UInt8)} {vb va ve vb' va' ve' : Value}
theorem Jc.keep (s : Jc W ob oa oe vb va ve w) (o : Only none_ w w') : Jc W ob oa oe vb va ve w' := ⟨owns_only s.b o (fun _ _ h => h), s.a.keep o, owns_only s.e o (fun _ _ h => h), s.ho.trans o⟩
theorem Jc.ba (s : Jc W ob oa oe vb va ve w) : ∀ k, vb.ownBlock = some k → va.ownBlock ≠ some k := by obtain ⟨xs, h, _⟩ := s.a; exact owns_apart s.b h (by decide)
theorem Jc.be (s : Jc W ob oa oe vb va ve w) : ∀ k, vb.ownBlock = some k → ve.ownBlock ≠ some k := owns_apart s.b s.e (by decide)
theorem Jc.ae (s : Jc W ob oa oe vb va ve w) : ∀ k, va.ownBlock = some k → ve.ownBlock ≠ some k := by obtain ⟨xs, h, _⟩ := s.a; exact owns_apart h s.e (by decide)
theorem Jc.bytes (s : Jc W ob oa oe vb va ve w) (b' : w'.ownsRow W.heap.size 5 1 vb' ob'.length (byts ob')) (o : Only (ownb vb) w w') : Jc W ob' oa oe vb' va ve w' :=
  ⟨b', s.a.only o (fun k hk e => s.ba k e hk) (fun b hb e => by have := (s.b.lt b e).1; omega), owns_only s.e o (fun k hk e => s.be k e hk), s.ho.trans' o (fun k hk e => by have := (s.b.lt k e).1; omega)⟩
theorem Jc.rows (s : Jc W ob oa oe vb va ve w) (a' : Lst w' W.heap.size (fun b => b < W.heap.size) va' oa') (o : Only (ownb va) w w') : Jc W ob oa' oe vb va' ve w' :=
  ⟨owns_only s.b o (fun k hk e => s.ba k hk e), a', owns_only s.e o (fun k hk e => s.ae k e hk), s.ho.trans' o (fun k hk e => by have := (s.a.own_lt k e).1; omega)⟩
theorem Jc.ends (s : Jc W ob oa oe vb va ve w) (e' : w'.ownsRow W.heap.size 3 1 ve' oe'.length (endsV oe')) (o : Only (ownb ve) w w') : Jc W ob oa oe' vb va ve' w' :=
  ⟨owns_only s.b o (fun k hk e => s.be k hk e), s.a.only o (fun k hk e => s.ae k hk e) (fun b hb e => by have := (s.e.lt b e).1; omega), e', s.ho.trans' o (fun k hk e => by have := (s.e.lt k e).1; omega)⟩
theorem Jc.cell {A : Option Addr} {n c : Nat} (s : Jc W ob oa oe vb va (.slice A n c) w) (j : Nat) (hj : j < oe.length) : ∃ g, A = some ⟨g, 0, none⟩ ∧ w.cell? ⟨g, j, none⟩ = some (.int .i64 ((flatB (oe.take (j + 1))).length : Int)) := by
  rcases s.e.2 with ⟨e1, e2⟩ | ⟨g, cap, cur, e1, _⟩
  · omega
  · injection e1 with e1 e2 e3
    subst e1
    have hc := s.e.cells (g := g) rfl j _ (endsV_at oe j hj)
    have e1 : (⟨g, 0, none⟩ : Addr).add j = ⟨g, 0 + j, none⟩ := by unfold Addr.add; split <;> simp_all
    rw [e1, Nat.zero_add] at hc
    exact ⟨g, rfl, hc⟩
theorem Jc.elen {A : Option Addr} {n c : Nat} (s : Jc W ob oa oe vb va (.slice A n c) w) : n = oe.length := own_len s.e
end
/-- The first rows of a list. -/
theorem lst_hi {w : World} {base : Nat} {T : Nat → Prop} {A : Option Addr} {L c : Nat} {pss : List (List UInt8)} (h : Lst w base T (.slice A L c) pss) (n : Nat) (hn : n ≤ pss.length) (z : Int) (hz : z = n) :
    (∀ w', (Instr.sliceAt 70 (.slice A L c) none (some (.int .i64 z)) none).run Try.prog w' = .ok (.slice A n c) w') ∧ Rows_ w (fun b => T b ∨ (Value.slice A L c).ownBlock = some b) (.slice A n c) (pss.take n) := by
  subst hz
  obtain ⟨i0, hi0, hz0, hz1, hz2⟩ : ∃ i, Try.prog.info? 71 = some i ∧ i.zero = some (.slice none 0 0) ∧ i.size = 1 ∧ i.bytes = 24 := by
    have := rows_info
    cases h : Try.prog.info? 71 with
    | none => rw [h] at this; cases this
    | some i => rw [h] at this; simp at this; exact ⟨i, rfl, this.1, this.2.1, this.2.2⟩
  have hl : (pss.take n).length = n := by rw [List.length_take]; omega
  have hR := h.rows
  obtain ⟨xs, h1, h2⟩ := h
  have hrow : ∀ (hA : ∃ g, A = some ⟨g, 0, none⟩), Rows_ w (fun b => T b ∨ (Value.slice A L c).ownBlock = some b) (.slice A n c) (pss.take n) := by
    rintro ⟨g, rfl⟩
    obtain ⟨A', c', e, hm, hc⟩ := hR
    injection e with e1 e2 e3
    subst e1 e3
    refine ⟨_, c, by rw [hl], by rw [hl]; omega, fun hp => ?_⟩
    rw [hl] at hp
    obtain ⟨b, off, e, hs, hb, hcell⟩ := hc (by omega)
    refine ⟨b, off, e, hs, hb, fun j hj => ?_⟩
    rw [hl] at hj
    obtain ⟨x, hx, hy⟩ := hcell j (by omega)
    exact ⟨x, hx, by rw [List.getElem_take]; exact hy⟩
  rcases h1.2 with ⟨e1, e2⟩ | ⟨g, cap, cur, e1, hb, hh, hnc, hcm, hcs, htk⟩
  · injection e1 with e1 e3 e4
    subst e1 e3 e4
    obtain rfl : n = 0 := by omega
    refine ⟨fun w' => ?_, none, 0, by simp, by simp [maxLen], by simp⟩
    simp [Instr.sliceAt, Instr.slice, run_underlying Try.underlying70, Instr.sliceBounds, run_sliceBound, sizeOf, typeInfo, hi0]
  · injection e1 with e1 e3 e4
    subst e1 e3 e4
    refine ⟨fun w' => ?_, hrow ⟨g, rfl⟩⟩
    have hc : (n : Int) ≤ (c : Int) := by omega
    simp [Instr.sliceAt, Instr.slice, run_underlying Try.underlying70, Instr.sliceBounds, run_sliceBound, sizeOf, typeInfo, hi0, hc, Addr.add]
end Go.Proofs.Ytbhdnhnkiibaaaa
