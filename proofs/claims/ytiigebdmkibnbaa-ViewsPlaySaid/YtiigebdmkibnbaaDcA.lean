/- Lists of numbers in memory: slices that are only read, slices of the call's own that begin anywhere in their block; appending to these; dice. No statement of the seat is proved here. -/
import Derived.Test.YtiigebdmkibnbaaDcM
import Derived.Test.YtiigebdmkibnbaaTbS
import Derived.Test.YtiigebdmkibnbaaChecked
namespace Go.Proofs.Ytiigebdmkibnbaa
open Go.RowKit
set_option linter.all false
set_option maxRecDepth 100000

theorem int_info : (Try.prog.info? 3).map (fun i => (i.zero, i.size, i.bytes)) = some (some (.int .i64 0), 1, 8) := by kernel_rfl

theorem own_sl {w : World} {base size n : Nat} {e : TypeId} {v : Value} {xs : List Value} (h : w.ownsRow base e size v n xs) : ∃ A n c, v = .slice A n c := by
  rcases h.2 with ⟨rfl, _⟩ | ⟨g, cap, cur, rfl, _⟩
  · exact ⟨_, _, _, rfl⟩
  · exact ⟨_, _, _, rfl⟩
/-- A slice that reads as these numbers; its cells lie in a block of which S holds. -/
def Nm (w : World) (S : Nat → Prop) (v : Value) (zs : List Int) : Prop := Cel w S v zs.length 1 (nums zs)
section
variable {P : Program} {w w' : World} {S T : Nat → Prop} {v : Value} {zs : List Int} {t e : TypeId} {i : TypeInfo} {A : Option Addr} {L c : Nat}
theorem Nm.mono (h : Nm w S v zs) (hk : ∀ b, b < w.heap.size → S b → T b) : Nm w T v zs := Cel.mono h hk
theorem Nm.only (h : Nm w S v zs) (o : Only T w w') (hn : ∀ b, S b → ¬ T b) : Nm w' S v zs := Cel.only h o hn
theorem Nm.keep (h : Nm w S v zs) (o : Only none_ w w') : Nm w' S v zs := h.only o (fun _ _ h => h)
theorem Nm.nil (w : World) (S : Nat → Prop) : Nm w S (.slice none 0 0) [] := Cel.nil w S 1
theorem Nm.shape (h : Nm w S v zs) : ∃ A c, v = .slice A zs.length c := by obtain ⟨A, c, e, _⟩ := h; exact ⟨A, c, e⟩
theorem Nm.len (h : Nm w S (.slice A L c) zs) : L = zs.length := by obtain ⟨A', c', e, _⟩ := h; injection e
/-- What is read at a place. -/
theorem nm_at (h : Nm w S (.slice A L c) zs) {j : Nat} {z : Int} (hz : zs[j]? = some z) : ∃ b off, A = some ⟨b, off, none⟩ ∧ S b ∧ b < w.heap.size ∧ w.cell? ⟨b, off + j, none⟩ = some (.int .i64 z) := by
  obtain ⟨A', c', e, _, _, _, _, h4⟩ := h
  injection e with e1 e2 e3
  subst e1
  have hj : j < zs.length := (List.getElem?_eq_some_iff.1 hz).1
  obtain ⟨b, off, rfl, hS, hb, hc⟩ := h4 (by omega)
  exact ⟨b, off, rfl, hS, hb, hc j _ (nums_at hz)⟩
theorem nm_block (h : Nm w S (.slice A L c) zs) (hp : 0 < L) : ∃ b off, A = some ⟨b, off, none⟩ ∧ S b ∧ b < w.heap.size ∧ ∀ j z, zs[j]? = some z → w.cell? ⟨b, off + j, none⟩ = some (.int .i64 z) := by
  obtain ⟨A', c', e, _, _, _, _, h4⟩ := h
  injection e with e1 e2 e3
  subst e1
  obtain ⟨b, off, rfl, hS, hb, hc⟩ := h4 (by omega)
  exact ⟨b, off, rfl, hS, hb, fun j z hz => hc j _ (nums_at hz)⟩
/-- From a place on. -/
theorem nm_lo (ht : P.underlying t = some (.slice e)) (hi : P.info? e = some i) (hz : i.size = 1) (h : Nm w S (.slice A L c) zs) (n : Nat) (hn : n ≤ L) (z : Int) (hzn : z = n) :
    ∃ A1 L1 c1, (∀ w', (Instr.sliceAt t (.slice A L c) (some (.int .i64 z)) none none).run P w' = .ok (.slice A1 L1 c1) w') ∧ Nm w S (.slice A1 L1 c1) (zs.drop n) := by
  subst hzn
  obtain ⟨A', c', he, h0, h1, h2, h3, h4⟩ := h
  injection he with e1 e2 e3
  subst e1 e2 e3
  refine ⟨if c = n then A else A.map (·.add (n * 1)), zs.length - n, c - n, fun w' => ?_, ?_⟩
  · have hc : (n : Int) ≤ (zs.length : Int) := by omega
    simp [Instr.sliceAt, Instr.slice, run_underlying ht, Instr.sliceBounds, run_sliceBound, sizeOf, typeInfo, hi, hz, hc]
  · have hl : (zs.drop n).length = zs.length - n := by simp
    refine ⟨_, c - n, by rw [hl], by simp, by rw [hl]; omega, by omega, fun hA => ?_, fun hp => ?_⟩
    · have : A = none := by
        split at hA
        · exact hA
        · cases A with
          | none => rfl
          | some a => simp at hA
      have := h3 this
      omega
    · rw [hl] at hp
      obtain ⟨b, off, rfl, hs, hlt, hc⟩ := h4 (by omega)
      rw [if_neg (by omega)]
      refine ⟨b, off + n, by simp [Addr.add], hs, hlt, fun j u hu => ?_⟩
      rw [nums_drop, List.getElem?_drop] at hu
      rw [Nat.add_assoc]
      exact hc _ _ hu
/-- Up to a place. -/
theorem nm_hi (ht : P.underlying t = some (.slice e)) (hi : P.info? e = some i) (h : Nm w S (.slice A L c) zs) (n : Nat) (hn : n ≤ L) (z : Int) (hzn : z = n) :
    ∃ A1, (∀ w', (Instr.sliceAt t (.slice A L c) none (some (.int .i64 z)) none).run P w' = .ok (.slice A1 n c) w') ∧ Nm w S (.slice A1 n c) (zs.take n) := by
  subst hzn
  obtain ⟨A', c', he, h0, h1, h2, h3, h4⟩ := h
  injection he with e1 e2 e3
  subst e1 e2 e3
  refine ⟨if c = 0 then A else A.map (·.add (0 * i.size)), fun w' => ?_, ?_⟩
  · have hc : (n : Int) ≤ (c : Int) := by omega
    simp [Instr.sliceAt, Instr.slice, run_underlying ht, Instr.sliceBounds, run_sliceBound, sizeOf, typeInfo, hi, hc]
  · have hl : (zs.take n).length = n := by simp; omega
    refine ⟨_, c, by rw [hl], by simp, by rw [hl]; omega, h2, fun hA => h3 ?_, fun hp => ?_⟩
    · split at hA
      · exact hA
      · cases A with
        | none => rfl
        | some a => simp at hA
    · rw [hl] at hp
      obtain ⟨b, off, rfl, hs, hlt, hc⟩ := h4 (by omega)
      rw [if_neg (by omega)]
      refine ⟨b, off, by simp [Addr.add], hs, hlt, fun j u hu => ?_⟩
      rw [nums_take, List.getElem?_take] at hu
      split at hu
      · exact hc _ _ hu
      · cases hu
/-- Up to a place, without room behind it. -/
theorem nm_cut (ht : P.underlying t = some (.slice e)) (hi : P.info? e = some i) (h : Nm w S (.slice A L c) zs) (n : Nat) (hn : n ≤ L) (z : Int) (hzn : z = n) :
    ∃ A1, (∀ w', (Instr.sliceAt t (.slice A L c) none (some (.int .i64 z)) (some (.int .i64 z))).run P w' = .ok (.slice A1 n n) w') ∧ Nm w S (.slice A1 n n) (zs.take n) := by
  subst hzn
  obtain ⟨A', c', he, h0, h1, h2, h3, h4⟩ := h
  injection he with e1 e2 e3
  subst e1 e2 e3
  refine ⟨if n = 0 then A else A.map (·.add (0 * i.size)), fun w' => ?_, ?_⟩
  · have hc : (n : Int) ≤ (c : Int) := by omega
    simp [Instr.sliceAt, Instr.slice, run_underlying ht, Instr.sliceBounds, run_sliceBound, sizeOf, typeInfo, hi, hc]
  · have hl : (zs.take n).length = n := by simp; omega
    refine ⟨_, n, by rw [hl], by simp, by rw [hl]; omega, by omega, fun hA => ?_, fun hp => ?_⟩
    · split at hA
      · assumption
      · cases A with
        | none => have := h3 rfl; omega
        | some a => simp at hA
    · rw [hl] at hp
      obtain ⟨b, off, rfl, hs, hlt, hc⟩ := h4 (by omega)
      rw [if_neg (by omega)]
      refine ⟨b, off, by simp [Addr.add], hs, hlt, fun j u hu => ?_⟩
      rw [nums_take, List.getElem?_take] at hu
      split at hu
      · exact hc _ _ hu
      · cases hu
end

/-- A slice of the call's own, that begins anywhere in its block. -/
def Ofs (w : World) (B : Nat) (e : TypeId) (v : Value) (zs : List Int) : Prop :=
  (v = .slice none 0 0 ∧ zs = []) ∨ ∃ g off cap cur, v = .slice (some ⟨g, off, none⟩) zs.length cap ∧ B ≤ g ∧ w.heap[g]? = some (.cells cur e (0, 0)) ∧ zs.length ≤ cap ∧ cap ≤ maxLen ∧ off + cap ≤ cur.size ∧
    ∀ j z, zs[j]? = some z → cur[off + j]? = some (.int .i64 z)
section
variable {P : Program} {w w' : World} {S T : Nat → Prop} {v : Value} {zs ys : List Int} {t e : TypeId} {i : TypeInfo} {B : Nat}
theorem Ofs.nm (h : Ofs w B e v zs) : Nm w (ownb v) v zs := by
  rcases h with ⟨rfl, rfl⟩ | ⟨g, off, cap, cur, rfl, hB, hg, h1, h2, h3, hc⟩
  · exact Nm.nil w _
  · refine ⟨_, cap, rfl, by simp, h1, h2, by simp, fun hp => ⟨g, off, rfl, by simp [ownb, Value.ownBlock], Blk.lt (t := e) hg, fun j u hu => ?_⟩⟩
    rw [cell_of_row w g _ cur e (0, 0) hg]
    simp only [nums, List.getElem?_map, Option.map_eq_some_iff] at hu
    obtain ⟨z, hz, rfl⟩ := hu
    exact hc j z hz
theorem Ofs.only (h : Ofs w B e v zs) (o : Only S w w') (hn : ∀ g, v.ownBlock = some g → ¬ S g) : Ofs w' B e v zs := by
  rcases h with h | ⟨g, off, cap, cur, rfl, hB, hg, r⟩
  · exact .inl h
  · exact .inr ⟨g, off, cap, cur, rfl, hB, (o.block g (Blk.lt (t := e) hg) (hn g (by simp [Value.ownBlock]))).trans hg, r⟩
theorem Ofs.base {B' : Nat} (h : Ofs w B e v zs) (hb : B' ≤ B) : Ofs w B' e v zs := by
  rcases h with h | ⟨g, off, cap, cur, rfl, hB, r⟩
  · exact .inl h
  · exact .inr ⟨g, off, cap, cur, rfl, by omega, r⟩
theorem Ofs.of (h : w.ownsRow B e 1 v zs.length (nums zs)) : Ofs w B e v zs := by
  rcases h.2 with ⟨rfl, h0⟩ | ⟨g, cap, cur, rfl, hb, hh, hnc, hcm, hcs, htk⟩
  · exact .inl ⟨rfl, List.eq_nil_of_length_eq_zero h0⟩
  · refine .inr ⟨g, 0, cap, cur, rfl, hb, hh, hnc, hcm, by omega, fun j z hz => ?_⟩
    have h1 := nums_at hz
    rw [← htk, List.getElem?_take] at h1
    split at h1
    · simpa using h1
    · cases h1
theorem Ofs.blk_ne {g : Nat} {t' : TypeId} {cs : Array Value} (h : Ofs w B e v zs) (hg : Blk w g t' cs) (hne : e ≠ t') : v.ownBlock ≠ some g := by
  rcases h with ⟨rfl, _⟩ | ⟨g', off, cap, cur, rfl, _, hh, _⟩
  · simp [Value.ownBlock]
  · intro he
    have : g' = g := by simpa [Value.ownBlock] using he
    subst this
    exact Blk.ne_ (t := e) hh hg hne rfl
theorem Ofs.ge (h : Ofs w B e v zs) {k : Nat} (hk : v.ownBlock = some k) : B ≤ k ∧ k < w.heap.size := by
  rcases h with ⟨rfl, _⟩ | ⟨g', off, cap, cur, rfl, hB, hh, _⟩
  · simp [Value.ownBlock] at hk
  · have : g' = k := by simpa [Value.ownBlock] using hk
    subst this
    exact ⟨hB, Blk.lt (t := e) hh⟩
/-- Without the first one. -/
theorem ofs_tail (ht : P.underlying t = some (.slice e)) (hi : P.info? e = some i) (hz : i.size = 1) {A : Option Addr} {L c : Nat} {z : Int} (h : Ofs w B e (.slice A L c) (z :: zs)) (hb : zs.length < maxLen) :
    ∃ A1 c1, (∀ w', (Instr.sliceAt t (.slice A L c) (some (.int .i64 1)) none none).run P w' = .ok (.slice A1 (L - 1) c1) w') ∧ Ofs w B e (.slice A1 (L - 1) c1) zs ∧ (∀ k, (Value.slice A1 (L - 1) c1).ownBlock = some k → (Value.slice A L c).ownBlock = some k) := by
  rcases h with ⟨_, h⟩ | ⟨g, off, cap, cur, e1, hB, hg, h1, h2, h3, hc⟩
  · cases h
  · injection e1 with e1 e2 e3
    subst e1 e2 e3
    refine ⟨some (if c = 1 then ⟨g, off, none⟩ else ⟨g, off + 1, none⟩), c - 1, fun w' => ?_, .inr ?_, fun k hk => ?_⟩
    · have hc1 : 1 ≤ (z :: zs).length := by simp
      by_cases hc2 : c = 1
      · rw [if_pos hc2]
        exact sl_lo_end ht hi g off _ c 1 hc1 hc2.symm 1 rfl w'
      · rw [if_neg hc2]
        have := sl_lo ht hi hz g off _ c 1 hc1 (by omega) 1 rfl w'
        rwa [Nat.one_mul] at this
    · have hl : (z :: zs).length - 1 = zs.length := by simp
      rw [hl]
      have hlc : zs.length + 1 ≤ c := by simpa using h1
      by_cases hc2 : c = 1
      · subst hc2
        rw [if_pos rfl]
        have : zs = [] := List.eq_nil_of_length_eq_zero (by omega)
        subst this
        exact ⟨g, off, 0, cur, rfl, hB, hg, by simp, by simp [maxLen], by omega, fun j z hz => by simp at hz⟩
      · rw [if_neg hc2]
        exact ⟨g, off + 1, c - 1, cur, rfl, hB, hg, by omega, by omega, by omega, fun j x hx => by
          have := hc (j + 1) x (by simpa using hx)
          rw [Nat.add_assoc, Nat.add_comm 1 j]
          exact this⟩
    · split at hk <;> simpa [Value.ownBlock] using hk
/-- What is read at a place of it. -/
theorem ofs_at {A : Option Addr} {L c : Nat} (h : Ofs w B e (.slice A L c) zs) {j : Nat} {z : Int} (hz : zs[j]? = some z) : ∃ b off, A = some ⟨b, off, none⟩ ∧ w.cell? ⟨b, off + j, none⟩ = some (.int .i64 z) := by
  obtain ⟨b, off, h1, _, _, h2⟩ := nm_at h.nm hz
  exact ⟨b, off, h1, h2⟩
/-- More behind it. -/
theorem run_append_ofs (w : World) (t ty e : TypeId) (i : TypeInfo) (z : Value) (ht : P.underlying t = some (.slice e)) (hi : P.info? e = some i) (hz : i.zero = some z)
    (hsize : i.size = 1) (hby : i.bytes = 8) (hzs : z.cells.size = 1) (v : Value) (xs : List Int) (hown : Ofs w B e v xs)
    (S : Nat → Prop) (X : Value) (ys : List Int) (hr : Nm w S X ys) (hl : xs.length + ys.length ≤ 1000000) (hbase : B ≤ w.heap.size) :
    ∃ v' w', (Builtin.append_ #[t, t] ty #[v, X]).run P w = .ok v' w' ∧ Ofs w' B e v' (xs ++ ys) ∧ w.grownBy w' v.ownBlock ∧ Moved w v v' := by
  obtain ⟨A, c, rfl, g0, g1, g2, g3, g4⟩ := hr
  rcases A with _ | ad
  · have hm : ys = [] := List.eq_nil_of_length_eq_zero (by have := g3 rfl; omega)
    subst hm
    refine ⟨v, w, ?_, by simpa using hown, ⟨rfl, rfl, rfl, Nat.le_refl _, fun _ _ _ => rfl⟩, Moved.refl _ _⟩
    rcases hown with ⟨rfl, _⟩ | ⟨g, off, cap, cur, rfl, _, _, hnc, _⟩
    · simp [Builtin.append_, run_underlying ht, sizeOf, typeInfo, hi, Builtin.lenOf, Builtin.firstCells]
    · simp [Builtin.append_, run_underlying ht, sizeOf, typeInfo, hi, Builtin.lenOf, Builtin.firstCells, hnc, storeCells]
  · have hcells : ∀ j u, (nums ys)[j]? = some u → w.cell? (ad.add j) = some u := by
      intro j u hu
      have hj : j < ys.length := by have := (List.getElem?_eq_some_iff.1 hu).1; simpa using this
      obtain ⟨g, off, e1, _, _, hc⟩ := g4 (by omega)
      injection e1 with e1
      subst e1
      have e2 : (⟨g, off, none⟩ : Addr).add j = ⟨g, off + j, none⟩ := by unfold Addr.add; split <;> simp_all
      rw [e2]
      exact hc j u hu
    rcases hown with ⟨rfl, rfl⟩ | ⟨g, off, cap, cur, rfl, hB, hg, hnc, hcm, hfit, hc⟩
    · obtain ⟨v', w', hrun, h5, h6, _, h7⟩ := run_append_own_at (P := P) w B t ty e i z 1 8 ht hi hz hsize hby hzs (by omega) (.slice none 0 0) 0 [] ⟨by simp, .inl ⟨rfl, rfl⟩⟩ ad ys.length c (nums ys) (by simp) hcells (nums_one ys) (by simp only [maxLen]; omega) (by omega) hbase
      refine ⟨v', w', hrun, Ofs.of (by simpa using h5), h6, fun k hk => ?_⟩
      rcases h7 with h7 | h7
      · exact .inl (h7 ▸ hk)
      · rw [h7] at hk; injection hk with hk; exact .inr (by omega)
    · by_cases hroom : xs.length + ys.length ≤ cap
      · have hcl : (nums ys).length = ys.length := by simp
        have hst := run_storeCells_at P g (off + xs.length) e (nums ys) 0 cur w hg (by simp; omega) (nums_one ys)
        have hf := run_firstCells_some (P := P) w 1 ys.length ad ys.length c (nums ys) (by simp) hcells
        simp only [Nat.add_zero] at hst
        refine ⟨.slice (some ⟨g, off, none⟩) (xs.length + ys.length) cap, w.setRow g (cur.toList.take (off + xs.length) ++ nums ys ++ cur.toList.drop (off + xs.length + (nums ys).length)).toArray, ?_, .inr ⟨g, off, cap, _, by rw [List.length_append], hB, setRow_heap w g cur _ e _ hg, by rw [List.length_append]; omega, hcm, ?_, fun j x hx => ?_⟩, ⟨rfl, rfl, rfl, by simp, fun k _ hk => setRow_other w g k _ (fun e => hk (by simp [Value.ownBlock, e]))⟩, fun k hk => .inl (by simpa [Value.ownBlock] using hk)⟩
        · simp [Builtin.append_, run_underlying ht, sizeOf, typeInfo, hi, hsize, Builtin.lenOf, hroom, hf, Addr.add_lit, hst]
        · simp; omega
        · rw [List.getElem?_toArray]
          have htk : (cur.toList.take (off + xs.length)).length = off + xs.length := by simp; omega
          by_cases hj : j < xs.length
          · rw [List.getElem?_append_left hj] at hx
            rw [List.append_assoc, List.getElem?_append_left (by omega), List.getElem?_take, if_pos (by omega)]
            simpa using hc j x hx
          · rw [List.getElem?_append_right (by omega)] at hx
            have hjy : j - xs.length < ys.length := (List.getElem?_eq_some_iff.1 hx).1
            rw [List.append_assoc, List.getElem?_append_right (by omega), htk, List.getElem?_append_left (by simp; omega), show off + j - (off + xs.length) = j - xs.length from by omega]
            exact nums_at hx
      · have holds : ∀ j u, (nums xs)[j]? = some u → w.cell? ((⟨g, off, none⟩ : Addr).add j) = some u := by
          intro j u hu
          have e2 : (⟨g, off, none⟩ : Addr).add j = ⟨g, off + j, none⟩ := by unfold Addr.add; split <;> simp_all
          rw [e2, cell_of_row w g _ cur e (0, 0) hg]
          simp only [nums, List.getElem?_map, Option.map_eq_some_iff] at hu
          obtain ⟨z, hz, rfl⟩ := hu
          exact hc j z hz
        have hr := run_append_grow (P := P) w t ty e i z ht hi hz ⟨g, off, none⟩ xs.length cap (nums xs) (by simp [hsize]) holds ad ys.length c (nums ys) (by simp [hsize]) hcells (by omega) (by omega) (growslice_fits (by omega) (by rw [hby]; omega))
        have hge := grownCap_ge w (xs.length + ys.length) cap e
        have hcm : grownCap w (xs.length + ys.length) cap e ≤ maxLen := grownCap_le_maxLen w (xs.length + ys.length) cap e (by simp only [maxLen]; omega)
        have hmv : Moved w (.slice (some ⟨g, off, none⟩) xs.length cap) (.slice (some ⟨w.heap.size, 0, none⟩) (xs.length + ys.length) (grownCap w (xs.length + ys.length) cap e)) := fun k hk => .inr (by
          have : w.heap.size = k := by simpa [Value.ownBlock] using hk
          omega)
        refine ⟨_, _, hr, .inr ⟨w.heap.size, 0, grownCap w (xs.length + ys.length) cap e, _, by rw [List.length_append], hbase, heap_alloc_new w.drew _, by rw [List.length_append]; exact hge, hcm, ?_, fun j x hx => ?_⟩, ⟨rfl, rfl, rfl, by simp, fun k hk _ => Below.heap_alloc w.drew _ k hk⟩, hmv⟩
        · simp only [Array.size_append, List.size_toArray, size_zeroCells, hzs, nums_length]
          omega
        · rw [Nat.zero_add]
          have h1 : (nums xs).toArray ++ (nums ys).toArray = (nums (xs ++ ys)).toArray := by simp [nums]
          rw [h1]
          have hj : j < (xs ++ ys).length := (List.getElem?_eq_some_iff.1 hx).1
          rw [Array.getElem?_append_left (by simpa using hj), List.getElem?_toArray]
          exact nums_at hx
end

/-- Dice: they lie in block d, from B on; v is where the numbers lie. -/
structure Dc (w : World) (B d : Nat) (v : Value) (zs : List Int) : Prop where
  bk : Blk w d 54 #[v]
  nn : Ofs w B 3 v zs
  ge : B ≤ d
  ml : zs.length ≤ 100000
/-- The blocks of dice. -/
def dcb (d : Nat) (v : Value) : Nat → Prop := fun k => k = d ∨ v.ownBlock = some k
section
variable {w w' : World} {S : Nat → Prop} {B d : Nat} {v : Value} {zs : List Int}
theorem Dc.only (h : Dc w B d v zs) (o : Only S w w') (hn : ∀ k, dcb d v k → ¬ S k) : Dc w' B d v zs :=
  ⟨h.bk.only o (hn d (.inl rfl)), h.nn.only o (fun g hg => hn g (.inr hg)), h.ge, h.ml⟩
theorem Dc.keep (h : Dc w B d v zs) (o : Only none_ w w') : Dc w' B d v zs := h.only o (fun _ _ h => h)
theorem Dc.base {B' : Nat} (h : Dc w B d v zs) (hb : B' ≤ B) : Dc w B' d v zs := ⟨h.bk, h.nn.base hb, Nat.le_trans hb h.ge, h.ml⟩
theorem Dc.foot (h : Dc w B d v zs) {k : Nat} (hk : dcb d v k) : B ≤ k ∧ k < w.heap.size := by
  rcases hk with rfl | hk
  · exact ⟨h.ge, h.bk.lt⟩
  · exact h.nn.ge hk
theorem Dc.ne (h : Dc w B d v zs) : v.ownBlock ≠ some d := h.nn.blk_ne h.bk (by decide)
end
end Go.Proofs.Ytiigebdmkibnbaa
