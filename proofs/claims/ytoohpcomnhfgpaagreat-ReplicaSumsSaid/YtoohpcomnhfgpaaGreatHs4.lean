/- Texts of mine, one behind the other: Mq, StC, Sl, App, TbA, TbS, TbBe, Opn. No statement of the seat is proved here. -/
import Derived.Test.YtoohpcomnhfgpaaGreatHs3
import Derived.Test.YtoohpcomnhfgpaaGreatHs1
import Derived.Laws.LoneSync
import Derived.Lib.AppendZerosOnto
import Derived.Lib.Overlaps
import Derived.Laws.CopyRow
import Derived.Laws.Externs
import Derived.Test.YtoohpcomnhfgpaaGreatHs2
import Derived.Deep.RegionLaw
import Derived.Test.YtoohpcomnhfgpaaGreatRows
import Derived.ProofKit
import Derived.OpenShut
import Derived.ShutString
import Derived.ChangeOld
import Derived.Deep.Slices
import Derived.Deep.Fields
import Derived.Lib.SmallJoins
section
namespace Go.Proofs.YtoohpcomnhfgpaaGreat
open Go.RowKit Go.ChangeMaps Go.MapKept
set_option linter.all false
def kEnt (k : ByteArray) : Value × Value := (.string k, .agg #[])
def Mq (w : World) (b : Nat) (l : List ByteArray) : Prop :=
  ∃ es clock, w.heap[b]? = some (.map es clock) ∧ (es.toList.map fun e => (e.key, e.val)).Perm (l.map kEnt) ∧ (∀ k ∈ l, k.size ≤ maxLen) ∧ Stamped es clock
section
variable {P : Program} {t k e : TypeId} {w w' : World} {b : Nat} {l : List ByteArray}
theorem Mq.lt (h : Mq w b l) : b < w.heap.size := by
  obtain ⟨es, clock, hb, _⟩ := h
  exact (Array.getElem?_eq_some_iff.1 hb).1
theorem Mq.only {S : Nat → Prop} (h : Mq w b l) (o : Only S w w') (hn : ¬ S b) : Mq w' b l := by
  have hlt := h.lt
  obtain ⟨es, clock, hb, r⟩ := h
  exact ⟨es, clock, (o.block b hlt hn).trans hb, r⟩
theorem Mq.made (w : World) : Mq (w.alloc (.map #[] 0)) w.heap.size [] := ⟨#[], 0, (MapKept.heap_alloc w _).1, by simp, by simp, stamped_empty 0⟩
theorem Mq.perm {l' : List ByteArray} (h : Mq w b l) (hp : l.Perm l') : Mq w b l' := by
  obtain ⟨es, clock, hb, h1, h2, h4⟩ := h
  exact ⟨es, clock, hb, h1.trans (hp.map kEnt), fun m hm => h2 m (hp.mem_iff.2 hm), h4⟩
theorem mq_keys (hk : P.underlying k = some .string) {es : Array MapEntry} (h1 : (es.toList.map fun e => (e.key, e.val)).Perm (l.map kEnt)) (h2 : ∀ m ∈ l, m.size ≤ maxLen) : ∀ x ∈ es.toList, ∃ q, keyOf P k x.key = some q := by
  intro x hx
  have hm : (x.key, x.val) ∈ l.map kEnt := h1.mem_iff.1 (List.mem_map.2 ⟨x, hx, rfl⟩)
  obtain ⟨m, hml, e⟩ := List.mem_map.1 hm
  have e1 : x.key = .string m := by injection e with e _; exact e.symm
  exact ⟨_, by rw [e1]; exact Go.WideMaps.keyOf_string_mk hk (h2 m hml)⟩
theorem mq_find (hk : P.underlying k = some .string) {es : Array MapEntry} (h1 : (es.toList.map fun e => (e.key, e.val)).Perm (l.map kEnt)) (h2 : ∀ m ∈ l, m.size ≤ maxLen) (x : ByteArray) (hx : x.size ≤ maxLen) (w : World) :
    ((Instr.findKey k (.string x) es.toList).run P w = .ok none w ∧ x ∉ l) ∨
    ∃ j e0, (Instr.findKey k (.string x) es.toList).run P w = .ok (some (j, e0.val)) w ∧ es.toList[j]? = some e0 ∧ x ∈ l ∧ (e0.key, e0.val) = kEnt x := by
  rcases (Maps.string_keyed hk).find w (Go.WideMaps.keyOf_string_mk hk hx) es.toList (mq_keys hk h1 h2) with ⟨g1, g2⟩ | ⟨j, e0, g1, g2, g3⟩
  · refine .inl ⟨g1, fun hm => ?_⟩
    have : kEnt x ∈ es.toList.map fun e => (e.key, e.val) := h1.mem_iff.2 (List.mem_map.2 ⟨x, hm, rfl⟩)
    obtain ⟨y, hy, ey⟩ := List.mem_map.1 this
    refine g2 y hy ?_
    injection ey
  · have hm : (e0.key, e0.val) ∈ l.map kEnt := h1.mem_iff.1 (List.mem_map.2 ⟨e0, List.mem_of_getElem? g2, rfl⟩)
    obtain ⟨m, hml, e⟩ := List.mem_map.1 hm
    have e2 : e0.key = .string m := by injection e with e _; exact e.symm
    have e3 : m = x := by rw [g3] at e2; injection e2 with e2; exact e2.symm
    subst e3
    exact .inr ⟨j, e0, g1, g2, hml, e.symm⟩
theorem mq_look (hk : P.underlying k = some .string) (ht : P.underlying t = some (.map k e)) (hz : (zeroValue e).run P w = .ok (.agg #[]) w) (h : Mq w b l) {x : ByteArray} (hx : x.size ≤ maxLen) :
    (Instr.lookup t (.map (some b)) (.string x) true).run P w = .ok (.tuple #[.agg #[], .bool (hasK l x)]) w := by
  obtain ⟨es, clock, hb, h1, h2, h4⟩ := h
  rcases mq_find hk h1 h2 x hx w with ⟨g1, g2⟩ | ⟨j, e0, g1, _, g3, g5⟩
  · have : hasK l x = false := by cases e : hasK l x with
      | false => rfl
      | true => exact absurd ((hasK_iff l x).1 e) g2
    rw [this]
    simp [Instr.lookup, run_underlying ht, MapKept.run_getObj_map hb, (Maps.string_keyed hk).check w _ (Go.WideMaps.keyOf_string_mk hk hx), g1, hz, Result.andThen]
  · rw [(hasK_iff l x).2 g3]
    have e1 : e0.val = .agg #[] := by injection g5
    simp [Instr.lookup, run_underlying ht, MapKept.run_getObj_map hb, (Maps.string_keyed hk).check w _ (Go.WideMaps.keyOf_string_mk hk hx), g1, Result.andThen, e1]
theorem mq_put (hk : P.underlying k = some .string) (ht : P.underlying t = some (.map k e)) (h : Mq w b l) (hr : RisK l) (x : ByteArray) (hx : x.size ≤ maxLen) :
    ∃ w', (Instr.mapUpdate t (.map (some b)) (.string x) (.agg #[])).run P w = .ok () w' ∧ Mq w' b (withK x l) ∧ Only (one b) w w' := by
  have hlt := h.lt
  obtain ⟨es, clock, hb, h1, h2, h4⟩ := h
  have h3 : ∀ y ∈ withK x l, y.size ≤ maxLen := fun y hy => by
    rcases (mem_withK x y l).1 hy with rfl | hy
    · exact hx
    · exact h2 y hy
  rcases mq_find hk h1 h2 x hx w with ⟨g1, g2⟩ | ⟨j, e0, g1, g2, g3, g5⟩
  · refine ⟨setBlock w b (.map (es.push ⟨.string x, .agg #[], clock⟩) (clock + 1)), ?_, ⟨_, _, heap_setBlock_same hb _, ?_, h3, stamped_push h4 (fun y hy e => ?_)⟩, only_block hlt _⟩
    · simp [Instr.mapUpdate, run_underlying ht, MapKept.run_getObj_map hb, (Maps.string_keyed hk).check w false (Go.WideMaps.keyOf_string_mk hk hx), g1, MapKept.run_setObj_map _ hb, Result.andThen, setBlock]
    · rw [Array.toList_push, List.map_append, List.map_singleton]
      have p1 : ((l.map kEnt) ++ [kEnt x]).Perm ((withK x l).map kEnt) := by
        have := (withK_out g2).symm.map kEnt
        rw [List.map_cons] at this
        exact (List.perm_append_singleton _ _).trans this
      exact (h1.append_right _).trans p1
    · have hm : (y.key, y.val) ∈ l.map kEnt := h1.mem_iff.1 (List.mem_map.2 ⟨y, hy, rfl⟩)
      obtain ⟨m, hml, em⟩ := List.mem_map.1 hm
      have e1 : y.key = .string m := by injection em with em _; exact em.symm
      rw [e1] at e
      injection e with e
      exact g2 (e ▸ hml)
  · have ek : e0.key = .string x := by injection g5
    have ev : e0.val = .agg #[] := by injection g5
    have hj : es[j]? = some e0 := by rw [← Array.getElem?_toList]; exact g2
    have e1 : es.modify j (fun e => { e with key := .string x, val := .agg #[] }) = es := by
      refine Array.ext_getElem? fun i => ?_
      rw [Array.getElem?_modify]
      split
      · next e =>
        subst e
        rw [hj]
        obtain ⟨a, b', c⟩ := e0
        cases ek; cases ev; rfl
      · rfl
    refine ⟨setBlock w b (.map (es.modify j fun e => { e with key := .string x, val := .agg #[] }) clock), ?_, ⟨_, _, heap_setBlock_same hb _, ?_, h3, by rw [e1]; exact h4⟩, only_block hlt _⟩
    · have hst := (Maps.string_keyed hk).stays w (Go.WideMaps.keyOf_string_mk hk hx)
      simp [Instr.mapUpdate, run_underlying ht, MapKept.run_getObj_map hb, (Maps.string_keyed hk).check w false (Go.WideMaps.keyOf_string_mk hk hx), g1, MapKept.run_setObj_map _ hb, Result.andThen, setBlock, hj, ek, hst]
    · rw [withK_in hr g3]
      rw [e1]; exact h1
end
end Go.Proofs.YtoohpcomnhfgpaaGreat
end
section
namespace Go.Proofs.YtoohpcomnhfgpaaGreat
open Go.RowKit
set_option maxRecDepth 100000
theorem load64 (a : Addr) (n : Int) (w : World) (hc : w.cell? a = some (.int .i64 n)) :
    Calls Tryz.prog 105 #[.pointer (some a)] w fun e w' => e = .returned (.int .i64 n) ∧ w = w' := by
  have hl := run_call_load (P := Tryz.prog) Tryz.func164 (by kernel_rfl) (by kernel_rfl) (by kernel_rfl) .i64 (by kernel_rfl) hc
  go_enter Tryz.func105, Tryz.ntmps105
  go_wp2
  go_ret
  exact ⟨rfl, rfl⟩
theorem store64 (a : Addr) (n : Int) (x : Value) (w : World) (hc : w.cell? a = some x) (hz : w.frozen? a = false) :
    Calls Tryz.prog 173 #[.pointer (some a), .int .i64 n] w fun e w' => e = .returned (.tuple #[]) ∧ w' = w.setCell a (.int .i64 n) := by
  have hst := run_call_store (P := Tryz.prog) Tryz.func218 (by kernel_rfl) (by kernel_rfl) (by kernel_rfl) (by kernel_rfl) (k := .i64) (y := n) hc hz
  go_enter Tryz.func173, Tryz.ntmps173
  go_wp2
  go_end0
  exact ⟨rfl, rfl⟩
theorem cas64 (a : Addr) (n m : Int) (w : World) (hc : w.cell? a = some (.int .i64 n)) (hz : w.frozen? a = false) :
    Calls Tryz.prog 193 #[.pointer (some a), .int .i64 n, .int .i64 m] w fun e w' => e = .returned (.bool true) ∧ w' = w.setCell a (.int .i64 m) := by
  have hst := run_call_cas_hit (P := Tryz.prog) Tryz.func231 (by kernel_rfl) (by kernel_rfl) (by kernel_rfl) .i64 (by kernel_rfl) (y := m) hc hz
  go_enter Tryz.func193, Tryz.ntmps193
  go_wp2
  go_ret
  exact ⟨rfl, rfl⟩
def Clk (w : World) (g : Nat) (s n : Int) : Prop := Blk w g 187 #[.int .i64 s, .int .i64 n]
section
variable {w w' : World} {g : Nat} {s n : Int}
theorem Clk.site (h : Clk w g s n) : w.cell? ⟨g, 0, none⟩ = some (.int .i64 s) := Blk.cell_ (t := 187) h rfl
theorem Clk.count (h : Clk w g s n) : w.cell? ⟨g, 1, none⟩ = some (.int .i64 n) := Blk.cell_ (t := 187) h rfl
theorem Clk.free (h : Clk w g s n) (i : Nat) : w.frozen? ⟨g, i, none⟩ = false := Blk.frozen (t := 187) h i
theorem Clk.lt (h : Clk w g s n) : g < w.heap.size := Blk.lt (t := 187) h
theorem Clk.only {S : Nat → Prop} (h : Clk w g s n) (ho : Only S w w') (hn : ¬ S g) : Clk w' g s n := Blk.only (t := 187) h ho hn
theorem Clk.set_ (h : Clk w g s n) (m : Int) : Clk (w.setCell ⟨g, 1, none⟩ (.int .i64 m)) g s m := by
  have := Blk.set_ (t := 187) h 1 (.int .i64 m)
  unfold Clk
  simpa using this
theorem Clk.alloc (h : Clk w g s n) (o : Obj) : Clk (w.alloc o) g s n := Blk.alloc (t := 187) h o
end
theorem clk_now (g : Nat) (s n : Int) (w : World) (h : Clk w g s n) :
    Calls Tryz.prog 58 #[.pointer (some ⟨g, 0, none⟩)] w fun e w' => e = .returned (.int .i64 n) ∧ w = w' := by
  have h0 := h.site
  have h1 := h.count
  have H := Lib.hid h
  clear h
  go_enter Tryz.func58, Tryz.ntmps58
  go_wp2_with (go_at_call 105; refine (load64 _ n _ h1).mono ?_; rintro e w' ⟨rfl, rfl⟩)
  go_ret
  exact ⟨rfl, rfl⟩
theorem clk_site (g : Nat) (s n : Int) (w : World) (h : Clk w g s n) :
    Calls Tryz.prog 75 #[.pointer (some ⟨g, 0, none⟩)] w fun e w' => e = .returned (.int .i64 s) ∧ w = w' := by
  have h0 := h.site
  have H := Lib.hid h
  clear h
  go_enter Tryz.func75, Tryz.ntmps75
  go_wp2
  go_ret
  exact ⟨rfl, rfl⟩
theorem clk_move (g : Nat) (s n m : Int) (w : World) (h : Clk w g s n) :
    Calls Tryz.prog 144 #[.pointer (some ⟨g, 0, none⟩), .int .i64 n, .int .i64 m] w fun e w' => e = .returned (.bool true) ∧ w' = w.setCell ⟨g, 1, none⟩ (.int .i64 m) := by
  have h0 := h.site
  have h1 := h.count
  have h2 := h.free 1
  have H := Lib.hid h
  clear h
  go_enter Tryz.func144, Tryz.ntmps144
  go_wp2_with (go_at_call 193; refine (cas64 _ n m _ h1 h2).mono ?_; rintro e w' ⟨rfl, rfl⟩)
  go_ret
  exact ⟨rfl, rfl⟩
theorem clk_new (s n : Int) (w : World) (hs : stSite s = true) (h0 : 0 ≤ n) (h1 : n ≤ 4294967295) :
    Calls Tryz.prog 111 #[.int .i64 s, .int .i64 n] w fun e w' => e = .returned (.tuple #[.pointer (some ⟨w.heap.size, 0, none⟩), .int .i64 0]) ∧ Clk w' w.heap.size s n ∧ Only none_ w w' := by
  have HS := Lib.hid hs
  have HC := Lib.hid (Blk.new w 187 #[.int .i64 s, .int .i64 n])
  have O := Lib.hid ((Only.refl none_ w).alloc (.cells #[.int .i64 s, .int .i64 n] 187))
  clear hs
  go_enter Tryz.func111, Tryz.ntmps111
  go_wp2_with (first
    | (go_at_call 172; refine (st_isSite _ _).mono ?_; rintro e w' ⟨rfl, rfl⟩; rw [HS.out])
    | (go_at_call 173; refine (store64 _ n (.int .i64 0) _ (by simp) (by simp)).mono ?_; rintro e w' ⟨rfl, rfl⟩))
  go_ret2
  exact ⟨rfl, HC.out, O.out⟩
end Go.Proofs.YtoohpcomnhfgpaaGreat
end
section
namespace Go.Proofs.YtoohpcomnhfgpaaGreat
open Go.RowKit
def Cel (w : World) (S : Nat → Prop) (v : Value) (n k : Nat) (cs : List Value) : Prop :=
  ∃ A c, v = .slice A n c ∧ cs.length = n * k ∧ n ≤ c ∧ c ≤ maxLen ∧ (A = none → c = 0) ∧
    (0 < n → ∃ b off, A = some ⟨b, off, none⟩ ∧ S b ∧ b < w.heap.size ∧ ∀ j u, cs[j]? = some u → w.cell? ⟨b, off + j, none⟩ = some u)
section
variable {w w' : World} {S T : Nat → Prop} {v : Value} {n k : Nat} {cs : List Value}
theorem Cel.mono (h : Cel w S v n k cs) (hk : ∀ b, b < w.heap.size → S b → T b) : Cel w T v n k cs := by
  obtain ⟨A, c, rfl, h0, h1, h2, h3, h4⟩ := h
  refine ⟨A, c, rfl, h0, h1, h2, h3, fun hp => ?_⟩
  obtain ⟨b, off, rfl, hs, hlt, hc⟩ := h4 hp
  exact ⟨b, off, rfl, hk b hlt hs, hlt, hc⟩
theorem Cel.only (h : Cel w S v n k cs) (ho : Only T w w') (hn : ∀ b, S b → ¬ T b) : Cel w' S v n k cs := by
  obtain ⟨A, c, rfl, h0, h1, h2, h3, h4⟩ := h
  refine ⟨A, c, rfl, h0, h1, h2, h3, fun hp => ?_⟩
  obtain ⟨b, off, rfl, hs, hlt, hc⟩ := h4 hp
  exact ⟨b, off, rfl, hs, Nat.lt_of_lt_of_le hlt ho.size, fun j u hu => (ho.cell (p := ⟨b, off + j, none⟩) hlt (hn _ hs)).trans (hc j u hu)⟩
theorem Cel.drew (h : Cel w S v n k cs) : Cel w.drew S v n k cs := h
theorem Cel.drewN (h : Cel w S v n k cs) (m : Nat) : Cel (w.drewN m) S v n k cs := h
theorem Cel.alloc (h : Cel w S v n k cs) (o : Obj) : Cel (w.alloc o) S v n k cs := h.only ((Only.refl none_ w).alloc o) fun _ _ x => x
theorem Cel.nil (w : World) (S : Nat → Prop) (k : Nat) : Cel w S (.slice none 0 0) 0 k [] := ⟨none, 0, rfl, by simp, by simp, by simp [maxLen], fun _ => rfl, by simp⟩
theorem Cel.of_own {base : Nat} {e : TypeId} (h : w.ownsRow base e k v n cs) : Cel w (ownb v) v n k cs := by
  have hl : cs.length = n * k := by have := h.1; simpa using this
  rcases h.2 with ⟨hv, hn⟩ | ⟨g, cap, cur, hv, hb, hh, hnc, hcm, hcs, ht⟩
  · subst hn hv
    exact ⟨none, 0, rfl, hl, by simp, by simp [maxLen], fun _ => rfl, by simp⟩
  · subst hv
    refine ⟨_, cap, rfl, hl, hnc, hcm, by simp, fun hp => ⟨g, 0, rfl, by simp [ownb, Value.ownBlock], Blk.lt (t := e) hh, fun j u hu => ?_⟩⟩
    have e1 : (⟨g, 0, none⟩ : Addr).add j = ⟨g, 0 + j, none⟩ := by unfold Addr.add; split <;> simp_all
    have := h.cells (g := g) (by simp [Value.ownBlock]) j u hu
    rw [← e1]
    exact this
end
end Go.Proofs.YtoohpcomnhfgpaaGreat
end
section
namespace Go.Proofs.YtoohpcomnhfgpaaGreat
open Go.RowKit
section
variable {P : Program} (w : World)
theorem run_append_cel (base : Nat) (t ty e : TypeId) (i : TypeInfo) (z : Value) (size bytes : Nat) (ht : P.underlying t = some (.slice e)) (hi : P.info? e = some i) (hz : i.zero = some z)
    (hsize : i.size = size) (hby : i.bytes = bytes) (hzs : z.cells.size = size) (hsz : 0 < size) (v : Value) (n : Nat) (xs : List Value) (hown : w.ownsRow base e size v n xs)
    (S : Nat → Prop) (A : Value) (m : Nat) (ys : List Value) (hr : Cel w S A m size ys) (h1 : ∀ u ∈ ys, u.oneCell' = true) (h63 : n + m ≤ maxLen) (hbytes : (n + m) * bytes ≤ 140737488355328) (hbase : base ≤ w.heap.size) :
    ∃ v' w', (Builtin.append_ #[t, t] ty #[v, A]).run P w = .ok v' w' ∧ w'.ownsRow base e size v' (n + m) (xs ++ ys) ∧ w.grownBy w' v.ownBlock ∧ Moved w v v' := by
  obtain ⟨B, c, rfl, g0, g1, g2, g3, g4⟩ := hr
  rcases B with _ | ad
  · have hm : m = 0 := by have := g3 rfl; omega
    subst hm
    have hy : ys = [] := List.eq_nil_of_length_eq_zero (by omega)
    subst hy
    refine ⟨v, w, ?_, by simpa using hown, ⟨rfl, rfl, rfl, Nat.le_refl _, fun _ _ _ => rfl⟩, Moved.refl _ _⟩
    rcases hown.2 with ⟨rfl, _⟩ | ⟨g, cap, cur, rfl, _, _, hnc, _⟩
    · simp [Builtin.append_, run_underlying ht, sizeOf, typeInfo, hi, Builtin.lenOf, Builtin.firstCells]
    · simp [Builtin.append_, run_underlying ht, sizeOf, typeInfo, hi, Builtin.lenOf, Builtin.firstCells, hnc, storeCells]
  · have hcells : ∀ j u, ys[j]? = some u → w.cell? (ad.add j) = some u := by
      intro j u hu
      have hj : j < ys.length := (List.getElem?_eq_some_iff.1 hu).1
      have hm : 0 < m := by
        rcases Nat.eq_zero_or_pos m with h | h
        · subst h; rw [g0] at hj; omega
        · exact h
      obtain ⟨g, off, e1, _, _, hc⟩ := g4 hm
      injection e1 with e1
      subst e1
      have e2 : (⟨g, off, none⟩ : Addr).add j = ⟨g, off + j, none⟩ := by unfold Addr.add; split <;> simp_all
      rw [e2]
      exact hc j u hu
    obtain ⟨v', w', hrun, h5, h6, _, h7⟩ := run_append_own_at (P := P) w base t ty e i z size bytes ht hi hz hsize hby hzs hsz v n xs hown ad m c ys g0 hcells h1 h63 hbytes hbase
    refine ⟨v', w', hrun, h5, h6, fun k hk => ?_⟩
    rcases h7 with h7 | h7
    · exact .inl (h7 ▸ hk)
    · rw [h7] at hk; injection hk with hk; exact .inr (by omega)
theorem wp_append_cel {o : Oper} {a : Act} {K : Act → World → Prop} {Q : Exit → Act → World → Prop} (s x : Operand) (t : TypeId)
    (ho : o.op = .call { callee := .builtin .append, args := #[s, x], argTypes := #[t, t] })
    (base : Nat) (e : TypeId) (i : TypeInfo) (z : Value) (size bytes : Nat) (ht : P.underlying t = some (.slice e)) (hi : P.info? e = some i) (hz : i.zero = some z)
    (hsize : i.size = size) (hby : i.bytes = bytes) (hzs : z.cells.size = size) (hsz : 0 < size) (v : Value) (n : Nat) (xs : List Value) (hs : a.eval s = v) (hown : w.ownsRow base e size v n xs)
    (S : Nat → Prop) (A : Value) (m : Nat) (ys : List Value) (hx : a.eval x = A) (hr : Cel w S A m size ys) (h1 : ∀ u ∈ ys, u.oneCell' = true) (h63 : n + m ≤ maxLen) (hbytes : (n + m) * bytes ≤ 140737488355328) (hbase : base ≤ w.heap.size)
    (h : ∀ A' n' c' w', w'.ownsRow base e size (.slice A' n' c') (n + m) (xs ++ ys) → w.grownBy w' v.ownBlock → Moved w v (.slice A' n' c') → K (a.put o.dst (.slice A' n' c')) w') : o.wp P a w K Q := by
  obtain ⟨v', w', hrun, h2, h3, h4⟩ := run_append_cel (P := P) w base t o.type e i z size bytes ht hi hz hsize hby hzs hsz v n xs hown S A m ys hr h1 h63 hbytes hbase
  unfold Oper.wp execOp
  simp only [ho, resolve, invoke, builtin, Sem.run_bind, Sem.run_pure, Result.andThen_ok, List.map_toArray, List.map_cons, List.map_nil, hs, hx, hrun]
  obtain ⟨A', n', c', rfl⟩ : ∃ A' n' c', v' = .slice A' n' c' := by
    rcases h2.2 with ⟨rfl, _⟩ | ⟨_, _, _, rfl, _⟩ <;> exact ⟨_, _, _, rfl⟩
  exact h A' n' c' w' h2 h3 h4
theorem wpList_append_cel {ops : Array Oper} {rest : List Oper} {o : Oper} {a : Act} {Q : Exit → Act → World → Prop} (hgd : o.guard = none) (s x : Operand) (t : TypeId)
    (ho : o.op = .call { callee := .builtin .append, args := #[s, x], argTypes := #[t, t] })
    (base : Nat) (e : TypeId) (i : TypeInfo) (z : Value) (size bytes : Nat) (ht : P.underlying t = some (.slice e)) (hi : P.info? e = some i) (hz : i.zero = some z)
    (hsize : i.size = size) (hby : i.bytes = bytes) (hzs : z.cells.size = size) (hsz : 0 < size) (v : Value) (n : Nat) (xs : List Value) (hs : a.eval s = v) (hown : w.ownsRow base e size v n xs)
    (S : Nat → Prop) (A : Value) (m : Nat) (ys : List Value) (hx : a.eval x = A) (hr : Cel w S A m size ys) (h1 : ∀ u ∈ ys, u.oneCell' = true) (h63 : n + m ≤ maxLen) (hbytes : (n + m) * bytes ≤ 140737488355328) (hbase : base ≤ w.heap.size)
    (h : ∀ A' n' c' w', w'.ownsRow base e size (.slice A' n' c') (n + m) (xs ++ ys) → w.grownBy w' v.ownBlock → Moved w v (.slice A' n' c') → wpList P ops Q rest (a.put o.dst (.slice A' n' c')) w') : wpList P ops Q (o :: rest) a w :=
  wpList_plain hgd fun _ hK => wp_append_cel w s x t ho base e i z size bytes ht hi hz hsize hby hzs hsz v n xs hs hown S A m ys hx hr h1 h63 hbytes hbase fun A' n' c' w' h2 h3 h4 => hK _ _ (h A' n' c' w' h2 h3 h4)
end
theorem own_made (w : World) (base : Nat) (e : TypeId) (size : Nat) (n : Nat) (cs : Array Value) (hn : cs.size = n * size) (hm : n ≤ maxLen) (hb : base ≤ w.heap.size) :
    (w.alloc (.cells cs e)).ownsRow base e size (.slice (some ⟨w.heap.size, 0, none⟩) n n) n cs.toList := by
  refine ⟨by simpa using hn, .inr ⟨w.heap.size, n, cs, rfl, hb, heap_alloc_new w _, Nat.le_refl _, hm, hn, ?_⟩⟩
  rw [← hn]
  exact List.take_of_length_le (by simp)
theorem cel_made (w : World) (e : TypeId) (size : Nat) (n : Nat) (cs : Array Value) (hn : cs.size = n * size) (hm : n ≤ maxLen) :
    Cel (w.alloc (.cells cs e)) (fun b => b = w.heap.size) (.slice (some ⟨w.heap.size, 0, none⟩) n n) n size cs.toList := by
  have := Cel.of_own (own_made w w.heap.size e size n cs hn hm (Nat.le_refl _))
  exact this.mono fun b _ hb => by simpa [ownb, Value.ownBlock] using hb.symm
end Go.Proofs.YtoohpcomnhfgpaaGreat
end
section
namespace Go.Proofs.YtoohpcomnhfgpaaGreat
open Go.RowKit
set_option linter.all false
section
variable {P : Program}
structure Rw_ (w : World) (base g : Nat) (e : TypeId) (k cap : Nat) (cur : List Value) : Prop where
  ge : base ≤ g
  bk : w.heap[g]? = some (.cells cur.toArray e (0, 0))
  cm : cap ≤ maxLen
  cs : cur.length = cap * k
theorem Rw_.own {w : World} {base g : Nat} {e : TypeId} {k cap : Nat} {cur : List Value} (h : Rw_ w base g e k cap cur) (n : Nat) (xs : List Value) (hn : n ≤ cap) (hx : cur.take (n * k) = xs) :
    w.ownsRow base e k (.slice (some ⟨g, 0, none⟩) n cap) n xs := by
  refine ⟨?_, .inr ⟨g, cap, cur.toArray, rfl, h.ge, h.bk, hn, h.cm, by simpa using h.cs, by simpa using hx⟩⟩
  rw [← hx, List.length_take, h.cs]
  exact Nat.min_eq_left (Nat.mul_le_mul_right k hn)
theorem own_rw {w : World} {base : Nat} {e : TypeId} {k n c : Nat} {A : Option Addr} {xs : List Value} (h : w.ownsRow base e k (.slice A n c) n xs) (hp : 0 < n) :
    ∃ g cur, A = some ⟨g, 0, none⟩ ∧ Rw_ w base g e k c cur ∧ n ≤ c ∧ cur.take (n * k) = xs := by
  rcases h.2 with ⟨_, h0⟩ | ⟨g, cap, cur, e1, hb, hh, hnc, hcm, hcs, htk⟩
  · omega
  · injection e1 with e1 _ e3
    subst e1 e3
    exact ⟨g, cur.toList, rfl, ⟨hb, by simpa using hh, hcm, by simpa using hcs⟩, hnc, htk⟩
theorem Rw_.set {w : World} {base g : Nat} {e : TypeId} {k cap : Nat} {cur cur' : List Value} (h : Rw_ w base g e k cap cur) (hl : cur'.length = cur.length) : Rw_ (w.setRow g cur'.toArray) base g e k cap cur' :=
  ⟨h.ge, setRow_heap w g _ cur'.toArray e (0, 0) h.bk, h.cm, hl.trans h.cs⟩
theorem Rw_.cell {w : World} {base g : Nat} {e : TypeId} {k cap : Nat} {cur : List Value} (h : Rw_ w base g e k cap cur) (j : Nat) : w.cell? ⟨g, j, none⟩ = cur[j]? := by
  rw [cell_of_row w g j _ e (0, 0) h.bk]; simp
theorem Rw_.drew {w : World} {base g : Nat} {e : TypeId} {k cap : Nat} {cur : List Value} (h : Rw_ w base g e k cap cur) : Rw_ w.drew base g e k cap cur := ⟨h.ge, h.bk, h.cm, h.cs⟩
theorem Rw_.lt {w : World} {base g : Nat} {e : TypeId} {k cap : Nat} {cur : List Value} (h : Rw_ w base g e k cap cur) : g < w.heap.size := Blk.lt (t := e) h.bk
theorem Rw_.only {w w' : World} {base g : Nat} {e : TypeId} {k cap : Nat} {cur : List Value} {S : Nat → Prop} (h : Rw_ w base g e k cap cur) (o : Only S w w') (hS : ¬ S g) : Rw_ w' base g e k cap cur := ⟨h.ge, (o.block g h.lt hS).trans h.bk, h.cm, h.cs⟩
theorem only_row {w : World} (g : Nat) (cs : Array Value) : Only (one g) w (w.setRow g cs) := (Only.refl (one g) w).setRow (.inl (show one g g from rfl)) cs
def putAt (cur : List Value) (o : Nat) (cs : List Value) : List Value := cur.take o ++ cs ++ cur.drop (o + cs.length)
theorem putAt_len {cur cs : List Value} {o : Nat} (h : o + cs.length ≤ cur.length) : (putAt cur o cs).length = cur.length := by simp [putAt]; omega
theorem putAt_take {cur cs : List Value} {o m : Nat} (h : m ≤ o) (ho : o ≤ cur.length) : (putAt cur o cs).take m = cur.take m := by
  unfold putAt
  rw [List.append_assoc, List.take_append_of_le_length (by simp; omega), List.take_take, Nat.min_eq_left h]
theorem putAt_get {cur cs : List Value} {o : Nat} (ho : o + cs.length ≤ cur.length) (j : Nat) : (putAt cur o cs)[j]? = if o ≤ j ∧ j < o + cs.length then cs[j - o]? else cur[j]? := by
  unfold putAt
  have h1 : (cur.take o).length = o := by simp; omega
  by_cases hj : j < o
  · rw [if_neg (by omega), List.append_assoc, List.getElem?_append_left (by omega), List.getElem?_take, if_pos hj]
  · by_cases hj2 : j < o + cs.length
    · rw [if_pos ⟨by omega, hj2⟩, List.append_assoc, List.getElem?_append_right (by omega), h1, List.getElem?_append_left (by omega)]
    · rw [if_neg (by omega), List.append_assoc, List.getElem?_append_right (by omega), h1, List.getElem?_append_right (by omega), List.getElem?_drop]
      congr 1
      omega
theorem run_store_row (w : World) (base g o : Nat) (e : TypeId) (k cap : Nat) (cur vs : List Value) (h : Rw_ w base g e k cap cur) (hl : o + vs.length ≤ cur.length) (h1 : ∀ v ∈ vs, v.oneCell' = true) :
    (storeCells ⟨g, o, none⟩ vs 0).run P w = .ok () (w.setRow g (putAt cur o vs).toArray) := by
  have := run_storeCells_at P g o e vs 0 cur.toArray w h.bk (by simpa using hl) h1
  simpa [putAt] using this
theorem run_copy_k (w : World) (t sT ty e : TypeId) (i : TypeInfo) (k : Nat) (ht : P.underlying t = some (.slice e)) (hi : P.info? e = some i) (hk : i.size = k)
    (base g o dLen dCap cap : Nat) (cur : List Value) (h : Rw_ w base g e k cap cur) (a : Addr) (sLen sCap : Nat) (cs : List Value) (hc : cs.length = Nat.min sLen dLen * k)
    (hsrc : ∀ j v, cs[j]? = some v → w.cell? (a.add j) = some v) (hfit : o + cs.length ≤ cur.length) (h1 : ∀ v ∈ cs, v.oneCell' = true) :
    (Builtin.copy_ #[t, sT] ty #[.slice (some ⟨g, o, none⟩) dLen dCap, .slice (some a) sLen sCap]).run P w = .ok (goInt (Nat.min sLen dLen)) (w.setRow g (putAt cur o cs).toArray) := by
  have hl := run_loadCells_list (P := P) w a cs hsrc
  have hst := run_store_row (P := P) w base g o e k cap cur cs h hfit h1
  rw [hc] at hl
  simp [Builtin.copy_, run_underlying ht, Builtin.lenOf, Builtin.firstCells, sizeOf, typeInfo, hi, hk, hl, hst]
theorem run_append_room (w : World) (t ty e : TypeId) (i : TypeInfo) (k : Nat) (ht : P.underlying t = some (.slice e)) (hi : P.info? e = some i) (hk : i.size = k)
    (base g sLen sCap cap : Nat) (cur : List Value) (h : Rw_ w base g e k cap cur) (a : Addr) (m c : Nat) (cs : List Value) (hc : cs.length = m * k) (hroom : sLen + m ≤ sCap)
    (hsrc : ∀ j v, cs[j]? = some v → w.cell? (a.add j) = some v) (hfit : sLen * k + cs.length ≤ cur.length) (h1 : ∀ v ∈ cs, v.oneCell' = true) :
    (Builtin.append_ #[t, t] ty #[.slice (some ⟨g, 0, none⟩) sLen sCap, .slice (some a) m c]).run P w = .ok (.slice (some ⟨g, 0, none⟩) (sLen + m) sCap) (w.setRow g (putAt cur (sLen * k) cs).toArray) := by
  have hl := run_loadCells_list (P := P) w a cs hsrc
  rw [hc] at hl
  have hst := run_store_row (P := P) w base g (sLen * k) e k cap cur cs h hfit h1
  have ha : (⟨g, 0, none⟩ : Addr).add (sLen * k) = ⟨g, sLen * k, none⟩ := by unfold Addr.add; split <;> simp_all
  simp [Builtin.append_, run_underlying ht, sizeOf, typeInfo, hi, hk, Builtin.lenOf, Builtin.firstCells, hl, hroom, ha, hst]
theorem run_clear_row (w : World) (t ty e : TypeId) (i : TypeInfo) (z : Value) (k : Nat) (ht : P.underlying t = some (.slice e)) (hi : P.info? e = some i) (hz : i.zero = some z) (hzs : z.cells.size = k) (hz1 : ∀ v ∈ z.cells.toList, v.oneCell' = true)
    (base g o m c cap : Nat) (cur : List Value) (h : Rw_ w base g e k cap cur) (hm : 0 < m) (hfit : o + m * k ≤ cur.length) :
    ∃ cs : List Value, cs.length = m * k ∧ (Builtin.clear_ #[t] ty #[.slice (some ⟨g, o, none⟩) m c]).run P w = .ok (.tuple #[]) (w.setRow g (putAt cur o cs).toArray) := by
  have hlen : (Builtin.zeroCells z.cells m).toList.length = m * k := by simp [Builtin.zeroCells, hzs]
  refine ⟨(Builtin.zeroCells z.cells m).toList, hlen, ?_⟩
  have h1 : ∀ v ∈ (Builtin.zeroCells z.cells m).toList, v.oneCell' = true := by
    intro v hv
    simp only [Builtin.zeroCells, Array.toList_map, List.mem_map] at hv
    obtain ⟨j, hj, rfl⟩ := hv
    have hj' : j < m * z.cells.size := by simpa using hj
    have hp : 0 < z.cells.size := by
      rcases Nat.eq_zero_or_pos z.cells.size with h0 | h0
      · rw [h0] at hj'; omega
      · exact h0
    have hmod : j % z.cells.size < z.cells.size := Nat.mod_lt _ hp
    rw [getElem!_pos z.cells _ hmod]
    exact hz1 _ (by simp)
  have hst := run_store_row (P := P) w base g o e k cap cur _ h (by rw [hlen]; exact hfit) h1
  obtain ⟨m', rfl⟩ : ∃ m', m = m' + 1 := ⟨m - 1, by omega⟩
  simp [Builtin.clear_, run_underlying ht, zeroValue, typeInfo, hi, hz, hst]
theorem wp_copy_run {o : Oper} {a : Act} {w : World} {K : Act → World → Prop} {Q : Exit → Act → World → Prop} (d s : Operand) (t t' : TypeId)
    (ho : o.op = .call { callee := .builtin .copy, args := #[d, s], argTypes := #[t, t'] }) (v u : Value) (hd : a.eval d = v) (hs : a.eval s = u) {v' : Value} {w' : World}
    (hr : (Builtin.copy_ #[t, t'] o.type #[v, u]).run P w = .ok v' w') (h : K (a.put o.dst v') w') : o.wp P a w K Q := by
  unfold Oper.wp execOp
  simp only [ho, resolve, invoke, builtin, Sem.run_bind, Sem.run_pure, Result.andThen_ok, List.map_toArray, List.map_cons, List.map_nil, hd, hs, hr]
  exact h
theorem step_copy_run {ops : Array Oper} {o : Oper} {a : Act} {w : World} {K : Act → World → Prop} {Q : Exit → Act → World → Prop} {E : Prop} (hgd : o.guard = none) (d s : Operand) (t t' : TypeId)
    (ho : o.op = .call { callee := .builtin .copy, args := #[d, s], argTypes := #[t, t'] }) (v u : Value) (hd : a.eval d = v) (hs : a.eval s = u) {v' : Value} {w' : World}
    (hr : (Builtin.copy_ #[t, t'] o.type #[v, u]).run P w = .ok v' w') (hK : K (a.put o.dst v') w') :
    if Region.wanted o (yielded ops a.tmps) = true then Oper.wp P o a w K Q else E := by
  rw [if_pos (by simp [Region.wanted, hgd])]
  exact wp_copy_run d s t t' ho v u hd hs hr hK
theorem wp_append_run2 {o : Oper} {a : Act} {w : World} {K : Act → World → Prop} {Q : Exit → Act → World → Prop} (d s : Operand) (t t' : TypeId)
    (ho : o.op = .call { callee := .builtin .append, args := #[d, s], argTypes := #[t, t'] }) (v u : Value) (hd : a.eval d = v) (hs : a.eval s = u) {v' : Value} {w' : World}
    (hr : (Builtin.append_ #[t, t'] o.type #[v, u]).run P w = .ok v' w') (h : K (a.put o.dst v') w') : o.wp P a w K Q := by
  unfold Oper.wp execOp
  simp only [ho, resolve, invoke, builtin, Sem.run_bind, Sem.run_pure, Result.andThen_ok, List.map_toArray, List.map_cons, List.map_nil, hd, hs, hr]
  exact h
theorem wpList_append_run2 {ops : Array Oper} {rest : List Oper} {o : Oper} {a : Act} {w : World} {Q : Exit → Act → World → Prop} (hgd : o.guard = none) (d s : Operand) (t t' : TypeId)
    (ho : o.op = .call { callee := .builtin .append, args := #[d, s], argTypes := #[t, t'] }) (v u : Value) (hd : a.eval d = v) (hs : a.eval s = u) {v' : Value} {w' : World}
    (hr : (Builtin.append_ #[t, t'] o.type #[v, u]).run P w = .ok v' w') (h : wpList P ops Q rest (a.put o.dst v') w') : wpList P ops Q (o :: rest) a w :=
  wpList_plain hgd fun _ hK => wp_append_run2 d s t t' ho v u hd hs hr (hK _ _ h)
theorem step_append_run2 {ops : Array Oper} {o : Oper} {a : Act} {w : World} {K : Act → World → Prop} {Q : Exit → Act → World → Prop} {E : Prop} (hgd : o.guard = none) (d s : Operand) (t t' : TypeId)
    (ho : o.op = .call { callee := .builtin .append, args := #[d, s], argTypes := #[t, t'] }) (v u : Value) (hd : a.eval d = v) (hs : a.eval s = u) {v' : Value} {w' : World}
    (hr : (Builtin.append_ #[t, t'] o.type #[v, u]).run P w = .ok v' w') (hK : K (a.put o.dst v') w') :
    if Region.wanted o (yielded ops a.tmps) = true then Oper.wp P o a w K Q else E := by
  rw [if_pos (by simp [Region.wanted, hgd])]
  exact wp_append_run2 d s t t' ho v u hd hs hr hK
end
end Go.Proofs.YtoohpcomnhfgpaaGreat
end
section
namespace Go.Proofs.YtoohpcomnhfgpaaGreat
open Go.RowKit
set_option linter.all false
section
variable {P : Program} {t e : TypeId} {i : TypeInfo} {k : Nat}
theorem sl_lo (ht : P.underlying t = some (.slice e)) (hi : P.info? e = some i) (hk : i.size = k) (g o n c p : Nat) (hp : p ≤ n) (hnc : p < c) (y : Int) (hy : y = p) (w : World) :
    (Instr.sliceAt t (.slice (some ⟨g, o, none⟩) n c) (some (.int .i64 y)) none none).run P w = .ok (.slice (some ⟨g, o + p * k, none⟩) (n - p) (c - p)) w := by
  subst hy
  have h1 : (p : Int) ≤ (n : Int) := by omega
  have h2 : ¬ (c = p) := by omega
  simp [Instr.sliceAt, Instr.slice, run_underlying ht, Instr.sliceBounds, run_sliceBound, sizeOf, typeInfo, hi, hk, h1, h2, Addr.add]
theorem sl_lo_end (ht : P.underlying t = some (.slice e)) (hi : P.info? e = some i) (g o n c p : Nat) (hp : p ≤ n) (hpc : p = c) (y : Int) (hy : y = p) (w : World) :
    (Instr.sliceAt t (.slice (some ⟨g, o, none⟩) n c) (some (.int .i64 y)) none none).run P w = .ok (.slice (some ⟨g, o, none⟩) (n - p) (c - p)) w := by
  subst hy hpc
  have h1 : (p : Int) ≤ (n : Int) := by omega
  simp [Instr.sliceAt, Instr.slice, run_underlying ht, Instr.sliceBounds, run_sliceBound, sizeOf, typeInfo, hi, h1]
theorem sl_lo_any (ht : P.underlying t = some (.slice e)) (hi : P.info? e = some i) (A : Option Addr) (n c p : Nat) (hp : p ≤ n) (y : Int) (hy : y = p) :
    ∃ A', ∀ w, (Instr.sliceAt t (.slice A n c) (some (.int .i64 y)) none none).run P w = .ok (.slice A' (n - p) (c - p)) w := by
  subst hy
  have h1 : (p : Int) ≤ (n : Int) := by omega
  refine ⟨if c = p then A else A.map (·.add (p * i.size)), fun w => ?_⟩
  simp [Instr.sliceAt, Instr.slice, run_underlying ht, Instr.sliceBounds, run_sliceBound, sizeOf, typeInfo, hi, h1]
theorem sl_hi (ht : P.underlying t = some (.slice e)) (hi : P.info? e = some i) (g o n c q : Nat) (hq : q ≤ c) (z : Int) (hz : z = q) (w : World) :
    (Instr.sliceAt t (.slice (some ⟨g, o, none⟩) n c) none (some (.int .i64 z)) none).run P w = .ok (.slice (some ⟨g, o, none⟩) q c) w := by
  subst hz
  have h1 : (q : Int) ≤ (c : Int) := by omega
  simp [Instr.sliceAt, Instr.slice, run_underlying ht, Instr.sliceBounds, run_sliceBound, sizeOf, typeInfo, hi, h1, Addr.add]
theorem sl_mid (ht : P.underlying t = some (.slice e)) (hi : P.info? e = some i) (hk : i.size = k) (g o n c p q : Nat) (hpq : p ≤ q) (hq : q ≤ c) (hpc : p < c) (y z : Int) (hy : y = p) (hz : z = q) (w : World) :
    (Instr.sliceAt t (.slice (some ⟨g, o, none⟩) n c) (some (.int .i64 y)) (some (.int .i64 z)) none).run P w = .ok (.slice (some ⟨g, o + p * k, none⟩) (q - p) (c - p)) w := by
  subst hy hz
  have h1 : (q : Int) ≤ (c : Int) := by omega
  have h2 : (p : Int) ≤ (q : Int) := by omega
  have h3 : ¬ (c = p) := by omega
  simp [Instr.sliceAt, Instr.slice, run_underlying ht, Instr.sliceBounds, run_sliceBound, sizeOf, typeInfo, hi, hk, h1, h2, h3, Addr.add]
theorem sl_lo0 (ht : P.underlying t = some (.slice e)) (hi : P.info? e = some i) (hk : i.size = k) (g n c p : Nat) (hp : p ≤ n) (hnc : p < c) (y : Int) (hy : y = p) (w : World) :
    (Instr.sliceAt t (.slice (some ⟨g, 0, none⟩) n c) (some (.int .i64 y)) none none).run P w = .ok (.slice (some ⟨g, p * k, none⟩) (n - p) (c - p)) w := by
  have := sl_lo ht hi hk g 0 n c p hp hnc y hy w
  rwa [Nat.zero_add] at this
theorem sl_mid0 (ht : P.underlying t = some (.slice e)) (hi : P.info? e = some i) (hk : i.size = k) (g n c p q : Nat) (hpq : p ≤ q) (hq : q ≤ c) (hpc : p < c) (y z : Int) (hy : y = p) (hz : z = q) (w : World) :
    (Instr.sliceAt t (.slice (some ⟨g, 0, none⟩) n c) (some (.int .i64 y)) (some (.int .i64 z)) none).run P w = .ok (.slice (some ⟨g, p * k, none⟩) (q - p) (c - p)) w := by
  have := sl_mid ht hi hk g 0 n c p q hpq hq hpc y z hy hz w
  rwa [Nat.zero_add] at this
theorem sl_three (ht : P.underlying t = some (.slice e)) (hi : P.info? e = some i) (A : Option Addr) (n c p q m : Nat) (hpq : p ≤ q) (hq : q ≤ m) (hm : m ≤ c) (x y z : Int) (hx : x = p) (hy : y = q) (hz : z = m) :
    ∃ A', ∀ w, (Instr.sliceAt t (.slice A n c) (some (.int .i64 x)) (some (.int .i64 y)) (some (.int .i64 z))).run P w = .ok (.slice A' (q - p) (m - p)) w := by
  subst hx hy hz
  have h1 : (q : Int) ≤ (m : Int) := by omega
  have h2 : (p : Int) ≤ (q : Int) := by omega
  have h3 : (m : Int) ≤ (c : Int) := by omega
  refine ⟨if m = p then A else A.map (·.add (p * i.size)), fun w => ?_⟩
  simp [Instr.sliceAt, Instr.slice, run_underlying ht, Instr.sliceBounds, run_sliceBound, sizeOf, typeInfo, hi, h1, h2, h3]
theorem app_zero (w : World) (tn ty : TypeId) (z : Value) (kq kn : IntKind) (ht : P.underlying t = some (.slice e)) (htn : P.underlying tn = some (.int kn)) (hi : P.info? e = some i) (hz : i.zero = some z) (hk : i.size = k) (hzs : z.cells.size = k)
    (base g sLen sCap cap : Nat) (cur : List Value) (h : Rw_ w base g e k cap cur) (hs : sLen ≤ cap) (m : Nat) (h0 : 0 < m) (hk0 : 0 < k) (hg : sCap < sLen + m) (h63 : sLen + m ≤ 1000000) (hb : i.bytes ≤ 100000) (hbase : base ≤ w.heap.size) :
    ∃ G cur' w', (Builtin.append_ #[t, tn] ty #[.slice (some ⟨g, 0, none⟩) sLen sCap, .int kq m]).run P w = .ok (.slice (some ⟨w.heap.size, 0, none⟩) (sLen + m) G) w' ∧ Rw_ w' base w.heap.size e k G cur' ∧ sLen + m ≤ G ∧
      cur'.take (sLen * k) = cur.take (sLen * k) ∧ Only none_ w w' ∧ w'.heap.size = w.heap.size + 1 := by
  have hmul : (sLen + m) * i.bytes ≤ 140737488355328 := Nat.le_trans (Nat.mul_le_mul h63 hb) (by decide)
  have hmul2 : m * i.bytes ≤ 281474976710656 := Nat.le_trans (Nat.mul_le_mul (show m ≤ 1000000 by omega) hb) (by decide)
  have hl : (cur.take (sLen * k)).length = sLen * k := by
    rw [List.length_take, h.cs]; exact Nat.min_eq_left (Nat.mul_le_mul_right k hs)
  have hold : (Builtin.firstCells i.size sLen (.slice (some ⟨g, 0, none⟩) sLen sCap)).run P w.drew = .ok (cur.take (sLen * k)).toArray w.drew := by
    have h2 := run_loadCells_list (P := P) w.drew ⟨g, 0, none⟩ (cur.take (sLen * k)) (fun j v hj => by
      have e1 : (⟨g, 0, none⟩ : Addr).add j = ⟨g, 0 + j, none⟩ := by unfold Addr.add; split <;> simp_all
      rw [e1, Nat.zero_add]
      refine (h.cell j).trans ?_
      rw [List.getElem?_take] at hj
      split at hj
      · exact hj
      · cases hj)
    rw [hl] at h2
    simpa [Builtin.firstCells, hk] using h2
  have hrun := Lib.run_append_grow_zeros (P := P) w t tn ty e i z kq kn ht htn hi hz (some ⟨g, 0, none⟩) sLen sCap _ hold m h0 (by omega) hg (by omega) hmul2 (growslice_fits hg hmul)
  have hGn := grownCap_ge w (sLen + m) sCap e
  have hG63 := grownCap_le_maxLen w (sLen + m) sCap e (by unfold maxLen; omega)
  generalize grownCap w (sLen + m) sCap e = G at hrun hGn hG63
  have hzl : ∀ q, (Builtin.zeroCells z.cells q).toList.length = q * k := fun q => by simp [Builtin.zeroCells, hzs]
  have earr : ((cur.take (sLen * k)).toArray ++ Builtin.zeroCells z.cells m ++ Builtin.zeroCells z.cells (G - (sLen + m))) = (cur.take (sLen * k) ++ (Builtin.zeroCells z.cells m).toList ++ (Builtin.zeroCells z.cells (G - (sLen + m))).toList).toArray := by simp
  rw [earr] at hrun
  refine ⟨G, _, _, hrun, ⟨hbase, heap_alloc_new w.drew _, hG63, ?_⟩, hGn, ?_, ((Only.refl none_ w).drew).alloc _, by rw [World.size_alloc]; rfl⟩
  · rw [List.length_append, List.length_append, hl, hzl, hzl, ← Nat.add_mul, ← Nat.add_mul]
    congr 1
    omega
  · rw [List.append_assoc, List.take_append_of_le_length (by omega), List.take_of_length_le (by omega)]
end
theorem ins_shift (cur xs ys : List Value) (k n i : Nat) (hc : (n + 1) * k ≤ cur.length) (hx : cur.take (n * k) = xs) (hy : ys.length = k) (hi : i ≤ n) :
    (putAt (putAt cur ((i + 1) * k) (xs.drop (i * k))) (i * k) ys).take ((n + 1) * k) = xs.take (i * k) ++ ys ++ xs.drop (i * k) := by
  have hnk : (n + 1) * k = n * k + k := Nat.succ_mul n k
  have hik : (i + 1) * k = i * k + k := Nat.succ_mul i k
  have hin : i * k ≤ n * k := Nat.mul_le_mul_right k hi
  have hxl : xs.length = n * k := by rw [← hx, List.length_take]; omega
  have hdl : (xs.drop (i * k)).length = n * k - i * k := by rw [List.length_drop, hxl]
  have hl1 : (putAt cur ((i + 1) * k) (xs.drop (i * k))).length = cur.length := putAt_len (by rw [hdl]; omega)
  apply List.ext_getElem?
  intro j
  rw [List.getElem?_take]
  have ht : (xs.take (i * k)).length = i * k := by rw [List.length_take]; omega
  by_cases hj : j < (n + 1) * k
  · rw [if_pos hj, putAt_get (by rw [hl1, hy]; omega), putAt_get (by rw [hdl]; omega)]
    by_cases h1 : j < i * k
    · rw [if_neg (by omega), if_neg (by omega), List.append_assoc, List.getElem?_append_left (by omega), List.getElem?_take, if_pos h1, ← hx, List.getElem?_take, if_pos (by omega)]
    · by_cases h2 : j < i * k + k
      · rw [if_pos (by omega), List.append_assoc, List.getElem?_append_right (by omega), ht, List.getElem?_append_left (by omega)]
      · rw [if_neg (by omega), if_pos (by omega), List.append_assoc, List.getElem?_append_right (by omega), ht, List.getElem?_append_right (by omega), hy]
        congr 1
        omega
  · rw [if_neg hj, List.getElem?_eq_none (by rw [List.length_append, List.length_append, ht, hy, hdl]; omega)]
theorem ins_fresh (cur0 cur xs ys : List Value) (k n i : Nat) (hc : (n + 1) * k ≤ cur.length) (h0 : cur.take (i * k) = cur0.take (i * k)) (hx : cur0.take (n * k) = xs) (hy : ys.length = k) (hxl : xs.length = n * k) (hi : i ≤ n) :
    (putAt (putAt cur (i * k) ys) ((i + 1) * k) (xs.drop (i * k))).take ((n + 1) * k) = xs.take (i * k) ++ ys ++ xs.drop (i * k) := by
  have hnk : (n + 1) * k = n * k + k := Nat.succ_mul n k
  have hik : (i + 1) * k = i * k + k := Nat.succ_mul i k
  have hin : i * k ≤ n * k := Nat.mul_le_mul_right k hi
  have hdl : (xs.drop (i * k)).length = n * k - i * k := by rw [List.length_drop, hxl]
  have hl1 : (putAt cur (i * k) ys).length = cur.length := putAt_len (by rw [hy]; omega)
  have ht : (xs.take (i * k)).length = i * k := by rw [List.length_take]; omega
  apply List.ext_getElem?
  intro j
  rw [List.getElem?_take]
  by_cases hj : j < (n + 1) * k
  · rw [if_pos hj, putAt_get (by rw [hl1, hdl]; omega), putAt_get (by rw [hy]; omega)]
    by_cases h1 : j < i * k
    · have e1 : cur[j]? = cur0[j]? := by
        have := congrArg (fun l => l[j]?) h0
        simpa [List.getElem?_take, h1] using this
      rw [if_neg (by omega), if_neg (by omega), List.append_assoc, List.getElem?_append_left (by omega), List.getElem?_take, if_pos h1, ← hx, List.getElem?_take, if_pos (by omega), e1]
    · by_cases h2 : j < i * k + k
      · rw [if_neg (by omega), if_pos (by omega), List.append_assoc, List.getElem?_append_right (by omega), ht, List.getElem?_append_left (by omega)]
      · rw [if_pos (by omega), List.append_assoc, List.getElem?_append_right (by omega), ht, List.getElem?_append_right (by omega), hy]
        congr 1
        omega
  · rw [if_neg hj, List.getElem?_eq_none (by rw [List.length_append, List.length_append, ht, hy, hdl]; omega)]
theorem del_shift (cur xs cs : List Value) (k n i o : Nat) (hc : n * k ≤ cur.length) (hx : cur.take (n * k) = xs) (hi : i < n) (ho : (n - 1) * k ≤ o) (hol : o + cs.length ≤ cur.length) :
    (putAt (putAt cur (i * k) (xs.drop ((i + 1) * k))) o cs).take ((n - 1) * k) = xs.take (i * k) ++ xs.drop ((i + 1) * k) := by
  obtain ⟨m, rfl⟩ : ∃ m, n = m + 1 := ⟨n - 1, by omega⟩
  have hnk : (m + 1) * k = m * k + k := Nat.succ_mul m k
  have hik : (i + 1) * k = i * k + k := Nat.succ_mul i k
  have hin : i * k ≤ m * k := Nat.mul_le_mul_right k (by omega)
  rw [Nat.add_sub_cancel] at ho ⊢
  have hxl : xs.length = (m + 1) * k := by rw [← hx, List.length_take]; omega
  have hdl : (xs.drop ((i + 1) * k)).length = m * k - i * k := by rw [List.length_drop, hxl]; omega
  have hl1 : (putAt cur (i * k) (xs.drop ((i + 1) * k))).length = cur.length := putAt_len (by rw [hdl]; omega)
  have ht : (xs.take (i * k)).length = i * k := by rw [List.length_take]; omega
  rw [putAt_take ho (by omega)]
  apply List.ext_getElem?
  intro j
  rw [List.getElem?_take]
  by_cases hj : j < m * k
  · rw [if_pos hj, putAt_get (by rw [hdl]; omega)]
    by_cases h1 : j < i * k
    · rw [if_neg (by omega), List.getElem?_append_left (by omega), List.getElem?_take, if_pos h1, ← hx, List.getElem?_take, if_pos (by omega)]
    · rw [if_pos (by omega), List.getElem?_append_right (by omega), ht]
  · rw [if_neg hj, List.getElem?_eq_none (by rw [List.length_append, ht, hdl]; omega)]
end Go.Proofs.YtoohpcomnhfgpaaGreat
end
section
namespace Go.Proofs.YtoohpcomnhfgpaaGreat.Se
open Go.RowKit
set_option maxRecDepth 100000
set_option linter.all false
theorem pairI_info : (Tryz.prog.info? 240).map (fun i => (i.zero, i.size, i.bytes)) = some (some (.agg #[.string ⟨#[]⟩, .string ⟨#[]⟩, .string ⟨#[]⟩, .bool false, .int .i64 0, .int .i64 0, .int .i64 0, .int .i64 0, .int .i64 0, .int .i64 0]), 10, 104) := by kernel_rfl
set_option maxHeartbeats 3200000 in
theorem insI_end (base : Nat) (A : Option Addr) (n c vb : Nat) (xs ys : List Value) (w : World) (h : w.ownsRow base 240 10 (.slice A n c) n xs) (hn : n ≤ 4096) (hb : base ≤ w.heap.size)
    (hv : Blk w vb 240 ys.toArray) (hy : ys.length = 10) (h1y : ∀ u ∈ ys, u.oneCell' = true) :
    Calls Tryz.prog 203 #[.slice A n c, .int .i64 n, .slice (some ⟨vb, 0, none⟩) 1 1] w fun e w' => ∃ v', e = .returned v' ∧ w'.ownsRow base 240 10 v' (n + 1) (xs ++ ys) ∧ Only (ownb (.slice A n c)) w w' ∧ Moved w (.slice A n c) v' := by
  obtain ⟨i0, hi0, hz0, hz1, hz2⟩ := info_parts pairI_info
  have H := Lib.hid h
  have CY : Hid (Cel w (fun b => b = vb) (.slice (some ⟨vb, 0, none⟩) 1 1) 1 10 ys) := ⟨_, _, rfl, by simpa using hy, Nat.le_refl _, by simp [maxLen], fun e => by (cases e), fun _ => ⟨vb, 0, rfl, rfl, hv.lt, fun j u hu => by rw [Nat.zero_add]; exact hv.cell_ (by simpa using hu)⟩⟩
  obtain ⟨A', hsl⟩ := sl_lo_any Tryz.underlying241 hi0 A n c n (Nat.le_refl _) (n : Int) rfl
  have HN : Hid (n + 1 ≤ maxLen ∧ (n + 1) * 104 ≤ 140737488355328) := by simp only [Hid, maxLen]; omega
  clear h hv hy
  go_enter Tryz.func203, Tryz.ntmps203
  go_wp2_with (first
    | (at_builtin; refine wpList_append_cel _ rfl (.tmp 23) (.tmp 24) 241 rfl base 240 i0 _ 10 104 Tryz.underlying241 hi0 hz0 hz1 hz2 rfl (by omega) _ n xs rfl H.out _ _ 1 ys rfl CY.out h1y HN.out.1 HN.out.2 hb ?_
       intro A5 n5 c5 w5 hown5 hgrow5 hmv5
       have R5 : Hid (w5.ownsRow base 240 10 (.slice A5 n5 c5) (n + 1) (xs ++ ys) ∧ Only (ownb (.slice A n c)) w w5 ∧ Moved w (.slice A n c) (.slice A5 n5 c5)) := ⟨hown5, (Only.refl (ownb _) w).grown hgrow5 (fun k hk => .inl hk), hmv5⟩
       clear hown5 hgrow5 hmv5))
  go_ret
  exact ⟨_, rfl, R5.out⟩
set_option maxHeartbeats 6400000 in
theorem insI_mid (base g n c i vb : Nat) (cur xs ys : List Value) (w : World) (h : Rw_ w base g 240 10 c cur) (hx : cur.take (n * 10) = xs) (hin : i < n) (hnc : n ≤ c) (hn : n ≤ 4096) (hb : base ≤ w.heap.size)
    (hv : Blk w vb 240 ys.toArray) (hne : vb ≠ g) (hy : ys.length = 10) (h1x : ∀ u ∈ xs, u.oneCell' = true) (h1y : ∀ u ∈ ys, u.oneCell' = true) :
    Calls Tryz.prog 203 #[.slice (some ⟨g, 0, none⟩) n c, .int .i64 i, .slice (some ⟨vb, 0, none⟩) 1 1] w fun e w' => ∃ v', e = .returned v' ∧ w'.ownsRow base 240 10 v' (n + 1) (xs.take (i * 10) ++ ys ++ xs.drop (i * 10)) ∧ Only (one g) w w' ∧
      (∀ k, v'.ownBlock = some k → k = g ∨ w.heap.size ≤ k) := by
  obtain ⟨i0, hi0, hz0, hz1, hz2⟩ := info_parts pairI_info
  have hxl : xs.length = n * 10 := by rw [← hx, List.length_take, h.cs]; omega
  have hxd : ∀ u ∈ xs.drop (i * 10), u.oneCell' = true := fun u hu => h1x u (List.mem_of_mem_drop hu)
  have hdl : (xs.drop (i * 10)).length = (n - i) * 10 := by rw [List.length_drop, hxl]; omega
  have hcl := h.cs
  have hglt := h.lt
  have hin0 : (i : Int) ≠ (n : Int) := by omega
  have hin1 : ((i : Int) == (n : Int)) = false := by simp; omega
  have hin2 : ¬ (i = n) := by omega
  have hsl0 := sl_lo0 Tryz.underlying241 hi0 hz1 g n c i (by omega) (by omega) (i : Int) rfl
  have hw1 : IntKind.i64.wrap ((n : Int) + 1) = (n : Int) + 1 := IntWalk.i64_in _ (by omega)
  have hw2 : IntKind.i64.wrap ((i : Int) + 1) = (i : Int) + 1 := IntWalk.i64_in _ (by omega)
  have hsrcx : ∀ (w' : World), Rw_ w' base g 240 10 c cur → ∀ j v, (xs.drop (i * 10))[j]? = some v → w'.cell? ((⟨g, i * 10, none⟩ : Addr).add j) = some v := by
    intro w' h' j v hj
    have e1 : (⟨g, i * 10, none⟩ : Addr).add j = ⟨g, i * 10 + j, none⟩ := by unfold Addr.add; split <;> simp_all
    rw [e1, h'.cell]
    rw [List.getElem?_drop, ← hx, List.getElem?_take] at hj
    split at hj
    · exact hj
    · cases hj
  have hsrcy : ∀ (w' : World), Blk w' vb 240 ys.toArray → ∀ j v, ys[j]? = some v → w'.cell? ((⟨vb, 0, none⟩ : Addr).add j) = some v := by
    intro w' h' j v hj
    have e1 : (⟨vb, 0, none⟩ : Addr).add j = ⟨vb, j, none⟩ := by unfold Addr.add; split <;> simp_all
    rw [e1]
    exact h'.cell_ (by simpa using hj)
  by_cases hroom : n + 1 ≤ c
  · have hgt : ¬ ((c : Int) < (n : Int) + 1) := by omega
    have hgt2 : ¬ (c < n + 1) := by omega
    have hsl1 := sl_hi Tryz.underlying241 hi0 g 0 n c (n + 1) hroom ((n : Int) + 1) (by omega)
    have hsl2 := sl_lo0 Tryz.underlying241 hi0 hz1 g (n + 1) c (i + 1) (by omega) (by omega) ((i : Int) + 1) (by omega)
    have hsl3 := sl_lo0 Tryz.underlying241 hi0 hz1 g (n + 1) c i (by omega) (by omega) (i : Int) rfl
    have hov : ∀ lb cb, (callFunc 234 #[.slice (some ⟨vb, 0, none⟩) 1 1, .slice (some ⟨g, (i + 1) * 10, none⟩) lb cb]).run Tryz.prog w = .ok (.value (.bool false)) w := fun lb cb => by
      rw [run_callFunc_extern Tryz.func234 (by kernel_rfl) (by kernel_rfl) (by kernel_rfl) (e := Extern.SlicesOverlaps.overlaps #[241, 241] #[4]) (by kernel_rfl),
        Lib.run_overlaps_apart w 241 4 240 Tryz.underlying241 10 (fun w => by simp [sizeOf, typeInfo, hi0, hz1]) ⟨vb, 0, none⟩ ⟨g, (i + 1) * 10, none⟩ 1 1 lb cb hne 240 240 ys.toArray.size cur.toArray.size
          (by have hv' := hv; unfold Blk at hv'; simp [World.shape?, hv']) (by have hb' := h.bk; simp [World.shape?, hb']) (by simp [hcl]; omega) (hv.frozen 0) (hv.frozen _)]
      rfl
    obtain ⟨W1, hW1⟩ : ∃ W1, W1 = w.drew.setRow g (putAt cur ((i + 1) * 10) (xs.drop (i * 10))).toArray := ⟨_, rfl⟩
    have hlen1 : (putAt cur ((i + 1) * 10) (xs.drop (i * 10))).length = cur.length := putAt_len (by rw [hdl, hcl]; omega)
    have R1 : Hid (Rw_ W1 base g 240 10 c (putAt cur ((i + 1) * 10) (xs.drop (i * 10)))) := by rw [hW1]; exact h.drew.set hlen1
    have O1 : Hid (Only (one g) w W1) := by rw [hW1]; exact ((Only.refl (one g) w).drew).setRow (.inl rfl) _
    have hcp1 : ∀ ty dc sc, (Builtin.copy_ #[241, 241] ty #[.slice (some ⟨g, (i + 1) * 10, none⟩) (n - i) dc, .slice (some ⟨g, i * 10, none⟩) (n + 1 - i) sc]).run Tryz.prog w.drew = .ok (goInt (Nat.min (n + 1 - i) (n - i))) W1 := fun ty dc sc => by
      rw [hW1]
      have := run_copy_k (P := Tryz.prog) w.drew _ 241 ty _ i0 10 Tryz.underlying241 hi0 hz1 base g ((i + 1) * 10) (n - i) dc c cur h.drew ⟨g, i * 10, none⟩ (n + 1 - i) sc (xs.drop (i * 10)) (by rw [hdl]; congr 1; simp only [Nat.min_def]; split <;> omega) (hsrcx _ h.drew) (by rw [hdl, hcl]; omega) hxd
      exact this
    have V1 : Hid (Blk W1 vb 240 ys.toArray) := hv.only O1.out (fun e => hne e)
    obtain ⟨W2, hW2⟩ : ∃ W2, W2 = W1.setRow g (putAt (putAt cur ((i + 1) * 10) (xs.drop (i * 10))) (i * 10) ys).toArray := ⟨_, rfl⟩
    have hcp2 : ∀ ty dc, (Builtin.copy_ #[241, 241] ty #[.slice (some ⟨g, i * 10, none⟩) (n + 1 - i) dc, .slice (some ⟨vb, 0, none⟩) 1 1]).run Tryz.prog W1 = .ok (goInt (Nat.min 1 (n + 1 - i))) W2 := fun ty dc => by
      rw [hW2]
      have := run_copy_k (P := Tryz.prog) W1 _ 241 ty _ i0 10 Tryz.underlying241 hi0 hz1 base g (i * 10) (n + 1 - i) dc c _ R1.out ⟨vb, 0, none⟩ 1 1 ys (by rw [hy, show Nat.min 1 (n + 1 - i) = 1 from Nat.min_eq_left (by omega)]) (hsrcy _ V1.out) (by rw [hlen1, hy, hcl]; omega) h1y
      exact this
    have F : Hid (W2.ownsRow base 240 10 (.slice (some ⟨g, 0, none⟩) (n + 1) c) (n + 1) (xs.take (i * 10) ++ ys ++ xs.drop (i * 10)) ∧ Only (one g) w W2) := by
      constructor
      · rw [hW2]
        refine (R1.out.set (putAt_len (by rw [hlen1, hy, hcl]; omega))).own (n + 1) _ hroom ?_
        exact ins_shift cur xs ys 10 n i (by rw [hcl]; omega) hx hy (by omega)
      · rw [hW2]; exact O1.out.setRow (.inl rfl) _
    generalize Nat.min (n + 1 - i) (n - i) = m1 at hcp1
    generalize Nat.min 1 (n + 1 - i) = m2 at hcp2
    have HC1 := Lib.hid hcp1
    clear hcp1 h hx hv hxl hxd hdl hcl hsrcx hsrcy hlen1 hW1 hW2 hn hb h1x h1y hy
    go_enter Tryz.func203, Tryz.ntmps203
    go_wp2_with fail
    go_region_law (first
      | (refine step_copy_run rfl (.tmp 73) (.tmp 76) _ _ rfl (.slice (some ⟨g, (i + 1) * 10, none⟩) (n - i) (c - (i + 1))) (.slice (some ⟨g, i * 10, none⟩) (n + 1 - i) (c - i)) (by simp [Act.eval, Act.put]) (by simp [Act.eval, Act.put]) (HC1.out _ _ _) ?_))
    all_goals go_wp2_with fail
    all_goals go_ret
    all_goals exact ⟨_, rfl, F.out.1, F.out.2, fun k hk => .inl (by have e : some g = some k := hk; injection e with e; exact e.symm)⟩
  · obtain rfl : c = n := by omega
    have hgt : ((c : Int) < (c : Int) + 1) := by omega
    have hsl1 := sl_hi Tryz.underlying241 hi0 g 0 c c i (by omega) (i : Int) rfl
    have hw3 : IntKind.i64.wrap ((c : Int) + 1 - (i : Int)) = (c : Int) + 1 - (i : Int) := IntWalk.i64_in _ (by omega)
    have hw4 : ((c + 1 - i : Nat) : Int) = (c : Int) + 1 - (i : Int) := by omega
    obtain ⟨G, curN, W1, hrun1, hrw1, hG, htk1, o1, hs1⟩ := app_zero (P := Tryz.prog) w 3 241 _ .i64 .i64 Tryz.underlying241 Tryz.underlying3 hi0 hz0 hz1 rfl base g i c c cur h (by omega) (c + 1 - i) (by omega) (by omega) (by omega) (by omega) (by rw [hz2]; decide) hb
    have hiG : i + (c + 1 - i) = c + 1 := by omega
    rw [hiG, hw4] at hrun1
    rw [hiG] at hG
    clear hw4
    have R1 := Lib.hid hrw1
    obtain ⟨N, hN⟩ : ∃ N, w.heap.size = N := ⟨_, rfl⟩
    have HNN := Lib.hid hN
    rw [hN] at hrun1 R1 hglt
    have hcl1 := R1.out.cs
    have G1 : Hid (Rw_ W1 base g 240 10 c cur) := h.only o1 (fun h => h)
    have V1 : Hid (Blk W1 vb 240 ys.toArray) := hv.only o1 (fun h => h)
    have hvN : vb ≠ N := by have := hv.lt; omega
    have hgN : g ≠ N := by omega
    obtain ⟨W2, hW2⟩ : ∃ W2, W2 = W1.setRow N (putAt curN (i * 10) ys).toArray := ⟨_, rfl⟩
    have hlen2 : (putAt curN (i * 10) ys).length = curN.length := putAt_len (by rw [hy, hcl1]; omega)
    have R2 : Hid (Rw_ W2 base N 240 10 G (putAt curN (i * 10) ys)) := by rw [hW2]; exact R1.out.set hlen2
    have O2 : Hid (Only (one N) W1 W2) := by rw [hW2]; exact only_row N _
    have G2 : Hid (Rw_ W2 base g 240 10 c cur) := G1.out.only O2.out (fun e => hgN e)
    have hsl2 := sl_lo0 Tryz.underlying241 hi0 hz1 N (c + 1) G i (by omega) (by omega) (i : Int) rfl
    have hsl3 := sl_lo0 Tryz.underlying241 hi0 hz1 N (c + 1) G (i + 1) (by omega) (by omega) ((i : Int) + 1) (by omega)
    have hcp1 : ∀ ty dc, (Builtin.copy_ #[241, 241] ty #[.slice (some ⟨N, i * 10, none⟩) (c + 1 - i) dc, .slice (some ⟨vb, 0, none⟩) 1 1]).run Tryz.prog W1 = .ok (goInt (Nat.min 1 (c + 1 - i))) W2 := fun ty dc => by
      rw [hW2]
      have := run_copy_k (P := Tryz.prog) W1 _ 241 ty _ i0 10 Tryz.underlying241 hi0 hz1 base N (i * 10) (c + 1 - i) dc G _ R1.out ⟨vb, 0, none⟩ 1 1 ys (by rw [hy, show Nat.min 1 (c + 1 - i) = 1 from Nat.min_eq_left (by omega)]) (hsrcy _ V1.out) (by rw [hy, hcl1]; omega) h1y
      exact this
    obtain ⟨W3, hW3⟩ : ∃ W3, W3 = W2.drew.setRow N (putAt (putAt curN (i * 10) ys) ((i + 1) * 10) (xs.drop (i * 10))).toArray := ⟨_, rfl⟩
    have hcp2 : ∀ ty dc sc, (Builtin.copy_ #[241, 241] ty #[.slice (some ⟨N, (i + 1) * 10, none⟩) (c - i) dc, .slice (some ⟨g, i * 10, none⟩) (c - i) sc]).run Tryz.prog W2.drew = .ok (goInt (Nat.min (c - i) (c - i))) W3 := fun ty dc sc => by
      rw [hW3]
      have := run_copy_k (P := Tryz.prog) W2.drew _ 241 ty _ i0 10 Tryz.underlying241 hi0 hz1 base N ((i + 1) * 10) (c - i) dc G _ R2.out.drew ⟨g, i * 10, none⟩ (c - i) sc (xs.drop (i * 10)) (by rw [hdl]; congr 1; simp only [Nat.min_def]; split <;> omega) (hsrcx _ G2.out.drew) (by rw [hlen2, hdl, hcl1]; omega) hxd
      exact this
    have F : Hid (W3.ownsRow base 240 10 (.slice (some ⟨N, 0, none⟩) (c + 1) G) (c + 1) (xs.take (i * 10) ++ ys ++ xs.drop (i * 10)) ∧ Only (one g) w W3 ∧ w.heap.size ≤ N) := by
      refine ⟨?_, ?_, by omega⟩
      · rw [hW3]
        refine (R2.out.drew.set (putAt_len (by rw [hlen2, hdl, hcl1]; omega))).own (c + 1) _ hG ?_
        exact ins_fresh cur curN xs ys 10 c i (by rw [hcl1]; omega) htk1 hx hy hxl (by omega)
      · have o3 : Only (one N) W1 W3 := by rw [hW3]; exact (O2.out.drew).setRow (.inl rfl) _
        exact (o1.of_none).trans' o3 (fun k hk e => by have e' : k = N := e; omega)
    generalize Nat.min 1 (c + 1 - i) = m1 at hcp1
    generalize Nat.min (c - i) (c - i) = m2 at hcp2
    have HC2 := Lib.hid hcp2
    have HR1 := Lib.hid hrun1
    clear hcp2 hrun1 h hx hv hxl hxd hdl hcl hcl1 hsrcx hsrcy hlen2 hW2 hW3 hn hb h1x h1y hy hrw1 hG htk1 o1 hs1 hN hiG
    go_enter Tryz.func203, Tryz.ntmps203
    go_wp2_with (first
      | (at_builtin; refine wpList_append_run2 rfl (.tmp 34) (.tmp 39) _ _ rfl _ _ rfl rfl HR1.out ?_))
    go_region_law (first
      | (refine step_copy_run rfl (.tmp 50) (.tmp 53) _ _ rfl (.slice (some ⟨N, (i + 1) * 10, none⟩) (c - i) (G - (i + 1))) (.slice (some ⟨g, i * 10, none⟩) (c - i) (c - i)) (by simp [Act.eval, Act.put]) (by simp [Act.eval, Act.put]) (HC2.out _ _ _) ?_))
    all_goals go_wp2_with fail
    all_goals go_ret
    all_goals exact ⟨_, rfl, F.out.1, F.out.2.1, fun k hk => .inr (by have e : some N = some k := hk; injection e with e; have := F.out.2.2; omega)⟩
set_option maxHeartbeats 3200000 in
theorem cloI (A : Option Addr) (n c : Nat) (S : Nat → Prop) (xs : List Value) (w : World) (h : Cel w S (.slice A n c) n 10 xs) (hn : n ≤ 4096) (h1x : ∀ u ∈ xs, u.oneCell' = true) :
    Calls Tryz.prog 133 #[.slice A n c] w fun e w' => ∃ v', e = .returned v' ∧ w'.ownsRow w.heap.size 240 10 v' n xs ∧ Only none_ w w' := by
  obtain ⟨i0, hi0, hz0, hz1, hz2⟩ := info_parts pairI_info
  have H := Lib.hid h
  have hnil := fun w a n c => Lib.run_eql_slice_nil (P := Tryz.prog) w 241 240 a n c 0 0 Tryz.underlying241
  have HN : Hid (0 + n ≤ maxLen ∧ (0 + n) * 104 ≤ 140737488355328) := by simp only [Hid, maxLen]; omega
  cases A with
  | none =>
    have hz : n = 0 ∧ xs = [] ∧ c = 0 := by
      obtain ⟨A', c', e, h0, h1, h2, h3, h4⟩ := h
      injection e with e1 e2 e3
      have hc0 := h3 e1.symm
      have hn0 : n = 0 := by omega
      exact ⟨hn0, List.eq_nil_of_length_eq_zero (by omega), by omega⟩
    obtain ⟨rfl, rfl, rfl⟩ := hz
    clear h H
    go_enter Tryz.func133, Tryz.ntmps133
    go_wp2_with fail
    go_ret
    exact ⟨_, rfl, World.ownsRow_nil _ _ _ _, Only.refl _ _⟩
  | some a =>
    have C1 : Hid (Cel (w.alloc (.cells #[] 240)) S (.slice (some a) n c) n 10 xs) := h.alloc _
    have M1 : Hid ((w.alloc (.cells #[] 240)).ownsRow w.heap.size 240 10 (.slice (some ⟨w.heap.size, 0, none⟩) 0 0) 0 []) := own_made w w.heap.size _ 10 0 #[] (by simp) (by simp [maxLen]) (Nat.le_refl _)
    have hb1 : w.heap.size ≤ (w.alloc (.cells #[] 240)).heap.size := by rw [World.size_alloc]; omega
    clear h
    go_enter Tryz.func133, Tryz.ntmps133
    go_wp2_with (first
      | (at_builtin; refine wpList_append_cel _ rfl (.tmp 5) (.tmp 6) 241 rfl w.heap.size 240 i0 _ 10 104 Tryz.underlying241 hi0 hz0 hz1 hz2 rfl (by omega) _ 0 [] rfl M1.out _ _ n xs rfl C1.out h1x HN.out.1 HN.out.2 hb1 ?_
         intro A5 n5 c5 w5 hown5 hgrow5 hmv5
         have R5 : Hid (w5.ownsRow w.heap.size 240 10 (.slice A5 n5 c5) n xs ∧ Only none_ w w5) := ⟨by simpa using hown5, (((Only.refl none_ w).alloc _).of_none.grown hgrow5 (fun k hk => .inr (by have e : some w.heap.size = some k := hk; injection e with e; omega)))⟩
         clear hown5 hgrow5 hmv5))
    go_ret
    exact ⟨_, rfl, R5.out.1, R5.out.2⟩
end Go.Proofs.YtoohpcomnhfgpaaGreat.Se
end
section
namespace Go.Proofs.YtoohpcomnhfgpaaGreat
open Go.ChangeShapes Go.WideShapes Go.ChangeAt Go.RowKit
set_option linter.unusedVariables false
theorem own : ownKnob Tryz.prog.godebug = none := by kernel_rfl
theorem laidOut : laidOutB Tryz.prog = true := by kernel_rfl
theorem add_plain (b off n : Nat) : (⟨b, off, none⟩ : Addr).add n = ⟨b, off + n, none⟩ := by unfold Addr.add; split <;> simp_all
theorem list_of {α : Type} (n : Nat) (p : Nat → α → Prop) (h : ∀ i, i < n → ∃ a, p i a) : ∃ l : List α, l.length = n ∧ ∀ i (hi : i < l.length), p i l[i] := by
  induction n with
  | zero => exact ⟨[], rfl, fun i hi => absurd hi (by simp)⟩
  | succ n ih =>
    obtain ⟨l, hl, hp⟩ := ih fun i hi => h i (by omega)
    obtain ⟨a, ha⟩ := h n (by omega)
    refine ⟨l ++ [a], by simp [hl], fun i hi => ?_⟩
    by_cases hin : i < l.length
    · rw [List.getElem_append_left hin]; exact hp i hin
    · have : i = n := by simp at hi; omega
      subst this
      rw [List.getElem_append_right (by omega)]
      simpa [hl] using ha
theorem flat_at {α : Type} {k : Nat} (f : α → List Value) (hk : ∀ x, (f x).length = k) : ∀ (l : List α) (i : Nat) (x : α), l[i]? = some x → ∀ j, j < k → (l.flatMap f)[i * k + j]? = (f x)[j]?
  | [], i, x, h => by simp at h
  | y :: l, 0, x, h => fun j hj => by
    have : y = x := by simpa using h
    subst this
    rw [List.flatMap_cons, Nat.zero_mul, Nat.zero_add, List.getElem?_append_left (by rw [hk]; exact hj)]
  | y :: l, i + 1, x, h => fun j hj => by
    have := flat_at f hk l i x (by simpa using h) j hj
    rw [List.flatMap_cons, List.getElem?_append_right (by rw [hk, Nat.succ_mul]; omega), hk, ← this]
    congr 1
    rw [Nat.succ_mul]
    omega
theorem flat_len {α : Type} {k : Nat} (f : α → List Value) (hk : ∀ x, (f x).length = k) : ∀ l : List α, (l.flatMap f).length = l.length * k
  | [] => by simp
  | y :: l => by rw [List.flatMap_cons, List.length_append, hk, flat_len f hk l, List.length_cons, Nat.succ_mul]; omega
theorem cel_in {H : Type} {enc : TypeId × Value → H} {P : Program} {W : World} {t e : TypeId} {k : Nat} {α : Type} (f : α → List Value) (Q : α → Prop) (ht : P.underlying t = some (.slice e)) (hC : P.cellsOf e = k) (hk : ∀ x, (f x).length = k) (h0 : 0 < k)
    (read : ∀ (n : Nat) (r : List Value) (y : DataW H × List MemPlace), r.length = k → DataW.trod enc P W 0 (fun _ => true) true n e r = some y → ∃ x, r = f x ∧ Q x)
    {a : Option Addr} {len cap : Nat} {d : DataW H} {p : List MemPlace} (h : DataW.Trod enc P W 0 (fun _ => true) true t (.slice a len cap) d p) :
    ∃ l : List α, len = l.length ∧ Cel W (fun b => b < W.heap.size) (.slice a len cap) len k (l.flatMap f) ∧ ∀ x ∈ l, Q x := by
  obtain ⟨fuel, hf⟩ := h
  rcases Go.Deep.open_slice ht hf with ⟨hcs, _⟩ | ⟨x, len', cap', m, n, D, Pl, hcs, _, hl, hm, hmm, _, hi⟩
  · simp [Value.cells] at hcs
    obtain ⟨rfl, rfl, rfl⟩ := hcs
    exact ⟨[], rfl, Cel.nil _ _ _, by simp⟩
  · simp [Value.cells] at hcs
    obtain ⟨rfl, rfl, rfl⟩ := hcs
    rw [hC] at hi
    have hlm : len ≤ m := by rw [hmm]; split <;> omega
    obtain ⟨ls, hls, hp⟩ := list_of len (fun i (u : α) => (∀ j, j < k → W.cell? (x.add (i * k + j)) = (f u)[j]?) ∧ Q u) (fun i hil => by
      obtain ⟨r, hr, htr⟩ := hi i (by omega)
      obtain ⟨_, hrl, hat⟩ := World.cells?_some hr
      obtain ⟨u, rfl, hq⟩ := read _ _ _ hrl htr
      refine ⟨u, fun j hj => ?_, hq⟩
      have h2 := hat j hj
      rw [Go.Deep.add_add] at h2
      exact h2)
    subst hls
    refine ⟨ls, rfl, ⟨some x, cap, rfl, flat_len f hk ls, hl, hm, by simp, fun hpos => ?_⟩, fun u hu => ?_⟩
    · have c0 := (hp 0 hpos).1 0 h0
      obtain ⟨b, off, spot⟩ := x
      have hfl : (f ls[0])[0]? = some ((f ls[0])[0]'(by rw [hk]; exact h0)) := List.getElem?_eq_getElem (by rw [hk]; exact h0)
      rw [hfl] at c0
      have hspot : spot = none := by simpa [Addr.add] using World.cell?_spot c0
      subst hspot
      have hlt : b < W.heap.size := World.block_lt_of_cell? W _ (by simpa [Addr.add] using c0)
      refine ⟨b, off, rfl, hlt, hlt, fun j u hu => ?_⟩
      have hjl : j < ls.length * k := by
        have := (List.getElem?_eq_some_iff.1 hu).1
        rw [flat_len f hk] at this
        exact this
      have hdiv : j / k < ls.length := (Nat.div_lt_iff_lt_mul h0).2 hjl
      have hmod : j % k < k := Nat.mod_lt _ h0
      have h3 := (hp (j / k) hdiv).1 (j % k) hmod
      have h4 := flat_at f hk ls (j / k) _ (List.getElem?_eq_getElem hdiv) (j % k) hmod
      have e : j / k * k + j % k = j := Nat.div_add_mod' j k
      rw [e] at h3 h4
      rw [add_plain, ← h4, hu] at h3
      exact h3
    · obtain ⟨j, hj, rfl⟩ := List.mem_iff_getElem.1 hu
      exact (hp j hj).2
end Go.Proofs.YtoohpcomnhfgpaaGreat
end
