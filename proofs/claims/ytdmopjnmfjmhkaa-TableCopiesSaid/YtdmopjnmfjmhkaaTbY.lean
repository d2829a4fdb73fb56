/- All and Copy of a table of numbers. Written by gen_tby.py from tby.head. No statement of the seat is proved here. -/
import Derived.Test.YtdmopjnmfjmhkaaTbX
import Derived.Test.YtdmopjnmfjmhkaaTbXr
namespace Go.Proofs.Ytdmopjnmfjmhkaa
open Go.RowKit Go.Shelf
set_option maxRecDepth 100000
set_option linter.all false
attribute [local go_sem] Oper.semAt_some

set_option maxHeartbeats 3200000 in
theorem tb_all (B : World) (g : Nat) (room : Int) (l : List (Pr Int)) (v : Value) (w : World) (h : Tb B g room l v w) :
    Calls Try.prog 32 #[.pointer (some ⟨g, 0, none⟩)] w fun e w' => ∃ hP A n c, e = .returned (.func (.func 56) #[] #[.pointer (some ⟨hP, 0, none⟩)]) ∧ w.heap.size ≤ hP ∧ n = l.length ∧ Blk w' hP 75 #[.slice A n c] ∧ Cel w' (fun b => w.heap.size ≤ b) (.slice A n c) n 2 (l.flatMap prI) ∧ Only none_ w w' := by
  have hmf : ∀ (fn : Fn) (first cap : Array Value) (w : World), (Instr.makeFunc fn first cap).run Try.prog w = .ok (.func fn first cap) w := fun _ _ _ _ => rfl
  obtain ⟨A, c, rfl⟩ := h.shape
  have c1 := h.bk.cell_ (i := 1) rfl
  have hml := h.ml
  have H := Lib.hid h.cel
  obtain ⟨L, hL⟩ : ∃ L, l.length = L := ⟨_, rfl⟩
  rw [hL] at c1 hml H ⊢
  have CLO := Lib.hid (cloI A L c _ _ w H.out hml (prI_one l))
  have HL := Lib.hid hL
  clear h hL
  go_enter Try.func32, Try.ntmps32
  go_wp2_with (first
    | (go_at_call 52; refine CLO.out.mono ?_; rintro e w1 ⟨v1, rfl, own1, o1⟩
       obtain ⟨A1, n1, c1', rfl⟩ := own_shape own1
       have HN1 : Hid (n1 = L) := by obtain ⟨_, _, e, _⟩ := Cel.of_own own1; injection e
       have C1 : Hid (Cel (w1.alloc (.cells #[.slice A1 n1 c1'] 75)) (fun b => w.heap.size ≤ b) (.slice A1 n1 c1') n1 2 (l.flatMap prI)) := by
         have h2 := (Cel.of_own own1).mono (T := fun b => w.heap.size ≤ b) (fun b _ hb => (own1.lt b hb).1)
         rw [← HN1.out] at h2
         exact h2.alloc _
       have O1 := Lib.hid (o1.alloc (.cells #[.slice A1 n1 c1'] 75))
       have B1 := Lib.hid (Blk.new w1 75 #[.slice A1 n1 c1'])
       have SZ := Lib.hid o1.size
       clear own1 o1))
  go_ret
  exact ⟨w1.heap.size, A1, n1, c1', rfl, SZ.out, HN1.out, B1.out, C1.out, O1.out⟩

/-- Between two rounds of Copy's loop: the new table has the pairs that were gone through. -/
structure Cq (w w1 : World) (room : Int) (pre : List (Pr Int)) (W : World) : Prop where
  ex : ∃ v', Blk W (w.heap.size + 1) 25 #[.pointer (some ⟨w.heap.size, 0, none⟩)] ∧ Blk W w.heap.size 80 #[.int .i64 room, v'] ∧ W.ownsRow w1.heap.size 78 2 v' pre.length (pre.flatMap prI)
  ho : Only none_ w W
  sz : w1.heap.size ≤ W.heap.size
theorem blk_row {W W' : World} {b : Nat} {t : TypeId} {cs : Array Value} {row : Option Nat} (h : Blk W b t cs) (hg : W.grownBy W' row) (hr : ∀ r, row = some r → ∃ o : Obj, W.heap[r]? = some o ∧ o.isCells = false) : Blk W' b t cs := by
  refine h.grown' hg ?_
  intro e
  obtain ⟨o, ho, hc⟩ := hr b e
  unfold Blk at h
  rw [h] at ho
  cases ho
  cases hc
theorem own_row {W W' : World} {base : Nat} {e : TypeId} {size n : Nat} {v : Value} {xs : List Value} {row : Option Nat} (h : W.ownsRow base e size v n xs) (hg : W.grownBy W' row) (hr : ∀ r, row = some r → ∃ o : Obj, W.heap[r]? = some o ∧ o.isCells = false) : W'.ownsRow base e size v n xs := by
  rcases h.2 with ⟨rfl, _⟩ | ⟨g, cap, cur, rfl, _, hh, _⟩
  · exact h.kept hg (.inl rfl)
  · refine h.kept hg (.inr ?_)
    intro e'
    obtain ⟨o, ho, hc⟩ := hr g (by rw [← e']; rfl)
    rw [hh] at ho
    cases ho
    cases hc
theorem own_others {W W' : World} {base : Nat} {e : TypeId} {size n : Nat} {v : Value} {xs : List Value} (h : W.ownsRow base e size v n xs) (hg : W.grownBy W' v.ownBlock) : KeepsOthers W W' := by
  refine KeepsOthers.of_grownBy hg ?_
  intro j o hj ho
  rcases h.2 with ⟨rfl, _⟩ | ⟨g, cap, cur, rfl, _, hh, _⟩
  · cases hj
  · have : g = j := by simpa [Value.ownBlock] using hj
    subst this
    rw [hh] at ho
    cases ho
    rfl
theorem Cq.own (w w1 : World) (room : Int) (hs : w.heap.size ≤ w1.heap.size) : OwnFrom w1.heap.size (Cq w w1 room) := by
  intro s W W' row h hg hr
  obtain ⟨v', b1, b2, ow⟩ := h.ex
  have hr' := fun r e => (hr r e).2
  exact ⟨⟨v', blk_row b1 hg hr', blk_row b2 hg hr', own_row ow hg hr'⟩, h.ho.grown hg (fun k e => .inr (Nat.le_trans hs (hr k e).1)), Nat.le_trans h.sz hg.size⟩

set_option maxHeartbeats 6400000 in
theorem tb_copy (B : World) (g : Nat) (room : Int) (l : List (Pr Int)) (v : Value) (w : World) (h : Tb B g room l v w) :
    Calls Try.prog 11 #[.pointer (some ⟨g, 0, none⟩)] w fun e w' => ∃ g' v', e = .returned (.pointer (some ⟨g', 0, none⟩)) ∧ w.heap.size ≤ g' ∧ Blk w' g' 80 #[.int .i64 room, v'] ∧ w'.ownsRow w.heap.size 78 2 v' l.length (l.flatMap prI) ∧ Only none_ w w' := by
  have c0 := h.bk.cell_ (i := 0) rfl
  have hml := h.ml
  obtain ⟨i0, hi0, hz0, hz1, hz2⟩ := info_parts pairI_info
  obtain ⟨w0, hw0⟩ : ∃ w0, (w.alloc (.cells #[.int .i64 room, .slice none 0 0] 80)).alloc (.cells #[.pointer (some ⟨w.heap.size, 0, none⟩)] 25) = w0 := ⟨_, rfl⟩
  have o0 : Only none_ w w0 := by rw [← hw0]; exact ((Only.refl none_ w).alloc _).alloc _
  have bG0 : Blk w0 w.heap.size 80 #[.int .i64 room, .slice none 0 0] := by rw [← hw0]; exact (Blk.new w _ _).alloc _
  have bB0 : Blk w0 (w.heap.size + 1) 25 #[.pointer (some ⟨w.heap.size, 0, none⟩)] := by
    rw [← hw0]
    have := Blk.new (w.alloc (.cells #[.int .i64 room, .slice none 0 0] 80)) 25 #[.pointer (some ⟨w.heap.size, 0, none⟩)]
    rwa [World.size_alloc] at this
  have hs0 : w.heap.size < w0.heap.size := bG0.lt
  have HA := Lib.hid (tb_all B g room l v w0 (h.keep o0))
  clear h
  refine (callsIn_wide (n := 3)).1 ?_
  refine callsIn_of_wp_marks Try.func11 rfl trivial ?_ rfl
  simp only [Try.ntmps11, List.size_toArray, List.length_cons, List.length_nil, Nat.reduceAdd, Nat.reduceSub, Array.replicate_succ, Array.replicate_zero, List.push_toArray, List.append_toArray, List.nil_append, List.cons_append]
  gi_wp2_with (refine ⟨trivial, ?_⟩; (try rw [hw0]); refine (callsIn_wide.2 HA.out).mono ?_; rintro e w1 ⟨hP, A, n, c, rfl, hP0, hn, b1, cel1, o1⟩)
  have hs1 : w0.heap.size ≤ w1.heap.size := o1.size
  refine wpIn_rangeFunc_ownG rfl (by omega) (gf := 56) (lb := #[.pointer (some ⟨hP, 0, none⟩)]) rfl trivial (enters_of Try.func56 (by kernel_rfl) rfl)
    (all_stops Fence.wide 2 trivial rfl (by omega) hP (fun k => k = w.heap.size ∨ w1.heap.size ≤ k) A c n l hn (by omega) w1 b1.lt (b1.cell_ (i := 0) rfl) (cel1.mono (fun b hb h0 e => by rcases e with e | e <;> omega)))
    (fun h k => h.trans k) (fun W ll o o' hl hh _ _ => (Only.refl _ W).grown (grownBy_putObj' W ll o') (fun k e => by cases e; exact .inl (.inr hl))) (Below.refl _ _) (fun _ => rfl)
    (Cq w w1 room) (fun _ _ _ => False) (Cq.own w w1 room (by omega)) (fun _ _ _ _ _ hs _ _ => hs)
    ⟨⟨_, bB0.only o1 (fun h => h), bG0.only o1 (fun h => h), World.ownsRow_nil _ _ _ _⟩, o0.trans o1, Nat.le_refl _⟩
    (fun x => { tmps := #[.pointer (some ⟨g, 0, none⟩), undef, .pointer none, .pointer (some ⟨w.heap.size + 1, 0, none⟩), .string x.k, .int .i64 x.v, .pointer (some ⟨g, 0, none⟩), .pointer (some ⟨g, 0, none⟩), .pointer (some ⟨g, 0, none⟩), .int .i64 room, .agg #[.int .i64 room, .slice none 0 0], .pointer (some ⟨w.heap.size, 0, none⟩), .pointer (some ⟨g, 0, none⟩), .func (.func 56) #[] #[.pointer (some ⟨hP, 0, none⟩)], .string x.k, .int .i64 x.v, undef, undef, undef, undef, undef, undef, undef, undef, undef, undef, undef, undef, undef], defers := [] }) ?assign ?body ?done ?stop
  case assign =>
    intro ll x W K hK
    gi_wp2
    exact hK
  case body =>
    intro ll pre x W hI hlen
    obtain ⟨v', bB, bG, ow⟩ := hI.ex
    have ho := hI.ho
    have hsz := hI.sz
    gi_wp2
    refine region_round ll _ (by kernel_rfl) (by kernel_rfl) (fun h => by obtain ⟨_, _, h⟩ := h; exact h) ?_
    obtain ⟨W2, hW2⟩ : ∃ W2, W.drew = W2 := ⟨_, rfl⟩
    have o2 : Only none_ W W2 := by rw [← hW2]; exact (Only.refl none_ W).drew
    have k2 : KeepsOthers W W2 := by rw [← hW2]; exact KeepsOthers.drew W
    rw [hW2]
    have bB2 := bB.only o2 (fun h => h)
    have bG2 := bG.only o2 (fun h => h)
    have ow2 := owns_only ow o2 (fun _ _ h => h)
    have cB2 := bB2.cell_ (i := 0) rfl
    have cG2 := bG2.cell_ (i := 1) rfl
    have bB3 := bB2.alloc (.cells #[.string x.k, .int .i64 x.v] 78)
    have bG3 := bG2.alloc (.cells #[.string x.k, .int .i64 x.v] 78)
    have ow3 := owns_only ow2 ((Only.refl none_ W2).alloc (.cells #[.string x.k, .int .i64 x.v] 78)) (fun _ _ h => h)
    have cB3 := bB3.cell_ (i := 0) rfl
    have cG3 := bG3.cell_ (i := 1) rfl
    have CM := Lib.hid (cel_made W2 78 2 1 #[.string x.k, .int .i64 x.v] rfl (by simp [maxLen]))
    have ONE : Hid (∀ u ∈ (#[.string x.k, .int .i64 x.v] : Array Value).toList, u.oneCell' = true) := by intro u hu; simp at hu; rcases hu with rfl | rfl <;> rfl
    have B63 : Hid (pre.length + 1 ≤ maxLen) := by simp only [Hid, maxLen]; omega
    have BBY : Hid ((pre.length + 1) * 24 ≤ 140737488355328) := by simp only [Hid]; omega
    have BSZ : Hid (w1.heap.size ≤ (W2.alloc (.cells #[.string x.k, .int .i64 x.v] 78)).heap.size) := by have := o2.size; simp only [Hid, World.size_alloc]; omega
    have OW3 := Lib.hid ow3
    have F4 : Hid (∀ (w4 : World), (W2.alloc (.cells #[.string x.k, .int .i64 x.v] 78)).grownBy w4 v'.ownBlock → w4.cell? ⟨w.heap.size + 1, 0, none⟩ = some (.pointer (some ⟨w.heap.size, 0, none⟩)) ∧ w4.cell? ⟨w.heap.size, 1, none⟩ = some v' ∧ w4.frozen? ⟨w.heap.size, 1, none⟩ = false) := by
      intro w4 hg
      have h1 := bB3.grown' hg (own_blk_ne ow3 bB3 (by decide))
      have h2 := bG3.grown' hg (own_blk_ne ow3 bG3 (by decide))
      exact ⟨h1.cell_ (i := 0) rfl, h2.cell_ (i := 1) rfl, h2.frozen 1⟩
    have HEND : Hid (∀ (A4 : Option Addr) (n4 c4 : Nat) (w4 : World), w4.ownsRow w1.heap.size 78 2 (.slice A4 n4 c4) (pre.length + 1) (pre.flatMap prI ++ (#[.string x.k, .int .i64 x.v] : Array Value).toList) → (W2.alloc (.cells #[.string x.k, .int .i64 x.v] 78)).grownBy w4 v'.ownBlock →
        KeepsFrom w1.heap.size W (w4.setCell ⟨w.heap.size, 1, none⟩ (.slice A4 n4 c4)) ∧ Only (fun k => k = w.heap.size ∨ w1.heap.size ≤ k) W (w4.setCell ⟨w.heap.size, 1, none⟩ (.slice A4 n4 c4)) ∧ Cq w w1 room (pre ++ [x]) (w4.setCell ⟨w.heap.size, 1, none⟩ (.slice A4 n4 c4))) := by
      intro A4 n4 c4 w4 own4 hg
      have h1 := bB3.grown' hg (own_blk_ne ow3 bB3 (by decide))
      have h2 := bG3.grown' hg (own_blk_ne ow3 bG3 (by decide))
      have hrow : ∀ k, v'.ownBlock = some k → w1.heap.size ≤ k := fun k e => (ow3.lt k e).1
      have q4 : Only (fun k => k = w.heap.size ∨ w1.heap.size ≤ k) W w4 := (o2.of_none.alloc (.cells #[.string x.k, .int .i64 x.v] 78)).grown hg (fun k e => .inl (.inr (hrow k e)))
      refine ⟨(((k2.trans (KeepsOthers.alloc _ _)).trans (own_others ow3 hg)).trans (KeepsOthers.setCell _ _ _)).from _, q4.setCell (.inl (.inl rfl)) _, ⟨⟨_, h1.far (by simp) _, h2.set_ 1 _, ?_⟩, ?_, ?_⟩⟩
      · rw [List.length_append, List.flatMap_append]
        refine owns_only own4 ((Only.refl (one w.heap.size) w4).setCell (p := ⟨w.heap.size, 1, none⟩) (.inl (show one w.heap.size w.heap.size from rfl)) _) (fun b hb e => ?_)
        exact own_blk_ne own4 h2 (by decide) (by rw [hb, show b = w.heap.size from e])
      · exact ho.trans' (q4.setCell (p := ⟨w.heap.size, 1, none⟩) (.inl (.inl rfl)) (.slice A4 n4 c4)) (fun k hk e => by rcases e with e | e <;> omega)
      · have := q4.size; simpa [World.setCell] using Nat.le_trans hsz this
    clear bB bG ow ho hsz o2 k2 bB2 bG2 ow2 bB3 bG3 ow3 hI hW2
    refine wpAny_take (i := 5) (v := .string x.k) rfl (by kernel_rfl) (by kernel_rfl) (by kernel_rfl) (fun _ _ _ h => h) (Or.inl ⟨by rfl, by intro w; go_simp⟩) ?_
    refine wpAny_take (i := 6) (v := .int .i64 x.v) rfl (by kernel_rfl) (by kernel_rfl) (by kernel_rfl) (fun _ _ _ h => h) (Or.inl ⟨by rfl, by intro w; go_simp⟩) ?_
    refine wpAny_take (i := 7) (v := .agg #[.string x.k, .int .i64 x.v]) rfl (by kernel_rfl) (by kernel_rfl) (by kernel_rfl) (fun _ _ _ h => h) (Or.inl ⟨by rfl, by intro w; go_simp⟩) ?_
    refine wpAny_ready (rs := [0, 1, 8]) (by kernel_rfl) (by simp) ?_
    refine AllReady.cons rfl (fun K hK => ?_) ?_
    · go_simp
      refine hK _ _ ?_
      clear hK K
      refine wpAny_ready (rs := [1, 8]) (by kernel_rfl) (by simp) ?_
      refine AllReady.cons rfl (fun K hK => ?_) ?_
      · go_simp
        refine hK _ _ ?_
        clear hK K
        refine wpAny_take (i := 2) (v := .pointer (some ⟨w.heap.size, 0, none⟩)) rfl (by kernel_rfl) (by kernel_rfl) (by kernel_rfl) (fun _ _ _ h => h) (Or.inl ⟨by rfl, by intro w; go_simp⟩) ?_
        refine wpAny_take (i := 3) (v := .pointer (some ⟨w.heap.size, 1, none⟩)) rfl (by kernel_rfl) (by kernel_rfl) (by kernel_rfl) (fun _ _ _ h => h) (Or.inl ⟨by rfl, by intro w; go_simp⟩) ?_
        refine wpAny_ready (rs := [4, 8]) (by kernel_rfl) (by simp) ?_
        refine AllReady.cons rfl (fun K hK => ?_) ?_
        · go_simp
          refine hK _ _ ?_
          clear hK K
          refine wpAny_ready (rs := [8]) (by kernel_rfl) (by simp) ?_
          refine AllReady.cons rfl (fun K hK => ?_) ?_
          · go_simp
            refine hK _ _ ?_
            clear hK K
            refine wpAny_ready (rs := [9]) (by kernel_rfl) (by simp) ?_
            refine AllReady.cons rfl (fun K hK => ?_) ?_
            · refine step_append_cel _ (by simp [Region.wanted]) (.tmp 20) (.tmp 24) 75 rfl w1.heap.size 78 i0 _ 2 24 Try.underlying75 hi0 hz0 hz1 hz2 rfl (by omega) v' pre.length _ (by simp [Act.eval, Act.put]) (by exact OW3.out) _ (.slice (some ⟨W2.heap.size, 0, none⟩) 1 1) 1 _ (by simp [Act.eval, Act.put]) (by exact CM.out) (by exact ONE.out) (by exact B63.out) (by exact BBY.out) (by exact BSZ.out) ?_
              intro A4 n4 c4 w4 own4 grow4 mv4
              have cB4 := (F4.out _ grow4).1
              have cG4 := (F4.out _ grow4).2.1
              have fG4 := (F4.out _ grow4).2.2
              clear mv4
              refine hK _ _ ?_
              clear hK K
              refine wpAny_take (i := 10) (v := .pointer (some ⟨w.heap.size, 0, none⟩)) rfl (by kernel_rfl) (by kernel_rfl) (by kernel_rfl) (fun _ _ _ h => h) (Or.inl ⟨by rfl, by intro w; go_simp⟩) ?_
              refine wpAny_take (i := 11) (v := .pointer (some ⟨w.heap.size, 1, none⟩)) rfl (by kernel_rfl) (by kernel_rfl) (by kernel_rfl) (fun _ _ _ h => h) (Or.inl ⟨by rfl, by intro w; go_simp⟩) ?_
              refine wpAny_ready (rs := [12]) (by kernel_rfl) (by simp) ?_
              refine AllReady.cons rfl (fun K hK => ?_) ?_
              · go_simp
                refine hK _ _ ?_
                clear hK K
                refine wpAny_done (by kernel_rfl) ?_ _
                exact HEND.out _ _ _ _ own4 grow4
              exact AllReady.nil
            exact AllReady.nil
          exact AllReady.nil
        refine AllReady.cons rfl (fun K hK => ?_) ?_
        · go_simp
          refine hK _ _ ?_
          clear hK K
          refine wpAny_ready (rs := [4]) (by kernel_rfl) (by simp) ?_
          refine AllReady.cons rfl (fun K hK => ?_) ?_
          · go_simp
            refine hK _ _ ?_
            clear hK K
            refine wpAny_ready (rs := [9]) (by kernel_rfl) (by simp) ?_
            refine AllReady.cons rfl (fun K hK => ?_) ?_
            · refine step_append_cel _ (by simp [Region.wanted]) (.tmp 20) (.tmp 24) 75 rfl w1.heap.size 78 i0 _ 2 24 Try.underlying75 hi0 hz0 hz1 hz2 rfl (by omega) v' pre.length _ (by simp [Act.eval, Act.put]) (by exact OW3.out) _ (.slice (some ⟨W2.heap.size, 0, none⟩) 1 1) 1 _ (by simp [Act.eval, Act.put]) (by exact CM.out) (by exact ONE.out) (by exact B63.out) (by exact BBY.out) (by exact BSZ.out) ?_
              intro A4 n4 c4 w4 own4 grow4 mv4
              have cB4 := (F4.out _ grow4).1
              have cG4 := (F4.out _ grow4).2.1
              have fG4 := (F4.out _ grow4).2.2
              clear mv4
              refine hK _ _ ?_
              clear hK K
              refine wpAny_take (i := 10) (v := .pointer (some ⟨w.heap.size, 0, none⟩)) rfl (by kernel_rfl) (by kernel_rfl) (by kernel_rfl) (fun _ _ _ h => h) (Or.inl ⟨by rfl, by intro w; go_simp⟩) ?_
              refine wpAny_take (i := 11) (v := .pointer (some ⟨w.heap.size, 1, none⟩)) rfl (by kernel_rfl) (by kernel_rfl) (by kernel_rfl) (fun _ _ _ h => h) (Or.inl ⟨by rfl, by intro w; go_simp⟩) ?_
              refine wpAny_ready (rs := [12]) (by kernel_rfl) (by simp) ?_
              refine AllReady.cons rfl (fun K hK => ?_) ?_
              · go_simp
                refine hK _ _ ?_
                clear hK K
                refine wpAny_done (by kernel_rfl) ?_ _
                exact HEND.out _ _ _ _ own4 grow4
              exact AllReady.nil
            exact AllReady.nil
          exact AllReady.nil
        exact AllReady.nil
      refine AllReady.cons rfl (fun K hK => ?_) ?_
      · go_simp
        refine hK _ _ ?_
        clear hK K
        refine wpAny_ready (rs := [1]) (by kernel_rfl) (by simp) ?_
        refine AllReady.cons rfl (fun K hK => ?_) ?_
        · go_simp
          refine hK _ _ ?_
          clear hK K
          refine wpAny_take (i := 2) (v := .pointer (some ⟨w.heap.size, 0, none⟩)) rfl (by kernel_rfl) (by kernel_rfl) (by kernel_rfl) (fun _ _ _ h => h) (Or.inl ⟨by rfl, by intro w; go_simp⟩) ?_
          refine wpAny_take (i := 3) (v := .pointer (some ⟨w.heap.size, 1, none⟩)) rfl (by kernel_rfl) (by kernel_rfl) (by kernel_rfl) (fun _ _ _ h => h) (Or.inl ⟨by rfl, by intro w; go_simp⟩) ?_
          refine wpAny_ready (rs := [4]) (by kernel_rfl) (by simp) ?_
          refine AllReady.cons rfl (fun K hK => ?_) ?_
          · go_simp
            refine hK _ _ ?_
            clear hK K
            refine wpAny_ready (rs := [9]) (by kernel_rfl) (by simp) ?_
            refine AllReady.cons rfl (fun K hK => ?_) ?_
            · refine step_append_cel _ (by simp [Region.wanted]) (.tmp 20) (.tmp 24) 75 rfl w1.heap.size 78 i0 _ 2 24 Try.underlying75 hi0 hz0 hz1 hz2 rfl (by omega) v' pre.length _ (by simp [Act.eval, Act.put]) (by exact OW3.out) _ (.slice (some ⟨W2.heap.size, 0, none⟩) 1 1) 1 _ (by simp [Act.eval, Act.put]) (by exact CM.out) (by exact ONE.out) (by exact B63.out) (by exact BBY.out) (by exact BSZ.out) ?_
              intro A4 n4 c4 w4 own4 grow4 mv4
              have cB4 := (F4.out _ grow4).1
              have cG4 := (F4.out _ grow4).2.1
              have fG4 := (F4.out _ grow4).2.2
              clear mv4
              refine hK _ _ ?_
              clear hK K
              refine wpAny_take (i := 10) (v := .pointer (some ⟨w.heap.size, 0, none⟩)) rfl (by kernel_rfl) (by kernel_rfl) (by kernel_rfl) (fun _ _ _ h => h) (Or.inl ⟨by rfl, by intro w; go_simp⟩) ?_
              refine wpAny_take (i := 11) (v := .pointer (some ⟨w.heap.size, 1, none⟩)) rfl (by kernel_rfl) (by kernel_rfl) (by kernel_rfl) (fun _ _ _ h => h) (Or.inl ⟨by rfl, by intro w; go_simp⟩) ?_
              refine wpAny_ready (rs := [12]) (by kernel_rfl) (by simp) ?_
              refine AllReady.cons rfl (fun K hK => ?_) ?_
              · go_simp
                refine hK _ _ ?_
                clear hK K
                refine wpAny_done (by kernel_rfl) ?_ _
                exact HEND.out _ _ _ _ own4 grow4
              exact AllReady.nil
            exact AllReady.nil
          exact AllReady.nil
        exact AllReady.nil
      exact AllReady.nil
    refine AllReady.cons rfl (fun K hK => ?_) ?_
    · go_simp
      refine hK _ _ ?_
      clear hK K
      refine wpAny_take (i := 2) (v := .pointer (some ⟨w.heap.size, 0, none⟩)) rfl (by kernel_rfl) (by kernel_rfl) (by kernel_rfl) (fun _ _ _ h => h) (Or.inl ⟨by rfl, by intro w; go_simp⟩) ?_
      refine wpAny_take (i := 3) (v := .pointer (some ⟨w.heap.size, 1, none⟩)) rfl (by kernel_rfl) (by kernel_rfl) (by kernel_rfl) (fun _ _ _ h => h) (Or.inl ⟨by rfl, by intro w; go_simp⟩) ?_
      refine wpAny_ready (rs := [0, 4, 8]) (by kernel_rfl) (by simp) ?_
      refine AllReady.cons rfl (fun K hK => ?_) ?_
      · go_simp
        refine hK _ _ ?_
        clear hK K
        refine wpAny_ready (rs := [4, 8]) (by kernel_rfl) (by simp) ?_
        refine AllReady.cons rfl (fun K hK => ?_) ?_
        · go_simp
          refine hK _ _ ?_
          clear hK K
          refine wpAny_ready (rs := [8]) (by kernel_rfl) (by simp) ?_
          refine AllReady.cons rfl (fun K hK => ?_) ?_
          · go_simp
            refine hK _ _ ?_
            clear hK K
            refine wpAny_ready (rs := [9]) (by kernel_rfl) (by simp) ?_
            refine AllReady.cons rfl (fun K hK => ?_) ?_
            · refine step_append_cel _ (by simp [Region.wanted]) (.tmp 20) (.tmp 24) 75 rfl w1.heap.size 78 i0 _ 2 24 Try.underlying75 hi0 hz0 hz1 hz2 rfl (by omega) v' pre.length _ (by simp [Act.eval, Act.put]) (by exact OW3.out) _ (.slice (some ⟨W2.heap.size, 0, none⟩) 1 1) 1 _ (by simp [Act.eval, Act.put]) (by exact CM.out) (by exact ONE.out) (by exact B63.out) (by exact BBY.out) (by exact BSZ.out) ?_
              intro A4 n4 c4 w4 own4 grow4 mv4
              have cB4 := (F4.out _ grow4).1
              have cG4 := (F4.out _ grow4).2.1
              have fG4 := (F4.out _ grow4).2.2
              clear mv4
              refine hK _ _ ?_
              clear hK K
              refine wpAny_take (i := 10) (v := .pointer (some ⟨w.heap.size, 0, none⟩)) rfl (by kernel_rfl) (by kernel_rfl) (by kernel_rfl) (fun _ _ _ h => h) (Or.inl ⟨by rfl, by intro w; go_simp⟩) ?_
              refine wpAny_take (i := 11) (v := .pointer (some ⟨w.heap.size, 1, none⟩)) rfl (by kernel_rfl) (by kernel_rfl) (by kernel_rfl) (fun _ _ _ h => h) (Or.inl ⟨by rfl, by intro w; go_simp⟩) ?_
              refine wpAny_ready (rs := [12]) (by kernel_rfl) (by simp) ?_
              refine AllReady.cons rfl (fun K hK => ?_) ?_
              · go_simp
                refine hK _ _ ?_
                clear hK K
                refine wpAny_done (by kernel_rfl) ?_ _
                exact HEND.out _ _ _ _ own4 grow4
              exact AllReady.nil
            exact AllReady.nil
          exact AllReady.nil
        refine AllReady.cons rfl (fun K hK => ?_) ?_
        · go_simp
          refine hK _ _ ?_
          clear hK K
          refine wpAny_ready (rs := [4]) (by kernel_rfl) (by simp) ?_
          refine AllReady.cons rfl (fun K hK => ?_) ?_
          · go_simp
            refine hK _ _ ?_
            clear hK K
            refine wpAny_ready (rs := [9]) (by kernel_rfl) (by simp) ?_
            refine AllReady.cons rfl (fun K hK => ?_) ?_
            · refine step_append_cel _ (by simp [Region.wanted]) (.tmp 20) (.tmp 24) 75 rfl w1.heap.size 78 i0 _ 2 24 Try.underlying75 hi0 hz0 hz1 hz2 rfl (by omega) v' pre.length _ (by simp [Act.eval, Act.put]) (by exact OW3.out) _ (.slice (some ⟨W2.heap.size, 0, none⟩) 1 1) 1 _ (by simp [Act.eval, Act.put]) (by exact CM.out) (by exact ONE.out) (by exact B63.out) (by exact BBY.out) (by exact BSZ.out) ?_
              intro A4 n4 c4 w4 own4 grow4 mv4
              have cB4 := (F4.out _ grow4).1
              have cG4 := (F4.out _ grow4).2.1
              have fG4 := (F4.out _ grow4).2.2
              clear mv4
              refine hK _ _ ?_
              clear hK K
              refine wpAny_take (i := 10) (v := .pointer (some ⟨w.heap.size, 0, none⟩)) rfl (by kernel_rfl) (by kernel_rfl) (by kernel_rfl) (fun _ _ _ h => h) (Or.inl ⟨by rfl, by intro w; go_simp⟩) ?_
              refine wpAny_take (i := 11) (v := .pointer (some ⟨w.heap.size, 1, none⟩)) rfl (by kernel_rfl) (by kernel_rfl) (by kernel_rfl) (fun _ _ _ h => h) (Or.inl ⟨by rfl, by intro w; go_simp⟩) ?_
              refine wpAny_ready (rs := [12]) (by kernel_rfl) (by simp) ?_
              refine AllReady.cons rfl (fun K hK => ?_) ?_
              · go_simp
                refine hK _ _ ?_
                clear hK K
                refine wpAny_done (by kernel_rfl) ?_ _
                exact HEND.out _ _ _ _ own4 grow4
              exact AllReady.nil
            exact AllReady.nil
          exact AllReady.nil
        exact AllReady.nil
      refine AllReady.cons rfl (fun K hK => ?_) ?_
      · go_simp
        refine hK _ _ ?_
        clear hK K
        refine wpAny_ready (rs := [0, 8]) (by kernel_rfl) (by simp) ?_
        refine AllReady.cons rfl (fun K hK => ?_) ?_
        · go_simp
          refine hK _ _ ?_
          clear hK K
          refine wpAny_ready (rs := [8]) (by kernel_rfl) (by simp) ?_
          refine AllReady.cons rfl (fun K hK => ?_) ?_
          · go_simp
            refine hK _ _ ?_
            clear hK K
            refine wpAny_ready (rs := [9]) (by kernel_rfl) (by simp) ?_
            refine AllReady.cons rfl (fun K hK => ?_) ?_
            · refine step_append_cel _ (by simp [Region.wanted]) (.tmp 20) (.tmp 24) 75 rfl w1.heap.size 78 i0 _ 2 24 Try.underlying75 hi0 hz0 hz1 hz2 rfl (by omega) v' pre.length _ (by simp [Act.eval, Act.put]) (by exact OW3.out) _ (.slice (some ⟨W2.heap.size, 0, none⟩) 1 1) 1 _ (by simp [Act.eval, Act.put]) (by exact CM.out) (by exact ONE.out) (by exact B63.out) (by exact BBY.out) (by exact BSZ.out) ?_
              intro A4 n4 c4 w4 own4 grow4 mv4
              have cB4 := (F4.out _ grow4).1
              have cG4 := (F4.out _ grow4).2.1
              have fG4 := (F4.out _ grow4).2.2
              clear mv4
              refine hK _ _ ?_
              clear hK K
              refine wpAny_take (i := 10) (v := .pointer (some ⟨w.heap.size, 0, none⟩)) rfl (by kernel_rfl) (by kernel_rfl) (by kernel_rfl) (fun _ _ _ h => h) (Or.inl ⟨by rfl, by intro w; go_simp⟩) ?_
              refine wpAny_take (i := 11) (v := .pointer (some ⟨w.heap.size, 1, none⟩)) rfl (by kernel_rfl) (by kernel_rfl) (by kernel_rfl) (fun _ _ _ h => h) (Or.inl ⟨by rfl, by intro w; go_simp⟩) ?_
              refine wpAny_ready (rs := [12]) (by kernel_rfl) (by simp) ?_
              refine AllReady.cons rfl (fun K hK => ?_) ?_
              · go_simp
                refine hK _ _ ?_
                clear hK K
                refine wpAny_done (by kernel_rfl) ?_ _
                exact HEND.out _ _ _ _ own4 grow4
              exact AllReady.nil
            exact AllReady.nil
          exact AllReady.nil
        refine AllReady.cons rfl (fun K hK => ?_) ?_
        · go_simp
          refine hK _ _ ?_
          clear hK K
          refine wpAny_ready (rs := [0, 9]) (by kernel_rfl) (by simp) ?_
          refine AllReady.cons rfl (fun K hK => ?_) ?_
          · go_simp
            refine hK _ _ ?_
            clear hK K
            refine wpAny_ready (rs := [9]) (by kernel_rfl) (by simp) ?_
            refine AllReady.cons rfl (fun K hK => ?_) ?_
            · refine step_append_cel _ (by simp [Region.wanted]) (.tmp 20) (.tmp 24) 75 rfl w1.heap.size 78 i0 _ 2 24 Try.underlying75 hi0 hz0 hz1 hz2 rfl (by omega) v' pre.length _ (by simp [Act.eval, Act.put]) (by exact OW3.out) _ (.slice (some ⟨W2.heap.size, 0, none⟩) 1 1) 1 _ (by simp [Act.eval, Act.put]) (by exact CM.out) (by exact ONE.out) (by exact B63.out) (by exact BBY.out) (by exact BSZ.out) ?_
              intro A4 n4 c4 w4 own4 grow4 mv4
              have cB4 := (F4.out _ grow4).1
              have cG4 := (F4.out _ grow4).2.1
              have fG4 := (F4.out _ grow4).2.2
              clear mv4
              refine hK _ _ ?_
              clear hK K
              refine wpAny_take (i := 10) (v := .pointer (some ⟨w.heap.size, 0, none⟩)) rfl (by kernel_rfl) (by kernel_rfl) (by kernel_rfl) (fun _ _ _ h => h) (Or.inl ⟨by rfl, by intro w; go_simp⟩) ?_
              refine wpAny_take (i := 11) (v := .pointer (some ⟨w.heap.size, 1, none⟩)) rfl (by kernel_rfl) (by kernel_rfl) (by kernel_rfl) (fun _ _ _ h => h) (Or.inl ⟨by rfl, by intro w; go_simp⟩) ?_
              refine wpAny_ready (rs := [12]) (by kernel_rfl) (by simp) ?_
              refine AllReady.cons rfl (fun K hK => ?_) ?_
              · go_simp
                refine hK _ _ ?_
                clear hK K
                refine wpAny_done (by kernel_rfl) ?_ _
                exact HEND.out _ _ _ _ own4 grow4
              exact AllReady.nil
            exact AllReady.nil
          refine AllReady.cons rfl (fun K hK => ?_) ?_
          · refine step_append_cel _ (by simp [Region.wanted]) (.tmp 20) (.tmp 24) 75 rfl w1.heap.size 78 i0 _ 2 24 Try.underlying75 hi0 hz0 hz1 hz2 rfl (by omega) v' pre.length _ (by simp [Act.eval, Act.put]) (by exact OW3.out) _ (.slice (some ⟨W2.heap.size, 0, none⟩) 1 1) 1 _ (by simp [Act.eval, Act.put]) (by exact CM.out) (by exact ONE.out) (by exact B63.out) (by exact BBY.out) (by exact BSZ.out) ?_
            intro A4 n4 c4 w4 own4 grow4 mv4
            have cB4 := (F4.out _ grow4).1
            have cG4 := (F4.out _ grow4).2.1
            have fG4 := (F4.out _ grow4).2.2
            clear mv4
            refine hK _ _ ?_
            clear hK K
            refine wpAny_ready (rs := [0]) (by kernel_rfl) (by simp) ?_
            refine AllReady.cons rfl (fun K hK => ?_) ?_
            · go_simp
              refine hK _ _ ?_
              clear hK K
              refine wpAny_take (i := 10) (v := .pointer (some ⟨w.heap.size, 0, none⟩)) rfl (by kernel_rfl) (by kernel_rfl) (by kernel_rfl) (fun _ _ _ h => h) (Or.inl ⟨by rfl, by intro w; go_simp⟩) ?_
              refine wpAny_take (i := 11) (v := .pointer (some ⟨w.heap.size, 1, none⟩)) rfl (by kernel_rfl) (by kernel_rfl) (by kernel_rfl) (fun _ _ _ h => h) (Or.inl ⟨by rfl, by intro w; go_simp⟩) ?_
              refine wpAny_ready (rs := [12]) (by kernel_rfl) (by simp) ?_
              refine AllReady.cons rfl (fun K hK => ?_) ?_
              · go_simp
                refine hK _ _ ?_
                clear hK K
                refine wpAny_done (by kernel_rfl) ?_ _
                exact HEND.out _ _ _ _ own4 grow4
              exact AllReady.nil
            exact AllReady.nil
          exact AllReady.nil
        exact AllReady.nil
      refine AllReady.cons rfl (fun K hK => ?_) ?_
      · go_simp
        refine hK _ _ ?_
        clear hK K
        refine wpAny_ready (rs := [0, 4]) (by kernel_rfl) (by simp) ?_
        refine AllReady.cons rfl (fun K hK => ?_) ?_
        · go_simp
          refine hK _ _ ?_
          clear hK K
          refine wpAny_ready (rs := [4]) (by kernel_rfl) (by simp) ?_
          refine AllReady.cons rfl (fun K hK => ?_) ?_
          · go_simp
            refine hK _ _ ?_
            clear hK K
            refine wpAny_ready (rs := [9]) (by kernel_rfl) (by simp) ?_
            refine AllReady.cons rfl (fun K hK => ?_) ?_
            · refine step_append_cel _ (by simp [Region.wanted]) (.tmp 20) (.tmp 24) 75 rfl w1.heap.size 78 i0 _ 2 24 Try.underlying75 hi0 hz0 hz1 hz2 rfl (by omega) v' pre.length _ (by simp [Act.eval, Act.put]) (by exact OW3.out) _ (.slice (some ⟨W2.heap.size, 0, none⟩) 1 1) 1 _ (by simp [Act.eval, Act.put]) (by exact CM.out) (by exact ONE.out) (by exact B63.out) (by exact BBY.out) (by exact BSZ.out) ?_
              intro A4 n4 c4 w4 own4 grow4 mv4
              have cB4 := (F4.out _ grow4).1
              have cG4 := (F4.out _ grow4).2.1
              have fG4 := (F4.out _ grow4).2.2
              clear mv4
              refine hK _ _ ?_
              clear hK K
              refine wpAny_take (i := 10) (v := .pointer (some ⟨w.heap.size, 0, none⟩)) rfl (by kernel_rfl) (by kernel_rfl) (by kernel_rfl) (fun _ _ _ h => h) (Or.inl ⟨by rfl, by intro w; go_simp⟩) ?_
              refine wpAny_take (i := 11) (v := .pointer (some ⟨w.heap.size, 1, none⟩)) rfl (by kernel_rfl) (by kernel_rfl) (by kernel_rfl) (fun _ _ _ h => h) (Or.inl ⟨by rfl, by intro w; go_simp⟩) ?_
              refine wpAny_ready (rs := [12]) (by kernel_rfl) (by simp) ?_
              refine AllReady.cons rfl (fun K hK => ?_) ?_
              · go_simp
                refine hK _ _ ?_
                clear hK K
                refine wpAny_done (by kernel_rfl) ?_ _
                exact HEND.out _ _ _ _ own4 grow4
              exact AllReady.nil
            exact AllReady.nil
          exact AllReady.nil
        refine AllReady.cons rfl (fun K hK => ?_) ?_
        · go_simp
          refine hK _ _ ?_
          clear hK K
          refine wpAny_ready (rs := [0, 9]) (by kernel_rfl) (by simp) ?_
          refine AllReady.cons rfl (fun K hK => ?_) ?_
          · go_simp
            refine hK _ _ ?_
            clear hK K
            refine wpAny_ready (rs := [9]) (by kernel_rfl) (by simp) ?_
            refine AllReady.cons rfl (fun K hK => ?_) ?_
            · refine step_append_cel _ (by simp [Region.wanted]) (.tmp 20) (.tmp 24) 75 rfl w1.heap.size 78 i0 _ 2 24 Try.underlying75 hi0 hz0 hz1 hz2 rfl (by omega) v' pre.length _ (by simp [Act.eval, Act.put]) (by exact OW3.out) _ (.slice (some ⟨W2.heap.size, 0, none⟩) 1 1) 1 _ (by simp [Act.eval, Act.put]) (by exact CM.out) (by exact ONE.out) (by exact B63.out) (by exact BBY.out) (by exact BSZ.out) ?_
              intro A4 n4 c4 w4 own4 grow4 mv4
              have cB4 := (F4.out _ grow4).1
              have cG4 := (F4.out _ grow4).2.1
              have fG4 := (F4.out _ grow4).2.2
              clear mv4
              refine hK _ _ ?_
              clear hK K
              refine wpAny_take (i := 10) (v := .pointer (some ⟨w.heap.size, 0, none⟩)) rfl (by kernel_rfl) (by kernel_rfl) (by kernel_rfl) (fun _ _ _ h => h) (Or.inl ⟨by rfl, by intro w; go_simp⟩) ?_
              refine wpAny_take (i := 11) (v := .pointer (some ⟨w.heap.size, 1, none⟩)) rfl (by kernel_rfl) (by kernel_rfl) (by kernel_rfl) (fun _ _ _ h => h) (Or.inl ⟨by rfl, by intro w; go_simp⟩) ?_
              refine wpAny_ready (rs := [12]) (by kernel_rfl) (by simp) ?_
              refine AllReady.cons rfl (fun K hK => ?_) ?_
              · go_simp
                refine hK _ _ ?_
                clear hK K
                refine wpAny_done (by kernel_rfl) ?_ _
                exact HEND.out _ _ _ _ own4 grow4
              exact AllReady.nil
            exact AllReady.nil
          refine AllReady.cons rfl (fun K hK => ?_) ?_
          · refine step_append_cel _ (by simp [Region.wanted]) (.tmp 20) (.tmp 24) 75 rfl w1.heap.size 78 i0 _ 2 24 Try.underlying75 hi0 hz0 hz1 hz2 rfl (by omega) v' pre.length _ (by simp [Act.eval, Act.put]) (by exact OW3.out) _ (.slice (some ⟨W2.heap.size, 0, none⟩) 1 1) 1 _ (by simp [Act.eval, Act.put]) (by exact CM.out) (by exact ONE.out) (by exact B63.out) (by exact BBY.out) (by exact BSZ.out) ?_
            intro A4 n4 c4 w4 own4 grow4 mv4
            have cB4 := (F4.out _ grow4).1
            have cG4 := (F4.out _ grow4).2.1
            have fG4 := (F4.out _ grow4).2.2
            clear mv4
            refine hK _ _ ?_
            clear hK K
            refine wpAny_ready (rs := [0]) (by kernel_rfl) (by simp) ?_
            refine AllReady.cons rfl (fun K hK => ?_) ?_
            · go_simp
              refine hK _ _ ?_
              clear hK K
              refine wpAny_take (i := 10) (v := .pointer (some ⟨w.heap.size, 0, none⟩)) rfl (by kernel_rfl) (by kernel_rfl) (by kernel_rfl) (fun _ _ _ h => h) (Or.inl ⟨by rfl, by intro w; go_simp⟩) ?_
              refine wpAny_take (i := 11) (v := .pointer (some ⟨w.heap.size, 1, none⟩)) rfl (by kernel_rfl) (by kernel_rfl) (by kernel_rfl) (fun _ _ _ h => h) (Or.inl ⟨by rfl, by intro w; go_simp⟩) ?_
              refine wpAny_ready (rs := [12]) (by kernel_rfl) (by simp) ?_
              refine AllReady.cons rfl (fun K hK => ?_) ?_
              · go_simp
                refine hK _ _ ?_
                clear hK K
                refine wpAny_done (by kernel_rfl) ?_ _
                exact HEND.out _ _ _ _ own4 grow4
              exact AllReady.nil
            exact AllReady.nil
          exact AllReady.nil
        exact AllReady.nil
      exact AllReady.nil
    refine AllReady.cons rfl (fun K hK => ?_) ?_
    · go_simp
      refine hK _ _ ?_
      clear hK K
      refine wpAny_ready (rs := [0, 1]) (by kernel_rfl) (by simp) ?_
      refine AllReady.cons rfl (fun K hK => ?_) ?_
      · go_simp
        refine hK _ _ ?_
        clear hK K
        refine wpAny_ready (rs := [1]) (by kernel_rfl) (by simp) ?_
        refine AllReady.cons rfl (fun K hK => ?_) ?_
        · go_simp
          refine hK _ _ ?_
          clear hK K
          refine wpAny_take (i := 2) (v := .pointer (some ⟨w.heap.size, 0, none⟩)) rfl (by kernel_rfl) (by kernel_rfl) (by kernel_rfl) (fun _ _ _ h => h) (Or.inl ⟨by rfl, by intro w; go_simp⟩) ?_
          refine wpAny_take (i := 3) (v := .pointer (some ⟨w.heap.size, 1, none⟩)) rfl (by kernel_rfl) (by kernel_rfl) (by kernel_rfl) (fun _ _ _ h => h) (Or.inl ⟨by rfl, by intro w; go_simp⟩) ?_
          refine wpAny_ready (rs := [4]) (by kernel_rfl) (by simp) ?_
          refine AllReady.cons rfl (fun K hK => ?_) ?_
          · go_simp
            refine hK _ _ ?_
            clear hK K
            refine wpAny_ready (rs := [9]) (by kernel_rfl) (by simp) ?_
            refine AllReady.cons rfl (fun K hK => ?_) ?_
            · refine step_append_cel _ (by simp [Region.wanted]) (.tmp 20) (.tmp 24) 75 rfl w1.heap.size 78 i0 _ 2 24 Try.underlying75 hi0 hz0 hz1 hz2 rfl (by omega) v' pre.length _ (by simp [Act.eval, Act.put]) (by exact OW3.out) _ (.slice (some ⟨W2.heap.size, 0, none⟩) 1 1) 1 _ (by simp [Act.eval, Act.put]) (by exact CM.out) (by exact ONE.out) (by exact B63.out) (by exact BBY.out) (by exact BSZ.out) ?_
              intro A4 n4 c4 w4 own4 grow4 mv4
              have cB4 := (F4.out _ grow4).1
              have cG4 := (F4.out _ grow4).2.1
              have fG4 := (F4.out _ grow4).2.2
              clear mv4
              refine hK _ _ ?_
              clear hK K
              refine wpAny_take (i := 10) (v := .pointer (some ⟨w.heap.size, 0, none⟩)) rfl (by kernel_rfl) (by kernel_rfl) (by kernel_rfl) (fun _ _ _ h => h) (Or.inl ⟨by rfl, by intro w; go_simp⟩) ?_
              refine wpAny_take (i := 11) (v := .pointer (some ⟨w.heap.size, 1, none⟩)) rfl (by kernel_rfl) (by kernel_rfl) (by kernel_rfl) (fun _ _ _ h => h) (Or.inl ⟨by rfl, by intro w; go_simp⟩) ?_
              refine wpAny_ready (rs := [12]) (by kernel_rfl) (by simp) ?_
              refine AllReady.cons rfl (fun K hK => ?_) ?_
              · go_simp
                refine hK _ _ ?_
                clear hK K
                refine wpAny_done (by kernel_rfl) ?_ _
                exact HEND.out _ _ _ _ own4 grow4
              exact AllReady.nil
            exact AllReady.nil
          exact AllReady.nil
        exact AllReady.nil
      refine AllReady.cons rfl (fun K hK => ?_) ?_
      · go_simp
        refine hK _ _ ?_
        clear hK K
        refine wpAny_take (i := 2) (v := .pointer (some ⟨w.heap.size, 0, none⟩)) rfl (by kernel_rfl) (by kernel_rfl) (by kernel_rfl) (fun _ _ _ h => h) (Or.inl ⟨by rfl, by intro w; go_simp⟩) ?_
        refine wpAny_take (i := 3) (v := .pointer (some ⟨w.heap.size, 1, none⟩)) rfl (by kernel_rfl) (by kernel_rfl) (by kernel_rfl) (fun _ _ _ h => h) (Or.inl ⟨by rfl, by intro w; go_simp⟩) ?_
        refine wpAny_ready (rs := [0, 4]) (by kernel_rfl) (by simp) ?_
        refine AllReady.cons rfl (fun K hK => ?_) ?_
        · go_simp
          refine hK _ _ ?_
          clear hK K
          refine wpAny_ready (rs := [4]) (by kernel_rfl) (by simp) ?_
          refine AllReady.cons rfl (fun K hK => ?_) ?_
          · go_simp
            refine hK _ _ ?_
            clear hK K
            refine wpAny_ready (rs := [9]) (by kernel_rfl) (by simp) ?_
            refine AllReady.cons rfl (fun K hK => ?_) ?_
            · refine step_append_cel _ (by simp [Region.wanted]) (.tmp 20) (.tmp 24) 75 rfl w1.heap.size 78 i0 _ 2 24 Try.underlying75 hi0 hz0 hz1 hz2 rfl (by omega) v' pre.length _ (by simp [Act.eval, Act.put]) (by exact OW3.out) _ (.slice (some ⟨W2.heap.size, 0, none⟩) 1 1) 1 _ (by simp [Act.eval, Act.put]) (by exact CM.out) (by exact ONE.out) (by exact B63.out) (by exact BBY.out) (by exact BSZ.out) ?_
              intro A4 n4 c4 w4 own4 grow4 mv4
              have cB4 := (F4.out _ grow4).1
              have cG4 := (F4.out _ grow4).2.1
              have fG4 := (F4.out _ grow4).2.2
              clear mv4
              refine hK _ _ ?_
              clear hK K
              refine wpAny_take (i := 10) (v := .pointer (some ⟨w.heap.size, 0, none⟩)) rfl (by kernel_rfl) (by kernel_rfl) (by kernel_rfl) (fun _ _ _ h => h) (Or.inl ⟨by rfl, by intro w; go_simp⟩) ?_
              refine wpAny_take (i := 11) (v := .pointer (some ⟨w.heap.size, 1, none⟩)) rfl (by kernel_rfl) (by kernel_rfl) (by kernel_rfl) (fun _ _ _ h => h) (Or.inl ⟨by rfl, by intro w; go_simp⟩) ?_
              refine wpAny_ready (rs := [12]) (by kernel_rfl) (by simp) ?_
              refine AllReady.cons rfl (fun K hK => ?_) ?_
              · go_simp
                refine hK _ _ ?_
                clear hK K
                refine wpAny_done (by kernel_rfl) ?_ _
                exact HEND.out _ _ _ _ own4 grow4
              exact AllReady.nil
            exact AllReady.nil
          exact AllReady.nil
        refine AllReady.cons rfl (fun K hK => ?_) ?_
        · go_simp
          refine hK _ _ ?_
          clear hK K
          refine wpAny_ready (rs := [0, 9]) (by kernel_rfl) (by simp) ?_
          refine AllReady.cons rfl (fun K hK => ?_) ?_
          · go_simp
            refine hK _ _ ?_
            clear hK K
            refine wpAny_ready (rs := [9]) (by kernel_rfl) (by simp) ?_
            refine AllReady.cons rfl (fun K hK => ?_) ?_
            · refine step_append_cel _ (by simp [Region.wanted]) (.tmp 20) (.tmp 24) 75 rfl w1.heap.size 78 i0 _ 2 24 Try.underlying75 hi0 hz0 hz1 hz2 rfl (by omega) v' pre.length _ (by simp [Act.eval, Act.put]) (by exact OW3.out) _ (.slice (some ⟨W2.heap.size, 0, none⟩) 1 1) 1 _ (by simp [Act.eval, Act.put]) (by exact CM.out) (by exact ONE.out) (by exact B63.out) (by exact BBY.out) (by exact BSZ.out) ?_
              intro A4 n4 c4 w4 own4 grow4 mv4
              have cB4 := (F4.out _ grow4).1
              have cG4 := (F4.out _ grow4).2.1
              have fG4 := (F4.out _ grow4).2.2
              clear mv4
              refine hK _ _ ?_
              clear hK K
              refine wpAny_take (i := 10) (v := .pointer (some ⟨w.heap.size, 0, none⟩)) rfl (by kernel_rfl) (by kernel_rfl) (by kernel_rfl) (fun _ _ _ h => h) (Or.inl ⟨by rfl, by intro w; go_simp⟩) ?_
              refine wpAny_take (i := 11) (v := .pointer (some ⟨w.heap.size, 1, none⟩)) rfl (by kernel_rfl) (by kernel_rfl) (by kernel_rfl) (fun _ _ _ h => h) (Or.inl ⟨by rfl, by intro w; go_simp⟩) ?_
              refine wpAny_ready (rs := [12]) (by kernel_rfl) (by simp) ?_
              refine AllReady.cons rfl (fun K hK => ?_) ?_
              · go_simp
                refine hK _ _ ?_
                clear hK K
                refine wpAny_done (by kernel_rfl) ?_ _
                exact HEND.out _ _ _ _ own4 grow4
              exact AllReady.nil
            exact AllReady.nil
          refine AllReady.cons rfl (fun K hK => ?_) ?_
          · refine step_append_cel _ (by simp [Region.wanted]) (.tmp 20) (.tmp 24) 75 rfl w1.heap.size 78 i0 _ 2 24 Try.underlying75 hi0 hz0 hz1 hz2 rfl (by omega) v' pre.length _ (by simp [Act.eval, Act.put]) (by exact OW3.out) _ (.slice (some ⟨W2.heap.size, 0, none⟩) 1 1) 1 _ (by simp [Act.eval, Act.put]) (by exact CM.out) (by exact ONE.out) (by exact B63.out) (by exact BBY.out) (by exact BSZ.out) ?_
            intro A4 n4 c4 w4 own4 grow4 mv4
            have cB4 := (F4.out _ grow4).1
            have cG4 := (F4.out _ grow4).2.1
            have fG4 := (F4.out _ grow4).2.2
            clear mv4
            refine hK _ _ ?_
            clear hK K
            refine wpAny_ready (rs := [0]) (by kernel_rfl) (by simp) ?_
            refine AllReady.cons rfl (fun K hK => ?_) ?_
            · go_simp
              refine hK _ _ ?_
              clear hK K
              refine wpAny_take (i := 10) (v := .pointer (some ⟨w.heap.size, 0, none⟩)) rfl (by kernel_rfl) (by kernel_rfl) (by kernel_rfl) (fun _ _ _ h => h) (Or.inl ⟨by rfl, by intro w; go_simp⟩) ?_
              refine wpAny_take (i := 11) (v := .pointer (some ⟨w.heap.size, 1, none⟩)) rfl (by kernel_rfl) (by kernel_rfl) (by kernel_rfl) (fun _ _ _ h => h) (Or.inl ⟨by rfl, by intro w; go_simp⟩) ?_
              refine wpAny_ready (rs := [12]) (by kernel_rfl) (by simp) ?_
              refine AllReady.cons rfl (fun K hK => ?_) ?_
              · go_simp
                refine hK _ _ ?_
                clear hK K
                refine wpAny_done (by kernel_rfl) ?_ _
                exact HEND.out _ _ _ _ own4 grow4
              exact AllReady.nil
            exact AllReady.nil
          exact AllReady.nil
        exact AllReady.nil
      exact AllReady.nil
    exact AllReady.nil
  case done =>
    intro D xs W hD hxs hI hK
    obtain ⟨v', bB, bG, ow⟩ := hI.ex
    have cB := bB.cell_ (i := 0) rfl
    have ho := hI.ho
    have hsz := hI.sz
    gi_wp2
    refine ⟨by simp, .inl ⟨_, _, rfl, run_takeDeferred hK, ?_⟩⟩
    have hDg := grownBy_putObj' W D (.deferred none)
    have hDr : ∀ r, some D = some r → ∃ o : Obj, W.heap[r]? = some o ∧ o.isCells = false := fun r e => by cases e; exact ⟨_, hK, rfl⟩
    subst hxs
    exact ⟨_, results_tmp rfl _ _ _, _, _, rfl, Nat.le_refl _, blk_row bG hDg hDr, owns_base (own_row ow hDg hDr) (by omega), ho.grown hDg (fun k e => by cases e; exact .inr (by omega))⟩
  case stop =>
    rintro D c pre W _ _ h _
    exact h.elim
end Go.Proofs.Ytdmopjnmfjmhkaa
