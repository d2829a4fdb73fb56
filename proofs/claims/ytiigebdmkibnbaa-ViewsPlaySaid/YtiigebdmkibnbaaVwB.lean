/- slices.BinarySearch at a rising slice of numbers; slices.Insert of one number at its place. No statement of the seat is proved here. -/
import Derived.Test.YtiigebdmkibnbaaVwA
import Derived.Test.YtiigebdmkibnbaaVwM
import Derived.Test.YtiigebdmkibnbaaVwL
namespace Go.Proofs.Ytiigebdmkibnbaa
open Go.RowKit
set_option maxRecDepth 100000
set_option linter.all false

theorem vb_search_some (b off c : Nat) (l : List Int) (p : Int) (w : World) (hu : l.Pairwise (· < ·)) (hl : l.length ≤ 4096) (hc : ∀ (j : Nat) z, l[j]? = some z → w.cell? ⟨b, off + j, none⟩ = some (.int .i64 z)) :
    Calls Try.prog 44 #[.slice (some ⟨b, off, none⟩) l.length c, .int .i64 p] w fun e w' => e = .returned (.tuple #[.int .i64 (vcnt l p : Nat), .bool (decide (p ∈ l))]) ∧ Only none_ w w' := by
  have h1 := AnyG.slices_BinarySearch_int bsI b off l.length c l p w (Nat.le_refl _) (by omega) (fun j hj => by
    have := List.getElem?_eq_getElem hj
    rw [hc j _ this, List.getD_eq_getElem?_getD, this, Option.getD_some]) (by rw [List.take_length]; exact hu.imp (fun h => by omega))
  refine h1.mono ?_
  rintro e w' ⟨rfl, q, rfl⟩
  refine ⟨?_, (Only.refl _ _).drewN q⟩
  rw [List.take_length]
  have e2 : l.contains p = decide (p ∈ l) := by rw [Bool.eq_iff_iff]; simp
  rw [e2]
  rfl
set_option maxHeartbeats 1600000 in
theorem vb_search_none (c : Nat) (A : Option Addr) (p : Int) (w : World) :
    Calls Try.prog 44 #[.slice A 0 c, .int .i64 p] w fun e w' => e = .returned (.tuple #[.int .i64 0, .bool false]) ∧ Only none_ w w' := by
  go_enter Try.func44, Try.ntmps44
  go_wp2_with fail
  refine wp_loop_rounds 1 ?_
  rw [rounds_succ]
  go_wp2_with fail
  go_ret2
  exact ⟨rfl, Only.refl _ _⟩
theorem vb_search (X : Value) (l : List Int) (p : Int) (S : Nat → Prop) (w : World) (hX : Nm w S X l) (hu : l.Pairwise (· < ·)) (hl : l.length ≤ 4096) :
    Calls Try.prog 44 #[X, .int .i64 p] w fun e w' => e = .returned (.tuple #[.int .i64 (vcnt l p : Nat), .bool (decide (p ∈ l))]) ∧ Only none_ w w' := by
  obtain ⟨A, c, rfl⟩ := hX.shape
  rcases Nat.eq_zero_or_pos l.length with h0 | h0
  · obtain rfl := List.eq_nil_of_length_eq_zero h0
    exact vb_search_none c A p w
  · obtain ⟨b, off, rfl, _, _, hc⟩ := nm_block hX h0
    exact vb_search_some b off c l p w hu hl hc

theorem vb_insert (base vb : Nat) (v : Value) (l : List Int) (p : Int) (w : World) (h : w.ownsRow base 3 1 v l.length (nums l)) (hl : l.length ≤ 4096) (hb : base ≤ w.heap.size)
    (hv : Blk w vb 3 #[.int .i64 p]) (hne : v.ownBlock ≠ some vb) :
    Calls Try.prog 47 #[v, .int .i64 (vcnt l p : Nat), .slice (some ⟨vb, 0, none⟩) 1 1] w fun e w' => ∃ v', e = .returned v' ∧ w'.ownsRow base 3 1 v' (vins l p).length (nums (vins l p)) ∧ Only (ownb v) w w' ∧ Moved w v v' := by
  have hle := vcnt_le l p
  have hnl : (vins l p).length = l.length + 1 := vins_len l p
  have hn2 : nums (vins l p) = (nums l).take (vcnt l p) ++ [.int .i64 p] ++ (nums l).drop (vcnt l p) := by
    rw [vins, nums_append, nums_append, nums_take, nums_drop]; rfl
  obtain ⟨A, n, c, rfl⟩ := own_sl h
  obtain rfl : l.length = n := (own_len h).symm
  rcases Nat.lt_or_ge (vcnt l p) l.length with h1 | h1
  · obtain ⟨g, cur, rfl, hr, hnc, hx⟩ := own_rw h (by omega)
    rw [Nat.mul_one] at hx
    have hg : vb ≠ g := fun e => hne (by rw [e]; rfl)
    refine (insZ_mid base g l.length c (vcnt l p) vb cur (nums l) [.int .i64 p] w hr hx h1 hnc hl hb hv hg rfl (nums_one l) (by simp [Value.oneCell'])).mono ?_
    rintro e w' ⟨v', rfl, h2, h3, h4⟩
    refine ⟨v', rfl, by rw [hnl, hn2]; exact h2, h3.mono (fun k _ hk => by rw [show k = g from hk]; rfl), fun k hk => ?_⟩
    rcases h4 k hk with h5 | h5
    · exact .inl (by rw [h5]; rfl)
    · exact .inr h5
  · have e1 : vcnt l p = l.length := by omega
    rw [e1] at hn2 ⊢
    refine (insZ_end base A l.length c vb (nums l) [.int .i64 p] w h hl hb hv rfl (by simp [Value.oneCell'])).mono ?_
    rintro e w' ⟨v', rfl, h2, h3, h4⟩
    refine ⟨v', rfl, ?_, h3, h4⟩
    have e3 : nums (vins l p) = nums l ++ [.int .i64 p] := by
      rw [hn2, List.take_of_length_le (by simp), List.drop_of_length_le (by simp), List.append_nil]
    rw [hnl, e3]
    exact h2
/-- One that is there leaves. -/
theorem vb_delete (base : Nat) (v : Value) (l : List Int) (p : Int) (w : World) (h : w.ownsRow base 3 1 v l.length (nums l)) (hl : l.length ≤ 4096) (hu : l.Pairwise (· < ·)) (hm : p ∈ l) :
    Calls Try.prog 45 #[v, .int .i64 (vcnt l p : Nat), .int .i64 ((vcnt l p : Nat) + 1)] w fun e w' => ∃ v', e = .returned v' ∧ w'.ownsRow base 3 1 v' (vdel l p).length (nums (vdel l p)) ∧ Only (ownb v) w w' ∧ ∀ k, v'.ownBlock = some k → v.ownBlock = some k := by
  have hlt := vcnt_mem_lt hu hm
  have hdl := vdel_len hu hm
  obtain ⟨A, n, c, rfl⟩ := own_sl h
  obtain rfl : l.length = n := (own_len h).symm
  obtain ⟨g, cur, rfl, hr, hnc, hx⟩ := own_rw h (by omega)
  rw [Nat.mul_one] at hx
  obtain ⟨m, hm2⟩ : ∃ m, l.length = m + 1 := ⟨l.length - 1, by omega⟩
  rw [hm2] at hx hnc ⊢
  refine (delZ base g m c (vcnt l p) cur (nums l) w hr hx (by omega) hnc (by omega) (nums_one l)).mono ?_
  rintro e w' ⟨rfl, h2, h3⟩
  refine ⟨_, rfl, ?_, h3.mono (fun k _ hk => by rw [show k = g from hk]; rfl), fun k hk => hk⟩
  have e1 : (vdel l p).length = m := by omega
  rw [e1, vdel, nums_append, nums_take, nums_drop]
  exact h2
end Go.Proofs.Ytiigebdmkibnbaa
