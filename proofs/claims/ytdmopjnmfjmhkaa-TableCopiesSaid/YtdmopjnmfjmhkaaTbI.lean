/- The document's tables: New and Scan. No statement of the seat is proved here. -/
import Derived.Test.YtdmopjnmfjmhkaaTbH
import Derived.Test.YtdmopjnmfjmhkaaRes
namespace Go.Proofs.Ytdmopjnmfjmhkaa
open Go.RowKit
set_option maxRecDepth 100000
set_option linter.all false

theorem rpair_info : (Try.prog.info? 87).map (fun i => (i.zero, i.size, i.bytes)) = some (some (.agg #[.string ⟨#[]⟩, .int .i64 0]), 2, 24) := by kernel_rfl
set_option maxHeartbeats 800000 in
theorem rf_new_no (room : Int) (w : World) (h : room < 1 ∨ 4096 < room) :
    Calls Try.prog 9 #[.int .i64 room] w fun e w' => e = .returned (.tuple #[.agg #[.int .i64 0, .slice none 0 0], .int .i64 1]) ∧ Only none_ w w' := by
  have O := Lib.hid ((Only.refl none_ w).alloc (.cells #[.int .i64 0, .slice none 0 0] 31))
  by_cases h1 : room < 1
  · clear h
    go_enter Try.func9, Try.ntmps9
    go_wp2_with fail
    exact bodyPost_ret (results_cell_tmp rfl _ _ w.heap.size 31 #[.int .i64 0, .slice none 0 0] _ rfl (Blk.new w _ _) Try.underlying31 rfl (by kernel_rfl) _ rfl) rfl ⟨rfl, O.out⟩
  · have h2 : 4096 < room := h.resolve_left h1
    clear h
    go_enter Try.func9, Try.ntmps9
    go_wp2_with fail
    exact bodyPost_ret (results_cell_tmp rfl _ _ w.heap.size 31 #[.int .i64 0, .slice none 0 0] _ rfl (Blk.new w _ _) Try.underlying31 rfl (by kernel_rfl) _ rfl) rfl ⟨rfl, O.out⟩
set_option maxHeartbeats 800000 in
theorem rf_new_yes (room : Int) (w : World) (h1 : ¬ room < 1) (h2 : ¬ 4096 < room) :
    Calls Try.prog 9 #[.int .i64 room] w fun e w' => e = .returned (.tuple #[.agg #[.int .i64 room, .slice none 0 0], .int .i64 0]) ∧ Only none_ w w' := by
  have O := Lib.hid ((Only.refl none_ w).alloc (.cells #[.int .i64 room, .slice none 0 0] 31))
  go_enter Try.func9, Try.ntmps9
  go_wp2_with fail
  exact bodyPost_ret (results_cell_tmp rfl _ _ w.heap.size 31 #[.int .i64 room, .slice none 0 0] _ rfl (Blk.new w _ _) Try.underlying31 rfl (by kernel_rfl) _ rfl) rfl ⟨rfl, O.out⟩

/-- What a scan has, looked through so far. -/
def scnR (l : List (Pr Int)) (x : ByteArray) (m : Nat) (i : Nat) : List (Pr Int) := ((l.take i).filter fun p => !lt_ p.k x).take m
theorem scnR_snoc (l : List (Pr Int)) (x : ByteArray) (m i : Nat) (hi : i < l.length) : scnR l x m (i + 1) = if lt_ l[i].k x = false ∧ (scnR l x m i).length < m then scnR l x m i ++ [l[i]] else scnR l x m i := by
  unfold scnR
  rw [List.take_succ_eq_append_getElem hi, List.filter_append]
  cases h : lt_ l[i].k x with
  | true => simp [h]
  | false =>
    have hlt : ([l[i]].filter fun p => !lt_ p.k x) = [l[i]] := by simp [h]
    rw [hlt]
    generalize ((l.take i).filter fun p => !lt_ p.k x) = f
    by_cases hm : f.length < m
    · rw [if_pos ⟨rfl, by rw [List.length_take]; omega⟩, List.take_of_length_le (by simp; omega), List.take_of_length_le (by omega)]
    · rw [if_neg (fun e => hm (by have := e.2; rw [List.length_take] at this; omega)), List.take_append_of_le_length (by omega)]
theorem scnR_all {l : List (Pr Int)} (hr : Ris l) (x : ByteArray) (n : Int) : scnR l x n.toNat l.length = scanL l x n := by
  unfold scnR scanL
  rw [List.take_length]
  congr 1
  have h1 := rnk_le l x
  have e : l = l.take (rnk l x) ++ l.drop (rnk l x) := (List.take_append_drop _ _).symm
  have f1 : (l.take (rnk l x)).filter (fun p => !lt_ p.k x) = [] := List.filter_eq_nil_iff.2 (fun p hp => by
    obtain ⟨j, hj, rfl⟩ := List.mem_iff_getElem.1 hp
    have hj' : j < rnk l x := by simp at hj; omega
    rw [List.getElem_take, rnk_at hr x j (by omega)]
    simp [hj'])
  have f2 : (l.drop (rnk l x)).filter (fun p => !lt_ p.k x) = l.drop (rnk l x) := List.filter_eq_self.2 (fun p hp => by
    obtain ⟨j, hj, rfl⟩ := List.mem_iff_getElem.1 hp
    have hj' : rnk l x + j < l.length := by simp at hj; omega
    rw [List.getElem_drop, rnk_at hr x _ hj']
    simp)
  conv => lhs; rw [e]
  rw [List.filter_append, f1, f2, List.nil_append]
end Go.Proofs.Ytdmopjnmfjmhkaa
