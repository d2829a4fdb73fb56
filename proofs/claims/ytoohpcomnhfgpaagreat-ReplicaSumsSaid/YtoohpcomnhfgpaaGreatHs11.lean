/- Texts of mine, one behind the other: DkD, JnO, JnP, JnV, RpA, RpN, EoB, RefN, EoC, EoD, EnD, SmA, SmB. No statement of the seat is proved here. -/
import Derived.Test.YtoohpcomnhfgpaaGreatHs10
import Derived.Test.YtoohpcomnhfgpaaGreatHs3
import Derived.Test.YtoohpcomnhfgpaaGreatHs9
import Derived.Test.YtoohpcomnhfgpaaGreatHs4
import Derived.Test.YtoohpcomnhfgpaaGreatHs6
import Derived.Test.YtoohpcomnhfgpaaGreatHs7
import Derived.Test.YtoohpcomnhfgpaaGreatHs8
import Derived.Test.YtoohpcomnhfgpaaGreatHs2
import Derived.Test.YtoohpcomnhfgpaaGreatHs1
import Derived.IntWalk
import Derived.Laws.LoneSync
section
namespace Go.Proofs.YtoohpcomnhfgpaaGreat
open Go.RowKit
set_option linter.all false
set_option maxRecDepth 100000
theorem fresh_power (w : World) :
    Calls Tryz.prog 61 #[] w fun e w' => e = .returned (.agg #[.bool true, .int .i64 (-1)]) ∧ Only none_ w w' := by
  have B2 := Lib.hid (Blk.new w 113 #[.bool true, .int .i64 (-1)])
  have O := Lib.hid ((Only.refl none_ w).alloc (.cells #[.bool true, .int .i64 (-1)] 113))
  go_enter Tryz.func61, Tryz.ntmps61
  go_wp2_with fail
  exact bodyPost_ret (results_cell_row rfl _ _ w.heap.size 113 _ (0, 0) _ rfl B2.out Tryz.underlying113 rfl (by kernel_rfl)) rfl ⟨rfl, O.out⟩
theorem disk_new (B w : World) (hB : Only none_ B w) :
    Calls Tryz.prog 14 #[] w fun e w' => ∃ g, e = .returned (.pointer (some ⟨g, 0, none⟩)) ∧ w.heap.size ≤ g ∧ Dsk B g ⟨true, -1, [], 0⟩ (.slice none 0 0) w' ∧ Only none_ w w' := by
  have HB := Lib.hid hB
  clear hB
  go_enter Tryz.func14, Tryz.ntmps14
  go_wp2_with (go_at_call 61; refine (fresh_power w).mono ?_; rintro e w1 ⟨rfl, o1⟩; have O1 := Lib.hid o1; clear o1)
  go_ret
  have o := O1.out.alloc (.cells #[.bool true, .int .i64 (-1), .slice none 0 0, .int .i64 0] 116)
  exact ⟨w1.heap.size, rfl, O1.out.size, ⟨Blk.new _ _ _, World.ownsRow_nil _ _ _ _, HB.out.trans o, Nat.le_trans HB.out.size O1.out.size, Nat.le_refl _, by decide, by show _ ≤ (-1 : Int); decide, by show (-1 : Int) < _; decide⟩, o⟩
theorem disk_read (B : World) (g : Nat) (d : Dv) (v : Value) (w : World) (h : Dsk B g d v w) :
    Calls Tryz.prog 108 #[.pointer (some ⟨g, 0, none⟩)] w fun e w' => (∃ A n c, e = .returned (.tuple #[.slice A n c, .int .i64 (if d.on = true then 0 else 11)]) ∧
      w'.ownsRow w.heap.size 5 1 (.slice A n c) (if d.on = true then d.bs else []).length (byts (if d.on = true then d.bs else []))) ∧ Only none_ w w' := by
  obtain ⟨A, m, c, rfl⟩ := h.shape
  obtain rfl := h.len
  have H := Lib.hid h
  have c2 := h.bk.cell_ (i := 2) rfl
  have C := power_on B g d _ w h
  have hm := h.ml
  clear h
  by_cases hon : d.on = true
  · rw [hon] at C
    rw [if_pos hon, if_pos hon]
    clear hon
    go_enter Tryz.func108, Tryz.ntmps108
    go_wp2_with (first
      | (go_at_call 42; refine C.mono ?_; rintro e w1 ⟨rfl, rfl⟩)
      | (go_at_call 168; refine (bytes_clone _ d.bs _ w H.out.byt (by omega)).mono ?_; rintro e w1 ⟨A5, n5, c5, rfl, own5, o5⟩; have OW := Lib.hid own5; have O5 := Lib.hid o5; clear own5 o5))
    go_ret2
    exact ⟨⟨_, _, _, rfl, OW.out⟩, O5.out⟩
  · have hf : d.on = false := Bool.eq_false_iff.2 hon
    rw [hf] at C
    rw [if_neg hon, if_neg hon]
    clear hon hf
    go_enter Tryz.func108, Tryz.ntmps108
    go_wp2_with (go_at_call 42; refine C.mono ?_; rintro e w1 ⟨rfl, rfl⟩)
    go_ret2
    exact ⟨⟨none, 0, 0, rfl, World.ownsRow_nil w w.heap.size 5 1⟩, Only.refl _ _⟩
end Go.Proofs.YtoohpcomnhfgpaaGreat
end
section
namespace Go.Proofs.YtoohpcomnhfgpaaGreat
open Go.RowKit
set_option maxRecDepth 100000
set_option linter.all false
theorem jnR_le : ∀ (f : Nat) (acc : List (List UInt8)) (n : Nat) (bs : List UInt8), (jnR f acc n bs).2.1 ≤ n + bs.length
  | 0, _, n, bs => by simp [jnR]
  | f + 1, acc, n, bs => by
    rw [jnR_step]
    rcases jnK_cases bs with h | h | h
    · have hz := jnK_zero h
      rw [if_neg (by omega), if_neg (by omega)]
      have := jnR_le f (acc ++ [jnB bs]) (n + (10 + jnN bs)) (bs.drop (10 + jnN bs))
      rw [List.length_drop] at this
      omega
    · rw [if_neg (by omega), if_pos h]
      show n ≤ _
      omega
    · rw [if_pos h]
      show 0 ≤ _
      omega
theorem jnRead_le (bs : List UInt8) : (jnRead bs).2.1 ≤ bs.length := by have := jnR_le (bs.length + 1) [] 0 bs; rw [Nat.zero_add] at this; exact this
theorem jnR_count : ∀ (f : Nat) (acc : List (List UInt8)) (n : Nat) (bs : List UInt8), acc.length ≤ n → (jnR f acc n bs).1.length ≤ n + bs.length
  | 0, _, n, bs, h => by show _ ≤ n + bs.length; simp only [jnR]; omega
  | f + 1, acc, n, bs, h => by
    rw [jnR_step]
    rcases jnK_cases bs with hk | hk | hk
    · have hz := jnK_zero hk
      rw [if_neg (by omega), if_neg (by omega)]
      have := jnR_count f (acc ++ [jnB bs]) (n + (10 + jnN bs)) (bs.drop (10 + jnN bs)) (by rw [List.length_append, List.length_cons, List.length_nil]; omega)
      rw [List.length_drop] at this
      omega
    · rw [if_neg (by omega), if_pos hk]
      show acc.length ≤ _
      omega
    · rw [if_pos hk]
      show 0 ≤ _
      omega
theorem jnRead_count (bs : List UInt8) : (jnRead bs).1.length ≤ bs.length := by have := jnR_count (bs.length + 1) [] 0 bs (by simp); rw [Nat.zero_add] at this; exact this
noncomputable abbrev jnCells (a b : Value) : Array Value := (Tryz.zeroCells212.setIfInBounds 0 a).setIfInBounds 260 b
theorem jn_cells (a b : Value) : jnCells a b = #[a] ++ rowCells 0 0 0 ++ #[b] := by
  have h : Tryz.zeroCells212 = #[.pointer none] ++ tabZero ++ #[.int .i64 0] := by kernel_rfl
  have e1 : ∀ (T : Array Value) (x y : Value), (#[x] ++ T ++ #[y]).setIfInBounds 0 a = #[a] ++ T ++ #[y] := fun T x y => by
    rw [Array.append_assoc, Array.setIfInBounds_append_left (by simp), Array.append_assoc]
    rfl
  have e2 : ∀ (T : Array Value) (y : Value), T.size = 259 → (#[a] ++ T ++ #[y]).setIfInBounds 260 b = #[a] ++ T ++ #[b] := fun T y hT => by
    have h2 : (#[a] ++ T).size = 260 := by rw [Array.size_append, hT]; rfl
    rw [Array.setIfInBounds_append_right (by rw [h2]; exact Nat.le_refl _), h2]
    rfl
  unfold jnCells
  rw [h, e1, e2 _ _ (by rw [rowCells_zero, rowCells_size]), rowCells_zero]
def Jn (w : World) (j g : Nat) (n : Int) : Prop := TabP 212 #[.pointer (some ⟨g, 0, none⟩)] #[.int .i64 n] w j
theorem Jn.new (w : World) (g : Nat) (n : Int) : Jn (w.alloc (.cells (jnCells (.pointer (some ⟨g, 0, none⟩)) (.int .i64 n)) 212)) w.heap.size g n := by
  refine .inl ?_
  have := Blk.new w 212 (jnCells (.pointer (some ⟨g, 0, none⟩)) (.int .i64 n))
  rw [jn_cells] at this
  rw [jn_cells]
  exact this
theorem Jn.only {w w' : World} {j g : Nat} {n : Int} {S : Nat → Prop} (h : Jn w j g n) (ho : Only S w w') (hn : ¬ S j) : Jn w' j g n := TabP.only h ho hn
def opC (d : Dv) : Int := if d.on = false then 11 else if (jnRead d.bs).2.2 ≠ 0 then (jnRead d.bs).2.2 else if (jnRead d.bs).2.1 < d.bs.length ∧ d.fuse = 0 then 11 else 0
def opD (d : Dv) : Dv := if d.on = false then d else if (jnRead d.bs).2.2 ≠ 0 then d else if (jnRead d.bs).2.1 < d.bs.length then chD d 0 (dTrim (jnRead d.bs).2.1 (burnt d)) else d
theorem Dsk.foot_lt {B w : World} {g : Nat} {d : Dv} {v : Value} (h : Dsk B g d v w) {b : Nat} (hf : foot g v b) : b < w.heap.size := by
  rcases hf with rfl | hf
  · exact h.bk.lt
  · exact (h.ow.lt b hf).2
end Go.Proofs.YtoohpcomnhfgpaaGreat
end
section
namespace Go.Proofs.YtoohpcomnhfgpaaGreat
open Go.RowKit
set_option maxRecDepth 100000
set_option linter.all false
theorem op_code {d : Dv} (hon : d.on = true) (hk : (jnRead d.bs).2.2 = 0) (h : ¬ ((jnRead d.bs).2.1 < d.bs.length ∧ d.fuse = 0)) : opC d = 0 := by
  unfold opC
  rw [if_neg (by simp [hon]), if_neg (by simpa using hk), if_neg h]
theorem Jn.count {w : World} {j g : Nat} {n : Int} (h : Jn w j g n) : w.cell? ⟨j, 260, none⟩ = some (.int .i64 n) :=
  TabP.cell h (j := 260) (fun cs hc => TabP.behind (P := #[.pointer (some ⟨g, 0, none⟩)]) (Q := #[.int .i64 n]) (o := 1) (j := 0) rfl rfl cs hc)
theorem Jn.disk {w : World} {j g : Nat} {n : Int} (h : Jn w j g n) : w.cell? ⟨j, 0, none⟩ = some (.pointer (some ⟨g, 0, none⟩)) :=
  TabP.cell h (j := 0) (fun cs hc => TabP.ahead (P := #[.pointer (some ⟨g, 0, none⟩)]) rfl cs hc)
end Go.Proofs.YtoohpcomnhfgpaaGreat
end
section
namespace Go.Proofs.YtoohpcomnhfgpaaGreat
open Go.RowKit
set_option maxRecDepth 100000
set_option linter.all false
def adF (bs : List UInt8) (d : Dv) : Int := if 1048576 < d.bs.length + (recB bs).length then 7 else 0
def adD1 (bs : List UInt8) (d : Dv) : Dv := chD d (adF bs d) (dApp (recB bs) (burnt d))
def adC (bs : List UInt8) (d : Dv) : Int := if recCode bs.length ≠ 0 then recCode bs.length else if chCode d (adF bs d) ≠ 0 then chCode d (adF bs d) else chCode (adD1 bs d) 0
def adD (bs : List UInt8) (d : Dv) : Dv := if recCode bs.length ≠ 0 then d else if chCode d (adF bs d) ≠ 0 then adD1 bs d else chD (adD1 bs d) 0 (dSync (burnt (adD1 bs d)))
def adN (bs : List UInt8) (d : Dv) (n : Int) : Int := if adC bs d = 0 then n + 1 else n
def LeftJ (B : World) (g j : Nat) (v : Value) (w : World) (d' : Dv) (n' : Int) (w' : World) : Prop :=
  ∃ v', Dsk B g d' v' w' ∧ Jn w' j g n' ∧ Only (fun k => foot g v k ∨ k = j) w w' ∧ Moved w v v' ∧ ¬ foot g v' j
theorem Jn.set {w : World} {j g : Nat} {n : Int} (h : Jn w j g n) (m : Int) : Jn (w.setCell ⟨j, 260, none⟩ (.int .i64 m)) j g m :=
  TabP.setQ (P := #[.pointer (some ⟨g, 0, none⟩)]) (o := 1) h rfl 0 (.int .i64 m)
theorem foot_moved {B w w0 : World} {g j : Nat} {v v' : Value} {d : Dv} (hm : Moved w v v') (hj : ¬ foot g v j) (hlt : j < w.heap.size) : ¬ foot g v' j := by
  rintro (h | h)
  · exact hj (.inl h)
  · rcases hm _ h with h1 | h1
    · exact hj (.inr h1)
    · omega
set_option maxHeartbeats 3200000 in
theorem add_any (B : World) (g j : Nat) (n : Int) (d : Dv) (v x : Value) (bs : List UInt8) (S : Nat → Prop) (w : World) (h : Dsk B g d v w) (hj : Jn w j g n) (hx : Byt w S x bs) (hS : ∀ b, S b → b ≠ g ∧ b ≠ j) (hB : B.heap.size ≤ j) (hf : ¬ foot g v j) (h0 : 0 ≤ n) (h1 : n ≤ 1000000) :
    Calls Tryz.prog 264 #[.pointer (some ⟨j, 0, none⟩), x] w fun e w' => e = .returned (.int .i64 (adC bs d)) ∧ LeftJ B g j v w (adD bs d) (adN bs d n) w' := by
  have hjd := hj.disk
  have HLY := Lib.hid (lay_any7 (o := 1) rfl j S x bs w hj hx (fun b hb => (hS b hb).2))
  have hjlt : j < w.heap.size := TabP.lt hj
  have HJ := Lib.hid hj
  have H := Lib.hid h
  have HF := Lib.hid hf
  have HBJ : Hid (B.heap.size ≤ j ∧ j < w.heap.size) := ⟨hB, hjlt⟩
  have hap : ∀ w1 : World, Only (one j) w w1 → Dsk B g d v w1 := fun w1 o => h.apart o (fun k hk e => hf (by have e' : k = j := e; rwa [e'] at hk)) (fun k e => by have e' : k = j := e; omega)
  have HAP := Lib.hid hap
  obtain ⟨A, c, rfl⟩ : ∃ A c, x = .slice A bs.length c := by obtain ⟨A, c, h, _⟩ := hx; exact ⟨A, c, h⟩
  obtain ⟨z, hz⟩ : ∃ z, recCode bs.length = z := ⟨_, rfl⟩
  have hwr : IntKind.i64.wrap (n + 1) = n + 1 := IntWalk.i64_in _ (by omega)
  rw [hz] at HLY
  by_cases hz0 : z = 0
  · subst hz0
    obtain ⟨c1, hc1⟩ : ∃ z, chCode d (adF bs d) = z := ⟨_, rfl⟩
    have HRV : Hid (∀ (w1 w2 : World) (vr : Value), RecV w1 w2 vr bs → ∃ A n c, vr = .slice A n c ∧ w2.ownsRow w1.heap.size 5 1 (.slice A n c) (recB bs).length (byts (recB bs))) := fun w1 w2 vr h => by
      rcases h with h | h
      · exact h.2
      · exact absurd hz h.1
    have HAPP : Hid (∀ (w2 : World) (y : Value) (T : Nat → Prop), Dsk B g d v w2 → Byt w2 T y (recB bs) → (∀ b, T b → b ≠ g) → Calls Tryz.prog 284 #[.pointer (some ⟨g, 0, none⟩), y] w2 fun e w' => e = .returned (.int .i64 c1) ∧ Left_ B g v w2 (adD1 bs d) w') := by
      intro w2 y T hd hy hT
      have := disk_append B g d v y (recB bs) T w2 hd hy hT
      rw [show (if 1048576 < d.bs.length + (recB bs).length then (7 : Int) else 0) = adF bs d from rfl, hc1] at this
      exact this
    by_cases hc0 : c1 = 0
    · subst hc0
      obtain ⟨c2, hc2⟩ : ∃ z, chCode (adD1 bs d) 0 = z := ⟨_, rfl⟩
      have e1 : Hid (adC bs d = c2 ∧ adD bs d = chD (adD1 bs d) 0 (dSync (burnt (adD1 bs d)))) := by
        constructor
        · rw [adC, if_neg (by simp [hz]), if_neg (by simp [hc1]), hc2]
        · rw [adD, if_neg (by simp [hz]), if_neg (by simp [hc1])]
      have HSY := Lib.hid (fun (w2 : World) (v2 : Value) (hd : Dsk B g (adD1 bs d) v2 w2) => disk_sync B g (adD1 bs d) v2 w2 hd)
      rw [hc2] at HSY
      by_cases hc20 : c2 = 0
      · subst hc20
        clear h hj hx hS hf hz hc1 hc2 hap hB
        go_enter Tryz.func264, Tryz.ntmps264
        go_wp2_with (first
          | (go_at_call 283; refine HLY.out.mono ?_; rintro e w1 ⟨vr, rfl, hr, ht, o1⟩
             obtain ⟨A1, n1, c1', rfl, own1⟩ := HRV.out _ _ _ hr
             have D1 := Lib.hid (HAP.out w1 o1)
             have J1 : Hid (Jn w1 j g n) := ht
             have hjd1 := J1.out.disk
             have O1 := Lib.hid o1
             have B1 : Hid (Byt w1 (fun b => b ≠ g) (.slice A1 n1 c1') (recB bs)) := (Byt.of_own own1).mono (fun b _ hb => by have h1 := (own1.lt b hb).1; have h2 := H.out.bk.lt; omega)
             clear hr ht o1 own1)
          | (go_at_call 284; refine (HAPP.out w1 _ _ D1.out B1.out (fun _ h => h)).mono ?_; rintro e w2 ⟨rfl, l2⟩
             obtain ⟨v2, d2, o2, m2⟩ := l2
             have D2 := Lib.hid d2
             have J2 := Lib.hid (J1.out.only o2 HF.out)
             have hjd2 := J2.out.disk
             have O2 : Hid (Only (fun k => foot g v k ∨ k = j) w w2) := (O1.out.mono (fun k _ e => .inr e)).trans' o2 (fun k _ e => .inl e)
             have M2 : Hid (Moved w v v2) := fun k hk => (m2 k hk).imp id (fun h => Nat.le_trans O1.out.size h)
             have F2 : Hid (¬ foot g v2 j) := foot_moved (B := B) (w0 := w) (d := d) M2.out HF.out HBJ.out.2
             clear d2 o2 m2)
          | (go_at_call 285; refine (HSY.out w2 v2 D2.out).mono ?_; rintro e w3 ⟨rfl, l3⟩
             obtain ⟨v3, d3, o3, m3⟩ := l3
             have D3 := Lib.hid d3
             have J3 := Lib.hid (J2.out.only o3 F2.out)
             have hjd3 := J3.out.disk
             have hjc3 := J3.out.count
             have hjf3 : w3.frozen? ⟨j, 260, none⟩ = false := TabP.frozen J3.out 260
             have O3 : Hid (Only (fun k => foot g v k ∨ k = j) w w3) := O2.out.trans' o3 (fun k hk e => by
               rcases e with e | e
               · exact .inl (.inl e)
               · rcases M2.out k e with h1 | h1
                 · exact .inl (.inr h1)
                 · omega)
             have M3 : Hid (Moved w v v3) := M2.out.trans m3 O2.out.size
             have F3 : Hid (¬ foot g v3 j) := foot_moved (B := B) (w0 := w) (d := d) M3.out HF.out HBJ.out.2
             clear d3 o3 m3))
        have o5 : Only (one j) w3 (w3.setCell ⟨j, 260, none⟩ (.int .i64 (n + 1))) := (Only.refl _ w3).setCell (p := ⟨j, 260, none⟩) (.inl (show one j j from rfl)) _
        have D5 := D3.out.apart o5 (fun k hk e => F3.out (by have e' : k = j := e; rwa [e'] at hk)) (fun k e => by have e' : k = j := e; have := HBJ.out.1; omega)
        go_ret
        refine ⟨by rw [e1.out.1]; rfl, v3, by rw [e1.out.2]; exact D5, ?_, ?_, M3.out, F3.out⟩
        · rw [adN, e1.out.1, if_pos rfl]; exact J3.out.set (n + 1)
        · exact O3.out.trans' o5 (fun k hk e => .inr e)
      · have hcb : (c2 == 0) = false := by simpa using hc20
        have HC2 := Lib.hid hc20
        clear h hj hx hS hf hz hc1 hc2 hap hB hc20
        go_enter Tryz.func264, Tryz.ntmps264
        go_wp2_with (first
          | (go_at_call 283; refine HLY.out.mono ?_; rintro e w1 ⟨vr, rfl, hr, ht, o1⟩
             obtain ⟨A1, n1, c1', rfl, own1⟩ := HRV.out _ _ _ hr
             have D1 := Lib.hid (HAP.out w1 o1)
             have J1 : Hid (Jn w1 j g n) := ht
             have hjd1 := J1.out.disk
             have O1 := Lib.hid o1
             have B1 : Hid (Byt w1 (fun b => b ≠ g) (.slice A1 n1 c1') (recB bs)) := (Byt.of_own own1).mono (fun b _ hb => by have h1 := (own1.lt b hb).1; have h2 := H.out.bk.lt; omega)
             clear hr ht o1 own1)
          | (go_at_call 284; refine (HAPP.out w1 _ _ D1.out B1.out (fun _ h => h)).mono ?_; rintro e w2 ⟨rfl, l2⟩
             obtain ⟨v2, d2, o2, m2⟩ := l2
             have D2 := Lib.hid d2
             have J2 := Lib.hid (J1.out.only o2 HF.out)
             have hjd2 := J2.out.disk
             have O2 : Hid (Only (fun k => foot g v k ∨ k = j) w w2) := (O1.out.mono (fun k _ e => .inr e)).trans' o2 (fun k _ e => .inl e)
             have M2 : Hid (Moved w v v2) := fun k hk => (m2 k hk).imp id (fun h => Nat.le_trans O1.out.size h)
             have F2 : Hid (¬ foot g v2 j) := foot_moved (B := B) (w0 := w) (d := d) M2.out HF.out HBJ.out.2
             clear d2 o2 m2)
          | (go_at_call 285; refine (HSY.out w2 v2 D2.out).mono ?_; rintro e w3 ⟨rfl, l3⟩
             obtain ⟨v3, d3, o3, m3⟩ := l3
             have D3 := Lib.hid d3
             have J3 := Lib.hid (J2.out.only o3 F2.out)
             have hjd3 := J3.out.disk
             have hjc3 := J3.out.count
             have hjf3 : w3.frozen? ⟨j, 260, none⟩ = false := TabP.frozen J3.out 260
             have O3 : Hid (Only (fun k => foot g v k ∨ k = j) w w3) := O2.out.trans' o3 (fun k hk e => by
               rcases e with e | e
               · exact .inl (.inl e)
               · rcases M2.out k e with h1 | h1
                 · exact .inl (.inr h1)
                 · omega)
             have M3 : Hid (Moved w v v3) := M2.out.trans m3 O2.out.size
             have F3 : Hid (¬ foot g v3 j) := foot_moved (B := B) (w0 := w) (d := d) M3.out HF.out HBJ.out.2
             clear d3 o3 m3))
        go_ret
        refine ⟨by rw [e1.out.1]; rfl, v3, by rw [e1.out.2]; exact D3.out, ?_, O3.out, M3.out, F3.out⟩
        rw [adN, e1.out.1, if_neg HC2.out]; exact J3.out
    · have hcb : (c1 == 0) = false := by simpa using hc0
      have e1 : Hid (adC bs d = c1 ∧ adD bs d = adD1 bs d) := by
        constructor
        · rw [adC, if_neg (by simp [hz]), if_pos (by rw [hc1]; exact hc0), hc1]
        · rw [adD, if_neg (by simp [hz]), if_pos (by rw [hc1]; exact hc0)]
      have HC1 := Lib.hid hc0
      clear h hj hx hS hf hz hc1 hap hB hc0
      go_enter Tryz.func264, Tryz.ntmps264
      go_wp2_with (first
        | (go_at_call 283; refine HLY.out.mono ?_; rintro e w1 ⟨vr, rfl, hr, ht, o1⟩
           obtain ⟨A1, n1, c1', rfl, own1⟩ := HRV.out _ _ _ hr
           have D1 := Lib.hid (HAP.out w1 o1)
           have J1 : Hid (Jn w1 j g n) := ht
           have hjd1 := J1.out.disk
           have O1 := Lib.hid o1
           have B1 : Hid (Byt w1 (fun b => b ≠ g) (.slice A1 n1 c1') (recB bs)) := (Byt.of_own own1).mono (fun b _ hb => by have h1 := (own1.lt b hb).1; have h2 := H.out.bk.lt; omega)
           clear hr ht o1 own1)
        | (go_at_call 284; refine (HAPP.out w1 _ _ D1.out B1.out (fun _ h => h)).mono ?_; rintro e w2 ⟨rfl, l2⟩
           obtain ⟨v2, d2, o2, m2⟩ := l2
           have D2 := Lib.hid d2
           have J2 := Lib.hid (J1.out.only o2 HF.out)
           have hjd2 := J2.out.disk
           have O2 : Hid (Only (fun k => foot g v k ∨ k = j) w w2) := (O1.out.mono (fun k _ e => .inr e)).trans' o2 (fun k _ e => .inl e)
           have M2 : Hid (Moved w v v2) := fun k hk => (m2 k hk).imp id (fun h => Nat.le_trans O1.out.size h)
           have F2 : Hid (¬ foot g v2 j) := foot_moved (B := B) (w0 := w) (d := d) M2.out HF.out HBJ.out.2
           clear d2 o2 m2))
      go_ret
      refine ⟨by rw [e1.out.1]; rfl, v2, by rw [e1.out.2]; exact D2.out, ?_, O2.out, M2.out, F2.out⟩
      rw [adN, e1.out.1, if_neg HC1.out]; exact J2.out
  · have hzb : (z == 0) = false := by simpa using hz0
    have e1 : Hid (adC bs d = z ∧ adD bs d = d) := by
      constructor
      · rw [adC, if_pos (by rw [hz]; exact hz0), hz]
      · rw [adD, if_pos (by rw [hz]; exact hz0)]
    have HZ := Lib.hid hz0
    clear h hj hx hS hf hz hap hB hz0
    go_enter Tryz.func264, Tryz.ntmps264
    go_wp2_with (first
      | (go_at_call 283; refine HLY.out.mono ?_; rintro e w1 ⟨vr, rfl, hr, ht, o1⟩
         have D1 := Lib.hid (HAP.out w1 o1)
         have J1 : Hid (Jn w1 j g n) := ht
         have O1 : Hid (Only (fun k => foot g v k ∨ k = j) w w1) := o1.mono (fun k _ e => .inr e)
         clear hr ht o1))
    go_ret
    refine ⟨by rw [e1.out.1]; rfl, v, by rw [e1.out.2]; exact D1.out, ?_, O1.out, Moved.refl _ _, HF.out⟩
    rw [adN, e1.out.1, if_neg HZ.out]; exact J1.out
end Go.Proofs.YtoohpcomnhfgpaaGreat
end
section
namespace Go.Proofs.YtoohpcomnhfgpaaGreat
open Go.RowKit
set_option maxRecDepth 100000
set_option linter.all false
structure Ra where
  r : Nat
  ck : Nat
  tb : Nat
  vt : Value
  mx : Nat
  mb : Nat
  vm : Value
  gv : Nat
  gt : Nat
  vg : Value
  ob : Nat
  dg : Nat
  vd : Value
  j : Nat
structure Rs where
  o : Ro
  site : Int
  c : Int
  tab : List En
  z : Int
  mks : List Mk
  gr : List En
  own : List ByteArray
  D : Dv
  n : Int
def ft (a : Ra) : Nat → Nat → Prop
  | 0 => fun k => k = a.r
  | 1 => fun k => k = a.ck
  | 2 => foot a.tb a.vt
  | 3 => Ft a.mx a.mb a.vm
  | 4 => gfoot a.gv a.gt a.vg
  | 5 => fun k => k = a.ob
  | 6 => foot a.dg a.vd
  | 7 => fun k => k = a.j
  | _ => fun _ => False
def allF (a : Ra) (k : Nat) : Prop := ∃ i, ft a i k
abbrev rCells (a : Ra) (o : Ro) (z : Int) : Array Value := #[.int .i64 o.n, .int .i64 o.q, .int .i64 o.r, .int .i64 o.t1, .int .i64 o.t2, .pointer (some ⟨a.ck, 0, none⟩), .pointer (some ⟨a.tb, 0, none⟩), .int .u64 (w64 z), .pointer (some ⟨a.mx, 0, none⟩), .pointer (some ⟨a.gv, 0, none⟩), .map (some a.ob), .pointer (some ⟨a.dg, 0, none⟩), .pointer (some ⟨a.j, 0, none⟩)]
structure Rest (I : Nat → Prop) (B : World) (a : Ra) (s : Rs) (w : World) : Prop where
  bk : ¬ I 0 → Blk w a.r 78 (rCells a s.o s.z)
  ck : ¬ I 1 → Clk w a.ck s.site s.c
  tb : ¬ I 2 → Se.Tb B a.tb (roRoom s.o) (prs s.tab) a.vt w
  mx : ¬ I 3 → Rc B.heap.size a.mx a.mb s.mks s.mks a.vm w
  gv : ¬ I 4 → Gv B a.gv a.gt s.site s.o.t2 s.gr a.vg w
  ob : ¬ I 5 → Mq w a.ob s.own
  dk : ¬ I 6 → Dsk B a.dg s.D a.vd w
  jn : ¬ I 7 → Jn w a.j a.dg s.n
structure Rp (B : World) (a : Ra) (s : Rs) (w : World) : Prop where
  bk : Blk w a.r 78 (rCells a s.o s.z)
  ck : Clk w a.ck s.site s.c
  tb : Se.Tb B a.tb (roRoom s.o) (prs s.tab) a.vt w
  mx : Rc B.heap.size a.mx a.mb s.mks s.mks a.vm w
  gv : Gv B a.gv a.gt s.site s.o.t2 s.gr a.vg w
  ob : Mq w a.ob s.own
  dk : Dsk B a.dg s.D a.vd w
  jn : Jn w a.j a.dg s.n
  ho : Only none_ B w
  ge : B.heap.size ≤ a.r ∧ B.heap.size ≤ a.ck ∧ B.heap.size ≤ a.ob ∧ B.heap.size ≤ a.j
  dj : ∀ i j k, i ≠ j → ft a i k → ¬ ft a j k
section
variable {B w w' : World} {a a' : Ra} {s s' : Rs}
theorem Rp.ft_ge (h : Rp B a s w) : ∀ i k, ft a i k → B.heap.size ≤ k ∧ k < w.heap.size
  | 0, k, e => by have e' : k = a.r := e; rw [e']; exact ⟨h.ge.1, h.bk.lt⟩
  | 1, k, e => by have e' : k = a.ck := e; rw [e']; exact ⟨h.ge.2.1, h.ck.lt⟩
  | 2, k, e => h.tb.foot_ge e
  | 3, k, e => h.mx.foot e
  | 4, k, e => h.gv.foot_ge e
  | 5, k, e => by have e' : k = a.ob := e; rw [e']; exact ⟨h.ge.2.2.1, h.ob.lt⟩
  | 6, k, e => h.dk.foot_ge e
  | 7, k, e => by have e' : k = a.j := e; rw [e']; exact ⟨h.ge.2.2.2, TabP.lt h.jn⟩
  | _ + 8, _, e => e.elim
theorem Rp.all_ge (h : Rp B a s w) {k : Nat} (hk : allF a k) : B.heap.size ≤ k ∧ k < w.heap.size := by
  obtain ⟨i, hi⟩ := hk; exact h.ft_ge i k hi
theorem Rp.rest (h : Rp B a s w) (I : Nat → Prop) (o : Only (fun k => ∃ i, I i ∧ ft a i k) w w') : Rest I B a s w' := by
  have f : ∀ j, ¬ I j → ∀ k, ft a j k → ¬ ∃ i, I i ∧ ft a i k := fun j hj k hk ⟨i, hi, hik⟩ => h.dj i j k (fun e => hj (e ▸ hi)) hik hk
  have g : ∀ k, (∃ i, I i ∧ ft a i k) → B.heap.size ≤ k := fun k ⟨i, _, hk⟩ => (h.ft_ge i k hk).1
  exact ⟨fun n => h.bk.only o (f 0 n _ rfl), fun n => h.ck.only o (f 1 n _ rfl), fun n => h.tb.apart o (f 2 n) g, fun n => h.mx.far o (f 3 n), fun n => h.gv.apart o (f 4 n) g, fun n => h.ob.only o (f 5 n _ rfl), fun n => h.dk.apart o (f 6 n) g, fun n => h.jn.only o (f 7 n _ rfl)⟩
theorem Rp.keep (h : Rp B a s w) (o : Only none_ w w') : Rp B a s w' := by
  have r := h.rest (fun _ => False) (o.mono fun _ _ e => e.elim)
  exact ⟨r.bk id, r.ck id, r.tb id, r.mx id, r.gv id, r.ob id, r.dk id, r.jn id, h.ho.trans o, h.ge, h.dj⟩
theorem Rp.apart (h : Rp B a s w) {S : Nat → Prop} (o : Only S w w') (hn : ∀ k, allF a k → ¬ S k) (hS : ∀ k, S k → B.heap.size ≤ k) : Rp B a s w' := by
  have f : ∀ j k, ft a j k → ¬ S k := fun j k hk => hn k ⟨j, hk⟩
  exact ⟨h.bk.only o (f 0 _ rfl), h.ck.only o (f 1 _ rfl), h.tb.apart o (f 2) hS, h.mx.far o (f 3), h.gv.apart o (f 4) hS, h.ob.only o (f 5 _ rfl), h.dk.apart o (f 6) hS, h.jn.only o (f 7 _ rfl), h.ho.trans' o (fun k hk e => by have := hS k e; omega), h.ge, h.dj⟩
theorem dj_upd {n : Nat} (I : Nat → Prop) (h : ∀ i j k, i ≠ j → ft a i k → ¬ ft a j k) (hlt : ∀ j k, ft a j k → k < n) (heq : ∀ j, ¬ I j → ft a' j = ft a j) (hm : ∀ i, I i → ∀ k, ft a' i k → ft a i k ∨ n ≤ k) : ∀ i j k, i ≠ j → ft a' i k → ¬ ft a' j k ∨ n ≤ k := by
  intro p q k hpq hp
  rcases Nat.lt_or_ge k n with hk | hk
  · left
    intro hq
    have h1 : ft a p k := by
      by_cases hi : I p
      · rcases hm p hi k hp with e | e
        · exact e
        · omega
      · rw [heq p hi] at hp; exact hp
    have h2 : ft a q k := by
      by_cases hi : I q
      · rcases hm q hi k hq with e | e
        · exact e
        · omega
      · rw [heq q hi] at hq; exact hq
    exact h p q k hpq h1 h2
  · exact .inr hk
theorem dj_one {n i0 : Nat} (h : ∀ i j k, i ≠ j → ft a i k → ¬ ft a j k) (hlt : ∀ j k, ft a j k → k < n) (heq : ∀ j, j ≠ i0 → ft a' j = ft a j) (hm : ∀ k, ft a' i0 k → ft a i0 k ∨ n ≤ k) : ∀ i j k, i ≠ j → ft a' i k → ¬ ft a' j k := by
  intro p q k hpq hp hq
  rcases dj_upd (fun i => i = i0) h hlt (fun j hj => heq j hj) (fun i e k hk => by subst e; exact hm k hk) p q k hpq hp with e | e
  · exact e hq
  · by_cases h1 : p = i0
    · have h2 : q ≠ i0 := fun e => hpq (h1.trans e.symm)
      rw [heq q h2] at hq
      have := hlt q k hq; omega
    · rw [heq p h1] at hp
      have := hlt p k hp; omega
def LeftP (B : World) (a : Ra) (w : World) (s' : Rs) (w' : World) : Prop := ∃ a', Rp B a' s' w' ∧ Only (allF a) w w' ∧ (∀ k, allF a' k → allF a k ∨ w.heap.size ≤ k) ∧ a'.r = a.r ∧ a'.dg = a.dg
theorem LeftP.same (h : Rp B a s w) : LeftP B a w s w := ⟨a, h, Only.refl _ _, fun _ h => .inl h, rfl, rfl⟩
theorem LeftP.kept (h : Rp B a s w) (o : Only none_ w w') : LeftP B a w s w' := ⟨a, h.keep o, o.of_none, fun _ h => .inl h, rfl, rfl⟩
theorem LeftP.trans {w1 w2 : World} {s1 s2 : Rs} (h1 : LeftP B a w s1 w1) (h2 : ∀ a1, Rp B a1 s1 w1 → a1.r = a.r → LeftP B a1 w1 s2 w2) : LeftP B a w s2 w2 := by
  obtain ⟨a1, r1, o1, f1, e1, g1⟩ := h1
  obtain ⟨a2, r2, o2, f2, e2, g2⟩ := h2 a1 r1 e1
  refine ⟨a2, r2, o1.trans' o2 (fun k hk hf => ?_), fun k hk => ?_, e2.trans e1, g2.trans g1⟩
  · rcases f1 k hf with h | h
    · exact h
    · omega
  · rcases f2 k hk with h | h
    · exact f1 k h
    · exact .inr (Nat.le_trans o1.size h)
theorem LeftP.after0 {w1 : World} (o : Only none_ w w1) (h : LeftP B a w1 s w') : LeftP B a w s w' := by
  obtain ⟨a1, r1, o1, f1, e1, g1⟩ := h
  exact ⟨a1, r1, o.of_none.trans' o1 (fun _ _ h => h), fun k hk => (f1 k hk).imp id (fun h => Nat.le_trans o.size h), e1, g1⟩
theorem all_of {i : Nat} (o : Only (ft a i) w w') : Only (allF a) w w' := o.mono fun k _ h => ⟨i, h⟩
theorem is_of {i : Nat} (o : Only (ft a i) w w') : Only (fun k => ∃ j, j = i ∧ ft a j k) w w' := o.mono fun k _ h => ⟨i, rfl, h⟩
theorem all_one {i0 n : Nat} (heq : ∀ j, j ≠ i0 → ft a' j = ft a j) (hm : ∀ k, ft a' i0 k → ft a i0 k ∨ n ≤ k) : ∀ k, allF a' k → allF a k ∨ n ≤ k := by
  rintro k ⟨i, hi⟩
  by_cases h : i = i0
  · subst h; exact (hm k hi).imp (fun h => ⟨_, h⟩) id
  · rw [heq i h] at hi; exact .inl ⟨i, hi⟩
theorem Rp.ck_set (h : Rp B a s w) {c' : Int} (hc : Clk w' a.ck s.site c') (o : Only (one a.ck) w w') : LeftP B a w { s with c := c' } w' := by
  have o1 : Only (ft a 1) w w' := o
  have r := h.rest (fun i => i = 1) (is_of o1)
  exact ⟨a, ⟨r.bk (by decide), hc, r.tb (by decide), r.mx (by decide), r.gv (by decide), r.ob (by decide), r.dk (by decide), r.jn (by decide), h.ho.trans' o (fun k hk e => by have e' : k = a.ck := e; have := h.ge.2.1; omega), h.ge, h.dj⟩, all_of o1, fun _ h => .inl h, rfl, rfl⟩
theorem Rp.tb_set (h : Rp B a s w) {l' : List En} (hL : Se.LeftT B a.tb (roRoom s.o) a.vt w (prs l') w') : LeftP B a w { s with tab := l' } w' := by
  obtain ⟨v', ht, o, m⟩ := hL
  have o1 : Only (ft a 2) w w' := o
  have r := h.rest (fun i => i = 2) (is_of o1)
  have heq : ∀ j, j ≠ 2 → ft { a with vt := v' } j = ft a j := fun j hj => by
    match j, hj with
    | 0, _ => rfl
    | 1, _ => rfl
    | 2, e => exact absurd rfl e
    | 3, _ => rfl
    | 4, _ => rfl
    | 5, _ => rfl
    | 6, _ => rfl
    | 7, _ => rfl
    | _ + 8, _ => rfl
  have hm : ∀ k, ft { a with vt := v' } 2 k → ft a 2 k ∨ w.heap.size ≤ k := by
    rintro k (e | e)
    · exact .inl (.inl e)
    · exact (m k e).imp .inr id
  exact ⟨{ a with vt := v' }, ⟨r.bk (by decide), r.ck (by decide), ht, r.mx (by decide), r.gv (by decide), r.ob (by decide), r.dk (by decide), r.jn (by decide), h.ho.trans' o (fun k hk e => by have := (h.tb.foot_ge e).1; omega), h.ge, dj_one h.dj (fun j k hk => (h.ft_ge j k hk).2) heq hm⟩, all_of o1, all_one heq hm, rfl, rfl⟩
theorem Rp.mk_set (h : Rp B a s w) {l' : List Mk} (hL : LeftR B.heap.size a.mx a.mb a.vm w l' w') : LeftP B a w { s with mks := l' } w' := by
  obtain ⟨v', ht, o, m⟩ := hL
  have o1 : Only (ft a 3) w w' := o
  have r := h.rest (fun i => i = 3) (is_of o1)
  have heq : ∀ j, j ≠ 3 → ft { a with vm := v' } j = ft a j := fun j hj => by
    match j, hj with
    | 0, _ => rfl
    | 1, _ => rfl
    | 2, _ => rfl
    | 3, e => exact absurd rfl e
    | 4, _ => rfl
    | 5, _ => rfl
    | 6, _ => rfl
    | 7, _ => rfl
    | _ + 8, _ => rfl
  have hm : ∀ k, ft { a with vm := v' } 3 k → ft a 3 k ∨ w.heap.size ≤ k := by
    rintro k (e | e | e)
    · exact .inl (.inl e)
    · exact .inl (.inr (.inl e))
    · exact (m k e).imp (fun e => .inr (.inr e)) id
  exact ⟨{ a with vm := v' }, ⟨r.bk (by decide), r.ck (by decide), r.tb (by decide), ht, r.gv (by decide), r.ob (by decide), r.dk (by decide), r.jn (by decide), h.ho.trans' o (fun k hk e => by have := (h.mx.foot e).1; omega), h.ge, dj_one h.dj (fun j k hk => (h.ft_ge j k hk).2) heq hm⟩, all_of o1, all_one heq hm, rfl, rfl⟩
theorem Rp.gv_set (h : Rp B a s w) {l' : List En} (hL : LeftG B a.gv a.gt s.site s.o.t2 a.vg w l' w') : LeftP B a w { s with gr := l' } w' := by
  obtain ⟨gt', v', ht, o, m⟩ := hL
  have o1 : Only (ft a 4) w w' := o
  have r := h.rest (fun i => i = 4) (is_of o1)
  have heq : ∀ j, j ≠ 4 → ft { a with gt := gt', vg := v' } j = ft a j := fun j hj => by
    match j, hj with
    | 0, _ => rfl
    | 1, _ => rfl
    | 2, _ => rfl
    | 3, _ => rfl
    | 4, e => exact absurd rfl e
    | 5, _ => rfl
    | 6, _ => rfl
    | 7, _ => rfl
    | _ + 8, _ => rfl
  have hm : ∀ k, ft { a with gt := gt', vg := v' } 4 k → ft a 4 k ∨ w.heap.size ≤ k := m
  exact ⟨{ a with gt := gt', vg := v' }, ⟨r.bk (by decide), r.ck (by decide), r.tb (by decide), r.mx (by decide), ht, r.ob (by decide), r.dk (by decide), r.jn (by decide), h.ho.trans' o (fun k hk e => by have := (h.gv.foot_ge e).1; omega), h.ge, dj_one h.dj (fun j k hk => (h.ft_ge j k hk).2) heq hm⟩, all_of o1, all_one heq hm, rfl, rfl⟩
theorem Rp.ob_set (h : Rp B a s w) {l' : List ByteArray} (hM : Mq w' a.ob l') (o : Only (one a.ob) w w') : LeftP B a w { s with own := l' } w' := by
  have o1 : Only (ft a 5) w w' := o
  have r := h.rest (fun i => i = 5) (is_of o1)
  exact ⟨a, ⟨r.bk (by decide), r.ck (by decide), r.tb (by decide), r.mx (by decide), r.gv (by decide), hM, r.dk (by decide), r.jn (by decide), h.ho.trans' o (fun k hk e => by have e' : k = a.ob := e; have := h.ge.2.2.1; omega), h.ge, h.dj⟩, all_of o1, fun _ h => .inl h, rfl, rfl⟩
theorem Rp.dk_set (h : Rp B a s w) {d' : Dv} {n' : Int} (hL : LeftJ B a.dg a.j a.vd w d' n' w') : LeftP B a w { s with D := d', n := n' } w' := by
  obtain ⟨v', hd, hj, o, m, hf⟩ := hL
  have oS : Only (fun k => ∃ i, (i = 6 ∨ i = 7) ∧ ft a i k) w w' := o.mono fun k _ h => h.elim (fun h => ⟨6, .inl rfl, h⟩) (fun h => ⟨7, .inr rfl, h⟩)
  have r := h.rest (fun i => i = 6 ∨ i = 7) oS
  have heq : ∀ j, j ≠ 6 → ft { a with vd := v' } j = ft a j := fun j hj => by
    match j, hj with
    | 0, _ => rfl
    | 1, _ => rfl
    | 2, _ => rfl
    | 3, _ => rfl
    | 4, _ => rfl
    | 5, _ => rfl
    | 6, e => exact absurd rfl e
    | 7, _ => rfl
    | _ + 8, _ => rfl
  have hm : ∀ k, ft { a with vd := v' } 6 k → ft a 6 k ∨ w.heap.size ≤ k := by
    rintro k (e | e)
    · exact .inl (.inl e)
    · exact (m k e).imp .inr id
  exact ⟨{ a with vd := v' }, ⟨r.bk (by decide), r.ck (by decide), r.tb (by decide), r.mx (by decide), r.gv (by decide), r.ob (by decide), hd, hj, h.ho.trans' oS (fun k hk ⟨i, _, e⟩ => by have := (h.ft_ge i k e).1; omega), h.ge, dj_one h.dj (fun j k hk => (h.ft_ge j k hk).2) heq hm⟩, oS.mono (fun k _ ⟨i, _, e⟩ => ⟨i, e⟩), all_one heq hm, rfl, rfl⟩
theorem Rp.z_set (h : Rp B a s w) (z' : Int) : LeftP B a w { s with z := z' } (w.setCell ⟨a.r, 7, none⟩ (.int .u64 (w64 z'))) := by
  have o1 : Only (ft a 0) w (w.setCell ⟨a.r, 7, none⟩ (.int .u64 (w64 z'))) := (Only.refl _ w).setCell (.inl (show a.r = a.r from rfl)) _
  have r := h.rest (fun i => i = 0) (is_of o1)
  have b : Blk (w.setCell ⟨a.r, 7, none⟩ (.int .u64 (w64 z'))) a.r 78 (rCells a s.o z') := by
    have := h.bk.set_ 7 (.int .u64 (w64 z'))
    simpa using this
  exact ⟨a, ⟨b, r.ck (by decide), r.tb (by decide), r.mx (by decide), r.gv (by decide), r.ob (by decide), r.dk (by decide), r.jn (by decide), h.ho.trans' o1 (fun k hk e => by have e' : k = a.r := e; have := h.ge.1; omega), h.ge, h.dj⟩, all_of o1, fun _ h => .inl h, rfl, rfl⟩
end
end Go.Proofs.YtoohpcomnhfgpaaGreat
end
section
namespace Go.Proofs.YtoohpcomnhfgpaaGreat
open Go.RowKit
set_option linter.all false
theorem set_perm (e : En) : ∀ l : List En, (setE e l).Perm (e :: l.filter fun y => !decide (y.k = e.k))
  | [] => .refl _
  | x :: r => by
    unfold setE
    by_cases hx : lt_ x.k e.k = true
    · rw [if_pos hx, List.filter_cons_of_pos (by simpa using lt_ne hx)]
      exact ((set_perm e r).cons x).trans (List.Perm.swap _ _ _)
    · rw [if_neg hx]
theorem sumH_perm {l l' : List En} (h : l.Perm l') : sumH l = sumH l' := by
  induction h with
  | nil => rfl
  | cons x _ ih => simp only [sumH, List.map_cons, List.sum_cons] at ih ⊢; rw [ih]
  | swap x y l => simp only [sumH, List.map_cons, List.sum_cons]; omega
  | trans _ _ h1 h2 => exact h1.trans h2
theorem sumH_cons (e : En) (l : List En) : sumH (e :: l) = hsh e + sumH l := by simp [sumH]
theorem hsh_zero : hsh enZero = 0 := hsh_no _ (by decide)
theorem sum_filter {l : List En} (h : RisE l) (k : ByteArray) : sumH l = sumH (l.filter fun y => !decide (y.k = k)) + hsh ((lookE l k).getD enZero) := by
  induction l with
  | nil => simp [sumH, lookE, hsh_zero]
  | cons x r ih =>
    have h' := List.pairwise_cons.1 h
    by_cases hx : x.k = k
    · have hf : (r.filter fun y => !decide (y.k = k)) = r := List.filter_eq_self.2 fun y hy => by simpa using fun e => lt_ne (h'.1 y hy) (hx.trans e.symm)
      rw [List.filter_cons_of_neg (by simp [hx]), hf, sumH_cons]
      have : lookE (x :: r) k = some x := by simp [lookE, hx]
      rw [this, Option.getD_some]; omega
    · have : lookE (x :: r) k = lookE r k := by simp [lookE, hx]
      rw [List.filter_cons_of_pos (by simp [hx]), sumH_cons, sumH_cons, this, ih h'.2]
      omega
theorem sum_set {l : List En} (h : RisE l) (e : En) : sumH (setE e l) = sumH l + (hsh e - hsh ((lookE l e.k).getD enZero)) := by
  rw [sumH_perm (set_perm e l), sumH_cons, sum_filter h e.k]; omega
def dropE (l : List En) (k : ByteArray) : List En := l.filter fun y => !decide (y.k = k)
theorem sum_drop {l : List En} (h : RisE l) {e : En} (he : e ∈ l) : sumH (dropE l e.k) = sumH l - hsh e := by
  rw [sum_filter h e.k, look_mem h he]; simp [dropE]
theorem ins_perm (m : Mk) : ∀ l : List Mk, (insM m l).Perm (m :: l)
  | [] => .refl _
  | x :: r => by
    unfold insM
    split
    · exact .refl _
    · exact ((ins_perm m r).cons x).trans (List.Perm.swap _ _ _)
theorem filter_marks (l : List En) (k : ByteArray) : dropM (l.map mkOf) k = (dropE l k).map mkOf := by
  unfold dropM dropE
  rw [List.filter_map]; rfl
theorem marks_drop {ms : List Mk} {l : List En} (h : ms.Perm (l.map mkOf)) (k : ByteArray) : (dropM ms k).Perm ((dropE l k).map mkOf) := by
  rw [← filter_marks]; exact h.filter _
theorem marks_set {ms : List Mk} {l : List En} (h : ms.Perm (l.map mkOf)) (e : En) : (putM ms (mkOf e)).Perm ((setE e l).map mkOf) := by
  refine (ins_perm _ _).trans ?_
  refine List.Perm.trans ?_ ((set_perm e l).map mkOf).symm
  rw [List.map_cons]
  exact (marks_drop h e.k).cons _
theorem set_same {l : List En} (h : RisE l) {e : En} (he : e ∈ l) : setE e l = l := by
  induction l with
  | nil => cases he
  | cons x r ih =>
    have h' := List.pairwise_cons.1 h
    unfold setE
    rcases List.mem_cons.1 he with rfl | he
    · rw [if_neg (by rw [lt_irr]; simp), List.filter_cons_of_neg (by simp)]
      rw [List.filter_eq_self.2 fun y hy => by simpa using fun e' => lt_ne (h'.1 y hy) e'.symm]
    · rw [if_pos (h'.1 e he), ih h'.2 he]
theorem marks_age {l : List En} (h : RisE l) {e : En} (he : e ∈ l) (g : Int) : ((setE { e with g := g } l).map mkOf).Perm (l.map mkOf) := by
  have h1 := (set_perm { e with g := g } l).map mkOf
  rw [List.map_cons] at h1
  have h3 := set_perm e l
  rw [set_same h he] at h3
  have h4 := h3.map mkOf
  rw [List.map_cons] at h4
  exact h1.trans h4.symm
theorem look_has {l : List En} {k : ByteArray} {x : En} (h : lookE l k = some x) : hasE l k = true := by
  obtain ⟨h1, h2⟩ := look_some h
  rw [← h2]; exact hasE_mem h1
theorem set_len {l : List En} (h : RisE l) (e : En) : (setE e l).length = if hasE l e.k = true then l.length else l.length + 1 := by
  have h1 := (set_perm e l).length_eq
  rw [List.length_cons] at h1
  rw [h1]
  by_cases hk : hasE l e.k = true
  · rw [if_pos hk]
    obtain ⟨x, hx, he⟩ := List.any_eq_true.1 hk
    have he : x.k = e.k := by simpa using he
    have h2 := (set_perm x l).length_eq
    rw [set_same h hx, List.length_cons, he] at h2
    exact h2.symm
  · rw [if_neg hk]
    have hk' : hasE l e.k = false := by simpa using hk
    rw [List.filter_eq_self.2 fun y hy => by simpa using hasE_not hk' y hy]
theorem check_of {e : En} (h : enCheck e = 0) : 1 ≤ e.k.size ∧ e.k.size ≤ 16 ∧ e.v.size ≤ 32 ∧ stGood e.s = true ∧ stGood e.a = true ∧ stLater e.s e.a = false ∧ (e.d = false → stEq e.a e.s = true ∧ e.p = 0 ∧ e.g = 0) ∧ (e.d = true → 1 ≤ e.p ∧ e.p ≤ 4095 ∧ 0 ≤ e.g ∧ e.g ≤ 2147483647) := by
  unfold enCheck at h
  split at h
  · cases h
  next h1 =>
  split at h
  · cases h
  next h2 =>
  split at h
  · cases h
  next h3 =>
  split at h
  · cases h
  next h4 =>
  simp only [enKeyBad, Bool.or_eq_true, decide_eq_true_eq, not_or] at h1
  simp only [enValBad, Bool.or_eq_true, decide_eq_true_eq, not_or] at h2
  simp only [enStBad, Bool.or_eq_true, Bool.not_eq_true', not_or, Bool.not_eq_false, Bool.and_eq_true, Bool.not_eq_true] at h3
  simp only [enRestBad, Bool.not_eq_true', Bool.not_eq_false] at h4
  refine ⟨by omega, by omega, by omega, h3.1.1, h3.1.2, h3.2, fun e1 => ?_, fun e1 => ?_⟩
  · rw [if_neg (by simp [e1])] at h4
    simp only [enLive, Bool.and_eq_true, beq_iff_eq] at h4
    exact ⟨h4.1.1, h4.1.2, h4.2⟩
  · rw [if_pos e1] at h4
    simp only [enCert, Bool.and_eq_true, decide_eq_true_eq] at h4
    exact ⟨h4.1.1.1, h4.1.1.2, h4.1.2, h4.2⟩
theorem good_of {x : St} (h : stGood x = true) : 1 ≤ x.c ∧ x.c ≤ 4294967295 ∧ 0 ≤ x.s ∧ x.s ≤ 11 := by
  simp only [stGood, stSite, Bool.and_eq_true, decide_eq_true_eq] at h
  omega
theorem check_age {e : En} (h : enCheck e = 0) (hd : e.d = true) {g : Int} (h0 : 0 ≤ g) (h1 : g ≤ 2147483647) : enCheck { e with g := g } = 0 := by
  have hc := check_of h
  have hr : enRestBad { e with g := g } = false := by
    have := hc.2.2.2.2.2.2.2 hd
    simp only [enRestBad, hd, if_true, enCert, Bool.not_eq_false', Bool.and_eq_true, decide_eq_true_eq]
    exact ⟨⟨⟨this.1, this.2.1⟩, h0⟩, h1⟩
  have h2 : enKeyBad { e with g := g } = enKeyBad e := rfl
  have h3 : enValBad { e with g := g } = enValBad e := rfl
  have h4 : enStBad { e with g := g } = enStBad e := rfl
  unfold enCheck at h ⊢
  rw [h2, h3, h4, hr]
  split at h
  · cases h
  next a1 =>
  rw [if_neg a1]
  split at h
  · cases h
  next a2 =>
  rw [if_neg a2]
  split at h
  · cases h
  next a3 =>
  rw [if_neg a3]; simp
theorem hsh_aged {e : En} (h : enCheck e = 0) (hd : e.d = true) {g : Int} (h0 : 0 ≤ g) (h1 : g ≤ 2147483647) : hsh { e with g := g } = hsh e :=
  hsh_age e e.p g h (check_age h hd h0 h1)
end Go.Proofs.YtoohpcomnhfgpaaGreat
end
section
namespace Go.Proofs.YtoohpcomnhfgpaaGreat
open Go.RowKit
set_option maxRecDepth 100000
set_option maxHeartbeats 800000 in
theorem encode_no (e : En) (w : World) (hc : enCheck e ≠ 0) :
    Calls Tryz.prog 163 #[.agg #[.string e.k, .string e.v, .bool e.d, .int .i64 e.s.c, .int .i64 e.s.s, .int .i64 e.a.c, .int .i64 e.a.s, .int .i64 e.p, .int .i64 e.g]] w fun E w' => E = .returned (.tuple #[.slice none 0 0, .int .i64 (enCheck e)]) ∧ Only none_ w w' := by
  have B0 := Lib.hid (Blk.new w 82 #[.string e.k, .string e.v, .bool e.d, .int .i64 e.s.c, .int .i64 e.s.s, .int .i64 e.a.c, .int .i64 e.a.s, .int .i64 e.p, .int .i64 e.g])
  have O0 := Lib.hid ((Only.refl none_ w).alloc (.cells #[.string e.k, .string e.v, .bool e.d, .int .i64 e.s.c, .int .i64 e.s.s, .int .i64 e.a.c, .int .i64 e.a.s, .int .i64 e.p, .int .i64 e.g] 82))
  obtain ⟨z, hz⟩ : ∃ z, enCheck e = z := ⟨_, rfl⟩
  rw [hz] at hc ⊢
  have HZ := Lib.hid hz
  clear hz
  go_enter Tryz.func163, Tryz.ntmps163
  go_wp2_with (first
    | (refine wpl_load rfl 82 _ rfl w.heap.size rfl 82 #[.string e.k, .string e.v, .bool e.d, .int .i64 e.s.c, .int .i64 e.s.s, .int .i64 e.a.c, .int .i64 e.a.s, .int .i64 e.p, .int .i64 e.g] _ B0.out Tryz.underlying82 rfl (by kernel_rfl) ?_)
    | (go_at_call 83; refine (en_check e _).mono ?_; rw [HZ.out]; rintro e1 w1 ⟨rfl, o1⟩
       have O1 := Lib.hid (O0.out.trans o1)
       clear o1))
  go_ret2
  exact ⟨rfl, O1.out⟩
set_option maxHeartbeats 1600000 in
theorem encode_okE (m : Ne) (w : World) (hc : enCheck m.en = 0) (ok : m.ok) :
    Calls Tryz.prog 163 #[.agg #[.string m.en.k, .string m.en.v, .bool m.en.d, .int .i64 m.en.s.c, .int .i64 m.en.s.s, .int .i64 m.en.a.c, .int .i64 m.en.a.s, .int .i64 m.en.p, .int .i64 m.en.g]] w fun E w' => ∃ A n c, E = .returned (.tuple #[.slice A n c, .int .i64 0]) ∧ w'.ownsRow w.heap.size 5 1 (.slice A n c) (layB m).length (byts (layB m)) ∧ Only none_ w w' := by
  have HL : Hid (∀ B g v w, Lw B g [] v w → Calls Tryz.prog 209 #[.pointer (some ⟨g, 0, none⟩), .agg #[.string m.en.k, .string m.en.v, .bool m.en.d, .int .i64 m.en.s.c, .int .i64 m.en.s.s, .int .i64 m.en.a.c, .int .i64 m.en.a.s, .int .i64 m.en.p, .int .i64 m.en.g]] w fun E w' => E = .returned (.tuple #[]) ∧ ∃ v', Lw B g (layB m) v' w') :=
    fun B g v w s => lay_any B g m [] v w ok s (by simp)
  have hlen : (layB m).length ≤ 1000000 := by
    have h1 := txtB_len m.k
    have h2 := txtB_len m.v
    have h3 := ok.1
    have h4 := ok.2.1
    simp only [layB, List.length_append, leBytes_len, h1, h2, List.length_cons, List.length_nil]
    omega
  obtain ⟨e, he⟩ : ∃ e, m.en = e := ⟨_, rfl⟩
  obtain ⟨bs, hb⟩ : ∃ b, layB m = b := ⟨_, rfl⟩
  rw [he] at hc HL ⊢
  rw [hb] at HL hlen ⊢
  have B0 := Lib.hid (Blk.new w 82 #[.string e.k, .string e.v, .bool e.d, .int .i64 e.s.c, .int .i64 e.s.s, .int .i64 e.a.c, .int .i64 e.a.s, .int .i64 e.p, .int .i64 e.g])
  have O0 := Lib.hid ((Only.refl none_ w).alloc (.cells #[.string e.k, .string e.v, .bool e.d, .int .i64 e.s.c, .int .i64 e.s.s, .int .i64 e.a.c, .int .i64 e.a.s, .int .i64 e.p, .int .i64 e.g] 82))
  have HZ := Lib.hid hc
  have HN := Lib.hid hlen
  clear hc he hb hlen
  have tok1 : True := trivial
  go_enter Tryz.func163, Tryz.ntmps163
  go_wp2_with (first
    | (refine wpl_load rfl 82 _ rfl w.heap.size rfl 82 #[.string e.k, .string e.v, .bool e.d, .int .i64 e.s.c, .int .i64 e.s.s, .int .i64 e.a.c, .int .i64 e.a.s, .int .i64 e.p, .int .i64 e.g] _ B0.out Tryz.underlying82 rfl (by kernel_rfl) ?_)
    | (go_at_call 83; refine (en_check e _).mono ?_; rw [HZ.out]; rintro e1 w1 ⟨rfl, o1⟩
       have O1 := Lib.hid (O0.out.trans o1)
       have L1 := Lib.hid (Lw.new w1)
       have B1 := Lib.hid ((B0.out.only o1 (fun h => h)).alloc (.cells #[.int .i64 0, .slice none 0 0] 318))
       clear o1)
    | (refine wpl_load rfl 82 _ rfl w.heap.size rfl 82 #[.string e.k, .string e.v, .bool e.d, .int .i64 e.s.c, .int .i64 e.s.s, .int .i64 e.a.c, .int .i64 e.a.s, .int .i64 e.p, .int .i64 e.g] _ B1.out Tryz.underlying82 rfl (by kernel_rfl) ?_)
    | (go_at_call 209; refine (HL.out w1 _ _ _ L1.out).mono ?_; rintro e2 w2 ⟨rfl, v2, l2⟩
       have L2 := Lib.hid l2
       have O2 := Lib.hid (O1.out.trans l2.ho)
       clear l2)
    | (go_at_call 210; refine (lw_bytes L2.out HN.out).mono ?_; rintro e3 w3 ⟨A3, n3, c3, rfl, own3, o3⟩
       have L3 := Lib.hid (L2.out.keep o3)
       have X3 := Lib.hid own3
       have O3 := Lib.hid (O2.out.trans o3)
       clear own3 o3)
    | (go_at_call 211; refine (lw_err L3.out).mono ?_; rintro e4 w4 ⟨rfl, rfl⟩))
  go_ret2
  exact ⟨A3, n3, c3, rfl, owns_base X3.out O2.out.size, O3.out⟩
end Go.Proofs.YtoohpcomnhfgpaaGreat
end
section
namespace Go.Proofs.YtoohpcomnhfgpaaGreat
open Go.RowKit
set_option maxRecDepth 100000
structure Ap (W : World) (h : Nat) (cs : Array Value) (v : Value) (bs : List UInt8) (w : World) : Prop where
  bx : Blk w h 50 cs
  ow : w.ownsRow W.heap.size 5 1 v bs.length (byts bs)
  ho : Only none_ W w
section
variable {W w w' : World} {h : Nat} {cs : Array Value} {v v' : Value} {bs bs' : List UInt8}
theorem Ap.keep (a : Ap W h cs v bs w) (o : Only none_ w w') : Ap W h cs v bs w' := ⟨a.bx.only o (fun h => h), owns_only a.ow o (fun _ _ h => h), a.ho.trans o⟩
theorem Ap.app (a : Ap W h cs v bs w) (own : w'.ownsRow W.heap.size 5 1 v' bs'.length (byts bs')) (hg : w.grownBy w' v.ownBlock) : Ap W h cs v' bs' w' :=
  ⟨a.bx.grown' hg (own_blk_ne a.ow a.bx (by decide)), own, a.ho.grown hg (fun k hk => .inr (a.ow.lt k hk).1)⟩
end
end Go.Proofs.YtoohpcomnhfgpaaGreat
end
section
namespace Go.Proofs.YtoohpcomnhfgpaaGreat
open Go.RowKit
set_option maxRecDepth 100000
set_option linter.all false
set_option maxHeartbeats 1600000 in
theorem sm_hash (e : En) (w : World) :
    Calls Tryz.prog 104 #[.agg #[.string e.k, .string e.v, .bool e.d, .int .i64 e.s.c, .int .i64 e.s.s, .int .i64 e.a.c, .int .i64 e.a.s, .int .i64 e.p, .int .i64 e.g]] w fun E w' => E = .returned (.int .u64 ((hsh e : Nat) : Int)) ∧ Only none_ w w' := by
  have B0 := Lib.hid (Blk.new w 82 #[.string e.k, .string e.v, .bool e.d, .int .i64 e.s.c, .int .i64 e.s.s, .int .i64 e.a.c, .int .i64 e.a.s, .int .i64 e.p, .int .i64 e.g])
  have O0 := Lib.hid ((Only.refl none_ w).alloc (.cells #[.string e.k, .string e.v, .bool e.d, .int .i64 e.s.c, .int .i64 e.s.s, .int .i64 e.a.c, .int .i64 e.a.s, .int .i64 e.p, .int .i64 e.g] 82))
  by_cases hc : enCheck e = 0
  · obtain ⟨m, hm, ok, _, _⟩ := chk_ne hc
    have hen := fun w => encode_okE m w (hm ▸ hc) ok
    have hh := hsh_yes m (hm ▸ hc)
    rw [← hm] at hen hh
    rw [hh]
    have hlen := front_len m
    have htk := front_take m
    have hsm : (layB m).length ≤ 1000000 := by
      have h1 := txtB_len m.k
      have h2 := txtB_len m.v
      have h3 := ok.1
      have h4 := ok.2.1
      simp only [layB, List.length_append, leBytes_len, h1, h2, List.length_cons, List.length_nil]
      omega
    obtain ⟨fs, hfs⟩ : ∃ fs, frontB m = fs := ⟨_, rfl⟩
    obtain ⟨bs, hbs⟩ : ∃ bs, layB m = bs := ⟨_, rfl⟩
    rw [hfs] at hlen htk ⊢
    rw [hbs] at hen hlen htk hsm
    obtain ⟨F, hF⟩ : ∃ F, fs.length = F := ⟨_, rfl⟩
    rw [hF] at hlen htk
    obtain ⟨N, hN⟩ : ∃ N, bs.length = N := ⟨_, rfl⟩
    rw [hN] at hlen hsm
    have HEN := Lib.hid hen
    have HTK := Lib.hid htk
    have HN := Lib.hid hN
    have HF := Lib.hid hF
    have hFN : (N : Int) - 6 = (F : Int) := by omega
    have HFN := Lib.hid hFN
    have h6 : 6 ≤ N := by omega
    have hF6 : F ≤ 1000000 := by omega
    have HL := Lib.hid hlen
    obtain ⟨i0, hi0, hz0, hz1, hz2⟩ := info_parts u8_info
    have HQ : Hid (fs.take F = fs) := by rw [Hid, ← hF, List.take_length]
    clear hen hh hlen htk hfs hbs hF hN hm hc hFN
    go_enter Tryz.func104, Tryz.ntmps104
    go_wp2_with (first
      | (refine wpl_load rfl 82 _ rfl w.heap.size rfl 82 #[.string e.k, .string e.v, .bool e.d, .int .i64 e.s.c, .int .i64 e.s.s, .int .i64 e.a.c, .int .i64 e.a.s, .int .i64 e.p, .int .i64 e.g] _ B0.out Tryz.underlying82 rfl (by kernel_rfl) ?_)
      | (go_at_call 163; refine (HEN.out _).mono ?_; rintro E w3 ⟨A3, n3, c3, rfl, own3, o3⟩
         have X3 := Byt.of_own own3
         obtain rfl : n3 = N := by obtain ⟨_, _, q, _⟩ := X3; injection q with _ q _; rw [q]; exact HN.out
         obtain ⟨A4, hs4, h4⟩ := byt_hi (P := Tryz.prog) Tryz.underlying114 hi0 X3 F (by have := HL.out; omega) ((n3 : Int) - 6) HFN.out
         have X4 := Lib.hid h4
         have O3 := Lib.hid (O0.out.trans o3)
         clear own3 o3 X3 h4))
    go_loop [5, 21] (fun x k => ∃ j : Nat, j ≤ F ∧ k = .int .i64 j ∧ x = .int .u64 ((fnv (fs.take j) : Nat) : Int)) (fun _ k => F - (intOf k).toNat)
    case atStart => exact ⟨0, by omega, rfl, rfl⟩
    case round =>
      obtain ⟨j, hj, rfl, rfl⟩ := hrel
      have hu := fnv_lt (fs.take j)
      by_cases hlt : j < F
      · have hX := X4.out
        rw [HTK.out] at hX
        obtain ⟨A', c', he, _, _, _, h4⟩ := hX
        obtain ⟨b, off, rfl, _, _, hcc⟩ := h4 (by have := HF.out; omega)
        injection he with he
        subst he
        have hcj := hcc j (by have := HF.out; omega)
        obtain ⟨z, hz⟩ : ∃ z, fs[j]'(by have := HF.out; omega) = z := ⟨_, rfl⟩
        have hS := fnv_succ (bs := fs) (k := j) (b := z) (by rw [← hz]; exact List.getElem?_eq_getElem _)
        rw [hz] at hcj
        obtain ⟨u, hue⟩ : ∃ u, fnv (fs.take j) = u := ⟨_, rfl⟩
        rw [hue] at hu hS ⊢
        have HS := Lib.hid hS
        have hz8 := z.toNat_lt
        have hx := fnv_xor u z hu
        have hm := fnv_wrap u z
        have hx64 : u ^^^ z.toNat < 18446744073709551616 := Nat.xor_lt_two_pow (n := 64) (by omega) (by omega)
        obtain ⟨x, hxe⟩ : ∃ x, u ^^^ z.toNat = x := ⟨_, rfl⟩
        rw [hxe] at hx hm hx64
        simp only [byt] at hcj
        clear hS hue hz hcc h4 hxe
        go_wp2
        go_round
        case rel => exact ⟨j + 1, by omega, by go_num, by rw [HS.out]⟩
        case measure => simp [intOf]; omega
      · obtain rfl : j = F := by omega
        rw [HQ.out]
        go_wp2
        go_ret
        exact ⟨rfl, O3.out⟩
  · rw [hsh_no e hc]
    have HEN := Lib.hid (fun w => encode_no e w hc)
    obtain ⟨z, hz⟩ : ∃ z, enCheck e = z := ⟨_, rfl⟩
    rw [hz] at hc HEN
    have hzn : (z != 0) = true := by simp [hc]
    clear hz
    go_enter Tryz.func104, Tryz.ntmps104
    go_wp2_with (first
      | (refine wpl_load rfl 82 _ rfl w.heap.size rfl 82 #[.string e.k, .string e.v, .bool e.d, .int .i64 e.s.c, .int .i64 e.s.s, .int .i64 e.a.c, .int .i64 e.a.s, .int .i64 e.p, .int .i64 e.g] _ B0.out Tryz.underlying82 rfl (by kernel_rfl) ?_)
      | (go_at_call 163; refine (HEN.out _).mono ?_; rintro E w3 ⟨rfl, o3⟩
         have O3 := Lib.hid (O0.out.trans o3)
         clear o3))
    go_ret
    exact ⟨rfl, O3.out⟩
end Go.Proofs.YtoohpcomnhfgpaaGreat
end
section
namespace Go.Proofs.YtoohpcomnhfgpaaGreat
open Go.RowKit
set_option maxRecDepth 100000
set_option linter.all false
theorem add_u64 (a b : Int) (w : World) : (Op.intArith .add .u64 a b).run Tryz.prog w = .ok (.int .u64 (w64 (a + b))) w := by
  rw [← w64_wrap]; rfl
theorem uadd (a : Addr) (n m s : Int) (w : World) (hc : w.cell? a = some (.int .u64 n)) (hz : w.frozen? a = false) (hs : w64 (n + m) = s) :
    Calls Tryz.prog 205 #[.pointer (some a), .int .u64 m] w fun e w' => e = .returned (.int .u64 s) ∧ w' = w.setCell a (.int .u64 s) := by
  have hst := run_call_add (P := Tryz.prog) Tryz.func236 (by kernel_rfl) (by kernel_rfl) (by kernel_rfl) .u64 (by kernel_rfl) (y := m) (s := s) hc hz (by rw [← hs]; exact add_u64 n m w)
  clear hs
  go_enter Tryz.func205, Tryz.ntmps205
  go_wp2
  go_ret
  exact ⟨rfl, rfl⟩
theorem uload (a : Addr) (n : Int) (w : World) (hc : w.cell? a = some (.int .u64 n)) :
    Calls Tryz.prog 162 #[.pointer (some a)] w fun e w' => e = .returned (.int .u64 n) ∧ w = w' := by
  have hl := run_call_load (P := Tryz.prog) Tryz.func208 (by kernel_rfl) (by kernel_rfl) (by kernel_rfl) .u64 (by kernel_rfl) hc
  go_enter Tryz.func162, Tryz.ntmps162
  go_wp2
  go_ret
  exact ⟨rfl, rfl⟩
def Su (w : World) (g : Nat) (z : Int) : Prop := Blk w g 70 #[.int .u64 (w64 z)]
section
variable {w w' : World} {g : Nat} {z : Int}
theorem Su.cell (h : Su w g z) : w.cell? ⟨g, 0, none⟩ = some (.int .u64 (w64 z)) := Blk.cell_ (t := 70) h rfl
theorem Su.free (h : Su w g z) : w.frozen? ⟨g, 0, none⟩ = false := Blk.frozen (t := 70) h 0
theorem Su.lt (h : Su w g z) : g < w.heap.size := Blk.lt (t := 70) h
theorem Su.only {S : Nat → Prop} (h : Su w g z) (ho : Only S w w') (hn : ¬ S g) : Su w' g z := Blk.only (t := 70) h ho hn
theorem Su.keep (h : Su w g z) (ho : Only none_ w w') : Su w' g z := h.only ho (fun h => h)
theorem Su.drew (h : Su w g z) : Su w.drew g z := h
theorem Su.alloc (h : Su w g z) (o : Obj) : Su (w.alloc o) g z := Blk.alloc (t := 70) h o
theorem Su.set_ (h : Su w g z) (y : Int) : Su (w.setCell ⟨g, 0, none⟩ (.int .u64 (w64 y))) g y := by
  have := Blk.set_ (t := 70) h 0 (.int .u64 (w64 y))
  unfold Su
  simpa using this
theorem Su.new (w : World) : Su (w.alloc (.cells #[.int .u64 0] 70)) w.heap.size 0 := Blk.new w _ _
theorem Su.eq (h : Su w g z) {y : Int} (e : w64 z = w64 y) : Su w g y := by unfold Su at h ⊢; rw [← e]; exact h
end
structure Tm (W : World) (t : TypeId) (g h1 : Nat) (z : Int) (a : En) (w : World) : Prop where
  x : Blk w h1 t #[.string a.k, .string a.v, .bool a.d, .int .i64 a.s.c, .int .i64 a.s.s, .int .i64 a.a.c, .int .i64 a.a.s, .int .i64 a.p, .int .i64 a.g]
  s : Su w g z
  ho : Only none_ W w
theorem Tm.keep {W w w' : World} {t : TypeId} {g h1 : Nat} {z : Int} {a : En} (k : Tm W t g h1 z a w) (o : Only none_ w w') : Tm W t g h1 z a w' := ⟨k.x.only o (fun h => h), k.s.keep o, k.ho.trans o⟩
structure Tn (W : World) (t u : TypeId) (g h1 h2 : Nat) (z : Int) (a b : En) (w : World) : Prop where
  x : Blk w h1 t #[.string a.k, .string a.v, .bool a.d, .int .i64 a.s.c, .int .i64 a.s.s, .int .i64 a.a.c, .int .i64 a.a.s, .int .i64 a.p, .int .i64 a.g]
  y : Blk w h2 u #[.string b.k, .string b.v, .bool b.d, .int .i64 b.s.c, .int .i64 b.s.s, .int .i64 b.a.c, .int .i64 b.a.s, .int .i64 b.p, .int .i64 b.g]
  s : Su w g z
  ho : Only none_ W w
theorem Tn.keep {W w w' : World} {t u : TypeId} {g h1 h2 : Nat} {z : Int} {a b : En} (k : Tn W t u g h1 h2 z a b w) (o : Only none_ w w') : Tn W t u g h1 h2 z a b w' := ⟨k.x.only o (fun h => h), k.y.only o (fun h => h), k.s.keep o, k.ho.trans o⟩
end Go.Proofs.YtoohpcomnhfgpaaGreat
end
