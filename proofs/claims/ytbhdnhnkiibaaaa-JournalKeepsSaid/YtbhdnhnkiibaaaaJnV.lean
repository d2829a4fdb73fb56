/- What Add of package journal does; whether rows of bytes are few, and short. No statement of the seat is proved here. -/
import Derived.Test.YtbhdnhnkiibaaaaJnP
import Derived.Test.YtbhdnhnkiibaaaaJnA
namespace Go.Proofs.Ytbhdnhnkiibaaaa
open Go.RowKit
set_option maxRecDepth 100000
set_option linter.all false

/-- What an addition tells, and leaves of the disk. -/
def adF (bs : List UInt8) (d : Dv) : Int := if 1048576 < d.bs.length + (recB bs).length then 7 else 0
def adD1 (bs : List UInt8) (d : Dv) : Dv := chD d (adF bs d) (dApp (recB bs) (burnt d))
def adC (bs : List UInt8) (d : Dv) : Int := if recCode bs.length ≠ 0 then recCode bs.length else if chCode d (adF bs d) ≠ 0 then chCode d (adF bs d) else chCode (adD1 bs d) 0
def adD (bs : List UInt8) (d : Dv) : Dv := if recCode bs.length ≠ 0 then d else if chCode d (adF bs d) ≠ 0 then adD1 bs d else chD (adD1 bs d) 0 (dSync (burnt (adD1 bs d)))
def adN (bs : List UInt8) (d : Dv) (n : Int) : Int := if adC bs d = 0 then n + 1 else n
/-- What a call that works on a disk and its journal may leave. -/
def LeftJ (B : World) (g j : Nat) (v : Value) (w : World) (d' : Dv) (n' : Int) (w' : World) : Prop :=
  ∃ v', Dsk B g d' v' w' ∧ Jn w' j g n' ∧ Only (fun k => foot g v k ∨ k = j) w w' ∧ Moved w v v' ∧ ¬ foot g v' j
theorem Jn.set {w : World} {j g : Nat} {n : Int} (h : Jn w j g n) (m : Int) : Jn (w.setCell ⟨j, 260, none⟩ (.int .i64 m)) j g m :=
  TabP.setQ (P := #[.pointer (some ⟨g, 0, none⟩)]) (o := 1) h rfl 0 (.int .i64 m)
theorem foot_moved {B w w0 : World} {g j : Nat} {v v' : Value} {d : Dv} (hm : Moved w v v') (hj : ¬ foot g v j) (hlt : j < w.heap.size) : ¬ foot g v' j := by
  rintro (h | h)
  · exact hj (.inl h)
  · rcases hm _ h with h1 | h1
    · exact hj (.inr h1)
    · omega

set_option maxHeartbeats 3200000 in
theorem add_any (B : World) (g j : Nat) (n : Int) (d : Dv) (v x : Value) (bs : List UInt8) (S : Nat → Prop) (w : World) (h : Dsk B g d v w) (hj : Jn w j g n) (hx : Byt w S x bs) (hS : ∀ b, S b → b ≠ g ∧ b ≠ j) (hB : B.heap.size ≤ j) (hf : ¬ foot g v j) (h0 : 0 ≤ n) (h1 : n ≤ 1000000) :
    Calls Try.prog 34 #[.pointer (some ⟨j, 0, none⟩), x] w fun e w' => e = .returned (.int .i64 (adC bs d)) ∧ LeftJ B g j v w (adD bs d) (adN bs d n) w' := by
  have hjd := hj.disk
  have HLY := Lib.hid (lay_any7 (o := 1) rfl j S x bs w hj hx (fun b hb => (hS b hb).2))
  have hjlt : j < w.heap.size := TabP.lt hj
  have HJ := Lib.hid hj
  have H := Lib.hid h
  have HF := Lib.hid hf
  have HBJ : Hid (B.heap.size ≤ j ∧ j < w.heap.size) := ⟨hB, hjlt⟩
  have hap : ∀ w1 : World, Only (one j) w w1 → Dsk B g d v w1 := fun w1 o => h.apart o (fun k hk e => hf (by have e' : k = j := e; rwa [e'] at hk)) (fun k e => by have e' : k = j := e; omega)
  have HAP := Lib.hid hap
  obtain ⟨A, c, rfl⟩ : ∃ A c, x = .slice A bs.length c := by obtain ⟨A, c, h, _⟩ := hx; exact ⟨A, c, h⟩
  obtain ⟨z, hz⟩ : ∃ z, recCode bs.length = z := ⟨_, rfl⟩
  have hwr : IntKind.i64.wrap (n + 1) = n + 1 := IntWalk.i64_in _ (by omega)
  rw [hz] at HLY
  by_cases hz0 : z = 0
  · subst hz0
    obtain ⟨c1, hc1⟩ : ∃ z, chCode d (adF bs d) = z := ⟨_, rfl⟩
    have HRV : Hid (∀ (w1 w2 : World) (vr : Value), RecV w1 w2 vr bs → ∃ A n c, vr = .slice A n c ∧ w2.ownsRow w1.heap.size 5 1 (.slice A n c) (recB bs).length (byts (recB bs))) := fun w1 w2 vr h => by
      rcases h with h | h
      · exact h.2
      · exact absurd hz h.1
    have HAPP : Hid (∀ (w2 : World) (y : Value) (T : Nat → Prop), Dsk B g d v w2 → Byt w2 T y (recB bs) → (∀ b, T b → b ≠ g) → Calls Try.prog 61 #[.pointer (some ⟨g, 0, none⟩), y] w2 fun e w' => e = .returned (.int .i64 c1) ∧ Left_ B g v w2 (adD1 bs d) w') := by
      intro w2 y T hd hy hT
      have := disk_append B g d v y (recB bs) T w2 hd hy hT
      rw [show (if 1048576 < d.bs.length + (recB bs).length then (7 : Int) else 0) = adF bs d from rfl, hc1] at this
      exact this
    by_cases hc0 : c1 = 0
    · subst hc0
      obtain ⟨c2, hc2⟩ : ∃ z, chCode (adD1 bs d) 0 = z := ⟨_, rfl⟩
      have e1 : Hid (adC bs d = c2 ∧ adD bs d = chD (adD1 bs d) 0 (dSync (burnt (adD1 bs d)))) := by
        constructor
        · rw [adC, if_neg (by simp [hz]), if_neg (by simp [hc1]), hc2]
        · rw [adD, if_neg (by simp [hz]), if_neg (by simp [hc1])]
      have HSY := Lib.hid (fun (w2 : World) (v2 : Value) (hd : Dsk B g (adD1 bs d) v2 w2) => disk_sync B g (adD1 bs d) v2 w2 hd)
      rw [hc2] at HSY
      by_cases hc20 : c2 = 0
      · subst hc20
        clear h hj hx hS hf hz hc1 hc2 hap hB
        go_enter Try.func34, Try.ntmps34
        go_wp2_with (first
          | (go_at_call 60; refine HLY.out.mono ?_; rintro e w1 ⟨vr, rfl, hr, ht, o1⟩
             obtain ⟨A1, n1, c1', rfl, own1⟩ := HRV.out _ _ _ hr
             have D1 := Lib.hid (HAP.out w1 o1)
             have J1 : Hid (Jn w1 j g n) := ht
             have hjd1 := J1.out.disk
             have O1 := Lib.hid o1
             have B1 : Hid (Byt w1 (fun b => b ≠ g) (.slice A1 n1 c1') (recB bs)) := (Byt.of_own own1).mono (fun b _ hb => by have h1 := (own1.lt b hb).1; have h2 := H.out.bk.lt; omega)
             clear hr ht o1 own1)
          | (go_at_call 61; refine (HAPP.out w1 _ _ D1.out B1.out (fun _ h => h)).mono ?_; rintro e w2 ⟨rfl, l2⟩
             obtain ⟨v2, d2, o2, m2⟩ := l2
             have D2 := Lib.hid d2
             have J2 := Lib.hid (J1.out.only o2 HF.out)
             have hjd2 := J2.out.disk
             have O2 : Hid (Only (fun k => foot g v k ∨ k = j) w w2) := (O1.out.mono (fun k _ e => .inr e)).trans' o2 (fun k _ e => .inl e)
             have M2 : Hid (Moved w v v2) := fun k hk => (m2 k hk).imp id (fun h => Nat.le_trans O1.out.size h)
             have F2 : Hid (¬ foot g v2 j) := foot_moved (B := B) (w0 := w) (d := d) M2.out HF.out HBJ.out.2
             clear d2 o2 m2)
          | (go_at_call 62; refine (HSY.out w2 v2 D2.out).mono ?_; rintro e w3 ⟨rfl, l3⟩
             obtain ⟨v3, d3, o3, m3⟩ := l3
             have D3 := Lib.hid d3
             have J3 := Lib.hid (J2.out.only o3 F2.out)
             have hjd3 := J3.out.disk
             have hjc3 := J3.out.count
             have hjf3 : w3.frozen? ⟨j, 260, none⟩ = false := TabP.frozen J3.out 260
             have O3 : Hid (Only (fun k => foot g v k ∨ k = j) w w3) := O2.out.trans' o3 (fun k hk e => by
               rcases e with e | e
               · exact .inl (.inl e)
               · rcases M2.out k e with h1 | h1
                 · exact .inl (.inr h1)
                 · omega)
             have M3 : Hid (Moved w v v3) := M2.out.trans m3 O2.out.size
             have F3 : Hid (¬ foot g v3 j) := foot_moved (B := B) (w0 := w) (d := d) M3.out HF.out HBJ.out.2
             clear d3 o3 m3))
        have o5 : Only (one j) w3 (w3.setCell ⟨j, 260, none⟩ (.int .i64 (n + 1))) := (Only.refl _ w3).setCell (p := ⟨j, 260, none⟩) (.inl (show one j j from rfl)) _
        have D5 := D3.out.apart o5 (fun k hk e => F3.out (by have e' : k = j := e; rwa [e'] at hk)) (fun k e => by have e' : k = j := e; have := HBJ.out.1; omega)
        go_ret
        refine ⟨by rw [e1.out.1]; rfl, v3, by rw [e1.out.2]; exact D5, ?_, ?_, M3.out, F3.out⟩
        · rw [adN, e1.out.1, if_pos rfl]; exact J3.out.set (n + 1)
        · exact O3.out.trans' o5 (fun k hk e => .inr e)
      · have hcb : (c2 == 0) = false := by simpa using hc20
        have HC2 := Lib.hid hc20
        clear h hj hx hS hf hz hc1 hc2 hap hB hc20
        go_enter Try.func34, Try.ntmps34
        go_wp2_with (first
          | (go_at_call 60; refine HLY.out.mono ?_; rintro e w1 ⟨vr, rfl, hr, ht, o1⟩
             obtain ⟨A1, n1, c1', rfl, own1⟩ := HRV.out _ _ _ hr
             have D1 := Lib.hid (HAP.out w1 o1)
             have J1 : Hid (Jn w1 j g n) := ht
             have hjd1 := J1.out.disk
             have O1 := Lib.hid o1
             have B1 : Hid (Byt w1 (fun b => b ≠ g) (.slice A1 n1 c1') (recB bs)) := (Byt.of_own own1).mono (fun b _ hb => by have h1 := (own1.lt b hb).1; have h2 := H.out.bk.lt; omega)
             clear hr ht o1 own1)
          | (go_at_call 61; refine (HAPP.out w1 _ _ D1.out B1.out (fun _ h => h)).mono ?_; rintro e w2 ⟨rfl, l2⟩
             obtain ⟨v2, d2, o2, m2⟩ := l2
             have D2 := Lib.hid d2
             have J2 := Lib.hid (J1.out.only o2 HF.out)
             have hjd2 := J2.out.disk
             have O2 : Hid (Only (fun k => foot g v k ∨ k = j) w w2) := (O1.out.mono (fun k _ e => .inr e)).trans' o2 (fun k _ e => .inl e)
             have M2 : Hid (Moved w v v2) := fun k hk => (m2 k hk).imp id (fun h => Nat.le_trans O1.out.size h)
             have F2 : Hid (¬ foot g v2 j) := foot_moved (B := B) (w0 := w) (d := d) M2.out HF.out HBJ.out.2
             clear d2 o2 m2)
          | (go_at_call 62; refine (HSY.out w2 v2 D2.out).mono ?_; rintro e w3 ⟨rfl, l3⟩
             obtain ⟨v3, d3, o3, m3⟩ := l3
             have D3 := Lib.hid d3
             have J3 := Lib.hid (J2.out.only o3 F2.out)
             have hjd3 := J3.out.disk
             have hjc3 := J3.out.count
             have hjf3 : w3.frozen? ⟨j, 260, none⟩ = false := TabP.frozen J3.out 260
             have O3 : Hid (Only (fun k => foot g v k ∨ k = j) w w3) := O2.out.trans' o3 (fun k hk e => by
               rcases e with e | e
               · exact .inl (.inl e)
               · rcases M2.out k e with h1 | h1
                 · exact .inl (.inr h1)
                 · omega)
             have M3 : Hid (Moved w v v3) := M2.out.trans m3 O2.out.size
             have F3 : Hid (¬ foot g v3 j) := foot_moved (B := B) (w0 := w) (d := d) M3.out HF.out HBJ.out.2
             clear d3 o3 m3))
        go_ret
        refine ⟨by rw [e1.out.1]; rfl, v3, by rw [e1.out.2]; exact D3.out, ?_, O3.out, M3.out, F3.out⟩
        rw [adN, e1.out.1, if_neg HC2.out]; exact J3.out
    · have hcb : (c1 == 0) = false := by simpa using hc0
      have e1 : Hid (adC bs d = c1 ∧ adD bs d = adD1 bs d) := by
        constructor
        · rw [adC, if_neg (by simp [hz]), if_pos (by rw [hc1]; exact hc0), hc1]
        · rw [adD, if_neg (by simp [hz]), if_pos (by rw [hc1]; exact hc0)]
      have HC1 := Lib.hid hc0
      clear h hj hx hS hf hz hc1 hap hB hc0
      go_enter Try.func34, Try.ntmps34
      go_wp2_with (first
        | (go_at_call 60; refine HLY.out.mono ?_; rintro e w1 ⟨vr, rfl, hr, ht, o1⟩
           obtain ⟨A1, n1, c1', rfl, own1⟩ := HRV.out _ _ _ hr
           have D1 := Lib.hid (HAP.out w1 o1)
           have J1 : Hid (Jn w1 j g n) := ht
           have hjd1 := J1.out.disk
           have O1 := Lib.hid o1
           have B1 : Hid (Byt w1 (fun b => b ≠ g) (.slice A1 n1 c1') (recB bs)) := (Byt.of_own own1).mono (fun b _ hb => by have h1 := (own1.lt b hb).1; have h2 := H.out.bk.lt; omega)
           clear hr ht o1 own1)
        | (go_at_call 61; refine (HAPP.out w1 _ _ D1.out B1.out (fun _ h => h)).mono ?_; rintro e w2 ⟨rfl, l2⟩
           obtain ⟨v2, d2, o2, m2⟩ := l2
           have D2 := Lib.hid d2
           have J2 := Lib.hid (J1.out.only o2 HF.out)
           have hjd2 := J2.out.disk
           have O2 : Hid (Only (fun k => foot g v k ∨ k = j) w w2) := (O1.out.mono (fun k _ e => .inr e)).trans' o2 (fun k _ e => .inl e)
           have M2 : Hid (Moved w v v2) := fun k hk => (m2 k hk).imp id (fun h => Nat.le_trans O1.out.size h)
           have F2 : Hid (¬ foot g v2 j) := foot_moved (B := B) (w0 := w) (d := d) M2.out HF.out HBJ.out.2
           clear d2 o2 m2))
      go_ret
      refine ⟨by rw [e1.out.1]; rfl, v2, by rw [e1.out.2]; exact D2.out, ?_, O2.out, M2.out, F2.out⟩
      rw [adN, e1.out.1, if_neg HC1.out]; exact J2.out
  · have hzb : (z == 0) = false := by simpa using hz0
    have e1 : Hid (adC bs d = z ∧ adD bs d = d) := by
      constructor
      · rw [adC, if_pos (by rw [hz]; exact hz0), hz]
      · rw [adD, if_pos (by rw [hz]; exact hz0)]
    have HZ := Lib.hid hz0
    clear h hj hx hS hf hz hap hB hz0
    go_enter Try.func34, Try.ntmps34
    go_wp2_with (first
      | (go_at_call 60; refine HLY.out.mono ?_; rintro e w1 ⟨vr, rfl, hr, ht, o1⟩
         have D1 := Lib.hid (HAP.out w1 o1)
         have J1 : Hid (Jn w1 j g n) := ht
         have O1 : Hid (Only (fun k => foot g v k ∨ k = j) w w1) := o1.mono (fun k _ e => .inr e)
         clear hr ht o1))
    go_ret
    refine ⟨by rw [e1.out.1]; rfl, v, by rw [e1.out.2]; exact D1.out, ?_, O1.out, Moved.refl _ _, HF.out⟩
    rw [adN, e1.out.1, if_neg HZ.out]; exact J1.out
end Go.Proofs.Ytbhdnhnkiibaaaa
