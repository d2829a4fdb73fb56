/- What New, Read, Crash and Turn of a disk do. No statement of the seat is proved here. -/
import Derived.Test.YtbhdnhnkiibaaaaDkC
import Derived.Test.YtbhdnhnkiibaaaaOctC
namespace Go.Proofs.Ytbhdnhnkiibaaaa
open Go.RowKit
set_option maxRecDepth 100000

theorem fresh_power (w : World) :
    Calls Try.prog 56 #[] w fun e w' => e = .returned (.agg #[.bool true, .int .i64 (-1)]) ∧ Only none_ w w' := by
  have B2 := Lib.hid (Blk.new w 80 #[.bool true, .int .i64 (-1)])
  have O := Lib.hid ((Only.refl none_ w).alloc (.cells #[.bool true, .int .i64 (-1)] 80))
  go_enter Try.func56, Try.ntmps56
  go_wp2_with fail
  exact bodyPost_ret (results_cell_row rfl _ _ w.heap.size 80 _ (0, 0) _ rfl B2.out Try.underlying80 rfl (by kernel_rfl)) rfl ⟨rfl, O.out⟩

theorem disk_new (B w : World) (hB : Only none_ B w) :
    Calls Try.prog 31 #[] w fun e w' => ∃ g, e = .returned (.pointer (some ⟨g, 0, none⟩)) ∧ w.heap.size ≤ g ∧ Dsk B g ⟨true, -1, [], 0⟩ (.slice none 0 0) w' ∧ Only none_ w w' := by
  have HB := Lib.hid hB
  clear hB
  go_enter Try.func31, Try.ntmps31
  go_wp2_with (go_at_call 56; refine (fresh_power w).mono ?_; rintro e w1 ⟨rfl, o1⟩; have O1 := Lib.hid o1; clear o1)
  go_ret
  have o := O1.out.alloc (.cells #[.bool true, .int .i64 (-1), .slice none 0 0, .int .i64 0] 82)
  exact ⟨w1.heap.size, rfl, O1.out.size, ⟨Blk.new _ _ _, World.ownsRow_nil _ _ _ _, HB.out.trans o, Nat.le_trans HB.out.size O1.out.size, Nat.le_refl _, by decide, by show _ ≤ (-1 : Int); decide, by show (-1 : Int) < _; decide⟩, o⟩

theorem disk_read (B : World) (g : Nat) (d : Dv) (v : Value) (w : World) (h : Dsk B g d v w) :
    Calls Try.prog 57 #[.pointer (some ⟨g, 0, none⟩)] w fun e w' => (∃ A n c, e = .returned (.tuple #[.slice A n c, .int .i64 (if d.on = true then 0 else 11)]) ∧
      w'.ownsRow w.heap.size 5 1 (.slice A n c) (if d.on = true then d.bs else []).length (byts (if d.on = true then d.bs else []))) ∧ Only none_ w w' := by
  obtain ⟨A, m, c, rfl⟩ := h.shape
  obtain rfl := h.len
  have H := Lib.hid h
  have c2 := h.bk.cell_ (i := 2) rfl
  have C := power_on B g d _ w h
  have hm := h.ml
  clear h
  by_cases hon : d.on = true
  · rw [hon] at C
    rw [if_pos hon, if_pos hon]
    clear hon
    go_enter Try.func57, Try.ntmps57
    go_wp2_with (first
      | (go_at_call 36; refine C.mono ?_; rintro e w1 ⟨rfl, rfl⟩)
      | (go_at_call 76; refine (bytes_clone _ d.bs _ w H.out.byt (by omega)).mono ?_; rintro e w1 ⟨A5, n5, c5, rfl, own5, o5⟩; have OW := Lib.hid own5; have O5 := Lib.hid o5; clear own5 o5))
    go_ret2
    exact ⟨⟨_, _, _, rfl, OW.out⟩, O5.out⟩
  · have hf : d.on = false := Bool.eq_false_iff.2 hon
    rw [hf] at C
    rw [if_neg hon, if_neg hon]
    clear hon hf
    go_enter Try.func57, Try.ntmps57
    go_wp2_with (go_at_call 36; refine C.mono ?_; rintro e w1 ⟨rfl, rfl⟩)
    go_ret2
    exact ⟨⟨none, 0, 0, rfl, World.ownsRow_nil w w.heap.size 5 1⟩, Only.refl _ _⟩

/-- How many of the bytes that aren't safe stay. -/
def stay (d : Dv) (keep : Int) : Nat := min (d.bs.length - d.safe) keep.toNat
def dCrash (keep : Int) (d : Dv) : Dv := ⟨true, -1, d.bs.take (d.safe + stay d keep), d.safe + stay d keep⟩
theorem disk_crash (B : World) (g : Nat) (keep : Int) (d : Dv) (v : Value) (w : World) (h : Dsk B g d v w) :
    Calls Try.prog 37 #[.pointer (some ⟨g, 0, none⟩), .int .i64 keep] w fun e w' => e = .returned (.int .i64 (stay d keep : Nat)) ∧ Left_ B g v w (dCrash keep d) w' := by
  obtain ⟨A, m, c, rfl⟩ := h.shape
  obtain rfl := h.len
  have H := Lib.hid h
  have c2 := h.bk.cell_ (i := 2) rfl
  have c3 := h.bk.cell_ (i := 3) rfl
  have hm := h.ml
  have hsl := h.sl
  obtain ⟨q, hq⟩ : ∃ q, stay d keep = q := ⟨_, rfl⟩
  have hq1 : q ≤ d.bs.length - d.safe := by rw [← hq, stay]; omega
  obtain ⟨kp, hkp⟩ : ∃ kp : Nat, keep.toNat = kp := ⟨_, rfl⟩
  have hmx : ∀ ts t w, (Builtin.max_ ts t #[.int .i64 keep, .int .i64 0]).run Try.prog w = .ok (.int .i64 (kp : Int)) w := fun ts t w => by
    rw [run_max_int2]
    by_cases hk : keep < 0
    · rw [if_pos (by omega), show kp = 0 from by omega]; rfl
    · rw [if_neg (by omega), show ((kp : Nat) : Int) = keep from by omega]
  have hmn : ∀ ts t w, (Builtin.min_ ts t #[.int .i64 (kp : Int), .int .i64 ((d.bs.length : Int) - d.safe)]).run Try.prog w = .ok (.int .i64 (q : Nat)) w := fun ts t w => by
    rw [run_min_int2]
    by_cases hk : (d.bs.length : Int) - d.safe < (kp : Int)
    · rw [if_pos hk, ← hq, stay, hkp, show ((min (d.bs.length - d.safe) kp : Nat) : Int) = (d.bs.length : Int) - d.safe from by omega]
    · rw [if_neg hk, ← hq, stay, hkp, show ((min (d.bs.length - d.safe) kp : Nat) : Int) = (kp : Int) from by omega]
  have hw1 : IntKind.i64.wrap ((d.bs.length : Int) - d.safe) = (d.bs.length : Int) - d.safe := IntWalk.i64_in _ (by omega)
  obtain ⟨N, hN⟩ : ∃ N, d.safe + q = N := ⟨_, rfl⟩
  have hw2 : IntKind.i64.wrap ((d.safe : Int) + q) = (N : Int) := by rw [IntWalk.i64_in _ (by omega)]; omega
  have hsN : min d.safe N = d.safe := by omega
  have E : Hid (dCrash keep d = ⟨true, -1, d.bs.take N, N⟩) := by rw [Hid, dCrash, hq, hN]
  have HL : Hid ((d.bs.take N).length = N) := by simp only [Hid, List.length_take]; omega
  have Q1 : Hid (N ≤ d.bs.length) := by simp only [Hid]; omega
  have HS := Lib.hid hsN
  rw [hq]
  clear h hq hkp hN hsN
  have tok : True := trivial
  go_enter Try.func37, Try.ntmps37
  go_wp2_with fail
  go_quiet (fail)
  go_wp2_with (first
    | (go_at_call 63; refine (disk_keep B g N d _ _ (Dsk.drewN H.out _) Q1.out).mono ?_; rintro e w1 ⟨rfl, v1, h1, o1, m1⟩
       obtain ⟨A1, n1, e1, rfl⟩ := h1.shape
       obtain rfl : n1 = N := h1.len.trans HL.out
       have k2 : w1.cell? ⟨g, 2, none⟩ = some (.slice A1 n1 e1) := h1.bk.cell_ (i := 2) rfl
       have k3 := h1.bk.cell_ (i := 3) rfl
       have y3 := h1.bk.frozen 3
       have H2 : Hid (Dsk B g ⟨d.on, d.fuse, d.bs.take n1, n1⟩ (.slice A1 n1 e1) (w1.setCell ⟨g, 3, none⟩ (.int .i64 (n1 : Int)))) := h1.put 3 _ ⟨d.on, d.fuse, d.bs.take n1, n1⟩ rfl rfl (Nat.le_of_eq HL.out.symm) h1.fl h1.fh
       have O2 := Lib.hid (o1.setCell (p := ⟨g, 3, none⟩) (.inl (.inl rfl)) (.int .i64 (n1 : Int)))
       have M1 := Lib.hid m1
       clear h1 o1 m1)
    | (go_at_call 56; refine (fresh_power _).mono ?_; rintro e w3 ⟨rfl, o3⟩
       have h3 := H2.out.keep o3
       have z0 := h3.bk.cell_ (i := 0) rfl
       have z1 := (h3.bk.set_ 0 (.bool true)).cell_ (i := 1) rfl
       have y0 := h3.bk.frozen 0
       have y1 := (h3.bk.set_ 0 (.bool true)).frozen 1
       have H4 : Hid (Dsk B g ⟨true, -1, d.bs.take n1, n1⟩ (.slice A1 n1 e1) ((w3.setCell ⟨g, 0, none⟩ (.bool true)).setCell ⟨g, 1, none⟩ (.int .i64 (-1)))) :=
         (h3.put 0 (.bool true) ⟨true, d.fuse, d.bs.take n1, n1⟩ rfl rfl h3.sl h3.fl h3.fh).put 1 (.int .i64 (-1)) ⟨true, -1, d.bs.take n1, n1⟩ rfl rfl h3.sl (by show _ ≤ (-1 : Int); decide) (by show (-1 : Int) < _; decide)
       have O4 := Lib.hid (((O2.out.trans o3.of_none).setCell (p := ⟨g, 0, none⟩) (.inl (.inl rfl)) (.bool true)).setCell (p := ⟨g, 1, none⟩) (.inl (.inl rfl)) (.int .i64 (-1)))
       clear o3 h3))
  go_ret
  rw [E.out]
  exact ⟨rfl, Left_.drewN ⟨_, H4.out, O4.out, M1.out⟩⟩

/-- One byte of a row of the call's own, as a byte. -/
theorem own_byte {w : World} {base : Nat} {e : TypeId} {A : Option Addr} {n c : Nat} {bs : List UInt8} (h : w.ownsRow base e 1 (.slice A n c) bs.length (byts bs)) {k : Nat} (hk : k < bs.length) :
    ∃ g, A = some ⟨g, 0, none⟩ ∧ w.cell? ⟨g, k, none⟩ = some (.int .u8 (bs[k].toNat : Int)) ∧ w.frozen? ⟨g, k, none⟩ = false ∧
      ∀ b : UInt8, (w.setCell ⟨g, k, none⟩ (.int .u8 (b.toNat : Int))).ownsRow base e 1 (.slice A n c) (bs.set k b).length (byts (bs.set k b)) := by
  obtain rfl := own_len h
  rw [byts_ints] at h
  obtain ⟨g, z, hA, hc, hf, hs⟩ := own_step h hk
  have hc' := h.cells (g := g) (by subst hA; rfl) k (.int .u8 (bs[k].toNat : Int)) (by simp [ints, hk])
  refine ⟨g, hA, ?_, hf, fun b => ?_⟩
  · have e2 : (⟨g, 0, none⟩ : Addr).add k = ⟨g, k, none⟩ := by unfold Addr.add; split <;> simp_all
    rw [e2] at hc'
    exact hc'
  · have := (hs (b.toNat : Int)).1
    rw [byts_ints, List.length_set, List.map_set]
    exact this
def dTurn (k : Nat) (b : UInt8) (d : Dv) : Dv := { d with bs := d.bs.set k (d.bs.getD k 0 ^^^ b) }
end Go.Proofs.Ytbhdnhnkiibaaaa
