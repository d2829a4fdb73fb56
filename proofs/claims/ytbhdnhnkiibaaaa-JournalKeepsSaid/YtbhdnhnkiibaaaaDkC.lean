/- What Sync, Trim and Append of a disk do, by their closures. No statement of the seat is proved here. -/
import Derived.Test.YtbhdnhnkiibaaaaDkB
import Derived.Deep.RegionLaw
import Derived.BigQuiet
namespace Go.Proofs.Ytbhdnhnkiibaaaa
open Go.RowKit
set_option maxRecDepth 100000

theorem Dsk.drew {B w : World} {g : Nat} {d : Dv} {v : Value} (s : Dsk B g d v w) : Dsk B g d v w.drew := s.keep ((Only.refl none_ w).drew)
theorem Dsk.drewN {B w : World} {g : Nat} {d : Dv} {v : Value} (s : Dsk B g d v w) (n : Nat) : Dsk B g d v (w.drewN n) := s.keep ((Only.refl none_ w).drewN n)
theorem Left_.drewN {B w w' : World} {g n : Nat} {d : Dv} {v : Value} (l : Left_ B g v (w.drewN n) d w') : Left_ B g v w d w' := Left_.after0 ((Only.refl none_ w).drewN n) l
theorem Left_.drew {B w w' : World} {g : Nat} {d : Dv} {v : Value} (l : Left_ B g v w.drew d w') : Left_ B g v w d w' := Left_.after0 ((Only.refl none_ w).drew) l

/-- What a deed makes of a disk. -/
def dSync (d : Dv) : Dv := { d with safe := d.bs.length }
def dTrim (n : Nat) (d : Dv) : Dv := { d with bs := d.bs.take n, safe := min d.safe n }
def dApp (ys : List UInt8) (d : Dv) : Dv := { d with bs := d.bs ++ ys }
theorem sync_clo (B : World) (g p : Nat) (d : Dv) (v : Value) (w : World) (h : Dsk B g d v w) (hp : Blk w p 73 #[.pointer (some ⟨g, 0, none⟩)]) :
    Calls Try.prog 85 #[.pointer (some ⟨p, 0, none⟩)] w fun e w' => e = .returned (.tuple #[]) ∧ Left_ B g v w (dSync d) w' := by
  have H := Lib.hid h
  obtain ⟨A, n, c, rfl⟩ := h.shape
  obtain rfl := h.len
  have c2 := h.bk.cell_ (i := 2) rfl
  have c3 := h.bk.cell_ (i := 3) rfl
  have f3 := h.bk.frozen 3
  have p0 := hp.cell_ (i := 0) rfl
  clear h hp
  go_enter Try.func85, Try.ntmps85
  go_region
  all_goals
    go_wp2_with fail
    go_end0
    exact ⟨rfl, Left_.drew (Left_.one_ (H.out.drew.put 3 (.int .i64 d.bs.length) (dSync d) rfl rfl (Nat.le_refl _) H.out.fl H.out.fh) (only_put g 3 _ _))⟩

theorem disk_sync (B : World) (g : Nat) (d : Dv) (v : Value) (w : World) (h : Dsk B g d v w) :
    Calls Try.prog 62 #[.pointer (some ⟨g, 0, none⟩)] w fun e w' => e = .returned (.int .i64 (chCode d 0)) ∧ Left_ B g v w (chD d 0 (dSync (burnt d))) w' := by
  have o := (Only.refl none_ w).alloc (.cells #[.pointer (some ⟨g, 0, none⟩)] 73)
  have H := Lib.hid (h.keep o)
  have P := Lib.hid (Blk.new w 73 #[.pointer (some ⟨g, 0, none⟩)])
  have P0 := P.out.cell_ (i := 0) rfl
  have O := Lib.hid o
  have hmf : ∀ (fn : Fn) (first cap : Array Value) (w : World), (Instr.makeFunc fn first cap).run Try.prog w = .ok (.func fn first cap) w := fun _ _ _ _ => rfl
  clear h o
  go_enter Try.func62, Try.ntmps62
  go_wp2_with (go_at_call 78
               refine (power_change B g d (dSync (burnt d)) 0 v 85 #[.pointer (some ⟨w.heap.size, 0, none⟩)] _ H.out (fun w1 => enters_ Try.func85 rfl rfl _ _) (fun _ w1 h1 o1 => sync_clo B g w.heap.size (burnt d) v w1 h1 (H.out.box P.out (only_foot o1) (by decide) (by decide)))).mono ?_
               rintro e w2 ⟨rfl, l2⟩)
  go_ret
  exact ⟨rfl, l2.after0 O.out⟩

theorem clamp_min (a b : Nat) : ∀ ts t w, (Builtin.min_ ts t #[.int .i64 (a : Int), .int .i64 (b : Int)]).run Try.prog w = .ok (.int .i64 ((min a b : Nat) : Int)) w := fun ts t w => by
  rw [run_min_int2]
  by_cases h : (b : Int) < a
  · rw [if_pos h, Nat.min_eq_right (by omega)]
  · rw [if_neg h, Nat.min_eq_left (by omega)]
theorem disk_keep (B : World) (g n : Nat) (d : Dv) (v : Value) (w : World) (h : Dsk B g d v w) (hn : n ≤ d.bs.length) :
    Calls Try.prog 63 #[.pointer (some ⟨g, 0, none⟩), .int .i64 (n : Int)] w fun e w' => e = .returned (.tuple #[]) ∧ Left_ B g v w (dTrim n d) w' := by
  obtain ⟨i0, hi0, hz0, hz1, hz2⟩ := info_parts u8_info
  have H := Lib.hid h
  obtain ⟨A, m, c, rfl⟩ := h.shape
  obtain rfl := h.len
  obtain ⟨hrun, hown⟩ := own_hi Try.underlying71 hi0 h.ow n hn n rfl
  have c2 := h.bk.cell_ (i := 2) rfl
  have c3 := h.bk.cell_ (i := 3) rfl
  have f2 := h.bk.frozen 2
  have hg : w.grownBy w (Value.slice A d.bs.length c).ownBlock := ⟨rfl, rfl, rfl, Nat.le_refl _, fun _ _ _ => rfl⟩
  have hl : (d.bs.take n).length = n := by simp; omega
  have o1 : Only (one g) w (w.setCell ⟨g, 2, none⟩ (.slice A n c)) := only_put g 2 _ w
  have b1 : Blk (w.setCell ⟨g, 2, none⟩ (.slice A n c)) g 82 #[.bool d.on, .int .i64 d.fuse, .slice A n c, .int .i64 d.safe] := h.bk.set_ 2 _
  have d3 := b1.cell_ (i := 3) rfl
  have f3 := b1.frozen 3
  have hmin := clamp_min d.safe n
  have b2 : Blk ((w.setCell ⟨g, 2, none⟩ (.slice A n c)).setCell ⟨g, 3, none⟩ (.int .i64 ((min d.safe n : Nat) : Int))) g 82 #[.bool d.on, .int .i64 d.fuse, .slice A n c, .int .i64 ((min d.safe n : Nat) : Int)] := b1.set_ 3 _
  have R : Hid (Left_ B g (.slice A d.bs.length c) w (dTrim n d) ((w.setCell ⟨g, 2, none⟩ (.slice A n c)).setCell ⟨g, 3, none⟩ (.int .i64 ((min d.safe n : Nat) : Int)))) := by
    have o2 := o1.setCell (p := ⟨g, 3, none⟩) (.inl (show one g g from rfl)) (.int .i64 ((min d.safe n : Nat) : Int))
    refine ⟨.slice A n c, ⟨b2, ?_, ?_, h.ge, ?_, ?_, h.fl, h.fh⟩, only_foot o2, fun k hk => .inl (by cases A <;> exact hk)⟩
    · exact owns_only hown o2 (fun k hk e => own_blk_ne hown h.bk (by decide) (by rw [hk, show k = g from e]))
    · exact h.ho.trans' o2 (fun k hk e => by have e' : k = g := e; have := h.ge; omega)
    · show min d.safe n ≤ (d.bs.take n).length; omega
    · show (d.bs.take n).length ≤ _; have := h.ml; omega
  clear h hown hg b1 b2 o1 hl hn
  go_enter Try.func63, Try.ntmps63
  go_wp2_with fail
  go_end0
  exact ⟨rfl, R.out⟩
theorem trim_clo (B : World) (g p q n : Nat) (d : Dv) (v : Value) (w : World) (h : Dsk B g d v w) (hp : Blk w p 73 #[.pointer (some ⟨g, 0, none⟩)]) (hq : Blk w q 3 #[.int .i64 (n : Int)]) (hn : n ≤ d.bs.length) :
    Calls Try.prog 79 #[.pointer (some ⟨p, 0, none⟩), .pointer (some ⟨q, 0, none⟩)] w fun e w' => e = .returned (.tuple #[]) ∧ Left_ B g v w (dTrim n d) w' := by
  have C := disk_keep B g n d v w h hn
  have p0 := hp.cell_ (i := 0) rfl
  have q0 := hq.cell_ (i := 0) rfl
  clear h hp hq hn
  go_enter Try.func79, Try.ntmps79
  go_wp2_with (go_at_call 63; refine C.mono ?_; rintro e w2 ⟨rfl, l2⟩)
  go_end0
  exact ⟨rfl, l2⟩

theorem disk_trim (B : World) (g : Nat) (n : Int) (d : Dv) (v : Value) (w : World) (h : Dsk B g d v w) :
    Calls Try.prog 59 #[.pointer (some ⟨g, 0, none⟩), .int .i64 n] w fun e w' => e = .returned (.int .i64 (chCode d (if n < 0 ∨ (d.bs.length : Int) < n then 2 else 0))) ∧
      Left_ B g v w (chD d (if n < 0 ∨ (d.bs.length : Int) < n then 2 else 0) (dTrim n.toNat (burnt d))) w' := by
  have o := ((Only.refl none_ w).alloc (.cells #[.pointer (some ⟨g, 0, none⟩)] 73)).alloc (.cells #[.int .i64 n] 3)
  have H := Lib.hid (h.keep o)
  have P := Lib.hid ((Blk.new w 73 #[.pointer (some ⟨g, 0, none⟩)]).alloc (.cells #[.int .i64 n] 3))
  have Q := Lib.hid (Blk.new (w.alloc (.cells #[.pointer (some ⟨g, 0, none⟩)] 73)) 3 #[.int .i64 n])
  rw [World.size_alloc] at Q
  have P0 := P.out.cell_ (i := 0) rfl
  have Q0 := Q.out.cell_ (i := 0) rfl
  obtain ⟨A, m, c, rfl⟩ := h.shape
  obtain rfl := h.len
  have C2 := H.out.bk.cell_ (i := 2) rfl
  have O := Lib.hid o
  have hmf : ∀ (fn : Fn) (first cap : Array Value) (w : World), (Instr.makeFunc fn first cap).run Try.prog w = .ok (.func fn first cap) w := fun _ _ _ _ => rfl
  clear h o
  by_cases hz : n < 0
  · rw [if_pos (.inl hz)]
    go_enter Try.func59, Try.ntmps59
    go_wp2_with fail
    go_quiet (fail)
    go_wp2_with (go_at_call 78
                 refine (power_change B g d (dTrim n.toNat (burnt d)) 2 _ 79 #[.pointer (some ⟨w.heap.size, 0, none⟩), .pointer (some ⟨w.heap.size + 1, 0, none⟩)] _ (Dsk.drewN H.out _) (fun w1 => enters_ Try.func79 rfl rfl _ _) (fun h => absurd h (by decide))).mono ?_
                 rintro e w2 ⟨rfl, l2⟩)
    go_ret
    exact ⟨rfl, (l2.drewN).after0 O.out⟩
  · by_cases hz2 : (d.bs.length : Int) < n
    · rw [if_pos (.inr hz2)]
      go_enter Try.func59, Try.ntmps59
      go_wp2_with fail
      go_quiet (fail)
      go_wp2_with (go_at_call 78
                   refine (power_change B g d (dTrim n.toNat (burnt d)) 2 _ 79 #[.pointer (some ⟨w.heap.size, 0, none⟩), .pointer (some ⟨w.heap.size + 1, 0, none⟩)] _ (Dsk.drewN H.out _) (fun w1 => enters_ Try.func79 rfl rfl _ _) (fun h => absurd h (by decide))).mono ?_
                   rintro e w2 ⟨rfl, l2⟩)
      go_ret
      exact ⟨rfl, (l2.drewN).after0 O.out⟩
    · rw [if_neg (by omega)]
      obtain ⟨k, rfl⟩ : ∃ k : Nat, n = k := ⟨n.toNat, by omega⟩
      have hk : k ≤ d.bs.length := by omega
      rw [Int.toNat_natCast]
      go_enter Try.func59, Try.ntmps59
      go_wp2_with fail
      go_quiet (fail)
      go_wp2_with (go_at_call 78
                   refine (power_change B g d (dTrim k (burnt d)) 0 _ 79 #[.pointer (some ⟨w.heap.size, 0, none⟩), .pointer (some ⟨w.heap.size + 1, 0, none⟩)] _ (Dsk.drewN H.out _) (fun w1 => enters_ Try.func79 rfl rfl _ _) (fun _ w1 h1 o1 => trim_clo B g w.heap.size (w.heap.size + 1) k (burnt d) _ w1 h1 ((H.out.drewN _).box (P.out.drewN _) (only_foot o1) (by decide) (by decide)) ((H.out.drewN _).box (Q.out.drewN _) (only_foot o1) (by decide) (by decide)) (by rw [(burnt_bs d).1]; exact hk))).mono ?_
                   rintro e w2 ⟨rfl, l2⟩)
      go_ret
      exact ⟨rfl, (l2.drewN).after0 O.out⟩

theorem app_clo (B : World) (g p q : Nat) (d : Dv) (v x : Value) (ys : List UInt8) (S : Nat → Prop) (w : World) (h : Dsk B g d v w) (hp : Blk w p 73 #[.pointer (some ⟨g, 0, none⟩)]) (hq : Blk w q 71 #[x]) (hx : Byt w S x ys)
    (hm : (d.bs ++ ys).length ≤ 1048576) :
    Calls Try.prog 84 #[.pointer (some ⟨p, 0, none⟩), .pointer (some ⟨q, 0, none⟩)] w fun e w' => e = .returned (.tuple #[]) ∧ Left_ B g v w (dApp ys d) w' := by
  obtain ⟨i0, hi0, hz0, hz1, hz2⟩ := info_parts u8_info
  have H := Lib.hid h
  have HX := Lib.hid hx
  have P := Lib.hid hp
  have Q := Lib.hid hq
  obtain ⟨A, m, c, rfl⟩ := h.shape
  obtain rfl := h.len
  obtain ⟨X, L, e, rfl⟩ : ∃ X L e, x = .slice X L e := by obtain ⟨X, e, hx', _⟩ := hx; exact ⟨X, _, e, hx'⟩
  have c2 := h.bk.cell_ (i := 2) rfl
  have f2 := h.bk.frozen 2
  have p0 : w.drew.cell? ⟨p, 0, none⟩ = some (.pointer (some ⟨g, 0, none⟩)) := hp.cell_ (i := 0) rfl
  have q0 : w.drew.cell? ⟨q, 0, none⟩ = some (.slice X L e) := hq.cell_ (i := 0) rfl
  have hb : d.bs.length + ys.length ≤ 140737488355328 := by simp at hm; omega
  have hbase : B.heap.size ≤ w.drew.heap.size := h.ho.size
  have HM : Hid (d.safe ≤ (d.bs ++ ys).length ∧ (d.bs ++ ys).length ≤ 1048576) := ⟨by have := h.sl; simp; omega, hm⟩
  have HD := Lib.hid h.drew
  have PD : Hid (Blk w.drew p 73 #[.pointer (some ⟨g, 0, none⟩)]) := hp
  have QD : Hid (Blk w.drew q 71 #[.slice X L e]) := hq
  clear h hp hq hx hm
  go_enter Try.func84, Try.ntmps84
  go_wp2_with fail
  go_region_law (first
      | (refine step_append_byt _ rfl (.tmp 6) (.tmp 7) _ rfl B.heap.size 5 i0 (.int .u8 0) Try.underlying71 hi0 hz0 hz1 hz2 rfl (.slice A d.bs.length c) d.bs rfl (by exact HD.out.ow) S (.slice X L e) ys rfl (by exact HX.out) hb hbase ?_
         intro A5 n5 c5 w5 hown5 hgrow5 hmv5
         have O5 : Only (foot g (.slice A d.bs.length c)) w.drew w5 := (Only.refl _ _).grown hgrow5 (fun k hk => .inl (.inr hk))
         have K5 := HD.out.bk.grown' hgrow5 (own_blk_ne HD.out.ow HD.out.bk (by decide))
         have b2 := K5.cell_ (i := 2) rfl
         have bf := K5.frozen 2
         have bp : w5.cell? ⟨p, 0, none⟩ = some (.pointer (some ⟨g, 0, none⟩)) := (HD.out.box PD.out O5 (by decide) (by decide)).cell_ (i := 0) rfl
         have bq : w5.cell? ⟨q, 0, none⟩ = some (.slice X L e) := (HD.out.box QD.out O5 (by decide) (by decide)).cell_ (i := 0) rfl
         have P5 := (HD.out.box PD.out O5 (by decide) (by decide))
         have Q5 := (HD.out.box QD.out O5 (by decide) (by decide))
         have D5 := Lib.hid (HD.out.app hown5 hgrow5 HM.out.2 HM.out.1)
         have M5 := Lib.hid hmv5
         have sp : (w5.setCell ⟨g, 2, none⟩ (.slice A5 n5 c5)).cell? ⟨p, 0, none⟩ = some (.pointer (some ⟨g, 0, none⟩)) := (P5.far (p := ⟨g, 2, none⟩) (Blk.ne_ P5 K5 (by decide)) (.slice A5 n5 c5)).cell_ (i := 0) rfl
         have sq : (w5.setCell ⟨g, 2, none⟩ (.slice A5 n5 c5)).cell? ⟨q, 0, none⟩ = some (.slice X L e) := (Q5.far (p := ⟨g, 2, none⟩) (Blk.ne_ Q5 K5 (by decide)) (.slice A5 n5 c5)).cell_ (i := 0) rfl
         clear hown5 hgrow5 hmv5))
  all_goals go_wp2_with fail
  all_goals go_end0
  all_goals exact ⟨rfl, Left_.drew ⟨_, D5.out.1, D5.out.2, M5.out⟩⟩

theorem disk_append (B : World) (g : Nat) (d : Dv) (v x : Value) (ys : List UInt8) (S : Nat → Prop) (w : World) (h : Dsk B g d v w) (hx : Byt w S x ys) (hS : ∀ b, S b → b ≠ g) :
    Calls Try.prog 61 #[.pointer (some ⟨g, 0, none⟩), x] w fun e w' => e = .returned (.int .i64 (chCode d (if 1048576 < d.bs.length + ys.length then 7 else 0))) ∧
      Left_ B g v w (chD d (if 1048576 < d.bs.length + ys.length then 7 else 0) (dApp ys (burnt d))) w' := by
  obtain ⟨X, L, e, rfl⟩ : ∃ X L e, x = .slice X L e := by obtain ⟨X, e, hx', _⟩ := hx; exact ⟨X, _, e, hx'⟩
  obtain rfl : L = ys.length := by obtain ⟨X', e', hx', _⟩ := hx; injection hx'
  have o := ((Only.refl none_ w).alloc (.cells #[.pointer (some ⟨g, 0, none⟩)] 73)).alloc (.cells #[.slice X ys.length e] 71)
  have H := Lib.hid (h.keep o)
  have HX := Lib.hid ((hx.alloc (.cells #[.pointer (some ⟨g, 0, none⟩)] 73)).alloc (.cells #[.slice X ys.length e] 71))
  have P := Lib.hid ((Blk.new w 73 #[.pointer (some ⟨g, 0, none⟩)]).alloc (.cells #[.slice X ys.length e] 71))
  have Q := Lib.hid (Blk.new (w.alloc (.cells #[.pointer (some ⟨g, 0, none⟩)] 73)) 71 #[.slice X ys.length e])
  rw [World.size_alloc] at Q
  have P0 := P.out.cell_ (i := 0) rfl
  have Q0 := Q.out.cell_ (i := 0) rfl
  obtain ⟨A, m, c, rfl⟩ := h.shape
  obtain rfl := h.len
  have C2 := H.out.bk.cell_ (i := 2) rfl
  have O := Lib.hid o
  have hmf : ∀ (fn : Fn) (first cap : Array Value) (w : World), (Instr.makeFunc fn first cap).run Try.prog w = .ok (.func fn first cap) w := fun _ _ _ _ => rfl
  have hml := h.ml
  have hW : IntKind.i64.wrap (1048576 - (d.bs.length : Int)) = 1048576 - (d.bs.length : Int) := IntWalk.i64_in _ (by omega)
  have HS := Lib.hid hS
  clear h o hx hS
  by_cases hz : 1048576 < d.bs.length + ys.length
  · rw [if_pos hz]
    have hz1 : (1048576 : Int) - d.bs.length < ys.length := by omega
    go_enter Try.func61, Try.ntmps61
    go_wp2_with fail
    go_quiet (fail)
    go_wp2_with (go_at_call 78
                 refine (power_change B g d (dApp ys (burnt d)) 7 _ 84 #[.pointer (some ⟨w.heap.size, 0, none⟩), .pointer (some ⟨w.heap.size + 1, 0, none⟩)] _ (Dsk.drewN H.out _) (fun w1 => enters_ Try.func84 rfl rfl _ _) (fun h => absurd h (by decide))).mono ?_
                 rintro e w2 ⟨rfl, l2⟩)
    go_ret
    exact ⟨rfl, (l2.drewN).after0 O.out⟩
  · rw [if_neg hz]
    have hz1 : ¬ (1048576 : Int) - d.bs.length < ys.length := by omega
    have hz2 : ((burnt d).bs ++ ys).length ≤ 1048576 := by rw [(burnt_bs d).1]; simp; omega
    go_enter Try.func61, Try.ntmps61
    go_wp2_with fail
    go_quiet (fail)
    go_wp2_with (go_at_call 78
                 refine (power_change B g d (dApp ys (burnt d)) 0 _ 84 #[.pointer (some ⟨w.heap.size, 0, none⟩), .pointer (some ⟨w.heap.size + 1, 0, none⟩)] _ (Dsk.drewN H.out _) (fun w1 => enters_ Try.func84 rfl rfl _ _)
                   (fun _ w1 h1 o1 => app_clo B g w.heap.size (w.heap.size + 1) (burnt d) _ _ ys S w1 h1 ((H.out.drewN _).box (P.out.drewN _) (only_foot o1) (by decide) (by decide)) ((H.out.drewN _).box (Q.out.drewN _) (only_foot o1) (by decide) (by decide)) ((HX.out.drewN _).only o1 (fun b hb e => HS.out b hb e)) hz2)).mono ?_
                 rintro e w2 ⟨rfl, l2⟩)
    go_ret
    exact ⟨rfl, (l2.drewN).after0 O.out⟩
end Go.Proofs.Ytbhdnhnkiibaaaa
