/- What was safe stays, whatever is done with a disk but Trim and Turn. No statement of the seat is proved here. -/
import Derived.Test.YtkhckgbhpfjfkaaDkQ
import Derived.Test.YtkhckgbhpfjfkaaDkE
namespace Go.Proofs.Ytkhckgbhpfjfkaa
open Go.RowKit
set_option maxRecDepth 100000

/-- Bytes that are safe: the first ones of a disk. -/
def Kp (was : List UInt8) (d : Dv) : Prop := was.length ≤ d.safe ∧ d.bs.take was.length = was
theorem kp_ch {was : List UInt8} {d : Dv} (op : Dv → Dv) (f : Int) (h : Kp was d) (k : ∀ e : Dv, e.bs = d.bs → e.safe = d.safe → Kp was (op e)) : Kp was (chD d f (op (burnt d))) := by
  unfold chD
  split
  · exact h
  · split
    · exact h
    · split
      · exact h
      · obtain ⟨h1, h2⟩ := burnt_bs d
        exact k _ h1 h2
theorem kp_app {was : List UInt8} {d : Dv} (ys : List UInt8) (f : Int) (h : Kp was d) (hs : d.safe ≤ d.bs.length) : Kp was (chD d f (dApp ys (burnt d))) := by
  refine kp_ch (dApp ys) f h (fun e h1 h2 => ⟨?_, ?_⟩)
  · show was.length ≤ e.safe
    rw [h2]; exact h.1
  · show (e.bs ++ ys).take was.length = was
    rw [h1, List.take_append_of_le_length (Nat.le_trans h.1 hs)]
    exact h.2
theorem kp_sync {was : List UInt8} {d : Dv} (f : Int) (h : Kp was d) (hs : d.safe ≤ d.bs.length) : Kp was (chD d f (dSync (burnt d))) := by
  refine kp_ch dSync f h (fun e h1 h2 => ⟨?_, ?_⟩)
  · show was.length ≤ e.bs.length
    rw [h1]; exact Nat.le_trans h.1 hs
  · show e.bs.take was.length = was
    rw [h1]; exact h.2
theorem kp_crash {was : List UInt8} {d : Dv} (k : Int) (h : Kp was d) : Kp was (dCrash k d) := by
  have h1 := h.1
  refine ⟨?_, ?_⟩
  · show was.length ≤ d.safe + stay d k; omega
  · show (d.bs.take (d.safe + stay d k)).take was.length = was
    rw [List.take_take, Nat.min_eq_left (by omega)]
    exact h.2
/-- What a disk keeps, and bytes that lie elsewhere. -/
structure Ks (W : World) (g : Nat) (was : List UInt8) (d : Dv) (v x : Value) (w : World) : Prop where
  ds : Dsk W g d v w
  kp : Kp was d
  bw : Byt w (fun b => ¬ foot g v b) x was
section
variable {W w w' : World} {g : Nat} {was : List UInt8} {d d' : Dv} {v x : Value}
theorem Ks.keep (s : Ks W g was d v x w) (o : Only none_ w w') : Ks W g was d v x w' := ⟨s.ds.keep o, s.kp, s.bw.only o (fun _ _ h => h)⟩
theorem Ks.next (s : Ks W g was d v x w) (l : Left_ W g v w d' w') (k : Kp was d') : ∃ v', Ks W g was d' v' x w' := by
  obtain ⟨v', h, o, m⟩ := l
  refine ⟨v', h, k, ?_⟩
  have h1 : Byt w (fun b => b < w.heap.size ∧ ¬ foot g v b) x was := s.bw.mono (fun b hb h => ⟨hb, h⟩)
  refine (h1.only o (fun b hb hf => hb.2 hf)).mono (fun b _ hb => ?_)
  rintro (h | h)
  · exact hb.2 (.inl h)
  · rcases m b h with h | h
    · exact hb.2 (.inr h)
    · omega
theorem Ks.append (s : Ks W g was d v x w) (y : Value) (ys : List UInt8) (hy : Byt w (fun b => b < W.heap.size) y ys) : Calls Try.prog 42 #[.pointer (some ⟨g, 0, none⟩), y] w fun e w' => ∃ z, e = .returned (.int .i64 z) ∧ ∃ d' v', Ks W g was d' v' x w' := by
  refine (disk_append W g d v y ys _ w s.ds hy (fun b hb e => by have := s.ds.ge; omega)).mono ?_
  rintro e w' ⟨rfl, l⟩
  obtain ⟨v', k⟩ := s.next l (kp_app ys _ s.kp s.ds.sl)
  exact ⟨_, rfl, _, v', k⟩
theorem Ks.sync (s : Ks W g was d v x w) : Calls Try.prog 43 #[.pointer (some ⟨g, 0, none⟩)] w fun e w' => ∃ z, e = .returned (.int .i64 z) ∧ ∃ d' v', Ks W g was d' v' x w' := by
  refine (disk_sync W g d v w s.ds).mono ?_
  rintro e w' ⟨rfl, l⟩
  obtain ⟨v', k⟩ := s.next l (kp_sync _ s.kp s.ds.sl)
  exact ⟨_, rfl, _, v', k⟩
theorem Ks.fuse (s : Ks W g was d v x w) (n : Int) (hn : -9223372036854775808 ≤ n) (hh : n < 9223372036854775808) : Calls Try.prog 44 #[.pointer (some ⟨g, 0, none⟩), .int .i64 n] w fun e w' => e = .returned (.tuple #[]) ∧ Only (one g) w w' ∧ ∃ d' v', Ks W g was d' v' x w' := by
  refine (power_fuse W g n d v w s.ds hn hh).mono ?_
  rintro e w' ⟨rfl, h, o⟩
  obtain ⟨v', k⟩ := s.next (Left_.one_ h o) s.kp
  exact ⟨rfl, o, _, v', k⟩
theorem Ks.crash (s : Ks W g was d v x w) (n : Int) : Calls Try.prog 41 #[.pointer (some ⟨g, 0, none⟩), .int .i64 n] w fun e w' => ∃ z, e = .returned (.int .i64 z) ∧ ∃ d' v', Ks W g was d' v' x w' ∧ d'.on = true := by
  refine (disk_crash W g n d v w s.ds).mono ?_
  rintro e w' ⟨rfl, l⟩
  obtain ⟨v', k⟩ := s.next l (kp_crash n s.kp)
  exact ⟨_, rfl, _, v', k, rfl⟩
theorem Ks.read (s : Ks W g was d v x w) (hon : d.on = true) : Calls Try.prog 40 #[.pointer (some ⟨g, 0, none⟩)] w fun e w' => ∃ A n c, e = .returned (.tuple #[.slice A n c, .int .i64 0]) ∧ w'.ownsRow w.heap.size 5 1 (.slice A n c) d.bs.length (byts d.bs) ∧ Only none_ w w' := by
  have := disk_read W g d v w s.ds
  rw [if_pos hon, if_pos hon] at this
  refine this.mono ?_
  rintro e w' ⟨⟨A, n, c, he, ho⟩, o⟩
  exact ⟨A, n, c, he, ho, o⟩
end
/-- The first crash: all that is there is safe. -/
theorem crash_all (W : World) (g : Nat) (n : Int) (d : Dv) (v : Value) (w : World) (h : Dsk W g d v w) :
    Calls Try.prog 41 #[.pointer (some ⟨g, 0, none⟩), .int .i64 n] w fun e w' => ∃ z, e = .returned (.int .i64 z) ∧ ∃ d' v', Dsk W g d' v' w' ∧ d'.on = true ∧ d'.safe = d'.bs.length := by
  have h1 := h.sl
  refine (disk_crash W g n d v w h).mono ?_
  rintro e w' ⟨rfl, v', h', _, _⟩
  refine ⟨_, rfl, _, v', h', rfl, ?_⟩
  show d.safe + stay d n = (d.bs.take (d.safe + stay d n)).length
  rw [List.length_take, stay]
  omega
theorem read_all (W : World) (g : Nat) (d : Dv) (v : Value) (w : World) (h : Dsk W g d v w) (hon : d.on = true) (hs : d.safe = d.bs.length) :
    Calls Try.prog 40 #[.pointer (some ⟨g, 0, none⟩)] w fun e w' => ∃ A n c, e = .returned (.tuple #[.slice A n c, .int .i64 0]) ∧ n = d.bs.length ∧ Ks W g d.bs d v (.slice A n c) w' := by
  have := disk_read W g d v w h
  rw [if_pos hon, if_pos hon] at this
  refine this.mono ?_
  rintro e w' ⟨⟨A, n, c, he, ho⟩, o⟩
  refine ⟨A, n, c, he, own_len ho, h.keep o, ⟨Nat.le_of_eq hs.symm, List.take_length⟩, (Byt.of_own ho).mono (fun b _ hb hf => ?_)⟩
  have h1 := (ho.lt b hb).1
  have h2 := (h.foot_ge hf).2
  omega
end Go.Proofs.Ytkhckgbhpfjfkaa
