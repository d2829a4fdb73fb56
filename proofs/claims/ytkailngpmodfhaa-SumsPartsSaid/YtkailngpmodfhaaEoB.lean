/- What Encode of package entry does. No statement of the seat is proved here. -/
import Derived.Test.YtkailngpmodfhaaEoA
import Derived.Test.YtkailngpmodfhaaOctC
namespace Go.Proofs.Ytkailngpmodfhaa
open Go.RowKit
set_option maxRecDepth 100000

set_option maxHeartbeats 800000 in
theorem encode_no (e : En) (w : World) (hc : enCheck e ≠ 0) :
    Calls Try.prog 56 #[.agg #[.string e.k, .string e.v, .bool e.d, .int .i64 e.s.c, .int .i64 e.s.s, .int .i64 e.a.c, .int .i64 e.a.s, .int .i64 e.p, .int .i64 e.g]] w fun E w' => E = .returned (.tuple #[.slice none 0 0, .int .i64 (enCheck e)]) ∧ Only none_ w w' := by
  have B0 := Lib.hid (Blk.new w 78 #[.string e.k, .string e.v, .bool e.d, .int .i64 e.s.c, .int .i64 e.s.s, .int .i64 e.a.c, .int .i64 e.a.s, .int .i64 e.p, .int .i64 e.g])
  have O0 := Lib.hid ((Only.refl none_ w).alloc (.cells #[.string e.k, .string e.v, .bool e.d, .int .i64 e.s.c, .int .i64 e.s.s, .int .i64 e.a.c, .int .i64 e.a.s, .int .i64 e.p, .int .i64 e.g] 78))
  obtain ⟨z, hz⟩ : ∃ z, enCheck e = z := ⟨_, rfl⟩
  rw [hz] at hc ⊢
  have HZ := Lib.hid hz
  clear hz
  go_enter Try.func56, Try.ntmps56
  go_wp2_with (first
    | (refine wpl_load rfl 78 _ rfl w.heap.size rfl 78 #[.string e.k, .string e.v, .bool e.d, .int .i64 e.s.c, .int .i64 e.s.s, .int .i64 e.a.c, .int .i64 e.a.s, .int .i64 e.p, .int .i64 e.g] _ B0.out Try.underlying78 rfl (by kernel_rfl) ?_)
    | (go_at_call 73; refine (en_check e _).mono ?_; rw [HZ.out]; rintro e1 w1 ⟨rfl, o1⟩
       have O1 := Lib.hid (O0.out.trans o1)
       clear o1))
  go_ret2
  exact ⟨rfl, O1.out⟩

set_option maxHeartbeats 1600000 in
theorem encode_okE (m : Ne) (w : World) (hc : enCheck m.en = 0) (ok : m.ok) :
    Calls Try.prog 56 #[.agg #[.string m.en.k, .string m.en.v, .bool m.en.d, .int .i64 m.en.s.c, .int .i64 m.en.s.s, .int .i64 m.en.a.c, .int .i64 m.en.a.s, .int .i64 m.en.p, .int .i64 m.en.g]] w fun E w' => ∃ A n c, E = .returned (.tuple #[.slice A n c, .int .i64 0]) ∧ w'.ownsRow w.heap.size 5 1 (.slice A n c) (layB m).length (byts (layB m)) ∧ Only none_ w w' := by
  have HL : Hid (∀ B g v w, Lw B g [] v w → Calls Try.prog 74 #[.pointer (some ⟨g, 0, none⟩), .agg #[.string m.en.k, .string m.en.v, .bool m.en.d, .int .i64 m.en.s.c, .int .i64 m.en.s.s, .int .i64 m.en.a.c, .int .i64 m.en.a.s, .int .i64 m.en.p, .int .i64 m.en.g]] w fun E w' => E = .returned (.tuple #[]) ∧ ∃ v', Lw B g (layB m) v' w') :=
    fun B g v w s => lay_any B g m [] v w ok s (by simp)
  have hlen : (layB m).length ≤ 1000000 := by
    have h1 := txtB_len m.k
    have h2 := txtB_len m.v
    have h3 := ok.1
    have h4 := ok.2.1
    simp only [layB, List.length_append, leBytes_len, h1, h2, List.length_cons, List.length_nil]
    omega
  obtain ⟨e, he⟩ : ∃ e, m.en = e := ⟨_, rfl⟩
  obtain ⟨bs, hb⟩ : ∃ b, layB m = b := ⟨_, rfl⟩
  rw [he] at hc HL ⊢
  rw [hb] at HL hlen ⊢
  have B0 := Lib.hid (Blk.new w 78 #[.string e.k, .string e.v, .bool e.d, .int .i64 e.s.c, .int .i64 e.s.s, .int .i64 e.a.c, .int .i64 e.a.s, .int .i64 e.p, .int .i64 e.g])
  have O0 := Lib.hid ((Only.refl none_ w).alloc (.cells #[.string e.k, .string e.v, .bool e.d, .int .i64 e.s.c, .int .i64 e.s.s, .int .i64 e.a.c, .int .i64 e.a.s, .int .i64 e.p, .int .i64 e.g] 78))
  have HZ := Lib.hid hc
  have HN := Lib.hid hlen
  clear hc he hb hlen
  have tok1 : True := trivial
  go_enter Try.func56, Try.ntmps56
  go_wp2_with (first
    | (refine wpl_load rfl 78 _ rfl w.heap.size rfl 78 #[.string e.k, .string e.v, .bool e.d, .int .i64 e.s.c, .int .i64 e.s.s, .int .i64 e.a.c, .int .i64 e.a.s, .int .i64 e.p, .int .i64 e.g] _ B0.out Try.underlying78 rfl (by kernel_rfl) ?_)
    | (go_at_call 73; refine (en_check e _).mono ?_; rw [HZ.out]; rintro e1 w1 ⟨rfl, o1⟩
       have O1 := Lib.hid (O0.out.trans o1)
       have L1 := Lib.hid (Lw.new w1)
       have B1 := Lib.hid ((B0.out.only o1 (fun h => h)).alloc (.cells #[.int .i64 0, .slice none 0 0] 138))
       clear o1)
    | (refine wpl_load rfl 78 _ rfl w.heap.size rfl 78 #[.string e.k, .string e.v, .bool e.d, .int .i64 e.s.c, .int .i64 e.s.s, .int .i64 e.a.c, .int .i64 e.a.s, .int .i64 e.p, .int .i64 e.g] _ B1.out Try.underlying78 rfl (by kernel_rfl) ?_)
    | (go_at_call 74; refine (HL.out w1 _ _ _ L1.out).mono ?_; rintro e2 w2 ⟨rfl, v2, l2⟩
       have L2 := Lib.hid l2
       have O2 := Lib.hid (O1.out.trans l2.ho)
       clear l2)
    | (go_at_call 75; refine (lw_bytes L2.out HN.out).mono ?_; rintro e3 w3 ⟨A3, n3, c3, rfl, own3, o3⟩
       have L3 := Lib.hid (L2.out.keep o3)
       have X3 := Lib.hid own3
       have O3 := Lib.hid (O2.out.trans o3)
       clear own3 o3)
    | (go_at_call 76; refine (lw_err L3.out).mono ?_; rintro e4 w4 ⟨rfl, rfl⟩))
  go_ret2
  exact ⟨A3, n3, c3, rfl, owns_base X3.out O2.out.size, O3.out⟩
end Go.Proofs.Ytkailngpmodfhaa
