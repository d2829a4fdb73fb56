/- What package entry's Newer, Alike and Mark do, and the document's. No statement of the seat is proved here. -/
import Derived.Test.YtkhckgbhpfjfkaaEnB
import Derived.Test.YtkhckgbhpfjfkaaStE
import Derived.Test.YtkhckgbhpfjfkaaStd
namespace Go.Proofs.Ytkhckgbhpfjfkaa
open Go.RowKit
set_option maxRecDepth 100000

/-- Two blocks whole; all else as in B. -/
structure Ob (B : World) (g h : Nat) (t u : TypeId) (cs ds : Array Value) (w : World) : Prop where
  x : Blk w g t cs
  y : Blk w h u ds
  ho : Only none_ B w
theorem Ob.keep {B w w' : World} {g h : Nat} {t u : TypeId} {cs ds : Array Value} (b : Ob B g h t u cs ds w) (o : Only none_ w w') : Ob B g h t u cs ds w' := ⟨b.x.only o (fun h => h), b.y.only o (fun h => h), b.ho.trans o⟩

set_option maxHeartbeats 1600000 in
theorem en_alike (x y : En) (w : World) :
    Calls Try.prog 17 #[.agg #[.string x.k, .string x.v, .bool x.d, .int .i64 x.s.c, .int .i64 x.s.s, .int .i64 x.a.c, .int .i64 x.a.s, .int .i64 x.p, .int .i64 x.g], .agg #[.string y.k, .string y.v, .bool y.d, .int .i64 y.s.c, .int .i64 y.s.s, .int .i64 y.a.c, .int .i64 y.a.s, .int .i64 y.p, .int .i64 y.g]] w fun E w' => E = .returned (.bool (enAlike x y)) ∧ Only none_ w w' := by
  have heq := fun w => eql_of (eq_api_entry w ⟨x.k, x.v, x.d, x.s, x.a, x.p, y.g⟩ y 9997)
  have HA : Hid (enAlike x y = enEq ⟨x.k, x.v, x.d, x.s, x.a, x.p, y.g⟩ y) := rfl
  generalize enEq ⟨x.k, x.v, x.d, x.s, x.a, x.p, y.g⟩ y = b at heq HA
  simp only at heq
  go_enter Try.func17, Try.ntmps17
  go_wp2_with fail
  go_ret
  rw [HA.out]
  exact ⟨rfl, ((Only.refl none_ w).alloc _).alloc _⟩

set_option maxHeartbeats 1600000 in
theorem rf_alike (x y : En) (w : World) :
    Calls Try.prog 18 #[.agg #[.string x.k, .string x.v, .bool x.d, .int .i64 x.s.c, .int .i64 x.s.s, .int .i64 x.a.c, .int .i64 x.a.s, .int .i64 x.p, .int .i64 x.g], .agg #[.string y.k, .string y.v, .bool y.d, .int .i64 y.s.c, .int .i64 y.s.s, .int .i64 y.a.c, .int .i64 y.a.s, .int .i64 y.p, .int .i64 y.g]] w fun E w' => E = .returned (.bool (enAlike x y)) ∧ Only none_ w w' := by
  have heq := fun w => eql_of (eq_ref_entry w ⟨x.k, x.v, x.d, x.s, x.a, x.p, y.g⟩ y 9997)
  have HA : Hid (enAlike x y = enEq ⟨x.k, x.v, x.d, x.s, x.a, x.p, y.g⟩ y) := rfl
  generalize enEq ⟨x.k, x.v, x.d, x.s, x.a, x.p, y.g⟩ y = b at heq HA
  simp only at heq
  go_enter Try.func18, Try.ntmps18
  go_wp2_with fail
  go_ret
  rw [HA.out]
  exact ⟨rfl, ((Only.refl none_ w).alloc _).alloc _⟩

theorem en_mark (e : En) (w : World) :
    Calls Try.prog 19 #[.agg #[.string e.k, .string e.v, .bool e.d, .int .i64 e.s.c, .int .i64 e.s.s, .int .i64 e.a.c, .int .i64 e.a.s, .int .i64 e.p, .int .i64 e.g]] w fun E w' => E = .returned (.agg #[.int .i64 e.a.c, .int .i64 e.a.s, .string e.k]) ∧ Only none_ w w' := by
  go_enter Try.func19, Try.ntmps19
  go_wp2_with fail
  exact bodyPost_ret (v := .agg #[.int .i64 e.a.c, .int .i64 e.a.s, .string e.k]) (by simp [results, Try.results19, go_sem]) rfl ⟨rfl, ((Only.refl none_ w).alloc _).alloc _⟩

def enShort (e : En) : Bool := decide (e.k.size ≤ 300) && decide (e.v.size ≤ 300)
theorem rf_short (e : En) (w : World) :
    Calls Try.prog 10 #[.agg #[.string e.k, .string e.v, .bool e.d, .int .i64 e.s.c, .int .i64 e.s.s, .int .i64 e.a.c, .int .i64 e.a.s, .int .i64 e.p, .int .i64 e.g]] w fun E w' => E = .returned (.bool (enShort e)) ∧ Only none_ w w' := by
  by_cases h1 : (e.k.size : Int) ≤ 300
  · by_cases h2 : (e.v.size : Int) ≤ 300
    · have H : Hid (enShort e = true) := by simp [Hid, enShort]; omega
      go_enter Try.func10, Try.ntmps10
      go_wp2
      go_ret
      rw [H.out]
      exact ⟨rfl, (Only.refl none_ w).alloc _⟩
    · have H : Hid (enShort e = false) := by simp [Hid, enShort]; omega
      go_enter Try.func10, Try.ntmps10
      go_wp2
      go_ret
      rw [H.out]
      exact ⟨rfl, (Only.refl none_ w).alloc _⟩
  · have H : Hid (enShort e = false) := by simp [Hid, enShort]; omega
    go_enter Try.func10, Try.ntmps10
    go_wp2
    go_ret
    rw [H.out]
    exact ⟨rfl, (Only.refl none_ w).alloc _⟩

set_option maxHeartbeats 1600000 in
theorem rf_newer (x y : En) (w : World) :
    Calls Try.prog 16 #[.agg #[.string x.k, .string x.v, .bool x.d, .int .i64 x.s.c, .int .i64 x.s.s, .int .i64 x.a.c, .int .i64 x.a.s, .int .i64 x.p, .int .i64 x.g], .agg #[.string y.k, .string y.v, .bool y.d, .int .i64 y.s.c, .int .i64 y.s.s, .int .i64 y.a.c, .int .i64 y.a.s, .int .i64 y.p, .int .i64 y.g]] w fun E w' => E = .returned (.bool (enNewer x y)) ∧ Only none_ w w' := by
  have heq := fun w => neq_of (eq_ref_stamp w x.s y.s 9998)
  have HN : Hid (enNewer x y = if stEq x.s y.s = true then stLater x.a y.a else stLater x.s y.s) := rfl
  obtain ⟨l1, h1⟩ : ∃ l, stLater ⟨x.s.c, x.s.s⟩ ⟨y.s.c, y.s.s⟩ = l := ⟨_, rfl⟩
  obtain ⟨l2, h2⟩ : ∃ l, stLater ⟨x.a.c, x.a.s⟩ ⟨y.a.c, y.a.s⟩ = l := ⟨_, rfl⟩
  have H1 := Lib.hid h1
  have H2 := Lib.hid h2
  have h1' : stLater x.s y.s = l1 := h1
  have h2' : stLater x.a y.a = l2 := h2
  rw [h1', h2'] at HN
  clear h1 h2 h1' h2'
  generalize stEq x.s y.s = b at heq HN
  have O := Lib.hid (((Only.refl none_ w).alloc (.cells #[.string x.k, .string x.v, .bool x.d, .int .i64 x.s.c, .int .i64 x.s.s, .int .i64 x.a.c, .int .i64 x.a.s, .int .i64 x.p, .int .i64 x.g] 25)).alloc (.cells #[.string y.k, .string y.v, .bool y.d, .int .i64 y.s.c, .int .i64 y.s.s, .int .i64 y.a.c, .int .i64 y.a.s, .int .i64 y.p, .int .i64 y.g] 25))
  cases b
  · go_enter Try.func16, Try.ntmps16
    go_wp2_with (go_at_call 48; refine (rf_later _ _ _ _ _).mono ?_; rintro E w1 ⟨rfl, o1⟩; rw [H1.out])
    go_ret
    rw [HN.out]
    exact ⟨rfl, O.out.trans o1⟩
  · go_enter Try.func16, Try.ntmps16
    go_wp2_with (go_at_call 48; refine (rf_later _ _ _ _ _).mono ?_; rintro E w1 ⟨rfl, o1⟩; rw [H2.out])
    go_ret
    rw [HN.out]
    exact ⟨rfl, O.out.trans o1⟩

end Go.Proofs.Ytkhckgbhpfjfkaa
