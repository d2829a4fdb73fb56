/- Texts of mine, one behind the other: GvS. No statement of the seat is proved here. -/
import Derived.Test.YtniacolkjdmflaaPg18
section
namespace Go.Proofs.Ytniacolkjdmflaa
open Go.RowKit
set_option maxRecDepth 100000
set_option linter.all false

theorem gv_bury (B : World) (g tb : Nat) (site t2 : Int) (l : List En) (v : Value) (e : En) (w : World) (h : Gv B g tb site t2 l v w) (hr : l.length < 4096) :
    Calls Try.prog 18 #[.pointer (some ⟨g, 0, none⟩), .agg #[.string e.k, .string e.v, .bool e.d, .int .i64 e.s.c, .int .i64 e.s.s, .int .i64 e.a.c, .int .i64 e.a.s, .int .i64 e.p, .int .i64 e.g]] w fun E w' => E = .returned (.bool (buryE (enDuty e site) t2 l e).2) ∧ LeftG B g tb site t2 v w (buryE (enDuty e site) t2 l e).1 w' := by
  by_cases ht : takes (enDuty e site) t2 e = true
  · exact gv_bury_yes B g tb site t2 l v e w h hr ht
  · have ht' : takes (enDuty e site) t2 e = false := by simpa using ht
    rw [bury_off ht']
    exact (gv_bury_no B g tb site t2 l v e w h ht').mono fun E w' h2 => ⟨h2.1, LeftG.after0 h2.2 (LeftG.same (h.keep h2.2))⟩

def exG : En := ⟨⟨#[107]⟩, ⟨#[]⟩, true, ⟨3, 0⟩, ⟨3, 0⟩, 2, 0⟩
theorem exG_bury : buryE (enDuty exG 1) 2 [] exG = ([exG], true) := by kernel_rfl
theorem exG_tick : tickE 2 [exG] = ([{ exG with g := 1 }], []) := by kernel_rfl
theorem exG_tick2 : tickE 2 [({ exG with g := 1 } : En)] = ([], [⟨#[107]⟩]) := by kernel_rfl

set_option maxHeartbeats 6400000 in
theorem gv_speaks (w : World) :
    Calls Try.prog 9 #[] w fun E w' => E = .returned (.bool true) ∧ Only none_ w w' := by
  have HN := Lib.hid (gv_new w 1 2 w (Only.refl _ _) (by decide) (by decide))
  have HB := Lib.hid (fun (g tb : Nat) (w' : World) (h : Gv w g tb 1 2 [] (.slice none 0 0) w') => gv_bury w g tb 1 2 [] _ exG w' h (by decide))
  rw [exG_bury] at HB
  have HT1 := Lib.hid (fun (g tb : Nat) (v : Value) (w' : World) (h : Gv w g tb 1 2 [exG] v w') => gv_tick w g tb 1 2 [exG] v w' h (by decide +kernel) (by decide))
  rw [exG_tick] at HT1
  have HT2 := Lib.hid (fun (g tb : Nat) (v : Value) (w' : World) (h : Gv w g tb 1 2 [({ exG with g := 1 } : En)] v w') => gv_tick w g tb 1 2 [{ exG with g := 1 }] v w' h (by decide +kernel) (by decide))
  rw [exG_tick2] at HT2
  have tok1 : True := trivial
  go_enter Try.func9, Try.ntmps9
  go_wp2_with (first
    | (go_at_call 12; refine HN.out.mono ?_; rintro E w1 ⟨g, tb, rfl, _, _, hG, o1⟩
       have G1 := Lib.hid (hG.keep ((Only.refl none_ w1).alloc (.cells #[.int .i64 3, .int .i64 0] 49)))
       clear hG o1)
    | (go_at_call 18; refine (HB.out g tb _ G1.out).mono ?_; rintro E w2 ⟨rfl, tb2, v2, hG, _, _⟩
       have G2 := Lib.hid hG
       clear hG)
    | (go_at_call 25; have _t := tok1; refine (sh_len w g tb2 [exG] v2 _ G2.out.sh G2.out.t).mono ?_; rintro E w3 ⟨rfl, rfl⟩)
    | (go_at_call 16; have _t := tok1; refine (HT1.out g tb2 v2 _ G2.out).mono ?_; clear tok1; rintro E w4 ⟨v4, rfl, own4, tb4, u4, hG, o4, _⟩
       obtain ⟨A4, n4, c4, rfl⟩ := own_shape own4
       obtain rfl : n4 = 0 := own_count own4
       have G4 := Lib.hid hG
       clear hG own4 o4
       have tok2 : True := trivial)
    | (go_at_call 16; have _t := tok2; refine (HT2.out g tb4 u4 _ G4.out).mono ?_; clear tok2; rintro E w5 ⟨v5, rfl, own5, tb5, u5, hG, o5, _⟩
       obtain ⟨A5, n5, c5, rfl⟩ := own_shape own5
       obtain rfl : n5 = 1 := own_count own5
       obtain ⟨b5, rfl, hc5⟩ := own_elem (f := fun s : ByteArray => [.string s]) (l := [⟨#[107]⟩]) (fun _ => rfl) (by decide) own5 rfl (i := 0) rfl
       have k5 := hc5 0 _ rfl
       have G5 := Lib.hid hG
       have hA5 : (some (⟨b5, 0, none⟩ : Addr)) ≠ none := by simp
       clear hG own5 o5
       have tok3 : True := trivial)
    | (go_at_call 25; have _t := tok3; refine (sh_len w g tb5 [] u5 _ G5.out.sh G5.out.t).mono ?_; rintro E w6 ⟨rfl, rfl⟩))
  go_ret
  exact ⟨rfl, G5.out.ho⟩
end Go.Proofs.Ytniacolkjdmflaa
end
