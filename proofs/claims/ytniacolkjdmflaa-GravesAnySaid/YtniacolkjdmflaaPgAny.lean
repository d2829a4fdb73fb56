/- The statement GravesAny: for every number of a byte and every slice of entries the call returns true, and both read afterwards as they read before. No condition. -/
import Derived.Test.YtniacolkjdmflaaPg19
import Derived.Test.YtniacolkjdmflaaPg10
import Derived.Test.YtniacolkjdmflaaPg14
import Derived.Test.YtniacolkjdmflaaPg2
import Derived.Test.YtniacolkjdmflaaPg6
import Derived.Test.YtniacolkjdmflaaPg5
import Derived.LoopTactic
import Derived.Test.YtniacolkjdmflaaPg20
import Derived.Test.YtniacolkjdmflaaPg7
section
namespace Go.Proofs.Ytniacolkjdmflaa
open Go.RowKit
set_option maxRecDepth 100000
set_option linter.all false

theorem buryAll_snoc (duty : En → Bool) (t2 : Int) (l es : List En) (e : En) : buryAll duty t2 l (es ++ [e]) = (buryE (duty e) t2 (buryAll duty t2 l es) e).1 := by
  unfold buryAll
  rw [List.foldl_append]
  rfl
theorem buryAll_len (duty : En → Bool) (t2 : Int) : ∀ (es l : List En), (buryAll duty t2 l es).length ≤ l.length + es.length
  | [], l => Nat.le_refl _
  | e :: es, l => by
    have h := buryAll_len duty t2 es (buryE (duty e) t2 l e).1
    have h2 := len_bury (duty e) t2 l e
    show (buryAll duty t2 (buryE (duty e) t2 l e).1 es).length ≤ _
    simp only [List.length_cons]
    omega
/-- Two graves, no block in common. -/
structure G2 (W : World) (site t2 : Int) (ga ta : Nat) (la : List En) (va : Value) (gb tb : Nat) (lb : List En) (vb : Value) (w : World) : Prop where
  x : Gv W ga ta site t2 la va w
  y : Gv W gb tb site t2 lb vb w
  ap : ∀ k, gfoot ga ta va k → ¬ gfoot gb tb vb k
section
variable {W w w' : World} {site t2 : Int} {ga ta gb tb : Nat} {la lb l' : List En} {va vb : Value}
theorem G2.swap (h : G2 W site t2 ga ta la va gb tb lb vb w) : G2 W site t2 gb tb lb vb ga ta la va w := ⟨h.y, h.x, fun k h1 h2 => h.ap k h2 h1⟩
theorem G2.keep (h : G2 W site t2 ga ta la va gb tb lb vb w) (o : Only none_ w w') : G2 W site t2 ga ta la va gb tb lb vb w' := ⟨h.x.keep o, h.y.keep o, h.ap⟩
theorem G2.left (h : G2 W site t2 ga ta la va gb tb lb vb w) (hl : LeftG W ga ta site t2 va w l' w') : ∃ ta' va', G2 W site t2 ga ta' l' va' gb tb lb vb w' := by
  obtain ⟨ta', va', h1, h2, h3⟩ := hl
  exact ⟨ta', va', h1, h.y.apart h2 (fun k hk h4 => h.ap k h4 hk) (fun k hk => (h.x.foot_ge hk).1), fun k hk h4 => (h3 k hk).elim (fun h5 => h.ap k h5 h4) (fun h5 => by have := (h.y.foot_ge h4).2; omega)⟩
end
/-- The same certificates in both orders. -/
theorem bury_same (duty : En → Bool) (t2 : Int) (l : List En) : (buryAll duty t2 [] l).map (fun x => (x.k, triE x)) = (buryAll duty t2 [] l.reverse).map (fun x => (x.k, triE x)) :=
  ris_same (ris_all _ _ _ _ List.Pairwise.nil) (ris_all _ _ _ _ List.Pairwise.nil) fun k => look_perm duty t2 k (List.reverse_perm l).symm
theorem rev_take {α : Type} {l : List α} {i j : Nat} (hij : i + j + 1 = l.length) {x : α} (hx : l[j]? = some x) : l.reverse.take (i + 1) = l.reverse.take i ++ [x] := by
  have hi : i < l.reverse.length := by rw [List.length_reverse]; omega
  rw [List.take_succ_eq_append_getElem hi]
  congr 2
  rw [List.getElem_reverse]
  obtain ⟨hj, e⟩ := List.getElem?_eq_some_iff.1 hx
  rw [← e]
  congr 1
  omega
end Go.Proofs.Ytniacolkjdmflaa
end
section
namespace Go.Proofs.Ytniacolkjdmflaa
open Go.RowKit
set_option maxRecDepth 100000
set_option linter.all false

theorem ref_info5 : (Try.prog.info? 26).map (fun i => (i.zero, i.size, i.bytes)) = some (some (.agg #[.string ⟨#[]⟩, .string ⟨#[]⟩, .bool false, .int .i64 0, .int .i64 0, .int .i64 0, .int .i64 0, .int .i64 0, .int .i64 0]), 9, 88) := by kernel_rfl
theorem row_one5 (e : En) : ∀ u ∈ enRow e, u.oneCell' = true := by
  intro u hu
  simp only [enRow, List.mem_cons, List.not_mem_nil, or_false] at hu
  rcases hu with rfl | rfl | rfl | rfl | rfl | rfl | rfl | rfl | rfl <;> rfl
theorem rows_next {l : List En} {k : Nat} {a : En} (h : l[k]? = some a) : (l.take (k + 1)).flatMap enRow = (l.take k).flatMap enRow ++ enRow a := by
  obtain ⟨hk, hb⟩ := List.getElem?_eq_some_iff.1 h
  rw [List.take_succ_eq_append_getElem hk, List.flatMap_append, hb]
  simp
theorem own_len5 {w : World} {base : Nat} {e : TypeId} {k n n' c : Nat} {A : Option Addr} {xs : List Value} (h : w.ownsRow base e k (.slice A n' c) n xs) : n' = n := by
  rcases h.2 with ⟨e1, h0⟩ | ⟨g, cap, cur, e1, _⟩
  · injection e1 with _ e2 _; omega
  · injection e1 with _ e2 _

set_option maxHeartbeats 6400000 in
theorem g_tos (A : Option Addr) (c n : Nat) (S : Nat → Prop) (l : List En) (hn : l.length = n) (hn4 : n ≤ 4096) (w : World) (hx : Cel w S (.slice A n c) n 9 (l.flatMap enRow)) :
    Calls Try.prog 27 #[.slice A n c] w fun E w' => ∃ v', E = .returned v' ∧ w'.ownsRow w.heap.size 26 9 v' n (l.flatMap enRow) ∧ Only none_ w w' := by
  obtain ⟨i0, hi0, hz0, hz1, hz2⟩ := info_parts ref_info5
  have HX := Lib.hid hx
  have HN := Lib.hid hn
  have M1 : Hid ((w.alloc (.cells #[] 26)).ownsRow w.heap.size 26 9 (.slice (some ⟨w.heap.size, 0, none⟩) 0 0) 0 []) := own_made w w.heap.size _ 9 0 #[] (by simp) (by simp [maxLen]) (Nat.le_refl _)
  have O1 := Lib.hid ((Only.refl none_ w).alloc (.cells #[] 26))
  clear hx hn
  go_enter Try.func27, Try.ntmps27
  go_wp2_with fail
  go_loopw [9, 3] (fun i o wr => ∃ (k : Nat) (B : Option Addr) (m d : Nat), k ≤ n ∧ i = .int .i64 (k : Int) ∧ o = .slice B m d ∧ m = k ∧ wr.ownsRow w.heap.size 26 9 (.slice B m d) k ((l.take k).flatMap enRow) ∧ Only none_ w wr) (fun i _ _ => n - (intOf i).toNat)
  case atStart => exact ⟨0, _, _, _, Nat.zero_le _, rfl, rfl, rfl, M1.out, O1.out⟩
  case round =>
    obtain ⟨k, B, m, d, hk, rfl, rfl, hm, hown, ho⟩ := hrel
    have HW := Lib.hid ho
    have OW := Lib.hid hown
    have HM := Lib.hid hm
    clear ho hown hm
    by_cases hlt : k < n
    · obtain ⟨a, ha⟩ : ∃ a, l[k]? = some a := ⟨l[k]'(by have := HN.out; omega), List.getElem?_eq_getElem _⟩
      obtain ⟨b, off, hA, _, hb, hc⟩ := in_elem enRow_length (by decide) HX.out HN.out ha
      subst hA
      have HC : Hid (∀ j u, (#[.string a.k, .string a.v, .bool a.d, .int .i64 a.s.c, .int .i64 a.s.s, .int .i64 a.a.c, .int .i64 a.a.s, .int .i64 a.p, .int .i64 a.g] : Array Value).toList[j]? = some u → wr.cell? ⟨b, off + k * 9 + j, none⟩ = some u) := fun j u hu => hc _ HW.out j u hu
      have HS := Lib.hid (rows_next ha)
      have BA := Lib.hid (Blk.new wr 51 #[.string a.k, .string a.v, .bool a.d, .int .i64 a.s.c, .int .i64 a.s.s, .int .i64 a.a.c, .int .i64 a.a.s, .int .i64 a.p, .int .i64 a.g])
      have O2 := Lib.hid ((Only.refl none_ wr).alloc (.cells #[.string a.k, .string a.v, .bool a.d, .int .i64 a.s.c, .int .i64 a.s.s, .int .i64 a.a.c, .int .i64 a.a.s, .int .i64 a.p, .int .i64 a.g] 51))
      have MX : Hid (k + 1 ≤ maxLen ∧ (k + 1) * 88 ≤ 140737488355328) := by simp only [Hid, maxLen]; omega
      have hki : (k : Int) < (n : Int) := by omega
      clear ha hc
      go_wp2_with (first
        | (with_reducible refine wpl_piece rfl 51 _ rfl b (off + k * 9) rfl #[.string a.k, .string a.v, .bool a.d, .int .i64 a.s.c, .int .i64 a.s.s, .int .i64 a.a.c, .int .i64 a.a.s, .int .i64 a.p, .int .i64 a.g] _ HC.out Try.underlying51 rfl (by kernel_rfl) ?_)
        | (with_reducible refine wpl_new rfl rfl 51 rfl _ _ rfl #[.string a.k, .string a.v, .bool a.d, .int .i64 a.s.c, .int .i64 a.s.s, .int .i64 a.a.c, .int .i64 a.a.s, .int .i64 a.p, .int .i64 a.g] rfl rfl (by kernel_rfl) (en_cells_one a) ?_)
        | (with_reducible refine wpl_load rfl 51 _ rfl wr.heap.size rfl _ #[.string a.k, .string a.v, .bool a.d, .int .i64 a.s.c, .int .i64 a.s.s, .int .i64 a.a.c, .int .i64 a.a.s, .int .i64 a.p, .int .i64 a.g] _ BA.out Try.underlying51 rfl (by kernel_rfl) ?_)
        | (go_at_call 22; refine (en_to a _).mono ?_; rintro E w5 ⟨rfl, o5⟩
           have O5 := Lib.hid (O2.out.trans o5)
           have O6 := Lib.hid ((O2.out.trans o5).alloc (.cells #[.string a.k, .string a.v, .bool a.d, .int .i64 a.s.c, .int .i64 a.s.s, .int .i64 a.a.c, .int .i64 a.a.s, .int .i64 a.p, .int .i64 a.g] 26))
           have OW6 := Lib.hid (owns_only OW.out O6.out (fun _ _ h => h))
           have CM := Lib.hid (cel_made w5 26 9 1 #[.string a.k, .string a.v, .bool a.d, .int .i64 a.s.c, .int .i64 a.s.s, .int .i64 a.a.c, .int .i64 a.a.s, .int .i64 a.p, .int .i64 a.g] rfl (by simp [maxLen]))
           have ONE : Hid (∀ u ∈ (#[.string a.k, .string a.v, .bool a.d, .int .i64 a.s.c, .int .i64 a.s.s, .int .i64 a.a.c, .int .i64 a.a.s, .int .i64 a.p, .int .i64 a.g] : Array Value).toList, u.oneCell' = true) := row_one5 a
           have SZ : Hid (w.heap.size ≤ (w5.alloc (.cells #[.string a.k, .string a.v, .bool a.d, .int .i64 a.s.c, .int .i64 a.s.s, .int .i64 a.a.c, .int .i64 a.a.s, .int .i64 a.p, .int .i64 a.g] 26)).heap.size) := (HW.out.trans O6.out).size
           clear o5)
        | (at_builtin; refine wpList_append_cel _ rfl (.tmp 13) (.tmp 16) 34 rfl w.heap.size 26 i0 _ 9 88 Try.underlying34 hi0 hz0 hz1 hz2 rfl (by omega) (.slice B m d) k _ rfl OW6.out _ _ 1 _ rfl CM.out ONE.out MX.out.1 MX.out.2 SZ.out ?_
           intro A7 n7 c7 w7 hown7 hgrow7 hmv7
           have O7 : Hid (Only none_ w w7) := (HW.out.trans O6.out).grown hgrow7 (fun k hk => .inr (OW6.out.lt k hk).1)
           have H7 := Lib.hid hown7
           have HN7 : Hid (n7 = k + 1) := own_len5 hown7
           clear hown7 hgrow7 hmv7))
      go_roundw
      case rel => exact ⟨k + 1, A7, n7, c7, by omega, by go_num, rfl, HN7.out, by rw [HS.out]; exact H7.out, O7.out⟩
      case measure => simp [intOf]; omega
    · obtain rfl : k = n := by omega
      have HT : Hid (l.take k = l) := by rw [Hid, ← HN.out, List.take_length]
      have F : Hid (wr.ownsRow w.heap.size 26 9 (.slice B m d) k (l.flatMap enRow)) := by have := OW.out; rwa [HT.out] at this
      clear HT OW
      go_wp2_with fail
      go_ret
      exact ⟨_, rfl, F.out, HW.out⟩
end Go.Proofs.Ytniacolkjdmflaa
end
section
namespace Go.Proofs.Ytniacolkjdmflaa
open Go.RowKit
set_option maxRecDepth 100000
set_option linter.all false

set_option maxHeartbeats 25600000 in
theorem graves_any (A : Option Addr) (c : Nat) (S : Nat → Prop) (l : List En) (y : Nat) (hy : y < 256) (w : World) (hx : Cel w S (.slice A l.length c) l.length 9 (l.flatMap enRow)) :
    Calls Try.prog 6 #[.int .u8 (y : Int), .slice A l.length c] w fun E w' => E = .returned (.bool true) ∧ Only none_ w w' := by
  have HSP := Lib.hid (fun (X : World) => gv_speaks X)
  have HX := Lib.hid hx
  obtain ⟨L, hL⟩ : ∃ L, l.length = L := ⟨_, rfl⟩
  have HL := Lib.hid hL
  rw [hL] at HX ⊢
  have hLm : L ≤ 9223372036854775807 := by
    obtain ⟨_, _, e, _, h2, h3, _, _⟩ := HX.out
    injection e with _ _ e
    subst e
    simp only [maxLen] at h3; omega
  clear hL hx
  by_cases h40 : 40 < L
  · have hd : decide ((40 : Int) < (L : Int)) = true := by simp; omega
    clear HX HL
    go_enter Try.func6, Try.ntmps6
    have tok1 : True := trivial
    go_wp2_with (first
      | (go_at_call 9; have _t := tok1; clear tok1; refine (HSP.out _).mono ?_; rintro E w1 ⟨rfl, o1⟩; have O1 := Lib.hid o1; clear o1; have tok2 : True := trivial)
      | (go_at_call 9; have _t := tok2; clear tok2; refine (HSP.out _).mono ?_; rintro E w3 ⟨rfl, o3⟩; have O3 := Lib.hid (O1.out.trans o3); clear o3))
    go_ret
    exact ⟨rfl, O3.out⟩
  · have hn40 : ¬ (40 : Int) < (L : Int) := by omega
    have hL40 : L ≤ 40 := by omega
    obtain ⟨kk, hkk⟩ : ∃ kk, y % 12 = kk := ⟨_, rfl⟩
    have hk12 : kk < 12 := by omega
    have hmod : Int.tmod (y : Int) 12 = (kk : Int) := by rw [← hkk]; rfl
    have hst : stSite (kk : Int) = true := by simp [stSite]; omega
    have HN0 := Lib.hid (fun (X : World) (o : Only none_ w X) => gv_new w (kk : Int) 2147483647 X o hst (by decide))
    have hyI : (y : Int) % 12 = (kk : Int) := by omega
    have tok1 : True := trivial
    clear hkk
    go_enter Try.func6, Try.ntmps6
    go_wp2_with (first
      | (go_at_call 9; have _t := tok1; refine (HSP.out _).mono ?_; rintro E w1 ⟨rfl, o1⟩; have O1 := Lib.hid o1; clear o1)
      | (go_at_call 12; have _t := tok1; clear tok1; refine (HN0.out _ O1.out).mono ?_; rintro E w3 ⟨g1, tb1, rfl, hg1, ht1, G, o3⟩
         have GA := Lib.hid G
         have O3 := Lib.hid (O1.out.trans o3)
         clear G o3
         have tok2 : True := trivial)
      | (go_at_call 12; have _t := tok2; clear tok2; refine (HN0.out _ O3.out).mono ?_; rintro E w4 ⟨g2, tb2, rfl, hg2, ht2, G, o4⟩
         have GG : Hid (G2 w (kk : Int) 2147483647 g1 tb1 [] (.slice none 0 0) g2 tb2 [] (.slice none 0 0) w4) := ⟨GA.out.keep o4, G, fun k h1 h2 => by
           have h3 := (GA.out.foot_ge h1).2
           rcases h2 with h2 | h2 | h2
           · omega
           · omega
           · cases h2⟩
         clear G o4))
    clear HN0 hmod hyI O1 O3 GA HSP
    go_loopw [51] (fun i wr => ∃ (k ta tb : Nat) (va vb : Value), k ≤ L ∧ i = .int .i64 (k : Int) ∧ G2 w (kk : Int) 2147483647 g1 ta (buryAll (fun e => enDuty e (kk : Int)) 2147483647 [] (l.take k)) va g2 tb (buryAll (fun e => enDuty e (kk : Int)) 2147483647 [] (l.reverse.take k)) vb wr) (fun i _ => L - (intOf i).toNat)
    case atStart => exact ⟨0, tb1, tb2, _, _, Nat.zero_le _, rfl, GG.out⟩
    case round =>
      obtain ⟨k, ta, tb, va, vb, hk, rfl, hG⟩ := hrel
      have HG := Lib.hid hG
      have hla := buryAll_len (fun e => enDuty e (kk : Int)) 2147483647 (l.take k) []
      have hlb := buryAll_len (fun e => enDuty e (kk : Int)) 2147483647 (l.reverse.take k) []
      have HLA : Hid ((buryAll (fun e => enDuty e (kk : Int)) 2147483647 [] (l.take k)).length ≤ 40 ∧ (buryAll (fun e => enDuty e (kk : Int)) 2147483647 [] (l.reverse.take k)).length ≤ 40) := by
        simp only [List.length_nil, List.length_take, List.length_reverse] at hla hlb
        simp only [Hid]
        omega
      clear hG hla hlb GG
      by_cases hlt : k < L
      · obtain ⟨a, ha⟩ : ∃ a, l[k]? = some a := ⟨l[k]'(by have := HL.out; omega), List.getElem?_eq_getElem _⟩
        obtain ⟨j, hj⟩ : ∃ j, k + j + 1 = L := ⟨L - k - 1, by omega⟩
        obtain ⟨z, hz⟩ : ∃ z, l[j]? = some z := ⟨l[j]'(by have := HL.out; omega), List.getElem?_eq_getElem _⟩
        obtain ⟨b, off, hA, _, hb, hc⟩ := in_elem enRow_length (by decide) HX.out HL.out ha
        subst hA
        obtain ⟨b', off', hA', _, hb', hc'⟩ := in_elem enRow_length (by decide) HX.out HL.out hz
        injection hA' with hA'
        injection hA' with e1 e2
        subst e1 e2
        have HC : Hid (∀ X, Only none_ w X → ∀ j u, (#[.string a.k, .string a.v, .bool a.d, .int .i64 a.s.c, .int .i64 a.s.s, .int .i64 a.a.c, .int .i64 a.a.s, .int .i64 a.p, .int .i64 a.g] : Array Value).toList[j]? = some u → X.cell? ⟨b, off + k * 9 + j, none⟩ = some u) := fun X o j u hu => hc X o j u hu
        have HCZ : Hid (∀ X, Only none_ w X → ∀ i u, (#[.string z.k, .string z.v, .bool z.d, .int .i64 z.s.c, .int .i64 z.s.s, .int .i64 z.a.c, .int .i64 z.a.s, .int .i64 z.p, .int .i64 z.g] : Array Value).toList[i]? = some u → X.cell? ⟨b, off + j * 9 + i, none⟩ = some u) := fun X o i u hu => hc' X o i u hu
        have HCW : Hid (∀ j u, (#[.string a.k, .string a.v, .bool a.d, .int .i64 a.s.c, .int .i64 a.s.s, .int .i64 a.a.c, .int .i64 a.a.s, .int .i64 a.p, .int .i64 a.g] : Array Value).toList[j]? = some u → wr.cell? ⟨b, off + k * 9 + j, none⟩ = some u) := HC.out wr HG.out.x.ho
        have HTA : Hid (buryAll (fun e => enDuty e (kk : Int)) 2147483647 [] (l.take (k + 1)) = (buryE (enDuty a (kk : Int)) 2147483647 (buryAll (fun e => enDuty e (kk : Int)) 2147483647 [] (l.take k)) a).1) := by
          obtain ⟨h1, h2⟩ := List.getElem?_eq_some_iff.1 ha
          rw [Hid, List.take_succ_eq_append_getElem h1, h2]
          exact buryAll_snoc _ _ _ _ _
        have HTB : Hid (buryAll (fun e => enDuty e (kk : Int)) 2147483647 [] (l.reverse.take (k + 1)) = (buryE (enDuty z (kk : Int)) 2147483647 (buryAll (fun e => enDuty e (kk : Int)) 2147483647 [] (l.reverse.take k)) z).1) := by
          rw [Hid, rev_take (by have := HL.out; omega) hz]
          exact buryAll_snoc _ _ _ _ _
        have hjI : (L : Int) - 1 - (k : Int) = (j : Int) := by omega
        have hw1 : IntKind.i64.wrap ((L : Int) - 1) = (L : Int) - 1 := IntWalk.i64_in _ (by omega)
        have hw2 : IntKind.i64.wrap ((L : Int) - 1 - (k : Int)) = (j : Int) := by rw [hjI]; exact IntWalk.i64_in _ (by omega)
        have hjL : j < L := by omega
        have hjL2 : (j : Int) < (L : Int) := by omega
        obtain ⟨s, hs⟩ : ∃ s, enShort a = s := ⟨_, rfl⟩
        have HSS := Lib.hid hs
        clear ha hz hc hc' hs hjI
        generalize buryAll (fun e => enDuty e (kk : Int)) 2147483647 [] (l.take k) = la at HG HLA HTA
        generalize buryAll (fun e => enDuty e (kk : Int)) 2147483647 [] (l.reverse.take k) = lb at HG HLA HTB
        have tokA : True := trivial
        cases s with
        | false =>
          go_wp2_with (first
            | (with_reducible refine wpl_piece rfl 26 _ rfl b (off + k * 9) rfl #[.string a.k, .string a.v, .bool a.d, .int .i64 a.s.c, .int .i64 a.s.s, .int .i64 a.a.c, .int .i64 a.a.s, .int .i64 a.p, .int .i64 a.g] _ HCW.out Try.underlying26 rfl (by kernel_rfl) ?_)
            | (go_at_call 11; refine (rf_short a _).mono ?_; rw [HSS.out]; rintro E w5 ⟨rfl, o5⟩; have O5 := Lib.hid (HG.out.x.ho.trans o5); clear o5))
          go_ret
          exact ⟨rfl, O5.out⟩
        | true =>
          go_wp2_with (first
            | (with_reducible refine wpl_piece rfl 26 _ rfl b (off + k * 9) rfl #[.string a.k, .string a.v, .bool a.d, .int .i64 a.s.c, .int .i64 a.s.s, .int .i64 a.a.c, .int .i64 a.a.s, .int .i64 a.p, .int .i64 a.g] _ HCW.out Try.underlying26 rfl (by kernel_rfl) ?_)
            | (go_at_call 11; refine (rf_short a _).mono ?_; rw [HSS.out]; rintro E w5 ⟨rfl, o5⟩
               have G5 := Lib.hid (HG.out.keep o5)
               have HC5 := Lib.hid (HC.out w5 (G5.out.x.ho))
               clear o5)
            | (with_reducible refine wpl_piece rfl 26 _ rfl b (off + k * 9) rfl #[.string a.k, .string a.v, .bool a.d, .int .i64 a.s.c, .int .i64 a.s.s, .int .i64 a.a.c, .int .i64 a.a.s, .int .i64 a.p, .int .i64 a.g] _ HC5.out Try.underlying26 rfl (by kernel_rfl) ?_)
            | (go_at_call 19; have _t := tokA; clear tokA; refine (en_of a _).mono ?_; rintro E w6 ⟨rfl, o6⟩
               have G6 := Lib.hid (G5.out.keep o6)
               clear o6
               have tokB : True := trivial)
            | (go_at_call 18; have _t := tokB; clear tokB; refine (gv_bury w g1 ta _ _ la va a _ G6.out.x (by have := HLA.out; omega)).mono ?_; rintro E w7 ⟨rfl, h7⟩
               obtain ⟨ta7, va7, g7⟩ := G6.out.left h7
               have G7 := Lib.hid g7
               have HC7 := Lib.hid (HCZ.out w7 (G7.out.x.ho))
               clear h7 g7
               have tokC : True := trivial)
            | (with_reducible refine wpl_piece rfl 26 _ rfl b (off + j * 9) rfl #[.string z.k, .string z.v, .bool z.d, .int .i64 z.s.c, .int .i64 z.s.s, .int .i64 z.a.c, .int .i64 z.a.s, .int .i64 z.p, .int .i64 z.g] _ HC7.out Try.underlying26 rfl (by kernel_rfl) ?_)
            | (go_at_call 19; have _t := tokC; clear tokC; refine (en_of z _).mono ?_; rintro E w8 ⟨rfl, o8⟩
               have G8 := Lib.hid (G7.out.keep o8)
               clear o8
               have tokD : True := trivial)
            | (go_at_call 18; have _t := tokD; clear tokD; refine (gv_bury w g2 tb _ _ lb vb z _ G8.out.y (by have := HLA.out; omega)).mono ?_; rintro E w9 ⟨rfl, h9⟩
               obtain ⟨tb9, vb9, g9⟩ := G8.out.swap.left h9
               have G9 := Lib.hid g9.swap
               clear h9 g9))
          go_roundw
          case rel => exact ⟨k + 1, ta7, tb9, va7, vb9, by omega, by go_num, by rw [HTA.out, HTB.out]; exact G9.out⟩
          case measure => simp [intOf]; omega
      · obtain rfl : k = L := by omega
        have HBS : Hid ((buryAll (fun e => enDuty e (kk : Int)) 2147483647 [] (l.take k)).map (fun x => (x.k, triE x)) = (buryAll (fun e => enDuty e (kk : Int)) 2147483647 [] (l.reverse.take k)).map (fun x => (x.k, triE x))) := by
          have h1 : l.take k = l := by rw [← HL.out, List.take_length]
          have h2 : l.reverse.take k = l.reverse := by rw [← HL.out, ← List.length_reverse, List.take_length]
          rw [Hid, h1, h2]
          exact bury_same _ _ _
        generalize buryAll (fun e => enDuty e (kk : Int)) 2147483647 [] (l.take k) = la at HG HLA HBS
        generalize buryAll (fun e => enDuty e (kk : Int)) 2147483647 [] (l.reverse.take k) = lb at HG HLA HBS
        clear hlt hk HX
        obtain ⟨n, hn⟩ : ∃ n, la.length = n := ⟨_, rfl⟩
        have hlb : lb.length = n := by
          have h1 := congrArg List.length HBS.out
          rw [List.length_map, List.length_map, hn] at h1
          exact h1.symm
        have HN := Lib.hid (And.intro hn hlb)
        have hn40' : n ≤ 40 := by have := HLA.out.1; omega
        have HA1 := Lib.hid (gv_all w g1 ta _ _ la va wr HG.out.x)
        have HA2 := Lib.hid (fun (X : World) (o : Only none_ wr X) => gv_all w g2 tb _ _ lb vb X (HG.out.y.keep o))
        rw [hn] at HA1
        rw [hlb] at HA2
        have tok1 : True := trivial
        clear hn hlb HLA HL
        go_wp2_with (first
          | (go_at_call 28; have _t := tok1; clear tok1; refine HA1.out.mono ?_; rintro E w5 ⟨v5, rfl, own5, o5⟩
             obtain ⟨A5, n5, c5, rfl⟩ := own_shape own5
             obtain rfl : n5 = n := own_len5 own5
             have HT5 := Lib.hid (g_tos A5 c5 n5 _ la HN.out.1 (by omega) w5 (Cel.of_own own5))
             have O5 := Lib.hid o5
             clear own5 o5
             have tok2 : True := trivial)
          | (go_at_call 27; have _t := tok2; clear tok2; refine HT5.out.mono ?_; rintro E w6 ⟨v6, rfl, own6, o6⟩
             obtain ⟨A6, n6, c6, rfl⟩ := own_shape own6
             obtain rfl : n6 = n5 := own_len5 own6
             have R6 := Lib.hid own6
             have O6 := Lib.hid (O5.out.trans o6)
             clear own6 o6
             have tok3 : True := trivial)
          | (go_at_call 28; have _t := tok3; clear tok3; refine (HA2.out w6 O6.out).mono ?_; rintro E w7 ⟨v7, rfl, own7, o7⟩
             obtain ⟨A7, n7, c7, rfl⟩ := own_shape own7
             obtain rfl : n7 = n6 := own_len5 own7
             have HT7 := Lib.hid (g_tos A7 c7 n7 _ lb HN.out.2 (by omega) w7 (Cel.of_own own7))
             have R7 := Lib.hid (owns_only R6.out o7 (fun _ _ h => h))
             have O7 := Lib.hid (O6.out.trans o7)
             clear own7 o7
             have tok4 : True := trivial)
          | (go_at_call 27; have _t := tok4; clear tok4; refine HT7.out.mono ?_; rintro E w8 ⟨v8, rfl, own8, o8⟩
             obtain ⟨A8, n8, c8, rfl⟩ := own_shape own8
             obtain rfl : n8 = n7 := own_len5 own8
             have RA := Lib.hid (owns_only R7.out o8 (fun _ _ h => h))
             have RB := Lib.hid own8
             have O8 := Lib.hid (HG.out.x.ho.trans (O7.out.trans o8))
             clear own8 o8))
        clear HT5 HT7 HA1 HA2 R6 R7 O5 O6 O7 HG
        go_loopw [92] (fun i X => ∃ k : Nat, k ≤ n8 ∧ i = .int .i64 (k : Int) ∧ Only none_ w8 X) (fun i _ => n8 - (intOf i).toNat)
        case atStart => exact ⟨0, Nat.zero_le _, rfl, Only.refl _ _⟩
        case round =>
          obtain ⟨i, hi, rfl, ho⟩ := hrel
          have HW := Lib.hid ho
          clear ho
          by_cases hlt : i < n8
          · obtain ⟨x, hx⟩ : ∃ x, la[i]? = some x := ⟨la[i]'(by have := HN.out; omega), List.getElem?_eq_getElem _⟩
            obtain ⟨z, hz⟩ : ∃ z, lb[i]? = some z := ⟨lb[i]'(by have := HN.out; omega), List.getElem?_eq_getElem _⟩
            have he : (x.k, triE x) = (z.k, triE z) := by
              have h1 := congrArg (fun q => q[i]?) HBS.out
              simp only [List.getElem?_map, hx, hz, Option.map_some, Option.some.injEq] at h1
              exact h1
            obtain ⟨bx, hbx, hcx⟩ := own_elem enRow_length (by decide) RA.out HN.out.1 hx
            obtain ⟨bz, hbz, hcz⟩ := own_elem enRow_length (by decide) RB.out HN.out.2 hz
            subst hbx hbz
            have hek : x.k = z.k := congrArg Prod.fst he
            have hes : x.s = z.s := congrArg (fun q => q.2.s) he
            have hea : x.a = z.a := congrArg (fun q => q.2.a) he
            have heg : x.g = z.g := congrArg (fun q => q.2.g) he
            have hbxl : bx < w8.heap.size := (RA.out.lt bx rfl).2
            have hbzl : bz < w8.heap.size := (RB.out.lt bz rfl).2
            have HCX : Hid (∀ X, Only none_ w8 X → X.cell? ⟨bx, i * 9, none⟩ = some (.string x.k) ∧ X.cell? ⟨bx, i * 9 + 3, none⟩ = some (.int .i64 x.s.c) ∧ X.cell? ⟨bx, i * 9 + 4, none⟩ = some (.int .i64 x.s.s) ∧ X.cell? ⟨bx, i * 9 + 5, none⟩ = some (.int .i64 x.a.c) ∧ X.cell? ⟨bx, i * 9 + 6, none⟩ = some (.int .i64 x.a.s) ∧ X.cell? ⟨bx, i * 9 + 8, none⟩ = some (.int .i64 x.g)) := fun X o =>
              have f := fun j u (hu : (enRow x)[j]? = some u) => (o.cell (p := ⟨bx, i * 9 + j, none⟩) hbxl (fun h => h)).trans (hcx j u hu)
              ⟨f 0 _ rfl, f 3 _ rfl, f 4 _ rfl, f 5 _ rfl, f 6 _ rfl, f 8 _ rfl⟩
            have HCZ : Hid (∀ X, Only none_ w8 X → X.cell? ⟨bz, i * 9, none⟩ = some (.string x.k) ∧ X.cell? ⟨bz, i * 9 + 3, none⟩ = some (.int .i64 x.s.c) ∧ X.cell? ⟨bz, i * 9 + 4, none⟩ = some (.int .i64 x.s.s) ∧ X.cell? ⟨bz, i * 9 + 5, none⟩ = some (.int .i64 x.a.c) ∧ X.cell? ⟨bz, i * 9 + 6, none⟩ = some (.int .i64 x.a.s) ∧ X.cell? ⟨bz, i * 9 + 8, none⟩ = some (.int .i64 x.g)) := fun X o => by
              have f := fun j u (hu : (enRow z)[j]? = some u) => (o.cell (p := ⟨bz, i * 9 + j, none⟩) hbzl (fun h => h)).trans (hcz j u hu)
              rw [hek, hes, hea, heg]
              exact ⟨f 0 _ rfl, f 3 _ rfl, f 4 _ rfl, f 5 _ rfl, f 6 _ rfl, f 8 _ rfl⟩
            have NS := Lib.hid (fun (X : World) => neq_of (eq_ref_stamp X x.s x.s 9998))
            have NA := Lib.hid (fun (X : World) => neq_of (eq_ref_stamp X x.a x.a 9998))
            rw [(stEq_iff _ _).2 rfl] at NS NA
            have hin : (i : Int) < (n8 : Int) := by omega
            obtain ⟨xk, xv, xd, ⟨sc, ss⟩, ⟨ac, as_⟩, xp, xg⟩ := x
            dsimp only at HCX HCZ NS NA
            clear hx hz he hcx hcz hek hes hea heg hbxl hbzl
            go_upto_region 22 with fail
            (refine wp_region_free (fun X => Only none_ wr X) (Only none_) (F := ?_) (by kernel_rfl) 146 (by rfl) (by kernel_rfl) (fun x => ?_) ((Only.refl none_ wr).drew) ?_; rotate_left; (· (simp only [putsL, Act.put, List.setIfInBounds_toArray, List.set_cons_zero, List.set_cons_succ, Nat.reduceAdd]; exact rfl)))
            repeat (first
              | ((first | refine fr_value (c := ?_) (by rfl) (fun w => Only.refl none_ w) (fun x w0 hS hk => ?_) ?_ | refine fr_value_if (c := ?_) (by rfl) (by rfl) (by rfl) (fun w => Only.refl none_ w) (fun x w0 hS hk => ?_) ?_); rotate_left; (· (have hk2 := hk; (try simp [knAll, Region.binds] at hk2); obtain ⟨x0, x3, x4, x5, x6, x8⟩ := HCX.out _ (HW.out.trans hS); obtain ⟨y0, y3, y4, y5, y6, y8⟩ := HCZ.out _ (HW.out.trans hS); have ns := NS.out w0; have na := NA.out w0; go_simp; try (with_reducible rfl))); try simp only [List.nil_append, List.cons_append]))
            (refine fr_end ?_; intro x w9 hS hk)
            have e49 := kn_end_at 49 hk (by rfl)
            rw [Nat.zero_add] at e49
            rw [e49]
            have S9 := Lib.hid (HW.out.trans hS)
            clear hk hS e49
            go_wp2_with fail
            go_roundw
            case rel => exact ⟨i + 1, by omega, by go_num, S9.out⟩
            case measure => simp [intOf]; omega
          · obtain rfl : i = n8 := by omega
            go_wp2_with fail
            go_ret
            exact ⟨rfl, O8.out.trans HW.out⟩
end Go.Proofs.Ytniacolkjdmflaa
end
section
namespace Go.Proofs.Ytniacolkjdmflaa.grvany
open Go.ChangeShapes Go.WideShapes Go.ChangeAt Go.RowKit
set_option linter.unusedVariables false

set_option maxRecDepth 100000 in
theorem lifted (os : Os) (started : os.Started) (H : Type) (enc : TypeId × Value → H) :
    ReturnsInHanded {} Try.checked os 6 .any (Rows.gravesAnySpec.pre6 enc Try.prog Try.f6 Rows.gravesAnyRow.domain false) (Rows.gravesAnySpec.post enc Try.prog Try.f6 false true false false) := by
  refine returnsInHanded_of_change (C := Try.checked) own started (by kernel_rfl) Try.func6
    (ChangeSpec.witness6 (enc := enc) (C := Try.checked) false ⟨#[], #[.int .u8 0, .slice none 0 0], []⟩ 8 (by kernel_rfl) (by kernel_rfl) (by kernel_rfl) (by kernel_rfl)) ?_
  intro W base args ds gs before hval0 hW hcnd _
  have hval : ∀ (j : Nat) t v, Try.f6.params[j]? = some t → args[j]? = some v → Value.okWide Try.prog W .any base t v := hval0
  have hW' := hW
  obtain ⟨p, q, hA0, hV, rfl, hfz, hnd⟩ := hW
  have hA : DataW.TrodAll enc Try.prog W 0 (fun _ => true) true Try.f6.params.toList args.toList ds p := hA0
  rw [Try.params6] at hA hval
  obtain ⟨v0, vs0, d0, ds0, p0, q0, hargs, rfl, rfl, h0, r0⟩ := trodAll_cons hA
  obtain ⟨v1, vs1, d1, ds1, p1, q1, rfl, rfl, rfl, h1, r1⟩ := trodAll_cons r0
  obtain ⟨rfl, rfl, rfl⟩ := trodAll_nil r1
  obtain rfl : args = #[v0, v1] := by cases args; simp_all
  obtain ⟨rfl, rfl⟩ := trodVars_none hV
  obtain ⟨a0, rfl, rfl, rfl, w0⟩ := open_int Try.underlying5 (hval 0 5 v0 rfl rfl) h0
  obtain ⟨a1, len1, cap1, rfl⟩ := okWide_slice Try.underlying34 (hval 1 34 v1 rfl rfl)
  have k1 := h1
  have lt1 : ∀ x ∈ p1, x.block < W.heap.size := by obtain ⟨m, hm⟩ := k1; exact DataW.trod_lt m _ _ _ hm
  clear hA0 hval0
  have hw : Calls Try.prog 6 #[.int .u8 a0, .slice a1 len1 cap1] W fun e w' => e = .returned (.bool true) ∧ Below W.heap.size W w' := by
    obtain ⟨l, hl, hc⟩ := entries_arg h1
    subst hl
    have b0 := bounds_u8 w0
    obtain ⟨y, rfl⟩ := Int.eq_ofNat_of_zero_le b0.1
    refine (graves_any _ _ _ l y (by omega) W hc).mono fun e w2 h2 => ⟨h2.1, h2.2.below (Nat.le_refl _) (fun k hk => hk.elim)⟩
  refine hw.mono fun e W' ⟨he, bel⟩ => ?_
  subst he
  exact ⟨_, rfl, _, _, _, [], _, [], hW', trodAll_mk1 (shut_bool Try.underlying4 _), (trodAll_cons_mk (shut_int Try.underlying5 w0) (trodAll_cons_mk (Below.trod laidOut (by kernel_rfl) (of_decide_eq_true (by kernel_rfl)) k1 bel lt1) trodAll_mk0)), rfl, bel.frame _, fun h => by cases h⟩

theorem holds : Rows.GravesAnySaid :=
  OpenClaim.holds_of_wide 6 Try.f6 rfl rfl rfl rfl rfl rfl rfl ⟨rfl, rfl, rfl, rfl, rfl⟩ rfl rfl rfl rfl rfl (by kernel_rfl) Try.func6 (by kernel_rfl)
    (of_decide_eq_true (by kernel_rfl)) (by unfold Func.isWrapper; first | (rw [if_pos (by decide +kernel)]; kernel_rfl) | (rw [if_neg (by decide +kernel)]; exact ⟨rfl, rfl⟩))
    (fun os started H enc _ => lifted os started H enc)
end Go.Proofs.Ytniacolkjdmflaa.grvany
namespace Go.Proofs.Ytniacolkjdmflaa
theorem gravesAny_holds : Rows.GravesAnySaid := grvany.holds
#print axioms gravesAny_holds
end Go.Proofs.Ytniacolkjdmflaa
end
