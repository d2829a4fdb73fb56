/- What ReplicaGraves comes to. No statement of the seat is proved here. -/
import Derived.Test.YtoohpcomnhfgpaaGreatGk20
import Derived.Test.YtoohpcomnhfgpaaGreatGk2
import Derived.Test.YtoohpcomnhfgpaaGreatGk1
import Derived.Test.YtoohpcomnhfgpaaGreatGk18
import Derived.Test.YtoohpcomnhfgpaaGreatGk12
import Derived.Test.YtoohpcomnhfgpaaGreatGk8
import Derived.LoopTactic
import Derived.Deep.DeepCutAuto
import Derived.Deep.CutBlock
section
namespace Go.Proofs.YtoohpcomnhfgpaaGreat
open Go.RowKit
set_option maxRecDepth 100000
set_option linter.all false
theorem st_same (c s : Int) (w : World) : (Op.equalIn 10000 80 (.agg #[.int .i64 c, .int .i64 s]) (.agg #[.int .i64 c, .int .i64 s])).run Tryz.prog w = .ok true w := by
  have := eq_api_stamp w ⟨c, s⟩ ⟨c, s⟩ 9998
  rw [(stEq_iff (⟨c, s⟩ : St) ⟨c, s⟩).2 rfl] at this
  exact this
theorem Gk.of1 {wa w1 : World} (e : En) (hs : Bool) (o : Only none_ wa w1) : Gk wa e hs (.pointer (some ⟨w1.heap.size, 0, none⟩)) (.bool hs) (w1.alloc (.cells #[.string e.k, .string e.v, .bool e.d, .int .i64 e.s.c, .int .i64 e.s.s, .int .i64 e.a.c, .int .i64 e.a.s, .int .i64 e.p, .int .i64 e.g] 82)) :=
  ⟨_, rfl, rfl, o.size, Blk.new _ _ _, o.alloc _⟩
theorem sd_field {P : Program} {ops : Array Oper} {S : World → Prop} {K : Act → Prop} {a : Act} {o : Oper} {r : List Oper} (ty : TypeId) (x : Operand) (i : Nat) (ho : o.op = .field ty x i) (v : Value) (hw : Region.wanted o (yielded ops a.tmps) = true) (hv : ∀ w, S w → (execOp a.eval o).run P w = .ok (.value v) w)
    (h : sdList P ops S K r (a.put o.dst v)) : sdList P ops S K (o :: r) a := sd_value hw hv h
theorem wpl_piece_if {P : Program} {ops : Array Oper} {rest : List Oper} {o : Oper} {a : Act} {w : World} {Q : Exit → Act → World → Prop} (hw : Region.wanted o (yielded ops a.tmps) = true) (ty : TypeId) (x : Operand) (ho : o.op = .load ty x)
    (g off : Nat) (hx : a.eval x = .pointer (some ⟨g, off, none⟩)) (cs : Array Value) (d : TypeDesc) (hc : ∀ j u, cs.toList[j]? = some u → w.cell? ⟨g, off + j, none⟩ = some u)
    (hu : P.underlying ty = some d) (hd : (match d with | .struct _ | .array _ _ => true | _ => false) = true) (hi : (P.info? ty).map (·.size) = some cs.size)
    (h : wpList P ops Q rest (a.put o.dst (.agg cs)) w) : wpList P ops Q (o :: rest) a w := by
  show (if Region.wanted o (yielded ops a.tmps) then o.wp P a w (wpList P ops Q rest) Q ∨ _ else _)
  rw [if_pos hw]
  refine .inl ?_
  unfold Oper.wp execOp
  simp only [ho, hx, Instr.loadAt, Instr.sureAddr, Sem.run_bind, Sem.run_pure, Result.andThen_ok, run_load_piece w g off ty cs d hc hu hd hi]
  exact h
def Mf (B : World) (o : Ro) (dg k : Nat) (v6 v8 : Value) (X : World) : Prop :=
  ∃ (r : Nat) (a : Ra) (s : Rs) (log : List En) (keys : List ByteArray) (Ak : Option Addr) (nk ck : Nat), v6 = .pointer (some ⟨r, 0, none⟩) ∧ v8 = .slice Ak nk ck ∧ Rq B o dg a s log r (k + 1) X ∧ Ks B a (.slice Ak nk ck) keys X ∧ Kn keys log s ∧ Gi s ∧ keys.length ≤ k + 1
structure G2 (B : World) (o : Ro) (dg : Nat) (a : Ra) (s : Rs) (log : List En) (keys : List ByteArray) (r k m n1 n2 : Nat) (p : Pa) (vk vg : Value) (ov : En) (X : World) : Prop where
  fr : Rq B o dg a s log r m X
  fk : Ks B a vk keys X
  fp : Bn a n1 52 (paA p) X
  fo : Bn a n2 82 #[.string ov.k, .string ov.v, .bool ov.d, .int .i64 ov.s.c, .int .i64 ov.s.s, .int .i64 ov.a.c, .int .i64 ov.a.s, .int .i64 ov.p, .int .i64 ov.g] X
  fg : X.ownsRow (n2 + 1) 82 9 vg k (s.gr.flatMap enRow)
section
variable {B : World} {o : Ro} {dg : Nat} {a : Ra} {s : Rs} {log : List En} {keys : List ByteArray} {r k m n1 n2 : Nat} {p : Pa} {vk vg : Value} {ov x : En} {X X' : World}
theorem G2.keep (h : G2 B o dg a s log keys r k m n1 n2 p vk vg ov X) (ho : Only none_ X X') : G2 B o dg a s log keys r k m n1 n2 p vk vg ov X' :=
  ⟨h.fr.keep ho, h.fk.keep ho, h.fp.keep ho, h.fo.keep ho, owns_only h.fg ho (fun _ _ hf => hf)⟩
theorem G2.set (h : G2 B o dg a s log keys r k m n1 n2 p vk vg ov X) (hB : B.heap.size ≤ n2) (hn : n1 ≠ n2) : G2 B o dg a s log keys r k m n1 n2 p vk vg x (X.setRow n2 #[.string x.k, .string x.v, .bool x.d, .int .i64 x.s.c, .int .i64 x.s.s, .int .i64 x.a.c, .int .i64 x.a.s, .int .i64 x.p, .int .i64 x.g]) :=
  ⟨h.fr.box h.fo hB (only_rowP _ _ #[.string x.k, .string x.v, .bool x.d, .int .i64 x.s.c, .int .i64 x.s.s, .int .i64 x.a.c, .int .i64 x.a.s, .int .i64 x.p, .int .i64 x.g]), h.fk.box h.fo.b (by decide) (only_rowP _ _ #[.string x.k, .string x.v, .bool x.d, .int .i64 x.s.c, .int .i64 x.s.s, .int .i64 x.a.c, .int .i64 x.a.s, .int .i64 x.p, .int .i64 x.g]), h.fp.box hn (only_rowP _ _ #[.string x.k, .string x.v, .bool x.d, .int .i64 x.s.c, .int .i64 x.s.s, .int .i64 x.a.c, .int .i64 x.a.s, .int .i64 x.p, .int .i64 x.g]), ⟨h.fo.b.setRow #[.string x.k, .string x.v, .bool x.d, .int .i64 x.s.c, .int .i64 x.s.s, .int .i64 x.a.c, .int .i64 x.a.s, .int .i64 x.p, .int .i64 x.g], h.fo.n⟩,
    owns_only h.fg (only_rowP _ _ #[.string x.k, .string x.v, .bool x.d, .int .i64 x.s.c, .int .i64 x.s.s, .int .i64 x.a.c, .int .i64 x.a.s, .int .i64 x.p, .int .i64 x.g]) (fun b hb hf => by have h1 := (h.fg.lt b hb).1; have h2 : b = n2 := hf; omega)⟩
end
set_option maxHeartbeats 102400000 in
theorem rp_gravesL (o : Ro) (v : Value) (l : List Pa) (S : Nat → Prop) (w : World) (hx : Cel w S v l.length 12 (l.flatMap paRow)) :
    Calls Tryz.prog 8 #[.agg #[.int .i64 o.n, .int .i64 o.q, .int .i64 o.r, .int .i64 o.t1, .int .i64 o.t2], v] w fun E w' => E = .returned (.bool true) ∧ Only none_ w w' := by
  have HSP := Lib.hid (fun (X : World) => rp_speaks X)
  have HFW : Hid (∀ X, Only none_ w X → Calls Tryz.prog 13 #[v, .int .i64 50] X fun E w' => E = .returned (.bool (l.all paShort && decide (l.length ≤ 50))) ∧ Only none_ X w') :=
    fun X ho => rp_few v l 50 X S (hx.only ho (fun _ _ h => h))
  have HCK := Lib.hid (fun (X : World) => rd_check o X)
  have BX := Lib.hid (Blk.new w 23 #[.int .i64 o.n, .int .i64 o.q, .int .i64 o.r, .int .i64 o.t1, .int .i64 o.t2])
  have O0 := Lib.hid ((Only.refl none_ w).alloc (.cells #[.int .i64 o.n, .int .i64 o.q, .int .i64 o.r, .int .i64 o.t1, .int .i64 o.t2] 23))
  obtain ⟨A, c, rfl, _, h2, h3, _, _⟩ := id hx
  have HX := Lib.hid hx
  obtain ⟨L, hL⟩ : ∃ L, l.length = L := ⟨_, rfl⟩
  have HL := Lib.hid hL
  rw [hL] at HX HFW h2 ⊢
  have hLm : L ≤ 9223372036854775807 := by simp only [maxLen] at h3; omega
  obtain ⟨fw, hfw⟩ : ∃ fw, (l.all paShort && decide (L ≤ 50)) = fw := ⟨_, rfl⟩
  have hL50 : fw = true → L ≤ 50 := by intro e; rw [e] at hfw; simp at hfw; exact hfw.2
  rw [hfw] at HFW
  clear hx hL h2 h3 hfw
  cases fw with
  | false =>
    as_aux_lemma =>
      clear HX HL HCK BX hL50
      go_enter Tryz.func8, Tryz.ntmps8
      have tok1 : True := trivial
      go_wp2_with (first
        | (go_at_call 12; have _t := tok1; clear tok1; refine (HSP.out _).mono ?_; rintro E w1 ⟨rfl, o1⟩; have O1 := Lib.hid (O0.out.trans o1); clear o1; have tok2 : True := trivial)
        | (go_at_call 13; refine (HFW.out _ O1.out).mono ?_; rintro E w2 ⟨rfl, o2⟩; have O2 := Lib.hid (O1.out.trans o2); clear o2)
        | (go_at_call 12; have _t := tok2; clear tok2; refine (HSP.out _).mono ?_; rintro E w9 ⟨rfl, o9⟩; have O9 := Lib.hid (O2.out.trans o9); clear o9))
      go_ret
      exact ⟨rfl, O9.out⟩
  | true =>
    have hL50' := hL50 rfl
    clear hL50
    obtain ⟨ck, hck⟩ : ∃ ck, roCheck o = ck := ⟨_, rfl⟩
    rw [hck] at HCK
    by_cases hc0 : ck = 0
    rotate_left
    · have hcb : (ck != 0) = true := by simpa using hc0
      as_aux_lemma =>
        clear hck hc0 HX HL
        go_enter Tryz.func8, Tryz.ntmps8
        have tok1 : True := trivial
        go_wp2_with (first
          | (go_at_call 12; have _t := tok1; clear tok1; refine (HSP.out _).mono ?_; rintro E w1 ⟨rfl, o1⟩; have P1 := Lib.hid o1; have O1 := Lib.hid (O0.out.trans o1); clear o1; have tok2 : True := trivial)
          | (go_at_call 13; refine (HFW.out _ O1.out).mono ?_; rintro E w2 ⟨rfl, o2⟩; have P2 := Lib.hid o2; have O2 := Lib.hid (O1.out.trans o2); clear o2)
          | (refine wpl_load_if (by rfl) 23 _ rfl w.heap.size rfl 23 #[.int .i64 o.n, .int .i64 o.q, .int .i64 o.r, .int .i64 o.t1, .int .i64 o.t2] _ (by first | exact BX.out.only (Only.trans P1.out P2.out) (fun h => h)) Tryz.underlying23 rfl (by kernel_rfl) ?_)
          | (go_at_call 19; refine (HCK.out _).mono ?_; rintro E w3 ⟨rfl, o3⟩; have O3 := Lib.hid (O2.out.trans o3); clear o3)
          | (go_at_call 12; have _t := tok2; clear tok2; refine (HSP.out _).mono ?_; rintro E w9 ⟨rfl, o9⟩; have O9 := Lib.hid (O3.out.trans o9); clear o9))
        go_ret
        exact ⟨rfl, O9.out⟩
    subst hc0
    have hob : roBad o = false := by
      unfold roCheck at hck
      split at hck
      · cases hck
      · next h => simpa using h
    have HOB := Lib.hid hob
    have HDN := Lib.hid (fun (B X : World) (ho : Only none_ B X) => disk_new B X ho)
    have HRO := Lib.hid (fun (X : World) => rp_of o X)
    have HRM := Lib.hid (fun (X : World) => rd_room o X (by have := ro_room hob; omega))
    clear hck
    go_enter Tryz.func8, Tryz.ntmps8
    go_upto_region 1 with fail
    obtain ⟨B, hB⟩ : ∃ B, w.alloc (.cells #[.int .i64 o.n, .int .i64 o.q, .int .i64 o.r, .int .i64 o.t1, .int .i64 o.t2] 23) = B := ⟨_, rfl⟩
    rw [hB] at BX O0 ⊢
    clear hB
    generalize hg2 : w.heap.size = g2 at *
    have tok1 : True := trivial
    go_upto_region 8 with (first
      | (go_at_call 12; refine (HSP.out _).mono ?_; rintro E w1 ⟨rfl, o1⟩; have P1 := Lib.hid o1; clear o1)
      | (go_at_call 13; refine (HFW.out _ (O0.out.trans P1.out)).mono ?_; rintro E w2 ⟨rfl, o2⟩; have P2 := Lib.hid (P1.out.trans o2); have B2 := Lib.hid (BX.out.only P2.out (fun h => h)); clear o2)
      | (refine wpl_load_if (by rfl) 23 _ rfl g2 rfl 23 #[.int .i64 o.n, .int .i64 o.q, .int .i64 o.r, .int .i64 o.t1, .int .i64 o.t2] _ B2.out Tryz.underlying23 rfl (by kernel_rfl) ?_)
      | (go_at_call 19; refine (HCK.out _).mono ?_; rintro E w3 ⟨rfl, o3⟩; have P3 := Lib.hid (P2.out.trans o3); clear o3)
      | (go_at_call 14; refine (HDN.out B _ P3.out).mono ?_; rintro E w4 ⟨dg, rfl, hdg, hd, o4⟩
         have P4 := Lib.hid (P3.out.trans o4)
         have B4 := Lib.hid (BX.out.only P4.out (fun h => h))
         have D4 := Lib.hid hd
         clear hdg hd o4)
      | (refine wpl_load rfl 23 _ rfl g2 rfl 23 #[.int .i64 o.n, .int .i64 o.q, .int .i64 o.r, .int .i64 o.t1, .int .i64 o.t2] _ B4.out Tryz.underlying23 rfl (by kernel_rfl) ?_)
      | (go_at_call 16; refine (HRO.out _).mono ?_; rintro E w5 ⟨rfl, o5⟩
         have D5 := Lib.hid (D4.out.keep o5)
         clear o5)
      | (go_at_call 15; refine (rq_first HOB.out D5.out).mono ?_; rintro E w6 ⟨a0, r0, rfl, q6, _, _⟩
         have Q6 := Lib.hid q6
         clear q6))
    clear P1 P2 B2 P3 P4 B4 D4 D5 HFW HCK HDN
    have BO : Hid (∀ X, Only none_ B X → Blk X g2 23 #[.int .i64 o.n, .int .i64 o.q, .int .i64 o.r, .int .i64 o.t1, .int .i64 o.t2]) := fun X ho => BX.out.only ho (fun h => h)
    clear BX
    go_wp2_with fail
    go_loopw [6, 8, 55] (fun v6 v8 i X => ∃ (k r : Nat) (a : Ra) (s : Rs) (log : List En) (keys : List ByteArray) (Ak : Option Addr) (nk ck : Nat), k ≤ L ∧ i = .int .i64 (k : Int) ∧ v6 = .pointer (some ⟨r, 0, none⟩) ∧ v8 = .slice Ak nk ck ∧ Rq B o dg a s log r k X ∧ Ks B a (.slice Ak nk ck) keys X ∧ Kn keys log s ∧ Gi s ∧ keys.length ≤ k) (fun _ _ i _ => L - (intOf i).toNat)
    case atStart => exact ⟨0, r0, a0, _, [], [], none, 0, 0, Nat.zero_le _, rfl, rfl, rfl, Q6.out, Ks.nil _ _ _, ⟨fun e he => (by cases he), fun e he => (by cases he)⟩, (fun g hg => by cases hg), Nat.le_refl _⟩
    obtain ⟨k, r, a, s, log, keys, Ak, nk, ck, hk, rfl, rfl, rfl, hq, hks, hkn, hgi, hkl⟩ := hrel
    have HQ := Lib.hid hq
    have HKS := Lib.hid hks
    have HKN := Lib.hid hkn
    have HGI := Lib.hid hgi
    clear hq hks hkn hgi Q6
    by_cases hlt : k < L
    rotate_left
    · obtain rfl : k = L := by omega
      as_aux_lemma =>
        have P9 := Lib.hid (O0.out.trans HQ.out.p.ho)
        go_wp2_with fail
        go_ret
        exact ⟨rfl, P9.out⟩
    obtain ⟨p, hp⟩ : ∃ p, l[k]? = some p := ⟨l[k]'(by have := HL.out; omega), List.getElem?_eq_getElem _⟩
    obtain ⟨b, off, hA, _, hbb, hc⟩ := in_elem paRow_length (by decide) HX.out HL.out hp
    subst hA
    have HC : Hid (∀ j u, (paA p).toList[j]? = some u → wr.cell? ⟨b, off + k * 12 + j, none⟩ = some u) := fun j u hu => hc _ (O0.out.trans HQ.out.p.ho) j u hu
    have hki : (k : Int) < (L : Int) := by omega
    clear hc hp hbb
    go_upto_region 12 with (first
      | (refine wpl_piece rfl 52 _ rfl b (off + k * 12) rfl (paA p) _ HC.out Tryz.underlying52 rfl (by kernel_rfl) ?_)
      | (refine wpl_new rfl rfl 52 rfl _ _ rfl (paA p) rfl rfl (by kernel_rfl) (pa_one p) ?_)
      | (refine wpl_new rfl rfl 82 rfl _ _ rfl #[.string ⟨#[]⟩, .string ⟨#[]⟩, .bool false, .int .i64 0, .int .i64 0, .int .i64 0, .int .i64 0, .int .i64 0, .int .i64 0] rfl rfl (by kernel_rfl) (en_cells_one enZero) ?_))
    try simp only [Act.put, List.setIfInBounds_toArray, List.set_cons_succ, List.set_cons_zero, World.size_alloc]
    have oa := (Only.refl none_ wr).alloc (.cells (paA p) 52)
    have ob := (Only.refl none_ (wr.alloc (.cells (paA p) 52))).alloc (.cells #[.string ⟨#[]⟩, .string ⟨#[]⟩, .bool false, .int .i64 0, .int .i64 0, .int .i64 0, .int .i64 0, .int .i64 0, .int .i64 0] 82)
    have R1 := Lib.hid ((HQ.out.keep oa).keep ob)
    have K1 := Lib.hid ((HKS.out.keep oa).keep ob)
    have A1 : Hid (Bn a wr.heap.size 52 (paA p) ((wr.alloc (.cells (paA p) 52)).alloc (.cells #[.string ⟨#[]⟩, .string ⟨#[]⟩, .bool false, .int .i64 0, .int .i64 0, .int .i64 0, .int .i64 0, .int .i64 0, .int .i64 0] 82))) := (Bn.new HQ.out.p).keep ob
    have T1 : Hid (Bn a (wr.heap.size + 1) 82 #[.string enZero.k, .string enZero.v, .bool enZero.d, .int .i64 enZero.s.c, .int .i64 enZero.s.s, .int .i64 enZero.a.c, .int .i64 enZero.a.s, .int .i64 enZero.p, .int .i64 enZero.g] ((wr.alloc (.cells (paA p) 52)).alloc (.cells #[.string ⟨#[]⟩, .string ⟨#[]⟩, .bool false, .int .i64 0, .int .i64 0, .int .i64 0, .int .i64 0, .int .i64 0, .int .i64 0] 82))) := by
      have := Bn.new (t := 82) (cs := #[.string ⟨#[]⟩, .string ⟨#[]⟩, .bool false, .int .i64 0, .int .i64 0, .int .i64 0, .int .i64 0, .int .i64 0, .int .i64 0]) (HQ.out.keep oa).p
      rwa [World.size_alloc] at this
    have hn1 : Hid (B.heap.size ≤ wr.heap.size ∧ wr.heap.size ≠ wr.heap.size + 1) := ⟨HQ.out.p.ho.size, by omega⟩
    generalize (wr.alloc (.cells (paA p) 52)).alloc _ = W1 at *
    generalize hn2 : wr.heap.size + 1 = n2 at *
    generalize wr.heap.size = n1 at *
    have hB2 : Hid (B.heap.size ≤ n2) := by have := hn1.out.1; simp only [Hid]; omega
    clear oa ob HQ HKS HC hn2
    have hm60 : k ≤ 60 := by omega
    obtain ⟨pk, pu, pv, pe⟩ := p
    have HGV : Hid (Calls Tryz.prog 50 #[.pointer (some ⟨r, 0, none⟩)] W1 fun E w' => ∃ v', E = .returned v' ∧ w'.ownsRow W1.heap.size 82 9 v' s.gr.length (s.gr.flatMap enRow) ∧ Only none_ W1 w') := by
      have := rp_graves B a s W1 R1.out.p
      rwa [R1.out.hr] at this
    obtain ⟨G, hG⟩ : ∃ G, s.gr.length = G := ⟨_, rfl⟩
    rw [hG] at HGV
    have HG := Lib.hid hG
    have HGm : Hid (G ≤ 60) := by have h1 := R1.out.wf.gl; have h2 := R1.out.n; simp only [Hid]; omega
    clear hG
    go_wp2_with (first
      | (go_at_call 50; refine HGV.out.mono ?_; rintro E w2 ⟨vg, rfl, own2, o2⟩
         obtain ⟨Ag, ng, cg, rfl⟩ := own_shape own2
         obtain rfl := own_count own2
         have Y2 : Hid (G2 B o dg a s log keys r ng k n1 n2 ⟨pk, pu, pv, pe⟩ (.slice Ak nk ck) (.slice Ag ng cg) enZero w2) := ⟨R1.out.keep o2, K1.out.keep o2, A1.out.keep o2, T1.out.keep o2, ⟨own2.1, by
           rcases own2.2 with h | ⟨g, cap, cur, h1, h2, h3⟩
           · exact .inl h
           · exact .inr ⟨g, cap, cur, h1, Nat.le_trans (by have := T1.out.b.lt; omega) h2, h3⟩⟩⟩
         clear own2 o2))
    clear HGV R1 K1 A1 T1
    go_loopw [63] (fun i X => ∃ (j : Nat) (ov : En), j ≤ ng ∧ i = .int .i64 (j : Int) ∧ Ovr (s.gr.take j) pe.k ov ∧ G2 B o dg a s log keys r ng k n1 n2 ⟨pk, pu, pv, pe⟩ (.slice Ak nk ck) (.slice Ag ng cg) ov X) (fun i _ => ng - (intOf i).toNat)
    case atStart => exact ⟨0, enZero, Nat.zero_le _, rfl, Ovr.nil _, Y2.out⟩
    obtain ⟨j, ov, hj, rfl, hov, hY⟩ := hrel
    have Y3 := Lib.hid hY
    have HOV := Lib.hid hov
    clear hY hov Y2
    by_cases hjl : j < ng
    · skip
      as_aux_lemma =>
        obtain ⟨x, hx⟩ : ∃ x, s.gr[j]? = some x := ⟨s.gr[j]'(by have := HG.out; omega), List.getElem?_eq_getElem _⟩
        obtain ⟨b2, off2, hA, _, _, hc⟩ := in_elem enRow_length (by decide) (Cel.of_own Y3.out.fg) HG.out hx
        subst hA
        have HTK : Hid (s.gr.take (j + 1) = s.gr.take j ++ [x]) := by
          obtain ⟨h1, h2⟩ := List.getElem?_eq_some_iff.1 hx
          rw [Hid, List.take_succ_eq_append_getElem h1, h2]
        have HCW : Hid (∀ i u, (#[.string x.k, .string x.v, .bool x.d, .int .i64 x.s.c, .int .i64 x.s.s, .int .i64 x.a.c, .int .i64 x.a.s, .int .i64 x.p, .int .i64 x.g] : Array Value).toList[i]? = some u → wr.cell? ⟨b2, off2 + j * 9 + i, none⟩ = some u) := fun i u hu => hc wr (Only.refl none_ wr) i u hu
        have oc := (Only.refl none_ wr).alloc (.cells #[.string x.k, .string x.v, .bool x.d, .int .i64 x.s.c, .int .i64 x.s.s, .int .i64 x.a.c, .int .i64 x.a.s, .int .i64 x.p, .int .i64 x.g] 82)
        have Y4 := Lib.hid (Y3.out.keep oc)
        have X4 := Lib.hid (Blk.new wr 82 #[.string x.k, .string x.v, .bool x.d, .int .i64 x.s.c, .int .i64 x.s.s, .int .i64 x.a.c, .int .i64 x.a.s, .int .i64 x.p, .int .i64 x.g])
        have hjI : (j : Int) < (ng : Int) := by omega
        have hng : (ng : Int) ≤ 60 := by have := HGm.out; omega
        have f0 := X4.out.cell_ (i := 0) rfl
        have f1 := Y4.out.fp.b.cell_ (i := 3) rfl
        try dsimp only at f0 f1
        clear hx hc oc
        by_cases hkk : x.k = pe.k
        · have hkb : (x.k.toList == pe.k.toList) = true := by rw [hkk]; exact beq_self_eq_true _
          have HO2 : Hid (Ovr (s.gr.take (j + 1)) pe.k x) := by rw [Hid, HTK.out]; exact Ovr.hit hkk
          clear hkk HTK
          go_wp2_with (first
            | (with_reducible refine wpl_piece rfl 82 _ rfl b2 (off2 + j * 9) rfl #[.string x.k, .string x.v, .bool x.d, .int .i64 x.s.c, .int .i64 x.s.s, .int .i64 x.a.c, .int .i64 x.a.s, .int .i64 x.p, .int .i64 x.g] _ HCW.out Tryz.underlying82 rfl (by kernel_rfl) ?_)
            | (with_reducible refine wpl_new rfl rfl 82 rfl _ _ rfl #[.string x.k, .string x.v, .bool x.d, .int .i64 x.s.c, .int .i64 x.s.s, .int .i64 x.a.c, .int .i64 x.a.s, .int .i64 x.p, .int .i64 x.g] rfl rfl (by kernel_rfl) (en_cells_one x) ?_)
            | (with_reducible refine wpl_load rfl 82 _ rfl wr.heap.size rfl 82 #[.string x.k, .string x.v, .bool x.d, .int .i64 x.s.c, .int .i64 x.s.s, .int .i64 x.a.c, .int .i64 x.a.s, .int .i64 x.p, .int .i64 x.g] _ X4.out Tryz.underlying82 rfl (by kernel_rfl) ?_)
            | (refine wpList_store_row rfl 82 _ _ rfl n2 #[.string x.k, .string x.v, .bool x.d, .int .i64 x.s.c, .int .i64 x.s.s, .int .i64 x.a.c, .int .i64 x.a.s, .int .i64 x.p, .int .i64 x.g] rfl rfl 82 _ Y4.out.fo.b (by kernel_rfl) rfl (en_cells_one x) ?_
               have Y5 := Lib.hid (Y4.out.set (x := x) hB2.out hn1.out.2)))
          go_roundw
          case rel => exact ⟨j + 1, x, by omega, by go_num, HO2.out, Y5.out⟩
          case measure => simp [intOf]; omega
        · have hkb : (x.k.toList == pe.k.toList) = false := by
            cases hq : (x.k.toList == pe.k.toList) with
            | false => rfl
            | true => exact absurd (str_eq.1 hq) hkk
          have HO2 : Hid (Ovr (s.gr.take (j + 1)) pe.k ov) := by rw [Hid, HTK.out]; exact HOV.out.miss hkk
          clear hkk HTK
          go_wp2_with (first
            | (with_reducible refine wpl_piece rfl 82 _ rfl b2 (off2 + j * 9) rfl #[.string x.k, .string x.v, .bool x.d, .int .i64 x.s.c, .int .i64 x.s.s, .int .i64 x.a.c, .int .i64 x.a.s, .int .i64 x.p, .int .i64 x.g] _ HCW.out Tryz.underlying82 rfl (by kernel_rfl) ?_)
            | (with_reducible refine wpl_new rfl rfl 82 rfl _ _ rfl #[.string x.k, .string x.v, .bool x.d, .int .i64 x.s.c, .int .i64 x.s.s, .int .i64 x.a.c, .int .i64 x.a.s, .int .i64 x.p, .int .i64 x.g] rfl rfl (by kernel_rfl) (en_cells_one x) ?_))
          go_roundw
          case rel => exact ⟨j + 1, ov, by omega, by go_num, HO2.out, Y4.out⟩
          case measure => simp [intOf]; omega
    obtain rfl : j = ng := by omega
    have R1 := Lib.hid Y3.out.fr
    have K1 := Lib.hid Y3.out.fk
    have A1 := Lib.hid Y3.out.fp
    have T1 := Lib.hid Y3.out.fo
    have HOV2 : Hid (Ovr s.gr pe.k ov) := by
      have := HOV.out
      rwa [List.take_of_length_le (by have := HG.out; omega)] at this
    clear Y3 HOV HG HGm hj hjl
    have q0 := A1.out.b.cell_ (i := 0) rfl
    have q1 := A1.out.b.cell_ (i := 1) rfl
    have q2 := A1.out.b.cell_ (i := 2) rfl
    have q3 := A1.out.b.cell_ (i := 3) rfl
    try dsimp only at q0 q1 q2 q3
    go_upto_block 4 with fail
    go_cut [6, 8] (fun v6 v8 X => Mf B o dg k v6 v8 X)
    case rest =>
      obtain ⟨r2, a2, s2, log2, keys2, Ak2, nk2, ck2, rfl, rfl, hR2, hK2, hKN2, hGI2, hkl2⟩ := hcut
      have R2 := Lib.hid hR2
      have K2 := Lib.hid hK2
      have HKN2 := Lib.hid hKN2
      have HGI2 := Lib.hid hGI2
      clear hR2 hK2 hKN2 hGI2 R1 K1 A1 T1 HKN HGI HOV2 q0 q1 q2 q3
      have HGV : Hid (Calls Tryz.prog 50 #[.pointer (some ⟨r2, 0, none⟩)] wc fun E w' => ∃ v', E = .returned v' ∧ w'.ownsRow wc.heap.size 82 9 v' s2.gr.length (s2.gr.flatMap enRow) ∧ Only none_ wc w') := by
        have := rp_graves B a2 s2 wc R2.out.p
        rwa [R2.out.hr] at this
      obtain ⟨G, hG⟩ : ∃ G, s2.gr.length = G := ⟨_, rfl⟩
      rw [hG] at HGV
      have HG := Lib.hid hG
      have HGm : Hid (G ≤ 60) := by have h1 := R2.out.wf.gl; have h2 := R2.out.n; simp only [Hid]; omega
      clear hG
      go_wp2_with (first
        | (go_at_call 50; refine HGV.out.mono ?_; rintro E w2 ⟨vg, rfl, own2, o2⟩
           obtain ⟨Ag2, ng2, cg2, rfl⟩ := own_shape own2
           obtain rfl := own_count own2
           have CG := Lib.hid (Cel.of_own own2)
           have R3 := Lib.hid (R2.out.keep o2)
           have K3 := Lib.hid (K2.out.keep o2)
           clear own2 o2))
      clear HGV R2 K2
      go_loopw [191] (fun i X => ∃ j : Nat, j ≤ ng2 ∧ i = .int .i64 (j : Int) ∧ Only none_ w2 X) (fun i _ => ng2 - (intOf i).toNat)
      case atStart => exact ⟨0, Nat.zero_le _, rfl, Only.refl _ _⟩
      case round =>
        obtain ⟨j, hj, rfl, ho⟩ := hrel
        have OJ := Lib.hid ho
        clear ho
        by_cases hjl : j < ng2
        · obtain ⟨x, hx⟩ : ∃ x, s2.gr[j]? = some x := ⟨s2.gr[j]'(by have := HG.out; omega), List.getElem?_eq_getElem _⟩
          have hxm : x ∈ s2.gr := List.mem_of_getElem? hx
          obtain ⟨b2, off2, hA, _, _, hc⟩ := in_elem enRow_length (by decide) CG.out HG.out hx
          subst hA
          have HCW : Hid (∀ i u, (#[.string x.k, .string x.v, .bool x.d, .int .i64 x.s.c, .int .i64 x.s.s, .int .i64 x.a.c, .int .i64 x.a.s, .int .i64 x.p, .int .i64 x.g] : Array Value).toList[i]? = some u → wr.cell? ⟨b2, off2 + j * 9 + i, none⟩ = some u) := fun i u hu => hc wr OJ.out i u hu
          have X4 := Lib.hid (Blk.new wr 82 #[.string x.k, .string x.v, .bool x.d, .int .i64 x.s.c, .int .i64 x.s.s, .int .i64 x.a.c, .int .i64 x.a.s, .int .i64 x.p, .int .i64 x.g])
          have hjI : (j : Int) < (ng2 : Int) := by omega
          have hng : (ng2 : Int) ≤ 60 := by have := HGm.out; omega
          have R4 := Lib.hid (R3.out.keep (OJ.out.alloc (.cells #[.string x.k, .string x.v, .bool x.d, .int .i64 x.s.c, .int .i64 x.s.s, .int .i64 x.a.c, .int .i64 x.a.s, .int .i64 x.p, .int .i64 x.g] 82)))
          have O4 := Lib.hid (OJ.out.alloc (.cells #[.string x.k, .string x.v, .bool x.d, .int .i64 x.s.c, .int .i64 x.s.s, .int .i64 x.a.c, .int .i64 x.a.s, .int .i64 x.p, .int .i64 x.g] 82))
          have hsafe := look_grave HGI2.out hxm
          obtain ⟨e, he⟩ : ∃ e, (lookE s2.tab x.k).getD enZero = e := ⟨_, rfl⟩
          obtain ⟨hs, hhs⟩ : ∃ hs, hasE s2.tab x.k = hs := ⟨_, rfl⟩
          rw [he, hhs] at hsafe
          have HSF := Lib.hid hsafe
          have HE1 : Hid (∀ X, Only none_ (wr.alloc (.cells #[.string x.k, .string x.v, .bool x.d, .int .i64 x.s.c, .int .i64 x.s.s, .int .i64 x.a.c, .int .i64 x.a.s, .int .i64 x.p, .int .i64 x.g] 82)) X → Calls Tryz.prog 24 #[.pointer (some ⟨r2, 6, none⟩), .string x.k] X fun E w' => E = .returned (.tuple #[.agg #[.string e.k, .string e.v, .bool e.d, .int .i64 e.s.c, .int .i64 e.s.s, .int .i64 e.a.c, .int .i64 e.a.s, .int .i64 e.p, .int .i64 e.g], .bool hs]) ∧ Only none_ X w') := by
            intro X oX
            have := ct_entry B a2 s2 x.k X (R4.out.p.keep oX)
            rwa [he, hhs, R4.out.hr] at this
          clear hx hc hsafe he hhs hxm
          obtain ⟨xk, xv, xd, ⟨xsc, xss⟩, ⟨xac, xas⟩, xp, xg⟩ := x
          obtain ⟨ek, ev, ed, ⟨esc, ess⟩, ⟨eac, eas⟩, ep, eg⟩ := e
          go_upto_region 42 with (first
            | (with_reducible refine wpl_piece rfl 82 _ rfl b2 (off2 + j * 9) rfl #[.string xk, .string xv, .bool xd, .int .i64 xsc, .int .i64 xss, .int .i64 xac, .int .i64 xas, .int .i64 xp, .int .i64 xg] _ HCW.out Tryz.underlying82 rfl (by kernel_rfl) ?_)
            | (with_reducible refine wpl_new rfl rfl 82 rfl _ _ rfl #[.string xk, .string xv, .bool xd, .int .i64 xsc, .int .i64 xss, .int .i64 xac, .int .i64 xas, .int .i64 xp, .int .i64 xg] rfl rfl (by kernel_rfl) (en_cells_one ⟨xk, xv, xd, ⟨xsc, xss⟩, ⟨xac, xas⟩, xp, xg⟩) ?_))
          try simp only [Act.put, List.setIfInBounds_toArray, List.set_cons_succ, List.set_cons_zero, World.size_alloc]
          try dsimp only at X4 R4 O4 HE1 HCW HSF
          generalize wr.alloc (.cells #[.string xk, .string xv, .bool xd, .int .i64 xsc, .int .i64 xss, .int .i64 xac, .int .i64 xas, .int .i64 xp, .int .i64 xg] 82) = W4 at *
          generalize wr.heap.size = n23 at *
          go_cut [24, 25] (fun s5 s6 w' => Gk W4 ⟨ek, ev, ed, ⟨esc, ess⟩, ⟨eac, eas⟩, ep, eg⟩ hs s5 s6 w')
          case first =>
            have q0 := (Blk.drew X4.out).cell_ (i := 0) rfl
            have u0 := (Blk.drew (X4.out.alloc (.cells #[.string ⟨#[]⟩, .string ⟨#[]⟩, .bool false, .int .i64 0, .int .i64 0, .int .i64 0, .int .i64 0, .int .i64 0, .int .i64 0] 82))).cell_ (i := 0) rfl
            have BN := Lib.hid (Blk.drew (Blk.new W4 82 #[.string ⟨#[]⟩, .string ⟨#[]⟩, .bool false, .int .i64 0, .int .i64 0, .int .i64 0, .int .i64 0, .int .i64 0, .int .i64 0]))
            go_region_law (first
              | (refine Se.step_call (by simp [Region.wanted]) 24 #[.pointer (some ⟨r2, 6, none⟩), .string xk] (by go_simp; try (with_reducible rfl)) ?_
                 refine (HE1.out _ (by first | exact (Only.refl none_ W4).drew | exact ((Only.refl none_ W4).alloc _).drew)).mono ?_
                 rintro E w1 ⟨rfl, o1⟩
                 refine ⟨_, rfl, ?_⟩
                 have O1 : Hid (Only none_ W4 w1) := by first | exact ((Only.refl none_ W4).drew).trans o1 | exact (((Only.refl none_ W4).alloc _).drew).trans o1
                 try (have B1 := Lib.hid (BN.out.only o1 (fun h => h)); have q1 := nine_of B1.out; have z1 := frozen9 B1.out)
                 have B2 := Lib.hid (Blk.new w1 82 #[.string ⟨#[]⟩, .string ⟨#[]⟩, .bool false, .int .i64 0, .int .i64 0, .int .i64 0, .int .i64 0, .int .i64 0, .int .i64 0])
                 have q2 := nine_of B2.out
                 have z2 := frozen9 B2.out
                 clear o1))
            all_goals go_wp2_with fail
            all_goals go_meet
            all_goals first
              | with_reducible exact Gk.of1 _ hs O1.out
              | exact Gk.of (x := enZero) (e := ⟨ek, ev, ed, ⟨esc, ess⟩, ⟨eac, eas⟩, ep, eg⟩) O1.out B1.out (Nat.le_refl _)
              | exact Gk.of (x := enZero) (e := ⟨ek, ev, ed, ⟨esc, ess⟩, ⟨eac, eas⟩, ep, eg⟩) (O1.out.alloc _) B2.out O1.out.size
          case rest =>
            obtain ⟨b1, rfl, rfl, hb1, hC6, o6⟩ := hcut
            obtain ⟨wd, hwd⟩ : ∃ X, X = wc := ⟨_, rfl⟩
            subst hwd
            have C6 := Lib.hid hC6
            have B6 := Lib.hid (X4.out.only o6 (fun h => h))
            have O6 := Lib.hid (O4.out.trans o6)
            clear hb1 hC6 o6 HE1 X4
            go_upto_region 43 with fail
            cases hs with
            | false =>
              (refine wp_region_steady (fun X => Only none_ wd X) 10 (by kernel_rfl) (by kernel_rfl) ((Only.refl none_ wd).drew) ?_; simp only [List.take_succ_cons, List.take_zero, List.drop_succ_cons, List.drop_zero])
              repeat (first
                | (refine sd_value (v := ?_) (by rfl) (fun w0 hS => ?_) ?_; rotate_left; (· (skip; go_simp; try (with_reducible rfl))); try simp only [Act.put, List.setIfInBounds_toArray, List.set_cons_zero, List.set_cons_succ])
                | (refine sd_skip (by rfl) ?_; try simp only [Act.put, List.setIfInBounds_toArray, List.set_cons_zero, List.set_cons_succ]))
              refine sd_nil ?_
              intro w10 t10
              have O10 := Lib.hid (O6.out.trans t10)
              clear t10
              go_wp2_with fail
              go_roundw
              case rel => exact ⟨j + 1, by omega, by go_num, O10.out⟩
              case measure => simp [intOf]; omega
            | true =>
              have hlt3 : stLater ⟨xsc, xss⟩ ⟨esc, ess⟩ = false := HSF.out rfl
              have HLR : Hid (∀ X, Calls Tryz.prog 51 #[.agg #[.int .i64 xsc, .int .i64 xss], .agg #[.int .i64 esc, .int .i64 ess]] X fun E w' => E = .returned (.bool false) ∧ Only none_ X w') := fun X => by
                have := rf_later xsc xss esc ess X
                rwa [hlt3] at this
              clear hlt3 HSF
              (refine wp_region_steady (fun X => Only none_ wd X) 10 (by kernel_rfl) (by kernel_rfl) ((Only.refl none_ wd).drew) ?_; simp only [List.take_succ_cons, List.take_zero, List.drop_succ_cons, List.drop_zero])
              repeat (first
                | (refine sd_value (v := ?_) (by rfl) (fun w0 hS => ?_) ?_; rotate_left; (· (have oo := nine_of (B6.out.only hS (fun h => h)); have pp := nine_of (C6.out.only hS (fun h => h)); go_simp; try (with_reducible rfl))); try simp only [Act.put, List.setIfInBounds_toArray, List.set_cons_zero, List.set_cons_succ])
                | (refine sd_call (v := ?_) (f := 26) (args := ?_) (by rfl) (fun w0 hS => ?_) (fun w0 hS => ?_) ?_; rotate_left 2; (· (skip; go_simp; try (with_reducible rfl))); (· (with_reducible refine (en_to ⟨xk, xv, xd, ⟨xsc, xss⟩, ⟨xac, xas⟩, xp, xg⟩ _).mono ?_; rintro E w8 ⟨rfl, o8⟩; refine ⟨?_, hS.trans o8⟩; rfl)); try simp only [Act.put, List.setIfInBounds_toArray, List.set_cons_zero, List.set_cons_succ])
                | (refine sd_call (v := ?_) (f := 26) (args := ?_) (by rfl) (fun w0 hS => ?_) (fun w0 hS => ?_) ?_; rotate_left 2; (· (skip; go_simp; try (with_reducible rfl))); (· (with_reducible refine (en_to ⟨ek, ev, ed, ⟨esc, ess⟩, ⟨eac, eas⟩, ep, eg⟩ _).mono ?_; rintro E w8 ⟨rfl, o8⟩; refine ⟨?_, hS.trans o8⟩; rfl)); try simp only [Act.put, List.setIfInBounds_toArray, List.set_cons_zero, List.set_cons_succ])
                | (refine sd_field 50 (.tmp 207) 3 rfl (.agg #[.int .i64 xsc, .int .i64 xss]) (by rfl) (fun w0 hS => ?_) ?_; (· kernel_rfl); try simp only [Act.put, List.setIfInBounds_toArray, List.set_cons_zero, List.set_cons_succ])
                | (refine sd_field 50 (.tmp 210) 3 rfl (.agg #[.int .i64 esc, .int .i64 ess]) (by rfl) (fun w0 hS => ?_) ?_; (· kernel_rfl); try simp only [Act.put, List.setIfInBounds_toArray, List.set_cons_zero, List.set_cons_succ])
                | (refine sd_call (v := ?_) (f := 51) (args := ?_) (by rfl) (fun w0 hS => ?_) (fun w0 hS => ?_) ?_; rotate_left 2; (· (skip; go_simp; try (with_reducible rfl))); (· (refine (HLR.out _).mono ?_; rintro E w8 ⟨rfl, o8⟩; refine ⟨?_, hS.trans o8⟩; rfl)); try simp only [Act.put, List.setIfInBounds_toArray, List.set_cons_zero, List.set_cons_succ])
                | (refine sd_skip (by rfl) ?_; try simp only [Act.put, List.setIfInBounds_toArray, List.set_cons_zero, List.set_cons_succ]))
              refine sd_nil ?_
              intro w10 t10
              have O10 := Lib.hid (O6.out.trans t10)
              clear t10
              go_wp2_with fail
              go_roundw
              case rel => exact ⟨j + 1, by omega, by go_num, O10.out⟩
              case measure => simp [intOf]; omega
        · have R5 := Lib.hid (R3.out.keep OJ.out)
          have K5 := Lib.hid (K3.out.keep OJ.out)
          go_wp2_with fail
          go_roundw
          case rel => exact ⟨k + 1, r2, a2, s2, log2, keys2, Ak2, nk2, ck2, by omega, by go_num, rfl, rfl, R5.out, K5.out, HKN2.out, HGI2.out, hkl2⟩
          case measure => simp [intOf]; omega
    by_cases hk0 : pk = 0
    · skip
      as_aux_lemma =>
        have k0b : (pk == 0) = true := by simp [hk0]
        clear hk0
        rcases R1.out.wf.ptw (by have := R1.out.n; omega) pu pv with ⟨z, hz, hpe⟩ | ⟨hcl, hpe, d, _⟩
        · obtain ⟨x, hxx⟩ : ∃ x, enZero = x := ⟨_, rfl⟩
          rw [hxx] at hpe
          have hzb : (z == 0) = false := by simpa using hz
          have HP := Lib.hid (R1.out.put hm60 hpe R1.out.wf (Nat.le_trans R1.out.n (Nat.le_succ k)))
          clear hpe hxx hz
          go_wp2_with (first
            | (go_at_call 44; refine (HP.out).mono ?_; rintro E w5 ⟨rfl, a5, r5, ol5⟩
               have ox := (Only.refl none_ w5).alloc (.cells #[.string x.k, .string x.v, .bool x.d, .int .i64 x.s.c, .int .i64 x.s.s, .int .i64 x.a.c, .int .i64 x.a.s, .int .i64 x.p, .int .i64 x.g] 82)
               have R5 := Lib.hid (r5.keep ox)
               have A5 := Lib.hid ((ol5.bn A1.out).keep ox)
               have K5 := Lib.hid ((ol5.ks K1.out).keep ox)
               have y1 := A5.out.b.cell_ (i := 1) rfl
               try dsimp only at y1
               clear r5 ol5 ox)
            | (with_reducible refine wpl_new rfl rfl 82 rfl _ _ rfl #[.string x.k, .string x.v, .bool x.d, .int .i64 x.s.c, .int .i64 x.s.s, .int .i64 x.a.c, .int .i64 x.a.s, .int .i64 x.p, .int .i64 x.g] rfl rfl (by kernel_rfl) (en_cells_one x) ?_))
          go_meet
          exact ⟨r, _, _, _, keys, Ak, nk, ck, rfl, rfl, R5.out, K5.out, HKN.out, HGI.out, by omega⟩
        · have HGI2 := Lib.hid (HGI.out.put R1.out.wf d)
          obtain ⟨x, hxx⟩ : ∃ x, putE pu pv ⟨s.c + 1, s.site⟩ = x := ⟨_, rfl⟩
          have hxs : Hid (x.k = pu) := by rw [← hxx]; exact rfl
          rw [hxx] at hpe d HGI2
          have HP := Lib.hid (R1.out.put hm60 hpe d.wf (m' := k + 1) (by have := R1.out.n; rw [List.length_append]; simp only [List.length_cons, List.length_nil]; omega))
          have HKN2 : Hid (Kn (notedL keys pu) (log ++ [x]) _) := HKN.out.dn d rfl noted_sub.1 (by rw [hxs.out]; exact noted_sub.2.1)
          have hkl2 : (notedL keys pu).length ≤ k + 1 := by have := (noted_sub (keys := keys) (k := pu)).2.2; omega
          clear hpe hxx hcl d
          go_wp2_with (first
            | (go_at_call 44; refine (HP.out).mono ?_; rintro E w5 ⟨rfl, a5, r5, ol5⟩
               have ox := (Only.refl none_ w5).alloc (.cells #[.string x.k, .string x.v, .bool x.d, .int .i64 x.s.c, .int .i64 x.s.s, .int .i64 x.a.c, .int .i64 x.a.s, .int .i64 x.p, .int .i64 x.g] 82)
               have R5 := Lib.hid (r5.keep ox)
               have A5 := Lib.hid ((ol5.bn A1.out).keep ox)
               have K5 := Lib.hid ((ol5.ks K1.out).keep ox)
               have y1 := A5.out.b.cell_ (i := 1) rfl
               try dsimp only at y1
               clear r5 ol5 ox)
            | (with_reducible refine wpl_new rfl rfl 82 rfl _ _ rfl #[.string x.k, .string x.v, .bool x.d, .int .i64 x.s.c, .int .i64 x.s.s, .int .i64 x.a.c, .int .i64 x.a.s, .int .i64 x.p, .int .i64 x.g] rfl rfl (by kernel_rfl) (en_cells_one x) ?_)
            | (go_at_call 45; refine (rp_noted B.heap.size _ keys pu _ K5.out.own (R5.out.p.ho.size) (by omega)).mono ?_; rintro E w7 ⟨v7, rfl, own7, o7, m7⟩
               obtain ⟨Ak7, nk7, ck7, rfl⟩ := own_shape own7
               have R7 := Lib.hid (R5.out.kset K5.out o7)
               have K7 := Lib.hid (Ks.noted R5.out.p K5.out own7 m7)
               skip
               clear own7 o7 m7))
          go_meet
          exact ⟨r, _, _, _, _, _, _, _, rfl, rfl, R7.out, K7.out, HKN2.out, HGI2.out, hkl2⟩
    by_cases hk1 : pk = 1
    · skip
      as_aux_lemma =>
        have k0b : (pk == 0) = false := by simp [hk0]
        have k1b : (pk == 1) = true := by simp [hk1]
        clear hk0 hk1
        rcases R1.out.wf.dlw (by have := R1.out.n; omega) pu with ⟨z, hz, hpe⟩ | ⟨hcl, hlive, x, hxx, hpe, d, _⟩
        · obtain ⟨x, hxx⟩ : ∃ x, enZero = x := ⟨_, rfl⟩
          rw [hxx] at hpe
          have hzb : (z == 0) = false := by simpa using hz
          have HP := Lib.hid (R1.out.del hm60 hpe R1.out.wf (Nat.le_trans R1.out.n (Nat.le_succ k)))
          clear hpe hxx hz
          go_wp2_with (first
            | (go_at_call 46; refine (HP.out).mono ?_; rintro E w5 ⟨rfl, a5, r5, ol5⟩
               have R5 := Lib.hid r5
               have K5 := Lib.hid (ol5.ks K1.out)
               clear r5 ol5))
          go_meet
          exact ⟨r, _, _, _, keys, Ak, nk, ck, rfl, rfl, R5.out, K5.out, HKN.out, HGI.out, by omega⟩
        · have HGI2 := Lib.hid (HGI.out.dn d rfl rfl (next_over R1.out.wf (c := s.c + 1) (by omega) (site := s.site) (by rw [hxx]; rfl)))
          have hxs : Hid (x.k = pu) := by rw [hxx]; exact rfl
          have HP := Lib.hid (R1.out.del hm60 hpe d.wf (m' := k + 1) (by have := R1.out.n; rw [List.length_append]; simp only [List.length_cons, List.length_nil]; omega))
          have HKN2 : Hid (Kn keys (log ++ [x]) _) := HKN.out.dn d rfl (fun _ h => h) (by obtain ⟨e, he, hek⟩ := live_key hlive; rw [hxs.out, ← hek]; exact HKN.out.tk e he)
          clear hpe hxx hcl d hlive
          go_wp2_with (first
            | (go_at_call 46; refine (HP.out).mono ?_; rintro E w5 ⟨rfl, a5, r5, ol5⟩
               have R5 := Lib.hid r5
               have K5 := Lib.hid (ol5.ks K1.out)
               clear r5 ol5))
          go_meet
          exact ⟨r, _, _, _, keys, Ak, nk, ck, rfl, rfl, R5.out, K5.out, HKN2.out, HGI2.out, by omega⟩
    by_cases hk2 : pk = 2
    · skip
      as_aux_lemma =>
        have k0b : (pk == 0) = false := by simp [hk0]
        have k1b : (pk == 1) = false := by simp [hk1]
        have k2b : (pk == 2) = true := by simp [hk2]
        clear hk0 hk1 hk2
        obtain ⟨ok, oval, od, ⟨oc, os⟩, ⟨oac, oas⟩, op, og⟩ := ov
        have HLR : Hid (∀ X, Calls Tryz.prog 51 #[.agg #[.int .i64 oc, .int .i64 os], .agg #[.int .i64 pe.s.c, .int .i64 pe.s.s]] X fun E w' => E = .returned (.bool (stLater ⟨oc, os⟩ pe.s)) ∧ Only none_ X w') := fun X => rf_later oc os pe.s.c pe.s.s X
        have HOO := Lib.hid (HOV2.out.over R1.out.wf)
        cases R1.out.wf.mgTwo (by have := R1.out.n; omega) pe with
        | none s' z e wf kn gi =>
          have HWF := Lib.hid wf
          have HNL : Hid (log.length ≤ k + 1) := Nat.le_trans R1.out.n (Nat.le_succ k)
          have HKN2 := Lib.hid (kn keys HKN.out)
          have HGI2 := Lib.hid (gi HGI.out)
          obtain ⟨x, hxx⟩ : ∃ x, enZero = x := ⟨_, rfl⟩
          rw [hxx] at e
          have HE := Lib.hid e
          clear e hxx wf kn gi HOO
          go_upto_region 29 with (first
            | (with_reducible refine wpl_piece rfl 50 _ rfl n1 3 rfl #[.string pe.k, .string pe.v, .bool pe.d, .int .i64 pe.s.c, .int .i64 pe.s.s, .int .i64 pe.a.c, .int .i64 pe.a.s, .int .i64 pe.p, .int .i64 pe.g] _ (pa_entry (a := ⟨pk, pu, pv, pe⟩) A1.out.b) Tryz.underlying50 rfl (by kernel_rfl) ?_)
            | (go_at_call 36; refine (en_of pe _).mono ?_; rintro E w4 ⟨rfl, o4⟩
               have R4 := Lib.hid (R1.out.keep o4)
               have T4 := Lib.hid (T1.out.keep o4)
               have A4 := Lib.hid (A1.out.keep o4)
               have K4 := Lib.hid (K1.out.keep o4)
               clear o4)
            | (go_at_call 35; refine (R4.out.mrg hm60 HE.out HWF.out HNL.out).mono ?_; rintro E w5 ⟨rfl, a5, r5, ol5⟩
               have ox := (Only.refl none_ w5).alloc (.cells #[.string ⟨#[]⟩, .string ⟨#[]⟩, .bool false, .int .i64 0, .int .i64 0, .int .i64 0, .int .i64 0, .int .i64 0, .int .i64 0] 82)
               have R5 := Lib.hid (r5.keep ox)
               have T5 := Lib.hid ((ol5.bn T4.out).keep ox)
               have A5 := Lib.hid ((ol5.bn A4.out).keep ox)
               have K5 := Lib.hid ((ol5.ks K4.out).keep ox)
               have X5 : Hid (Bn a5 w5.heap.size 82 #[.string ⟨#[]⟩, .string ⟨#[]⟩, .bool false, .int .i64 0, .int .i64 0, .int .i64 0, .int .i64 0, .int .i64 0, .int .i64 0] (w5.alloc (.cells #[.string ⟨#[]⟩, .string ⟨#[]⟩, .bool false, .int .i64 0, .int .i64 0, .int .i64 0, .int .i64 0, .int .i64 0, .int .i64 0] 82))) := Bn.new r5.p
               have n5 : Hid (n1 ≠ w5.heap.size ∧ n2 ≠ w5.heap.size ∧ B.heap.size ≤ w5.heap.size) := ⟨by have := (ol5.bn A4.out).b.lt; omega, by have := (ol5.bn T4.out).b.lt; omega, r5.p.ho.size⟩
               clear r5 ol5 ox)
            | (refine wpList_store_row rfl 82 _ _ rfl w5.heap.size #[.string x.k, .string x.v, .bool x.d, .int .i64 x.s.c, .int .i64 x.s.s, .int .i64 x.a.c, .int .i64 x.a.s, .int .i64 x.p, .int .i64 x.g] rfl rfl 82 _ X5.out.b (by kernel_rfl) rfl (en_cells_one x) ?_
               have oR := only_rowP (w5.alloc (.cells #[.string ⟨#[]⟩, .string ⟨#[]⟩, .bool false, .int .i64 0, .int .i64 0, .int .i64 0, .int .i64 0, .int .i64 0, .int .i64 0] 82)) w5.heap.size #[.string x.k, .string x.v, .bool x.d, .int .i64 x.s.c, .int .i64 x.s.s, .int .i64 x.a.c, .int .i64 x.a.s, .int .i64 x.p, .int .i64 x.g]
               have R6 := Lib.hid (R5.out.box X5.out n5.out.2.2 oR)
               have K6 := Lib.hid (K5.out.box X5.out.b (by decide) oR)
               have A6 := Lib.hid (A5.out.box n5.out.1 oR)
               have T6 := Lib.hid (T5.out.box n5.out.2.1 oR)
               clear oR
               have X6 : Hid (Bn a5 w5.heap.size 82 #[.string x.k, .string x.v, .bool x.d, .int .i64 x.s.c, .int .i64 x.s.s, .int .i64 x.a.c, .int .i64 x.a.s, .int .i64 x.p, .int .i64 x.g] ((w5.alloc (.cells #[.string ⟨#[]⟩, .string ⟨#[]⟩, .bool false, .int .i64 0, .int .i64 0, .int .i64 0, .int .i64 0, .int .i64 0, .int .i64 0] 82)).setRow w5.heap.size #[.string x.k, .string x.v, .bool x.d, .int .i64 x.s.c, .int .i64 x.s.s, .int .i64 x.a.c, .int .i64 x.a.s, .int .i64 x.p, .int .i64 x.g])) := ⟨X5.out.b.setRow #[.string x.k, .string x.v, .bool x.d, .int .i64 x.s.c, .int .i64 x.s.s, .int .i64 x.a.c, .int .i64 x.a.s, .int .i64 x.p, .int .i64 x.g], X5.out.n⟩
               have y3 := A6.out.b.cell_ (i := 3) rfl
               try dsimp only at y3))
          cases od with
          | false =>
            (refine wp_region_steady (fun w' => Only none_ ((w5.alloc (.cells #[.string ⟨#[]⟩, .string ⟨#[]⟩, .bool false, .int .i64 0, .int .i64 0, .int .i64 0, .int .i64 0, .int .i64 0, .int .i64 0] 82)).setRow w5.heap.size #[.string x.k, .string x.v, .bool x.d, .int .i64 x.s.c, .int .i64 x.s.s, .int .i64 x.a.c, .int .i64 x.a.s, .int .i64 x.p, .int .i64 x.g]) w') 12 (by kernel_rfl) (by kernel_rfl) ((Only.refl none_ ((w5.alloc (.cells #[.string ⟨#[]⟩, .string ⟨#[]⟩, .bool false, .int .i64 0, .int .i64 0, .int .i64 0, .int .i64 0, .int .i64 0, .int .i64 0] 82)).setRow w5.heap.size #[.string x.k, .string x.v, .bool x.d, .int .i64 x.s.c, .int .i64 x.s.s, .int .i64 x.a.c, .int .i64 x.a.s, .int .i64 x.p, .int .i64 x.g])).drew) ?_; simp only [List.take_succ_cons, List.take_zero, List.drop_succ_cons, List.drop_zero])
            repeat (first
              | (refine sd_value (v := ?_) (by rfl) (fun w0 hS => ?_) ?_; rotate_left; (· (have oo := nine_of (T6.out.keep hS).b; have u6 := (A6.out.keep hS).b.cell_ (i := 6) rfl; have u7 := (A6.out.keep hS).b.cell_ (i := 7) rfl; go_simp; try (with_reducible rfl))); try simp only [Act.put, List.setIfInBounds_toArray, List.set_cons_zero, List.set_cons_succ])
              | (refine sd_skip (by rfl) ?_; try simp only [Act.put, List.setIfInBounds_toArray, List.set_cons_zero, List.set_cons_succ]))
            refine sd_nil ?_
            intro w10 t10
            have R10 := Lib.hid (R6.out.keep t10)
            have K10 := Lib.hid (K6.out.keep t10)
            have X10 := Lib.hid (X6.out.keep t10)
            have T10 := Lib.hid (T6.out.keep t10)
            clear t10
            go_wp2_with fail
            go_meet
            exact ⟨r, _, _, _, keys, Ak, nk, ck, rfl, rfl, R10.out, K10.out, HKN2.out, HGI2.out, by omega⟩
          | true =>
            cases hlt2 : stLater ⟨oc, os⟩ pe.s with
            | false =>
              rw [hlt2] at HLR
              clear hlt2
              (refine wp_region_steady (fun w' => Only none_ ((w5.alloc (.cells #[.string ⟨#[]⟩, .string ⟨#[]⟩, .bool false, .int .i64 0, .int .i64 0, .int .i64 0, .int .i64 0, .int .i64 0, .int .i64 0] 82)).setRow w5.heap.size #[.string x.k, .string x.v, .bool x.d, .int .i64 x.s.c, .int .i64 x.s.s, .int .i64 x.a.c, .int .i64 x.a.s, .int .i64 x.p, .int .i64 x.g]) w') 12 (by kernel_rfl) (by kernel_rfl) ((Only.refl none_ ((w5.alloc (.cells #[.string ⟨#[]⟩, .string ⟨#[]⟩, .bool false, .int .i64 0, .int .i64 0, .int .i64 0, .int .i64 0, .int .i64 0, .int .i64 0] 82)).setRow w5.heap.size #[.string x.k, .string x.v, .bool x.d, .int .i64 x.s.c, .int .i64 x.s.s, .int .i64 x.a.c, .int .i64 x.a.s, .int .i64 x.p, .int .i64 x.g])).drew) ?_; simp only [List.take_succ_cons, List.take_zero, List.drop_succ_cons, List.drop_zero])
              repeat (first
                | (refine sd_value (v := ?_) (by rfl) (fun w0 hS => ?_) ?_; rotate_left; (· (have oo := nine_of (T6.out.keep hS).b; have u6 := (A6.out.keep hS).b.cell_ (i := 6) rfl; have u7 := (A6.out.keep hS).b.cell_ (i := 7) rfl; go_simp; try (with_reducible rfl))); try simp only [Act.put, List.setIfInBounds_toArray, List.set_cons_zero, List.set_cons_succ])
                | (refine sd_skip (by rfl) ?_; try simp only [Act.put, List.setIfInBounds_toArray, List.set_cons_zero, List.set_cons_succ])
                | (refine sd_field 50 (.tmp 122) 3 rfl (.agg #[.int .i64 oc, .int .i64 os]) (by rfl) (fun w0 hS => ?_) ?_; (· kernel_rfl); try simp only [Act.put, List.setIfInBounds_toArray, List.set_cons_zero, List.set_cons_succ])
                | (refine sd_call (v := ?_) (f := 26) (args := ?_) (by rfl) (fun w0 hS => ?_) (fun w0 hS => ?_) ?_; rotate_left 2; (· (skip; go_simp; try (with_reducible rfl))); (· (refine (en_to ⟨ok, oval, true, ⟨oc, os⟩, ⟨oac, oas⟩, op, og⟩ _).mono ?_; rintro E w8 ⟨rfl, o8⟩; refine ⟨?_, hS.trans o8⟩; rfl)); try simp only [Act.put, List.setIfInBounds_toArray, List.set_cons_zero, List.set_cons_succ])
                | (refine sd_call (v := ?_) (f := 51) (args := ?_) (by rfl) (fun w0 hS => ?_) (fun w0 hS => ?_) ?_; rotate_left 2; (· (skip; go_simp; try (with_reducible rfl))); (· (refine (HLR.out _).mono ?_; rintro E w8 ⟨rfl, o8⟩; refine ⟨?_, hS.trans o8⟩; rfl)); try simp only [Act.put, List.setIfInBounds_toArray, List.set_cons_zero, List.set_cons_succ]))
              refine sd_nil ?_
              intro w10 t10
              have R10 := Lib.hid (R6.out.keep t10)
              have K10 := Lib.hid (K6.out.keep t10)
              have X10 := Lib.hid (X6.out.keep t10)
              have T10 := Lib.hid (T6.out.keep t10)
              clear t10
              go_wp2_with fail
              go_meet
              exact ⟨r, _, _, _, keys, Ak, nk, ck, rfl, rfl, R10.out, K10.out, HKN2.out, HGI2.out, by omega⟩
            | true =>
              rw [hlt2] at HLR
              clear hlt2
              by_cases hz : z = 0
              · have hzb : (z == 0) = true := by simp [hz]
                clear hz
                (refine wp_region_steady (fun w' => Only none_ ((w5.alloc (.cells #[.string ⟨#[]⟩, .string ⟨#[]⟩, .bool false, .int .i64 0, .int .i64 0, .int .i64 0, .int .i64 0, .int .i64 0, .int .i64 0] 82)).setRow w5.heap.size #[.string x.k, .string x.v, .bool x.d, .int .i64 x.s.c, .int .i64 x.s.s, .int .i64 x.a.c, .int .i64 x.a.s, .int .i64 x.p, .int .i64 x.g]) w') 12 (by kernel_rfl) (by kernel_rfl) ((Only.refl none_ ((w5.alloc (.cells #[.string ⟨#[]⟩, .string ⟨#[]⟩, .bool false, .int .i64 0, .int .i64 0, .int .i64 0, .int .i64 0, .int .i64 0, .int .i64 0] 82)).setRow w5.heap.size #[.string x.k, .string x.v, .bool x.d, .int .i64 x.s.c, .int .i64 x.s.s, .int .i64 x.a.c, .int .i64 x.a.s, .int .i64 x.p, .int .i64 x.g])).drew) ?_; simp only [List.take_succ_cons, List.take_zero, List.drop_succ_cons, List.drop_zero])
                repeat (first
                  | (refine sd_value (v := ?_) (by rfl) (fun w0 hS => ?_) ?_; rotate_left; (· (have oo := nine_of (T6.out.keep hS).b; have u6 := (A6.out.keep hS).b.cell_ (i := 6) rfl; have u7 := (A6.out.keep hS).b.cell_ (i := 7) rfl; go_simp; try (with_reducible rfl))); try simp only [Act.put, List.setIfInBounds_toArray, List.set_cons_zero, List.set_cons_succ])
                  | (refine sd_skip (by rfl) ?_; try simp only [Act.put, List.setIfInBounds_toArray, List.set_cons_zero, List.set_cons_succ])
                  | (refine sd_field 50 (.tmp 122) 3 rfl (.agg #[.int .i64 oc, .int .i64 os]) (by rfl) (fun w0 hS => ?_) ?_; (· kernel_rfl); try simp only [Act.put, List.setIfInBounds_toArray, List.set_cons_zero, List.set_cons_succ])
                  | (refine sd_call (v := ?_) (f := 26) (args := ?_) (by rfl) (fun w0 hS => ?_) (fun w0 hS => ?_) ?_; rotate_left 2; (· (skip; go_simp; try (with_reducible rfl))); (· (refine (en_to ⟨ok, oval, true, ⟨oc, os⟩, ⟨oac, oas⟩, op, og⟩ _).mono ?_; rintro E w8 ⟨rfl, o8⟩; refine ⟨?_, hS.trans o8⟩; rfl)); try simp only [Act.put, List.setIfInBounds_toArray, List.set_cons_zero, List.set_cons_succ])
                  | (refine sd_call (v := ?_) (f := 51) (args := ?_) (by rfl) (fun w0 hS => ?_) (fun w0 hS => ?_) ?_; rotate_left 2; (· (skip; go_simp; try (with_reducible rfl))); (· (refine (HLR.out _).mono ?_; rintro E w8 ⟨rfl, o8⟩; refine ⟨?_, hS.trans o8⟩; rfl)); try simp only [Act.put, List.setIfInBounds_toArray, List.set_cons_zero, List.set_cons_succ]))
                refine sd_nil ?_
                intro w10 t10
                have R10 := Lib.hid (R6.out.keep t10)
                have K10 := Lib.hid (K6.out.keep t10)
                have X10 := Lib.hid (X6.out.keep t10)
                have T10 := Lib.hid (T6.out.keep t10)
                clear t10
                go_wp2_with fail
                go_meet
                exact ⟨r, _, _, _, keys, Ak, nk, ck, rfl, rfl, R10.out, K10.out, HKN2.out, HGI2.out, by omega⟩
              · have hzb : (z == 0) = false := by simpa using hz
                clear hz
                (refine wp_region_steady (fun w' => Only none_ ((w5.alloc (.cells #[.string ⟨#[]⟩, .string ⟨#[]⟩, .bool false, .int .i64 0, .int .i64 0, .int .i64 0, .int .i64 0, .int .i64 0, .int .i64 0] 82)).setRow w5.heap.size #[.string x.k, .string x.v, .bool x.d, .int .i64 x.s.c, .int .i64 x.s.s, .int .i64 x.a.c, .int .i64 x.a.s, .int .i64 x.p, .int .i64 x.g]) w') 12 (by kernel_rfl) (by kernel_rfl) ((Only.refl none_ ((w5.alloc (.cells #[.string ⟨#[]⟩, .string ⟨#[]⟩, .bool false, .int .i64 0, .int .i64 0, .int .i64 0, .int .i64 0, .int .i64 0, .int .i64 0] 82)).setRow w5.heap.size #[.string x.k, .string x.v, .bool x.d, .int .i64 x.s.c, .int .i64 x.s.s, .int .i64 x.a.c, .int .i64 x.a.s, .int .i64 x.p, .int .i64 x.g])).drew) ?_; simp only [List.take_succ_cons, List.take_zero, List.drop_succ_cons, List.drop_zero])
                repeat (first
                  | (refine sd_value (v := ?_) (by rfl) (fun w0 hS => ?_) ?_; rotate_left; (· (have oo := nine_of (T6.out.keep hS).b; have u6 := (A6.out.keep hS).b.cell_ (i := 6) rfl; have u7 := (A6.out.keep hS).b.cell_ (i := 7) rfl; go_simp; try (with_reducible rfl))); try simp only [Act.put, List.setIfInBounds_toArray, List.set_cons_zero, List.set_cons_succ])
                  | (refine sd_skip (by rfl) ?_; try simp only [Act.put, List.setIfInBounds_toArray, List.set_cons_zero, List.set_cons_succ])
                  | (refine sd_field 50 (.tmp 122) 3 rfl (.agg #[.int .i64 oc, .int .i64 os]) (by rfl) (fun w0 hS => ?_) ?_; (· kernel_rfl); try simp only [Act.put, List.setIfInBounds_toArray, List.set_cons_zero, List.set_cons_succ])
                  | (refine sd_call (v := ?_) (f := 26) (args := ?_) (by rfl) (fun w0 hS => ?_) (fun w0 hS => ?_) ?_; rotate_left 2; (· (skip; go_simp; try (with_reducible rfl))); (· (refine (en_to ⟨ok, oval, true, ⟨oc, os⟩, ⟨oac, oas⟩, op, og⟩ _).mono ?_; rintro E w8 ⟨rfl, o8⟩; refine ⟨?_, hS.trans o8⟩; rfl)); try simp only [Act.put, List.setIfInBounds_toArray, List.set_cons_zero, List.set_cons_succ])
                  | (refine sd_call (v := ?_) (f := 51) (args := ?_) (by rfl) (fun w0 hS => ?_) (fun w0 hS => ?_) ?_; rotate_left 2; (· (skip; go_simp; try (with_reducible rfl))); (· (refine (HLR.out _).mono ?_; rintro E w8 ⟨rfl, o8⟩; refine ⟨?_, hS.trans o8⟩; rfl)); try simp only [Act.put, List.setIfInBounds_toArray, List.set_cons_zero, List.set_cons_succ]))
                refine sd_nil ?_
                intro w10 t10
                have R10 := Lib.hid (R6.out.keep t10)
                have K10 := Lib.hid (K6.out.keep t10)
                have X10 := Lib.hid (X6.out.keep t10)
                have T10 := Lib.hid (T6.out.keep t10)
                clear t10
                go_wp2_with fail
                go_meet
                exact ⟨r, _, _, _, keys, Ak, nk, ck, rfl, rfl, R10.out, K10.out, HKN2.out, HGI2.out, by omega⟩
        | woken s' x e hov hxk hxd hxg hxy wf kn gi =>
          have HXD := Lib.hid (And.intro hxd hxg)
          clear hxk hxd hxg
          have hkl2 : (notedL keys pe.k).length ≤ k + 1 := by have := (noted_sub (keys := keys) (k := pe.k)).2.2; omega
          have HWF := Lib.hid wf
          have HNL : Hid ((log ++ [x]).length ≤ k + 1) := by have := R1.out.n; simp only [Hid, List.length_append, List.length_cons, List.length_nil]; omega
          have HE := Lib.hid e
          have HKN2 := Lib.hid (kn keys HKN.out)
          have HGI2 := Lib.hid (gi HGI.out)
          clear e wf kn gi
          have hoo := HOO.out.1
          rw [hov] at hoo
          have hod : od = true := by
            have := hoo
            simp only [Bool.and_eq_true] at this
            exact this.1
          subst hod
          have hlt2 : stLater ⟨oc, os⟩ pe.s = true := by simpa using hoo
          rw [hlt2] at HLR
          have hxs : Hid (x.s = ⟨oc, os⟩) := by
            obtain ⟨y, hy, hys⟩ := hxy
            rw [Hid, hys, ← HOO.out.2 y hy]
          have hsame := st_same oc os
          clear hoo hlt2 hov hxy HOO
          go_upto_region 29 with (first
            | (with_reducible refine wpl_piece rfl 50 _ rfl n1 3 rfl #[.string pe.k, .string pe.v, .bool pe.d, .int .i64 pe.s.c, .int .i64 pe.s.s, .int .i64 pe.a.c, .int .i64 pe.a.s, .int .i64 pe.p, .int .i64 pe.g] _ (pa_entry (a := ⟨pk, pu, pv, pe⟩) A1.out.b) Tryz.underlying50 rfl (by kernel_rfl) ?_)
            | (go_at_call 36; refine (en_of pe _).mono ?_; rintro E w4 ⟨rfl, o4⟩
               have R4 := Lib.hid (R1.out.keep o4)
               have T4 := Lib.hid (T1.out.keep o4)
               have A4 := Lib.hid (A1.out.keep o4)
               have K4 := Lib.hid (K1.out.keep o4)
               clear o4)
            | (go_at_call 35; refine (R4.out.mrg hm60 HE.out HWF.out HNL.out).mono ?_; rintro E w5 ⟨rfl, a5, r5, ol5⟩
               have ox := (Only.refl none_ w5).alloc (.cells #[.string ⟨#[]⟩, .string ⟨#[]⟩, .bool false, .int .i64 0, .int .i64 0, .int .i64 0, .int .i64 0, .int .i64 0, .int .i64 0] 82)
               have R5 := Lib.hid (r5.keep ox)
               have T5 := Lib.hid ((ol5.bn T4.out).keep ox)
               have A5 := Lib.hid ((ol5.bn A4.out).keep ox)
               have K5 := Lib.hid ((ol5.ks K4.out).keep ox)
               have X5 : Hid (Bn a5 w5.heap.size 82 #[.string ⟨#[]⟩, .string ⟨#[]⟩, .bool false, .int .i64 0, .int .i64 0, .int .i64 0, .int .i64 0, .int .i64 0, .int .i64 0] (w5.alloc (.cells #[.string ⟨#[]⟩, .string ⟨#[]⟩, .bool false, .int .i64 0, .int .i64 0, .int .i64 0, .int .i64 0, .int .i64 0, .int .i64 0] 82))) := Bn.new r5.p
               have n5 : Hid (n1 ≠ w5.heap.size ∧ n2 ≠ w5.heap.size ∧ B.heap.size ≤ w5.heap.size) := ⟨by have := (ol5.bn A4.out).b.lt; omega, by have := (ol5.bn T4.out).b.lt; omega, r5.p.ho.size⟩
               clear r5 ol5 ox)
            | (refine wpList_store_row rfl 82 _ _ rfl w5.heap.size #[.string x.k, .string x.v, .bool x.d, .int .i64 x.s.c, .int .i64 x.s.s, .int .i64 x.a.c, .int .i64 x.a.s, .int .i64 x.p, .int .i64 x.g] rfl rfl 82 _ X5.out.b (by kernel_rfl) rfl (en_cells_one x) ?_
               have oR := only_rowP (w5.alloc (.cells #[.string ⟨#[]⟩, .string ⟨#[]⟩, .bool false, .int .i64 0, .int .i64 0, .int .i64 0, .int .i64 0, .int .i64 0, .int .i64 0] 82)) w5.heap.size #[.string x.k, .string x.v, .bool x.d, .int .i64 x.s.c, .int .i64 x.s.s, .int .i64 x.a.c, .int .i64 x.a.s, .int .i64 x.p, .int .i64 x.g]
               have R6 := Lib.hid (R5.out.box X5.out n5.out.2.2 oR)
               have K6 := Lib.hid (K5.out.box X5.out.b (by decide) oR)
               have A6 := Lib.hid (A5.out.box n5.out.1 oR)
               have T6 := Lib.hid (T5.out.box n5.out.2.1 oR)
               clear oR
               have X6 : Hid (Bn a5 w5.heap.size 82 #[.string x.k, .string x.v, .bool x.d, .int .i64 x.s.c, .int .i64 x.s.s, .int .i64 x.a.c, .int .i64 x.a.s, .int .i64 x.p, .int .i64 x.g] ((w5.alloc (.cells #[.string ⟨#[]⟩, .string ⟨#[]⟩, .bool false, .int .i64 0, .int .i64 0, .int .i64 0, .int .i64 0, .int .i64 0, .int .i64 0] 82)).setRow w5.heap.size #[.string x.k, .string x.v, .bool x.d, .int .i64 x.s.c, .int .i64 x.s.s, .int .i64 x.a.c, .int .i64 x.a.s, .int .i64 x.p, .int .i64 x.g])) := ⟨X5.out.b.setRow #[.string x.k, .string x.v, .bool x.d, .int .i64 x.s.c, .int .i64 x.s.s, .int .i64 x.a.c, .int .i64 x.a.s, .int .i64 x.p, .int .i64 x.g], X5.out.n⟩
               have y3 := A6.out.b.cell_ (i := 3) rfl
               try dsimp only at y3)
            | (go_at_call 45; refine (rp_noted B.heap.size _ keys pe.k _ K6.out.own (R6.out.p.ho.size) (by omega)).mono ?_; rintro E w7 ⟨v7, rfl, own7, o7, m7⟩
               obtain ⟨Ak7, nk7, ck7, rfl⟩ := own_shape own7
               have R7 := Lib.hid (R6.out.kset K6.out o7)
               have K7 := Lib.hid (Ks.noted R6.out.p K6.out own7 m7)
               have A7 := Lib.hid (A6.out.kset K6.out (by decide) o7)
               have T7 := Lib.hid (T6.out.kset K6.out (by decide) o7)
               have X7 := Lib.hid (X6.out.kset K6.out (by decide) o7)
               clear own7 o7 m7))
          (refine wp_region_steady (fun w' => Only none_ w7 w') 12 (by kernel_rfl) (by kernel_rfl) ((Only.refl none_ w7).drew) ?_; simp only [List.take_succ_cons, List.take_zero, List.drop_succ_cons, List.drop_zero])
          repeat (first
            | (refine sd_value (v := ?_) (by rfl) (fun w0 hS => ?_) ?_; rotate_left; (· (have oo := nine_of (T7.out.keep hS).b; have u6 := (A7.out.keep hS).b.cell_ (i := 6) rfl; have u7 := (A7.out.keep hS).b.cell_ (i := 7) rfl; go_simp; try (with_reducible rfl))); try simp only [Act.put, List.setIfInBounds_toArray, List.set_cons_zero, List.set_cons_succ])
            | (refine sd_skip (by rfl) ?_; try simp only [Act.put, List.setIfInBounds_toArray, List.set_cons_zero, List.set_cons_succ])
            | (refine sd_field 50 (.tmp 122) 3 rfl (.agg #[.int .i64 oc, .int .i64 os]) (by rfl) (fun w0 hS => ?_) ?_; (· kernel_rfl); try simp only [Act.put, List.setIfInBounds_toArray, List.set_cons_zero, List.set_cons_succ])
            | (refine sd_call (v := ?_) (f := 26) (args := ?_) (by rfl) (fun w0 hS => ?_) (fun w0 hS => ?_) ?_; rotate_left 2; (· (skip; go_simp; try (with_reducible rfl))); (· (refine (en_to ⟨ok, oval, true, ⟨oc, os⟩, ⟨oac, oas⟩, op, og⟩ _).mono ?_; rintro E w8 ⟨rfl, o8⟩; refine ⟨?_, hS.trans o8⟩; rfl)); try simp only [Act.put, List.setIfInBounds_toArray, List.set_cons_zero, List.set_cons_succ])
            | (refine sd_call (v := ?_) (f := 51) (args := ?_) (by rfl) (fun w0 hS => ?_) (fun w0 hS => ?_) ?_; rotate_left 2; (· (skip; go_simp; try (with_reducible rfl))); (· (refine (HLR.out _).mono ?_; rintro E w8 ⟨rfl, o8⟩; refine ⟨?_, hS.trans o8⟩; rfl)); try simp only [Act.put, List.setIfInBounds_toArray, List.set_cons_zero, List.set_cons_succ]))
          refine sd_nil ?_
          intro w10 t10
          have R10 := Lib.hid (R7.out.keep t10)
          have K10 := Lib.hid (K7.out.keep t10)
          have X10 := Lib.hid (X7.out.keep t10)
          have T10 := Lib.hid (T7.out.keep t10)
          clear t10
          have z2 := X10.out.b.cell_ (i := 2) rfl
          have z8 := X10.out.b.cell_ (i := 8) rfl
          try dsimp only at z2 z8
          rw [HXD.out.1] at z2
          rw [HXD.out.2] at z8
          go_wp2_with (first
            | (with_reducible refine wpl_piece rfl 80 _ rfl w5.heap.size 3 rfl #[.int .i64 oc, .int .i64 os] _ (stamp_piece X10.out.b hxs.out) Tryz.underlying80 rfl (by kernel_rfl) ?_)
            | (with_reducible refine wpl_piece rfl 80 _ rfl n2 3 rfl #[.int .i64 oc, .int .i64 os] _ (stamp_piece (x := ⟨ok, oval, true, ⟨oc, os⟩, ⟨oac, oas⟩, op, og⟩) T10.out.b rfl) Tryz.underlying80 rfl (by kernel_rfl) ?_)
            | (refine wpl_piece_if (by rfl) 80 _ rfl w5.heap.size 3 rfl #[.int .i64 oc, .int .i64 os] _ (stamp_piece X10.out.b hxs.out) Tryz.underlying80 rfl (by kernel_rfl) ?_)
            | (refine wpl_piece_if (by rfl) 80 _ rfl n2 3 rfl #[.int .i64 oc, .int .i64 os] _ (stamp_piece (x := ⟨ok, oval, true, ⟨oc, os⟩, ⟨oac, oas⟩, op, og⟩) T10.out.b rfl) Tryz.underlying80 rfl (by kernel_rfl) ?_))
          go_meet
          exact ⟨r, _, _, _, _, _, _, _, rfl, rfl, R10.out, K10.out, HKN2.out, HGI2.out, hkl2⟩
        | taken s' x e hov hxk wf kn gi =>
          clear hxk
          have hkl2 : (notedL keys pe.k).length ≤ k + 1 := by have := (noted_sub (keys := keys) (k := pe.k)).2.2; omega
          have HWF := Lib.hid wf
          have HNL : Hid ((log ++ [x]).length ≤ k + 1) := by have := R1.out.n; simp only [Hid, List.length_append, List.length_cons, List.length_nil]; omega
          have HE := Lib.hid e
          have HKN2 := Lib.hid (kn keys HKN.out)
          have HGI2 := Lib.hid (gi HGI.out)
          clear e wf kn gi
          have hoo := HOO.out.1
          rw [hov] at hoo
          have HHOO := Lib.hid hoo
          clear hov HOO hoo
          go_upto_region 29 with (first
            | (with_reducible refine wpl_piece rfl 50 _ rfl n1 3 rfl #[.string pe.k, .string pe.v, .bool pe.d, .int .i64 pe.s.c, .int .i64 pe.s.s, .int .i64 pe.a.c, .int .i64 pe.a.s, .int .i64 pe.p, .int .i64 pe.g] _ (pa_entry (a := ⟨pk, pu, pv, pe⟩) A1.out.b) Tryz.underlying50 rfl (by kernel_rfl) ?_)
            | (go_at_call 36; refine (en_of pe _).mono ?_; rintro E w4 ⟨rfl, o4⟩
               have R4 := Lib.hid (R1.out.keep o4)
               have T4 := Lib.hid (T1.out.keep o4)
               have A4 := Lib.hid (A1.out.keep o4)
               have K4 := Lib.hid (K1.out.keep o4)
               clear o4)
            | (go_at_call 35; refine (R4.out.mrg hm60 HE.out HWF.out HNL.out).mono ?_; rintro E w5 ⟨rfl, a5, r5, ol5⟩
               have ox := (Only.refl none_ w5).alloc (.cells #[.string ⟨#[]⟩, .string ⟨#[]⟩, .bool false, .int .i64 0, .int .i64 0, .int .i64 0, .int .i64 0, .int .i64 0, .int .i64 0] 82)
               have R5 := Lib.hid (r5.keep ox)
               have T5 := Lib.hid ((ol5.bn T4.out).keep ox)
               have A5 := Lib.hid ((ol5.bn A4.out).keep ox)
               have K5 := Lib.hid ((ol5.ks K4.out).keep ox)
               have X5 : Hid (Bn a5 w5.heap.size 82 #[.string ⟨#[]⟩, .string ⟨#[]⟩, .bool false, .int .i64 0, .int .i64 0, .int .i64 0, .int .i64 0, .int .i64 0, .int .i64 0] (w5.alloc (.cells #[.string ⟨#[]⟩, .string ⟨#[]⟩, .bool false, .int .i64 0, .int .i64 0, .int .i64 0, .int .i64 0, .int .i64 0, .int .i64 0] 82))) := Bn.new r5.p
               have n5 : Hid (n1 ≠ w5.heap.size ∧ n2 ≠ w5.heap.size ∧ B.heap.size ≤ w5.heap.size) := ⟨by have := (ol5.bn A4.out).b.lt; omega, by have := (ol5.bn T4.out).b.lt; omega, r5.p.ho.size⟩
               clear r5 ol5 ox)
            | (refine wpList_store_row rfl 82 _ _ rfl w5.heap.size #[.string x.k, .string x.v, .bool x.d, .int .i64 x.s.c, .int .i64 x.s.s, .int .i64 x.a.c, .int .i64 x.a.s, .int .i64 x.p, .int .i64 x.g] rfl rfl 82 _ X5.out.b (by kernel_rfl) rfl (en_cells_one x) ?_
               have oR := only_rowP (w5.alloc (.cells #[.string ⟨#[]⟩, .string ⟨#[]⟩, .bool false, .int .i64 0, .int .i64 0, .int .i64 0, .int .i64 0, .int .i64 0, .int .i64 0] 82)) w5.heap.size #[.string x.k, .string x.v, .bool x.d, .int .i64 x.s.c, .int .i64 x.s.s, .int .i64 x.a.c, .int .i64 x.a.s, .int .i64 x.p, .int .i64 x.g]
               have R6 := Lib.hid (R5.out.box X5.out n5.out.2.2 oR)
               have K6 := Lib.hid (K5.out.box X5.out.b (by decide) oR)
               have A6 := Lib.hid (A5.out.box n5.out.1 oR)
               have T6 := Lib.hid (T5.out.box n5.out.2.1 oR)
               clear oR
               have X6 : Hid (Bn a5 w5.heap.size 82 #[.string x.k, .string x.v, .bool x.d, .int .i64 x.s.c, .int .i64 x.s.s, .int .i64 x.a.c, .int .i64 x.a.s, .int .i64 x.p, .int .i64 x.g] ((w5.alloc (.cells #[.string ⟨#[]⟩, .string ⟨#[]⟩, .bool false, .int .i64 0, .int .i64 0, .int .i64 0, .int .i64 0, .int .i64 0, .int .i64 0] 82)).setRow w5.heap.size #[.string x.k, .string x.v, .bool x.d, .int .i64 x.s.c, .int .i64 x.s.s, .int .i64 x.a.c, .int .i64 x.a.s, .int .i64 x.p, .int .i64 x.g])) := ⟨X5.out.b.setRow #[.string x.k, .string x.v, .bool x.d, .int .i64 x.s.c, .int .i64 x.s.s, .int .i64 x.a.c, .int .i64 x.a.s, .int .i64 x.p, .int .i64 x.g], X5.out.n⟩
               have y3 := A6.out.b.cell_ (i := 3) rfl
               try dsimp only at y3)
            | (go_at_call 45; refine (rp_noted B.heap.size _ keys pe.k _ K6.out.own (R6.out.p.ho.size) (by omega)).mono ?_; rintro E w7 ⟨v7, rfl, own7, o7, m7⟩
               obtain ⟨Ak7, nk7, ck7, rfl⟩ := own_shape own7
               have R7 := Lib.hid (R6.out.kset K6.out o7)
               have K7 := Lib.hid (Ks.noted R6.out.p K6.out own7 m7)
               have A7 := Lib.hid (A6.out.kset K6.out (by decide) o7)
               have T7 := Lib.hid (T6.out.kset K6.out (by decide) o7)
               have X7 := Lib.hid (X6.out.kset K6.out (by decide) o7)
               clear own7 o7 m7))
          cases od with
          | false =>
            clear HHOO
            (refine wp_region_steady (fun w' => Only none_ w7 w') 12 (by kernel_rfl) (by kernel_rfl) ((Only.refl none_ w7).drew) ?_; simp only [List.take_succ_cons, List.take_zero, List.drop_succ_cons, List.drop_zero])
            repeat (first
              | (refine sd_value (v := ?_) (by rfl) (fun w0 hS => ?_) ?_; rotate_left; (· (have oo := nine_of (T7.out.keep hS).b; have u6 := (A7.out.keep hS).b.cell_ (i := 6) rfl; have u7 := (A7.out.keep hS).b.cell_ (i := 7) rfl; go_simp; try (with_reducible rfl))); try simp only [Act.put, List.setIfInBounds_toArray, List.set_cons_zero, List.set_cons_succ])
              | (refine sd_skip (by rfl) ?_; try simp only [Act.put, List.setIfInBounds_toArray, List.set_cons_zero, List.set_cons_succ]))
            refine sd_nil ?_
            intro w10 t10
            have R10 := Lib.hid (R7.out.keep t10)
            have K10 := Lib.hid (K7.out.keep t10)
            have X10 := Lib.hid (X7.out.keep t10)
            have T10 := Lib.hid (T7.out.keep t10)
            clear t10
            go_wp2_with fail
            go_meet
            exact ⟨r, _, _, _, _, _, _, _, rfl, rfl, R10.out, K10.out, HKN2.out, HGI2.out, hkl2⟩
          | true =>
            have hlt2 : stLater ⟨oc, os⟩ pe.s = false := by simpa using HHOO.out
            rw [hlt2] at HLR
            clear HHOO hlt2
            (refine wp_region_steady (fun w' => Only none_ w7 w') 12 (by kernel_rfl) (by kernel_rfl) ((Only.refl none_ w7).drew) ?_; simp only [List.take_succ_cons, List.take_zero, List.drop_succ_cons, List.drop_zero])
            repeat (first
              | (refine sd_value (v := ?_) (by rfl) (fun w0 hS => ?_) ?_; rotate_left; (· (have oo := nine_of (T7.out.keep hS).b; have u6 := (A7.out.keep hS).b.cell_ (i := 6) rfl; have u7 := (A7.out.keep hS).b.cell_ (i := 7) rfl; go_simp; try (with_reducible rfl))); try simp only [Act.put, List.setIfInBounds_toArray, List.set_cons_zero, List.set_cons_succ])
              | (refine sd_skip (by rfl) ?_; try simp only [Act.put, List.setIfInBounds_toArray, List.set_cons_zero, List.set_cons_succ])
              | (refine sd_field 50 (.tmp 122) 3 rfl (.agg #[.int .i64 oc, .int .i64 os]) (by rfl) (fun w0 hS => ?_) ?_; (· kernel_rfl); try simp only [Act.put, List.setIfInBounds_toArray, List.set_cons_zero, List.set_cons_succ])
              | (refine sd_call (v := ?_) (f := 26) (args := ?_) (by rfl) (fun w0 hS => ?_) (fun w0 hS => ?_) ?_; rotate_left 2; (· (skip; go_simp; try (with_reducible rfl))); (· (refine (en_to ⟨ok, oval, true, ⟨oc, os⟩, ⟨oac, oas⟩, op, og⟩ _).mono ?_; rintro E w8 ⟨rfl, o8⟩; refine ⟨?_, hS.trans o8⟩; rfl)); try simp only [Act.put, List.setIfInBounds_toArray, List.set_cons_zero, List.set_cons_succ])
              | (refine sd_call (v := ?_) (f := 51) (args := ?_) (by rfl) (fun w0 hS => ?_) (fun w0 hS => ?_) ?_; rotate_left 2; (· (skip; go_simp; try (with_reducible rfl))); (· (refine (HLR.out _).mono ?_; rintro E w8 ⟨rfl, o8⟩; refine ⟨?_, hS.trans o8⟩; rfl)); try simp only [Act.put, List.setIfInBounds_toArray, List.set_cons_zero, List.set_cons_succ]))
            refine sd_nil ?_
            intro w10 t10
            have R10 := Lib.hid (R7.out.keep t10)
            have K10 := Lib.hid (K7.out.keep t10)
            have X10 := Lib.hid (X7.out.keep t10)
            have T10 := Lib.hid (T7.out.keep t10)
            clear t10
            go_wp2_with fail
            go_meet
            exact ⟨r, _, _, _, _, _, _, _, rfl, rfl, R10.out, K10.out, HKN2.out, HGI2.out, hkl2⟩
    by_cases hk3 : pk = 3
    · skip
      as_aux_lemma =>
        have k0b : (pk == 0) = false := by simp [hk0]
        have k1b : (pk == 1) = false := by simp [hk1]
        have k2b : (pk == 2) = false := by simp [hk2]
        have k3b : (pk == 3) = true := by simp [hk3]
        clear hk0 hk1 hk2 hk3
        have HKN2 : Hid (Kn keys log (tickS s)) := HKN.out.mono (tick_keys R1.out.wf)
        have HGI2 := Lib.hid (HGI.out.tick R1.out.wf)
        go_wp2_with (first
          | (go_at_call 47; refine (R1.out.tick).mono ?_; rintro E w5 ⟨vs, rfl, a5, r5, ol5⟩
             have R5 : Hid (Rq B o dg a5 (tickS s) log r (k + 1) w5) := ⟨r5.p, r5.hr, r5.hd, r5.wf, Nat.le_trans r5.n (Nat.le_succ k), r5.ho, r5.hs⟩
             have K5 := Lib.hid (ol5.ks K1.out)
             clear r5 ol5))
        go_meet
        exact ⟨r, _, _, _, keys, Ak, nk, ck, rfl, rfl, R5.out, K5.out, HKN2.out, HGI2.out, by omega⟩
    by_cases hk4 : pk = 4
    · skip
      as_aux_lemma =>
        have k0b : (pk == 0) = false := by simp [hk0]
        have k1b : (pk == 1) = false := by simp [hk1]
        have k2b : (pk == 2) = false := by simp [hk2]
        have k3b : (pk == 3) = false := by simp [hk3]
        have k4b : (pk == 4) = true := by simp [hk4]
        clear hk0 hk1 hk2 hk3 hk4
        have BO1 := Lib.hid (BO.out _ R1.out.p.ho)
        cases hop : opF log (blankS o 0 (dvOf (log.map encB)) log.length) with
        | none =>
          have HOP := Lib.hid hop
          have hrm : Hid (roRoom o < (keys.length : Int)) := HKN.out.none hop
          clear hop
          have hown := own_count K1.out.own
          subst hown
          go_wp2_with (first
            | (with_reducible refine wpl_load rfl 23 _ rfl g2 rfl 23 #[.int .i64 o.n, .int .i64 o.q, .int .i64 o.r, .int .i64 o.t1, .int .i64 o.t2] _ (by first | exact BO5.out | exact BO1.out) Tryz.underlying23 rfl (by kernel_rfl) ?_)
            | (go_at_call 16; refine (HRO.out _).mono ?_; rintro E w4 ⟨rfl, o4⟩
               have R4 := Lib.hid (R1.out.keep o4)
               clear o4)
            | (go_at_call 15; refine (R4.out.reopen_no hm60 HOP.out).mono ?_; rintro E w5 ⟨rfl, o5⟩
               have P5 : Hid (Only none_ B w5) := R4.out.p.ho.trans' o5 (fun b hb hf => by have := (R4.out.p.all_ge hf).1; omega)
               have BO5 := Lib.hid (BO.out _ P5.out)
               clear o5)
            | (go_at_call 48; refine (HRM.out _).mono ?_; rintro E w6 ⟨rfl, o6⟩
               have P6 := Lib.hid (O0.out.trans (P5.out.trans o6))
               clear o6))
          go_ret
          refine ⟨?_, P6.out⟩
          have := hrm.out
          first | (simp; omega) | simp [this] | trace_state
        | some s' =>
          have HOP := Lib.hid hop
          have HKN2 := Lib.hid (HKN.out.open hop)
          have HGI2 : Hid (Gi s') := Gi.open hop
          clear hop
          go_wp2_with (first
            | (with_reducible refine wpl_load rfl 23 _ rfl g2 rfl 23 #[.int .i64 o.n, .int .i64 o.q, .int .i64 o.r, .int .i64 o.t1, .int .i64 o.t2] _ BO1.out Tryz.underlying23 rfl (by kernel_rfl) ?_)
            | (go_at_call 16; refine (HRO.out _).mono ?_; rintro E w4 ⟨rfl, o4⟩
               have R4 := Lib.hid (R1.out.keep o4)
               have K4 := Lib.hid (K1.out.keep o4)
               clear o4)
            | (go_at_call 15; refine (R4.out.reopen hm60 HOP.out).mono ?_; rintro E w5 ⟨a5, r9, rfl, r5, ol5⟩
               have R5 : Hid (Rq B o dg a5 s' log r9 (k + 1) w5) := ⟨r5.p, r5.hr, r5.hd, r5.wf, Nat.le_trans r5.n (Nat.le_succ k), r5.ho, r5.hs⟩
               have K5 := Lib.hid (ol5.ks K4.out)
               clear r5 ol5))
          go_meet
          exact ⟨r9, _, _, _, keys, Ak, nk, ck, rfl, rfl, R5.out, K5.out, HKN2.out, HGI2.out, by omega⟩
    as_aux_lemma =>
      have k0b : (pk == 0) = false := by simp [hk0]
      have k1b : (pk == 1) = false := by simp [hk1]
      have k2b : (pk == 2) = false := by simp [hk2]
      have k3b : (pk == 3) = false := by simp [hk3]
      have k4b : (pk == 4) = false := by simp [hk4]
      clear hk0 hk1 hk2 hk3 hk4
      have R5 : Hid (Rq B o dg a s log r (k + 1) wr) := ⟨R1.out.p, R1.out.hr, R1.out.hd, R1.out.wf, Nat.le_trans R1.out.n (Nat.le_succ k), R1.out.ho, R1.out.hs⟩
      go_wp2_with fail
      go_meet
      exact ⟨r, _, _, _, keys, Ak, nk, ck, rfl, rfl, R5.out, K1.out, HKN.out, HGI.out, by omega⟩
end Go.Proofs.YtoohpcomnhfgpaaGreat
end
