/- The call of DiskParts. The statement itself is proved in another text. -/
import Derived.Test.YtkhckgbhpfjfkaaDkE
import Derived.Test.YtkhckgbhpfjfkaaRws
import Derived.Deep.RegionHeld3
namespace Go.Proofs.Ytkhckgbhpfjfkaa
open Go.RowKit
set_option maxRecDepth 100000

theorem flatten_100 (pss : List (List UInt8)) (h : ∀ bs ∈ pss, bs.length ≤ 100) : pss.flatten.length ≤ 100 * pss.length := by
  induction pss with
  | nil => simp
  | cons a l ih =>
    have h1 := h a (by simp)
    have h2 := ih (fun b hb => h b (by simp [hb]))
    simp only [List.flatten_cons, List.length_append, List.length_cons]
    omega
section
variable {B w : World} {g s : Nat} {bs : List UInt8} {v : Value} (h : Dsk B g (fre bs s) v w)
include h
theorem fre_trim (k : Nat) (hk : k ≤ bs.length) : Calls Try.prog 45 #[.pointer (some ⟨g, 0, none⟩), .int .i64 (k : Int)] w fun e w' => e = .returned (.int .i64 0) ∧ Left_ B g v w (fre (bs.take k) (min s k)) w' := by
  have := disk_trim B g k (fre bs s) v w h
  rw [if_neg (show ¬ ((k : Int) < 0 ∨ ((fre bs s).bs.length : Int) < k) from by show ¬ ((k : Int) < 0 ∨ (bs.length : Int) < k); omega), fre_code, fre_d] at this
  exact this
end

/-- Two disks, and a slice of bytes of the call's own, made since W; they share no block. -/
structure Pt (W : World) (a b : Nat) (x y : List UInt8) (s t : Nat) (z : List UInt8) (va vb v : Value) (w : World) : Prop where
  da : Dsk W a (fre x s) va w
  db : Dsk W b (fre y t) vb w
  ov : w.ownsRow W.heap.size 5 1 v z.length (byts z)
  ab : a ≠ b
  vv : ∀ k, va.ownBlock = some k → vb.ownBlock ≠ some k
  av : ∀ k, va.ownBlock = some k → v.ownBlock ≠ some k
  bv : ∀ k, vb.ownBlock = some k → v.ownBlock ≠ some k
section
variable {W w w' : World} {a b s t : Nat} {x y z : List UInt8} {va vb v : Value}
theorem Pt.keep (p : Pt W a b x y s t z va vb v w) (o : Only none_ w w') : Pt W a b x y s t z va vb v w' :=
  ⟨p.da.keep o, p.db.keep o, owns_only p.ov o (fun _ _ h => h), p.ab, p.vv, p.av, p.bv⟩
theorem Pt.fa (p : Pt W a b x y s t z va vb v w) : ∀ k, foot b vb k → ¬ foot a va k := by
  rintro k (rfl | hk) (h | h)
  · exact p.ab h.symm
  · exact own_blk_ne p.da.ow p.db.bk (by decide) h
  · subst h; exact own_blk_ne p.db.ow p.da.bk (by decide) hk
  · exact p.vv k h hk
/-- The first one was worked on. -/
theorem Pt.doA {x' : List UInt8} {s' : Nat} (p : Pt W a b x y s t z va vb v w) (l : Left_ W a va w (fre x' s') w') : ∃ va', Pt W a b x' y s' t z va' vb v w' := by
  obtain ⟨va', d, o, m⟩ := l
  have hv : ∀ k, v.ownBlock = some k → ¬ foot a va k := by
    rintro k hk (h | h)
    · subst h; exact own_blk_ne p.ov p.da.bk (by decide) hk
    · exact p.av k h hk
  refine ⟨va', d, p.db.apart o p.fa (fun k hk => (p.da.foot_ge hk).1), owns_only p.ov o hv, p.ab, fun k hk hb => ?_, fun k hk hb => ?_, p.bv⟩
  · rcases m k hk with h | h
    · exact p.vv k h hb
    · have := (p.db.ow.lt k hb).2; omega
  · rcases m k hk with h | h
    · exact p.av k h hb
    · have := (p.ov.lt k hb).2; omega
theorem Pt.doB {y' : List UInt8} {t' : Nat} (p : Pt W a b x y s t z va vb v w) (l : Left_ W b vb w (fre y' t') w') : ∃ vb', Pt W a b x y' s t' z va vb' v w' := by
  obtain ⟨vb', d, o, m⟩ := l
  have hv : ∀ k, v.ownBlock = some k → ¬ foot b vb k := by
    rintro k hk (h | h)
    · subst h; exact own_blk_ne p.ov p.db.bk (by decide) hk
    · exact p.bv k h hk
  refine ⟨vb', p.da.apart o (fun k h1 h2 => p.fa k h2 h1) (fun k hk => (p.db.foot_ge hk).1), d, owns_only p.ov o hv, p.ab, fun k hk hb => ?_, p.av, fun k hk hb => ?_⟩
  · rcases m k hb with h | h
    · exact p.vv k hk h
    · have := (p.da.ow.lt k hk).2; omega
  · rcases m k hk with h | h
    · exact p.bv k h hb
    · have := (p.ov.lt k hb).2; omega
theorem Pt.doV {v' : Value} {z' : List UInt8} (p : Pt W a b x y s t z va vb v w) (own : w'.ownsRow W.heap.size 5 1 v' z'.length (byts z')) (hg : w.grownBy w' v.ownBlock) (m : Moved w v v') : Pt W a b x y s t z' va vb v' w' := by
  have o : Only (ownb v) w w' := (Only.refl _ w).grown hg (fun k hk => .inl hk)
  have hge : ∀ k, ownb v k → W.heap.size ≤ k := fun k hk => (p.ov.lt k hk).1
  refine ⟨p.da.apart o (fun k hf hk => ?_) hge, p.db.apart o (fun k hf hk => ?_) hge, own, p.ab, p.vv, fun k hk hb => ?_, fun k hk hb => ?_⟩
  · rcases hf with rfl | hf
    · exact own_blk_ne p.ov p.da.bk (by decide) hk
    · exact p.av k hf hk
  · rcases hf with rfl | hf
    · exact own_blk_ne p.ov p.db.bk (by decide) hk
    · exact p.bv k hf hk
  · rcases m k hb with h | h
    · exact p.av k hk h
    · have := (p.da.ow.lt k hk).2; omega
  · rcases m k hb with h | h
    · exact p.bv k hk h
    · have := (p.db.ow.lt k hk).2; omega
end

set_option maxHeartbeats 1600000 in
theorem parts_call (x : Value) (pss : List (List UInt8)) (S : Nat → Prop) (W : World) (hx : Rows_ W S x pss) (hS : ∀ b, S b → b < W.heap.size) (at_ : Int) (h0 : 0 ≤ at_) (h1 : at_ < 65536) :
    Calls Try.prog 8 #[x, .int .u16 at_] W fun e w' => e = .returned (.bool true) ∧ Below W.heap.size W w' := by
  obtain ⟨i0, hi0, hz0, hz1, hz2⟩ := info_parts u8_info
  have hv : ∃ A L c, L = pss.length ∧ x = .slice A L c := by obtain ⟨A, c, h, _⟩ := hx; exact ⟨A, _, c, rfl, h⟩
  obtain ⟨A, L, c, hL, rfl⟩ := hv
  have HB := Lib.hid hx
  have HS := Lib.hid hS
  have HL := Lib.hid hL
  have tok1 : True := trivial
  by_cases hl : 30 < L
  · have hl' : (30 : Int) < L := by omega
    clear hx hS hL
    go_enter Try.func8, Try.ntmps8
    go_wp2_with (first
      | (go_at_call 32; have _t := tok1; clear tok1; refine (dk_speaks W).mono ?_; rintro e w1 ⟨rfl, o1⟩; have O1 := Lib.hid o1; clear o1; have tok2 : True := trivial)
      | (go_at_call 32; have _t := tok2; clear tok2; refine (dk_speaks w1).mono ?_; rintro e w2 ⟨rfl, o2⟩; have O2 := Lib.hid (O1.out.trans o2); clear o2))
    go_ret
    exact ⟨rfl, O2.out.below (Nat.le_refl _) (fun _ h => h.elim)⟩
  · have hl' : ¬ (30 : Int) < L := by omega
    clear hx hS hL
    go_enter Try.func8, Try.ntmps8
    go_wp2_with (first
      | (go_at_call 32; refine (dk_speaks W).mono ?_; rintro e w1 ⟨rfl, o1⟩; have O1 := Lib.hid o1; clear o1)
      | (go_at_call 34; have _t := tok1; clear tok1; refine (disk_new W w1 O1.out).mono ?_; rintro e w2 ⟨a, rfl, ha, h2, o2⟩
         have H2 := Lib.hid h2
         have O2 := Lib.hid (O1.out.trans o2)
         clear h2 o2 ha
         have tok2 : True := trivial)
      | (go_at_call 34; have _t := tok2; clear tok2; refine (disk_new W w2 O2.out).mono ?_; rintro e w3 ⟨b, rfl, hb, h3, o3⟩
         have P3 : Hid (Pt W a b [] [] 0 0 [] (.slice none 0 0) (.slice none 0 0) (.slice none 0 0) w3) := ⟨H2.out.keep o3, h3, ⟨by simp, .inl ⟨rfl, rfl⟩⟩, by have := H2.out.bk.lt; omega, by simp [Value.ownBlock], by simp [Value.ownBlock], by simp [Value.ownBlock]⟩
         clear h3 o3 hb))
    go_loopw [7, 35] (fun v k wr => ∃ j : Nat, j ≤ L ∧ k = .int .i64 j ∧ (∀ bs ∈ pss.take j, bs.length ≤ 100) ∧ ∃ va, Pt W a b (pss.take j).flatten [] 0 0 (pss.take j).flatten va (.slice none 0 0) v wr) (fun _ k _ => L - (intOf k).toNat)
    case atStart => exact ⟨0, by omega, rfl, by simp, _, by rw [List.take_zero, List.flatten_nil]; exact P3.out⟩
    case round =>
      obtain ⟨j, hj, rfl, hall, va, hp⟩ := hrel
      by_cases hlb : j < L
      · obtain ⟨b0, off, A1, L1, c1, hlB, eA, hcj, hL1, hbx⟩ := rows_at (HB.out.only hp.da.ho (fun _ _ h => h)) hlb
        subst eA
        by_cases h100 : L1 ≤ 100
        · have h100' : ¬ (100 : Int) < L1 := by omega
          have hf : Hid ((pss.take (j + 1)).flatten = (pss.take j).flatten ++ pss[j]) := by
            rw [Hid, ← List.take_append_getElem hlB, List.flatten_append, List.flatten_cons, List.flatten_nil, List.append_nil]
          have hall2 : Hid (∀ bs ∈ pss.take (j + 1), bs.length ≤ 100) := by
            rw [← List.take_append_getElem hlB]
            intro bs hbs
            rcases List.mem_append.1 hbs with h | h
            · exact hall bs h
            · have e : bs = pss[j] := by simpa using h
              rw [e]; omega
          have hle : (pss.take j).flatten.length + pss[j].length ≤ 1048576 := by
            have := flatten_100 _ hall
            have : (pss.take j).length ≤ 30 := by simp; omega
            omega
          have hle2 : (pss.take j).flatten.length + pss[j].length ≤ 140737488355328 := by omega
          have HLE := Lib.hid hle
          have HX := Lib.hid hbx
          have HP := Lib.hid hp
          have NA : Hid (∀ b, S b → b ≠ a) := fun b' hb e => by have := HS.out b' hb; have := hp.da.ge; omega
          have hsz := hp.da.ho.size
          obtain ⟨A2, n2, c2, rfl⟩ := own_shape hp.ov
          clear hp hbx hall hle hL1
          go_wp2_with (first
            | (go_at_call 42; refine (fre_append HP.out.da _ pss[j] S HX.out NA.out HLE.out).mono ?_; rintro e w4 ⟨rfl, l4⟩
               obtain ⟨va4, p4⟩ := HP.out.doA l4
               have o4 : Only (foot a va) wr w4 := by obtain ⟨_, _, o, _⟩ := l4; exact o
               have P4 := Lib.hid p4
               have X4 := Lib.hid (HX.out.only o4 (fun b' hb hf => by have := (HP.out.da.foot_ge hf).1; have := HS.out b' hb; omega))
               have hsz4 := p4.da.ho.size
               clear p4 l4 o4)
            | (at_builtin; refine wpList_append_byt _ rfl (.tmp 46) (.tmp 47) _ rfl W.heap.size 5 i0 (.int .u8 0) Try.underlying29 hi0 hz0 hz1 hz2 rfl _ _ rfl P4.out.ov S (.slice A1 L1 c1) pss[j] rfl X4.out hle2 hsz4 ?_
               intro A5 n5 c5 w5 hown5 hgrow5 hmv5
               have P5 := Lib.hid (P4.out.doV hown5 hgrow5 hmv5)
               clear hown5 hgrow5 hmv5))
          go_roundw
          case rel => exact ⟨j + 1, by omega, by go_num, hall2.out, va4, by rw [hf.out]; exact P5.out⟩
          case measure => simp [intOf]; omega
        · have h100' : (100 : Int) < L1 := by omega
          have HP := Lib.hid hp
          clear hp hbx hall hL1
          go_wp2
          go_ret
          exact ⟨rfl, HP.out.da.ho.below (Nat.le_refl _) (fun _ h => h.elim)⟩
      · have hk : pss.take j = pss := List.take_of_length_le (by have := HL.out; omega)
        rw [hk] at hp hall
        have hzl : pss.flatten.length ≤ 3000 := by have := flatten_100 _ hall; have := HL.out; omega
        clear hk hall
        generalize pss.flatten = zs at hp hzl
        obtain ⟨A2, n2, c2, rfl⟩ := own_shape hp.ov
        obtain rfl := own_len hp.ov
        obtain ⟨kk, hkk⟩ : ∃ kk : Nat, at_.toNat % (zs.length + 1) = kk := ⟨_, rfl⟩
        have hkz : kk ≤ zs.length := by rw [← hkk]; have := Nat.mod_lt at_.toNat (Nat.succ_pos zs.length); exact Nat.le_of_lt_succ this
        have hrem : Int.tmod at_ ((zs.length : Int) + 1) = (kk : Int) := by
          rw [show at_ = ((at_.toNat : Nat) : Int) from by omega, show ((zs.length : Int) + 1) = ((zs.length + 1 : Nat) : Int) from by omega, ← Int.ofNat_tmod, hkk]
        have hw1 : IntKind.i64.wrap ((zs.length : Int) + 1) = (zs.length : Int) + 1 := IntWalk.i64_in _ (by omega)
        have hw2 : IntKind.i64.wrap at_ = at_ := IntWalk.i64_in _ (by omega)
        have HP := Lib.hid hp
        have HZ := Lib.hid hzl
        have HK := Lib.hid hkz
        have EK : Hid (min 0 kk + kk = kk ∧ (zs.take kk).take kk = zs.take kk) := ⟨by omega, by rw [List.take_take, Nat.min_self]⟩
        clear hp hzl hkk
        have tok3 : True := trivial
        go_wp2_with (first
          | (go_at_call 42; refine (fre_append HP.out.db _ zs _ (Byt.of_own HP.out.ov) (fun k hk e => by subst e; exact own_blk_ne HP.out.ov HP.out.db.bk (by decide) hk) (by have := HZ.out; simp; omega)).mono ?_; rintro e w4 ⟨rfl, l4⟩
             obtain ⟨vb4, p4⟩ := HP.out.doB l4
             have P4 : Hid (Pt W a b zs zs 0 0 zs va vb4 _ w4) := p4
             clear p4 l4)
          | (go_at_call 40; have _t := tok3; clear tok3; refine (fre_read P4.out.da).mono ?_; rintro e w5 ⟨A5, n5, c5, rfl, own5, o5⟩
             have P5 := Lib.hid (P4.out.keep o5)
             have X5 := Lib.hid (Byt.of_own own5)
             clear own5 o5
             have tok4 : True := trivial)
          | (go_at_call 40; have _t := tok4; clear tok4; refine (fre_read P5.out.db).mono ?_; rintro e w6 ⟨A6, n6, c6, rfl, own6, o6⟩
             have P6 := Lib.hid (P5.out.keep o6)
             have s5 := run_bytes_string w6 _ _ _ (X5.out.only o6 (fun _ _ h => h))
             have s6 := run_bytes_string w6 _ _ _ (Byt.of_own own6)
             clear own6 o6
             have tok5 : True := trivial)
          | (go_at_call 45; refine (fre_trim P6.out.da kk HK.out).mono ?_; rintro e w7 ⟨rfl, l7⟩
             obtain ⟨va7, p7⟩ := P6.out.doA l7
             have P7 := Lib.hid p7
             clear p7 l7)
          | (go_at_call 41; refine (fre_crash P7.out.da (zs.length : Int) kk (by have := HK.out; rw [Int.toNat_natCast, List.length_take]; omega)).mono ?_; rintro e w8 ⟨rfl, l8⟩
             rw [EK.out.1, EK.out.2] at l8
             obtain ⟨va8, p8⟩ := P7.out.doA l8
             have P8 := Lib.hid p8
             clear p8 l8)
          | (go_at_call 40; have _t := tok5; clear tok5; refine (fre_read P8.out.da).mono ?_; rintro e w9 ⟨A9, n9, c9, rfl, own9, o9⟩
             have P9 := Lib.hid (P8.out.keep o9)
             have X9 := Lib.hid ((Byt.of_own own9).mono (T := fun k => w8.heap.size ≤ k) (fun k _ hk => (own9.lt k hk).1))
             have S9 : Hid (∀ k, foot b vb4 k → k < w8.heap.size) := fun k hk => (P8.out.db.foot_ge hk).2
             clear own9 o9))
        obtain ⟨hsl, hso⟩ := own_hi Try.underlying29 hi0 P9.out.ov kk HK.out kk rfl
        have z1 := run_bytes_string w9.drew _ _ _ X9.out.drew
        have z2 := run_bytes_string w9.drew _ _ _ (Byt.of_own hso).drew
        have HO := Lib.hid hso
        have EL : Hid (((fre (zs.take (0 + 0)) (0 + 0)).bs.length : Int) = 0) := by simp [Hid, fre]
        clear hso
        go_region_held3 (fun w' => (convert 29 9 (.slice A9 n9 c9)).run Try.prog w' = .ok (.string ⟨(zs.take kk).toArray⟩) w' ∧ (convert 29 9 (.slice A2 kk c2)).run Try.prog w' = .ok (.string ⟨(zs.take kk).toArray⟩) w')
          (first | with_reducible exact ⟨z1, z2⟩ | with_reducible exact ⟨y1, y2⟩)
          (first
            | (go_at_call 39; refine (disk_safe W a _ _ _ P9.out.da.drew).mono ?_; rintro e w10 ⟨rfl, rfl⟩
               rw [show ((fre (zs.take kk) kk).safe : Int) = kk from rfl])
            | (go_at_call 39; refine (disk_safe W b _ _ _ P9.out.db.drew).mono ?_; rintro e w10 ⟨rfl, rfl⟩
               rw [show ((fre zs 0).safe : Int) = 0 from rfl])
            | (go_at_call 41; refine (fre_crash P9.out.db.drew 0 0 (by simp)).mono ?_; rintro e w11 ⟨rfl, l11⟩
               have o11 : Only (foot b vb4) w9.drew w11 := by obtain ⟨_, _, o, _⟩ := l11; exact o
               have y1 := run_bytes_string w11 _ _ _ (X9.out.drew.only o11 (fun k h1 h2 => by have := S9.out k h2; omega))
               have y2 := run_bytes_string w11 _ _ _ ((Byt.of_own HO.out).drew.only o11 (fun k h1 h2 => by
                 rcases h2 with h2 | h2
                 · subst h2; exact own_blk_ne HO.out P9.out.db.bk (by decide) h1
                 · exact P9.out.bv k h2 (by cases A2 <;> exact h1)))
               obtain ⟨vb11, d11, _, _⟩ := l11
               have D11 := Lib.hid d11
               clear o11 d11)
            | (go_at_call 38; refine (disk_len W b _ _ _ D11.out).mono ?_; rintro e w12 ⟨rfl, rfl⟩
               rw [EL.out]))
        all_goals go_wp2_with fail
        go_ret
        exact ⟨rfl, D11.out.ho.below (Nat.le_refl _) (fun _ h => h.elim)⟩
end Go.Proofs.Ytkhckgbhpfjfkaa
