/- What the document's Hash gives. No statement of the seat is proved here. -/
import Derived.Test.YtkailngpmodfhaaSmA
namespace Go.Proofs.Ytkailngpmodfhaa
open Go.RowKit
set_option maxRecDepth 100000
set_option linter.all false

set_option maxHeartbeats 1600000 in
theorem rf_hash (e : En) (w : World) :
    Calls Try.prog 33 #[.agg #[.string e.k, .string e.v, .bool e.d, .int .i64 e.s.c, .int .i64 e.s.s, .int .i64 e.a.c, .int .i64 e.a.s, .int .i64 e.p, .int .i64 e.g]] w fun E w' => E = .returned (.int .u64 ((hsh e : Nat) : Int)) ∧ Only none_ w w' := by
  have B0 := Lib.hid (Blk.new w 73 #[.string e.k, .string e.v, .bool e.d, .int .i64 e.s.c, .int .i64 e.s.s, .int .i64 e.a.c, .int .i64 e.a.s, .int .i64 e.p, .int .i64 e.g])
  have O0 := Lib.hid ((Only.refl none_ w).alloc (.cells #[.string e.k, .string e.v, .bool e.d, .int .i64 e.s.c, .int .i64 e.s.s, .int .i64 e.a.c, .int .i64 e.a.s, .int .i64 e.p, .int .i64 e.g] 73))
  by_cases hc : enCheck e = 0
  · obtain ⟨m, hm, ok, _, _⟩ := chk_ne hc
    have hen := fun w => rf_bytes m w ok
    have hh := hsh_yes m (hm ▸ hc)
    rw [← hm] at hen hh
    rw [hh]
    have HZ := Lib.hid hc
    have hlen := front_len m
    have htk := front_take m
    have hsm : (layB m).length ≤ 1000000 := by
      have h1 := txtB_len m.k
      have h2 := txtB_len m.v
      have h3 := ok.1
      have h4 := ok.2.1
      simp only [layB, List.length_append, leBytes_len, h1, h2, List.length_cons, List.length_nil]
      omega
    obtain ⟨fs, hfs⟩ : ∃ fs, frontB m = fs := ⟨_, rfl⟩
    obtain ⟨bs, hbs⟩ : ∃ bs, layB m = bs := ⟨_, rfl⟩
    rw [hfs] at hlen htk ⊢
    rw [hbs] at hen hlen htk hsm
    obtain ⟨F, hF⟩ : ∃ F, fs.length = F := ⟨_, rfl⟩
    rw [hF] at hlen htk
    obtain ⟨N, hN⟩ : ∃ N, bs.length = N := ⟨_, rfl⟩
    rw [hN] at hlen hsm
    have HEN := Lib.hid hen
    have HTK := Lib.hid htk
    have HN := Lib.hid hN
    have HF := Lib.hid hF
    have h6 : 6 ≤ N := by omega
    have hF6 : F ≤ 1000000 := by omega
    have HL := Lib.hid hlen
    have HQ : Hid (fs.take F = fs) := by rw [Hid, ← hF, List.take_length]
    clear hen hh hlen htk hfs hbs hF hN hm hc
    go_enter Try.func33, Try.ntmps33
    go_wp2_with (first
      | (refine wpl_load rfl 73 _ rfl w.heap.size rfl 73 #[.string e.k, .string e.v, .bool e.d, .int .i64 e.s.c, .int .i64 e.s.s, .int .i64 e.a.c, .int .i64 e.a.s, .int .i64 e.p, .int .i64 e.g] _ B0.out Try.underlying73 rfl (by kernel_rfl) ?_)
      | (go_at_call 34; refine (rf_check e _).mono ?_; rw [HZ.out]; rintro E w1 ⟨rfl, o1⟩
         have B1 := Lib.hid (B0.out.only o1 (fun h => h))
         have O1 := Lib.hid (O0.out.trans o1)
         clear o1)
      | (refine wpl_load rfl 73 _ rfl w.heap.size rfl 73 #[.string e.k, .string e.v, .bool e.d, .int .i64 e.s.c, .int .i64 e.s.s, .int .i64 e.a.c, .int .i64 e.a.s, .int .i64 e.p, .int .i64 e.g] _ B1.out Try.underlying73 rfl (by kernel_rfl) ?_)
      | (go_at_call 58; refine (HEN.out _).mono ?_; rintro E w3 ⟨A3, n3, c3, rfl, own3, o3⟩
         have X3 := Byt.of_own own3
         obtain rfl : n3 = N := by obtain ⟨_, _, q, _⟩ := X3; injection q with _ q _; rw [q]; exact HN.out
         have X4 := Lib.hid X3
         have O3 := Lib.hid (O1.out.trans o3)
         clear own3 o3 X3))
    go_loop [4, 5] (fun x k => ∃ j : Nat, j ≤ F ∧ k = .int .i64 j ∧ x = .int .u64 ((fnv (fs.take j) : Nat) : Int)) (fun _ k => F - (intOf k).toNat)
    case atStart => exact ⟨0, by omega, rfl, rfl⟩
    case round =>
      obtain ⟨j, hj, rfl, rfl⟩ := hrel
      have hu := fnv_lt (fs.take j)
      by_cases hlt : j < F
      · obtain ⟨A', c', he, _, _, _, h4⟩ := X4.out
        obtain ⟨b, off, rfl, _, _, hcc⟩ := h4 (by have := HN.out; have := HL.out; omega)
        injection he with he
        subst he
        have hcj := hcc j (by have := HN.out; have := HL.out; omega)
        obtain ⟨z, hz⟩ : ∃ z, fs[j]'(by have := HF.out; omega) = z := ⟨_, rfl⟩
        have hbz : bs[j]'(by have := HN.out; have := HL.out; omega) = z := by
          rw [← hz]
          have e1 := HTK.out
          subst e1
          rw [List.getElem_take]
        have hS := fnv_succ (bs := fs) (k := j) (b := z) (by rw [← hz]; exact List.getElem?_eq_getElem _)
        rw [hbz] at hcj
        obtain ⟨u, hue⟩ : ∃ u, fnv (fs.take j) = u := ⟨_, rfl⟩
        rw [hue] at hu hS ⊢
        have HS := Lib.hid hS
        have hz8 := z.toNat_lt
        have hx := fnv_xor u z hu
        have hm := fnv_wrap u z
        have hx64 : u ^^^ z.toNat < 18446744073709551616 := Nat.xor_lt_two_pow (n := 64) (by omega) (by omega)
        obtain ⟨x, hxe⟩ : ∃ x, u ^^^ z.toNat = x := ⟨_, rfl⟩
        rw [hxe] at hx hm hx64
        simp only [byt] at hcj
        have hlt2 : (j : Int) < (n3 : Int) - 6 := by have := HL.out; omega
        have hln : (j : Int) < (n3 : Int) := by omega
        have hlb : decide ((j : Int) < (n3 : Int) - 6) = true := by simpa using hlt2
        clear hS hue hz hcc h4 hxe hbz
        go_wp2
        go_round
        case rel => exact ⟨j + 1, by omega, by go_num, by rw [HS.out]⟩
        case measure => simp [intOf]; omega
      · obtain rfl : j = F := by omega
        rw [HQ.out]
        have hlb : decide ((j : Int) < (n3 : Int) - 6) = false := by have := HL.out; simp; omega
        go_wp2
        go_ret
        exact ⟨rfl, O3.out⟩
  · rw [hsh_no e hc]
    have HEN := Lib.hid (fun w => rf_check e w)
    obtain ⟨z, hz⟩ : ∃ z, enCheck e = z := ⟨_, rfl⟩
    rw [hz] at hc HEN
    have hzn : (z != 0) = true := by simp [hc]
    clear hz
    go_enter Try.func33, Try.ntmps33
    go_wp2_with (first
      | (refine wpl_load rfl 73 _ rfl w.heap.size rfl 73 #[.string e.k, .string e.v, .bool e.d, .int .i64 e.s.c, .int .i64 e.s.s, .int .i64 e.a.c, .int .i64 e.a.s, .int .i64 e.p, .int .i64 e.g] _ B0.out Try.underlying73 rfl (by kernel_rfl) ?_)
      | (go_at_call 34; refine (HEN.out _).mono ?_; rintro E w3 ⟨rfl, o3⟩
         have O3 := Lib.hid (O0.out.trans o3)
         clear o3))
    go_ret
    exact ⟨rfl, O3.out⟩
end Go.Proofs.Ytkailngpmodfhaa
