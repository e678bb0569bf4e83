/- A root, bit by bit. -/
import Derived.Test.YtbdmncpibnligaaGreatDoorBaz

namespace Go.Proofs.YtbdmncpibnligaaGreatDoor
open Go.RowKit 
set_option linter.unusedVariables false
set_option linter.unusedSimpArgs false
set_option maxRecDepth 100000
set_option maxHeartbeats 4000000
theorem or_bit {x i : Nat} (h : x % 2 ^ (i + 1) = 0) : x ||| 2 ^ i = x + 2 ^ i := by
  have h1 : x = 2 ^ (i + 1) * (x / 2 ^ (i + 1)) := by have := Nat.div_add_mod x (2 ^ (i + 1)); omega
  have h2 : 2 ^ i < 2 ^ (i + 1) := Nat.pow_lt_pow_right (by decide) (by omega)
  have h3 := Nat.two_pow_add_eq_or_of_lt h2 (x / 2 ^ (i + 1))
  rw [← h1] at h3
  exact h3.symm
theorem bit_mod {x i : Nat} (h : x % 2 ^ (i + 1) = 0) : x % 2 ^ i = 0 ∧ (x + 2 ^ i) % 2 ^ i = 0 := by
  have h1 : x % 2 ^ i = 0 := Nat.mod_eq_zero_of_dvd (Nat.dvd_trans ⟨2, by rw [Nat.pow_succ]⟩ (Nat.dvd_of_mod_eq_zero h))
  exact ⟨h1, by rw [Nat.add_mod_right]; exact h1⟩
theorem bit_lt {x i t : Nat} (h : x % 2 ^ (i + 1) = 0) (hi : i < t) (hx : x < 2 ^ t) : x + 2 ^ i < 2 ^ t := by
  have h1 : 2 ^ (i + 1) ∣ 2 ^ t := Nat.pow_dvd_pow 2 (by omega)
  obtain ⟨c, hc⟩ := Nat.dvd_of_mod_eq_zero h
  obtain ⟨d, hd⟩ := h1
  have h2 := Nat.two_pow_pos i
  rw [hc, hd] at hx
  have h3 : c < d := Nat.lt_of_mul_lt_mul_left hx
  have h4 : 2 ^ (i + 1) * (c + 1) ≤ 2 ^ (i + 1) * d := Nat.mul_le_mul_left _ h3
  have h5 : 2 ^ (i + 1) = 2 * 2 ^ i := by rw [Nat.pow_succ]; omega
  rw [hc, hd]
  rw [Nat.mul_add, Nat.mul_one] at h4
  omega
theorem pow_sn {x t k e : Nat} (hx : x < 2 ^ t) (hk : t * k ≤ 12700) (he : e ≤ k) : (limbs (x ^ e)).length ≤ 398 := by
  have h1 : x ^ e ≤ (2 ^ t) ^ e := Nat.pow_le_pow_left (by omega) e
  rw [← Nat.pow_mul] at h1
  obtain ⟨b, hb⟩ : ∃ b, b = 12701 := ⟨_, rfl⟩
  have h2 : 2 ^ (t * e) < 2 ^ b := Nat.pow_lt_pow_right (by decide) (Nat.lt_of_le_of_lt (Nat.mul_le_mul_left t he) (by omega))
  exact Sn.bits (b := b) (Nat.lt_of_le_of_lt h1 h2) (by omega)
theorem powM' (w : World) (va : Value) (x k : Nat) (hu : Un w va x) (t : Nat) (hx : x < 2 ^ t) (ht : t ≤ 12000) (hk : t * k ≤ 12700) (hn : k ≤ 100000) :
    Calls Tryz.prog 51 #[va, .int .i64 ((k : Nat) : Int)] w fun e w' => ∃ u, e = .returned u ∧ Un w' u (x ^ k) ∧ Ext w w' :=
  powM w va x k hu (Sn.bits (K := 398) hx (by omega)) (fun e he => pow_sn hx hk he) hn _ rfl
theorem powM_sn {x t k : Nat} (hx : x < 2 ^ t) (hk : t * k ≤ 12700) : Sn (x ^ k) 398 := pow_sn hx hk (Nat.le_refl _)
theorem bits_start {a t k : Nat} (ha : a < 2 ^ (t * k)) : a < (0 + 2 ^ t) ^ k := by rw [Nat.zero_add, ← Nat.pow_mul]; exact ha
theorem bitwise_calls (w : World) (va : Value) (a : Nat) (ha : Un w va a) (la : Sn a 300) (k t : Nat) (hk : 1 ≤ k) (hk2 : k ≤ 12000) (ht : t ≤ 26) (htk : t * k ≤ 12700) (ha2 : a < 2 ^ (t * k)) :
    Calls Tryz.prog 55 #[va, .int .i64 ((k : Nat) : Int), .int .i64 ((t : Nat) : Int)] w fun e w' => ∃ u, e = .returned u ∧ Un w' u (Rt.kr a k) ∧ Pl.Ex w w' := by
  refine Pl.calls_by (n := 30) (vs := [va, .int .i64 ((k : Nat) : Int), .int .i64 ((t : Nat) : Int)]) Tryz.func55 rfl (by kernel_rfl) (by simp) ?_
  repeat refine Pl.V_seq ?_
  refine Pl.V_region (by kernel_rfl) ?_
  refine Pl.qA_go trivial rfl ?_
  refine Pl.pA_end ?_
  repeat refine Pl.V_seq ?_
  refine Pl.V_region (by kernel_rfl) ?_
  refine Pl.qA_go trivial rfl ?_
  refine Pl.pA_end ?_
  repeat refine Pl.V_seq ?_
  refine Pl.V_region (by kernel_rfl) ?_
  refine Pl.qA_go trivial rfl ?_
  refine Pl.qA_b (v := .int .i64 ((t : Int) - 1)) (fun X => Pl.r_sub (Pl.w64 (by omega) (by omega)) X) trivial rfl rfl rfl rfl rfl rfl ?_
  refine Pl.qA_go trivial rfl ?_
  refine Pl.pA_end ?_
  repeat refine Pl.V_seq ?_
  refine Pl.V_block ?_
  repeat refine Pl.V_seq ?_
  refine Pl.V_sub [(0, va), (1, .int .i64 ((k : Nat) : Int)), (7, .int .u64 0), (8, .int .i64 ((t : Int) - 1))] (Pl.subl_cons rfl (Pl.subl_cons rfl (Pl.subl_cons rfl (Pl.subl_cons rfl Pl.subl_nil)))) ?_
  repeat refine Pl.V_seq ?_
  refine Pl.V_loop (fun kq l' w' => ∃ i x, i = kq ∧ Pl.Ex w w' ∧ (i ≤ t) ∧ (x < 2 ^ t) ∧ (x % 2 ^ i = 0) ∧ ((x ^ k ≤ a ∨ x = 0)) ∧ (a < (x + 2 ^ i) ^ k) ∧ l' = [(0, va), (1, .int .i64 ((k : Nat) : Int)), (7, .int .u64 ((x : Nat) : Int)), (8, .int .i64 ((i : Int) - 1))]) _ ⟨t, 0, rfl, Pl.Ex.refl _, (Nat.le_refl _), (Nat.two_pow_pos t), (Nat.zero_mod _), (.inr rfl), (bits_start ha2), rfl⟩ ?_
  rintro kq _ w1 ⟨i, x, hk1, hE1, hit, hxt, hmod, hlow, hup, rfl⟩
  have sz1 := Pl.Ex.size hE1
  repeat refine Pl.V_seq ?_
  refine Pl.V_region (by kernel_rfl) ?_
  refine Pl.qA_go trivial rfl ?_
  by_cases c1 : 0 < i
  · refine Pl.qA_b (v := .bool true) (fun X => Pl.r_geq (decide_eq_true (by omega)) X) trivial rfl rfl rfl rfl rfl rfl ?_
    refine Pl.pA_end ?_
    repeat refine Pl.V_seq ?_
    refine Pl.V_true rfl ?_
    repeat refine Pl.V_seq ?_
    refine Pl.V_skip ?_
    repeat refine Pl.V_seq ?_
    refine Pl.V_block ?_
    repeat refine Pl.V_seq ?_
    refine Pl.V_region (by kernel_rfl) ?_
    obtain ⟨j, rfl⟩ : ∃ j, i = j + 1 := ⟨i - 1, by omega⟩
    rw [show (((j + 1 : Nat) : Int) - 1) = ((j : Nat) : Int) by omega]
    have h2p : 2 ^ j < 18446744073709551616 := Nat.lt_of_lt_of_le (Nat.pow_lt_pow_right (by decide) (show j < 64 by omega)) (by decide)
    have hxl := bit_lt hmod (show j < t by omega) hxt
    have h2t : 2 ^ t ≤ 2 ^ 26 := Nat.pow_le_pow_right (by decide) ht
    obtain ⟨hm1, hm2⟩ := bit_mod hmod
    obtain ⟨hs1, hs2⟩ := Rt.bit_step hup
    have hor := or_bit hmod
    obtain ⟨b, hb⟩ : ∃ b, 2 ^ j = b := ⟨_, rfl⟩
    rw [hb] at hxl hor h2p hm1 hm2 hs1 hs2
    refine Pl.qA_go trivial rfl ?_
    refine Pl.qA_b (v := .int .u64 ((b : Nat) : Int)) (fun X => nb_shl1 hb (by omega) X) trivial rfl rfl rfl rfl rfl rfl ?_
    refine Pl.qA_b (v := .int .u64 (((x + b) : Nat) : Int)) (fun X => nb_or_u64 (by omega) (by omega) hor X) trivial rfl rfl rfl rfl rfl rfl ?_
    refine Pl.qA_go trivial rfl ?_
    refine Pl.pA_end ?_
    repeat refine Pl.V_seq ?_
    refine Pl.V_region (by kernel_rfl) ?_
    refine Pl.qA_go trivial rfl ?_
    refine Pl.pA_call rfl rfl rfl rfl rfl (fun u X => Pl.enters Tryz.func37 (by kernel_rfl) rfl u X) ?_
    refine Calls.mono (ofN _ (x + b) (by omega)) ?_
    rintro e w2 ⟨v2, rfl, hv2, hE2⟩
    have sz2 := Pl.Ex.size hE2
    refine ⟨_, rfl, trivial, ?_⟩
    refine Pl.qA_go trivial rfl ?_
    refine Pl.pA_call rfl rfl rfl rfl rfl (fun u X => Pl.enters Tryz.func51 (by kernel_rfl) rfl u X) ?_
    refine Calls.mono (powM' _ _ (x + b) k hv2 t hxl (by omega) htk (by omega)) ?_
    rintro e w3 ⟨v3, rfl, hv3, hE3⟩
    have sz3 := Pl.Ex.size hE3
    refine ⟨_, rfl, trivial, ?_⟩
    refine Pl.qA_go trivial rfl ?_
    refine Pl.pA_call rfl rfl rfl rfl rfl (fun u X => Pl.enters Tryz.func45 (by kernel_rfl) rfl u X) ?_
    refine Calls.mono (cmp_B _ _ _ ((x + b) ^ k) a hv3 (Un.below ha (Pl.Ex.trans hE1 (Pl.Ex.trans hE2 hE3))) _ rfl) ?_
    rintro e w4 ⟨rfl, hE4⟩
    have sz4 := Pl.Ex.size hE4
    refine ⟨_, rfl, trivial, ?_⟩
    by_cases c4 : ((x + b) ^ k) ≤ a
    · refine Pl.qA_b (v := .bool true) (fun X => Cm.le_leq_t c4 X) trivial rfl rfl rfl rfl rfl rfl ?_
      refine Pl.pA_end ?_
      repeat refine Pl.V_seq ?_
      refine Pl.V_true rfl ?_
      repeat refine Pl.V_seq ?_
      refine Pl.V_region (by kernel_rfl) ?_
      refine Pl.qA_go trivial rfl ?_
      refine Pl.pA_end ?_
      refine Pl.V_endblock ?_
      repeat refine Pl.V_seq ?_
      refine Pl.V_region (by kernel_rfl) ?_
      refine Pl.qA_go trivial rfl ?_
      refine Pl.qA_b (v := .int .i64 ((j : Int) - 1)) (fun X => Pl.r_sub (Pl.w64 (by omega) (by omega)) X) trivial rfl rfl rfl rfl rfl rfl ?_
      refine Pl.qA_go trivial rfl ?_
      refine Pl.pA_end ?_
      repeat refine Pl.V_seq ?_
      refine Pl.V_again (k' := j) [(0, va), (1, .int .i64 ((k : Nat) : Int)), (7, .int .u64 (((x + b) : Nat) : Int)), (8, .int .i64 ((j : Int) - 1))] (Pl.subl_cons rfl (Pl.subl_cons rfl (Pl.subl_cons rfl (Pl.subl_cons rfl Pl.subl_nil)))) (by omega) ⟨j, (x + b), rfl, (Pl.Ex.trans hE1 (Pl.Ex.trans hE2 (Pl.Ex.trans hE3 hE4))), (by omega), hxl, (by rw [hb]; exact hm2), (hs1 c4).1, (by rw [hb]; exact (hs1 c4).2), rfl⟩
    · refine Pl.qA_b (v := .bool false) (fun X => Cm.le_leq_f c4 X) trivial rfl rfl rfl rfl rfl rfl ?_
      refine Pl.pA_end ?_
      repeat refine Pl.V_seq ?_
      refine Pl.V_false rfl ?_
      repeat refine Pl.V_seq ?_
      refine Pl.V_skip ?_
      refine Pl.V_endblock ?_
      repeat refine Pl.V_seq ?_
      refine Pl.V_region (by kernel_rfl) ?_
      refine Pl.qA_go trivial rfl ?_
      refine Pl.qA_b (v := .int .i64 ((j : Int) - 1)) (fun X => Pl.r_sub (Pl.w64 (by omega) (by omega)) X) trivial rfl rfl rfl rfl rfl rfl ?_
      refine Pl.qA_go trivial rfl ?_
      refine Pl.pA_end ?_
      repeat refine Pl.V_seq ?_
      refine Pl.V_again (k' := j) [(0, va), (1, .int .i64 ((k : Nat) : Int)), (7, .int .u64 ((x : Nat) : Int)), (8, .int .i64 ((j : Int) - 1))] (Pl.subl_cons rfl (Pl.subl_cons rfl (Pl.subl_cons rfl (Pl.subl_cons rfl Pl.subl_nil)))) (by omega) ⟨j, x, rfl, (Pl.Ex.trans hE1 (Pl.Ex.trans hE2 (Pl.Ex.trans hE3 hE4))), (by omega), hxt, (by rw [hb]; exact hm1), hlow, (by rw [hb]; exact hs2 c4), rfl⟩
  · refine Pl.qA_b (v := .bool false) (fun X => Pl.r_geq (decide_eq_false (by omega)) X) trivial rfl rfl rfl rfl rfl rfl ?_
    refine Pl.pA_end ?_
    repeat refine Pl.V_seq ?_
    refine Pl.V_false rfl ?_
    repeat refine Pl.V_seq ?_
    refine Pl.V_exit ?_
    repeat refine Pl.V_seq ?_
    refine Pl.V_region (by kernel_rfl) ?_
    obtain rfl : i = 0 := by omega
    have h2t : 2 ^ t ≤ 2 ^ 26 := Nat.pow_le_pow_right (by decide) ht
    have hkr : Rt.kr a k = x := Rt.kr_eq (by omega) (hlow.elim id fun e => by rw [e, Nat.zero_pow (by omega)]; omega) (by rw [Nat.pow_zero] at hup; exact hup)
    refine Pl.qA_go trivial rfl ?_
    refine Pl.pA_call rfl rfl rfl rfl rfl (fun u X => Pl.enters Tryz.func37 (by kernel_rfl) rfl u X) ?_
    refine Calls.mono (ofN _ x (by omega)) ?_
    rintro e w2 ⟨v2, rfl, hv2, hE2⟩
    have sz2 := Pl.Ex.size hE2
    refine ⟨_, rfl, trivial, ?_⟩
    refine Pl.qA_go trivial rfl ?_
    refine Pl.pA_end ?_
    repeat refine Pl.V_seq ?_
    exact Pl.post_ret rfl rfl  (⟨_, rfl, Un.as hv2 hkr.symm, (Pl.Ex.trans hE1 hE2)⟩)
end Go.Proofs.YtbdmncpibnligaaGreatDoor
/- Roots of any kind, by steps of Newton. -/
namespace Go.Proofs.YtbdmncpibnligaaGreatDoor
open Go.RowKit 
set_option linter.unusedVariables false
set_option linter.unusedSimpArgs false
set_option maxRecDepth 100000
set_option maxHeartbeats 4000000
theorem kth_t {a k t S : Nat} (hS : blen a = S) (ht : (S - 1) / k + 1 = t) (hk : 1 ≤ k) (h0 : 0 < S) : a < 2 ^ (t * k) ∧ t * k ≤ S + k ∧ a < 2 ^ (k * t) := by
  have h1 := Nat.div_add_mod (S - 1) k
  have h2 := Nat.mod_lt (S - 1) (show 0 < k by omega)
  have h3 : t * k = k * ((S - 1) / k) + k := by rw [← ht, Nat.add_mul, Nat.one_mul, Nat.mul_comm]
  have h4 : a < 2 ^ (t * k) := Nat.lt_of_lt_of_le (by have := lt_pow_blen a; rwa [hS] at this) (Nat.pow_le_pow_right (by decide) (by omega))
  exact ⟨h4, by omega, by rw [Nat.mul_comm]; exact h4⟩
theorem kth_cut {t A cut : Nat} (h : ¬ t ≤ A + 6) (hc : t - (t + A) / 2 - 2 = cut) : 2 ≤ cut ∧ cut ≤ t := by omega
theorem kth_start {a k cut s : Nat} (hk : k ≠ 0) (hs : Rt.kr (a / 2 ^ (k * cut)) k = s) : a < ((s + 1) * 2 ^ cut) ^ k ∧ s * 2 ^ cut ≤ Rt.kr a k := by
  have h := Rt.kr_cut a cut hk
  rw [hs] at h
  refine ⟨?_, by rw [h]; exact Nat.div_mul_le_self _ _⟩
  have h1 := Rt.kr_lt a hk
  refine Nat.lt_of_lt_of_le h1 (Nat.pow_le_pow_left ?_ k)
  have h2 := Nat.lt_mul_div_succ (Rt.kr a k) (Nat.two_pow_pos cut)
  rw [← h, Nat.mul_comm] at h2
  omega
theorem kth_x {a k t cut s : Nat} (hk : k ≠ 0) (ha : a < 2 ^ (k * t)) (hc : cut ≤ t) (hs : s * 2 ^ cut ≤ Rt.kr a k) : (s + 1) * 2 ^ cut < 2 ^ (t + 1) := by
  have h1 := Rt.kr_lt_pow hk ha
  have h2 : 2 ^ cut ≤ 2 ^ t := Nat.pow_le_pow_right (by decide) hc
  rw [Nat.add_mul, Nat.one_mul, Nat.pow_succ]
  omega
theorem kth_up {a k cut : Nat} (ha : a ≠ 0) (hk : 1 ≤ k) (hc : 2 ≤ cut) : a / 2 ^ (k * cut) < a := Nat.div_lt_self (by omega) (Nat.one_lt_two_pow (Nat.mul_ne_zero (by omega) (by omega)))
theorem kth_bits {t k S : Nat} (h : t * k ≤ S + k) (hS : S + 3 * k ≤ 12000) (hk : 1 ≤ k) : (t + 1) * (k - 1) ≤ 12700 ∧ t ≤ 11998 := by
  have h1 : (t + 1) * (k - 1) ≤ (t + 1) * k := Nat.mul_le_mul_left _ (by omega)
  have h2 : (t + 1) * k = t * k + k := by rw [Nat.add_mul, Nat.one_mul]
  have h3 : t * 1 ≤ t * k := Nat.mul_le_mul_left t hk
  omega
theorem kth_next {a k x m : Nat} (hk : k = m + 1) (ha : a ≠ 0) (hx : 0 < x) : 0 < (x * m + a / x ^ m) / k ∧ Rt.kr a k ≤ (x * m + a / x ^ m) / k := by
  subst hk
  exact ⟨Rt.step_pos ha hx, Rt.step_ge (Rt.kr_le a (by omega)) hx⟩
theorem kth_stop {a k x m : Nat} (hk : k = m + 1) (hx : 0 < x) (hr : Rt.kr a k ≤ x) (h : x ≤ (x * m + a / x ^ m) / k) : Rt.kr a k = x := by
  subst hk
  exact Nat.le_antisymm hr (Rt.le_kr (by omega) (Rt.step_stop hx h))
theorem kth_sz {a k cut S : Nat} (hS : blen a = S) (h : S + 3 * k ≤ 12000) : blen (a / 2 ^ (k * cut)) + 3 * k ≤ 12000 := by
  have := blen_mono (Nat.div_le_self a (2 ^ (k * cut)))
  omega
theorem kth_calls (a : Nat) : ∀ (w : World) (va : Value) (k : Nat), Un w va a → Sn a 300 → 1 ≤ k → k ≤ 1000000 → (k < blen a → blen a + 3 * k ≤ 12000) →
    Calls Tryz.prog 33 #[va, .int .i64 ((k : Nat) : Int)] w fun e w' => ∃ u, e = .returned u ∧ Un w' u (Rt.kr a k) ∧ Pl.Ex w w' := by
  induction a using Nat.strongRecOn with
  | _ a ih =>
  intro w va k ha la hk hk6 hsz
  refine Pl.calls_by (n := 110) (vs := [va, .int .i64 ((k : Nat) : Int)]) Tryz.func33 rfl (by kernel_rfl) (by simp) ?_
  repeat refine Pl.V_seq ?_
  refine Pl.V_region (by kernel_rfl) ?_
  refine Pl.qA_go trivial rfl ?_
  refine Pl.pA_end ?_
  repeat refine Pl.V_seq ?_
  refine Pl.V_scope ?_
  repeat refine Pl.V_seq ?_
  refine Pl.V_region (by kernel_rfl) ?_
  refine Pl.qA_go trivial rfl ?_
  refine Pl.pA_call rfl rfl rfl rfl rfl (fun u X => Pl.enters Tryz.func38 (by kernel_rfl) rfl u X) ?_
  refine Calls.mono (bits_B _ _ a ha (Sn.le la (by decide)) _ rfl) ?_
  rintro e w1 ⟨rfl, hE1⟩
  have sz1 := Pl.Ex.size hE1
  refine ⟨_, rfl, trivial, ?_⟩
  refine Pl.qA_go trivial rfl ?_
  refine Pl.pA_end ?_
  repeat refine Pl.V_seq ?_
  refine Pl.V_block ?_
  repeat refine Pl.V_seq ?_
  refine Pl.V_region (by kernel_rfl) ?_
  refine Pl.qA_go trivial rfl ?_
  by_cases c1 : k = 1
  · refine Pl.qA_b (v := .bool true) (fun X => Pl.r_eql (Pl.e_t (by omega)) X) trivial rfl rfl rfl rfl rfl rfl ?_
    refine Pl.qA_go trivial rfl ?_
    refine Pl.pA_end ?_
    repeat refine Pl.V_seq ?_
    refine Pl.V_true rfl ?_
    repeat refine Pl.V_seq ?_
    refine Pl.V_region (by kernel_rfl) ?_
    refine Pl.qA_go trivial rfl ?_
    refine Pl.pA_end ?_
    repeat refine Pl.V_seq ?_
    refine Pl.V_ret fun aQ hQ => ?_
    repeat first | refine Pl.ret_then ?_ | refine Pl.Ks_ret ?_ | refine Pl.ret_block ?_ | refine Pl.ret_goto ?_
    exact Pl.at_ret1 hQ rfl rfl  (⟨_, rfl, Un.as (Un.below ha hE1) (by subst c1; exact (Rt.kr_one a).symm), hE1⟩)
  · refine Pl.qA_b (v := .bool false) (fun X => Pl.r_eql (Pl.e_f (by omega)) X) trivial rfl rfl rfl rfl rfl rfl ?_
    refine Pl.qA_go trivial rfl ?_
    by_cases c2 : blen a = 0
    · refine Pl.qA_b (v := .bool true) (fun X => Pl.r_eql (Pl.e_t (by omega)) X) trivial rfl rfl rfl rfl rfl rfl ?_
      refine Pl.qA_go trivial rfl ?_
      refine Pl.pA_end ?_
      repeat refine Pl.V_seq ?_
      refine Pl.V_true rfl ?_
      repeat refine Pl.V_seq ?_
      refine Pl.V_region (by kernel_rfl) ?_
      refine Pl.qA_go trivial rfl ?_
      refine Pl.pA_end ?_
      repeat refine Pl.V_seq ?_
      refine Pl.V_ret fun aQ hQ => ?_
      repeat first | refine Pl.ret_then ?_ | refine Pl.Ks_ret ?_ | refine Pl.ret_block ?_ | refine Pl.ret_goto ?_
      exact Pl.at_ret1 hQ rfl rfl  (⟨_, rfl, Un.as (Un.below ha hE1) (by have h0 : a = 0 := (Nat.eq_zero_or_pos a).elim id (fun hp => by have := blen_pos (n := a) (by omega); omega); rw [h0]; exact (Rt.kr_zero (by omega)).symm), hE1⟩)
    · refine Pl.qA_b (v := .bool false) (fun X => Pl.r_eql (Pl.e_f (by omega)) X) trivial rfl rfl rfl rfl rfl rfl ?_
      refine Pl.qA_go trivial rfl ?_
      refine Pl.pA_end ?_
      repeat refine Pl.V_seq ?_
      refine Pl.V_false rfl ?_
      repeat refine Pl.V_seq ?_
      refine Pl.V_region (by kernel_rfl) ?_
      refine Pl.qA_go trivial rfl ?_
      by_cases c3 : k ≥ (blen a)
      · refine Pl.qA_b (v := .bool true) (fun X => Pl.r_geq (decide_eq_true (by omega)) X) trivial rfl rfl rfl rfl rfl rfl ?_
        refine Pl.qA_go trivial rfl ?_
        refine Pl.pA_end ?_
        repeat refine Pl.V_seq ?_
        refine Pl.V_true rfl ?_
        repeat refine Pl.V_seq ?_
        refine Pl.V_region (by kernel_rfl) ?_
        refine Pl.qA_bs (e := 36) (n := 1) [.int .u32 1] rfl rfl rfl rfl (by kernel_rfl) (fun Y hY => trivial) ?_
        intro N4 w2 hE2 hN_N4 k_N4_0
        have z_N4 := Pl.Cb.lt k_N4_0
        have sz2 := Pl.Ex.size hE2
        refine Pl.qA_go trivial rfl ?_
        refine Pl.pA_end ?_
        have hl5 := Un.one (x := 1) k_N4_0 rfl (by omega)
        repeat refine Pl.V_seq ?_
        refine Pl.V_ret fun aQ hQ => ?_
        repeat first | refine Pl.ret_then ?_ | refine Pl.Ks_ret ?_ | refine Pl.ret_block ?_ | refine Pl.ret_goto ?_
        exact Pl.at_ret1 hQ rfl rfl  (⟨_, rfl, Un.as hl5 (Rt.kr_big (fun e => c2 (by rw [e]; exact blen_zero)) (Nat.lt_of_lt_of_le (lt_pow_blen a) (Nat.pow_le_pow_right (by decide) c3))).symm, (Pl.Ex.trans hE1 hE2)⟩)
      · refine Pl.qA_b (v := .bool false) (fun X => Pl.r_geq (decide_eq_false (by omega)) X) trivial rfl rfl rfl rfl rfl rfl ?_
        refine Pl.qA_go trivial rfl ?_
        refine Pl.pA_end ?_
        repeat refine Pl.V_seq ?_
        refine Pl.V_false rfl ?_
        repeat refine Pl.V_seq ?_
        refine Pl.V_region (by kernel_rfl) ?_
        refine Pl.qA_go trivial rfl ?_
        by_cases c4 : k = 2
        · refine Pl.qA_b (v := .bool true) (fun X => Pl.r_eql (Pl.e_t (by omega)) X) trivial rfl rfl rfl rfl rfl rfl ?_
          refine Pl.qA_go trivial rfl ?_
          refine Pl.pA_end ?_
          repeat refine Pl.V_seq ?_
          refine Pl.V_true rfl ?_
          repeat refine Pl.V_seq ?_
          refine Pl.V_region (by kernel_rfl) ?_
          refine Pl.qA_go trivial rfl ?_
          refine Pl.pA_call rfl rfl rfl rfl rfl (fun u X => Pl.enters Tryz.func16 (by kernel_rfl) rfl u X) ?_
          refine Calls.mono (sqrt_calls a _ _ (Un.below ha hE1) la) ?_
          rintro e w2 ⟨v5, v6, rfl, hv5, hv6, hE2⟩
          have sz2 := Pl.Ex.size hE2
          refine ⟨_, rfl, trivial, ?_⟩
          refine Pl.qA_go trivial rfl ?_
          refine Pl.pA_end ?_
          repeat refine Pl.V_seq ?_
          refine Pl.V_region (by kernel_rfl) ?_
          refine Pl.qA_go trivial rfl ?_
          refine Pl.pA_end ?_
          repeat refine Pl.V_seq ?_
          refine Pl.V_ret fun aQ hQ => ?_
          repeat first | refine Pl.ret_then ?_ | refine Pl.Ks_ret ?_ | refine Pl.ret_block ?_ | refine Pl.ret_goto ?_
          exact Pl.at_ret1 hQ rfl rfl  (⟨_, rfl, Un.as hv5 (by rw [show k = 2 by omega]), (Pl.Ex.trans hE1 hE2)⟩)
        · refine Pl.qA_b (v := .bool false) (fun X => Pl.r_eql (Pl.e_f (by omega)) X) trivial rfl rfl rfl rfl rfl rfl ?_
          refine Pl.qA_go trivial rfl ?_
          refine Pl.pA_end ?_
          repeat refine Pl.V_seq ?_
          refine Pl.V_false rfl ?_
          repeat refine Pl.V_seq ?_
          refine Pl.V_skip ?_
          refine Pl.V_endblock ?_
          repeat refine Pl.V_seq ?_
          refine Pl.V_draw (S := fun X => Pl.Ex w1 X) [(true, 0, 0), (true, 1, 1), (true, 2, 3), (true, 3, 7), (true, 4, 15), (true, 5, 31), (true, 6, 63), (false, 7, 127), (true, 8, 255), (true, 9, 511)] fo (by repeat first | exact Pl.post_panic | refine Pl.pn_block ?_ | refine Pl.pn_then ?_ | refine Pl.pn_ks ?_ | refine Pl.pn_goto ?_) (by kernel_rfl) (Pl.Ex.trans (Pl.Ex.refl _) (Pl.Ex.drew _)) ?_
          have hE2 := Pl.Ex.drew w1
          generalize w1.drew = w2 at *
          have sz2 := Pl.Ex.size hE2
          intro hS2
          have h3 := hsz (by omega)
          obtain ⟨S, hS⟩ : ∃ S, blen a = S := ⟨_, rfl⟩
          rw [hS] at h3
          have hS1 : 1 ≤ S ∧ k < S ∧ 3 ≤ k := by omega
          have ha0 : a ≠ 0 := fun e => by rw [e] at hS; have := blen_zero; omega
          obtain ⟨d, hd⟩ : ∃ d, (S - 1) / k = d := ⟨_, rfl⟩
          have hdl : d ≤ S := by rw [← hd]; exact Nat.le_trans (Nat.div_le_self _ _) (by omega)
          obtain ⟨t, ht⟩ : ∃ t, d + 1 = t := ⟨_, rfl⟩
          obtain ⟨hat, htk, hat2⟩ := kth_t (t := t) hS (by rw [hd]; exact ht) (by omega) (by omega)
          obtain ⟨A, hA⟩ : ∃ A, blen k = A := ⟨_, rfl⟩
          have hA14 : A ≤ 14 := by rw [← hA]; exact blen_le_of_lt (show k < 2 ^ 14 by omega)
          obtain ⟨hbt, htm⟩ := kth_bits htk h3 (by omega)
          rw [hS]
          refine Pl.qA_go hS2 rfl ?_
          refine Pl.qA_b (v := .int .i64 (((S - 1) : Nat) : Int)) (fun X => nb_sub_i64 (a := S) (b := 1) (by omega) X) hS2 rfl rfl rfl rfl rfl rfl ?_
          refine Pl.qA_go hS2 rfl ?_
          refine Pl.qA_b (v := .int .i64 ((d : Nat) : Int)) (fun X => Pl.Bn.as (nb_quo_i64 (a := (S - 1)) (b := k) (by omega) (by omega)) (by rw [hd]) X) hS2 rfl rfl rfl rfl rfl rfl ?_
          refine Pl.qA_b (v := .int .i64 ((t : Nat) : Int)) (fun X => Pl.Bn.as (nb_add_i64 (a := d) (b := 1) (by omega)) (by rw [ht]) X) hS2 rfl rfl rfl rfl rfl rfl ?_
          refine Pl.qA_go hS2 rfl ?_
          refine Pl.qA_cv (c := ((k : Nat) : Int)) Tryz.underlying61 (by kernel_rfl) (Pl.c_id (a := k) rfl (Pl.wu64 (by omega) (by omega))) hS2 rfl rfl rfl rfl rfl ?_
          refine Pl.pA_call rfl rfl rfl rfl rfl (fun u X => Pl.enters Tryz.func54 (by kernel_rfl) rfl u X) ?_
          refine Calls.mono (len_all _ k (by omega)) ?_
          rintro e w3 ⟨rfl, hE3⟩
          rw [hA]
          have sz3 := Pl.Ex.size hE3
          have hS3 := Pl.Ex.trans hS2 hE3
          refine ⟨_, rfl, hS3, ?_⟩
          refine Pl.qA_go hS3 rfl ?_
          refine Pl.pA_end ?_
          repeat refine Pl.V_seq ?_
          refine Pl.V_region (by kernel_rfl) ?_
          refine Pl.qA_go trivial rfl ?_
          refine Pl.qA_b (v := .int .i64 (((A + 6) : Nat) : Int)) (fun X => nb_add_i64 (a := A) (b := 6) (by omega) X) trivial rfl rfl rfl rfl rfl rfl ?_
          by_cases c5 : t ≤ (A + 6)
          · refine Pl.qA_b (v := .bool true) (fun X => Pl.r_leq (decide_eq_true (by omega)) X) trivial rfl rfl rfl rfl rfl rfl ?_
            refine Pl.pA_end ?_
            repeat refine Pl.V_seq ?_
            refine Pl.V_true rfl ?_
            repeat refine Pl.V_seq ?_
            refine Pl.V_region (by kernel_rfl) ?_
            refine Pl.qA_go trivial rfl ?_
            refine Pl.pA_call rfl rfl rfl rfl rfl (fun u X => Pl.enters Tryz.func55 (by kernel_rfl) rfl u X) ?_
            refine Calls.mono (bitwise_calls _ _ a (Un.below ha (Pl.Ex.trans hE1 (Pl.Ex.trans hE2 hE3))) la k t (by omega) (by omega) (by omega) (by omega) hat) ?_
            rintro e w4 ⟨v6, rfl, hv6, hE4⟩
            have sz4 := Pl.Ex.size hE4
            refine ⟨_, rfl, trivial, ?_⟩
            refine Pl.qA_go trivial rfl ?_
            refine Pl.pA_end ?_
            repeat refine Pl.V_seq ?_
            refine Pl.V_ret fun aQ hQ => ?_
            repeat first | refine Pl.ret_then ?_ | refine Pl.Ks_ret ?_ | refine Pl.ret_block ?_ | refine Pl.ret_goto ?_
            exact Pl.at_ret1 hQ rfl rfl  (⟨_, rfl, hv6, (Pl.Ex.trans hE1 (Pl.Ex.trans hE2 (Pl.Ex.trans hE3 hE4)))⟩)
          · refine Pl.qA_b (v := .bool false) (fun X => Pl.r_leq (decide_eq_false (by omega)) X) trivial rfl rfl rfl rfl rfl rfl ?_
            refine Pl.pA_end ?_
            repeat refine Pl.V_seq ?_
            refine Pl.V_false rfl ?_
            repeat refine Pl.V_seq ?_
            refine Pl.V_skip ?_
            repeat refine Pl.V_seq ?_
            refine Pl.V_region (by kernel_rfl) ?_
            obtain ⟨cut, hcut⟩ : ∃ c, t - (t + A) / 2 - 2 = c := ⟨_, rfl⟩
            obtain ⟨hc2, hct⟩ := kth_cut c5 hcut
            have hkc : k * cut ≤ 12700 := Nat.le_trans (Nat.mul_le_mul_left k hct) (by rw [Nat.mul_comm]; omega)
            refine Pl.qA_go trivial rfl ?_
            refine Pl.qA_b (v := .int .i64 (((t + A) : Nat) : Int)) (fun X => nb_add_i64 (a := t) (b := A) (by omega) X) trivial rfl rfl rfl rfl rfl rfl ?_
            refine Pl.qA_b (v := .int .i64 ((((t + A) / 2) : Nat) : Int)) (fun X => nb_quo_i64 (a := (t + A)) (b := 2) (by omega) (by omega) X) trivial rfl rfl rfl rfl rfl rfl ?_
            refine Pl.qA_b (v := .int .i64 (((t - ((t + A) / 2)) : Nat) : Int)) (fun X => nb_sub_i64 (a := t) (b := ((t + A) / 2)) (by omega) X) trivial rfl rfl rfl rfl rfl rfl ?_
            refine Pl.qA_b (v := .int .i64 ((cut : Nat) : Int)) (fun X => Pl.Bn.as (nb_sub_i64 (a := (t - ((t + A) / 2))) (b := 2) (by omega)) (by rw [hcut]) X) trivial rfl rfl rfl rfl rfl rfl ?_
            refine Pl.qA_go trivial rfl ?_
            refine Pl.pA_end ?_
            repeat refine Pl.V_seq ?_
            refine Pl.V_region (by kernel_rfl) ?_
            have hkc2 : k * cut ≤ 9223372036854775807 := by omega
            refine Pl.qA_go trivial rfl ?_
            refine Pl.qA_b (v := .int .i64 (((k * cut) : Nat) : Int)) (fun X => nb_mul_i64 (a := k) (b := cut) (by omega) X) trivial rfl rfl rfl rfl rfl rfl ?_
            refine Pl.pA_call rfl rfl rfl rfl rfl (fun u X => Pl.enters Tryz.func39 (by kernel_rfl) rfl u X) ?_
            refine Calls.mono (shrN _ _ a (k * cut) (Un.below ha (Pl.Ex.trans hE1 (Pl.Ex.trans hE2 hE3))) (by omega) (Sn.le la (by decide))) ?_
            rintro e w4 ⟨v6, rfl, hv6, hE4⟩
            have sz4 := Pl.Ex.size hE4
            refine ⟨_, rfl, trivial, ?_⟩
            refine Pl.qA_go trivial rfl ?_
            refine Pl.pA_call rfl rfl rfl rfl rfl (fun u X => Pl.enters Tryz.func33 (by kernel_rfl) rfl u X) ?_
            refine Calls.mono (ih (a / 2 ^ (k * cut)) (kth_up ha0 (by omega) hc2) _ _ _ hv6 (Sn.down la (Nat.div_le_self _ _)) (by omega) (by omega) (fun _ => kth_sz hS h3)) ?_
            rintro e w5 ⟨vs, rfl, hvs, hE5⟩
            obtain ⟨s, hs⟩ : ∃ s, Rt.kr (a / 2 ^ (k * cut)) k = s := ⟨_, rfl⟩
            rw [hs] at hvs
            obtain ⟨hx0, hx1⟩ := kth_start (by omega) hs
            have hx2 := kth_x (by omega) hat2 hct hx1
            have ls : Sn s 300 := by rw [← hs]; exact (la.down (Nat.div_le_self _ _)).down (Rt.kr_self _ (by omega))
            have sz5 := Pl.Ex.size hE5
            refine ⟨_, rfl, trivial, ?_⟩
            refine Pl.qA_bs (e := 36) (n := 1) [.int .u32 1] rfl rfl rfl rfl (by kernel_rfl) (fun Y hY => trivial) ?_
            intro N7 w6 hE6 hN_N7 k_N7_0
            have z_N7 := Pl.Cb.lt k_N7_0
            have sz6 := Pl.Ex.size hE6
            have hl8 := Un.one (x := 1) k_N7_0 rfl (by omega)
            refine Pl.pA_call rfl rfl rfl rfl rfl (fun u X => Pl.enters Tryz.func40 (by kernel_rfl) rfl u X) ?_
            refine Calls.mono (add_B _ _ _ s 1 (Un.below hvs hE6) hl8 (Sn.le ls (by decide)) (Sn.le (Sn.of (K := 1) (by omega)) (by decide)) _ rfl) ?_
            rintro e w7 ⟨v9, rfl, hv9, hE7⟩
            have sz7 := Pl.Ex.size hE7
            refine ⟨_, rfl, trivial, ?_⟩
            refine Pl.qA_go trivial rfl ?_
            refine Pl.pA_call rfl rfl rfl rfl rfl (fun u X => Pl.enters Tryz.func41 (by kernel_rfl) rfl u X) ?_
            refine Calls.mono (shlN _ _ (s + 1) cut hv9 (by omega) (Sn.le (Sn.add ls (Sn.of (K := 1) (by omega)) (by decide) (by decide) : Sn (s + 1) 301) (by decide))) ?_
            rintro e w8 ⟨v10, rfl, hv10, hE8⟩
            have sz8 := Pl.Ex.size hE8
            refine ⟨_, rfl, trivial, ?_⟩
            refine Pl.qA_go trivial rfl ?_
            refine Pl.pA_end ?_
            repeat refine Pl.V_seq ?_
            refine Pl.V_label ?_
            repeat refine Pl.V_seq ?_
            refine Pl.V_block ?_
            repeat refine Pl.V_seq ?_
            refine Pl.V_sub [(0, va), (1, .int .i64 ((k : Nat) : Int)), (11, v10)] (Pl.subl_cons rfl (Pl.subl_cons rfl (Pl.subl_cons rfl Pl.subl_nil))) ?_
            repeat refine Pl.V_seq ?_
            refine Pl.V_loop (fun kq l' w' => ∃ vx x, x = kq ∧ Pl.Ex w8 w' ∧ (Un w' vx x) ∧ (0 < x) ∧ (x < 2 ^ (t + 1)) ∧ (Rt.kr a k ≤ x) ∧ l' = [(0, va), (1, .int .i64 ((k : Nat) : Int)), (11, vx)]) _ ⟨_, _, rfl, Pl.Ex.refl _, hv10, (Nat.mul_pos (Nat.succ_pos _) (Nat.two_pow_pos _)), hx2, (Nat.le_of_lt (Rt.Kr.lt (Rt.kr_spec a (by omega)) hx0)), rfl⟩ ?_
            rintro kq _ w9 ⟨vx, x, hk9, hE9, hvx, hx, hxt, hxr, rfl⟩
            have sz9 := Pl.Ex.size hE9
            obtain ⟨m, hm⟩ : ∃ m, k = m + 1 := ⟨k - 1, by omega⟩
            have hm1 : k - 1 = m := by omega
            rw [hm1] at hbt
            have hp0 : x ^ m ≠ 0 := Nat.pos_iff_ne_zero.1 (Nat.pow_pos hx)
            obtain ⟨y, hy⟩ : ∃ y, (x * m + a / x ^ m) / k = y := ⟨_, rfl⟩
            obtain ⟨hy1, hy2⟩ := kth_next hm ha0 hx
            rw [hy] at hy1 hy2
            repeat refine Pl.V_seq ?_
            refine Pl.V_block ?_
            repeat refine Pl.V_seq ?_
            refine Pl.V_region (by kernel_rfl) ?_
            refine Pl.qA_go trivial rfl ?_
            refine Pl.qA_b (v := .int .i64 ((m : Nat) : Int)) (fun X => Pl.Bn.as (nb_sub_i64 (a := k) (b := 1) (by omega)) (by rw [hm1]) X) trivial rfl rfl rfl rfl rfl rfl ?_
            refine Pl.pA_call rfl rfl rfl rfl rfl (fun u X => Pl.enters Tryz.func51 (by kernel_rfl) rfl u X) ?_
            refine Calls.mono (powM' _ _ x m hvx (t + 1) hxt (by omega) hbt (by omega)) ?_
            rintro e w10 ⟨v11, rfl, hv11, hE10⟩
            have sz10 := Pl.Ex.size hE10
            refine ⟨_, rfl, trivial, ?_⟩
            refine Pl.pA_call rfl rfl rfl rfl rfl (fun u X => Pl.enters Tryz.func43 (by kernel_rfl) rfl u X) ?_
            refine Calls.mono (divmod_D _ _ _ a (x ^ m) _ _ (Un.below ha (Pl.Ex.trans hE1 (Pl.Ex.trans hE2 (Pl.Ex.trans hE3 (Pl.Ex.trans hE4 (Pl.Ex.trans hE5 (Pl.Ex.trans hE6 (Pl.Ex.trans hE7 (Pl.Ex.trans hE8 (Pl.Ex.trans hE9 hE10)))))))))) hv11 (Sn.le la (by decide)) (Sn.le (powM_sn hxt hbt) (by decide)) hp0 rfl rfl) ?_
            rintro e w11 ⟨⟨v12, v13, rfl, hv12, hv13⟩, hE11⟩
            have sz11 := Pl.Ex.size hE11
            refine ⟨_, rfl, trivial, ?_⟩
            refine Pl.qA_go trivial rfl ?_
            refine Pl.pA_end ?_
            repeat refine Pl.V_seq ?_
            refine Pl.V_region (by kernel_rfl) ?_
            refine Pl.qA_go trivial rfl ?_
            refine Pl.qA_b (v := .int .i64 ((m : Nat) : Int)) (fun X => Pl.Bn.as (nb_sub_i64 (a := k) (b := 1) (by omega)) (by rw [hm1]) X) trivial rfl rfl rfl rfl rfl rfl ?_
            refine Pl.qA_cv (c := ((m : Nat) : Int)) Tryz.underlying49 (by kernel_rfl) (Pl.c_id (a := m) rfl (Pl.wu64 (by omega) (by omega))) trivial rfl rfl rfl rfl rfl ?_
            refine Pl.pA_call rfl rfl rfl rfl rfl (fun u X => Pl.enters Tryz.func37 (by kernel_rfl) rfl u X) ?_
            refine Calls.mono (ofN _ m (by omega)) ?_
            rintro e w12 ⟨v14, rfl, hv14, hE12⟩
            have sz12 := Pl.Ex.size hE12
            refine ⟨_, rfl, trivial, ?_⟩
            refine Pl.pA_call rfl rfl rfl rfl rfl (fun u X => Pl.enters Tryz.func44 (by kernel_rfl) rfl u X) ?_
            refine Calls.mono (mulN _ _ _ x m _ (Un.below hvx (Pl.Ex.trans hE10 (Pl.Ex.trans hE11 hE12))) hv14 (Sn.le (Sn.bits (K := 375) hxt (by omega)) (by decide)) (Sn.le (Sn.of (K := 2) (by omega) : Sn m 2) (by decide)) rfl) ?_
            rintro e w13 ⟨v15, rfl, hv15, hE13⟩
            have sz13 := Pl.Ex.size hE13
            refine ⟨_, rfl, trivial, ?_⟩
            refine Pl.qA_go trivial rfl ?_
            refine Pl.pA_call rfl rfl rfl rfl rfl (fun u X => Pl.enters Tryz.func40 (by kernel_rfl) rfl u X) ?_
            refine Calls.mono (add_B _ _ _ (x * m) (a / (x ^ m)) hv15 (Un.below hv12 (Pl.Ex.trans hE12 hE13)) (Sn.le (Sn.mul (Sn.bits (K := 375) hxt (by omega)) (Sn.of (K := 2) (by omega) : Sn m 2) (by decide) : Sn (x * m) 377) (by decide)) (Sn.le (Sn.down la (Nat.div_le_self _ _) : Sn (a / (x ^ m)) 300) (by decide)) _ rfl) ?_
            rintro e w14 ⟨v16, rfl, hv16, hE14⟩
            have sz14 := Pl.Ex.size hE14
            refine ⟨_, rfl, trivial, ?_⟩
            refine Pl.qA_go trivial rfl ?_
            refine Pl.pA_end ?_
            repeat refine Pl.V_seq ?_
            refine Pl.V_region (by kernel_rfl) ?_
            refine Pl.qA_go trivial rfl ?_
            refine Pl.qA_cv (c := ((k : Nat) : Int)) Tryz.underlying49 (by kernel_rfl) (Pl.c_id (a := k) rfl (Pl.wu64 (by omega) (by omega))) trivial rfl rfl rfl rfl rfl ?_
            refine Pl.pA_call rfl rfl rfl rfl rfl (fun u X => Pl.enters Tryz.func37 (by kernel_rfl) rfl u X) ?_
            refine Calls.mono (ofN _ k (by omega)) ?_
            rintro e w15 ⟨v17, rfl, hv17, hE15⟩
            have sz15 := Pl.Ex.size hE15
            refine ⟨_, rfl, trivial, ?_⟩
            refine Pl.pA_call rfl rfl rfl rfl rfl (fun u X => Pl.enters Tryz.func43 (by kernel_rfl) rfl u X) ?_
            refine Calls.mono (divmod_D _ _ _ ((x * m) + (a / (x ^ m))) k _ _ (Un.below hv16 hE15) hv17 (Sn.le (Sn.add (Sn.mul (Sn.bits (K := 375) hxt (by omega)) (Sn.of (K := 2) (by omega) : Sn m 2) (by decide) : Sn (x * m) 377) (Sn.down la (Nat.div_le_self _ _) : Sn (a / (x ^ m)) 300) (by decide) (by decide) : Sn ((x * m) + (a / (x ^ m))) 378) (by decide)) (Sn.le (Sn.of (K := 2) (by omega) : Sn k 2) (by decide)) (by omega) rfl rfl) ?_
            rintro e w16 ⟨⟨vy, vr, rfl, hvy, hvr⟩, hE16⟩
            rw [hy] at hvy
            have sz16 := Pl.Ex.size hE16
            refine ⟨_, rfl, trivial, ?_⟩
            refine Pl.qA_go trivial rfl ?_
            refine Pl.pA_end ?_
            repeat refine Pl.V_seq ?_
            refine Pl.V_region (by kernel_rfl) ?_
            refine Pl.qA_go trivial rfl ?_
            refine Pl.pA_call rfl rfl rfl rfl rfl (fun u X => Pl.enters Tryz.func45 (by kernel_rfl) rfl u X) ?_
            refine Calls.mono (cmp_B _ _ _ y x hvy (Un.below hvx (Pl.Ex.trans hE10 (Pl.Ex.trans hE11 (Pl.Ex.trans hE12 (Pl.Ex.trans hE13 (Pl.Ex.trans hE14 (Pl.Ex.trans hE15 hE16))))))) _ rfl) ?_
            rintro e w17 ⟨rfl, hE17⟩
            have sz17 := Pl.Ex.size hE17
            refine ⟨_, rfl, trivial, ?_⟩
            by_cases c18 : x ≤ y
            · refine Pl.qA_b (v := .bool true) (fun X => Cm.ge_geq_t c18 X) trivial rfl rfl rfl rfl rfl rfl ?_
              refine Pl.pA_end ?_
              repeat refine Pl.V_seq ?_
              refine Pl.V_true rfl ?_
              repeat refine Pl.V_seq ?_
              refine Pl.V_exitTo fun aQ hQ => ?_
              refine Pl.exit_ne rfl (Pl.Ks_exit ?_)
              refine Pl.exit_then (Pl.Ks_exit (cs := []) ?_)
              refine Pl.exit_eq ?_
              refine Pl.at_V hQ ?_
              clear hQ
              repeat refine Pl.V_seq ?_
              refine Pl.V_region (by kernel_rfl) ?_
              have hst := kth_stop hm hx hxr (by rw [hy]; exact c18)
              refine Pl.qA_go trivial rfl ?_
              refine Pl.pA_end ?_
              repeat refine Pl.V_seq ?_
              refine Pl.V_ret fun aQ hQ => ?_
              repeat first | refine Pl.ret_then ?_ | refine Pl.Ks_ret ?_ | refine Pl.ret_block ?_ | refine Pl.ret_goto ?_
              exact Pl.at_ret1 hQ rfl rfl  (⟨_, rfl, Un.as (Un.below hvx (Pl.Ex.trans hE10 (Pl.Ex.trans hE11 (Pl.Ex.trans hE12 (Pl.Ex.trans hE13 (Pl.Ex.trans hE14 (Pl.Ex.trans hE15 (Pl.Ex.trans hE16 hE17)))))))) hst.symm, (Pl.Ex.trans hE1 (Pl.Ex.trans hE2 (Pl.Ex.trans hE3 (Pl.Ex.trans hE4 (Pl.Ex.trans hE5 (Pl.Ex.trans hE6 (Pl.Ex.trans hE7 (Pl.Ex.trans hE8 (Pl.Ex.trans hE9 (Pl.Ex.trans hE10 (Pl.Ex.trans hE11 (Pl.Ex.trans hE12 (Pl.Ex.trans hE13 (Pl.Ex.trans hE14 (Pl.Ex.trans hE15 (Pl.Ex.trans hE16 hE17))))))))))))))))⟩)
            · refine Pl.qA_b (v := .bool false) (fun X => Cm.ge_geq_f c18 X) trivial rfl rfl rfl rfl rfl rfl ?_
              refine Pl.pA_end ?_
              repeat refine Pl.V_seq ?_
              refine Pl.V_false rfl ?_
              repeat refine Pl.V_seq ?_
              refine Pl.V_skip ?_
              repeat refine Pl.V_seq ?_
              refine Pl.V_region (by kernel_rfl) ?_
              refine Pl.qA_go trivial rfl ?_
              refine Pl.pA_end ?_
              refine Pl.V_endblock ?_
              repeat refine Pl.V_seq ?_
              refine Pl.V_again (k' := y) [(0, va), (1, .int .i64 ((k : Nat) : Int)), (11, vy)] (Pl.subl_cons rfl (Pl.subl_cons rfl (Pl.subl_cons rfl Pl.subl_nil))) (by omega) ⟨_, y, rfl, (Pl.Ex.trans hE9 (Pl.Ex.trans hE10 (Pl.Ex.trans hE11 (Pl.Ex.trans hE12 (Pl.Ex.trans hE13 (Pl.Ex.trans hE14 (Pl.Ex.trans hE15 (Pl.Ex.trans hE16 hE17)))))))), (Un.below hvy hE17), hy1, (Nat.lt_trans (Nat.lt_of_not_le c18) hxt), hy2, rfl⟩
theorem root_calls (w : World) (va : Value) (a : Nat) (ha : Un w va a) (la : Sn a 300) (z : Int) (hsz : ∀ k : Nat, z = (k : Int) → k < blen a → blen a + 3 * k ≤ 12000) :
    Calls Tryz.prog 14 #[va, .int .i64 z] w fun e w' => ((z < 1 ∨ 1000000 < z) ∧ e = .returned (.tuple #[.slice none 0 0, .int .i64 1]) ∨ ∃ (k : Nat) (u : Value), z = (k : Int) ∧ 1 ≤ k ∧ k ≤ 1000000 ∧ e = .returned (.tuple #[u, .int .i64 0]) ∧ Un w' u (Rt.kr a k)) ∧ Pl.Ex w w' := by
  refine Pl.calls_by (n := 15) (vs := [va, .int .i64 z]) Tryz.func14 rfl (by kernel_rfl) (by simp) ?_
  repeat refine Pl.V_seq ?_
  refine Pl.V_region (by kernel_rfl) ?_
  refine Pl.qA_go trivial rfl ?_
  refine Pl.pA_end ?_
  repeat refine Pl.V_seq ?_
  refine Pl.V_region (by kernel_rfl) ?_
  refine Pl.qA_go trivial rfl ?_
  by_cases c1 : z < 1
  · refine Pl.qA_b (v := .bool true) (fun X => Pl.r_lss (decide_eq_true (by omega)) X) trivial rfl rfl rfl rfl rfl rfl ?_
    refine Pl.qA_go trivial rfl ?_
    refine Pl.pA_end ?_
    repeat refine Pl.V_seq ?_
    refine Pl.V_true rfl ?_
    repeat refine Pl.V_seq ?_
    refine Pl.V_region (by kernel_rfl) ?_
    refine Pl.qA_go trivial rfl ?_
    refine Pl.pA_end ?_
    repeat refine Pl.V_seq ?_
    exact Pl.post_ret2 rfl rfl rfl  (⟨.inl ⟨by omega, rfl⟩, (Pl.Ex.refl _)⟩)
  · refine Pl.qA_b (v := .bool false) (fun X => Pl.r_lss (decide_eq_false (by omega)) X) trivial rfl rfl rfl rfl rfl rfl ?_
    refine Pl.qA_go trivial rfl ?_
    by_cases c2 : z > 1000000
    · refine Pl.qA_b (v := .bool true) (fun X => Pl.r_gtr (decide_eq_true (by omega)) X) trivial rfl rfl rfl rfl rfl rfl ?_
      refine Pl.qA_go trivial rfl ?_
      refine Pl.pA_end ?_
      repeat refine Pl.V_seq ?_
      refine Pl.V_true rfl ?_
      repeat refine Pl.V_seq ?_
      refine Pl.V_region (by kernel_rfl) ?_
      refine Pl.qA_go trivial rfl ?_
      refine Pl.pA_end ?_
      repeat refine Pl.V_seq ?_
      exact Pl.post_ret2 rfl rfl rfl  (⟨.inl ⟨by omega, rfl⟩, (Pl.Ex.refl _)⟩)
    · refine Pl.qA_b (v := .bool false) (fun X => Pl.r_gtr (decide_eq_false (by omega)) X) trivial rfl rfl rfl rfl rfl rfl ?_
      refine Pl.qA_go trivial rfl ?_
      refine Pl.pA_end ?_
      repeat refine Pl.V_seq ?_
      refine Pl.V_false rfl ?_
      repeat refine Pl.V_seq ?_
      refine Pl.V_skip ?_
      repeat refine Pl.V_seq ?_
      refine Pl.V_region (by kernel_rfl) ?_
      obtain ⟨k, rfl⟩ := Int.eq_ofNat_of_zero_le (show 0 ≤ z by omega)
      refine Pl.qA_go trivial rfl ?_
      refine Pl.pA_call rfl rfl rfl rfl rfl (fun u X => Pl.enters Tryz.func33 (by kernel_rfl) rfl u X) ?_
      refine Calls.mono (kth_calls a _ _ k ha la (by omega) (by omega) (hsz _ rfl)) ?_
      rintro e w1 ⟨v3, rfl, hv3, hE1⟩
      have sz1 := Pl.Ex.size hE1
      refine ⟨_, rfl, trivial, ?_⟩
      refine Pl.qA_go trivial rfl ?_
      refine Pl.pA_end ?_
      repeat refine Pl.V_seq ?_
      exact Pl.post_ret2 rfl rfl rfl  (⟨.inr ⟨k, _, rfl, by omega, by omega, rfl, hv3⟩, hE1⟩)
end Go.Proofs.YtbdmncpibnligaaGreatDoor
