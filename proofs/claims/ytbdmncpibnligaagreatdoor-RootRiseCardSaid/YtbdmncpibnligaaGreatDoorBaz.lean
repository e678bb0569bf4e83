/- Square roots, by halves. -/
import Derived.Test.YtbdmncpibnligaaGreatDoorBay

namespace Go.Proofs.YtbdmncpibnligaaGreatDoor
open Go.RowKit 
set_option linter.unusedVariables false
set_option linter.unusedSimpArgs false
set_option maxRecDepth 100000
set_option maxHeartbeats 4000000
theorem sq_k {a k : Nat} (hge : 4611686018427387904 ≤ a) (la : Sn a 300) (hk : blen a / 4 = k) : 15 ≤ k ∧ 4 * k ≤ blen a ∧ blen a ≤ 9600 := by
  have := lt_blen_of_le (k := 62) hge
  have := la.blen
  omega
theorem sq_le (a : Nat) : Rt.kr a 2 * Rt.kr a 2 ≤ a := by
  have := Rt.kr_le a (show 2 ≠ 0 by decide)
  rwa [Nat.pow_two] at this
theorem sq_up {a k : Nat} (h : 15 ≤ k) (ha : 4611686018427387904 ≤ a) : a / 2 ^ (2 * k) < a := Nat.div_lt_self (by omega) (Nat.one_lt_two_pow (by omega))
theorem sq_top {a k : Nat} (hge : 4611686018427387904 ≤ a) (hk : 15 ≤ k ∧ 4 * k ≤ blen a ∧ blen a ≤ 9600) : a / 2 ^ (2 * k) ≠ 0 := by
  have h1 : 2 ^ (2 * k) ≤ a := Nat.le_trans (Nat.pow_le_pow_right (by decide) (by omega)) (pow_blen_le (n := a) (by omega))
  exact Nat.pos_iff_ne_zero.1 (Nat.div_pos h1 (Nat.two_pow_pos _))
theorem sq_next {a k t s r : Nat} (ht : a / 2 ^ (2 * k) = t) (hs : Rt.kr t 2 = s) (hr : t - s * s = r) (h0 : t ≠ 0) : s * s + r = t ∧ s ≠ 0 ∧ r * 2 ^ k ≤ a ∧ s * 2 ^ k ≤ a ∧ r * 2 ^ k + a / 2 ^ k % 2 ^ k ≤ a := by
  have h1 := sq_le t
  rw [hs] at h1
  have hp := Rt.kr_pos (a := t) (show 2 ≠ 0 by decide) h0
  rw [hs] at hp
  have hst : s ≤ t := Nat.le_trans (Nat.le_mul_of_pos_left s hp) h1
  have h2 := Nat.two_pow_pos k
  have e0 := Nat.div_add_mod a (2 ^ k)
  have e2 := Nat.div_add_mod (a / 2 ^ k) (2 ^ k)
  rw [Nat.div_div_eq_div_mul, ← Nat.pow_add, ← Nat.two_mul, ht] at e2
  generalize a / 2 ^ k % 2 ^ k = m at *
  generalize a % 2 ^ k = l at *
  generalize a / 2 ^ k = h at *
  generalize 2 ^ k = B at *
  have h3 : t * B + m ≤ a := by
    have : h ≤ B * h := Nat.le_mul_of_pos_left h h2
    rw [Nat.mul_comm t B]
    omega
  have h4 : r * B ≤ t * B := Nat.mul_le_mul_right B (by omega)
  have h5 : s * B ≤ t * B := Nat.mul_le_mul_right B hst
  exact ⟨by omega, by omega, by omega, by omega, by omega⟩
theorem sq_step {a Q x y : Nat} (h : x * x + y = a + Q) (h2 : a < (x + 1) * (x + 1)) (hl : y < Q) : 1 ≤ x ∧ (x - 1) * (x - 1) + (y + ((x - 1) * 2 ^ 1 + 1)) = a + Q ∧ a < (x - 1 + 1) * (x - 1 + 1) := by
  obtain ⟨h3, h4, h5⟩ := Rt.zim_step h h2 hl
  exact ⟨h3, by rw [show (x - 1) * 2 ^ 1 = 2 * (x - 1) by omega]; exact h4, h5⟩
theorem sqrt_calls (a : Nat) : ∀ (w : World) (va : Value), Un w va a → Sn a 300 →
    Calls Tryz.prog 16 #[va] w fun e w' => ∃ u v, e = .returned (.tuple #[u, v]) ∧ Un w' u (Rt.kr a 2) ∧ Un w' v (a - Rt.kr a 2 * Rt.kr a 2) ∧ Pl.Ex w w' := by
  induction a using Nat.strongRecOn with
  | _ a ih =>
  intro w va ha la
  refine Pl.calls_by (n := 95) (vs := [va]) Tryz.func16 rfl (by kernel_rfl) (by simp) ?_
  have hsq := sq_le a
  have hsl := Rt.kr_self a (show 2 ≠ 0 by decide)
  repeat refine Pl.V_seq ?_
  refine Pl.V_region (by kernel_rfl) ?_
  refine Pl.qA_go trivial rfl ?_
  refine Pl.pA_end ?_
  repeat refine Pl.V_seq ?_
  refine Pl.V_region (by kernel_rfl) ?_
  refine Pl.qA_go trivial rfl ?_
  by_cases c1 : a < 18446744073709551616
  · refine Pl.pA_call rfl rfl rfl rfl rfl (fun u X => Pl.enters Tryz.func35 (by kernel_rfl) rfl u X) ?_
    refine Calls.mono (lowY _ _ a ha c1) ?_
    rintro e w1 ⟨rfl, hE1⟩
    have sz1 := Pl.Ex.size hE1
    refine ⟨_, rfl, trivial, ?_⟩
    refine Pl.qA_go trivial rfl ?_
    refine Pl.pA_end ?_
    repeat refine Pl.V_seq ?_
    refine Pl.V_region (by kernel_rfl) ?_
    refine Pl.qA_go trivial rfl ?_
    by_cases c2 : a < 4611686018427387904
    · refine Pl.qA_b (v := .bool true) (fun X => Pl.r_lss (decide_eq_true (by omega)) X) trivial rfl rfl rfl rfl rfl rfl ?_
      refine Pl.qA_go trivial rfl ?_
      refine Pl.pA_end ?_
      repeat refine Pl.V_seq ?_
      refine Pl.V_true rfl ?_
      repeat refine Pl.V_seq ?_
      refine Pl.V_region (by kernel_rfl) ?_
      refine Pl.qA_go trivial rfl ?_
      refine Pl.pA_call rfl rfl rfl rfl rfl (fun u X => Pl.enters Tryz.func36 (by kernel_rfl) rfl u X) ?_
      refine Calls.mono (word_calls _ a (by omega)) ?_
      rintro e w2 ⟨rfl, hE2⟩
      have sz2 := Pl.Ex.size hE2
      refine ⟨_, rfl, trivial, ?_⟩
      refine Pl.qA_go trivial rfl ?_
      refine Pl.pA_end ?_
      repeat refine Pl.V_seq ?_
      refine Pl.V_region (by kernel_rfl) ?_
      refine Pl.qA_go trivial rfl ?_
      refine Pl.pA_call rfl rfl rfl rfl rfl (fun u X => Pl.enters Tryz.func37 (by kernel_rfl) rfl u X) ?_
      refine Calls.mono (ofN _ (Rt.kr a 2) (by omega)) ?_
      rintro e w3 ⟨v3, rfl, hv3, hE3⟩
      have sz3 := Pl.Ex.size hE3
      refine ⟨_, rfl, trivial, ?_⟩
      refine Pl.qA_go trivial rfl ?_
      refine Pl.qA_b (v := .int .u64 (((Rt.kr a 2 * Rt.kr a 2) : Nat) : Int)) (fun X => nb_mul_u64 (a := Rt.kr a 2) (b := Rt.kr a 2) (by omega) X) trivial rfl rfl rfl rfl rfl rfl ?_
      refine Pl.qA_b (v := .int .u64 (((a - (Rt.kr a 2 * Rt.kr a 2)) : Nat) : Int)) (fun X => nb_sub_u64 (a := a) (b := (Rt.kr a 2 * Rt.kr a 2)) (by omega) X) trivial rfl rfl rfl rfl rfl rfl ?_
      refine Pl.pA_call rfl rfl rfl rfl rfl (fun u X => Pl.enters Tryz.func37 (by kernel_rfl) rfl u X) ?_
      refine Calls.mono (ofN _ (a - (Rt.kr a 2 * Rt.kr a 2)) (by omega)) ?_
      rintro e w4 ⟨v4, rfl, hv4, hE4⟩
      have sz4 := Pl.Ex.size hE4
      refine ⟨_, rfl, trivial, ?_⟩
      refine Pl.qA_go trivial rfl ?_
      refine Pl.pA_end ?_
      repeat refine Pl.V_seq ?_
      exact Pl.post_ret2 rfl rfl rfl  (⟨_, _, rfl, (Un.below hv3 hE4), hv4, (Pl.Ex.trans hE1 (Pl.Ex.trans hE2 (Pl.Ex.trans hE3 hE4)))⟩)
    · refine Pl.qA_b (v := .bool false) (fun X => Pl.r_lss (decide_eq_false (by omega)) X) trivial rfl rfl rfl rfl rfl rfl ?_
      refine Pl.qA_go trivial rfl ?_
      refine Pl.pA_end ?_
      repeat refine Pl.V_seq ?_
      refine Pl.V_false rfl ?_
      repeat refine Pl.V_seq ?_
      refine Pl.V_skip ?_
      repeat refine Pl.V_seq ?_
      refine Pl.V_region (by kernel_rfl) ?_
      have hge : 4611686018427387904 ≤ a := by omega
      obtain ⟨k, hk⟩ : ∃ k, blen a / 4 = k := ⟨_, rfl⟩
      have hk5 := sq_k hge la hk
      clear hsq hsl
      refine Pl.qA_go trivial rfl ?_
      refine Pl.pA_call rfl rfl rfl rfl rfl (fun u X => Pl.enters Tryz.func38 (by kernel_rfl) rfl u X) ?_
      refine Calls.mono (bits_B _ _ a (Un.below ha hE1) (Sn.le la (by decide)) _ rfl) ?_
      rintro e w2 ⟨rfl, hE2⟩
      have sz2 := Pl.Ex.size hE2
      refine ⟨_, rfl, trivial, ?_⟩
      refine Pl.qA_b (v := .int .i64 ((k : Nat) : Int)) (fun X => Pl.Bn.as (nb_quo_i64 (a := blen a) (b := 4) (by omega) (by omega)) (by rw [hk]) X) trivial rfl rfl rfl rfl rfl rfl ?_
      refine Pl.qA_go trivial rfl ?_
      refine Pl.pA_end ?_
      repeat refine Pl.V_seq ?_
      refine Pl.V_region (by kernel_rfl) ?_
      refine Pl.qA_go trivial rfl ?_
      refine Pl.qA_b (v := .int .i64 (((2 * k) : Nat) : Int)) (fun X => nb_mul_i64 (a := 2) (b := k) (by omega) X) trivial rfl rfl rfl rfl rfl rfl ?_
      refine Pl.pA_call rfl rfl rfl rfl rfl (fun u X => Pl.enters Tryz.func39 (by kernel_rfl) rfl u X) ?_
      refine Calls.mono (shrN _ _ a (2 * k) (Un.below ha (Pl.Ex.trans hE1 hE2)) (by omega) (Sn.le la (by decide))) ?_
      rintro e w3 ⟨v3, rfl, hv3, hE3⟩
      have sz3 := Pl.Ex.size hE3
      refine ⟨_, rfl, trivial, ?_⟩
      refine Pl.pA_call rfl rfl rfl rfl rfl (fun u X => Pl.enters Tryz.func16 (by kernel_rfl) rfl u X) ?_
      refine Calls.mono (ih (a / 2 ^ (2 * k)) (sq_up hk5.1 hge) _ _ hv3 (Sn.down la (Nat.div_le_self _ _))) ?_
      rintro e w4 ⟨vs, vr, rfl, hvs, hvr, hE4⟩
      obtain ⟨t, ht⟩ : ∃ t, a / 2 ^ (2 * k) = t := ⟨_, rfl⟩
      have ht0 := sq_top hge hk5
      rw [ht] at ht0 hvs hvr
      obtain ⟨s, hs⟩ : ∃ s, Rt.kr t 2 = s := ⟨_, rfl⟩
      rw [hs] at hvs hvr
      obtain ⟨r, hr⟩ : ∃ r, t - s * s = r := ⟨_, rfl⟩
      rw [hr] at hvr
      obtain ⟨hsr, hs0, hra, hsa, hna⟩ := sq_next ht hs hr ht0
      have lt_ : Sn t 300 := by rw [← ht]; exact la.down (Nat.div_le_self _ _)
      have ls : Sn s 300 := by rw [← hs]; exact lt_.down (Rt.kr_self _ (by decide))
      have lr : Sn r 300 := lt_.down (by omega)
      have sz4 := Pl.Ex.size hE4
      refine ⟨_, rfl, trivial, ?_⟩
      refine Pl.qA_go trivial rfl ?_
      refine Pl.pA_end ?_
      repeat refine Pl.V_seq ?_
      refine Pl.V_region (by kernel_rfl) ?_
      refine Pl.qA_go trivial rfl ?_
      refine Pl.pA_call rfl rfl rfl rfl rfl (fun u X => Pl.enters Tryz.func41 (by kernel_rfl) rfl u X) ?_
      refine Calls.mono (shlN _ _ r k hvr (by omega) (Sn.le lr (by decide))) ?_
      rintro e w5 ⟨v4, rfl, hv4, hE5⟩
      have sz5 := Pl.Ex.size hE5
      refine ⟨_, rfl, trivial, ?_⟩
      refine Pl.qA_go trivial rfl ?_
      refine Pl.pA_call rfl rfl rfl rfl rfl (fun u X => Pl.enters Tryz.func39 (by kernel_rfl) rfl u X) ?_
      refine Calls.mono (shrN _ _ a k (Un.below ha (Pl.Ex.trans hE1 (Pl.Ex.trans hE2 (Pl.Ex.trans hE3 (Pl.Ex.trans hE4 hE5))))) (by omega) (Sn.le la (by decide))) ?_
      rintro e w6 ⟨v5, rfl, hv5, hE6⟩
      have sz6 := Pl.Ex.size hE6
      refine ⟨_, rfl, trivial, ?_⟩
      refine Pl.qA_go trivial rfl ?_
      refine Pl.pA_call rfl rfl rfl rfl rfl (fun u X => Pl.enters Tryz.func42 (by kernel_rfl) rfl u X) ?_
      refine Calls.mono (low_calls8 _ _ (a / 2 ^ k) k hv5 (Sn.down la (Nat.div_le_self _ _)) (by omega)) ?_
      rintro e w7 ⟨v6, rfl, hv6, hE7⟩
      have sz7 := Pl.Ex.size hE7
      refine ⟨_, rfl, trivial, ?_⟩
      refine Pl.pA_call rfl rfl rfl rfl rfl (fun u X => Pl.enters Tryz.func40 (by kernel_rfl) rfl u X) ?_
      refine Calls.mono (add_B _ _ _ (r * 2 ^ k) ((a / 2 ^ k) % 2 ^ k) (Un.below hv4 (Pl.Ex.trans hE6 hE7)) hv6 (Sn.le (la.down hra) (by decide)) (Sn.le (Sn.down (Sn.down la (Nat.div_le_self _ _)) (Nat.mod_le _ _)) (by decide)) _ rfl) ?_
      rintro e w8 ⟨v7, rfl, hv7, hE8⟩
      have sz8 := Pl.Ex.size hE8
      refine ⟨_, rfl, trivial, ?_⟩
      refine Pl.qA_go trivial rfl ?_
      refine Pl.pA_end ?_
      repeat refine Pl.V_seq ?_
      refine Pl.V_region (by kernel_rfl) ?_
      refine Pl.qA_go trivial rfl ?_
      refine Pl.pA_call rfl rfl rfl rfl rfl (fun u X => Pl.enters Tryz.func41 (by kernel_rfl) rfl u X) ?_
      refine Calls.mono (shlN _ _ s 1 (Un.below hvs (Pl.Ex.trans hE5 (Pl.Ex.trans hE6 (Pl.Ex.trans hE7 hE8)))) (by omega) (Sn.le ls (by decide))) ?_
      rintro e w9 ⟨v8, rfl, hv8, hE9⟩
      have sz9 := Pl.Ex.size hE9
      refine ⟨_, rfl, trivial, ?_⟩
      refine Pl.pA_call rfl rfl rfl rfl rfl (fun u X => Pl.enters Tryz.func43 (by kernel_rfl) rfl u X) ?_
      refine Calls.mono (divmod_D _ _ _ ((r * 2 ^ k) + ((a / 2 ^ k) % 2 ^ k)) (s * 2 ^ 1) _ _ (Un.below hv7 hE9) hv8 (Sn.le (la.down hna) (by decide)) (Sn.le (Sn.mul ls (Sn.of (K := 1) (show 2 ^ 1 < 4294967296 ^ 1 by decide)) (by decide) : Sn (s * 2 ^ 1) 301) (by decide)) (by omega) rfl rfl) ?_
      rintro e w10 ⟨⟨vq, vu, rfl, hvq, hvu⟩, hE10⟩
      obtain ⟨q, hq⟩ : ∃ q, ((r * 2 ^ k) + ((a / 2 ^ k) % 2 ^ k)) / (2 * s) = q := ⟨_, rfl⟩
      obtain ⟨u, hu⟩ : ∃ u, ((r * 2 ^ k) + ((a / 2 ^ k) % 2 ^ k)) % (2 * s) = u := ⟨_, rfl⟩
      rw [show s * 2 ^ 1 = 2 * s by omega] at hvq hvu
      rw [hq] at hvq
      rw [hu] at hvu
      have lq : Sn q 300 := by rw [← hq]; exact (la.down hna).down (Nat.div_le_self _ _)
      have hul : u < 2 * s := by rw [← hu]; exact Nat.mod_lt _ (by omega)
      obtain ⟨hz1, hz2⟩ := Rt.zim ht hsr hq hu hs0
      have lub : Sn (u * 2 ^ k) 301 := Sn.down (Sn.mul (Sn.of (K := 1) (show 2 < 4294967296 ^ 1 by decide)) (la.down hsa) (by decide)) (by rw [← Nat.mul_assoc]; exact Nat.mul_le_mul_right _ (by omega))
      have lsum : Sn (a + q * q) 601 := Sn.add la (Sn.mul lq lq (by decide) : Sn (q * q) 600) (by decide) (by decide)
      have sz10 := Pl.Ex.size hE10
      refine ⟨_, rfl, trivial, ?_⟩
      refine Pl.qA_go trivial rfl ?_
      refine Pl.pA_end ?_
      repeat refine Pl.V_seq ?_
      refine Pl.V_region (by kernel_rfl) ?_
      refine Pl.qA_go trivial rfl ?_
      refine Pl.pA_call rfl rfl rfl rfl rfl (fun u X => Pl.enters Tryz.func41 (by kernel_rfl) rfl u X) ?_
      refine Calls.mono (shlN _ _ s k (Un.below hvs (Pl.Ex.trans hE5 (Pl.Ex.trans hE6 (Pl.Ex.trans hE7 (Pl.Ex.trans hE8 (Pl.Ex.trans hE9 hE10)))))) (by omega) (Sn.le ls (by decide))) ?_
      rintro e w11 ⟨v9, rfl, hv9, hE11⟩
      have sz11 := Pl.Ex.size hE11
      refine ⟨_, rfl, trivial, ?_⟩
      refine Pl.qA_go trivial rfl ?_
      refine Pl.pA_call rfl rfl rfl rfl rfl (fun u X => Pl.enters Tryz.func40 (by kernel_rfl) rfl u X) ?_
      refine Calls.mono (add_B _ _ _ (s * 2 ^ k) q hv9 (Un.below hvq hE11) (Sn.le (la.down hsa) (by decide)) (Sn.le lq (by decide)) _ rfl) ?_
      rintro e w12 ⟨v10, rfl, hv10, hE12⟩
      have sz12 := Pl.Ex.size hE12
      refine ⟨_, rfl, trivial, ?_⟩
      refine Pl.qA_go trivial rfl ?_
      refine Pl.pA_end ?_
      repeat refine Pl.V_seq ?_
      refine Pl.V_region (by kernel_rfl) ?_
      refine Pl.qA_go trivial rfl ?_
      refine Pl.pA_call rfl rfl rfl rfl rfl (fun u X => Pl.enters Tryz.func41 (by kernel_rfl) rfl u X) ?_
      refine Calls.mono (shlN _ _ u k (Un.below hvu (Pl.Ex.trans hE11 hE12)) (by omega) (Sn.le (Sn.down (Sn.mul (Sn.of (K := 1) (show 2 < 4294967296 ^ 1 by decide)) ls (by decide)) (Nat.le_of_lt hul) : Sn u 301) (by decide))) ?_
      rintro e w13 ⟨v11, rfl, hv11, hE13⟩
      have sz13 := Pl.Ex.size hE13
      refine ⟨_, rfl, trivial, ?_⟩
      refine Pl.qA_go trivial rfl ?_
      refine Pl.pA_call rfl rfl rfl rfl rfl (fun u X => Pl.enters Tryz.func42 (by kernel_rfl) rfl u X) ?_
      refine Calls.mono (low_calls8 _ _ a k (Un.below ha (Pl.Ex.trans hE1 (Pl.Ex.trans hE2 (Pl.Ex.trans hE3 (Pl.Ex.trans hE4 (Pl.Ex.trans hE5 (Pl.Ex.trans hE6 (Pl.Ex.trans hE7 (Pl.Ex.trans hE8 (Pl.Ex.trans hE9 (Pl.Ex.trans hE10 (Pl.Ex.trans hE11 (Pl.Ex.trans hE12 hE13))))))))))))) la (by omega)) ?_
      rintro e w14 ⟨v12, rfl, hv12, hE14⟩
      have sz14 := Pl.Ex.size hE14
      refine ⟨_, rfl, trivial, ?_⟩
      refine Pl.pA_call rfl rfl rfl rfl rfl (fun u X => Pl.enters Tryz.func40 (by kernel_rfl) rfl u X) ?_
      refine Calls.mono (add_B _ _ _ (u * 2 ^ k) (a % 2 ^ k) (Un.below hv11 hE14) hv12 (Sn.le lub (by decide)) (Sn.le (Sn.down la (Nat.mod_le _ _)) (by decide)) _ rfl) ?_
      rintro e w15 ⟨v13, rfl, hv13, hE15⟩
      have sz15 := Pl.Ex.size hE15
      refine ⟨_, rfl, trivial, ?_⟩
      refine Pl.qA_go trivial rfl ?_
      refine Pl.pA_end ?_
      repeat refine Pl.V_seq ?_
      refine Pl.V_region (by kernel_rfl) ?_
      refine Pl.qA_go trivial rfl ?_
      refine Pl.pA_call rfl rfl rfl rfl rfl (fun u X => Pl.enters Tryz.func44 (by kernel_rfl) rfl u X) ?_
      refine Calls.mono (mulN _ _ _ q q _ (Un.below hvq (Pl.Ex.trans hE11 (Pl.Ex.trans hE12 (Pl.Ex.trans hE13 (Pl.Ex.trans hE14 hE15))))) (Un.below hvq (Pl.Ex.trans hE11 (Pl.Ex.trans hE12 (Pl.Ex.trans hE13 (Pl.Ex.trans hE14 hE15))))) (Sn.le lq (by decide)) (Sn.le lq (by decide)) rfl) ?_
      rintro e w16 ⟨v14, rfl, hv14, hE16⟩
      have sz16 := Pl.Ex.size hE16
      refine ⟨_, rfl, trivial, ?_⟩
      refine Pl.qA_go trivial rfl ?_
      refine Pl.pA_end ?_
      repeat refine Pl.V_seq ?_
      refine Pl.V_block ?_
      repeat refine Pl.V_seq ?_
      refine Pl.V_sub [(8, v10), (9, v13), (14, v14)] (Pl.subl_cons rfl (Pl.subl_cons rfl (Pl.subl_cons rfl Pl.subl_nil))) ?_
      repeat refine Pl.V_seq ?_
      refine Pl.V_loop (fun kq l' w' => ∃ vx x vy y, x = kq ∧ Pl.Ex w16 w' ∧ (Un w' vx x) ∧ (Un w' vy y) ∧ (Sn x 302) ∧ (Sn y 601) ∧ (x * x + y = a + q * q) ∧ (a < (x + 1) * (x + 1)) ∧ l' = [(8, vx), (9, vy), (14, v14)]) _ ⟨_, _, _, _, rfl, Pl.Ex.refl _, (Un.below hv10 (Pl.Ex.trans hE13 (Pl.Ex.trans hE14 (Pl.Ex.trans hE15 hE16)))), (Un.below hv13 hE16), ((Sn.le (Sn.add (la.down hsa) lq (by decide) (by decide) : Sn ((s * 2 ^ k) + q) 301) (by decide))), (lsum.down (by omega)), hz1, hz2, rfl⟩ ?_
      rintro kq _ w17 ⟨vx, x, vy, y, hk17, hE17, hvx, hvy, lx, ly, heq, hlx, rfl⟩
      have sz17 := Pl.Ex.size hE17
      repeat refine Pl.V_seq ?_
      refine Pl.V_region (by kernel_rfl) ?_
      refine Pl.qA_go trivial rfl ?_
      refine Pl.pA_call rfl rfl rfl rfl rfl (fun u X => Pl.enters Tryz.func45 (by kernel_rfl) rfl u X) ?_
      refine Calls.mono (cmp_B _ _ _ y (q * q) hvy (Un.below hv14 hE17) _ rfl) ?_
      rintro e w18 ⟨rfl, hE18⟩
      have sz18 := Pl.Ex.size hE18
      refine ⟨_, rfl, trivial, ?_⟩
      by_cases c15 : y < (q * q)
      · refine Pl.qA_b (v := .bool true) (fun X => Cm.lt_lss_t c15 X) trivial rfl rfl rfl rfl rfl rfl ?_
        refine Pl.pA_end ?_
        repeat refine Pl.V_seq ?_
        refine Pl.V_true rfl ?_
        repeat refine Pl.V_seq ?_
        refine Pl.V_skip ?_
        repeat refine Pl.V_seq ?_
        refine Pl.V_block ?_
        repeat refine Pl.V_seq ?_
        refine Pl.V_region (by kernel_rfl) ?_
        have hst := sq_step heq hlx c15
        refine Pl.qA_go trivial rfl ?_
        refine Pl.qA_bs (e := 36) (n := 1) [.int .u32 1] rfl rfl rfl rfl (by kernel_rfl) (fun Y hY => trivial) ?_
        intro N16 w19 hE19 hN_N16 k_N16_0
        have z_N16 := Pl.Cb.lt k_N16_0
        have sz19 := Pl.Ex.size hE19
        have hl17 := Un.one (x := 1) k_N16_0 rfl (by omega)
        refine Pl.pA_call rfl rfl rfl rfl rfl (fun u X => Pl.enters Tryz.func46 (by kernel_rfl) rfl u X) ?_
        refine Calls.mono (less_calls _ _ _ x 1 (Un.below hvx (Pl.Ex.trans hE18 hE19)) hl17 (Sn.le lx (by decide)) (Sn.le (Sn.of (K := 1) (by omega)) (by decide)) hst.1) ?_
        rintro e w20 ⟨v18, rfl, hv18, hE20⟩
        have sz20 := Pl.Ex.size hE20
        refine ⟨_, rfl, trivial, ?_⟩
        refine Pl.qA_go trivial rfl ?_
        refine Pl.pA_end ?_
        repeat refine Pl.V_seq ?_
        refine Pl.V_region (by kernel_rfl) ?_
        refine Pl.qA_go trivial rfl ?_
        refine Pl.pA_call rfl rfl rfl rfl rfl (fun u X => Pl.enters Tryz.func41 (by kernel_rfl) rfl u X) ?_
        refine Calls.mono (shlN _ _ (x - 1) 1 hv18 (by omega) (Sn.le (Sn.down lx (Nat.sub_le _ _)) (by decide))) ?_
        rintro e w21 ⟨v19, rfl, hv19, hE21⟩
        have sz21 := Pl.Ex.size hE21
        refine ⟨_, rfl, trivial, ?_⟩
        refine Pl.qA_bs (e := 36) (n := 1) [.int .u32 1] rfl rfl rfl rfl (by kernel_rfl) (fun Y hY => trivial) ?_
        intro N20 w22 hE22 hN_N20 k_N20_0
        have z_N20 := Pl.Cb.lt k_N20_0
        have sz22 := Pl.Ex.size hE22
        have hl21 := Un.one (x := 1) k_N20_0 rfl (by omega)
        refine Pl.pA_call rfl rfl rfl rfl rfl (fun u X => Pl.enters Tryz.func40 (by kernel_rfl) rfl u X) ?_
        refine Calls.mono (add_B _ _ _ ((x - 1) * 2 ^ 1) 1 (Un.below hv19 hE22) hl21 (Sn.le (Sn.mul (Sn.down lx (Nat.sub_le _ _)) (Sn.of (K := 1) (show 2 ^ 1 < 4294967296 ^ 1 by decide)) (by decide) : Sn ((x - 1) * 2 ^ 1) 303) (by decide)) (Sn.le (Sn.of (K := 1) (by omega)) (by decide)) _ rfl) ?_
        rintro e w23 ⟨v22, rfl, hv22, hE23⟩
        have sz23 := Pl.Ex.size hE23
        refine ⟨_, rfl, trivial, ?_⟩
        refine Pl.pA_call rfl rfl rfl rfl rfl (fun u X => Pl.enters Tryz.func40 (by kernel_rfl) rfl u X) ?_
        refine Calls.mono (add_B _ _ _ y (((x - 1) * 2 ^ 1) + 1) (Un.below hvy (Pl.Ex.trans hE18 (Pl.Ex.trans hE19 (Pl.Ex.trans hE20 (Pl.Ex.trans hE21 (Pl.Ex.trans hE22 hE23)))))) hv22 (Sn.le ly (by decide)) (Sn.le (Sn.add (Sn.mul (Sn.down lx (Nat.sub_le _ _)) (Sn.of (K := 1) (show 2 ^ 1 < 4294967296 ^ 1 by decide)) (by decide) : Sn ((x - 1) * 2 ^ 1) 303) (Sn.of (K := 1) (by omega)) (by decide) (by decide) : Sn (((x - 1) * 2 ^ 1) + 1) 304) (by decide)) _ rfl) ?_
        rintro e w24 ⟨v23, rfl, hv23, hE24⟩
        have sz24 := Pl.Ex.size hE24
        refine ⟨_, rfl, trivial, ?_⟩
        refine Pl.qA_go trivial rfl ?_
        refine Pl.pA_end ?_
        refine Pl.V_endblock ?_
        repeat refine Pl.V_seq ?_
        refine Pl.V_again (k' := (x - 1)) [(8, v18), (9, v23), (14, v14)] (Pl.subl_cons rfl (Pl.subl_cons rfl (Pl.subl_cons rfl Pl.subl_nil))) (by omega) ⟨_, (x - 1), _, _, rfl, (Pl.Ex.trans hE17 (Pl.Ex.trans hE18 (Pl.Ex.trans hE19 (Pl.Ex.trans hE20 (Pl.Ex.trans hE21 (Pl.Ex.trans hE22 (Pl.Ex.trans hE23 hE24))))))), (Un.below hv18 (Pl.Ex.trans hE21 (Pl.Ex.trans hE22 (Pl.Ex.trans hE23 hE24)))), hv23, (Sn.down lx (Nat.sub_le _ _)), (lsum.down (by have := hst.2.1; omega)), hst.2.1, hst.2.2, rfl⟩
      · refine Pl.qA_b (v := .bool false) (fun X => Cm.lt_lss_f c15 X) trivial rfl rfl rfl rfl rfl rfl ?_
        refine Pl.pA_end ?_
        repeat refine Pl.V_seq ?_
        refine Pl.V_false rfl ?_
        repeat refine Pl.V_seq ?_
        refine Pl.V_exit ?_
        repeat refine Pl.V_seq ?_
        refine Pl.V_region (by kernel_rfl) ?_
        obtain ⟨hf1, hf2⟩ := Rt.zim_end heq hlx (Nat.le_of_not_lt c15)
        refine Pl.qA_go trivial rfl ?_
        refine Pl.pA_call rfl rfl rfl rfl rfl (fun u X => Pl.enters Tryz.func46 (by kernel_rfl) rfl u X) ?_
        refine Calls.mono (less_calls _ _ _ y (q * q) (Un.below hvy hE18) (Un.below hv14 (Pl.Ex.trans hE17 hE18)) (Sn.le ly (by decide)) (Sn.le (Sn.mul lq lq (by decide) : Sn (q * q) 600) (by decide)) (Nat.le_of_not_lt c15)) ?_
        rintro e w19 ⟨v16, rfl, hv16, hE19⟩
        have sz19 := Pl.Ex.size hE19
        refine ⟨_, rfl, trivial, ?_⟩
        refine Pl.qA_go trivial rfl ?_
        refine Pl.pA_end ?_
        repeat refine Pl.V_seq ?_
        exact Pl.post_ret2 rfl rfl rfl  (⟨_, _, rfl, Un.as (Un.below hvx (Pl.Ex.trans hE18 hE19)) hf1.symm, Un.as hv16 (by rw [hf1]; exact hf2), (Pl.Ex.trans hE1 (Pl.Ex.trans hE2 (Pl.Ex.trans hE3 (Pl.Ex.trans hE4 (Pl.Ex.trans hE5 (Pl.Ex.trans hE6 (Pl.Ex.trans hE7 (Pl.Ex.trans hE8 (Pl.Ex.trans hE9 (Pl.Ex.trans hE10 (Pl.Ex.trans hE11 (Pl.Ex.trans hE12 (Pl.Ex.trans hE13 (Pl.Ex.trans hE14 (Pl.Ex.trans hE15 (Pl.Ex.trans hE16 (Pl.Ex.trans hE17 (Pl.Ex.trans hE18 hE19))))))))))))))))))⟩)
  · refine Pl.pA_call rfl rfl rfl rfl rfl (fun u X => Pl.enters Tryz.func35 (by kernel_rfl) rfl u X) ?_
    refine Calls.mono (lowX _ _ a ha c1) ?_
    rintro e w1 ⟨z2, rfl, hE1⟩
    have sz1 := Pl.Ex.size hE1
    refine ⟨_, rfl, trivial, ?_⟩
    refine Pl.qA_go trivial rfl ?_
    refine Pl.pA_end ?_
    repeat refine Pl.V_seq ?_
    refine Pl.V_region (by kernel_rfl) ?_
    refine Pl.qA_go trivial rfl ?_
    refine Pl.pA_end ?_
    repeat refine Pl.V_seq ?_
    refine Pl.V_false rfl ?_
    repeat refine Pl.V_seq ?_
    refine Pl.V_skip ?_
    repeat refine Pl.V_seq ?_
    refine Pl.V_region (by kernel_rfl) ?_
    have hge : 4611686018427387904 ≤ a := by omega
    obtain ⟨k, hk⟩ : ∃ k, blen a / 4 = k := ⟨_, rfl⟩
    have hk5 := sq_k hge la hk
    clear hsq hsl
    refine Pl.qA_go trivial rfl ?_
    refine Pl.pA_call rfl rfl rfl rfl rfl (fun u X => Pl.enters Tryz.func38 (by kernel_rfl) rfl u X) ?_
    refine Calls.mono (bits_B _ _ a (Un.below ha hE1) (Sn.le la (by decide)) _ rfl) ?_
    rintro e w2 ⟨rfl, hE2⟩
    have sz2 := Pl.Ex.size hE2
    refine ⟨_, rfl, trivial, ?_⟩
    refine Pl.qA_b (v := .int .i64 ((k : Nat) : Int)) (fun X => Pl.Bn.as (nb_quo_i64 (a := blen a) (b := 4) (by omega) (by omega)) (by rw [hk]) X) trivial rfl rfl rfl rfl rfl rfl ?_
    refine Pl.qA_go trivial rfl ?_
    refine Pl.pA_end ?_
    repeat refine Pl.V_seq ?_
    refine Pl.V_region (by kernel_rfl) ?_
    refine Pl.qA_go trivial rfl ?_
    refine Pl.qA_b (v := .int .i64 (((2 * k) : Nat) : Int)) (fun X => nb_mul_i64 (a := 2) (b := k) (by omega) X) trivial rfl rfl rfl rfl rfl rfl ?_
    refine Pl.pA_call rfl rfl rfl rfl rfl (fun u X => Pl.enters Tryz.func39 (by kernel_rfl) rfl u X) ?_
    refine Calls.mono (shrN _ _ a (2 * k) (Un.below ha (Pl.Ex.trans hE1 hE2)) (by omega) (Sn.le la (by decide))) ?_
    rintro e w3 ⟨v3, rfl, hv3, hE3⟩
    have sz3 := Pl.Ex.size hE3
    refine ⟨_, rfl, trivial, ?_⟩
    refine Pl.pA_call rfl rfl rfl rfl rfl (fun u X => Pl.enters Tryz.func16 (by kernel_rfl) rfl u X) ?_
    refine Calls.mono (ih (a / 2 ^ (2 * k)) (sq_up hk5.1 hge) _ _ hv3 (Sn.down la (Nat.div_le_self _ _))) ?_
    rintro e w4 ⟨vs, vr, rfl, hvs, hvr, hE4⟩
    obtain ⟨t, ht⟩ : ∃ t, a / 2 ^ (2 * k) = t := ⟨_, rfl⟩
    have ht0 := sq_top hge hk5
    rw [ht] at ht0 hvs hvr
    obtain ⟨s, hs⟩ : ∃ s, Rt.kr t 2 = s := ⟨_, rfl⟩
    rw [hs] at hvs hvr
    obtain ⟨r, hr⟩ : ∃ r, t - s * s = r := ⟨_, rfl⟩
    rw [hr] at hvr
    obtain ⟨hsr, hs0, hra, hsa, hna⟩ := sq_next ht hs hr ht0
    have lt_ : Sn t 300 := by rw [← ht]; exact la.down (Nat.div_le_self _ _)
    have ls : Sn s 300 := by rw [← hs]; exact lt_.down (Rt.kr_self _ (by decide))
    have lr : Sn r 300 := lt_.down (by omega)
    have sz4 := Pl.Ex.size hE4
    refine ⟨_, rfl, trivial, ?_⟩
    refine Pl.qA_go trivial rfl ?_
    refine Pl.pA_end ?_
    repeat refine Pl.V_seq ?_
    refine Pl.V_region (by kernel_rfl) ?_
    refine Pl.qA_go trivial rfl ?_
    refine Pl.pA_call rfl rfl rfl rfl rfl (fun u X => Pl.enters Tryz.func41 (by kernel_rfl) rfl u X) ?_
    refine Calls.mono (shlN _ _ r k hvr (by omega) (Sn.le lr (by decide))) ?_
    rintro e w5 ⟨v4, rfl, hv4, hE5⟩
    have sz5 := Pl.Ex.size hE5
    refine ⟨_, rfl, trivial, ?_⟩
    refine Pl.qA_go trivial rfl ?_
    refine Pl.pA_call rfl rfl rfl rfl rfl (fun u X => Pl.enters Tryz.func39 (by kernel_rfl) rfl u X) ?_
    refine Calls.mono (shrN _ _ a k (Un.below ha (Pl.Ex.trans hE1 (Pl.Ex.trans hE2 (Pl.Ex.trans hE3 (Pl.Ex.trans hE4 hE5))))) (by omega) (Sn.le la (by decide))) ?_
    rintro e w6 ⟨v5, rfl, hv5, hE6⟩
    have sz6 := Pl.Ex.size hE6
    refine ⟨_, rfl, trivial, ?_⟩
    refine Pl.qA_go trivial rfl ?_
    refine Pl.pA_call rfl rfl rfl rfl rfl (fun u X => Pl.enters Tryz.func42 (by kernel_rfl) rfl u X) ?_
    refine Calls.mono (low_calls8 _ _ (a / 2 ^ k) k hv5 (Sn.down la (Nat.div_le_self _ _)) (by omega)) ?_
    rintro e w7 ⟨v6, rfl, hv6, hE7⟩
    have sz7 := Pl.Ex.size hE7
    refine ⟨_, rfl, trivial, ?_⟩
    refine Pl.pA_call rfl rfl rfl rfl rfl (fun u X => Pl.enters Tryz.func40 (by kernel_rfl) rfl u X) ?_
    refine Calls.mono (add_B _ _ _ (r * 2 ^ k) ((a / 2 ^ k) % 2 ^ k) (Un.below hv4 (Pl.Ex.trans hE6 hE7)) hv6 (Sn.le (la.down hra) (by decide)) (Sn.le (Sn.down (Sn.down la (Nat.div_le_self _ _)) (Nat.mod_le _ _)) (by decide)) _ rfl) ?_
    rintro e w8 ⟨v7, rfl, hv7, hE8⟩
    have sz8 := Pl.Ex.size hE8
    refine ⟨_, rfl, trivial, ?_⟩
    refine Pl.qA_go trivial rfl ?_
    refine Pl.pA_end ?_
    repeat refine Pl.V_seq ?_
    refine Pl.V_region (by kernel_rfl) ?_
    refine Pl.qA_go trivial rfl ?_
    refine Pl.pA_call rfl rfl rfl rfl rfl (fun u X => Pl.enters Tryz.func41 (by kernel_rfl) rfl u X) ?_
    refine Calls.mono (shlN _ _ s 1 (Un.below hvs (Pl.Ex.trans hE5 (Pl.Ex.trans hE6 (Pl.Ex.trans hE7 hE8)))) (by omega) (Sn.le ls (by decide))) ?_
    rintro e w9 ⟨v8, rfl, hv8, hE9⟩
    have sz9 := Pl.Ex.size hE9
    refine ⟨_, rfl, trivial, ?_⟩
    refine Pl.pA_call rfl rfl rfl rfl rfl (fun u X => Pl.enters Tryz.func43 (by kernel_rfl) rfl u X) ?_
    refine Calls.mono (divmod_D _ _ _ ((r * 2 ^ k) + ((a / 2 ^ k) % 2 ^ k)) (s * 2 ^ 1) _ _ (Un.below hv7 hE9) hv8 (Sn.le (la.down hna) (by decide)) (Sn.le (Sn.mul ls (Sn.of (K := 1) (show 2 ^ 1 < 4294967296 ^ 1 by decide)) (by decide) : Sn (s * 2 ^ 1) 301) (by decide)) (by omega) rfl rfl) ?_
    rintro e w10 ⟨⟨vq, vu, rfl, hvq, hvu⟩, hE10⟩
    obtain ⟨q, hq⟩ : ∃ q, ((r * 2 ^ k) + ((a / 2 ^ k) % 2 ^ k)) / (2 * s) = q := ⟨_, rfl⟩
    obtain ⟨u, hu⟩ : ∃ u, ((r * 2 ^ k) + ((a / 2 ^ k) % 2 ^ k)) % (2 * s) = u := ⟨_, rfl⟩
    rw [show s * 2 ^ 1 = 2 * s by omega] at hvq hvu
    rw [hq] at hvq
    rw [hu] at hvu
    have lq : Sn q 300 := by rw [← hq]; exact (la.down hna).down (Nat.div_le_self _ _)
    have hul : u < 2 * s := by rw [← hu]; exact Nat.mod_lt _ (by omega)
    obtain ⟨hz1, hz2⟩ := Rt.zim ht hsr hq hu hs0
    have lub : Sn (u * 2 ^ k) 301 := Sn.down (Sn.mul (Sn.of (K := 1) (show 2 < 4294967296 ^ 1 by decide)) (la.down hsa) (by decide)) (by rw [← Nat.mul_assoc]; exact Nat.mul_le_mul_right _ (by omega))
    have lsum : Sn (a + q * q) 601 := Sn.add la (Sn.mul lq lq (by decide) : Sn (q * q) 600) (by decide) (by decide)
    have sz10 := Pl.Ex.size hE10
    refine ⟨_, rfl, trivial, ?_⟩
    refine Pl.qA_go trivial rfl ?_
    refine Pl.pA_end ?_
    repeat refine Pl.V_seq ?_
    refine Pl.V_region (by kernel_rfl) ?_
    refine Pl.qA_go trivial rfl ?_
    refine Pl.pA_call rfl rfl rfl rfl rfl (fun u X => Pl.enters Tryz.func41 (by kernel_rfl) rfl u X) ?_
    refine Calls.mono (shlN _ _ s k (Un.below hvs (Pl.Ex.trans hE5 (Pl.Ex.trans hE6 (Pl.Ex.trans hE7 (Pl.Ex.trans hE8 (Pl.Ex.trans hE9 hE10)))))) (by omega) (Sn.le ls (by decide))) ?_
    rintro e w11 ⟨v9, rfl, hv9, hE11⟩
    have sz11 := Pl.Ex.size hE11
    refine ⟨_, rfl, trivial, ?_⟩
    refine Pl.qA_go trivial rfl ?_
    refine Pl.pA_call rfl rfl rfl rfl rfl (fun u X => Pl.enters Tryz.func40 (by kernel_rfl) rfl u X) ?_
    refine Calls.mono (add_B _ _ _ (s * 2 ^ k) q hv9 (Un.below hvq hE11) (Sn.le (la.down hsa) (by decide)) (Sn.le lq (by decide)) _ rfl) ?_
    rintro e w12 ⟨v10, rfl, hv10, hE12⟩
    have sz12 := Pl.Ex.size hE12
    refine ⟨_, rfl, trivial, ?_⟩
    refine Pl.qA_go trivial rfl ?_
    refine Pl.pA_end ?_
    repeat refine Pl.V_seq ?_
    refine Pl.V_region (by kernel_rfl) ?_
    refine Pl.qA_go trivial rfl ?_
    refine Pl.pA_call rfl rfl rfl rfl rfl (fun u X => Pl.enters Tryz.func41 (by kernel_rfl) rfl u X) ?_
    refine Calls.mono (shlN _ _ u k (Un.below hvu (Pl.Ex.trans hE11 hE12)) (by omega) (Sn.le (Sn.down (Sn.mul (Sn.of (K := 1) (show 2 < 4294967296 ^ 1 by decide)) ls (by decide)) (Nat.le_of_lt hul) : Sn u 301) (by decide))) ?_
    rintro e w13 ⟨v11, rfl, hv11, hE13⟩
    have sz13 := Pl.Ex.size hE13
    refine ⟨_, rfl, trivial, ?_⟩
    refine Pl.qA_go trivial rfl ?_
    refine Pl.pA_call rfl rfl rfl rfl rfl (fun u X => Pl.enters Tryz.func42 (by kernel_rfl) rfl u X) ?_
    refine Calls.mono (low_calls8 _ _ a k (Un.below ha (Pl.Ex.trans hE1 (Pl.Ex.trans hE2 (Pl.Ex.trans hE3 (Pl.Ex.trans hE4 (Pl.Ex.trans hE5 (Pl.Ex.trans hE6 (Pl.Ex.trans hE7 (Pl.Ex.trans hE8 (Pl.Ex.trans hE9 (Pl.Ex.trans hE10 (Pl.Ex.trans hE11 (Pl.Ex.trans hE12 hE13))))))))))))) la (by omega)) ?_
    rintro e w14 ⟨v12, rfl, hv12, hE14⟩
    have sz14 := Pl.Ex.size hE14
    refine ⟨_, rfl, trivial, ?_⟩
    refine Pl.pA_call rfl rfl rfl rfl rfl (fun u X => Pl.enters Tryz.func40 (by kernel_rfl) rfl u X) ?_
    refine Calls.mono (add_B _ _ _ (u * 2 ^ k) (a % 2 ^ k) (Un.below hv11 hE14) hv12 (Sn.le lub (by decide)) (Sn.le (Sn.down la (Nat.mod_le _ _)) (by decide)) _ rfl) ?_
    rintro e w15 ⟨v13, rfl, hv13, hE15⟩
    have sz15 := Pl.Ex.size hE15
    refine ⟨_, rfl, trivial, ?_⟩
    refine Pl.qA_go trivial rfl ?_
    refine Pl.pA_end ?_
    repeat refine Pl.V_seq ?_
    refine Pl.V_region (by kernel_rfl) ?_
    refine Pl.qA_go trivial rfl ?_
    refine Pl.pA_call rfl rfl rfl rfl rfl (fun u X => Pl.enters Tryz.func44 (by kernel_rfl) rfl u X) ?_
    refine Calls.mono (mulN _ _ _ q q _ (Un.below hvq (Pl.Ex.trans hE11 (Pl.Ex.trans hE12 (Pl.Ex.trans hE13 (Pl.Ex.trans hE14 hE15))))) (Un.below hvq (Pl.Ex.trans hE11 (Pl.Ex.trans hE12 (Pl.Ex.trans hE13 (Pl.Ex.trans hE14 hE15))))) (Sn.le lq (by decide)) (Sn.le lq (by decide)) rfl) ?_
    rintro e w16 ⟨v14, rfl, hv14, hE16⟩
    have sz16 := Pl.Ex.size hE16
    refine ⟨_, rfl, trivial, ?_⟩
    refine Pl.qA_go trivial rfl ?_
    refine Pl.pA_end ?_
    repeat refine Pl.V_seq ?_
    refine Pl.V_block ?_
    repeat refine Pl.V_seq ?_
    refine Pl.V_sub [(8, v10), (9, v13), (14, v14)] (Pl.subl_cons rfl (Pl.subl_cons rfl (Pl.subl_cons rfl Pl.subl_nil))) ?_
    repeat refine Pl.V_seq ?_
    refine Pl.V_loop (fun kq l' w' => ∃ vx x vy y, x = kq ∧ Pl.Ex w16 w' ∧ (Un w' vx x) ∧ (Un w' vy y) ∧ (Sn x 302) ∧ (Sn y 601) ∧ (x * x + y = a + q * q) ∧ (a < (x + 1) * (x + 1)) ∧ l' = [(8, vx), (9, vy), (14, v14)]) _ ⟨_, _, _, _, rfl, Pl.Ex.refl _, (Un.below hv10 (Pl.Ex.trans hE13 (Pl.Ex.trans hE14 (Pl.Ex.trans hE15 hE16)))), (Un.below hv13 hE16), ((Sn.le (Sn.add (la.down hsa) lq (by decide) (by decide) : Sn ((s * 2 ^ k) + q) 301) (by decide))), (lsum.down (by omega)), hz1, hz2, rfl⟩ ?_
    rintro kq _ w17 ⟨vx, x, vy, y, hk17, hE17, hvx, hvy, lx, ly, heq, hlx, rfl⟩
    have sz17 := Pl.Ex.size hE17
    repeat refine Pl.V_seq ?_
    refine Pl.V_region (by kernel_rfl) ?_
    refine Pl.qA_go trivial rfl ?_
    refine Pl.pA_call rfl rfl rfl rfl rfl (fun u X => Pl.enters Tryz.func45 (by kernel_rfl) rfl u X) ?_
    refine Calls.mono (cmp_B _ _ _ y (q * q) hvy (Un.below hv14 hE17) _ rfl) ?_
    rintro e w18 ⟨rfl, hE18⟩
    have sz18 := Pl.Ex.size hE18
    refine ⟨_, rfl, trivial, ?_⟩
    by_cases c15 : y < (q * q)
    · refine Pl.qA_b (v := .bool true) (fun X => Cm.lt_lss_t c15 X) trivial rfl rfl rfl rfl rfl rfl ?_
      refine Pl.pA_end ?_
      repeat refine Pl.V_seq ?_
      refine Pl.V_true rfl ?_
      repeat refine Pl.V_seq ?_
      refine Pl.V_skip ?_
      repeat refine Pl.V_seq ?_
      refine Pl.V_block ?_
      repeat refine Pl.V_seq ?_
      refine Pl.V_region (by kernel_rfl) ?_
      have hst := sq_step heq hlx c15
      refine Pl.qA_go trivial rfl ?_
      refine Pl.qA_bs (e := 36) (n := 1) [.int .u32 1] rfl rfl rfl rfl (by kernel_rfl) (fun Y hY => trivial) ?_
      intro N16 w19 hE19 hN_N16 k_N16_0
      have z_N16 := Pl.Cb.lt k_N16_0
      have sz19 := Pl.Ex.size hE19
      have hl17 := Un.one (x := 1) k_N16_0 rfl (by omega)
      refine Pl.pA_call rfl rfl rfl rfl rfl (fun u X => Pl.enters Tryz.func46 (by kernel_rfl) rfl u X) ?_
      refine Calls.mono (less_calls _ _ _ x 1 (Un.below hvx (Pl.Ex.trans hE18 hE19)) hl17 (Sn.le lx (by decide)) (Sn.le (Sn.of (K := 1) (by omega)) (by decide)) hst.1) ?_
      rintro e w20 ⟨v18, rfl, hv18, hE20⟩
      have sz20 := Pl.Ex.size hE20
      refine ⟨_, rfl, trivial, ?_⟩
      refine Pl.qA_go trivial rfl ?_
      refine Pl.pA_end ?_
      repeat refine Pl.V_seq ?_
      refine Pl.V_region (by kernel_rfl) ?_
      refine Pl.qA_go trivial rfl ?_
      refine Pl.pA_call rfl rfl rfl rfl rfl (fun u X => Pl.enters Tryz.func41 (by kernel_rfl) rfl u X) ?_
      refine Calls.mono (shlN _ _ (x - 1) 1 hv18 (by omega) (Sn.le (Sn.down lx (Nat.sub_le _ _)) (by decide))) ?_
      rintro e w21 ⟨v19, rfl, hv19, hE21⟩
      have sz21 := Pl.Ex.size hE21
      refine ⟨_, rfl, trivial, ?_⟩
      refine Pl.qA_bs (e := 36) (n := 1) [.int .u32 1] rfl rfl rfl rfl (by kernel_rfl) (fun Y hY => trivial) ?_
      intro N20 w22 hE22 hN_N20 k_N20_0
      have z_N20 := Pl.Cb.lt k_N20_0
      have sz22 := Pl.Ex.size hE22
      have hl21 := Un.one (x := 1) k_N20_0 rfl (by omega)
      refine Pl.pA_call rfl rfl rfl rfl rfl (fun u X => Pl.enters Tryz.func40 (by kernel_rfl) rfl u X) ?_
      refine Calls.mono (add_B _ _ _ ((x - 1) * 2 ^ 1) 1 (Un.below hv19 hE22) hl21 (Sn.le (Sn.mul (Sn.down lx (Nat.sub_le _ _)) (Sn.of (K := 1) (show 2 ^ 1 < 4294967296 ^ 1 by decide)) (by decide) : Sn ((x - 1) * 2 ^ 1) 303) (by decide)) (Sn.le (Sn.of (K := 1) (by omega)) (by decide)) _ rfl) ?_
      rintro e w23 ⟨v22, rfl, hv22, hE23⟩
      have sz23 := Pl.Ex.size hE23
      refine ⟨_, rfl, trivial, ?_⟩
      refine Pl.pA_call rfl rfl rfl rfl rfl (fun u X => Pl.enters Tryz.func40 (by kernel_rfl) rfl u X) ?_
      refine Calls.mono (add_B _ _ _ y (((x - 1) * 2 ^ 1) + 1) (Un.below hvy (Pl.Ex.trans hE18 (Pl.Ex.trans hE19 (Pl.Ex.trans hE20 (Pl.Ex.trans hE21 (Pl.Ex.trans hE22 hE23)))))) hv22 (Sn.le ly (by decide)) (Sn.le (Sn.add (Sn.mul (Sn.down lx (Nat.sub_le _ _)) (Sn.of (K := 1) (show 2 ^ 1 < 4294967296 ^ 1 by decide)) (by decide) : Sn ((x - 1) * 2 ^ 1) 303) (Sn.of (K := 1) (by omega)) (by decide) (by decide) : Sn (((x - 1) * 2 ^ 1) + 1) 304) (by decide)) _ rfl) ?_
      rintro e w24 ⟨v23, rfl, hv23, hE24⟩
      have sz24 := Pl.Ex.size hE24
      refine ⟨_, rfl, trivial, ?_⟩
      refine Pl.qA_go trivial rfl ?_
      refine Pl.pA_end ?_
      refine Pl.V_endblock ?_
      repeat refine Pl.V_seq ?_
      refine Pl.V_again (k' := (x - 1)) [(8, v18), (9, v23), (14, v14)] (Pl.subl_cons rfl (Pl.subl_cons rfl (Pl.subl_cons rfl Pl.subl_nil))) (by omega) ⟨_, (x - 1), _, _, rfl, (Pl.Ex.trans hE17 (Pl.Ex.trans hE18 (Pl.Ex.trans hE19 (Pl.Ex.trans hE20 (Pl.Ex.trans hE21 (Pl.Ex.trans hE22 (Pl.Ex.trans hE23 hE24))))))), (Un.below hv18 (Pl.Ex.trans hE21 (Pl.Ex.trans hE22 (Pl.Ex.trans hE23 hE24)))), hv23, (Sn.down lx (Nat.sub_le _ _)), (lsum.down (by have := hst.2.1; omega)), hst.2.1, hst.2.2, rfl⟩
    · refine Pl.qA_b (v := .bool false) (fun X => Cm.lt_lss_f c15 X) trivial rfl rfl rfl rfl rfl rfl ?_
      refine Pl.pA_end ?_
      repeat refine Pl.V_seq ?_
      refine Pl.V_false rfl ?_
      repeat refine Pl.V_seq ?_
      refine Pl.V_exit ?_
      repeat refine Pl.V_seq ?_
      refine Pl.V_region (by kernel_rfl) ?_
      obtain ⟨hf1, hf2⟩ := Rt.zim_end heq hlx (Nat.le_of_not_lt c15)
      refine Pl.qA_go trivial rfl ?_
      refine Pl.pA_call rfl rfl rfl rfl rfl (fun u X => Pl.enters Tryz.func46 (by kernel_rfl) rfl u X) ?_
      refine Calls.mono (less_calls _ _ _ y (q * q) (Un.below hvy hE18) (Un.below hv14 (Pl.Ex.trans hE17 hE18)) (Sn.le ly (by decide)) (Sn.le (Sn.mul lq lq (by decide) : Sn (q * q) 600) (by decide)) (Nat.le_of_not_lt c15)) ?_
      rintro e w19 ⟨v16, rfl, hv16, hE19⟩
      have sz19 := Pl.Ex.size hE19
      refine ⟨_, rfl, trivial, ?_⟩
      refine Pl.qA_go trivial rfl ?_
      refine Pl.pA_end ?_
      repeat refine Pl.V_seq ?_
      exact Pl.post_ret2 rfl rfl rfl  (⟨_, _, rfl, Un.as (Un.below hvx (Pl.Ex.trans hE18 hE19)) hf1.symm, Un.as hv16 (by rw [hf1]; exact hf2), (Pl.Ex.trans hE1 (Pl.Ex.trans hE2 (Pl.Ex.trans hE3 (Pl.Ex.trans hE4 (Pl.Ex.trans hE5 (Pl.Ex.trans hE6 (Pl.Ex.trans hE7 (Pl.Ex.trans hE8 (Pl.Ex.trans hE9 (Pl.Ex.trans hE10 (Pl.Ex.trans hE11 (Pl.Ex.trans hE12 (Pl.Ex.trans hE13 (Pl.Ex.trans hE14 (Pl.Ex.trans hE15 (Pl.Ex.trans hE16 (Pl.Ex.trans hE17 (Pl.Ex.trans hE18 hE19))))))))))))))))))⟩)
end Go.Proofs.YtbdmncpibnligaaGreatDoor
