/- Whether a number is a power; the document's roots. -/
import Derived.Test.YtbdmncpibnligaaGreatDoorBbc

namespace Go.Proofs.YtbdmncpibnligaaGreatDoor
open Go.RowKit 
set_option linter.unusedVariables false
set_option linter.unusedSimpArgs false
set_option maxRecDepth 100000
set_option maxHeartbeats 4000000
theorem rpowM' (w : World) (va : Value) (x k : Nat) (hu : Un w va x) (t : Nat) (hx : x < 2 ^ t) (ht : t ≤ 12000) (hk : t * k ≤ 12700) (hn : k ≤ 100000) :
    Calls Tryz.prog 31 #[va, .int .i64 ((k : Nat) : Int)] w fun e w' => ∃ u, e = .returned u ∧ Un w' u (x ^ k) ∧ Ext w w' :=
  rpowN w va x k hu (Sn.bits (K := 398) hx (by omega)) (fun e he => pow_sn hx hk he) hn _ rfl
theorem len0 {n : Nat} : (limbs n).length = 0 ↔ n = 0 := ⟨fun h => limbs_eq_nil.1 (List.eq_nil_of_length_eq_zero h), fun h => by subst h; rw [limbs_zero]; rfl⟩
theorem lenOne {n : Nat} (h : (limbs n).length = 1) : n % 4294967296 = n ∧ n ≠ 0 := by
  obtain ⟨h1, h2, _⟩ := limbs_one h
  exact ⟨by omega, h2⟩
theorem one_no {n : Nat} (h0 : (limbs n).length ≠ 0) (h1 : (limbs n).length ≠ 1) : ¬ n ≤ 1 := fun h => by
  have : n = 0 ∨ n = 1 := by omega
  rcases this with rfl | rfl
  · exact h0 (by rw [limbs_zero]; rfl)
  · exact h1 (by rw [limbs_small 1 (by decide) (by decide)]; rfl)
theorem kr_hi {a k : Nat} (hk : k ≠ 0) : (Rt.kr a k) < 2 ^ (blen a / k + 1) := Rt.kr_lt_pow hk (Nat.lt_of_lt_of_le (lt_pow_blen a) (Nat.pow_le_pow_right (by decide) (by
  have := Nat.div_add_mod (blen a) k
  have := Nat.mod_lt (blen a) (Nat.pos_of_ne_zero hk)
  rw [Nat.mul_add, Nat.mul_one]; omega)))
theorem kr_bits {a k : Nat} (hk : 1 ≤ k) (hS : blen a ≤ 9600) (h : blen a + k ≤ 12000) : (blen a / k + 1) * k ≤ 12700 ∧ blen a / k + 1 ≤ 9601 := by
  have h1 := Nat.div_mul_le_self (blen a) k
  have h2 := Nat.div_le_self (blen a) k
  rw [Nat.add_mul, Nat.one_mul]
  omega
theorem kr_two {a k : Nat} (h2 : 2 ≤ a) (hk : blen a ≤ k) : ¬ Rt.isP a k := fun h => by
  unfold Rt.isP at h
  rw [Rt.kr_big (by omega) (Nat.lt_of_lt_of_le (lt_pow_blen a) (Nat.pow_le_pow_right (by decide) hk)), Nat.one_pow] at h
  omega
theorem isP_one {a k : Nat} (h : a ≤ 1) (hk : 1 ≤ k) : Rt.isP a k := by
  have : a = 0 ∨ a = 1 := by omega
  unfold Rt.isP
  rcases this with rfl | rfl
  · rw [Rt.kr_zero (by omega), Nat.zero_pow (by omega)]
  · rw [Rt.kr_eq (r := 1) (by omega) (by rw [Nat.one_pow]; omega) (Nat.one_lt_two_pow (by omega)), Nat.one_pow]
theorem blen_one {a : Nat} : blen a ≤ 1 ↔ a ≤ 1 := by
  constructor
  · intro h
    have := lt_pow_blen a
    have h2 : 2 ^ blen a ≤ 2 ^ 1 := Nat.pow_le_pow_right (by decide) h
    omega
  · intro h
    exact blen_le_of_lt (k := 1) (by omega)
theorem prim_top {a k : Nat} (hk : 1 ≤ k) (h : Rt.isP a k) (hn : ∀ j, k < j → ¬ Rt.isP a j) : Rt.Prim (Rt.kr a k) := fun d m e => by
  rcases Nat.lt_or_ge m 2 with hm | hm
  · rcases Nat.eq_zero_or_pos m with rfl | h0
    · right; rw [e, Nat.pow_zero]
    · left; omega
  · exfalso
    have h1 : k < m * k := by have := Nat.mul_le_mul_right k hm; omega
    refine hn (m * k) h1 ((Rt.isP_iff (by omega)).2 ⟨d, ?_⟩)
    unfold Rt.isP at h
    rw [Nat.pow_mul, ← e]
    exact h
theorem prim_self {a : Nat} (hn : ∀ j, 1 < j → ¬ Rt.isP a j) : Rt.Prim a := by
  have := prim_top (a := a) (k := 1) (by decide) (by unfold Rt.isP; rw [Rt.kr_one, Nat.pow_one]) hn
  rwa [Rt.kr_one] at this
theorem ab_up {a b k i : Nat} (h : a < b ^ i * b) (hi : i < k) : a < b ^ k := by
  have h0 : 0 < b := Nat.pos_of_ne_zero fun e => by rw [e, Nat.mul_zero] at h; omega
  rw [← Nat.pow_succ] at h
  exact Nat.lt_of_lt_of_le h (Nat.pow_le_pow_right h0 hi)
theorem ab_one {a b k i : Nat} (h : ¬ a < b ^ i * b) (hb : b ≤ 1) (hk : 1 ≤ k) : ¬ a < b ^ k := by
  have : b = 0 ∨ b = 1 := by omega
  rcases this with rfl | rfl
  · rw [Nat.zero_pow (by omega)]; omega
  · rw [Nat.one_pow, Nat.one_mul] at h; rw [Nat.one_pow]; exact h
theorem one_calls (w : World) (va : Value) (a : Nat) (ha : Un w va a) :
    Calls Tryz.prog 52 #[va] w fun e w' => ∃ r : Bool, e = .returned (.bool r) ∧ (r = true ↔ a ≤ 1) ∧ Pl.Ex w w' := by
  obtain ⟨A, c, rfl, -, -, hA0⟩ := un_open ha
  refine Pl.calls_by (n := 17) (vs := [.slice A (limbs a).length c]) Tryz.func52 rfl (by kernel_rfl) (by simp) ?_
  repeat refine Pl.V_seq ?_
  refine Pl.V_region (by kernel_rfl) ?_
  refine Pl.qA_go trivial rfl ?_
  refine Pl.pA_end ?_
  repeat refine Pl.V_seq ?_
  refine Pl.V_region (by kernel_rfl) ?_
  refine Pl.qA_go trivial rfl ?_
  refine Pl.qA_ln Tryz.underlying22 trivial rfl rfl rfl rfl rfl ?_
  by_cases c1 : ((limbs a).length) = 0
  · refine Pl.qA_b (v := .bool true) (fun X => Pl.r_eql (Pl.e_t (by omega)) X) trivial rfl rfl rfl rfl rfl rfl ?_
    refine Pl.qA_go trivial rfl ?_
    refine Pl.pA_end ?_
    repeat refine Pl.V_seq ?_
    exact Pl.post_ret rfl rfl  (⟨true, rfl, ⟨fun _ => by have := len0.1 c1; omega, fun _ => rfl⟩, (Pl.Ex.refl _)⟩)
  · refine Pl.qA_b (v := .bool false) (fun X => Pl.r_eql (Pl.e_f (by omega)) X) trivial rfl rfl rfl rfl rfl rfl ?_
    refine Pl.qA_go trivial rfl ?_
    refine Pl.qA_ln Tryz.underlying22 trivial rfl rfl rfl rfl rfl ?_
    by_cases c2 : ((limbs a).length) = 1
    · refine Pl.qA_b (v := .bool true) (fun X => Pl.r_eql (Pl.e_t (by omega)) X) trivial rfl rfl rfl rfl rfl rfl ?_
      have h1 := lenOne c2
      obtain ⟨ad, rfl, -⟩ := hA0 h1.2
      refine Pl.qA_go trivial rfl ?_
      refine Pl.qA_ix (s := 1) (j := 0) Tryz.underlying22 (by kernel_rfl) rfl (by omega) trivial rfl rfl rfl rfl rfl rfl ?_
      refine Pl.qA_lcw (v := .int .u32 (((a % 4294967296) : Nat) : Int)) Tryz.underlying36 rfl (un_first ha h1.2) trivial rfl rfl rfl rfl rfl ?_
      by_cases c3 : (a % 4294967296) = 1
      · refine Pl.qA_b (v := .bool true) (fun X => Pl.r_eql (Pl.e_t (by omega)) X) trivial rfl rfl rfl rfl rfl rfl ?_
        refine Pl.qA_go trivial rfl ?_
        refine Pl.pA_end ?_
        repeat refine Pl.V_seq ?_
        exact Pl.post_ret rfl rfl  (⟨true, rfl, ⟨fun _ => by omega, fun _ => rfl⟩, (Pl.Ex.refl _)⟩)
      · refine Pl.qA_b (v := .bool false) (fun X => Pl.r_eql (Pl.e_f (by omega)) X) trivial rfl rfl rfl rfl rfl rfl ?_
        refine Pl.qA_go trivial rfl ?_
        refine Pl.pA_end ?_
        repeat refine Pl.V_seq ?_
        exact Pl.post_ret rfl rfl  (⟨false, rfl, ⟨fun h => (by cases h), fun h => absurd h (by omega)⟩, (Pl.Ex.refl _)⟩)
    · refine Pl.qA_b (v := .bool false) (fun X => Pl.r_eql (Pl.e_f (by omega)) X) trivial rfl rfl rfl rfl rfl rfl ?_
      refine Pl.qA_go trivial rfl ?_
      refine Pl.pA_end ?_
      repeat refine Pl.V_seq ?_
      exact Pl.post_ret rfl rfl  (⟨false, rfl, ⟨fun h => (by cases h), fun h => absurd h (one_no c1 c2)⟩, (Pl.Ex.refl _)⟩)
theorem above_calls (w : World) (vb va : Value) (b a : Nat) (hb : Un w vb b) (ha : Un w va a) (lb_ : Sn b 310) (la : Sn a 300) (k : Nat) (hk1 : 1 ≤ k ∧ k ≤ 1000000) :
    Calls Tryz.prog 56 #[vb, .int .i64 ((k : Nat) : Int), va] w fun e w' => ∃ r : Bool, e = .returned (.bool r) ∧ (r = true ↔ a < b ^ k) ∧ Pl.Ex w w' := by
  obtain ⟨A, c, rfl, -, -, hA0⟩ := un_open hb
  have hk := hk1.1
  refine Pl.calls_by (n := 36) (vs := [(.slice A (limbs b).length c), .int .i64 ((k : Nat) : Int), va]) Tryz.func56 rfl (by kernel_rfl) (by simp) ?_
  repeat refine Pl.V_seq ?_
  refine Pl.V_region (by kernel_rfl) ?_
  refine Pl.qA_go trivial rfl ?_
  refine Pl.pA_end ?_
  repeat refine Pl.V_seq ?_
  refine Pl.V_region (by kernel_rfl) ?_
  refine Pl.qA_bs (e := 36) (n := 1) [.int .u32 1] rfl rfl rfl rfl (by kernel_rfl) (fun Y hY => trivial) ?_
  intro N1 w1 hE1 hN_N1 k_N1_0
  have z_N1 := Pl.Cb.lt k_N1_0
  have sz1 := Pl.Ex.size hE1
  refine Pl.qA_go trivial rfl ?_
  refine Pl.pA_end ?_
  repeat refine Pl.V_seq ?_
  refine Pl.V_region (by kernel_rfl) ?_
  refine Pl.qA_go trivial rfl ?_
  refine Pl.pA_end ?_
  repeat refine Pl.V_seq ?_
  refine Pl.V_block ?_
  have hl2 := Un.one (x := 1) k_N1_0 rfl (by omega)
  repeat refine Pl.V_seq ?_
  refine Pl.V_sub [(0, (.slice A (limbs b).length c)), (1, .int .i64 ((k : Nat) : Int)), (2, va), (7, .slice (some ⟨N1, 0, none⟩) 1 1), (8, .int .i64 0)] (Pl.subl_cons rfl (Pl.subl_cons rfl (Pl.subl_cons rfl (Pl.subl_cons rfl (Pl.subl_cons rfl Pl.subl_nil))))) ?_
  repeat refine Pl.V_seq ?_
  refine Pl.V_loop (fun kq l' w' => ∃ i vx, (k - i) = kq ∧ Pl.Ex w1 w' ∧ (i ≤ k) ∧ (Un w' vx (b ^ i)) ∧ (Sn (b ^ i) 300) ∧ ((i = 0 ∨ b ^ i ≤ a)) ∧ l' = [(0, (.slice A (limbs b).length c)), (1, .int .i64 ((k : Nat) : Int)), (2, va), (7, vx), (8, .int .i64 ((i : Nat) : Int))]) _ ⟨0, _, rfl, Pl.Ex.refl _, (Nat.zero_le _), (Un.as hl2 (Nat.pow_zero b).symm), (by rw [Nat.pow_zero]; exact Sn.one (by decide) (by decide)), (.inl rfl), rfl⟩ ?_
  rintro kq _ w2 ⟨i, vx, hk2, hE2, hik, hvx, lx, hbi, rfl⟩
  have sz2 := Pl.Ex.size hE2
  repeat refine Pl.V_seq ?_
  refine Pl.V_region (by kernel_rfl) ?_
  refine Pl.qA_go trivial rfl ?_
  by_cases c3 : i < k
  · refine Pl.qA_b (v := .bool true) (fun X => Pl.r_lss (decide_eq_true (by omega)) X) trivial rfl rfl rfl rfl rfl rfl ?_
    refine Pl.pA_end ?_
    repeat refine Pl.V_seq ?_
    refine Pl.V_true rfl ?_
    repeat refine Pl.V_seq ?_
    refine Pl.V_skip ?_
    repeat refine Pl.V_seq ?_
    refine Pl.V_block ?_
    repeat refine Pl.V_seq ?_
    refine Pl.V_region (by kernel_rfl) ?_
    refine Pl.qA_go trivial rfl ?_
    refine Pl.pA_call rfl rfl rfl rfl rfl (fun u X => Pl.enters Tryz.func26 (by kernel_rfl) rfl u X) ?_
    refine Calls.mono (rschoolX_B _ _ _ (b ^ i) b _ hvx (Un.below hb (Pl.Ex.trans hE1 hE2)) (Sn.le lx (by decide)) (Sn.le lb_ (by decide)) rfl) ?_
    rintro e w3 ⟨v4, rfl, hv4, hE3⟩
    have sz3 := Pl.Ex.size hE3
    refine ⟨_, rfl, trivial, ?_⟩
    refine Pl.qA_go trivial rfl ?_
    refine Pl.pA_end ?_
    repeat refine Pl.V_seq ?_
    refine Pl.V_region (by kernel_rfl) ?_
    refine Pl.qA_go trivial rfl ?_
    refine Pl.pA_call rfl rfl rfl rfl rfl (fun u X => Pl.enters Tryz.func25 (by kernel_rfl) rfl u X) ?_
    refine Calls.mono (rcmp_B _ _ _ ((b ^ i) * b) a hv4 (Un.below ha (Pl.Ex.trans hE1 (Pl.Ex.trans hE2 hE3))) (Sn.le (Sn.mul lx lb_ (by decide) : Sn ((b ^ i) * b) 610) (by decide)) (Sn.le la (by decide)) _ rfl) ?_
    rintro e w4 ⟨rfl, hE4⟩
    have sz4 := Pl.Ex.size hE4
    refine ⟨_, rfl, trivial, ?_⟩
    by_cases c5 : a < ((b ^ i) * b)
    · refine Pl.qA_b (v := .bool true) (fun X => Cm.gt_gtr_t c5 X) trivial rfl rfl rfl rfl rfl rfl ?_
      refine Pl.pA_end ?_
      repeat refine Pl.V_seq ?_
      refine Pl.V_true rfl ?_
      repeat refine Pl.V_seq ?_
      refine Pl.V_region (by kernel_rfl) ?_
      refine Pl.qA_go trivial rfl ?_
      refine Pl.pA_end ?_
      repeat refine Pl.V_seq ?_
      refine Pl.V_ret fun aQ hQ => ?_
      repeat first | refine Pl.ret_then ?_ | refine Pl.Ks_ret ?_ | refine Pl.ret_block ?_ | refine Pl.ret_goto ?_
      exact Pl.at_ret1 hQ rfl rfl  (⟨true, rfl, ⟨fun _ => ab_up c5 (by omega), fun _ => rfl⟩, (Pl.Ex.trans hE1 (Pl.Ex.trans hE2 (Pl.Ex.trans hE3 hE4)))⟩)
    · refine Pl.qA_b (v := .bool false) (fun X => Cm.gt_gtr_f c5 X) trivial rfl rfl rfl rfl rfl rfl ?_
      refine Pl.pA_end ?_
      repeat refine Pl.V_seq ?_
      refine Pl.V_false rfl ?_
      repeat refine Pl.V_seq ?_
      refine Pl.V_skip ?_
      repeat refine Pl.V_seq ?_
      refine Pl.V_region (by kernel_rfl) ?_
      refine Pl.qA_go trivial rfl ?_
      refine Pl.qA_ln Tryz.underlying22 trivial rfl rfl rfl rfl rfl ?_
      by_cases c6 : ((limbs b).length) = 0
      · refine Pl.qA_b (v := .bool true) (fun X => Pl.r_eql (Pl.e_t (by omega)) X) trivial rfl rfl rfl rfl rfl rfl ?_
        refine Pl.qA_go trivial rfl ?_
        refine Pl.pA_end ?_
        repeat refine Pl.V_seq ?_
        refine Pl.V_true rfl ?_
        repeat refine Pl.V_seq ?_
        refine Pl.V_region (by kernel_rfl) ?_
        refine Pl.qA_go trivial rfl ?_
        refine Pl.pA_end ?_
        repeat refine Pl.V_seq ?_
        refine Pl.V_ret fun aQ hQ => ?_
        repeat first | refine Pl.ret_then ?_ | refine Pl.Ks_ret ?_ | refine Pl.ret_block ?_ | refine Pl.ret_goto ?_
        exact Pl.at_ret1 hQ rfl rfl  (⟨false, rfl, ⟨fun h => (by cases h), fun h => absurd h (ab_one c5 (by have := len0.1 c6; omega) hk)⟩, (Pl.Ex.trans hE1 (Pl.Ex.trans hE2 (Pl.Ex.trans hE3 hE4)))⟩)
      · refine Pl.qA_b (v := .bool false) (fun X => Pl.r_eql (Pl.e_f (by omega)) X) trivial rfl rfl rfl rfl rfl rfl ?_
        refine Pl.qA_go trivial rfl ?_
        refine Pl.qA_ln Tryz.underlying22 trivial rfl rfl rfl rfl rfl ?_
        by_cases c7 : ((limbs b).length) = 1
        · refine Pl.qA_b (v := .bool true) (fun X => Pl.r_eql (Pl.e_t (by omega)) X) trivial rfl rfl rfl rfl rfl rfl ?_
          have h1 := lenOne c7
          obtain ⟨ad, rfl, -⟩ := hA0 h1.2
          refine Pl.qA_go trivial rfl ?_
          refine Pl.qA_ix (s := 1) (j := 0) Tryz.underlying22 (by kernel_rfl) rfl (by omega) trivial rfl rfl rfl rfl rfl rfl ?_
          refine Pl.qA_lcw (v := .int .u32 (((b % 4294967296) : Nat) : Int)) Tryz.underlying36 rfl (un_first (Un.below hb (Pl.Ex.trans hE1 (Pl.Ex.trans hE2 (Pl.Ex.trans hE3 hE4)))) h1.2) trivial rfl rfl rfl rfl rfl ?_
          by_cases c8 : (b % 4294967296) = 1
          · refine Pl.qA_b (v := .bool true) (fun X => Pl.r_eql (Pl.e_t (by omega)) X) trivial rfl rfl rfl rfl rfl rfl ?_
            refine Pl.qA_go trivial rfl ?_
            refine Pl.pA_end ?_
            repeat refine Pl.V_seq ?_
            refine Pl.V_true rfl ?_
            repeat refine Pl.V_seq ?_
            refine Pl.V_region (by kernel_rfl) ?_
            refine Pl.qA_go trivial rfl ?_
            refine Pl.pA_end ?_
            repeat refine Pl.V_seq ?_
            refine Pl.V_ret fun aQ hQ => ?_
            repeat first | refine Pl.ret_then ?_ | refine Pl.Ks_ret ?_ | refine Pl.ret_block ?_ | refine Pl.ret_goto ?_
            exact Pl.at_ret1 hQ rfl rfl  (⟨false, rfl, ⟨fun h => (by cases h), fun h => absurd h (ab_one c5 (by omega) hk)⟩, (Pl.Ex.trans hE1 (Pl.Ex.trans hE2 (Pl.Ex.trans hE3 hE4)))⟩)
          · refine Pl.qA_b (v := .bool false) (fun X => Pl.r_eql (Pl.e_f (by omega)) X) trivial rfl rfl rfl rfl rfl rfl ?_
            refine Pl.qA_go trivial rfl ?_
            refine Pl.pA_end ?_
            repeat refine Pl.V_seq ?_
            refine Pl.V_false rfl ?_
            repeat refine Pl.V_seq ?_
            refine Pl.V_skip ?_
            refine Pl.V_endblock ?_
            repeat refine Pl.V_seq ?_
            refine Pl.V_region (by kernel_rfl) ?_
            refine Pl.qA_go trivial rfl ?_
            refine Pl.qA_b (v := .int .i64 (((i + 1) : Nat) : Int)) (fun X => nb_add_i64 (a := i) (b := 1) (by omega) X) trivial rfl rfl rfl rfl rfl rfl ?_
            refine Pl.qA_go trivial rfl ?_
            refine Pl.pA_end ?_
            clear hA0
            repeat refine Pl.V_seq ?_
            refine Pl.V_again (k' := (k - (i + 1))) [(0, .slice (some ad) (limbs b).length c), (1, .int .i64 ((k : Nat) : Int)), (2, va), (7, v4), (8, .int .i64 (((i + 1) : Nat) : Int))] (Pl.subl_cons rfl (Pl.subl_cons rfl (Pl.subl_cons rfl (Pl.subl_cons rfl (Pl.subl_cons rfl Pl.subl_nil))))) (by omega) ⟨(i + 1), _, rfl, (Pl.Ex.trans hE2 (Pl.Ex.trans hE3 hE4)), (by omega), (Un.as (Un.below hv4 hE4) (Nat.pow_succ b i).symm), (by rw [Nat.pow_succ]; exact la.down (Nat.le_of_not_lt c5)), (.inr (by rw [Nat.pow_succ]; exact Nat.le_of_not_lt c5)), rfl⟩
        · refine Pl.qA_b (v := .bool false) (fun X => Pl.r_eql (Pl.e_f (by omega)) X) trivial rfl rfl rfl rfl rfl rfl ?_
          refine Pl.qA_go trivial rfl ?_
          refine Pl.pA_end ?_
          repeat refine Pl.V_seq ?_
          refine Pl.V_false rfl ?_
          repeat refine Pl.V_seq ?_
          refine Pl.V_skip ?_
          refine Pl.V_endblock ?_
          repeat refine Pl.V_seq ?_
          refine Pl.V_region (by kernel_rfl) ?_
          refine Pl.qA_go trivial rfl ?_
          refine Pl.qA_b (v := .int .i64 (((i + 1) : Nat) : Int)) (fun X => nb_add_i64 (a := i) (b := 1) (by omega) X) trivial rfl rfl rfl rfl rfl rfl ?_
          refine Pl.qA_go trivial rfl ?_
          refine Pl.pA_end ?_
          clear hA0
          repeat refine Pl.V_seq ?_
          refine Pl.V_again (k' := (k - (i + 1))) [(0, (.slice A (limbs b).length c)), (1, .int .i64 ((k : Nat) : Int)), (2, va), (7, v4), (8, .int .i64 (((i + 1) : Nat) : Int))] (Pl.subl_cons rfl (Pl.subl_cons rfl (Pl.subl_cons rfl (Pl.subl_cons rfl (Pl.subl_cons rfl Pl.subl_nil))))) (by omega) ⟨(i + 1), _, rfl, (Pl.Ex.trans hE2 (Pl.Ex.trans hE3 hE4)), (by omega), (Un.as (Un.below hv4 hE4) (Nat.pow_succ b i).symm), (by rw [Nat.pow_succ]; exact la.down (Nat.le_of_not_lt c5)), (.inr (by rw [Nat.pow_succ]; exact Nat.le_of_not_lt c5)), rfl⟩
  · refine Pl.qA_b (v := .bool false) (fun X => Pl.r_lss (decide_eq_false (by omega)) X) trivial rfl rfl rfl rfl rfl rfl ?_
    refine Pl.pA_end ?_
    repeat refine Pl.V_seq ?_
    refine Pl.V_false rfl ?_
    repeat refine Pl.V_seq ?_
    refine Pl.V_exit ?_
    repeat refine Pl.V_seq ?_
    refine Pl.V_region (by kernel_rfl) ?_
    refine Pl.qA_go trivial rfl ?_
    refine Pl.pA_end ?_
    repeat refine Pl.V_seq ?_
    exact Pl.post_ret rfl rfl  (⟨false, rfl, ⟨fun h => (by cases h), fun h => absurd h (by obtain rfl : i = k := (by omega); omega)⟩, (Pl.Ex.trans hE1 hE2)⟩)
theorem cut_calls (w : World) (va : Value) (a : Nat) (ha : Un w va a) (la : Sn a 300) (k : Nat) (hk : 1 ≤ k ∧ k ≤ 1000000) :
    Calls Tryz.prog 34 #[va, .int .i64 ((k : Nat) : Int)] w fun e w' => ∃ u, e = .returned u ∧ Un w' u (Rt.kr a k) ∧ Pl.Ex w w' := by
  refine Pl.calls_by (n := 29) (vs := [va, .int .i64 ((k : Nat) : Int)]) Tryz.func34 rfl (by kernel_rfl) (by simp) ?_
  have hb96 := la.blen
  obtain ⟨d, hd⟩ : ∃ d, blen a / k = d := ⟨_, rfl⟩
  have hd96 : d ≤ 9600 := by rw [← hd]; exact Nat.le_trans (Nat.div_le_self _ _) hb96
  have hst : a < (0 + 2 ^ (d + 1)) ^ k := by rw [← hd, Nat.zero_add]; exact Nat.lt_of_lt_of_le (Rt.kr_lt a (by omega)) (Nat.pow_le_pow_left (kr_hi (by omega)) k)
  repeat refine Pl.V_seq ?_
  refine Pl.V_region (by kernel_rfl) ?_
  refine Pl.qA_go trivial rfl ?_
  refine Pl.pA_end ?_
  repeat refine Pl.V_seq ?_
  refine Pl.V_region (by kernel_rfl) ?_
  refine Pl.qA_bs (e := 36) (n := 0) [] rfl rfl rfl rfl (by kernel_rfl) (fun Y hY => trivial) ?_
  intro N1 w1 hE1 hN_N1 k_N1_0
  have z_N1 := Pl.Cb.lt k_N1_0
  have sz1 := Pl.Ex.size hE1
  refine Pl.qA_go trivial rfl ?_
  refine Pl.pA_end ?_
  repeat refine Pl.V_seq ?_
  refine Pl.V_region (by kernel_rfl) ?_
  refine Pl.qA_go trivial rfl ?_
  refine Pl.pA_call rfl rfl rfl rfl rfl (fun u X => Pl.enters Tryz.func30 (by kernel_rfl) rfl u X) ?_
  refine Calls.mono (rbits_B _ _ a (Un.below ha hE1) (Sn.le la (by decide)) _ rfl) ?_
  rintro e w2 ⟨rfl, hE2⟩
  have sz2 := Pl.Ex.size hE2
  refine ⟨_, rfl, trivial, ?_⟩
  refine Pl.qA_go trivial rfl ?_
  refine Pl.qA_b (v := .int .i64 ((d : Nat) : Int)) (fun X => Pl.Bn.as (nb_quo_i64 (a := blen a) (b := k) (by omega) (by omega)) (by rw [hd]) X) trivial rfl rfl rfl rfl rfl rfl ?_
  refine Pl.qA_go trivial rfl ?_
  refine Pl.pA_end ?_
  repeat refine Pl.V_seq ?_
  refine Pl.V_block ?_
  rw [show ((d : Nat) : Int) = (((d + 1 : Nat) : Int) - 1) by omega]
  repeat refine Pl.V_seq ?_
  refine Pl.V_sub [(0, va), (1, .int .i64 ((k : Nat) : Int)), (5, .slice (some ⟨N1, 0, none⟩) 0 0), (6, .int .i64 ((((d + 1) : Nat) : Int) - 1))] (Pl.subl_cons rfl (Pl.subl_cons rfl (Pl.subl_cons rfl (Pl.subl_cons rfl Pl.subl_nil)))) ?_
  repeat refine Pl.V_seq ?_
  refine Pl.V_loop (fun kq l' w' => ∃ i vx x, i = kq ∧ Pl.Ex w2 w' ∧ (i ≤ 9601) ∧ (Un w' vx x) ∧ (Sn x 300) ∧ ((x ^ k ≤ a ∨ x = 0)) ∧ (a < (x + 2 ^ i) ^ k) ∧ l' = [(0, va), (1, .int .i64 ((k : Nat) : Int)), (5, vx), (6, .int .i64 ((i : Int) - 1))]) _ ⟨(d + 1), _, 0, rfl, Pl.Ex.refl _, (by omega), (Un.nilA _ _ _), Sn.zero, (.inr rfl), hst, rfl⟩ ?_
  rintro kq _ w3 ⟨i, vx, x, hk3, hE3, hi, hvx, lx, hlow, hup, rfl⟩
  have sz3 := Pl.Ex.size hE3
  repeat refine Pl.V_seq ?_
  refine Pl.V_region (by kernel_rfl) ?_
  refine Pl.qA_go trivial rfl ?_
  by_cases c3 : 0 < i
  · refine Pl.qA_b (v := .bool true) (fun X => Pl.r_geq (decide_eq_true (by omega)) X) trivial rfl rfl rfl rfl rfl rfl ?_
    refine Pl.pA_end ?_
    repeat refine Pl.V_seq ?_
    refine Pl.V_true rfl ?_
    repeat refine Pl.V_seq ?_
    refine Pl.V_skip ?_
    repeat refine Pl.V_seq ?_
    refine Pl.V_block ?_
    repeat refine Pl.V_seq ?_
    refine Pl.V_region (by kernel_rfl) ?_
    obtain ⟨j, rfl⟩ : ∃ j, i = j + 1 := ⟨i - 1, by omega⟩
    rw [show (((j + 1 : Nat) : Int) - 1) = ((j : Nat) : Int) by omega]
    obtain ⟨hs1, hs2⟩ := Rt.bit_step hup
    have l2j : Sn (1 * 2 ^ j) 301 := Sn.bits (b := j + 1) (by rw [Nat.one_mul]; exact Nat.pow_lt_pow_right (by decide) (by omega)) (by omega)
    refine Pl.qA_go trivial rfl ?_
    refine Pl.qA_bs (e := 36) (n := 1) [.int .u32 1] rfl rfl rfl rfl (by kernel_rfl) (fun Y hY => trivial) ?_
    intro N4 w4 hE4 hN_N4 k_N4_0
    have z_N4 := Pl.Cb.lt k_N4_0
    have sz4 := Pl.Ex.size hE4
    refine Pl.qA_go trivial rfl ?_
    have hl5 := Un.one (x := 1) k_N4_0 rfl (by omega)
    refine Pl.pA_call rfl rfl rfl rfl rfl (fun u X => Pl.enters Tryz.func27 (by kernel_rfl) rfl u X) ?_
    refine Calls.mono (rshl_B _ _ 1 j hl5 (by omega) (Sn.le (Sn.of (K := 1) (by omega)) (by decide)) _ rfl) ?_
    rintro e w5 ⟨v6, rfl, hv6, hE5⟩
    have sz5 := Pl.Ex.size hE5
    refine ⟨_, rfl, trivial, ?_⟩
    refine Pl.pA_call rfl rfl rfl rfl rfl (fun u X => Pl.enters Tryz.func23 (by kernel_rfl) rfl u X) ?_
    refine Calls.mono (radd_B _ _ _ x (1 * 2 ^ j) (Un.below hvx (Pl.Ex.trans hE4 hE5)) hv6 (Sn.le lx (by decide)) (Sn.le l2j (by decide)) _ rfl) ?_
    rintro e w6 ⟨v7, rfl, hv7, hE6⟩
    have sz6 := Pl.Ex.size hE6
    refine ⟨_, rfl, trivial, ?_⟩
    refine Pl.qA_go trivial rfl ?_
    refine Pl.pA_end ?_
    repeat refine Pl.V_seq ?_
    refine Pl.V_region (by kernel_rfl) ?_
    refine Pl.qA_go trivial rfl ?_
    by_cases c8 : a < (x + (1 * 2 ^ j)) ^ k
    · refine Pl.pA_call rfl rfl rfl rfl rfl (fun u X => Pl.enters Tryz.func56 (by kernel_rfl) rfl u X) ?_
      refine Calls.mono (above_calls _ _ _ (x + (1 * 2 ^ j)) a hv7 (Un.below ha (Pl.Ex.trans hE1 (Pl.Ex.trans hE2 (Pl.Ex.trans hE3 (Pl.Ex.trans hE4 (Pl.Ex.trans hE5 hE6)))))) (Sn.le (Sn.add lx l2j (by decide) (by decide) : Sn (x + (1 * 2 ^ j)) 302) (by decide)) la k (by omega)) ?_
      rintro e w7 ⟨r0, rfl, hr0, hE7⟩
      obtain rfl : r0 = true := by exact hr0.2 c8
      have sz7 := Pl.Ex.size hE7
      refine ⟨_, rfl, trivial, ?_⟩
      refine Pl.qA_un (v := .bool false) trivial rfl rfl rfl rfl rfl (fun X => rfl) ?_
      refine Pl.pA_end ?_
      repeat refine Pl.V_seq ?_
      refine Pl.V_false rfl ?_
      repeat refine Pl.V_seq ?_
      refine Pl.V_skip ?_
      refine Pl.V_endblock ?_
      repeat refine Pl.V_seq ?_
      refine Pl.V_region (by kernel_rfl) ?_
      refine Pl.qA_go trivial rfl ?_
      refine Pl.qA_b (v := .int .i64 ((j : Int) - 1)) (fun X => Pl.r_sub (Pl.w64 (by omega) (by omega)) X) trivial rfl rfl rfl rfl rfl rfl ?_
      refine Pl.qA_go trivial rfl ?_
      refine Pl.pA_end ?_
      repeat refine Pl.V_seq ?_
      refine Pl.V_again (k' := j) [(0, va), (1, .int .i64 ((k : Nat) : Int)), (5, vx), (6, .int .i64 ((j : Int) - 1))] (Pl.subl_cons rfl (Pl.subl_cons rfl (Pl.subl_cons rfl (Pl.subl_cons rfl Pl.subl_nil)))) (by omega) ⟨j, _, x, rfl, (Pl.Ex.trans hE3 (Pl.Ex.trans hE4 (Pl.Ex.trans hE5 (Pl.Ex.trans hE6 hE7)))), (by omega), (Un.below hvx (Pl.Ex.trans hE4 (Pl.Ex.trans hE5 (Pl.Ex.trans hE6 hE7)))), lx, hlow, (by have := c8; rwa [Nat.one_mul] at this), rfl⟩
    · refine Pl.pA_call rfl rfl rfl rfl rfl (fun u X => Pl.enters Tryz.func56 (by kernel_rfl) rfl u X) ?_
      refine Calls.mono (above_calls _ _ _ (x + (1 * 2 ^ j)) a hv7 (Un.below ha (Pl.Ex.trans hE1 (Pl.Ex.trans hE2 (Pl.Ex.trans hE3 (Pl.Ex.trans hE4 (Pl.Ex.trans hE5 hE6)))))) (Sn.le (Sn.add lx l2j (by decide) (by decide) : Sn (x + (1 * 2 ^ j)) 302) (by decide)) la k (by omega)) ?_
      rintro e w7 ⟨r0, rfl, hr0, hE7⟩
      obtain rfl : r0 = false := by exact Bool.eq_false_iff.2 fun h => c8 (hr0.1 h)
      have sz7 := Pl.Ex.size hE7
      refine ⟨_, rfl, trivial, ?_⟩
      refine Pl.qA_un (v := .bool true) trivial rfl rfl rfl rfl rfl (fun X => rfl) ?_
      refine Pl.pA_end ?_
      repeat refine Pl.V_seq ?_
      refine Pl.V_true rfl ?_
      repeat refine Pl.V_seq ?_
      refine Pl.V_region (by kernel_rfl) ?_
      refine Pl.qA_go trivial rfl ?_
      refine Pl.pA_end ?_
      refine Pl.V_endblock ?_
      repeat refine Pl.V_seq ?_
      refine Pl.V_region (by kernel_rfl) ?_
      refine Pl.qA_go trivial rfl ?_
      refine Pl.qA_b (v := .int .i64 ((j : Int) - 1)) (fun X => Pl.r_sub (Pl.w64 (by omega) (by omega)) X) trivial rfl rfl rfl rfl rfl rfl ?_
      refine Pl.qA_go trivial rfl ?_
      refine Pl.pA_end ?_
      repeat refine Pl.V_seq ?_
      refine Pl.V_again (k' := j) [(0, va), (1, .int .i64 ((k : Nat) : Int)), (5, v7), (6, .int .i64 ((j : Int) - 1))] (Pl.subl_cons rfl (Pl.subl_cons rfl (Pl.subl_cons rfl (Pl.subl_cons rfl Pl.subl_nil)))) (by omega) ⟨j, _, (x + (1 * 2 ^ j)), rfl, (Pl.Ex.trans hE3 (Pl.Ex.trans hE4 (Pl.Ex.trans hE5 (Pl.Ex.trans hE6 hE7)))), (by omega), (Un.below hv7 hE7), (la.down (Nat.le_trans (Rt.self_pow _ (by omega)) (Nat.le_of_not_lt c8))), (.inl (Nat.le_of_not_lt c8)), (by rw [Nat.one_mul]; exact (hs1 (by have := Nat.le_of_not_lt c8; rwa [Nat.one_mul] at this)).2), rfl⟩
  · refine Pl.qA_b (v := .bool false) (fun X => Pl.r_geq (decide_eq_false (by omega)) X) trivial rfl rfl rfl rfl rfl rfl ?_
    refine Pl.pA_end ?_
    repeat refine Pl.V_seq ?_
    refine Pl.V_false rfl ?_
    repeat refine Pl.V_seq ?_
    refine Pl.V_exit ?_
    repeat refine Pl.V_seq ?_
    refine Pl.V_region (by kernel_rfl) ?_
    obtain rfl : i = 0 := by omega
    have hkr : Rt.kr a k = x := Rt.kr_eq (by omega) (hlow.elim id fun e => by rw [e, Nat.zero_pow (by omega)]; omega) (by rw [Nat.pow_zero] at hup; exact hup)
    refine Pl.qA_go trivial rfl ?_
    refine Pl.pA_end ?_
    repeat refine Pl.V_seq ?_
    exact Pl.post_ret rfl rfl  (⟨_, rfl, Un.as hvx hkr.symm, (Pl.Ex.trans hE1 (Pl.Ex.trans hE2 hE3))⟩)
theorem rroot_calls (w : World) (va : Value) (a : Nat) (ha : Un w va a) (la : Sn a 300) (z : Int) :
    Calls Tryz.prog 15 #[va, .int .i64 z] w fun e w' => ((z < 1 ∨ 1000000 < z) ∧ e = .returned (.tuple #[.slice none 0 0, .int .i64 1]) ∨ ∃ (k : Nat) (u : Value), z = (k : Int) ∧ 1 ≤ k ∧ k ≤ 1000000 ∧ e = .returned (.tuple #[u, .int .i64 0]) ∧ Un w' u (Rt.kr a k)) ∧ Pl.Ex w w' := by
  refine Pl.calls_by (n := 15) (vs := [va, .int .i64 z]) Tryz.func15 rfl (by kernel_rfl) (by simp) ?_
  repeat refine Pl.V_seq ?_
  refine Pl.V_region (by kernel_rfl) ?_
  refine Pl.qA_go trivial rfl ?_
  refine Pl.pA_end ?_
  repeat refine Pl.V_seq ?_
  refine Pl.V_region (by kernel_rfl) ?_
  refine Pl.qA_go trivial rfl ?_
  by_cases c1 : z < 1
  · refine Pl.qA_b (v := .bool true) (fun X => Pl.r_lss (decide_eq_true (by omega)) X) trivial rfl rfl rfl rfl rfl rfl ?_
    refine Pl.qA_go trivial rfl ?_
    refine Pl.pA_end ?_
    repeat refine Pl.V_seq ?_
    refine Pl.V_true rfl ?_
    repeat refine Pl.V_seq ?_
    refine Pl.V_region (by kernel_rfl) ?_
    refine Pl.qA_go trivial rfl ?_
    refine Pl.pA_end ?_
    repeat refine Pl.V_seq ?_
    exact Pl.post_ret2 rfl rfl rfl  (⟨.inl ⟨by omega, rfl⟩, (Pl.Ex.refl _)⟩)
  · refine Pl.qA_b (v := .bool false) (fun X => Pl.r_lss (decide_eq_false (by omega)) X) trivial rfl rfl rfl rfl rfl rfl ?_
    refine Pl.qA_go trivial rfl ?_
    by_cases c2 : z > 1000000
    · refine Pl.qA_b (v := .bool true) (fun X => Pl.r_gtr (decide_eq_true (by omega)) X) trivial rfl rfl rfl rfl rfl rfl ?_
      refine Pl.qA_go trivial rfl ?_
      refine Pl.pA_end ?_
      repeat refine Pl.V_seq ?_
      refine Pl.V_true rfl ?_
      repeat refine Pl.V_seq ?_
      refine Pl.V_region (by kernel_rfl) ?_
      refine Pl.qA_go trivial rfl ?_
      refine Pl.pA_end ?_
      repeat refine Pl.V_seq ?_
      exact Pl.post_ret2 rfl rfl rfl  (⟨.inl ⟨by omega, rfl⟩, (Pl.Ex.refl _)⟩)
    · refine Pl.qA_b (v := .bool false) (fun X => Pl.r_gtr (decide_eq_false (by omega)) X) trivial rfl rfl rfl rfl rfl rfl ?_
      refine Pl.qA_go trivial rfl ?_
      refine Pl.pA_end ?_
      repeat refine Pl.V_seq ?_
      refine Pl.V_false rfl ?_
      repeat refine Pl.V_seq ?_
      refine Pl.V_skip ?_
      repeat refine Pl.V_seq ?_
      refine Pl.V_region (by kernel_rfl) ?_
      obtain ⟨k, rfl⟩ := Int.eq_ofNat_of_zero_le (show 0 ≤ z by omega)
      refine Pl.qA_go trivial rfl ?_
      refine Pl.pA_call rfl rfl rfl rfl rfl (fun u X => Pl.enters Tryz.func34 (by kernel_rfl) rfl u X) ?_
      refine Calls.mono (cut_calls _ _ a ha la k (by omega)) ?_
      rintro e w1 ⟨v3, rfl, hv3, hE1⟩
      have sz1 := Pl.Ex.size hE1
      refine ⟨_, rfl, trivial, ?_⟩
      refine Pl.qA_go trivial rfl ?_
      refine Pl.pA_end ?_
      repeat refine Pl.V_seq ?_
      exact Pl.post_ret2 rfl rfl rfl  (⟨.inr ⟨k, _, rfl, by omega, by omega, rfl, hv3⟩, hE1⟩)
theorem rroot_N (w : World) (va : Value) (a : Nat) (ha : Un w va a) (la : Sn a 300) (k : Nat) (hk : 1 ≤ k) (hk2 : k ≤ 1000000) :
    Calls Tryz.prog 15 #[va, .int .i64 ((k : Nat) : Int)] w fun e w' => ∃ u, e = .returned (.tuple #[u, .int .i64 0]) ∧ Un w' u (Rt.kr a k) ∧ Pl.Ex w w' := by
  refine (rroot_calls w va a ha la (k : Int)).mono ?_
  rintro e w' ⟨⟨h, rfl⟩ | ⟨j, u, h, h1, h2, rfl, hu⟩, hE⟩
  · omega
  · obtain rfl : k = j := by omega
    exact ⟨u, rfl, hu, hE⟩
theorem rsqrt_calls (w : World) (va : Value) (a : Nat) (ha : Un w va a) (la : Sn a 300) :
    Calls Tryz.prog 17 #[va] w fun e w' => ∃ u v, e = .returned (.tuple #[u, v]) ∧ Un w' u (Rt.kr a 2) ∧ Un w' v (a - Rt.kr a 2 * Rt.kr a 2) ∧ Pl.Ex w w' := by
  refine Pl.calls_by (n := 23) (vs := [va]) Tryz.func17 rfl (by kernel_rfl) (by simp) ?_
  repeat refine Pl.V_seq ?_
  refine Pl.V_region (by kernel_rfl) ?_
  refine Pl.qA_go trivial rfl ?_
  refine Pl.pA_end ?_
  repeat refine Pl.V_seq ?_
  refine Pl.V_region (by kernel_rfl) ?_
  refine Pl.qA_go trivial rfl ?_
  refine Pl.pA_call rfl rfl rfl rfl rfl (fun u X => Pl.enters Tryz.func15 (by kernel_rfl) rfl u X) ?_
  refine Calls.mono ((rroot_N _ _ a ha la 2 (by decide) (by decide))) ?_
  rintro e w1 ⟨v1, rfl, hv1, hE1⟩
  have sz1 := Pl.Ex.size hE1
  refine ⟨_, rfl, trivial, ?_⟩
  refine Pl.qA_go trivial rfl ?_
  refine Pl.pA_end ?_
  repeat refine Pl.V_seq ?_
  refine Pl.V_region (by kernel_rfl) ?_
  refine Pl.qA_go trivial rfl ?_
  refine Pl.pA_call rfl rfl rfl rfl rfl (fun u X => Pl.enters Tryz.func26 (by kernel_rfl) rfl u X) ?_
  refine Calls.mono (rschoolX_B _ _ _ (Rt.kr a 2) (Rt.kr a 2) _ hv1 hv1 (Sn.le (Sn.down la (Rt.kr_self _ (by decide))) (by decide)) (Sn.le (Sn.down la (Rt.kr_self _ (by decide))) (by decide)) rfl) ?_
  rintro e w2 ⟨v2, rfl, hv2, hE2⟩
  have sz2 := Pl.Ex.size hE2
  refine ⟨_, rfl, trivial, ?_⟩
  refine Pl.pA_call rfl rfl rfl rfl rfl (fun u X => Pl.enters Tryz.func28 (by kernel_rfl) rfl u X) ?_
  refine Calls.mono (rsub_B _ _ _ a ((Rt.kr a 2) * (Rt.kr a 2)) (Un.below ha (Pl.Ex.trans hE1 hE2)) hv2 (Sn.le la (by decide)) (Sn.le (Sn.mul (Sn.down la (Rt.kr_self _ (by decide))) (Sn.down la (Rt.kr_self _ (by decide))) (by decide) : Sn ((Rt.kr a 2) * (Rt.kr a 2)) 600) (by decide)) true (decide_eq_true (sq_le a)) _ rfl) ?_
  rintro e w3 ⟨v3, rfl, hv3, hE3⟩
  have sz3 := Pl.Ex.size hE3
  refine ⟨_, rfl, trivial, ?_⟩
  refine Pl.qA_go trivial rfl ?_
  refine Pl.pA_end ?_
  repeat refine Pl.V_seq ?_
  refine Pl.V_region (by kernel_rfl) ?_
  refine Pl.qA_go trivial rfl ?_
  refine Pl.pA_end ?_
  repeat refine Pl.V_seq ?_
  exact Pl.post_ret2 rfl rfl rfl  (⟨_, _, rfl, (Un.below hv1 (Pl.Ex.trans hE2 hE3)), hv3, (Pl.Ex.trans hE1 (Pl.Ex.trans hE2 hE3))⟩)
theorem is_calls (w : World) (va : Value) (a : Nat) (ha : Un w va a) (la : Sn a 300) (z : Int) (hsz : ∀ k : Nat, z = (k : Int) → k < blen a → blen a + 3 * k ≤ 12000) :
    Calls Tryz.prog 21 #[va, .int .i64 z] w fun e w' => ∃ r : Bool, e = .returned (.bool r) ∧ (r = true ↔ 1 ≤ z ∧ Rt.isP a z.toNat) ∧ Pl.Ex w w' := by
  refine Pl.calls_by (n := 24) (vs := [va, .int .i64 z]) Tryz.func21 rfl (by kernel_rfl) (by simp) ?_
  repeat refine Pl.V_seq ?_
  refine Pl.V_region (by kernel_rfl) ?_
  refine Pl.qA_go trivial rfl ?_
  refine Pl.pA_end ?_
  repeat refine Pl.V_seq ?_
  refine Pl.V_block ?_
  repeat refine Pl.V_seq ?_
  refine Pl.V_region (by kernel_rfl) ?_
  refine Pl.qA_go trivial rfl ?_
  by_cases c1 : z < 1
  · refine Pl.qA_b (v := .bool true) (fun X => Pl.r_lss (decide_eq_true (by omega)) X) trivial rfl rfl rfl rfl rfl rfl ?_
    refine Pl.qA_go trivial rfl ?_
    refine Pl.pA_end ?_
    repeat refine Pl.V_seq ?_
    refine Pl.V_true rfl ?_
    repeat refine Pl.V_seq ?_
    refine Pl.V_region (by kernel_rfl) ?_
    refine Pl.qA_go trivial rfl ?_
    refine Pl.pA_end ?_
    repeat refine Pl.V_seq ?_
    refine Pl.V_ret fun aQ hQ => ?_
    repeat first | refine Pl.ret_then ?_ | refine Pl.Ks_ret ?_ | refine Pl.ret_block ?_ | refine Pl.ret_goto ?_
    exact Pl.at_ret1 hQ rfl rfl  (⟨false, rfl, ⟨fun h => (by cases h), fun h => absurd h.1 (by omega)⟩, (Pl.Ex.refl _)⟩)
  · refine Pl.qA_b (v := .bool false) (fun X => Pl.r_lss (decide_eq_false (by omega)) X) trivial rfl rfl rfl rfl rfl rfl ?_
    refine Pl.qA_go trivial rfl ?_
    refine Pl.pA_end ?_
    repeat refine Pl.V_seq ?_
    refine Pl.V_false rfl ?_
    repeat refine Pl.V_seq ?_
    refine Pl.V_region (by kernel_rfl) ?_
    refine Pl.qA_go trivial rfl ?_
    refine Pl.pA_call rfl rfl rfl rfl rfl (fun u X => Pl.enters Tryz.func38 (by kernel_rfl) rfl u X) ?_
    refine Calls.mono (bits_B _ _ a ha (Sn.le la (by decide)) _ rfl) ?_
    rintro e w1 ⟨rfl, hE1⟩
    have sz1 := Pl.Ex.size hE1
    refine ⟨_, rfl, trivial, ?_⟩
    by_cases c2 : (blen a) ≤ 1
    · refine Pl.qA_b (v := .bool true) (fun X => Pl.r_leq (decide_eq_true (by omega)) X) trivial rfl rfl rfl rfl rfl rfl ?_
      refine Pl.qA_go trivial rfl ?_
      refine Pl.pA_end ?_
      repeat refine Pl.V_seq ?_
      refine Pl.V_true rfl ?_
      repeat refine Pl.V_seq ?_
      refine Pl.V_region (by kernel_rfl) ?_
      refine Pl.qA_go trivial rfl ?_
      refine Pl.pA_end ?_
      repeat refine Pl.V_seq ?_
      refine Pl.V_ret fun aQ hQ => ?_
      repeat first | refine Pl.ret_then ?_ | refine Pl.Ks_ret ?_ | refine Pl.ret_block ?_ | refine Pl.ret_goto ?_
      exact Pl.at_ret1 hQ rfl rfl  (⟨true, rfl, ⟨fun _ => ⟨by omega, isP_one (blen_one.1 c2) (by omega)⟩, fun _ => rfl⟩, hE1⟩)
    · refine Pl.qA_b (v := .bool false) (fun X => Pl.r_leq (decide_eq_false (by omega)) X) trivial rfl rfl rfl rfl rfl rfl ?_
      refine Pl.qA_go trivial rfl ?_
      refine Pl.pA_end ?_
      repeat refine Pl.V_seq ?_
      refine Pl.V_false rfl ?_
      repeat refine Pl.V_seq ?_
      refine Pl.V_region (by kernel_rfl) ?_
      refine Pl.qA_go trivial rfl ?_
      refine Pl.pA_call rfl rfl rfl rfl rfl (fun u X => Pl.enters Tryz.func38 (by kernel_rfl) rfl u X) ?_
      refine Calls.mono (bits_B _ _ a (Un.below ha hE1) (Sn.le la (by decide)) _ rfl) ?_
      rintro e w2 ⟨rfl, hE2⟩
      have sz2 := Pl.Ex.size hE2
      refine ⟨_, rfl, trivial, ?_⟩
      by_cases c3 : z ≥ blen a
      · refine Pl.qA_b (v := .bool true) (fun X => Pl.r_geq (decide_eq_true (by omega)) X) trivial rfl rfl rfl rfl rfl rfl ?_
        refine Pl.qA_go trivial rfl ?_
        refine Pl.pA_end ?_
        repeat refine Pl.V_seq ?_
        refine Pl.V_true rfl ?_
        repeat refine Pl.V_seq ?_
        refine Pl.V_region (by kernel_rfl) ?_
        refine Pl.qA_go trivial rfl ?_
        refine Pl.pA_end ?_
        repeat refine Pl.V_seq ?_
        refine Pl.V_ret fun aQ hQ => ?_
        repeat first | refine Pl.ret_then ?_ | refine Pl.Ks_ret ?_ | refine Pl.ret_block ?_ | refine Pl.ret_goto ?_
        exact Pl.at_ret1 hQ rfl rfl  (⟨false, rfl, ⟨fun h => (by cases h), fun h => absurd h.2 (kr_two (by have h9 : ¬ a ≤ 1 := fun h => c2 (blen_one.2 h); omega) (by omega))⟩, (Pl.Ex.trans hE1 hE2)⟩)
      · refine Pl.qA_b (v := .bool false) (fun X => Pl.r_geq (decide_eq_false (by omega)) X) trivial rfl rfl rfl rfl rfl rfl ?_
        refine Pl.qA_go trivial rfl ?_
        refine Pl.pA_end ?_
        repeat refine Pl.V_seq ?_
        refine Pl.V_false rfl ?_
        repeat refine Pl.V_seq ?_
        refine Pl.V_skip ?_
        refine Pl.V_endblock ?_
        repeat refine Pl.V_seq ?_
        refine Pl.V_region (by kernel_rfl) ?_
        obtain ⟨k, rfl⟩ := Int.eq_ofNat_of_zero_le (show 0 ≤ z by omega)
        have hkb : k < blen a := by omega
        have hb96 := la.blen
        obtain ⟨hb1, hb2⟩ := kr_bits (a := a) (k := k) (by omega) (by omega) (by have := hsz k rfl hkb; omega)
        have hxt := kr_hi (a := a) (k := k) (by omega)
        refine Pl.qA_go trivial rfl ?_
        refine Pl.pA_call rfl rfl rfl rfl rfl (fun u X => Pl.enters Tryz.func33 (by kernel_rfl) rfl u X) ?_
        refine Calls.mono (kth_calls a _ _ k (Un.below ha (Pl.Ex.trans hE1 hE2)) la (by omega) (by have := la.blen; omega) (fun h => hsz k rfl h)) ?_
        rintro e w3 ⟨v4, rfl, hv4, hE3⟩
        have sz3 := Pl.Ex.size hE3
        refine ⟨_, rfl, trivial, ?_⟩
        refine Pl.qA_go trivial rfl ?_
        refine Pl.pA_call rfl rfl rfl rfl rfl (fun u X => Pl.enters Tryz.func51 (by kernel_rfl) rfl u X) ?_
        refine Calls.mono (powM' _ _ (Rt.kr a k) k hv4 (blen a / k + 1) hxt (by omega) hb1 (by have := la.blen; omega)) ?_
        rintro e w4 ⟨v5, rfl, hv5, hE4⟩
        have sz4 := Pl.Ex.size hE4
        refine ⟨_, rfl, trivial, ?_⟩
        refine Pl.qA_go trivial rfl ?_
        by_cases c6 : ((Rt.kr a k) ^ k) = a
        · refine Pl.pA_call rfl rfl rfl rfl rfl (fun u X => Pl.enters Tryz.func50 (by kernel_rfl) rfl u X) ?_
          refine Calls.mono (equal_calls _ _ _ ((Rt.kr a k) ^ k) a hv5 (Un.below ha (Pl.Ex.trans hE1 (Pl.Ex.trans hE2 (Pl.Ex.trans hE3 hE4))))) ?_
          rintro e w5 ⟨rfl, hE5⟩
          rw [decide_eq_true c6]
          have sz5 := Pl.Ex.size hE5
          refine ⟨_, rfl, trivial, ?_⟩
          refine Pl.qA_go trivial rfl ?_
          refine Pl.pA_end ?_
          repeat refine Pl.V_seq ?_
          exact Pl.post_ret rfl rfl  (⟨true, rfl, ⟨fun _ => ⟨by omega, c6⟩, fun _ => rfl⟩, (Pl.Ex.trans hE1 (Pl.Ex.trans hE2 (Pl.Ex.trans hE3 (Pl.Ex.trans hE4 hE5))))⟩)
        · refine Pl.pA_call rfl rfl rfl rfl rfl (fun u X => Pl.enters Tryz.func50 (by kernel_rfl) rfl u X) ?_
          refine Calls.mono (equal_calls _ _ _ ((Rt.kr a k) ^ k) a hv5 (Un.below ha (Pl.Ex.trans hE1 (Pl.Ex.trans hE2 (Pl.Ex.trans hE3 hE4))))) ?_
          rintro e w5 ⟨rfl, hE5⟩
          rw [decide_eq_false c6]
          have sz5 := Pl.Ex.size hE5
          refine ⟨_, rfl, trivial, ?_⟩
          refine Pl.qA_go trivial rfl ?_
          refine Pl.pA_end ?_
          repeat refine Pl.V_seq ?_
          exact Pl.post_ret rfl rfl  (⟨false, rfl, ⟨fun h => (by cases h), fun h => absurd h.2 c6⟩, (Pl.Ex.trans hE1 (Pl.Ex.trans hE2 (Pl.Ex.trans hE3 (Pl.Ex.trans hE4 hE5))))⟩)
theorem ris_calls (w : World) (va : Value) (a : Nat) (ha : Un w va a) (la : Sn a 300) (z : Int) (hsz : ∀ k : Nat, z = (k : Int) → k < blen a → blen a + 3 * k ≤ 12000) :
    Calls Tryz.prog 22 #[va, .int .i64 z] w fun e w' => ∃ r : Bool, e = .returned (.bool r) ∧ (r = true ↔ 1 ≤ z ∧ Rt.isP a z.toNat) ∧ Pl.Ex w w' := by
  refine Pl.calls_by (n := 25) (vs := [va, .int .i64 z]) Tryz.func22 rfl (by kernel_rfl) (by simp) ?_
  repeat refine Pl.V_seq ?_
  refine Pl.V_region (by kernel_rfl) ?_
  refine Pl.qA_go trivial rfl ?_
  refine Pl.pA_end ?_
  repeat refine Pl.V_seq ?_
  refine Pl.V_region (by kernel_rfl) ?_
  refine Pl.qA_go trivial rfl ?_
  by_cases c1 : z < 1
  · refine Pl.qA_b (v := .bool true) (fun X => Pl.r_lss (decide_eq_true (by omega)) X) trivial rfl rfl rfl rfl rfl rfl ?_
    refine Pl.qA_go trivial rfl ?_
    refine Pl.pA_end ?_
    repeat refine Pl.V_seq ?_
    refine Pl.V_true rfl ?_
    repeat refine Pl.V_seq ?_
    refine Pl.V_region (by kernel_rfl) ?_
    refine Pl.qA_go trivial rfl ?_
    refine Pl.qA_b (v := .bool false) (fun X => Pl.r_geq (decide_eq_false (by omega)) X) trivial rfl rfl rfl rfl rfl rfl ?_
    refine Pl.qA_go trivial rfl ?_
    refine Pl.pA_end ?_
    repeat refine Pl.V_seq ?_
    exact Pl.post_ret rfl rfl  (⟨false, rfl, ⟨fun h => (by cases h), fun h => absurd h.1 (by omega)⟩, (Pl.Ex.refl _)⟩)
  · refine Pl.qA_b (v := .bool false) (fun X => Pl.r_lss (decide_eq_false (by omega)) X) trivial rfl rfl rfl rfl rfl rfl ?_
    refine Pl.qA_go trivial rfl ?_
    by_cases c2 : a ≤ 1
    · refine Pl.pA_call rfl rfl rfl rfl rfl (fun u X => Pl.enters Tryz.func52 (by kernel_rfl) rfl u X) ?_
      refine Calls.mono (one_calls _ _ a ha) ?_
      rintro e w1 ⟨r0, rfl, hr0, hE1⟩
      obtain rfl : r0 = true := by exact hr0.2 c2
      have sz1 := Pl.Ex.size hE1
      refine ⟨_, rfl, trivial, ?_⟩
      refine Pl.qA_go trivial rfl ?_
      refine Pl.pA_end ?_
      repeat refine Pl.V_seq ?_
      refine Pl.V_true rfl ?_
      repeat refine Pl.V_seq ?_
      refine Pl.V_region (by kernel_rfl) ?_
      refine Pl.qA_go trivial rfl ?_
      refine Pl.qA_b (v := .bool true) (fun X => Pl.r_geq (decide_eq_true (by omega)) X) trivial rfl rfl rfl rfl rfl rfl ?_
      refine Pl.qA_go trivial rfl ?_
      refine Pl.pA_end ?_
      repeat refine Pl.V_seq ?_
      exact Pl.post_ret rfl rfl  (⟨true, rfl, ⟨fun _ => ⟨by omega, isP_one c2 (by omega)⟩, fun _ => rfl⟩, hE1⟩)
    · refine Pl.pA_call rfl rfl rfl rfl rfl (fun u X => Pl.enters Tryz.func52 (by kernel_rfl) rfl u X) ?_
      refine Calls.mono (one_calls _ _ a ha) ?_
      rintro e w1 ⟨r0, rfl, hr0, hE1⟩
      obtain rfl : r0 = false := by exact Bool.eq_false_iff.2 fun h => c2 (hr0.1 h)
      have sz1 := Pl.Ex.size hE1
      refine ⟨_, rfl, trivial, ?_⟩
      refine Pl.qA_go trivial rfl ?_
      refine Pl.pA_end ?_
      repeat refine Pl.V_seq ?_
      refine Pl.V_false rfl ?_
      repeat refine Pl.V_seq ?_
      refine Pl.V_skip ?_
      repeat refine Pl.V_seq ?_
      refine Pl.V_region (by kernel_rfl) ?_
      refine Pl.qA_go trivial rfl ?_
      refine Pl.pA_call rfl rfl rfl rfl rfl (fun u X => Pl.enters Tryz.func30 (by kernel_rfl) rfl u X) ?_
      refine Calls.mono (rbits_B _ _ a (Un.below ha hE1) (Sn.le la (by decide)) _ rfl) ?_
      rintro e w2 ⟨rfl, hE2⟩
      have sz2 := Pl.Ex.size hE2
      refine ⟨_, rfl, trivial, ?_⟩
      by_cases c3 : z ≥ blen a
      · refine Pl.qA_b (v := .bool true) (fun X => Pl.r_geq (decide_eq_true (by omega)) X) trivial rfl rfl rfl rfl rfl rfl ?_
        refine Pl.pA_end ?_
        repeat refine Pl.V_seq ?_
        refine Pl.V_true rfl ?_
        repeat refine Pl.V_seq ?_
        refine Pl.V_region (by kernel_rfl) ?_
        refine Pl.qA_go trivial rfl ?_
        refine Pl.pA_end ?_
        repeat refine Pl.V_seq ?_
        exact Pl.post_ret rfl rfl  (⟨false, rfl, ⟨fun h => (by cases h), fun h => absurd h.2 (kr_two (by omega) (by omega))⟩, (Pl.Ex.trans hE1 hE2)⟩)
      · refine Pl.qA_b (v := .bool false) (fun X => Pl.r_geq (decide_eq_false (by omega)) X) trivial rfl rfl rfl rfl rfl rfl ?_
        refine Pl.pA_end ?_
        repeat refine Pl.V_seq ?_
        refine Pl.V_false rfl ?_
        repeat refine Pl.V_seq ?_
        refine Pl.V_skip ?_
        repeat refine Pl.V_seq ?_
        refine Pl.V_region (by kernel_rfl) ?_
        obtain ⟨k, rfl⟩ := Int.eq_ofNat_of_zero_le (show 0 ≤ z by omega)
        have hkb : k < blen a := by omega
        have hb96 := la.blen
        obtain ⟨hb1, hb2⟩ := kr_bits (a := a) (k := k) (by omega) (by omega) (by have := hsz k rfl hkb; omega)
        have hxt := kr_hi (a := a) (k := k) (by omega)
        refine Pl.qA_go trivial rfl ?_
        refine Pl.pA_call rfl rfl rfl rfl rfl (fun u X => Pl.enters Tryz.func34 (by kernel_rfl) rfl u X) ?_
        refine Calls.mono (cut_calls _ _ a (Un.below ha (Pl.Ex.trans hE1 hE2)) la k (by omega)) ?_
        rintro e w3 ⟨v4, rfl, hv4, hE3⟩
        have sz3 := Pl.Ex.size hE3
        refine ⟨_, rfl, trivial, ?_⟩
        refine Pl.qA_go trivial rfl ?_
        refine Pl.pA_call rfl rfl rfl rfl rfl (fun u X => Pl.enters Tryz.func31 (by kernel_rfl) rfl u X) ?_
        refine Calls.mono (rpowM' _ _ (Rt.kr a k) k hv4 (blen a / k + 1) hxt (by omega) hb1 (by have := la.blen; omega)) ?_
        rintro e w4 ⟨v5, rfl, hv5, hE4⟩
        have sz4 := Pl.Ex.size hE4
        refine ⟨_, rfl, trivial, ?_⟩
        refine Pl.qA_go trivial rfl ?_
        refine Pl.pA_call rfl rfl rfl rfl rfl (fun u X => Pl.enters Tryz.func25 (by kernel_rfl) rfl u X) ?_
        refine Calls.mono (rcmp_B _ _ _ ((Rt.kr a k) ^ k) a hv5 (Un.below ha (Pl.Ex.trans hE1 (Pl.Ex.trans hE2 (Pl.Ex.trans hE3 hE4)))) (Sn.le (powM_sn hxt hb1) (by decide)) (Sn.le la (by decide)) _ rfl) ?_
        rintro e w5 ⟨rfl, hE5⟩
        have sz5 := Pl.Ex.size hE5
        refine ⟨_, rfl, trivial, ?_⟩
        by_cases c6 : ((Rt.kr a k) ^ k) = a
        · refine Pl.qA_b (v := .bool true) (fun X => Cm.eq_eql_t c6 X) trivial rfl rfl rfl rfl rfl rfl ?_
          refine Pl.qA_go trivial rfl ?_
          refine Pl.pA_end ?_
          repeat refine Pl.V_seq ?_
          exact Pl.post_ret rfl rfl  (⟨true, rfl, ⟨fun _ => ⟨by omega, c6⟩, fun _ => rfl⟩, (Pl.Ex.trans hE1 (Pl.Ex.trans hE2 (Pl.Ex.trans hE3 (Pl.Ex.trans hE4 hE5))))⟩)
        · refine Pl.qA_b (v := .bool false) (fun X => Cm.eq_eql_f c6 X) trivial rfl rfl rfl rfl rfl rfl ?_
          refine Pl.qA_go trivial rfl ?_
          refine Pl.pA_end ?_
          repeat refine Pl.V_seq ?_
          exact Pl.post_ret rfl rfl  (⟨false, rfl, ⟨fun h => (by cases h), fun h => absurd h.2 c6⟩, (Pl.Ex.trans hE1 (Pl.Ex.trans hE2 (Pl.Ex.trans hE3 (Pl.Ex.trans hE4 hE5))))⟩)
end Go.Proofs.YtbdmncpibnligaaGreatDoor
