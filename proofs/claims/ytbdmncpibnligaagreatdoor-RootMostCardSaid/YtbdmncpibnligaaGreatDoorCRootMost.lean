/- Proved: the statement RootMost, without a condition. -/
import Derived.Test.YtbdmncpibnligaaGreatDoorBbh
import Derived.Test.YtbdmncpibnligaaGreatDoorBai

namespace Go.Proofs.YtbdmncpibnligaaGreatDoor
open Go.RowKit 
set_option linter.unusedVariables false
set_option linter.unusedSimpArgs false
set_option maxRecDepth 100000
set_option maxHeartbeats 4000000
theorem len_monoW {a b : Nat} (h : a ≤ b) : (limbs a).length ≤ (limbs b).length := (show Sn b (limbs b).length from Nat.le_refl _).down h
theorem pw_small {a b k : Nat} (h : Pwr a b k) (h1 : a ≤ 1) : b = a ∧ k = 1 := by
  rcases h with ⟨_, h⟩ | ⟨h0, _⟩
  · exact h
  · omega
theorem pw_eq {a b k : Nat} (h : Pwr a b k) : b ^ k = a := by
  rcases h with ⟨_, rfl, rfl⟩ | ⟨_, h, _⟩
  · exact Nat.pow_one _
  · exact h
theorem pw_bits {a b k : Nat} (h : Pwr a b k) (h1 : 1 < a) : k ≤ blen a := by
  rcases h with ⟨_, rfl, rfl⟩ | ⟨_, h, _⟩
  · omega
  · have h2 : 2 ^ k ≤ b ^ k := Nat.pow_le_pow_left (pw_gt h1 h) k
    rw [h] at h2
    exact Nat.le_of_lt ((Nat.pow_lt_pow_iff_right (a := 2) (by decide)).1 (Nat.lt_of_le_of_lt h2 (lt_pow_blen a)))
theorem pw_gtb {a b k : Nat} (h : Pwr a b k) (h1 : 1 < a) : 1 < b ∧ Rt.Prim b ∧ 1 ≤ k := by
  rcases h with ⟨_, rfl, rfl⟩ | ⟨_, h, h2, h3⟩
  · omega
  · exact ⟨pw_gt h1 h, h2, h3⟩
theorem pow_gt1 {a k : Nat} (h : 1 < a) (hk : 1 ≤ k) : 1 < a ^ k := Nat.lt_of_lt_of_le h (Rt.self_pow a (by omega))
theorem pw_pow {a b m k c o : Nat} (h : Pwr a b m) (h1 : ¬ a ≤ 1) (hk : 1 ≤ k) (g : Pwr (a ^ k) c o) : b = c ∧ o = m * k := by
  obtain ⟨h2, h3, h4⟩ := pw_gtb h (by omega)
  obtain ⟨g2, g3, g4⟩ := pw_gtb g (pow_gt1 (by omega) hk)
  have := Rt.prim_uniq (k := m * k) (m := o) h3 h2 g3 g2 (Nat.pos_iff_ne_zero.1 (Nat.mul_pos h4 hk)) (by omega) (by rw [Nat.pow_mul, pw_eq h, pw_eq g])
  exact ⟨this.1, this.2.symm⟩
theorem pw_small_bits {b m a t : Nat} (h : Pwr a b m) (hb : blen a ≤ t) (h1 : ¬ a ≤ 1) : blen b * m ≤ t + m := by
  obtain ⟨h2, h3, h4⟩ := pw_gtb h (by omega)
  have h5 : 2 ^ ((blen b - 1) * m) ≤ a := by
    rw [Nat.pow_mul]
    exact Nat.le_trans (Nat.pow_le_pow_left (pow_blen_le (by omega)) m) (Nat.le_of_eq (pw_eq h))
  have h6 := (Nat.pow_lt_pow_iff_right (a := 2) (by decide)).1 (Nat.lt_of_le_of_lt h5 (lt_pow_blen a))
  have h7 := Nat.le_mul_of_pos_left m (blen_pos (n := b) (by omega))
  rw [Nat.sub_mul, Nat.one_mul] at h6
  omega
theorem RootMost_walk (w : World) (r0 : Value) (xa : List Nat) (u0 : U w r0 xa) (n : Nat) (hn : n < 256) :
    Calls Tryz.prog 9 #[r0, .int .u8 ((n : Nat) : Int)] w fun e w' => e = .returned (.bool true) ∧ Ext w w' := by
  obtain ⟨a, da⟩ : ∃ q, cutN xa 4 = q := ⟨_, rfl⟩
  have la : Sn a 4 := by rw [← da]; exact len_of (cut_lt xa 4 u0.lim)
  have ba : blen a ≤ 32 * 4 := Sn.blen la
  obtain ⟨k, qk⟩ : ∃ q, 1 + n % 20 = q := ⟨_, rfl⟩
  have gk : 1 ≤ k ∧ k ≤ 20 := by omega
  refine Pl.calls_by (n := 95) (vs := [r0, .int .u8 ((n : Nat) : Int)]) Tryz.func9 rfl (by kernel_rfl) (by simp) ?_
  repeat refine Pl.V_seq ?_
  refine Pl.V_region (by kernel_rfl) ?_
  refine Pl.qA_go trivial rfl ?_
  refine Pl.pA_end ?_
  repeat refine Pl.V_seq ?_
  refine Pl.V_region (by kernel_rfl) ?_
  refine Pl.pA_call rfl rfl rfl rfl rfl (fun u X => Pl.enters Tryz.func12 (by kernel_rfl) rfl u X) ?_
  refine Calls.mono (head8 _) ?_
  rintro e w1 ⟨rfl, hE1⟩
  have sz1 := Pl.Ex.size hE1
  refine ⟨_, rfl, trivial, ?_⟩
  refine Pl.qA_go trivial rfl ?_
  refine Pl.pA_end ?_
  repeat refine Pl.V_seq ?_
  refine Pl.V_region (by kernel_rfl) ?_
  refine Pl.qA_go trivial rfl ?_
  refine Pl.pA_call rfl rfl rfl rfl rfl (fun u X => Pl.enters Tryz.func13 (by kernel_rfl) rfl u X) ?_
  refine Calls.mono (made_B _ _ xa 4 (U.below u0 hE1) (by decide) (by decide) a da) ?_
  rintro e w2 ⟨v1, rfl, hv1, hE2⟩
  have sz2 := Pl.Ex.size hE2
  refine ⟨_, rfl, trivial, ?_⟩
  refine Pl.qA_go trivial rfl ?_
  refine Pl.qA_cv (c := ((n : Nat) : Int)) Tryz.underlying3 (by kernel_rfl) (Pl.c_id (a := n) rfl (Pl.w64 (by omega) (by omega))) trivial rfl rfl rfl rfl rfl ?_
  refine Pl.qA_b (v := .int .i64 (((n % 20) : Nat) : Int)) (fun X => nb_rem_i64 (a := n) (b := 20) (by omega) (by omega) X) trivial rfl rfl rfl rfl rfl rfl ?_
  refine Pl.qA_b (v := .int .i64 ((k : Nat) : Int)) (fun X => Pl.Bn.as (nb_add_i64 (a := 1) (b := (n % 20)) (by omega)) (by rw [qk]) X) trivial rfl rfl rfl rfl rfl rfl ?_
  refine Pl.qA_go trivial rfl ?_
  refine Pl.pA_end ?_
  repeat refine Pl.V_seq ?_
  refine Pl.V_region (by kernel_rfl) ?_
  refine Pl.qA_go trivial rfl ?_
  have hbz2 : blen a ≤ 32 * 4 := Sn.blen la
  refine Pl.pA_call rfl rfl rfl rfl rfl (fun u X => Pl.enters Tryz.func18 (by kernel_rfl) rfl u X) ?_
  refine Calls.mono (power_all _ _ a hv1 (Sn.le la (by decide)) (by omega)) ?_
  rintro e w3 ⟨u3, pb4, pk5, rfl, hu3, hppb4, hE3⟩
  have lpb4 := Sn.down la (pw_le hppb4)
  have qpk5 := pw_k hppb4
  have sz3 := Pl.Ex.size hE3
  refine ⟨_, rfl, trivial, ?_⟩
  refine Pl.qA_go trivial rfl ?_
  refine Pl.pA_end ?_
  repeat refine Pl.V_seq ?_
  refine Pl.V_region (by kernel_rfl) ?_
  refine Pl.qA_go trivial rfl ?_
  by_cases c6 : blen a * k ≤ 6400
  · refine Pl.pA_call rfl rfl rfl rfl rfl (fun u X => Pl.enters Tryz.func24 (by kernel_rfl) rfl u X) ?_
    refine Calls.mono (lpower_Y _ _ a (Un.below hv1 hE3) (Sn.le la (by decide)) k (by omega) c6) ?_
    rintro e w4 ⟨v7, rfl, hv7, hE4⟩
    have sz4 := Pl.Ex.size hE4
    refine ⟨_, rfl, trivial, ?_⟩
    refine Pl.qA_go trivial rfl ?_
    refine Pl.pA_end ?_
    repeat refine Pl.V_seq ?_
    refine Pl.V_region (by kernel_rfl) ?_
    refine Pl.qA_go trivial rfl ?_
    refine Pl.qA_bs (e := 36) (n := 1) [.int .u32 1] rfl rfl rfl rfl (by kernel_rfl) (fun Y hY => trivial) ?_
    intro N8 w5 hE5 hN_N8 k_N8_0
    have z_N8 := Pl.Cb.lt k_N8_0
    have sz5 := Pl.Ex.size hE5
    have hl9 := Un.one (x := 1) k_N8_0 rfl (by omega)
    refine Pl.pA_call rfl rfl rfl rfl rfl (fun u X => Pl.enters Tryz.func25 (by kernel_rfl) rfl u X) ?_
    refine Calls.mono (rcmp_B _ _ _ a 1 (Un.below hv1 (Pl.Ex.trans hE3 (Pl.Ex.trans hE4 hE5))) hl9 (Sn.le la (by decide)) (Sn.le (Sn.of (K := 1) (by omega)) (by decide)) _ rfl) ?_
    rintro e w6 ⟨rfl, hE6⟩
    have sz6 := Pl.Ex.size hE6
    refine ⟨_, rfl, trivial, ?_⟩
    by_cases c10 : a ≤ 1
    · refine Pl.qA_b (v := .bool true) (fun X => Cm.le_leq_t c10 X) trivial rfl rfl rfl rfl rfl rfl ?_
      refine Pl.pA_end ?_
      repeat refine Pl.V_seq ?_
      refine Pl.V_true rfl ?_
      repeat refine Pl.V_seq ?_
      refine Pl.V_region (by kernel_rfl) ?_
      refine Pl.qA_go trivial rfl ?_
      refine Pl.pA_call rfl rfl rfl rfl rfl (fun u X => Pl.enters Tryz.func20 (by kernel_rfl) rfl u X) ?_
      refine Calls.mono (same1 _ _ _ pb4 a (Un.below hu3 (Pl.Ex.trans hE4 (Pl.Ex.trans hE5 hE6))) (Un.below hv1 (Pl.Ex.trans hE3 (Pl.Ex.trans hE4 (Pl.Ex.trans hE5 hE6)))) true (decide_eq_true (pw_small hppb4 c10).1)) ?_
      rintro e w7 ⟨rfl, hE7⟩
      have sz7 := Pl.Ex.size hE7
      refine ⟨_, rfl, trivial, ?_⟩
      refine Pl.qA_go trivial rfl ?_
      have hf6_5 : pk5 = 1 := (pw_small hppb4 c10).2
      refine Pl.qA_b (v := .bool true) (fun X => Pl.r_eql (Pl.e_t (by omega)) X) trivial rfl rfl rfl rfl rfl rfl ?_
      refine Pl.qA_go trivial rfl ?_
      refine Pl.pA_end ?_
      repeat refine Pl.V_seq ?_
      exact Pl.post_ret rfl rfl  (⟨rfl, (Pl.Ex.trans hE1 (Pl.Ex.trans hE2 (Pl.Ex.trans hE3 (Pl.Ex.trans hE4 (Pl.Ex.trans hE5 (Pl.Ex.trans hE6 hE7))))))⟩)
    · refine Pl.qA_b (v := .bool false) (fun X => Cm.le_leq_f c10 X) trivial rfl rfl rfl rfl rfl rfl ?_
      refine Pl.pA_end ?_
      repeat refine Pl.V_seq ?_
      refine Pl.V_false rfl ?_
      repeat refine Pl.V_seq ?_
      refine Pl.V_skip ?_
      repeat refine Pl.V_seq ?_
      refine Pl.V_region (by kernel_rfl) ?_
      refine Pl.qA_go trivial rfl ?_
      have hf7_1 : ¬ (pk5 < 1) := by omega
      refine Pl.qA_b (v := .bool false) (fun X => Pl.r_lss (decide_eq_false (by omega)) X) trivial rfl rfl rfl rfl rfl rfl ?_
      refine Pl.qA_go trivial rfl ?_
      refine Pl.pA_call rfl rfl rfl rfl rfl (fun u X => Pl.enters Tryz.func30 (by kernel_rfl) rfl u X) ?_
      refine Calls.mono (rbits_B _ _ a (Un.below hv1 (Pl.Ex.trans hE3 (Pl.Ex.trans hE4 (Pl.Ex.trans hE5 hE6)))) (Sn.le la (by decide)) _ rfl) ?_
      rintro e w7 ⟨rfl, hE7⟩
      have sz7 := Pl.Ex.size hE7
      refine ⟨_, rfl, trivial, ?_⟩
      have hf7_6 : ¬ (pk5 > (blen a)) := Nat.not_lt.2 (pw_bits hppb4 (by omega))
      refine Pl.qA_b (v := .bool false) (fun X => Pl.r_gtr (decide_eq_false (by omega)) X) trivial rfl rfl rfl rfl rfl rfl ?_
      refine Pl.qA_go trivial rfl ?_
      obtain ⟨A11, c12, rfl⟩ := Un.sh (Un.below hu3 (Pl.Ex.trans hE4 (Pl.Ex.trans hE5 (Pl.Ex.trans hE6 hE7))))
      refine Pl.qA_ln Tryz.underlying22 trivial rfl rfl rfl rfl rfl ?_
      refine Pl.qA_go trivial rfl ?_
      obtain ⟨A13, c14, rfl⟩ := Un.sh (Un.below hv1 (Pl.Ex.trans hE3 (Pl.Ex.trans hE4 (Pl.Ex.trans hE5 (Pl.Ex.trans hE6 hE7)))))
      refine Pl.qA_ln Tryz.underlying22 trivial rfl rfl rfl rfl rfl ?_
      have hf7_13 : ¬ (((limbs pb4).length) > ((limbs a).length)) := Nat.not_lt.2 (len_monoW (pw_le hppb4))
      refine Pl.qA_b (v := .bool false) (fun X => Pl.r_gtr (decide_eq_false (by omega)) X) trivial rfl rfl rfl rfl rfl rfl ?_
      refine Pl.qA_go trivial rfl ?_
      refine Pl.pA_call rfl rfl rfl rfl rfl (fun u X => Pl.enters Tryz.func31 (by kernel_rfl) rfl u X) ?_
      refine Calls.mono (rpowM' _ _ pb4 pk5 (Un.below hu3 (Pl.Ex.trans hE4 (Pl.Ex.trans hE5 (Pl.Ex.trans hE6 hE7)))) (blen pb4) (lt_pow_blen pb4) (by have := blen_mono (pw_le hppb4); omega) (by have := pw_small_bits hppb4 ba c10; omega) (by omega)) ?_
      rintro e w8 ⟨v15, rfl, hv15, hE8⟩
      have sz8 := Pl.Ex.size hE8
      refine ⟨_, rfl, trivial, ?_⟩
      refine Pl.qA_go trivial rfl ?_
      refine Pl.pA_call rfl rfl rfl rfl rfl (fun u X => Pl.enters Tryz.func20 (by kernel_rfl) rfl u X) ?_
      refine Calls.mono (same1 _ _ _ (pb4 ^ pk5) a hv15 (Un.below hv1 (Pl.Ex.trans hE3 (Pl.Ex.trans hE4 (Pl.Ex.trans hE5 (Pl.Ex.trans hE6 (Pl.Ex.trans hE7 hE8)))))) true (decide_eq_true (pw_eq hppb4))) ?_
      rintro e w9 ⟨rfl, hE9⟩
      have sz9 := Pl.Ex.size hE9
      refine ⟨_, rfl, trivial, ?_⟩
      refine Pl.qA_un (v := .bool false) trivial rfl rfl rfl rfl rfl (fun X => rfl) ?_
      refine Pl.qA_go trivial rfl ?_
      refine Pl.pA_end ?_
      repeat refine Pl.V_seq ?_
      refine Pl.V_false rfl ?_
      repeat refine Pl.V_seq ?_
      refine Pl.V_skip ?_
      repeat refine Pl.V_seq ?_
      refine Pl.V_region (by kernel_rfl) ?_
      refine Pl.qA_go trivial rfl ?_
      refine Pl.qA_un (v := .bool false) trivial rfl rfl rfl rfl rfl (fun X => rfl) ?_
      refine Pl.qA_go trivial rfl ?_
      obtain ⟨A16, c17, rfl⟩ := Un.sh (Un.below hv7 (Pl.Ex.trans hE5 (Pl.Ex.trans hE6 (Pl.Ex.trans hE7 (Pl.Ex.trans hE8 hE9)))))
      refine Pl.qA_ln Tryz.underlying22 trivial rfl rfl rfl rfl rfl ?_
      by_cases c18 : ((limbs (a ^ k)).length) > 20
      · refine Pl.qA_b (v := .bool true) (fun X => Pl.r_gtr (decide_eq_true (by omega)) X) trivial rfl rfl rfl rfl rfl rfl ?_
        refine Pl.qA_go trivial rfl ?_
        refine Pl.pA_end ?_
        repeat refine Pl.V_seq ?_
        refine Pl.V_true rfl ?_
        repeat refine Pl.V_seq ?_
        refine Pl.V_region (by kernel_rfl) ?_
        refine Pl.qA_go trivial rfl ?_
        refine Pl.pA_end ?_
        repeat refine Pl.V_seq ?_
        exact Pl.post_ret rfl rfl  (⟨rfl, (Pl.Ex.trans hE1 (Pl.Ex.trans hE2 (Pl.Ex.trans hE3 (Pl.Ex.trans hE4 (Pl.Ex.trans hE5 (Pl.Ex.trans hE6 (Pl.Ex.trans hE7 (Pl.Ex.trans hE8 hE9))))))))⟩)
      · refine Pl.qA_b (v := .bool false) (fun X => Pl.r_gtr (decide_eq_false (by omega)) X) trivial rfl rfl rfl rfl rfl rfl ?_
        refine Pl.qA_go trivial rfl ?_
        refine Pl.pA_end ?_
        repeat refine Pl.V_seq ?_
        refine Pl.V_false rfl ?_
        repeat refine Pl.V_seq ?_
        refine Pl.V_skip ?_
        repeat refine Pl.V_seq ?_
        refine Pl.V_region (by kernel_rfl) ?_
        refine Pl.qA_go trivial rfl ?_
        have hx20 : blen (a ^ k) ≤ 32 * 20 := Sn.blen (Nat.le_of_not_lt c18)
        have hbz19 : blen (a ^ k) ≤ 32 * 201 := Sn.blen (pow_sn201 c6 : Sn (a ^ k) 201)
        refine Pl.pA_call rfl rfl rfl rfl rfl (fun u X => Pl.enters Tryz.func18 (by kernel_rfl) rfl u X) ?_
        refine Calls.mono (power_all _ _ (a ^ k) (Un.below hv7 (Pl.Ex.trans hE5 (Pl.Ex.trans hE6 (Pl.Ex.trans hE7 (Pl.Ex.trans hE8 hE9))))) (Sn.le (pow_sn201 c6 : Sn (a ^ k) 201) (by decide)) (by omega)) ?_
        rintro e w10 ⟨u20, pb21, pk22, rfl, hu20, hppb21, hE10⟩
        have lpb21 := Sn.down (pow_sn201 c6 : Sn (a ^ k) 201) (pw_le hppb21)
        have qpk22 := pw_k hppb21
        have sz10 := Pl.Ex.size hE10
        refine ⟨_, rfl, trivial, ?_⟩
        refine Pl.qA_go trivial rfl ?_
        refine Pl.pA_end ?_
        repeat refine Pl.V_seq ?_
        refine Pl.V_region (by kernel_rfl) ?_
        refine Pl.qA_go trivial rfl ?_
        refine Pl.pA_call rfl rfl rfl rfl rfl (fun u X => Pl.enters Tryz.func20 (by kernel_rfl) rfl u X) ?_
        refine Calls.mono (same1 _ _ _ pb4 pb21 (Un.below hu3 (Pl.Ex.trans hE4 (Pl.Ex.trans hE5 (Pl.Ex.trans hE6 (Pl.Ex.trans hE7 (Pl.Ex.trans hE8 (Pl.Ex.trans hE9 hE10))))))) hu20 true (decide_eq_true (pw_pow hppb4 c10 (by omega) hppb21).1)) ?_
        rintro e w11 ⟨rfl, hE11⟩
        have sz11 := Pl.Ex.size hE11
        refine ⟨_, rfl, trivial, ?_⟩
        refine Pl.qA_go trivial rfl ?_
        refine Pl.qA_b (v := .int .i64 (((pk5 * k) : Nat) : Int)) (fun X => nb_mul_i64 (a := pk5) (b := k) (by have := Nat.mul_le_mul (pw_bits hppb4 (by omega)) gk.2; omega) X) trivial rfl rfl rfl rfl rfl rfl ?_
        have hf12_8 : pk22 = (pk5 * k) := (pw_pow hppb4 c10 (by omega) hppb21).2
        refine Pl.qA_b (v := .bool true) (fun X => Pl.r_eql (Pl.e_t (by omega)) X) trivial rfl rfl rfl rfl rfl rfl ?_
        refine Pl.qA_go trivial rfl ?_
        refine Pl.pA_end ?_
        repeat refine Pl.V_seq ?_
        exact Pl.post_ret rfl rfl  (⟨rfl, (Pl.Ex.trans hE1 (Pl.Ex.trans hE2 (Pl.Ex.trans hE3 (Pl.Ex.trans hE4 (Pl.Ex.trans hE5 (Pl.Ex.trans hE6 (Pl.Ex.trans hE7 (Pl.Ex.trans hE8 (Pl.Ex.trans hE9 (Pl.Ex.trans hE10 hE11))))))))))⟩)
  · refine Pl.pA_call rfl rfl rfl rfl rfl (fun u X => Pl.enters Tryz.func24 (by kernel_rfl) rfl u X) ?_
    refine Calls.mono (lpower_N _ _ a (Un.below hv1 hE3) (Sn.le la (by decide)) k (by omega) c6) ?_
    rintro e w4 ⟨u7, rfl, hE4⟩
    have sz4 := Pl.Ex.size hE4
    refine ⟨_, rfl, trivial, ?_⟩
    refine Pl.qA_go trivial rfl ?_
    refine Pl.pA_end ?_
    repeat refine Pl.V_seq ?_
    refine Pl.V_region (by kernel_rfl) ?_
    refine Pl.qA_go trivial rfl ?_
    refine Pl.qA_bs (e := 36) (n := 1) [.int .u32 1] rfl rfl rfl rfl (by kernel_rfl) (fun Y hY => trivial) ?_
    intro N8 w5 hE5 hN_N8 k_N8_0
    have z_N8 := Pl.Cb.lt k_N8_0
    have sz5 := Pl.Ex.size hE5
    have hl9 := Un.one (x := 1) k_N8_0 rfl (by omega)
    refine Pl.pA_call rfl rfl rfl rfl rfl (fun u X => Pl.enters Tryz.func25 (by kernel_rfl) rfl u X) ?_
    refine Calls.mono (rcmp_B _ _ _ a 1 (Un.below hv1 (Pl.Ex.trans hE3 (Pl.Ex.trans hE4 hE5))) hl9 (Sn.le la (by decide)) (Sn.le (Sn.of (K := 1) (by omega)) (by decide)) _ rfl) ?_
    rintro e w6 ⟨rfl, hE6⟩
    have sz6 := Pl.Ex.size hE6
    refine ⟨_, rfl, trivial, ?_⟩
    by_cases c10 : a ≤ 1
    · refine Pl.qA_b (v := .bool true) (fun X => Cm.le_leq_t c10 X) trivial rfl rfl rfl rfl rfl rfl ?_
      refine Pl.pA_end ?_
      repeat refine Pl.V_seq ?_
      refine Pl.V_true rfl ?_
      repeat refine Pl.V_seq ?_
      refine Pl.V_region (by kernel_rfl) ?_
      refine Pl.qA_go trivial rfl ?_
      refine Pl.pA_call rfl rfl rfl rfl rfl (fun u X => Pl.enters Tryz.func20 (by kernel_rfl) rfl u X) ?_
      refine Calls.mono (same1 _ _ _ pb4 a (Un.below hu3 (Pl.Ex.trans hE4 (Pl.Ex.trans hE5 hE6))) (Un.below hv1 (Pl.Ex.trans hE3 (Pl.Ex.trans hE4 (Pl.Ex.trans hE5 hE6)))) true (decide_eq_true (pw_small hppb4 c10).1)) ?_
      rintro e w7 ⟨rfl, hE7⟩
      have sz7 := Pl.Ex.size hE7
      refine ⟨_, rfl, trivial, ?_⟩
      refine Pl.qA_go trivial rfl ?_
      have hf6_5 : pk5 = 1 := (pw_small hppb4 c10).2
      refine Pl.qA_b (v := .bool true) (fun X => Pl.r_eql (Pl.e_t (by omega)) X) trivial rfl rfl rfl rfl rfl rfl ?_
      refine Pl.qA_go trivial rfl ?_
      refine Pl.pA_end ?_
      repeat refine Pl.V_seq ?_
      exact Pl.post_ret rfl rfl  (⟨rfl, (Pl.Ex.trans hE1 (Pl.Ex.trans hE2 (Pl.Ex.trans hE3 (Pl.Ex.trans hE4 (Pl.Ex.trans hE5 (Pl.Ex.trans hE6 hE7))))))⟩)
    · refine Pl.qA_b (v := .bool false) (fun X => Cm.le_leq_f c10 X) trivial rfl rfl rfl rfl rfl rfl ?_
      refine Pl.pA_end ?_
      repeat refine Pl.V_seq ?_
      refine Pl.V_false rfl ?_
      repeat refine Pl.V_seq ?_
      refine Pl.V_skip ?_
      repeat refine Pl.V_seq ?_
      refine Pl.V_region (by kernel_rfl) ?_
      refine Pl.qA_go trivial rfl ?_
      have hf7_1 : ¬ (pk5 < 1) := by omega
      refine Pl.qA_b (v := .bool false) (fun X => Pl.r_lss (decide_eq_false (by omega)) X) trivial rfl rfl rfl rfl rfl rfl ?_
      refine Pl.qA_go trivial rfl ?_
      refine Pl.pA_call rfl rfl rfl rfl rfl (fun u X => Pl.enters Tryz.func30 (by kernel_rfl) rfl u X) ?_
      refine Calls.mono (rbits_B _ _ a (Un.below hv1 (Pl.Ex.trans hE3 (Pl.Ex.trans hE4 (Pl.Ex.trans hE5 hE6)))) (Sn.le la (by decide)) _ rfl) ?_
      rintro e w7 ⟨rfl, hE7⟩
      have sz7 := Pl.Ex.size hE7
      refine ⟨_, rfl, trivial, ?_⟩
      have hf7_6 : ¬ (pk5 > (blen a)) := Nat.not_lt.2 (pw_bits hppb4 (by omega))
      refine Pl.qA_b (v := .bool false) (fun X => Pl.r_gtr (decide_eq_false (by omega)) X) trivial rfl rfl rfl rfl rfl rfl ?_
      refine Pl.qA_go trivial rfl ?_
      obtain ⟨A11, c12, rfl⟩ := Un.sh (Un.below hu3 (Pl.Ex.trans hE4 (Pl.Ex.trans hE5 (Pl.Ex.trans hE6 hE7))))
      refine Pl.qA_ln Tryz.underlying22 trivial rfl rfl rfl rfl rfl ?_
      refine Pl.qA_go trivial rfl ?_
      obtain ⟨A13, c14, rfl⟩ := Un.sh (Un.below hv1 (Pl.Ex.trans hE3 (Pl.Ex.trans hE4 (Pl.Ex.trans hE5 (Pl.Ex.trans hE6 hE7)))))
      refine Pl.qA_ln Tryz.underlying22 trivial rfl rfl rfl rfl rfl ?_
      have hf7_13 : ¬ (((limbs pb4).length) > ((limbs a).length)) := Nat.not_lt.2 (len_monoW (pw_le hppb4))
      refine Pl.qA_b (v := .bool false) (fun X => Pl.r_gtr (decide_eq_false (by omega)) X) trivial rfl rfl rfl rfl rfl rfl ?_
      refine Pl.qA_go trivial rfl ?_
      refine Pl.pA_call rfl rfl rfl rfl rfl (fun u X => Pl.enters Tryz.func31 (by kernel_rfl) rfl u X) ?_
      refine Calls.mono (rpowM' _ _ pb4 pk5 (Un.below hu3 (Pl.Ex.trans hE4 (Pl.Ex.trans hE5 (Pl.Ex.trans hE6 hE7)))) (blen pb4) (lt_pow_blen pb4) (by have := blen_mono (pw_le hppb4); omega) (by have := pw_small_bits hppb4 ba c10; omega) (by omega)) ?_
      rintro e w8 ⟨v15, rfl, hv15, hE8⟩
      have sz8 := Pl.Ex.size hE8
      refine ⟨_, rfl, trivial, ?_⟩
      refine Pl.qA_go trivial rfl ?_
      refine Pl.pA_call rfl rfl rfl rfl rfl (fun u X => Pl.enters Tryz.func20 (by kernel_rfl) rfl u X) ?_
      refine Calls.mono (same1 _ _ _ (pb4 ^ pk5) a hv15 (Un.below hv1 (Pl.Ex.trans hE3 (Pl.Ex.trans hE4 (Pl.Ex.trans hE5 (Pl.Ex.trans hE6 (Pl.Ex.trans hE7 hE8)))))) true (decide_eq_true (pw_eq hppb4))) ?_
      rintro e w9 ⟨rfl, hE9⟩
      have sz9 := Pl.Ex.size hE9
      refine ⟨_, rfl, trivial, ?_⟩
      refine Pl.qA_un (v := .bool false) trivial rfl rfl rfl rfl rfl (fun X => rfl) ?_
      refine Pl.qA_go trivial rfl ?_
      refine Pl.pA_end ?_
      repeat refine Pl.V_seq ?_
      refine Pl.V_false rfl ?_
      repeat refine Pl.V_seq ?_
      refine Pl.V_skip ?_
      repeat refine Pl.V_seq ?_
      refine Pl.V_region (by kernel_rfl) ?_
      refine Pl.qA_go trivial rfl ?_
      refine Pl.qA_un (v := .bool true) trivial rfl rfl rfl rfl rfl (fun X => rfl) ?_
      refine Pl.qA_go trivial rfl ?_
      refine Pl.pA_end ?_
      repeat refine Pl.V_seq ?_
      refine Pl.V_true rfl ?_
      repeat refine Pl.V_seq ?_
      refine Pl.V_region (by kernel_rfl) ?_
      refine Pl.qA_go trivial rfl ?_
      refine Pl.pA_end ?_
      repeat refine Pl.V_seq ?_
      exact Pl.post_ret rfl rfl  (⟨rfl, (Pl.Ex.trans hE1 (Pl.Ex.trans hE2 (Pl.Ex.trans hE3 (Pl.Ex.trans hE4 (Pl.Ex.trans hE5 (Pl.Ex.trans hE6 (Pl.Ex.trans hE7 (Pl.Ex.trans hE8 hE9))))))))⟩)
end Go.Proofs.YtbdmncpibnligaaGreatDoor
/- Proved: the statement RootMost, without a condition. -/
namespace Go.Proofs.YtbdmncpibnligaaGreatDoor
open Go.ChangeShapes Go.WideShapes Go.ChangeAt Go.RowKit
set_option linter.unusedVariables false
set_option maxHeartbeats 2000000

set_option maxRecDepth 100000 in
theorem lifted_RootMost (os : Os) (started : os.Started) (H : Type) (enc : TypeId × Value → H) :
    ReturnsInHanded {} Tryz.checked os 9 .any (fun w args => (Rows.rootMostSpec.pre enc Tryz.prog Tryz.f9 [] false w args ∧ laidMetH Tryz.prog laidT w) ∧ sizedMet enc Tryz.prog Tryz.f9 (OpenSpec.ofChange Rows.rootMostSpec) false w args)
      (Rows.rootMostSpec.post enc Tryz.prog Tryz.f9 false true false false) := by
  refine returnsInHanded_of_change_and (C := Tryz.checked) (X := fun w _ => laidMetH Tryz.prog laidT w) (fun _ _ _ hh h => h.of_heap hh) own started (by kernel_rfl) Tryz.func9
    (ChangeSpec.witness_shaped (enc := enc) (C := Tryz.checked) (os := os) (X := fun w _ => laidMetH Tryz.prog laidT w) false (World.doorLaid Tryz.prog 400 os) #[.slice none 0 0, .int .u8 0] 8 rfl (World.shaped_of_RefB (by kernel_rfl) (by kernel_rfl)) (by kernel_rfl) (by kernel_rfl) (by kernel_rfl) (door_met os _)) ?_
  intro W base args ds gs before hval0 hW _ _ hL _
  have hval : ∀ (j : Nat) t v, Tryz.f9.params[j]? = some t → args[j]? = some v → Value.okWide Tryz.prog W .any base t v := hval0
  have hW' := hW
  obtain ⟨p, q, hA0, hV, rfl, hfz, hnd⟩ := hW
  have hlt : ∀ x ∈ p ++ q, x.block < W.heap.size := fun x hx => hW'.lt x hx
  have hA : DataW.TrodAll enc Tryz.prog W 0 (fun _ => true) true Tryz.f9.params.toList args.toList ds p := hA0
  rw [Tryz.params9] at hA hval
  clear hA0 hval0
  obtain ⟨v0, vs0, d0, ds0, p0, q0, hargs0, rfl, rfl, h0, r0⟩ := trodAll_cons hA
  obtain ⟨v1, vs1, d1, ds1, p1, q1, hargs1, rfl, rfl, h1, r1⟩ := trodAll_cons r0
  obtain ⟨hn1, rfl, rfl⟩ := trodAll_nil r1
  subst hn1
  subst hargs1
  obtain rfl : args = #[v0, v1] := by cases args; simp_all
  obtain ⟨rfl, rfl⟩ := trodVars_none hV
  obtain ⟨xs0, u0⟩ := open_limbs (hval 0 22 v0 rfl rfl) h0 (fun x hx => hlt x (by simp [hx]))
  obtain ⟨z1, rfl, rfl, rfl, hz1⟩ := open_int Tryz.underlying5 (hval 1 5 v1 rfl rfl) h1
  have hb1 := bounds_u8 hz1
  obtain ⟨n1, rfl⟩ := Int.eq_ofNat_of_zero_le (show 0 ≤ z1 by omega)
  refine (RootMost_walk W _ _ u0 n1 (by omega)).mono fun e W' ⟨he, hB⟩ => ?_
  subst he
  exact ⟨_, rfl, law_post hW' rfl (by rw [Tryz.params9]; decide +kernel) rfl rfl rfl rfl hB⟩

theorem rootMost_said : Rows.RootMostSaid :=
  OpenClaim.holds_of_wide 9 Tryz.f9 rfl rfl rfl rfl rfl rfl rfl ⟨rfl, rfl, rfl, rfl, rfl⟩ rfl rfl rfl rfl rfl (by kernel_rfl) Tryz.func9 (by kernel_rfl)
    (of_decide_eq_true (by kernel_rfl)) (by unfold Func.isWrapper; first | (rw [if_pos (by decide +kernel)]; kernel_rfl) | (rw [if_neg (by decide +kernel)]; exact ⟨rfl, rfl⟩))
    (fun os started H enc _ => lifted_RootMost os started H enc)
/-- The statement: the card, tied. -/
theorem rootMost_holds : Rows.RootMostCardSaid :=
  Claim7.holds_tied_plain_at .later [] [.wider] true Rows.rootMostCard.stood.harness false
    rootMost_said (fun _ h => by cases h) (by kernel_rfl) (fun _ h => by cases h) rootMost_row_tie rfl ⟨rfl, rfl⟩ (by kernel_rfl) rfl
    (fun f fn hf hfn => by
      obtain rfl : f = 9 := Option.some.inj ((show Tryz.prog.funcNamed "ziggurat/zigguratlaw08.RootMost" = some 9 by kernel_rfl).symm.trans hf) |>.symm
      obtain rfl : fn = Tryz.f9 := (Option.some.inj (Tryz.func9.symm.trans hfn)).symm
      exact ⟨by kernel_rfl, fun j t ht => by
        rw [Tryz.params9] at ht
        have hm : t ∈ [22, 5] := by simpa using Array.mem_of_getElem? ht
        have hall : ([22, 5].all fun u => !Tryz.prog.wantsStandIn u) = true := by kernel_rfl
        exact (show Tryz.prog.wantsStandIn t = false by simpa using List.all_eq_true.1 hall t hm)⟩)
    (by kernel_rfl)
end Go.Proofs.YtbdmncpibnligaaGreatDoor
