/- Proved: the statement RootPowers, without a condition. -/
import Derived.Test.YtbdmncpibnligaaGreatDoorBbh
import Derived.Test.YtbdmncpibnligaaGreatDoorBai

namespace Go.Proofs.YtbdmncpibnligaaGreatDoor
open Go.RowKit 
set_option linter.unusedVariables false
set_option linter.unusedSimpArgs false
set_option maxRecDepth 100000
set_option maxHeartbeats 4000000
theorem kr_pred {b k : Nat} (hb : b ≠ 0) (hk : k ≠ 0) : Rt.kr (b ^ k - 1) k = b - 1 := by
  have h1 : (b - 1) ^ k < b ^ k := Nat.pow_lt_pow_left (by omega) hk
  refine Rt.kr_eq hk (by omega) ?_
  rw [Nat.sub_add_cancel (by omega)]
  omega
theorem kr_succ {b k : Nat} (hb : b ≠ 0) (hk : k ≠ 0) (h : ¬ Rt.kr (b ^ k + 1) k = b) : k = 1 := by
  rcases Nat.lt_or_ge k 2 with h2 | h2
  · omega
  · refine absurd (Rt.kr_eq hk (by omega) ?_) h
    obtain ⟨j, rfl⟩ : ∃ j, k = j + 2 := ⟨k - 2, by omega⟩
    have e1 : b ^ (j + 2) = b ^ (j + 1) * b := Nat.pow_succ _ _
    have e2 : (b + 1) ^ (j + 2) = (b + 1) ^ (j + 1) * b + (b + 1) ^ (j + 1) := by rw [Nat.pow_succ, Nat.mul_succ]
    have h3 : b ^ (j + 1) * b ≤ (b + 1) ^ (j + 1) * b := Nat.mul_le_mul_right _ (Nat.pow_le_pow_left (by omega) _)
    have h4 : b + 1 ≤ (b + 1) ^ (j + 1) := Rt.self_pow _ (by omega)
    omega
theorem RootPowers_walk (w : World) (r0 : Value) (xb : List Nat) (u0 : U w r0 xb) (n : Nat) (hn : n < 256) :
    Calls Tryz.prog 6 #[r0, .int .u8 ((n : Nat) : Int)] w fun e w' => e = .returned (.bool true) ∧ Ext w w' := by
  obtain ⟨b, db⟩ : ∃ q, cutN xb 20 = q := ⟨_, rfl⟩
  have lb : Sn b 20 := by rw [← db]; exact len_of (cut_lt xb 20 u0.lim)
  have bb : blen b ≤ 32 * 20 := Sn.blen lb
  obtain ⟨k, qk⟩ : ∃ q, 1 + n % 40 = q := ⟨_, rfl⟩
  have gk : 1 ≤ k ∧ k ≤ 40 := by omega
  refine Pl.calls_by (n := 109) (vs := [r0, .int .u8 ((n : Nat) : Int)]) Tryz.func6 rfl (by kernel_rfl) (by simp) ?_
  repeat refine Pl.V_seq ?_
  refine Pl.V_region (by kernel_rfl) ?_
  refine Pl.qA_go trivial rfl ?_
  refine Pl.pA_end ?_
  repeat refine Pl.V_seq ?_
  refine Pl.V_region (by kernel_rfl) ?_
  refine Pl.pA_call rfl rfl rfl rfl rfl (fun u X => Pl.enters Tryz.func12 (by kernel_rfl) rfl u X) ?_
  refine Calls.mono (head8 _) ?_
  rintro e w1 ⟨rfl, hE1⟩
  have sz1 := Pl.Ex.size hE1
  refine ⟨_, rfl, trivial, ?_⟩
  refine Pl.qA_go trivial rfl ?_
  refine Pl.pA_end ?_
  repeat refine Pl.V_seq ?_
  refine Pl.V_region (by kernel_rfl) ?_
  refine Pl.qA_go trivial rfl ?_
  refine Pl.pA_call rfl rfl rfl rfl rfl (fun u X => Pl.enters Tryz.func13 (by kernel_rfl) rfl u X) ?_
  refine Calls.mono (made_B _ _ xb 20 (U.below u0 hE1) (by decide) (by decide) b db) ?_
  rintro e w2 ⟨v1, rfl, hv1, hE2⟩
  have sz2 := Pl.Ex.size hE2
  refine ⟨_, rfl, trivial, ?_⟩
  refine Pl.qA_go trivial rfl ?_
  refine Pl.qA_cv (c := ((n : Nat) : Int)) Tryz.underlying3 (by kernel_rfl) (Pl.c_id (a := n) rfl (Pl.w64 (by omega) (by omega))) trivial rfl rfl rfl rfl rfl ?_
  refine Pl.qA_b (v := .int .i64 (((n % 40) : Nat) : Int)) (fun X => nb_rem_i64 (a := n) (b := 40) (by omega) (by omega) X) trivial rfl rfl rfl rfl rfl rfl ?_
  refine Pl.qA_b (v := .int .i64 ((k : Nat) : Int)) (fun X => Pl.Bn.as (nb_add_i64 (a := 1) (b := (n % 40)) (by omega)) (by rw [qk]) X) trivial rfl rfl rfl rfl rfl rfl ?_
  refine Pl.qA_go trivial rfl ?_
  refine Pl.pA_end ?_
  repeat refine Pl.V_seq ?_
  refine Pl.V_region (by kernel_rfl) ?_
  refine Pl.qA_go trivial rfl ?_
  by_cases c2 : blen b * k ≤ 6400
  · refine Pl.pA_call rfl rfl rfl rfl rfl (fun u X => Pl.enters Tryz.func24 (by kernel_rfl) rfl u X) ?_
    refine Calls.mono (lpower_Y _ _ b hv1 (Sn.le lb (by decide)) k (by omega) c2) ?_
    rintro e w3 ⟨v3, rfl, hv3, hE3⟩
    have sz3 := Pl.Ex.size hE3
    refine ⟨_, rfl, trivial, ?_⟩
    refine Pl.qA_go trivial rfl ?_
    refine Pl.pA_end ?_
    repeat refine Pl.V_seq ?_
    refine Pl.V_region (by kernel_rfl) ?_
    refine Pl.qA_go trivial rfl ?_
    refine Pl.qA_un (v := .bool false) trivial rfl rfl rfl rfl rfl (fun X => rfl) ?_
    refine Pl.qA_go trivial rfl ?_
    obtain ⟨A4, c5, rfl⟩ := Un.sh (Un.below hv1 hE3)
    refine Pl.qA_ln Tryz.underlying22 trivial rfl rfl rfl rfl rfl ?_
    by_cases c6 : ((limbs b).length) = 0
    · refine Pl.qA_b (v := .bool true) (fun X => Pl.r_eql (Pl.e_t (by omega)) X) trivial rfl rfl rfl rfl rfl rfl ?_
      refine Pl.qA_go trivial rfl ?_
      refine Pl.pA_end ?_
      repeat refine Pl.V_seq ?_
      refine Pl.V_true rfl ?_
      repeat refine Pl.V_seq ?_
      refine Pl.V_region (by kernel_rfl) ?_
      refine Pl.qA_go trivial rfl ?_
      refine Pl.pA_end ?_
      repeat refine Pl.V_seq ?_
      exact Pl.post_ret rfl rfl  (⟨rfl, (Pl.Ex.trans hE1 (Pl.Ex.trans hE2 hE3))⟩)
    · refine Pl.qA_b (v := .bool false) (fun X => Pl.r_eql (Pl.e_f (by omega)) X) trivial rfl rfl rfl rfl rfl rfl ?_
      refine Pl.qA_go trivial rfl ?_
      refine Pl.pA_end ?_
      repeat refine Pl.V_seq ?_
      refine Pl.V_false rfl ?_
      repeat refine Pl.V_seq ?_
      refine Pl.V_skip ?_
      repeat refine Pl.V_seq ?_
      refine Pl.V_region (by kernel_rfl) ?_
      refine Pl.qA_go trivial rfl ?_
      refine Pl.qA_bs (e := 36) (n := 1) [.int .u32 1] rfl rfl rfl rfl (by kernel_rfl) (fun Y hY => trivial) ?_
      intro N7 w4 hE4 hN_N7 k_N7_0
      have z_N7 := Pl.Cb.lt k_N7_0
      have sz4 := Pl.Ex.size hE4
      have hl8 := Un.one (x := 1) k_N7_0 rfl (by omega)
      refine Pl.pA_call rfl rfl rfl rfl rfl (fun u X => Pl.enters Tryz.func28 (by kernel_rfl) rfl u X) ?_
      refine Calls.mono (rsub_B _ _ _ (b ^ k) 1 (Un.below hv3 hE4) hl8 (Sn.le (pow_sn201 c2 : Sn (b ^ k) 201) (by decide)) (Sn.le (Sn.of (K := 1) (by omega)) (by decide)) true (decide_eq_true (Nat.pow_pos (Nat.pos_of_ne_zero (fun h9 => c6 (len0.2 h9))))) _ rfl) ?_
      rintro e w5 ⟨v9, rfl, hv9, hE5⟩
      have sz5 := Pl.Ex.size hE5
      refine ⟨_, rfl, trivial, ?_⟩
      refine Pl.qA_go trivial rfl ?_
      refine Pl.pA_end ?_
      repeat refine Pl.V_seq ?_
      refine Pl.V_region (by kernel_rfl) ?_
      refine Pl.qA_go trivial rfl ?_
      refine Pl.qA_bs (e := 36) (n := 1) [.int .u32 1] rfl rfl rfl rfl (by kernel_rfl) (fun Y hY => trivial) ?_
      intro N10 w6 hE6 hN_N10 k_N10_0
      have z_N10 := Pl.Cb.lt k_N10_0
      have sz6 := Pl.Ex.size hE6
      have hl11 := Un.one (x := 1) k_N10_0 rfl (by omega)
      refine Pl.pA_call rfl rfl rfl rfl rfl (fun u X => Pl.enters Tryz.func28 (by kernel_rfl) rfl u X) ?_
      refine Calls.mono (rsub_B _ _ _ b 1 (Un.below hv1 (Pl.Ex.trans hE3 (Pl.Ex.trans hE4 (Pl.Ex.trans hE5 hE6)))) hl11 (Sn.le lb (by decide)) (Sn.le (Sn.of (K := 1) (by omega)) (by decide)) true (decide_eq_true (Nat.pos_of_ne_zero (fun h9 => c6 (len0.2 h9)))) _ rfl) ?_
      rintro e w7 ⟨v12, rfl, hv12, hE7⟩
      have sz7 := Pl.Ex.size hE7
      refine ⟨_, rfl, trivial, ?_⟩
      refine Pl.qA_go trivial rfl ?_
      refine Pl.pA_end ?_
      repeat refine Pl.V_seq ?_
      refine Pl.V_region (by kernel_rfl) ?_
      refine Pl.qA_go trivial rfl ?_
      have hbz13 : blen (b ^ k) ≤ 32 * 201 := Sn.blen (pow_sn201 c2 : Sn (b ^ k) 201)
      refine Pl.pA_call rfl rfl rfl rfl rfl (fun u X => Pl.enters Tryz.func14 (by kernel_rfl) rfl u X) ?_
      refine Calls.mono (root_N _ _ (b ^ k) (Un.below hv3 (Pl.Ex.trans hE4 (Pl.Ex.trans hE5 (Pl.Ex.trans hE6 hE7)))) (Sn.le (pow_sn201 c2 : Sn (b ^ k) 201) (by decide)) k (by omega) (by omega) (fun j hj hlt => by omega)) ?_
      rintro e w8 ⟨v14, rfl, hv14, hE8⟩
      have sz8 := Pl.Ex.size hE8
      replace hv14 := Un.as hv14 (Rt.kr_pow b (by omega))
      refine ⟨_, rfl, trivial, ?_⟩
      refine Pl.qA_go trivial rfl ?_
      refine Pl.pA_end ?_
      repeat refine Pl.V_seq ?_
      refine Pl.V_region (by kernel_rfl) ?_
      refine Pl.qA_go trivial rfl ?_
      have hbz15 : blen ((b ^ k) - 1) ≤ 32 * 201 := Sn.blen (Sn.down (pow_sn201 c2 : Sn (b ^ k) 201) (Nat.sub_le _ _))
      refine Pl.pA_call rfl rfl rfl rfl rfl (fun u X => Pl.enters Tryz.func14 (by kernel_rfl) rfl u X) ?_
      refine Calls.mono (root_N _ _ ((b ^ k) - 1) (Un.below hv9 (Pl.Ex.trans hE6 (Pl.Ex.trans hE7 hE8))) (Sn.le (Sn.down (pow_sn201 c2 : Sn (b ^ k) 201) (Nat.sub_le _ _)) (by decide)) k (by omega) (by omega) (fun j hj hlt => by omega)) ?_
      rintro e w9 ⟨v16, rfl, hv16, hE9⟩
      have sz9 := Pl.Ex.size hE9
      replace hv16 := Un.as hv16 (kr_pred (fun h9 => c6 (len0.2 h9)) (by omega))
      refine ⟨_, rfl, trivial, ?_⟩
      refine Pl.qA_go trivial rfl ?_
      refine Pl.pA_end ?_
      repeat refine Pl.V_seq ?_
      refine Pl.V_region (by kernel_rfl) ?_
      refine Pl.qA_go trivial rfl ?_
      refine Pl.qA_bs (e := 36) (n := 1) [.int .u32 1] rfl rfl rfl rfl (by kernel_rfl) (fun Y hY => trivial) ?_
      intro N17 w10 hE10 hN_N17 k_N17_0
      have z_N17 := Pl.Cb.lt k_N17_0
      have sz10 := Pl.Ex.size hE10
      have hl18 := Un.one (x := 1) k_N17_0 rfl (by omega)
      refine Pl.pA_call rfl rfl rfl rfl rfl (fun u X => Pl.enters Tryz.func23 (by kernel_rfl) rfl u X) ?_
      refine Calls.mono (radd_B _ _ _ (b ^ k) 1 (Un.below hv3 (Pl.Ex.trans hE4 (Pl.Ex.trans hE5 (Pl.Ex.trans hE6 (Pl.Ex.trans hE7 (Pl.Ex.trans hE8 (Pl.Ex.trans hE9 hE10))))))) hl18 (Sn.le (pow_sn201 c2 : Sn (b ^ k) 201) (by decide)) (Sn.le (Sn.of (K := 1) (by omega)) (by decide)) _ rfl) ?_
      rintro e w11 ⟨v19, rfl, hv19, hE11⟩
      have sz11 := Pl.Ex.size hE11
      refine ⟨_, rfl, trivial, ?_⟩
      refine Pl.qA_go trivial rfl ?_
      have hbz20 : blen ((b ^ k) + 1) ≤ 32 * 202 := Sn.blen (Sn.add (pow_sn201 c2 : Sn (b ^ k) 201) (Sn.of (K := 1) (by omega)) (by decide) (by decide) : Sn ((b ^ k) + 1) 202)
      refine Pl.pA_call rfl rfl rfl rfl rfl (fun u X => Pl.enters Tryz.func14 (by kernel_rfl) rfl u X) ?_
      refine Calls.mono (root_N _ _ ((b ^ k) + 1) hv19 (Sn.le (Sn.add (pow_sn201 c2 : Sn (b ^ k) 201) (Sn.of (K := 1) (by omega)) (by decide) (by decide) : Sn ((b ^ k) + 1) 202) (by decide)) k (by omega) (by omega) (fun j hj hlt => by omega)) ?_
      rintro e w12 ⟨v21, rfl, hv21, hE12⟩
      have sz12 := Pl.Ex.size hE12
      refine ⟨_, rfl, trivial, ?_⟩
      refine Pl.qA_go trivial rfl ?_
      refine Pl.pA_end ?_
      repeat refine Pl.V_seq ?_
      refine Pl.V_region (by kernel_rfl) ?_
      refine Pl.qA_go trivial rfl ?_
      refine Pl.qA_b (v := .bool false) (fun X => Pl.r_neq (Pl.n_f (by omega)) X) trivial rfl rfl rfl rfl rfl rfl ?_
      refine Pl.qA_go trivial rfl ?_
      refine Pl.qA_b (v := .bool false) (fun X => Pl.r_neq (Pl.n_f (by omega)) X) trivial rfl rfl rfl rfl rfl rfl ?_
      refine Pl.qA_go trivial rfl ?_
      refine Pl.qA_b (v := .bool false) (fun X => Pl.r_neq (Pl.n_f (by omega)) X) trivial rfl rfl rfl rfl rfl rfl ?_
      refine Pl.qA_go trivial rfl ?_
      have hbz23 : blen (b ^ k) ≤ 32 * 201 := Sn.blen (pow_sn201 c2 : Sn (b ^ k) 201)
      refine Pl.pA_call rfl rfl rfl rfl rfl (fun u X => Pl.enters Tryz.func21 (by kernel_rfl) rfl u X) ?_
      refine Calls.mono (is_calls _ _ (b ^ k) (Un.below hv3 (Pl.Ex.trans hE4 (Pl.Ex.trans hE5 (Pl.Ex.trans hE6 (Pl.Ex.trans hE7 (Pl.Ex.trans hE8 (Pl.Ex.trans hE9 (Pl.Ex.trans hE10 (Pl.Ex.trans hE11 hE12))))))))) (Sn.le (pow_sn201 c2 : Sn (b ^ k) 201) (by decide)) ((k : Nat) : Int) (fun j hj hlt => by omega)) ?_
      rintro e w13 ⟨r22, rfl, hr22, hE13⟩
      obtain rfl : r22 = true := by exact hr22.2 ⟨by omega, ((Rt.isP_iff (by omega)).2 ⟨b, rfl⟩)⟩
      have sz13 := Pl.Ex.size hE13
      refine ⟨_, rfl, trivial, ?_⟩
      refine Pl.qA_un (v := .bool false) trivial rfl rfl rfl rfl rfl (fun X => rfl) ?_
      refine Pl.qA_go trivial rfl ?_
      refine Pl.pA_end ?_
      repeat refine Pl.V_seq ?_
      refine Pl.V_false rfl ?_
      repeat refine Pl.V_seq ?_
      refine Pl.V_skip ?_
      repeat refine Pl.V_seq ?_
      refine Pl.V_region (by kernel_rfl) ?_
      refine Pl.qA_go trivial rfl ?_
      refine Pl.pA_call rfl rfl rfl rfl rfl (fun u X => Pl.enters Tryz.func20 (by kernel_rfl) rfl u X) ?_
      refine Calls.mono (same1 _ _ _ b b (Un.below hv14 (Pl.Ex.trans hE9 (Pl.Ex.trans hE10 (Pl.Ex.trans hE11 (Pl.Ex.trans hE12 hE13))))) (Un.below hv1 (Pl.Ex.trans hE3 (Pl.Ex.trans hE4 (Pl.Ex.trans hE5 (Pl.Ex.trans hE6 (Pl.Ex.trans hE7 (Pl.Ex.trans hE8 (Pl.Ex.trans hE9 (Pl.Ex.trans hE10 (Pl.Ex.trans hE11 (Pl.Ex.trans hE12 hE13))))))))))) true (decide_eq_true rfl)) ?_
      rintro e w14 ⟨rfl, hE14⟩
      have sz14 := Pl.Ex.size hE14
      refine ⟨_, rfl, trivial, ?_⟩
      refine Pl.qA_go trivial rfl ?_
      refine Pl.pA_call rfl rfl rfl rfl rfl (fun u X => Pl.enters Tryz.func20 (by kernel_rfl) rfl u X) ?_
      refine Calls.mono (same1 _ _ _ (b - 1) (b - 1) (Un.below hv16 (Pl.Ex.trans hE10 (Pl.Ex.trans hE11 (Pl.Ex.trans hE12 (Pl.Ex.trans hE13 hE14))))) (Un.below hv12 (Pl.Ex.trans hE8 (Pl.Ex.trans hE9 (Pl.Ex.trans hE10 (Pl.Ex.trans hE11 (Pl.Ex.trans hE12 (Pl.Ex.trans hE13 hE14))))))) true (decide_eq_true rfl)) ?_
      rintro e w15 ⟨rfl, hE15⟩
      have sz15 := Pl.Ex.size hE15
      refine ⟨_, rfl, trivial, ?_⟩
      refine Pl.qA_go trivial rfl ?_
      by_cases c24 : (Rt.kr ((b ^ k) + 1) k) = b
      · refine Pl.pA_call rfl rfl rfl rfl rfl (fun u X => Pl.enters Tryz.func20 (by kernel_rfl) rfl u X) ?_
        refine Calls.mono (same1 _ _ _ (Rt.kr ((b ^ k) + 1) k) b (Un.below hv21 (Pl.Ex.trans hE13 (Pl.Ex.trans hE14 hE15))) (Un.below hv1 (Pl.Ex.trans hE3 (Pl.Ex.trans hE4 (Pl.Ex.trans hE5 (Pl.Ex.trans hE6 (Pl.Ex.trans hE7 (Pl.Ex.trans hE8 (Pl.Ex.trans hE9 (Pl.Ex.trans hE10 (Pl.Ex.trans hE11 (Pl.Ex.trans hE12 (Pl.Ex.trans hE13 (Pl.Ex.trans hE14 hE15))))))))))))) true (decide_eq_true c24)) ?_
        rintro e w16 ⟨rfl, hE16⟩
        have sz16 := Pl.Ex.size hE16
        refine ⟨_, rfl, trivial, ?_⟩
        refine Pl.qA_go trivial rfl ?_
        refine Pl.pA_end ?_
        repeat refine Pl.V_seq ?_
        exact Pl.post_ret rfl rfl  (⟨rfl, (Pl.Ex.trans hE1 (Pl.Ex.trans hE2 (Pl.Ex.trans hE3 (Pl.Ex.trans hE4 (Pl.Ex.trans hE5 (Pl.Ex.trans hE6 (Pl.Ex.trans hE7 (Pl.Ex.trans hE8 (Pl.Ex.trans hE9 (Pl.Ex.trans hE10 (Pl.Ex.trans hE11 (Pl.Ex.trans hE12 (Pl.Ex.trans hE13 (Pl.Ex.trans hE14 (Pl.Ex.trans hE15 hE16)))))))))))))))⟩)
      · refine Pl.pA_call rfl rfl rfl rfl rfl (fun u X => Pl.enters Tryz.func20 (by kernel_rfl) rfl u X) ?_
        refine Calls.mono (same1 _ _ _ (Rt.kr ((b ^ k) + 1) k) b (Un.below hv21 (Pl.Ex.trans hE13 (Pl.Ex.trans hE14 hE15))) (Un.below hv1 (Pl.Ex.trans hE3 (Pl.Ex.trans hE4 (Pl.Ex.trans hE5 (Pl.Ex.trans hE6 (Pl.Ex.trans hE7 (Pl.Ex.trans hE8 (Pl.Ex.trans hE9 (Pl.Ex.trans hE10 (Pl.Ex.trans hE11 (Pl.Ex.trans hE12 (Pl.Ex.trans hE13 (Pl.Ex.trans hE14 hE15))))))))))))) false (decide_eq_false c24)) ?_
        rintro e w16 ⟨rfl, hE16⟩
        have sz16 := Pl.Ex.size hE16
        refine ⟨_, rfl, trivial, ?_⟩
        refine Pl.qA_go trivial rfl ?_
        have hf13_14 : k = 1 := kr_succ (fun h9 => c6 (len0.2 h9)) (by omega) c24
        refine Pl.qA_b (v := .bool true) (fun X => Pl.r_eql (Pl.e_t (by omega)) X) trivial rfl rfl rfl rfl rfl rfl ?_
        refine Pl.qA_go trivial rfl ?_
        refine Pl.pA_end ?_
        repeat refine Pl.V_seq ?_
        exact Pl.post_ret rfl rfl  (⟨rfl, (Pl.Ex.trans hE1 (Pl.Ex.trans hE2 (Pl.Ex.trans hE3 (Pl.Ex.trans hE4 (Pl.Ex.trans hE5 (Pl.Ex.trans hE6 (Pl.Ex.trans hE7 (Pl.Ex.trans hE8 (Pl.Ex.trans hE9 (Pl.Ex.trans hE10 (Pl.Ex.trans hE11 (Pl.Ex.trans hE12 (Pl.Ex.trans hE13 (Pl.Ex.trans hE14 (Pl.Ex.trans hE15 hE16)))))))))))))))⟩)
  · refine Pl.pA_call rfl rfl rfl rfl rfl (fun u X => Pl.enters Tryz.func24 (by kernel_rfl) rfl u X) ?_
    refine Calls.mono (lpower_N _ _ b hv1 (Sn.le lb (by decide)) k (by omega) c2) ?_
    rintro e w3 ⟨u3, rfl, hE3⟩
    have sz3 := Pl.Ex.size hE3
    refine ⟨_, rfl, trivial, ?_⟩
    refine Pl.qA_go trivial rfl ?_
    refine Pl.pA_end ?_
    repeat refine Pl.V_seq ?_
    refine Pl.V_region (by kernel_rfl) ?_
    refine Pl.qA_go trivial rfl ?_
    refine Pl.qA_un (v := .bool true) trivial rfl rfl rfl rfl rfl (fun X => rfl) ?_
    refine Pl.qA_go trivial rfl ?_
    refine Pl.pA_end ?_
    repeat refine Pl.V_seq ?_
    refine Pl.V_true rfl ?_
    repeat refine Pl.V_seq ?_
    refine Pl.V_region (by kernel_rfl) ?_
    refine Pl.qA_go trivial rfl ?_
    refine Pl.pA_end ?_
    repeat refine Pl.V_seq ?_
    exact Pl.post_ret rfl rfl  (⟨rfl, (Pl.Ex.trans hE1 (Pl.Ex.trans hE2 hE3))⟩)
end Go.Proofs.YtbdmncpibnligaaGreatDoor
/- Proved: the statement RootPowers, without a condition. -/
namespace Go.Proofs.YtbdmncpibnligaaGreatDoor
open Go.ChangeShapes Go.WideShapes Go.ChangeAt Go.RowKit
set_option linter.unusedVariables false
set_option maxHeartbeats 2000000

set_option maxRecDepth 100000 in
theorem lifted_RootPowers (os : Os) (started : os.Started) (H : Type) (enc : TypeId × Value → H) :
    ReturnsInHanded {} Tryz.checked os 6 .any (fun w args => (Rows.rootPowersSpec.pre enc Tryz.prog Tryz.f6 [] false w args ∧ laidMetH Tryz.prog laidT w) ∧ sizedMet enc Tryz.prog Tryz.f6 (OpenSpec.ofChange Rows.rootPowersSpec) false w args)
      (Rows.rootPowersSpec.post enc Tryz.prog Tryz.f6 false true false false) := by
  refine returnsInHanded_of_change_and (C := Tryz.checked) (X := fun w _ => laidMetH Tryz.prog laidT w) (fun _ _ _ hh h => h.of_heap hh) own started (by kernel_rfl) Tryz.func6
    (ChangeSpec.witness_shaped (enc := enc) (C := Tryz.checked) (os := os) (X := fun w _ => laidMetH Tryz.prog laidT w) false (World.doorLaid Tryz.prog 400 os) #[.slice none 0 0, .int .u8 0] 8 rfl (World.shaped_of_RefB (by kernel_rfl) (by kernel_rfl)) (by kernel_rfl) (by kernel_rfl) (by kernel_rfl) (door_met os _)) ?_
  intro W base args ds gs before hval0 hW _ _ hL _
  have hval : ∀ (j : Nat) t v, Tryz.f6.params[j]? = some t → args[j]? = some v → Value.okWide Tryz.prog W .any base t v := hval0
  have hW' := hW
  obtain ⟨p, q, hA0, hV, rfl, hfz, hnd⟩ := hW
  have hlt : ∀ x ∈ p ++ q, x.block < W.heap.size := fun x hx => hW'.lt x hx
  have hA : DataW.TrodAll enc Tryz.prog W 0 (fun _ => true) true Tryz.f6.params.toList args.toList ds p := hA0
  rw [Tryz.params6] at hA hval
  clear hA0 hval0
  obtain ⟨v0, vs0, d0, ds0, p0, q0, hargs0, rfl, rfl, h0, r0⟩ := trodAll_cons hA
  obtain ⟨v1, vs1, d1, ds1, p1, q1, hargs1, rfl, rfl, h1, r1⟩ := trodAll_cons r0
  obtain ⟨hn1, rfl, rfl⟩ := trodAll_nil r1
  subst hn1
  subst hargs1
  obtain rfl : args = #[v0, v1] := by cases args; simp_all
  obtain ⟨rfl, rfl⟩ := trodVars_none hV
  obtain ⟨xs0, u0⟩ := open_limbs (hval 0 22 v0 rfl rfl) h0 (fun x hx => hlt x (by simp [hx]))
  obtain ⟨z1, rfl, rfl, rfl, hz1⟩ := open_int Tryz.underlying5 (hval 1 5 v1 rfl rfl) h1
  have hb1 := bounds_u8 hz1
  obtain ⟨n1, rfl⟩ := Int.eq_ofNat_of_zero_le (show 0 ≤ z1 by omega)
  refine (RootPowers_walk W _ _ u0 n1 (by omega)).mono fun e W' ⟨he, hB⟩ => ?_
  subst he
  exact ⟨_, rfl, law_post hW' rfl (by rw [Tryz.params6]; decide +kernel) rfl rfl rfl rfl hB⟩

theorem rootPowers_said : Rows.RootPowersSaid :=
  OpenClaim.holds_of_wide 6 Tryz.f6 rfl rfl rfl rfl rfl rfl rfl ⟨rfl, rfl, rfl, rfl, rfl⟩ rfl rfl rfl rfl rfl (by kernel_rfl) Tryz.func6 (by kernel_rfl)
    (of_decide_eq_true (by kernel_rfl)) (by unfold Func.isWrapper; first | (rw [if_pos (by decide +kernel)]; kernel_rfl) | (rw [if_neg (by decide +kernel)]; exact ⟨rfl, rfl⟩))
    (fun os started H enc _ => lifted_RootPowers os started H enc)
/-- The statement: the card, tied. -/
theorem rootPowers_holds : Rows.RootPowersCardSaid :=
  Claim7.holds_tied_plain_at .later [] [.wider] true Rows.rootPowersCard.stood.harness false
    rootPowers_said (fun _ h => by cases h) (by kernel_rfl) (fun _ h => by cases h) rootPowers_row_tie rfl ⟨rfl, rfl⟩ (by kernel_rfl) rfl
    (fun f fn hf hfn => by
      obtain rfl : f = 6 := Option.some.inj ((show Tryz.prog.funcNamed "ziggurat/zigguratlaw08.RootPowers" = some 6 by kernel_rfl).symm.trans hf) |>.symm
      obtain rfl : fn = Tryz.f6 := (Option.some.inj (Tryz.func6.symm.trans hfn)).symm
      exact ⟨by kernel_rfl, fun j t ht => by
        rw [Tryz.params6] at ht
        have hm : t ∈ [22, 5] := by simpa using Array.mem_of_getElem? ht
        have hall : ([22, 5].all fun u => !Tryz.prog.wantsStandIn u) = true := by kernel_rfl
        exact (show Tryz.prog.wantsStandIn t = false by simpa using List.all_eq_true.1 hall t hm)⟩)
    (by kernel_rfl)
end Go.Proofs.YtbdmncpibnligaaGreatDoor
