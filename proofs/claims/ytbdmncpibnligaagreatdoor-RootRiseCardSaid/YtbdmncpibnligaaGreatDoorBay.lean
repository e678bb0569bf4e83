/- Small roots. -/
import Derived.Test.YtbdmncpibnligaaGreatDoorBax

namespace Go.Proofs.YtbdmncpibnligaaGreatDoor
open Go.RowKit 
set_option linter.unusedVariables false
set_option linter.unusedSimpArgs false
set_option maxRecDepth 100000
set_option maxHeartbeats 4000000
theorem low_eq (a k : Nat) : a - a / 2 ^ k * 2 ^ k = a % 2 ^ k := by
  have := Nat.div_add_mod a (2 ^ k)
  rw [Nat.mul_comm] at this
  omega
theorem word_blen {n : Nat} (hn : n < 4611686018427387904) : blen n ≤ 62 := blen_le_of_lt (k := 62) hn
theorem word_start {n x : Nat} (hn : n < 4611686018427387904) (hx : 2 ^ ((blen n + 1) / 2) = x) : x ≤ 4294967296 ∧ n < (x + 1) * (x + 1) := by
  have h1 := word_blen hn
  have h2 : 2 ^ ((blen n + 1) / 2) ≤ 2 ^ 32 := Nat.pow_le_pow_right (by decide) (by omega)
  have h3 : n < 2 ^ ((blen n + 1) / 2) * 2 ^ ((blen n + 1) / 2) := by
    rw [← Nat.pow_add]
    exact Nat.lt_of_lt_of_le (lt_pow_blen n) (Nat.pow_le_pow_right (by decide) (by omega))
  rw [hx] at h2 h3
  exact ⟨h2, Nat.lt_of_lt_of_le h3 (Nat.mul_le_mul (by omega) (by omega))⟩
theorem word_stop {n x q : Nat} (hq : n / max x 1 = q) (hlt : n < (x + 1) * (x + 1)) (hc : (x + q) / 2 ≥ x) : Rt.kr n 2 = x := by
  rcases Nat.eq_zero_or_pos x with rfl | h0
  · have : n = 0 := by omega
    subst this
    exact Rt.kr_zero (by decide)
  · rw [Nat.max_eq_left h0] at hq
    refine Rt.kr_eq (by decide) ?_ (by rw [Nat.pow_two]; exact hlt)
    have := Rt.step_stop (a := n) (m := 1) h0 (by rw [Nat.mul_one, Nat.pow_one, hq]; exact hc)
    exact this
theorem word_next {n x q : Nat} (hq : n / max x 1 = q) (hlt : n < (x + 1) * (x + 1)) (hc : ¬ (x + q) / 2 ≥ x) : n < ((x + q) / 2 + 1) * ((x + q) / 2 + 1) ∧ 0 < x := by
  have h0 : 0 < x := by omega
  rw [Nat.max_eq_left h0] at hq
  refine ⟨?_, h0⟩
  have h1 := Rt.kr_spec n (show 2 ≠ 0 by decide)
  have := Rt.step_ge (a := n) (x := x) (m := 1) h1.1 h0
  rw [Nat.mul_one, Nat.pow_one, hq] at this
  have h2 := h1.2
  rw [Nat.pow_two] at h2
  exact Nat.lt_of_lt_of_le h2 (Nat.mul_le_mul (by omega) (by omega))
theorem less_calls (w : World) (va vb : Value) (a b : Nat) (ha : Un w va a) (hb : Un w vb b) (la : Sn a 1000) (lb : Sn b 1000) (hle : b ≤ a) :
    Calls Tryz.prog 46 #[va, vb] w fun e w' => ∃ u, e = .returned u ∧ Un w' u (a - b) ∧ Pl.Ex w w' := by
  refine Pl.calls_by (n := 14) (vs := [va, vb]) Tryz.func46 rfl (by kernel_rfl) (by simp) ?_
  repeat refine Pl.V_seq ?_
  refine Pl.V_region (by kernel_rfl) ?_
  refine Pl.qA_go trivial rfl ?_
  refine Pl.pA_end ?_
  repeat refine Pl.V_seq ?_
  refine Pl.V_region (by kernel_rfl) ?_
  refine Pl.qA_go trivial rfl ?_
  refine Pl.pA_call rfl rfl rfl rfl rfl (fun u X => Pl.enters Tryz.func71 (by kernel_rfl) rfl u X) ?_
  refine Calls.mono (sub_B _ _ _ a b ha hb (Sn.le la (by decide)) true (decide_eq_true hle) _ rfl) ?_
  rintro e w1 ⟨v1, rfl, hv1, hE1⟩
  have sz1 := Pl.Ex.size hE1
  refine ⟨_, rfl, trivial, ?_⟩
  refine Pl.qA_go trivial rfl ?_
  refine Pl.pA_end ?_
  repeat refine Pl.V_seq ?_
  refine Pl.V_region (by kernel_rfl) ?_
  refine Pl.qA_go trivial rfl ?_
  refine Pl.pA_end ?_
  repeat refine Pl.V_seq ?_
  exact Pl.post_ret rfl rfl  (⟨_, rfl, hv1, hE1⟩)
theorem low_calls8 (w : World) (va : Value) (a k : Nat) (ha : Un w va a) (la : Sn a 300) (hk : k ≤ 1000000000) :
    Calls Tryz.prog 42 #[va, .int .i64 ((k : Nat) : Int)] w fun e w' => ∃ u, e = .returned u ∧ Un w' u (a % 2 ^ k) ∧ Pl.Ex w w' := by
  refine Pl.calls_by (n := 12) (vs := [va, .int .i64 ((k : Nat) : Int)]) Tryz.func42 rfl (by kernel_rfl) (by simp) ?_
  repeat refine Pl.V_seq ?_
  refine Pl.V_region (by kernel_rfl) ?_
  refine Pl.qA_go trivial rfl ?_
  refine Pl.pA_end ?_
  repeat refine Pl.V_seq ?_
  refine Pl.V_region (by kernel_rfl) ?_
  refine Pl.qA_go trivial rfl ?_
  refine Pl.pA_call rfl rfl rfl rfl rfl (fun u X => Pl.enters Tryz.func39 (by kernel_rfl) rfl u X) ?_
  refine Calls.mono (shrN _ _ a k ha (by omega) (Sn.le la (by decide))) ?_
  rintro e w1 ⟨v1, rfl, hv1, hE1⟩
  have sz1 := Pl.Ex.size hE1
  refine ⟨_, rfl, trivial, ?_⟩
  refine Pl.qA_go trivial rfl ?_
  refine Pl.pA_call rfl rfl rfl rfl rfl (fun u X => Pl.enters Tryz.func41 (by kernel_rfl) rfl u X) ?_
  refine Calls.mono (shlN _ _ (a / 2 ^ k) k hv1 (by omega) (Sn.le (Sn.down la (Nat.div_le_self _ _)) (by decide))) ?_
  rintro e w2 ⟨v2, rfl, hv2, hE2⟩
  have sz2 := Pl.Ex.size hE2
  refine ⟨_, rfl, trivial, ?_⟩
  refine Pl.pA_call rfl rfl rfl rfl rfl (fun u X => Pl.enters Tryz.func46 (by kernel_rfl) rfl u X) ?_
  refine Calls.mono (less_calls _ _ _ a ((a / 2 ^ k) * 2 ^ k) (Un.below ha (Pl.Ex.trans hE1 hE2)) hv2 (Sn.le la (by decide)) (Sn.le (la.down (Nat.div_mul_le_self _ _)) (by decide)) (Nat.div_mul_le_self _ _)) ?_
  rintro e w3 ⟨v3, rfl, hv3, hE3⟩
  have sz3 := Pl.Ex.size hE3
  refine ⟨_, rfl, trivial, ?_⟩
  refine Pl.qA_go trivial rfl ?_
  refine Pl.pA_end ?_
  repeat refine Pl.V_seq ?_
  exact Pl.post_ret rfl rfl  (⟨_, rfl, Un.as hv3 (low_eq a k), (Pl.Ex.trans hE1 (Pl.Ex.trans hE2 hE3))⟩)
theorem word_calls (w : World) (n : Nat) (hn : n < 4611686018427387904) :
    Calls Tryz.prog 36 #[.int .u64 ((n : Nat) : Int)] w fun e w' => e = .returned (.int .u64 ((Rt.kr n 2 : Nat) : Int)) ∧ Pl.Ex w w' := by
  obtain ⟨x0, hx0⟩ : ∃ x, 2 ^ ((blen n + 1) / 2) = x := ⟨_, rfl⟩
  obtain ⟨hb0, hb1⟩ := word_start hn hx0
  have hbl := word_blen hn
  refine Pl.calls_by (n := 22) (vs := [.int .u64 ((n : Nat) : Int)]) Tryz.func36 rfl (by kernel_rfl) (by simp) ?_
  repeat refine Pl.V_seq ?_
  refine Pl.V_region (by kernel_rfl) ?_
  refine Pl.qA_go trivial rfl ?_
  refine Pl.pA_end ?_
  repeat refine Pl.V_seq ?_
  refine Pl.V_region (by kernel_rfl) ?_
  refine Pl.qA_go trivial rfl ?_
  refine Pl.pA_call rfl rfl rfl rfl rfl (fun u X => Pl.enters Tryz.func57 (by kernel_rfl) rfl u X) ?_
  refine Calls.mono (len64_all _ n (by omega)) ?_
  rintro e w1 ⟨rfl, hE1⟩
  have sz1 := Pl.Ex.size hE1
  refine ⟨_, rfl, trivial, ?_⟩
  refine Pl.qA_b (v := .int .i64 (((blen n + 1) : Nat) : Int)) (fun X => nb_add_i64 (a := blen n) (b := 1) (by omega) X) trivial rfl rfl rfl rfl rfl rfl ?_
  refine Pl.qA_b (v := .int .i64 ((((blen n + 1) / 2) : Nat) : Int)) (fun X => nb_quo_i64 (a := (blen n + 1)) (b := 2) (by omega) (by omega) X) trivial rfl rfl rfl rfl rfl rfl ?_
  refine Pl.qA_b (v := .int .u64 ((x0 : Nat) : Int)) (fun X => nb_shl1 hx0 (by omega) X) trivial rfl rfl rfl rfl rfl rfl ?_
  refine Pl.qA_go trivial rfl ?_
  refine Pl.pA_end ?_
  repeat refine Pl.V_seq ?_
  refine Pl.V_block ?_
  repeat refine Pl.V_seq ?_
  refine Pl.V_sub [(0, .int .u64 ((n : Nat) : Int)), (3, .int .u64 ((x0 : Nat) : Int))] (Pl.subl_cons rfl (Pl.subl_cons rfl Pl.subl_nil)) ?_
  repeat refine Pl.V_seq ?_
  refine Pl.V_loop (fun kq l' w' => ∃ x, x = kq ∧ Pl.Ex w1 w' ∧ (x ≤ 4294967296) ∧ (n < (x + 1) * (x + 1)) ∧ l' = [(0, .int .u64 ((n : Nat) : Int)), (3, .int .u64 ((x : Nat) : Int))]) _ ⟨x0, rfl, Pl.Ex.refl _, hb0, hb1, rfl⟩ ?_
  rintro kq _ w2 ⟨x, hk2, hE2, hxb, hlt, rfl⟩
  have sz2 := Pl.Ex.size hE2
  obtain ⟨q, hq⟩ : ∃ q, n / max x 1 = q := ⟨_, rfl⟩
  have hqn : q ≤ n := by rw [← hq]; exact Nat.div_le_self _ _
  repeat refine Pl.V_seq ?_
  refine Pl.V_block ?_
  repeat refine Pl.V_seq ?_
  refine Pl.V_region (by kernel_rfl) ?_
  refine Pl.qA_go trivial rfl ?_
  refine qA_mx (k := .u64) (a := x) (b := 1) (c := (max x 1)) rfl trivial rfl rfl rfl rfl rfl rfl ?_
  refine Pl.qA_b (v := .int .u64 ((q : Nat) : Int)) (fun X => Pl.Bn.as (nb_quo_u64 (a := n) (b := (max x 1)) (by omega) (by omega)) (by rw [hq]) X) trivial rfl rfl rfl rfl rfl rfl ?_
  refine Pl.qA_b (v := .int .u64 (((x + q) : Nat) : Int)) (fun X => nb_add_u64 (a := x) (b := q) (by omega) X) trivial rfl rfl rfl rfl rfl rfl ?_
  refine Pl.qA_b (v := .int .u64 ((((x + q) / 2) : Nat) : Int)) (fun X => nb_quo_u64 (a := (x + q)) (b := 2) (by omega) (by omega) X) trivial rfl rfl rfl rfl rfl rfl ?_
  refine Pl.qA_go trivial rfl ?_
  refine Pl.pA_end ?_
  repeat refine Pl.V_seq ?_
  refine Pl.V_region (by kernel_rfl) ?_
  refine Pl.qA_go trivial rfl ?_
  by_cases c1 : ((x + q) / 2) ≥ x
  · refine Pl.qA_b (v := .bool true) (fun X => Pl.r_geq (decide_eq_true (by omega)) X) trivial rfl rfl rfl rfl rfl rfl ?_
    refine Pl.pA_end ?_
    repeat refine Pl.V_seq ?_
    refine Pl.V_true rfl ?_
    repeat refine Pl.V_seq ?_
    refine Pl.V_region (by kernel_rfl) ?_
    refine Pl.qA_go trivial rfl ?_
    refine Pl.pA_end ?_
    repeat refine Pl.V_seq ?_
    refine Pl.V_ret fun aQ hQ => ?_
    repeat first | refine Pl.ret_then ?_ | refine Pl.Ks_ret ?_ | refine Pl.ret_block ?_ | refine Pl.ret_goto ?_
    exact Pl.at_ret1 hQ rfl rfl  (⟨by rw [word_stop hq hlt c1], (Pl.Ex.trans hE1 hE2)⟩)
  · refine Pl.qA_b (v := .bool false) (fun X => Pl.r_geq (decide_eq_false (by omega)) X) trivial rfl rfl rfl rfl rfl rfl ?_
    refine Pl.pA_end ?_
    repeat refine Pl.V_seq ?_
    refine Pl.V_false rfl ?_
    repeat refine Pl.V_seq ?_
    refine Pl.V_skip ?_
    repeat refine Pl.V_seq ?_
    refine Pl.V_region (by kernel_rfl) ?_
    refine Pl.qA_go trivial rfl ?_
    refine Pl.pA_end ?_
    refine Pl.V_endblock ?_
    repeat refine Pl.V_seq ?_
    refine Pl.V_again (k' := ((x + q) / 2)) [(0, .int .u64 ((n : Nat) : Int)), (3, .int .u64 ((((x + q) / 2) : Nat) : Int))] (Pl.subl_cons rfl (Pl.subl_cons rfl Pl.subl_nil)) (by omega) ⟨((x + q) / 2), rfl, hE2, (by omega), (word_next hq hlt c1).1, rfl⟩
end Go.Proofs.YtbdmncpibnligaaGreatDoor
