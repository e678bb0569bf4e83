/- Primes, powers modulo numbers, odd roots. -/
import Derived.Test.YtbdmncpibnligaaGreatDoorBba

namespace Go.Proofs.YtbdmncpibnligaaGreatDoor
open Go.RowKit 
set_option linter.unusedVariables false
set_option linter.unusedSimpArgs false
set_option maxRecDepth 100000
set_option maxHeartbeats 4000000
theorem sq_bound {d n : Nat} (h : d * d ≤ n) (hn : n < 4294967296) : d < 65536 := Nat.lt_of_not_le fun hle => by
  have := Nat.mul_le_mul hle hle
  omega
theorem sq_big {d : Nat} (h : d ≤ 65537) : d * d < 18446744073709551616 := by
  have := Nat.mul_le_mul h h
  omega
theorem pr_next {n d : Nat} (h : ∀ x, 2 ≤ x → x < d → n % x ≠ 0) (hn : n % d ≠ 0) : ∀ x, 2 ≤ x → x < d + 1 → n % x ≠ 0 := fun x h1 h2 => by
  rcases Nat.lt_or_ge x d with h3 | h3
  · exact h x h1 h3
  · obtain rfl : x = d := by omega
    exact hn
theorem pr_end {n d : Nat} (h : ∀ x, 2 ≤ x → x < d → n % x ≠ 0) (hd : n < d * d) (hn : 1 < n) : Rt.Pr n := Rt.pr_trial hn fun x h1 h2 => h x h1 (Nat.lt_of_not_le fun hle => by
  have := Nat.mul_le_mul hle hle
  omega)
theorem mul64 {x y m : Nat} (hx : x < m) (hy : y < m) (hm : m ≤ 4294967296) : x * y < 18446744073709551616 := by
  have := Nat.mul_le_mul (show x ≤ 4294967295 by omega) (show y ≤ 4294967295 by omega)
  omega
theorem and1n (a : Nat) : a &&& 1 = a % 2 := Nat.and_one_is_mod a
theorem pow_half' (x e : Nat) : x ^ e = (x * x) ^ (e / 2) * (if e % 2 = 1 then x else 1) := by
  rw [← Nat.pow_two, ← Nat.pow_mul]
  split
  · rw [← Nat.pow_succ]; congr 1; omega
  · rw [Nat.mul_one]; congr 1; omega
theorem pw_odd {z x e m r : Nat} (h : z * x ^ e % m = r) (ho : e % 2 = 1) : z * x % m * (x * x % m) ^ (e / 2) % m = r := by
  rw [pow_half' x e, if_pos ho] at h
  rw [← h, Nat.mul_mod, Nat.mod_mod, ← Nat.pow_mod, ← Nat.mul_mod]
  congr 1
  rw [Nat.mul_comm ((x * x) ^ (e / 2)) x, Nat.mul_assoc]
theorem pw_even {z x e m r : Nat} (h : z * x ^ e % m = r) (ho : ¬ e % 2 = 1) : z * (x * x % m) ^ (e / 2) % m = r := by
  rw [pow_half' x e, if_neg ho, Nat.mul_one] at h
  rw [← h, Nat.mul_mod, ← Nat.pow_mod, ← Nat.mul_mod]
theorem nb_mulw {P : Program} {T : TypeId} {x y : Operand} {a b c : Nat} (h : a * b % 18446744073709551616 = c) (X : World) : Pl.Bn P .mul T x y (.int .u64 ((a : Nat) : Int)) (.int .u64 ((b : Nat) : Int)) X = .ok (.int .u64 ((c : Nat) : Int)) X := Pl.r_mul (by
  rw [← Int.natCast_mul, ← h]
  simp only [IntKind.wrap, IntKind.signed, IntKind.bits]
  simp) X
theorem nb_subw {P : Program} {T : TypeId} {x y : Operand} {a b c : Nat} (hb : b < 18446744073709551616) (h : (a + (18446744073709551616 - b)) % 18446744073709551616 = c) (X : World) : Pl.Bn P .sub T x y (.int .u64 ((a : Nat) : Int)) (.int .u64 ((b : Nat) : Int)) X = .ok (.int .u64 ((c : Nat) : Int)) X := Pl.r_sub (by
  simp only [IntKind.wrap, IntKind.signed, IntKind.bits]
  simp
  omega) X
theorem inv_next {p v u1 u2 v' : Nat} {B : Int} (hB : B * B ∣ 18446744073709551616) (h1 : p * v % 18446744073709551616 = u1) (h2 : (2 + (18446744073709551616 - u1)) % 18446744073709551616 = u2) (h3 : v * u2 % 18446744073709551616 = v') (h : B ∣ (p : Int) * v - 1) : B * B ∣ (p : Int) * v' - 1 := by
  refine Rt.inv_step (C := 18446744073709551616) (v := v) hB ?_ h
  have e1 : ((p : Int) * v) % 18446744073709551616 = (u1 : Int) := by rw [← h1, Int.natCast_emod, Int.natCast_mul]; rfl
  have e2 : (2 - (u1 : Int)) % 18446744073709551616 = (u2 : Int) := by omega
  rw [e1, e2, ← h3, Int.natCast_emod, Int.natCast_mul]; rfl
theorem inv_start {p : Nat} (h : p % 2 = 1) : ((2 ^ 2 ^ 0 : Nat) : Int) ∣ (p : Int) * p - 1 := by
  have h2 : (p * p) % 2 = 1 := by rw [Nat.mul_mod, h]
  have e : (p : Int) * p = ((p * p : Nat) : Int) := by rw [Int.natCast_mul]
  rw [e]
  have : ((2 ^ 2 ^ 0 : Nat) : Int) = 2 := rfl
  rw [this]
  omega
theorem two_sqr (i : Nat) : ((2 ^ 2 ^ (i + 1) : Nat) : Int) = ((2 ^ 2 ^ i : Nat) : Int) * ((2 ^ 2 ^ i : Nat) : Int) := by
  rw [← Int.natCast_mul, ← Nat.pow_add, Nat.pow_succ]
  congr 2
  omega
theorem two_div {i : Nat} (h : i < 6) : ((2 ^ 2 ^ i : Nat) : Int) * ((2 ^ 2 ^ i : Nat) : Int) ∣ 18446744073709551616 := by
  rw [← two_sqr]
  have h2 : 2 ^ 2 ^ (i + 1) ∣ 2 ^ 64 := Nat.pow_dvd_pow 2 (by
    have : 2 ^ (i + 1) ≤ 2 ^ 6 := Nat.pow_le_pow_right (by decide) (by omega)
    omega)
  exact Int.natCast_dvd_natCast.2 h2
theorem low_fin {a p v0 z : Nat} (h : (a % 18446744073709551616) ^ v0 % 18446744073709551616 = z) (hd : ((2 ^ 2 ^ 6 : Nat) : Int) ∣ (p : Int) * v0 - 1) (hp : 0 < p * v0) (r : Nat) (hr : r ^ p = a) (ho : r % 2 = 1) : z = r % 18446744073709551616 := by
  obtain ⟨c, hc⟩ := hd
  have h64 : ((2 ^ 2 ^ 6 : Nat) : Int) = 18446744073709551616 := rfl
  rw [h64] at hc
  have hc0 : 0 ≤ c := by
    have : (0 : Int) < (p : Int) * v0 := by exact_mod_cast hp
    omega
  obtain ⟨t, rfl⟩ := Int.eq_ofNat_of_zero_le hc0
  have e : p * v0 = 2 ^ 64 * t + 1 := by
    have : ((p * v0 : Nat) : Int) = ((2 ^ 64 * t + 1 : Nat) : Int) := by
      rw [Int.natCast_mul, Int.natCast_add, Int.natCast_mul]
      have : ((2 ^ 64 : Nat) : Int) = 18446744073709551616 := rfl
      rw [this]; omega
    exact_mod_cast this
  have := Rt.low_root (M := 64) rfl ho e
  rw [hr] at this
  rw [← h, ← Nat.pow_mod]
  exact this
theorem take_two (a : Nat) : val ((limbs a).take (min (limbs a).length 2)) = a % 18446744073709551616 := by
  have e0 : (limbs a).take (min (limbs a).length 2) = (limbs a).take 2 := by
    rcases Nat.le_total (limbs a).length 2 with h | h
    · rw [Nat.min_eq_left h, List.take_length, List.take_of_length_le h]
    · rw [Nat.min_eq_right h]
  rw [e0]
  have h1 := val_append ((limbs a).take 2) ((limbs a).drop 2)
  rw [List.take_append_drop, val_limbs] at h1
  have h2 := val_lt ((limbs a).take 2) (fun x hx => limbs_lt a x (List.mem_of_mem_take hx))
  rcases Nat.lt_or_ge (limbs a).length 2 with h3 | h3
  · rw [List.drop_of_length_le (by omega)] at h1
    have h4 : 4294967296 ^ ((limbs a).take 2).length ≤ 4294967296 ^ 2 := Nat.pow_le_pow_right (by decide) (by simp; omega)
    have h5 : val [] = 0 := rfl
    rw [h5, Nat.mul_zero] at h1
    omega
  · have h4 : ((limbs a).take 2).length = 2 := by simp; omega
    rw [h4] at h1 h2
    omega
theorem inv_pos {p v : Nat} (h : ((2 ^ 2 ^ 6 : Nat) : Int) ∣ (p : Int) * v - 1) : 0 < p * v := by
  refine Nat.pos_of_ne_zero fun e => ?_
  obtain ⟨c, hc⟩ := h
  have e2 : (p : Int) * v = 0 := by exact_mod_cast e
  have h64 : ((2 ^ 2 ^ 6 : Nat) : Int) = 18446744073709551616 := rfl
  rw [e2, h64] at hc
  omega
theorem un_open {w : World} {v : Value} {n : Nat} (h : Un w v n) : ∃ A c, v = .slice A (limbs n).length c ∧ (limbs n).length ≤ c ∧ (limbs n).length ≤ 9223372036854775807 ∧ (n ≠ 0 → ∃ ad, A = some ad ∧ ad.block < w.heap.size) := by
  obtain ⟨A, c, rfl, hc, hx, hr⟩ := h
  exact ⟨A, c, rfl, hc.1, hc.2, fun h0 => (hr (limbs_nz h0)).elim fun ad h => ⟨ad, h.1, h.2.1⟩⟩
theorem un_first {w : World} {ad : Addr} {n L c : Nat} (h : Un w (.slice (some ad) L c) n) (h0 : n ≠ 0) : w.cell? (ad.add (0 * 1)) = some (.int .u32 ((n % 4294967296 : Nat) : Int)) := by
  obtain ⟨A', c', e, hc, hx, hr⟩ := h
  injection e with e1 e2 e3
  subst e1
  obtain ⟨ad', hA, hb, hcell⟩ := hr (limbs_nz h0)
  cases hA
  have := hcell 0 (limbs_nz h0)
  rw [show (0 * 1 : Nat) = 0 from rfl, this]
  rw [lb, limbs_pos h0]; rfl
theorem isprime_calls (w : World) (n : Nat) (hn : n < 4294967296) :
    Calls Tryz.prog 74 #[.int .u64 ((n : Nat) : Int)] w fun e w' => ∃ b : Bool, e = .returned (.bool b) ∧ (b = true ↔ Rt.Pr n) ∧ Pl.Ex w w' := by
  refine Pl.calls_by (n := 17) (vs := [.int .u64 ((n : Nat) : Int)]) Tryz.func74 rfl (by kernel_rfl) (by simp) ?_
  repeat refine Pl.V_seq ?_
  refine Pl.V_region (by kernel_rfl) ?_
  refine Pl.qA_go trivial rfl ?_
  refine Pl.pA_end ?_
  repeat refine Pl.V_seq ?_
  refine Pl.V_region (by kernel_rfl) ?_
  refine Pl.qA_go trivial rfl ?_
  refine Pl.pA_end ?_
  repeat refine Pl.V_seq ?_
  refine Pl.V_block ?_
  repeat refine Pl.V_seq ?_
  refine Pl.V_sub [(0, .int .u64 ((n : Nat) : Int)), (3, .int .u64 2)] (Pl.subl_cons rfl (Pl.subl_cons rfl Pl.subl_nil)) ?_
  repeat refine Pl.V_seq ?_
  refine Pl.V_loop (fun kq l' w' => ∃ d, (65537 - d) = kq ∧ Pl.Ex w w' ∧ (2 ≤ d) ∧ (d ≤ 65536) ∧ (∀ x, 2 ≤ x → x < d → n % x ≠ 0) ∧ l' = [(0, .int .u64 ((n : Nat) : Int)), (3, .int .u64 ((d : Nat) : Int))]) _ ⟨2, rfl, Pl.Ex.refl _, (by decide), (by decide), (fun x h1 h2 => by omega), rfl⟩ ?_
  rintro kq _ w1 ⟨d, hk1, hE1, hd2, hd6, hpr, rfl⟩
  have sz1 := Pl.Ex.size hE1
  have hdd := sq_big (show d ≤ 65537 by omega)
  repeat refine Pl.V_seq ?_
  refine Pl.V_region (by kernel_rfl) ?_
  refine Pl.qA_go trivial rfl ?_
  refine Pl.qA_b (v := .int .u64 (((d * d) : Nat) : Int)) (fun X => nb_mul_u64 (a := d) (b := d) (by exact hdd) X) trivial rfl rfl rfl rfl rfl rfl ?_
  refine Pl.qA_go trivial rfl ?_
  by_cases c1 : (d * d) ≤ n
  · refine Pl.qA_b (v := .bool true) (fun X => Pl.r_leq (decide_eq_true (by omega)) X) trivial rfl rfl rfl rfl rfl rfl ?_
    refine Pl.pA_end ?_
    repeat refine Pl.V_seq ?_
    refine Pl.V_true rfl ?_
    repeat refine Pl.V_seq ?_
    refine Pl.V_skip ?_
    repeat refine Pl.V_seq ?_
    refine Pl.V_block ?_
    repeat refine Pl.V_seq ?_
    refine Pl.V_region (by kernel_rfl) ?_
    have hd3 := sq_bound c1 hn
    refine Pl.qA_go trivial rfl ?_
    refine Pl.qA_b (v := .int .u64 (((n % d) : Nat) : Int)) (fun X => nb_rem_u64 (a := n) (b := d) (by omega) (by omega) X) trivial rfl rfl rfl rfl rfl rfl ?_
    by_cases c2 : (n % d) = 0
    · refine Pl.qA_b (v := .bool true) (fun X => Pl.r_eql (Pl.e_t (by omega)) X) trivial rfl rfl rfl rfl rfl rfl ?_
      refine Pl.pA_end ?_
      repeat refine Pl.V_seq ?_
      refine Pl.V_true rfl ?_
      repeat refine Pl.V_seq ?_
      refine Pl.V_region (by kernel_rfl) ?_
      refine Pl.qA_go trivial rfl ?_
      refine Pl.pA_end ?_
      repeat refine Pl.V_seq ?_
      refine Pl.V_ret fun aQ hQ => ?_
      repeat first | refine Pl.ret_then ?_ | refine Pl.Ks_ret ?_ | refine Pl.ret_block ?_ | refine Pl.ret_goto ?_
      exact Pl.at_ret1 hQ rfl rfl  (⟨false, rfl, ⟨fun h => (by cases h), fun hp => absurd hp (Rt.not_pr hd2 c1 c2)⟩, hE1⟩)
    · refine Pl.qA_b (v := .bool false) (fun X => Pl.r_eql (Pl.e_f (by omega)) X) trivial rfl rfl rfl rfl rfl rfl ?_
      refine Pl.pA_end ?_
      repeat refine Pl.V_seq ?_
      refine Pl.V_false rfl ?_
      repeat refine Pl.V_seq ?_
      refine Pl.V_skip ?_
      refine Pl.V_endblock ?_
      repeat refine Pl.V_seq ?_
      refine Pl.V_region (by kernel_rfl) ?_
      refine Pl.qA_go trivial rfl ?_
      refine Pl.qA_b (v := .int .u64 (((d + 1) : Nat) : Int)) (fun X => nb_add_u64 (a := d) (b := 1) (by omega) X) trivial rfl rfl rfl rfl rfl rfl ?_
      refine Pl.qA_go trivial rfl ?_
      refine Pl.pA_end ?_
      repeat refine Pl.V_seq ?_
      refine Pl.V_again (k' := (65537 - (d + 1))) [(0, .int .u64 ((n : Nat) : Int)), (3, .int .u64 (((d + 1) : Nat) : Int))] (Pl.subl_cons rfl (Pl.subl_cons rfl Pl.subl_nil)) (by omega) ⟨(d + 1), rfl, hE1, (by omega), (by have := sq_bound c1 hn; omega), (pr_next hpr c2), rfl⟩
  · refine Pl.qA_b (v := .bool false) (fun X => Pl.r_leq (decide_eq_false (by omega)) X) trivial rfl rfl rfl rfl rfl rfl ?_
    refine Pl.pA_end ?_
    repeat refine Pl.V_seq ?_
    refine Pl.V_false rfl ?_
    repeat refine Pl.V_seq ?_
    refine Pl.V_exit ?_
    repeat refine Pl.V_seq ?_
    refine Pl.V_region (by kernel_rfl) ?_
    refine Pl.qA_go trivial rfl ?_
    by_cases c2 : n > 1
    · refine Pl.qA_b (v := .bool true) (fun X => Pl.r_gtr (decide_eq_true (by omega)) X) trivial rfl rfl rfl rfl rfl rfl ?_
      refine Pl.qA_go trivial rfl ?_
      refine Pl.pA_end ?_
      repeat refine Pl.V_seq ?_
      exact Pl.post_ret rfl rfl  (⟨true, rfl, ⟨fun _ => pr_end hpr (Nat.lt_of_not_le c1) c2, fun _ => rfl⟩, hE1⟩)
    · refine Pl.qA_b (v := .bool false) (fun X => Pl.r_gtr (decide_eq_false (by omega)) X) trivial rfl rfl rfl rfl rfl rfl ?_
      refine Pl.qA_go trivial rfl ?_
      refine Pl.pA_end ?_
      repeat refine Pl.V_seq ?_
      exact Pl.post_ret rfl rfl  (⟨false, rfl, ⟨fun h => (by cases h), fun hp => absurd hp.1 c2⟩, hE1⟩)
theorem power_calls (w : World) (x0 e0 m : Nat) (hx0 : x0 < m) (he : e0 < 18446744073709551616) (hm1 : 1 < m) (hm2 : m ≤ 4294967296) :
    Calls Tryz.prog 76 #[.int .u64 ((x0 : Nat) : Int), .int .u64 ((e0 : Nat) : Int), .int .u64 ((m : Nat) : Int)] w fun e w' => e = .returned (.int .u64 ((x0 ^ e0 % m : Nat) : Int)) ∧ Pl.Ex w w' := by
  refine Pl.calls_by (n := 26) (vs := [.int .u64 ((x0 : Nat) : Int), .int .u64 ((e0 : Nat) : Int), .int .u64 ((m : Nat) : Int)]) Tryz.func76 rfl (by kernel_rfl) (by simp) ?_
  repeat refine Pl.V_seq ?_
  refine Pl.V_region (by kernel_rfl) ?_
  refine Pl.qA_go trivial rfl ?_
  refine Pl.pA_end ?_
  repeat refine Pl.V_seq ?_
  refine Pl.V_region (by kernel_rfl) ?_
  refine Pl.qA_go trivial rfl ?_
  refine Pl.pA_end ?_
  repeat refine Pl.V_seq ?_
  refine Pl.V_block ?_
  repeat refine Pl.V_seq ?_
  refine Pl.V_sub [(0, .int .u64 ((x0 : Nat) : Int)), (1, .int .u64 ((e0 : Nat) : Int)), (2, .int .u64 ((m : Nat) : Int)), (7, .int .u64 1)] (Pl.subl_cons rfl (Pl.subl_cons rfl (Pl.subl_cons rfl (Pl.subl_cons rfl Pl.subl_nil)))) ?_
  repeat refine Pl.V_seq ?_
  refine Pl.V_loop (fun kq l' w' => ∃ x k z, k = kq ∧ Pl.Ex w w' ∧ (x < m) ∧ (z < m) ∧ (k < 18446744073709551616) ∧ (z * x ^ k % m = x0 ^ e0 % m) ∧ l' = [(0, .int .u64 ((x : Nat) : Int)), (1, .int .u64 ((k : Nat) : Int)), (2, .int .u64 ((m : Nat) : Int)), (7, .int .u64 ((z : Nat) : Int))]) _ ⟨x0, e0, 1, rfl, Pl.Ex.refl _, hx0, (by omega), he, (by rw [Nat.one_mul]), rfl⟩ ?_
  rintro kq _ w1 ⟨x, k, z, hk1, hE1, hx, hz, hk64, hzx, rfl⟩
  have sz1 := Pl.Ex.size hE1
  repeat refine Pl.V_seq ?_
  refine Pl.V_region (by kernel_rfl) ?_
  refine Pl.qA_go trivial rfl ?_
  by_cases c1 : k > 0
  · refine Pl.qA_b (v := .bool true) (fun X => Pl.r_gtr (decide_eq_true (by omega)) X) trivial rfl rfl rfl rfl rfl rfl ?_
    refine Pl.pA_end ?_
    repeat refine Pl.V_seq ?_
    refine Pl.V_true rfl ?_
    repeat refine Pl.V_seq ?_
    refine Pl.V_skip ?_
    repeat refine Pl.V_seq ?_
    refine Pl.V_block ?_
    repeat refine Pl.V_seq ?_
    refine Pl.V_region (by kernel_rfl) ?_
    refine Pl.qA_go trivial rfl ?_
    refine Pl.qA_b (v := .int .u64 (((k % 2) : Nat) : Int)) (fun X => nb_and_u64 (by omega) (by decide) (and1n k) X) trivial rfl rfl rfl rfl rfl rfl ?_
    by_cases c2 : (k % 2) = 1
    · refine Pl.qA_b (v := .bool true) (fun X => Pl.r_eql (Pl.e_t (by omega)) X) trivial rfl rfl rfl rfl rfl rfl ?_
      refine Pl.pA_end ?_
      repeat refine Pl.V_seq ?_
      refine Pl.V_true rfl ?_
      repeat refine Pl.V_seq ?_
      refine Pl.V_region (by kernel_rfl) ?_
      refine Pl.qA_go trivial rfl ?_
      refine Pl.qA_b (v := .int .u64 (((z * x) : Nat) : Int)) (fun X => nb_mul_u64 (mul64 hz hx hm2) X) trivial rfl rfl rfl rfl rfl rfl ?_
      refine Pl.qA_go trivial rfl ?_
      refine Pl.qA_b (v := .int .u64 (((z * x % m) : Nat) : Int)) (fun X => Pl.Bn.as (nb_rem_u64 (a := (z * x)) (b := m) (by omega) (by omega)) (by rw [show (z * x) % m = z * x % m from rfl]) X) trivial rfl rfl rfl rfl rfl rfl ?_
      refine Pl.qA_go trivial rfl ?_
      refine Pl.pA_end ?_
      repeat refine Pl.V_seq ?_
      refine Pl.V_region (by kernel_rfl) ?_
      refine Pl.qA_go trivial rfl ?_
      refine Pl.qA_b (v := .int .u64 (((x * x) : Nat) : Int)) (fun X => nb_mul_u64 (mul64 hx hx hm2) X) trivial rfl rfl rfl rfl rfl rfl ?_
      refine Pl.qA_go trivial rfl ?_
      refine Pl.qA_b (v := .int .u64 (((x * x % m) : Nat) : Int)) (fun X => Pl.Bn.as (nb_rem_u64 (a := (x * x)) (b := m) (by omega) (by omega)) (by rw [show (x * x) % m = x * x % m from rfl]) X) trivial rfl rfl rfl rfl rfl rfl ?_
      refine Pl.qA_go trivial rfl ?_
      refine Pl.pA_end ?_
      refine Pl.V_endblock ?_
      repeat refine Pl.V_seq ?_
      refine Pl.V_region (by kernel_rfl) ?_
      refine Pl.qA_go trivial rfl ?_
      refine Pl.qA_b (v := .int .u64 (((k / 2) : Nat) : Int)) (fun X => nb_shr_u64 (m := 1) (show k / 2 ^ 1 = k / 2 by omega) (by decide) X) trivial rfl rfl rfl rfl rfl rfl ?_
      refine Pl.qA_go trivial rfl ?_
      refine Pl.pA_end ?_
      repeat refine Pl.V_seq ?_
      refine Pl.V_again (k' := (k / 2)) [(0, .int .u64 (((x * x % m) : Nat) : Int)), (1, .int .u64 (((k / 2) : Nat) : Int)), (2, .int .u64 ((m : Nat) : Int)), (7, .int .u64 (((z * x % m) : Nat) : Int))] (Pl.subl_cons rfl (Pl.subl_cons rfl (Pl.subl_cons rfl (Pl.subl_cons rfl Pl.subl_nil)))) (by omega) ⟨(x * x % m), (k / 2), (z * x % m), rfl, hE1, (Nat.mod_lt _ (by omega)), (Nat.mod_lt _ (by omega)), (by omega), (pw_odd hzx c2), rfl⟩
    · refine Pl.qA_b (v := .bool false) (fun X => Pl.r_eql (Pl.e_f (by omega)) X) trivial rfl rfl rfl rfl rfl rfl ?_
      refine Pl.pA_end ?_
      repeat refine Pl.V_seq ?_
      refine Pl.V_false rfl ?_
      repeat refine Pl.V_seq ?_
      refine Pl.V_skip ?_
      repeat refine Pl.V_seq ?_
      refine Pl.V_region (by kernel_rfl) ?_
      refine Pl.qA_go trivial rfl ?_
      refine Pl.qA_b (v := .int .u64 (((x * x) : Nat) : Int)) (fun X => nb_mul_u64 (mul64 hx hx hm2) X) trivial rfl rfl rfl rfl rfl rfl ?_
      refine Pl.qA_go trivial rfl ?_
      refine Pl.qA_b (v := .int .u64 (((x * x % m) : Nat) : Int)) (fun X => Pl.Bn.as (nb_rem_u64 (a := (x * x)) (b := m) (by omega) (by omega)) (by rw [show (x * x) % m = x * x % m from rfl]) X) trivial rfl rfl rfl rfl rfl rfl ?_
      refine Pl.qA_go trivial rfl ?_
      refine Pl.pA_end ?_
      refine Pl.V_endblock ?_
      repeat refine Pl.V_seq ?_
      refine Pl.V_region (by kernel_rfl) ?_
      refine Pl.qA_go trivial rfl ?_
      refine Pl.qA_b (v := .int .u64 (((k / 2) : Nat) : Int)) (fun X => nb_shr_u64 (m := 1) (show k / 2 ^ 1 = k / 2 by omega) (by decide) X) trivial rfl rfl rfl rfl rfl rfl ?_
      refine Pl.qA_go trivial rfl ?_
      refine Pl.pA_end ?_
      repeat refine Pl.V_seq ?_
      refine Pl.V_again (k' := (k / 2)) [(0, .int .u64 (((x * x % m) : Nat) : Int)), (1, .int .u64 (((k / 2) : Nat) : Int)), (2, .int .u64 ((m : Nat) : Int)), (7, .int .u64 ((z : Nat) : Int))] (Pl.subl_cons rfl (Pl.subl_cons rfl (Pl.subl_cons rfl (Pl.subl_cons rfl Pl.subl_nil)))) (by omega) ⟨(x * x % m), (k / 2), z, rfl, hE1, (Nat.mod_lt _ (by omega)), hz, (by omega), (pw_even hzx c2), rfl⟩
  · refine Pl.qA_b (v := .bool false) (fun X => Pl.r_gtr (decide_eq_false (by omega)) X) trivial rfl rfl rfl rfl rfl rfl ?_
    refine Pl.pA_end ?_
    repeat refine Pl.V_seq ?_
    refine Pl.V_false rfl ?_
    repeat refine Pl.V_seq ?_
    refine Pl.V_exit ?_
    repeat refine Pl.V_seq ?_
    refine Pl.V_region (by kernel_rfl) ?_
    obtain rfl : k = 0 := by omega
    rw [Nat.pow_zero, Nat.mul_one, Nat.mod_eq_of_lt hz] at hzx
    refine Pl.qA_go trivial rfl ?_
    refine Pl.pA_end ?_
    repeat refine Pl.V_seq ?_
    exact Pl.post_ret rfl rfl  (⟨by rw [hzx], hE1⟩)
theorem lowroot_calls (w : World) (va : Value) (a : Nat) (ha : Un w va a) (la : Sn a 300) (p : Nat) (hp : p % 2 = 1) (hp64 : p < 18446744073709551616) :
    Calls Tryz.prog 73 #[va, .int .u64 ((p : Nat) : Int)] w fun e w' => ∃ z, e = .returned (.int .u64 ((z : Nat) : Int)) ∧ z < 18446744073709551616 ∧ (∀ r, r ^ p = a → r % 2 = 1 → z = r % 18446744073709551616) ∧ Pl.Ex w w' := by
  obtain ⟨A, c, rfl, hc, hc63, -⟩ := un_open ha
  have hal := la
  refine Pl.calls_by (n := 43) (vs := [.slice A (limbs a).length c, .int .u64 ((p : Nat) : Int)]) Tryz.func73 rfl (by kernel_rfl) (by simp) ?_
  repeat refine Pl.V_seq ?_
  refine Pl.V_region (by kernel_rfl) ?_
  refine Pl.qA_go trivial rfl ?_
  refine Pl.pA_end ?_
  repeat refine Pl.V_seq ?_
  refine Pl.V_region (by kernel_rfl) ?_
  refine Pl.qA_go trivial rfl ?_
  refine Pl.qA_ln Tryz.underlying22 trivial rfl rfl rfl rfl rfl ?_
  refine qA_mn (k := .i64) (a := ((limbs a).length)) (b := 2) (c := (min ((limbs a).length) 2)) rfl trivial rfl rfl rfl rfl rfl rfl ?_
  refine Pl.qA_sl (kl := .i64) (kh := .i64) (lo' := 0) (hi' := (min ((limbs a).length) 2)) (s := 1) Tryz.underlying22 (by kernel_rfl) (.inl ⟨rfl, rfl⟩) (.inr ⟨_, _, rfl, rfl, rfl⟩) (by omega) (by omega) trivial rfl rfl rfl rfl rfl ?_
  rw [cutA_zero]
  refine Pl.pA_call rfl rfl rfl rfl rfl (fun u X => Pl.enters Tryz.func58 (by kernel_rfl) rfl u X) ?_
  refine Calls.mono (make_B _ _ _ (U.take ha (Nat.min_le_left _ _) (Nat.le_trans (Nat.min_le_left _ _) hc)) _ (take_two a)) ?_
  rintro e w1 ⟨vn, rfl, hvn, hE1⟩
  obtain ⟨n0, hn0⟩ : ∃ n, a % 18446744073709551616 = n := ⟨_, rfl⟩
  rw [hn0] at hvn
  have hn64 : n0 < 18446744073709551616 := by omega
  have sz1 := Pl.Ex.size hE1
  refine ⟨_, rfl, trivial, ?_⟩
  refine Pl.pA_call rfl rfl rfl rfl rfl (fun u X => Pl.enters Tryz.func35 (by kernel_rfl) rfl u X) ?_
  refine Calls.mono (lowY _ _ n0 hvn hn64) ?_
  rintro e w2 ⟨rfl, hE2⟩
  have sz2 := Pl.Ex.size hE2
  refine ⟨_, rfl, trivial, ?_⟩
  refine Pl.qA_go trivial rfl ?_
  refine Pl.pA_end ?_
  repeat refine Pl.V_seq ?_
  refine Pl.V_region (by kernel_rfl) ?_
  refine Pl.qA_go trivial rfl ?_
  refine Pl.pA_end ?_
  repeat refine Pl.V_seq ?_
  refine Pl.V_region (by kernel_rfl) ?_
  refine Pl.qA_go trivial rfl ?_
  refine Pl.pA_end ?_
  repeat refine Pl.V_seq ?_
  refine Pl.V_block ?_
  repeat refine Pl.V_seq ?_
  refine Pl.V_sub [(1, .int .u64 ((p : Nat) : Int)), (5, .int .u64 ((n0 : Nat) : Int)), (7, .int .u64 ((p : Nat) : Int)), (20, .int .i64 0)] (Pl.subl_cons rfl (Pl.subl_cons rfl (Pl.subl_cons rfl (Pl.subl_cons rfl Pl.subl_nil)))) ?_
  repeat refine Pl.V_seq ?_
  refine Pl.V_loop (fun kq l' w' => ∃ (i : Nat) (v : Nat), (6 - i) = kq ∧ Pl.Ex w2 w' ∧ (i ≤ 6) ∧ (v < 18446744073709551616) ∧ (((2 ^ 2 ^ i : Nat) : Int) ∣ ((p : Nat) : Int) * ((v : Nat) : Int) - 1) ∧ l' = [(1, .int .u64 ((p : Nat) : Int)), (5, .int .u64 ((n0 : Nat) : Int)), (7, .int .u64 ((v : Nat) : Int)), (20, .int .i64 ((i : Nat) : Int))]) _ ⟨0, p, rfl, Pl.Ex.refl _, (by decide), hp64, (inv_start hp), rfl⟩ ?_
  rintro kq _ w3 ⟨i, v, hk3, hE3, hi6, hv64, hdv, rfl⟩
  have sz3 := Pl.Ex.size hE3
  repeat refine Pl.V_seq ?_
  refine Pl.V_region (by kernel_rfl) ?_
  by_cases c1 : i < 6
  · refine Pl.qA_b (v := .bool true) (fun X => Pl.r_lss (decide_eq_true (by omega)) X) trivial rfl rfl rfl rfl rfl rfl ?_
    refine Pl.pA_end ?_
    repeat refine Pl.V_seq ?_
    refine Pl.V_true rfl ?_
    repeat refine Pl.V_seq ?_
    refine Pl.V_skip ?_
    repeat refine Pl.V_seq ?_
    refine Pl.V_block ?_
    repeat refine Pl.V_seq ?_
    refine Pl.V_region (by kernel_rfl) ?_
    obtain ⟨u1, hu1⟩ : ∃ u, p * v % 18446744073709551616 = u := ⟨_, rfl⟩
    have hu1l : u1 < 18446744073709551616 := by omega
    obtain ⟨u2, hu2⟩ : ∃ u, (2 + (18446744073709551616 - u1)) % 18446744073709551616 = u := ⟨_, rfl⟩
    obtain ⟨v', hv'⟩ : ∃ u, v * u2 % 18446744073709551616 = u := ⟨_, rfl⟩
    have hin := inv_next (two_div (i := i) (by omega)) hu1 hu2 hv' hdv
    rw [← two_sqr] at hin
    refine Pl.qA_go trivial rfl ?_
    refine Pl.qA_b (v := .int .u64 ((u1 : Nat) : Int)) (fun X => nb_mulw hu1 X) trivial rfl rfl rfl rfl rfl rfl ?_
    refine Pl.qA_b (v := .int .u64 ((u2 : Nat) : Int)) (fun X => nb_subw hu1l hu2 X) trivial rfl rfl rfl rfl rfl rfl ?_
    refine Pl.qA_b (v := .int .u64 ((v' : Nat) : Int)) (fun X => nb_mulw hv' X) trivial rfl rfl rfl rfl rfl rfl ?_
    refine Pl.qA_go trivial rfl ?_
    refine Pl.pA_end ?_
    refine Pl.V_endblock ?_
    repeat refine Pl.V_seq ?_
    refine Pl.V_region (by kernel_rfl) ?_
    refine Pl.qA_b (v := .int .i64 (((i + 1) : Nat) : Int)) (fun X => nb_add_i64 (a := i) (b := 1) (by omega) X) trivial rfl rfl rfl rfl rfl rfl ?_
    refine Pl.qA_go trivial rfl ?_
    refine Pl.pA_end ?_
    repeat refine Pl.V_seq ?_
    refine Pl.V_again (k' := (6 - (i + 1))) [(1, .int .u64 ((p : Nat) : Int)), (5, .int .u64 ((n0 : Nat) : Int)), (7, .int .u64 ((v' : Nat) : Int)), (20, .int .i64 (((i + 1) : Nat) : Int))] (Pl.subl_cons rfl (Pl.subl_cons rfl (Pl.subl_cons rfl (Pl.subl_cons rfl Pl.subl_nil)))) (by omega) ⟨(i + 1), v', rfl, hE3, (by omega), (by omega), hin, rfl⟩
  · refine Pl.qA_b (v := .bool false) (fun X => Pl.r_lss (decide_eq_false (by omega)) X) trivial rfl rfl rfl rfl rfl rfl ?_
    refine Pl.pA_end ?_
    repeat refine Pl.V_seq ?_
    refine Pl.V_false rfl ?_
    repeat refine Pl.V_seq ?_
    refine Pl.V_exit ?_
    obtain rfl : i = 6 := by omega
    repeat refine Pl.V_seq ?_
    refine Pl.V_region (by kernel_rfl) ?_
    refine Pl.qA_go trivial rfl ?_
    refine Pl.pA_end ?_
    repeat refine Pl.V_seq ?_
    refine Pl.V_block ?_
    repeat refine Pl.V_seq ?_
    refine Pl.V_sub [(5, .int .u64 ((n0 : Nat) : Int)), (7, .int .u64 ((v : Nat) : Int)), (8, .int .u64 1)] (Pl.subl_cons rfl (Pl.subl_cons rfl (Pl.subl_cons rfl Pl.subl_nil))) ?_
    repeat refine Pl.V_seq ?_
    refine Pl.V_loop (fun kq l' w' => ∃ (n : Nat) (k : Nat) (z : Nat), k = kq ∧ Pl.Ex w3 w' ∧ (n < 18446744073709551616) ∧ (z < 18446744073709551616) ∧ (k < 18446744073709551616) ∧ (z * n ^ k % 18446744073709551616 = n0 ^ v % 18446744073709551616) ∧ l' = [(5, .int .u64 ((n : Nat) : Int)), (7, .int .u64 ((k : Nat) : Int)), (8, .int .u64 ((z : Nat) : Int))]) _ ⟨n0, v, 1, rfl, Pl.Ex.refl _, hn64, (by decide), hv64, (by rw [Nat.one_mul]), rfl⟩ ?_
    rintro kq _ w4 ⟨n, k, z, hk4, hE4, hn, hz, hk64, hzx, rfl⟩
    have sz4 := Pl.Ex.size hE4
    repeat refine Pl.V_seq ?_
    refine Pl.V_region (by kernel_rfl) ?_
    refine Pl.qA_go trivial rfl ?_
    by_cases c2 : k > 0
    · refine Pl.qA_b (v := .bool true) (fun X => Pl.r_gtr (decide_eq_true (by omega)) X) trivial rfl rfl rfl rfl rfl rfl ?_
      refine Pl.pA_end ?_
      repeat refine Pl.V_seq ?_
      refine Pl.V_true rfl ?_
      repeat refine Pl.V_seq ?_
      refine Pl.V_skip ?_
      repeat refine Pl.V_seq ?_
      refine Pl.V_block ?_
      repeat refine Pl.V_seq ?_
      refine Pl.V_region (by kernel_rfl) ?_
      refine Pl.qA_go trivial rfl ?_
      refine Pl.qA_b (v := .int .u64 (((k % 2) : Nat) : Int)) (fun X => nb_and_u64 (by omega) (by decide) (and1n k) X) trivial rfl rfl rfl rfl rfl rfl ?_
      by_cases c3 : (k % 2) = 1
      · refine Pl.qA_b (v := .bool true) (fun X => Pl.r_eql (Pl.e_t (by omega)) X) trivial rfl rfl rfl rfl rfl rfl ?_
        refine Pl.pA_end ?_
        repeat refine Pl.V_seq ?_
        refine Pl.V_true rfl ?_
        repeat refine Pl.V_seq ?_
        refine Pl.V_region (by kernel_rfl) ?_
        refine Pl.qA_go trivial rfl ?_
        refine Pl.qA_b (v := .int .u64 (((z * n % 18446744073709551616) : Nat) : Int)) (fun X => nb_mulw rfl X) trivial rfl rfl rfl rfl rfl rfl ?_
        refine Pl.qA_go trivial rfl ?_
        refine Pl.pA_end ?_
        repeat refine Pl.V_seq ?_
        refine Pl.V_region (by kernel_rfl) ?_
        refine Pl.qA_go trivial rfl ?_
        refine Pl.qA_b (v := .int .u64 (((n * n % 18446744073709551616) : Nat) : Int)) (fun X => nb_mulw rfl X) trivial rfl rfl rfl rfl rfl rfl ?_
        refine Pl.qA_go trivial rfl ?_
        refine Pl.pA_end ?_
        refine Pl.V_endblock ?_
        repeat refine Pl.V_seq ?_
        refine Pl.V_region (by kernel_rfl) ?_
        refine Pl.qA_go trivial rfl ?_
        refine Pl.qA_b (v := .int .u64 (((k / 2) : Nat) : Int)) (fun X => nb_shr_u64 (m := 1) (show k / 2 ^ 1 = k / 2 by omega) (by decide) X) trivial rfl rfl rfl rfl rfl rfl ?_
        refine Pl.qA_go trivial rfl ?_
        refine Pl.pA_end ?_
        repeat refine Pl.V_seq ?_
        refine Pl.V_again (k' := (k / 2)) [(5, .int .u64 (((n * n % 18446744073709551616) : Nat) : Int)), (7, .int .u64 (((k / 2) : Nat) : Int)), (8, .int .u64 (((z * n % 18446744073709551616) : Nat) : Int))] (Pl.subl_cons rfl (Pl.subl_cons rfl (Pl.subl_cons rfl Pl.subl_nil))) (by omega) ⟨(n * n % 18446744073709551616), (k / 2), (z * n % 18446744073709551616), rfl, hE4, (Nat.mod_lt _ (by decide)), (Nat.mod_lt _ (by decide)), (by omega), (pw_odd hzx c3), rfl⟩
      · refine Pl.qA_b (v := .bool false) (fun X => Pl.r_eql (Pl.e_f (by omega)) X) trivial rfl rfl rfl rfl rfl rfl ?_
        refine Pl.pA_end ?_
        repeat refine Pl.V_seq ?_
        refine Pl.V_false rfl ?_
        repeat refine Pl.V_seq ?_
        refine Pl.V_skip ?_
        repeat refine Pl.V_seq ?_
        refine Pl.V_region (by kernel_rfl) ?_
        refine Pl.qA_go trivial rfl ?_
        refine Pl.qA_b (v := .int .u64 (((n * n % 18446744073709551616) : Nat) : Int)) (fun X => nb_mulw rfl X) trivial rfl rfl rfl rfl rfl rfl ?_
        refine Pl.qA_go trivial rfl ?_
        refine Pl.pA_end ?_
        refine Pl.V_endblock ?_
        repeat refine Pl.V_seq ?_
        refine Pl.V_region (by kernel_rfl) ?_
        refine Pl.qA_go trivial rfl ?_
        refine Pl.qA_b (v := .int .u64 (((k / 2) : Nat) : Int)) (fun X => nb_shr_u64 (m := 1) (show k / 2 ^ 1 = k / 2 by omega) (by decide) X) trivial rfl rfl rfl rfl rfl rfl ?_
        refine Pl.qA_go trivial rfl ?_
        refine Pl.pA_end ?_
        repeat refine Pl.V_seq ?_
        refine Pl.V_again (k' := (k / 2)) [(5, .int .u64 (((n * n % 18446744073709551616) : Nat) : Int)), (7, .int .u64 (((k / 2) : Nat) : Int)), (8, .int .u64 ((z : Nat) : Int))] (Pl.subl_cons rfl (Pl.subl_cons rfl (Pl.subl_cons rfl Pl.subl_nil))) (by omega) ⟨(n * n % 18446744073709551616), (k / 2), z, rfl, hE4, (Nat.mod_lt _ (by decide)), hz, (by omega), (pw_even hzx c3), rfl⟩
    · refine Pl.qA_b (v := .bool false) (fun X => Pl.r_gtr (decide_eq_false (by omega)) X) trivial rfl rfl rfl rfl rfl rfl ?_
      refine Pl.pA_end ?_
      repeat refine Pl.V_seq ?_
      refine Pl.V_false rfl ?_
      repeat refine Pl.V_seq ?_
      refine Pl.V_exit ?_
      repeat refine Pl.V_seq ?_
      refine Pl.V_region (by kernel_rfl) ?_
      obtain rfl : k = 0 := by omega
      rw [Nat.pow_zero, Nat.mul_one, Nat.mod_eq_of_lt hz, ← hn0] at hzx
      refine Pl.qA_go trivial rfl ?_
      refine Pl.pA_end ?_
      repeat refine Pl.V_seq ?_
      exact Pl.post_ret rfl rfl  (⟨z, rfl, hz, fun r hr ho => low_fin hzx.symm hdv (inv_pos hdv) r hr ho, (Pl.Ex.trans hE1 (Pl.Ex.trans hE2 (Pl.Ex.trans hE3 hE4)))⟩)
end Go.Proofs.YtbdmncpibnligaaGreatDoor
