/- Sums of products with one limb that is 1, and of rows of greatest limbs. -/
import Derived.Test.YtofhpfmgopmcmaaDoorH5
namespace Go.Proofs.YtofhpfmgopmcmaaDoor
open Go.RowKit
set_option linter.unusedVariables false
set_option maxHeartbeats 400000

/-- n - 1 noughts, and 1. -/
def oneL (n : Nat) : List Nat := (List.replicate n 0).set (n - 1) 1
theorem oneL_len (n : Nat) : (oneL n).length = n := by simp [oneL]
theorem lb_oneL (n j : Nat) (h : 0 < n) : lb (oneL n) j = if j = n - 1 then 1 else 0 := by
  unfold oneL
  rw [lb_set _ _ _ _ (by simp; omega), lb_zeros]
  by_cases e : n - 1 = j
  · rw [if_pos e, if_pos e.symm]
  · rw [if_neg e, if_neg (fun h => e h.symm)]
theorem cv_one (a : List Nat) (n i m : Nat) (hn : 0 < n) : cv a (oneL n) i m = if n - 1 ≤ m ∧ m - (n - 1) < i then lb a (m - (n - 1)) else 0 := by
  induction i with
  | zero => rw [cv, if_neg (by omega)]
  | succ i ih =>
    rw [cv, ih]
    by_cases h1 : i ≤ m
    · rw [if_pos h1, lb_oneL n _ hn]
      by_cases h2 : m - i = n - 1
      · rw [if_pos h2, Nat.mul_one, if_neg (by omega), if_pos (by omega), Nat.zero_add, show m - (n - 1) = i by omega]
      · rw [if_neg h2, Nat.mul_zero, Nat.add_zero]
        by_cases h3 : n - 1 ≤ m ∧ m - (n - 1) < i
        · rw [if_pos h3, if_pos (by omega)]
        · rw [if_neg h3, if_neg (by omega)]
    · rw [if_neg h1, Nat.add_zero]
      by_cases h3 : n - 1 ≤ m ∧ m - (n - 1) < i
      · rw [if_pos h3, if_pos (by omega)]
      · rw [if_neg h3]
        by_cases h4 : n - 1 ≤ m ∧ m - (n - 1) < i + 1
        · omega
        · rw [if_neg h4]
def allL (n : Nat) : List Nat := List.replicate n 4294967295
theorem allL_len (n : Nat) : (allL n).length = n := by simp [allL]
theorem lb_allL (n j : Nat) : lb (allL n) j = if j < n then 4294967295 else 0 := by
  unfold lb allL; by_cases h : j < n <;> simp [h]
theorem cv_all (n i m : Nat) (hi : i ≤ n) : cv (allL n) (allL n) i m = (min i (m + 1) - (m + 1 - n)) * 18446744065119617025 := by
  induction i with
  | zero => simp [cv]
  | succ i ih =>
    rw [cv, ih (by omega)]
    by_cases h1 : i ≤ m
    · rw [if_pos h1, lb_allL, lb_allL, if_pos (by omega)]
      by_cases h2 : m - i < n
      · rw [if_pos h2, show (4294967295 * 4294967295 : Nat) = 18446744065119617025 from rfl, Nat.min_eq_left (by omega), Nat.min_eq_left (by omega)]
        rw [show i + 1 - (m + 1 - n) = (i - (m + 1 - n)) + 1 by omega, Nat.add_mul, Nat.one_mul]
      · rw [if_neg h2, Nat.mul_zero, Nat.min_eq_left (by omega), Nat.min_eq_left (by omega), show i + 1 - (m + 1 - n) = 0 by omega, show i - (m + 1 - n) = 0 by omega]
    · rw [if_neg h1, Nat.min_eq_right (by omega), Nat.min_eq_right (by omega), Nat.add_zero]
theorem cv_all_m (n m : Nat) (hm : m < 2 * n - 1) (q : Nat) (hq : min (m + 1) (2 * n - 1 - m) = q) : cv (allL n) (allL n) (allL n).length m = q * 18446744065119617025 := by
  have h : min n (m + 1) - (m + 1 - n) = q := by omega
  have h2 := cv_all n n m (Nat.le_refl _)
  rw [h] at h2
  rw [allL_len]
  exact h2
theorem many_aux (u t q : Nat) (e : u = t * 4294967296 + q) (hq : q < 4294967296) (ht : t < 18446744073709551616) : u % 4294967296 = q ∧ u / 4294967296 % 4294967296 = t % 4294967296 ∧ u / 18446744073709551616 % 4294967296 = t / 4294967296 := ⟨by omega, by omega, by omega⟩
theorem many_limbs (q : Nat) (hq : q < 4294967296) : q * 18446744065119617025 % 4294967296 = q ∧ q * 18446744065119617025 / 4294967296 % 4294967296 = q * 4294967294 % 4294967296 ∧ q * 18446744065119617025 / 18446744073709551616 % 4294967296 = q * 4294967294 / 4294967296 :=
  many_aux _ (q * 4294967294) q (by omega) hq (by omega)

theorem oneL_lt (n : Nat) : ∀ x ∈ oneL n, x < 4294967296 := set_lt (fun y hy => by simp at hy; omega) (by decide)
theorem allL_lt (n : Nat) : ∀ x ∈ allL n, x < 4294967296 := fun y hy => by simp [allL] at hy; omega
/-- All places but the first k are still 0. -/
structure AllI (n k : Nat) (o : List Nat) : Prop where
  len : o.length = n
  at_ : ∀ j, j < k → lb o j = 4294967295
theorem AllI.start (n : Nat) : AllI n 0 (List.replicate n 0) := ⟨by simp, fun j h => by omega⟩
theorem AllI.step {n k : Nat} {o : List Nat} (h : AllI n k o) (hk : k < n) : AllI n (k + 1) (o.set k 4294967295) := by
  refine ⟨by simp [h.len], fun j hj => ?_⟩
  rw [lb_set _ _ _ _ (by rw [h.len]; exact hk)]
  by_cases e : k = j
  · rw [if_pos e]
  · rw [if_neg e]; exact h.at_ j (by omega)
theorem AllI.done {n : Nat} {o : List Nat} (h : AllI n n o) : o = allL n := by
  refine ext_lb (by rw [h.len, allL_len]) fun j hj => ?_
  rw [h.len] at hj
  rw [h.at_ j hj, lb_allL, if_pos hj]
end Go.Proofs.YtofhpfmgopmcmaaDoor
