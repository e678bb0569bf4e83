/- Numbers and their lengths, for the statements. -/
import Derived.Test.YtnjkdplhoihkiaaM2
import Derived.Test.YtnjkdplhoihkiaaW1
import Derived.Test.YtnjkdplhoihkiaaC0
namespace Go.Proofs.Ytnjkdplhoihkiaa

theorem len_add {n m a b : Nat} (h1 : (limbs n).length ≤ a) (h2 : (limbs m).length ≤ b) : (limbs (n + m)).length ≤ max a b + 1 := by
  apply len_le_of_lt
  have g1 := Nat.lt_of_lt_of_le (lt_of_len_le h1) (Nat.pow_le_pow_right (show 0 < 4294967296 by decide) (Nat.le_max_left a b))
  have g2 := Nat.lt_of_lt_of_le (lt_of_len_le h2) (Nat.pow_le_pow_right (show 0 < 4294967296 by decide) (Nat.le_max_right a b))
  rw [Nat.pow_succ]
  omega
theorem blen_mono {n m : Nat} (h : n ≤ m) : blen n ≤ blen m := blen_le_of_lt (Nat.lt_of_le_of_lt h (lt_pow_blen m))
theorem le_blen_add (n m : Nat) : max (blen n) (blen m) ≤ blen (n + m) := by
  have h1 := blen_mono (Nat.le_add_right n m)
  have h2 := blen_mono (Nat.le_add_left m n)
  omega
theorem blen_add_le (n m : Nat) : blen (n + m) ≤ 1 + max (blen n) (blen m) := by
  apply blen_le_of_lt
  have h1 := Nat.lt_of_lt_of_le (lt_pow_blen n) (Nat.pow_le_pow_right (show 0 < 2 by decide) (Nat.le_max_left (blen n) (blen m)))
  have h2 := Nat.lt_of_lt_of_le (lt_pow_blen m) (Nat.pow_le_pow_right (show 0 < 2 by decide) (Nat.le_max_right (blen n) (blen m)))
  rw [Nat.add_comm 1, Nat.pow_succ]
  omega
theorem blen_len {n k : Nat} (h : (limbs n).length ≤ k) : blen n ≤ 32 * k := by
  apply blen_le_of_lt
  rw [← pow32]
  exact lt_of_len_le h
theorem rightB_limbs {n : Nat} (h : (limbs n).length ≤ 65536) : rightB (limbs n) = true := by
  unfold rightB
  by_cases h0 : n = 0
  · subst h0; rw [limbs_zero]; rfl
  · have := limbs_last h0
    rw [decide_eq_true h, Bool.true_and, Bool.or_eq_true]
    right
    rw [bne_iff_ne]
    exact this
theorem cmpI_le {x y : Nat} (h : cmpI x y ≤ 0) : x ≤ y := by
  rcases Nat.lt_or_ge y x with h1 | h1
  · rw [cmpI_gt (by omega)] at h; omega
  · exact h1
theorem le_cmpI {x y : Nat} (h : x ≤ y) : cmpI x y ≤ 0 := by
  rcases Nat.lt_or_eq_of_le h with h1 | rfl
  · rw [cmpI_lt (by omega)]; omega
  · rw [cmpI_eq]; omega
theorem cmpI_shl_lt {x y k : Nat} (h : x < y) : cmpI ((x * 2 ^ k : Nat) : Int) ((y * 2 ^ k : Nat) : Int) = -1 := cmpI_lt (Int.ofNat_lt.2 (Nat.mul_lt_mul_of_pos_right h (Nat.two_pow_pos k)))
theorem cmpI_shl_gt {x y k : Nat} (h : y < x) : cmpI ((x * 2 ^ k : Nat) : Int) ((y * 2 ^ k : Nat) : Int) = 1 := cmpI_gt (Int.ofNat_lt.2 (Nat.mul_lt_mul_of_pos_right h (Nat.two_pow_pos k)))
end Go.Proofs.Ytnjkdplhoihkiaa
