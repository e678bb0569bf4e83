/- Numbers and their lengths, for the statements. -/
import Derived.Test.YtnjkdplhoihkiaaM2
import Derived.Test.YtnjkdplhoihkiaaW1
namespace Go.Proofs.Ytnjkdplhoihkiaa

theorem len_add {n m a b : Nat} (h1 : (limbs n).length ≤ a) (h2 : (limbs m).length ≤ b) : (limbs (n + m)).length ≤ max a b + 1 := by
  apply len_le_of_lt
  have g1 := Nat.lt_of_lt_of_le (lt_of_len_le h1) (Nat.pow_le_pow_right (show 0 < 4294967296 by decide) (Nat.le_max_left a b))
  have g2 := Nat.lt_of_lt_of_le (lt_of_len_le h2) (Nat.pow_le_pow_right (show 0 < 4294967296 by decide) (Nat.le_max_right a b))
  rw [Nat.pow_succ]
  omega
theorem blen_mono {n m : Nat} (h : n ≤ m) : blen n ≤ blen m := blen_le_of_lt (Nat.lt_of_le_of_lt h (lt_pow_blen m))
theorem le_blen_add (n m : Nat) : max (blen n) (blen m) ≤ blen (n + m) := by
  have h1 := blen_mono (Nat.le_add_right n m)
  have h2 := blen_mono (Nat.le_add_left m n)
  omega
theorem blen_add_le (n m : Nat) : blen (n + m) ≤ 1 + max (blen n) (blen m) := by
  apply blen_le_of_lt
  have h1 := Nat.lt_of_lt_of_le (lt_pow_blen n) (Nat.pow_le_pow_right (show 0 < 2 by decide) (Nat.le_max_left (blen n) (blen m)))
  have h2 := Nat.lt_of_lt_of_le (lt_pow_blen m) (Nat.pow_le_pow_right (show 0 < 2 by decide) (Nat.le_max_right (blen n) (blen m)))
  rw [Nat.add_comm 1, Nat.pow_succ]
  omega
theorem blen_len {n k : Nat} (h : (limbs n).length ≤ k) : blen n ≤ 32 * k := by
  apply blen_le_of_lt
  rw [← pow32]
  exact lt_of_len_le h
theorem rightB_limbs {n : Nat} (h : (limbs n).length ≤ 65536) : rightB (limbs n) = true := by
  unfold rightB
  by_cases h0 : n = 0
  · subst h0; rw [limbs_zero]; rfl
  · have := limbs_last h0
    rw [decide_eq_true h, Bool.true_and, Bool.or_eq_true]
    right
    rw [bne_iff_ne]
    exact this
end Go.Proofs.Ytnjkdplhoihkiaa
