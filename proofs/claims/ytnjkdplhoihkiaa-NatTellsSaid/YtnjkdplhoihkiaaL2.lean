/- Shifts and bits of numbers, for the statements. -/
import Derived.Test.YtnjkdplhoihkiaaL
import Derived.Laws.Bits64
namespace Go.Proofs.Ytnjkdplhoihkiaa

theorem len_shl_c (n a k c : Nat) (h : (limbs n).length ≤ a) (hk : k ≤ 32 * c) : (limbs (n * 2 ^ k)).length ≤ a + c := by
  apply len_le_of_lt
  have h1 := lt_of_len_le h
  have h2 : 2 ^ k ≤ 4294967296 ^ c := by rw [pow32]; exact Nat.pow_le_pow_right (by decide) hk
  rw [Nat.pow_add]
  exact Nat.lt_of_lt_of_le (Nat.mul_lt_mul_of_pos_right h1 (Nat.two_pow_pos k)) (Nat.mul_le_mul_left _ h2)
theorem len_shl (n a k : Nat) (h : (limbs n).length ≤ a) (hk : k ≤ 3200) : (limbs (n * 2 ^ k)).length ≤ a + 100 := len_shl_c n a k 100 h hk
theorem bitN_nat (n i : Nat) : bitN n (i : Int) = n / 2 ^ i % 2 := by
  unfold bitN
  rw [if_neg (by omega), Int.toNat_natCast]
theorem cut_blen (n N : Nat) : blen (n - n / 2 ^ N * 2 ^ N) ≤ N := by
  apply blen_le_of_lt
  have := Nat.mod_lt n (Nat.two_pow_pos N)
  have e := Nat.div_add_mod n (2 ^ N)
  rw [Nat.mul_comm] at e
  omega
theorem cut_bit (n N I : Nat) : bitN (n / 2 ^ N) (I : Int) = bitN n ((N : Int) + (I : Int)) := by
  have e : ((N : Int) + (I : Int)) = ((N + I : Nat) : Int) := by omega
  rw [e, bitN_nat, bitN_nat, Nat.div_div_eq_div_mul, ← Nat.pow_add]
theorem shl_bit (n N I : Nat) : bitN (n * 2 ^ N) ((N : Int) + (I : Int)) = bitN n (I : Int) := by
  have e : ((N : Int) + (I : Int)) = ((N + I : Nat) : Int) := by omega
  rw [e, bitN_nat, bitN_nat, Nat.pow_add, ← Nat.div_div_eq_div_mul, Nat.mul_div_cancel _ (Nat.two_pow_pos N)]
theorem cut_len (n N : Nat) : ((blen (n / 2 ^ N) : Nat) : Int) = max 0 (((blen n : Nat) : Int) - (N : Int)) := by
  by_cases h : n / 2 ^ N = 0
  · have h1 : n < 2 ^ N := by
      rcases Nat.lt_or_ge n (2 ^ N) with g | g
      · exact g
      · have := Nat.div_pos g (Nat.two_pow_pos N); omega
    have := blen_le_of_lt h1
    rw [h, blen_zero]; omega
  · have := blen_shift n N h
    omega
theorem back_bit (r N : Nat) (h : 0 < N) : bitN (r * 2 ^ N) ((N : Int) - 1) = 0 := by
  have e : ((N : Int) - 1) = ((N - 1 : Nat) : Int) := by omega
  rw [e, bitN_nat]
  have e2 : r * 2 ^ N = r * 2 * 2 ^ (N - 1) := by
    conv => lhs; rw [show N = (N - 1) + 1 by omega, Nat.pow_succ]
    rw [Nat.mul_assoc, Nat.mul_comm 2, Nat.mul_comm (2 ^ (N - 1)) 2, Nat.mul_comm 2]
  rw [e2, Nat.mul_div_cancel _ (Nat.two_pow_pos _), Nat.mul_mod_left]
/-- All bits of a power of 2 less 1 are 1. -/
theorem ones_bit (N I : Nat) (h : I < N) : bitN (2 ^ N - 1) (I : Int) = 1 := by
  rw [bitN_nat]
  have h1 : (2 ^ N - 1).testBit I = true := by rw [Nat.testBit_two_pow_sub_one]; exact decide_eq_true h
  rw [Nat.testBit_eq_decide_div_mod_eq] at h1
  exact of_decide_eq_true h1
theorem pow_bit (N I : Nat) (h : I < N) : bitN (2 ^ N) (I : Int) = 0 := by
  rw [bitN_nat, Nat.pow_div (by omega) (by decide)]
  obtain ⟨k, hk⟩ : ∃ k, N - I = k + 1 := ⟨N - I - 1, by omega⟩
  rw [hk, Nat.pow_succ, Nat.mul_mod_left]
theorem pow_bit_top (N : Nat) : bitN (2 ^ N) (N : Int) = 1 := by
  rw [bitN_nat, Nat.div_self (Nat.two_pow_pos N)]
theorem blen_pow (N : Nat) : blen (2 ^ N) = N + 1 := blen_eq (Nat.le_refl _) (Nat.pow_lt_pow_right (by decide) (by omega))
theorem blen_ones (N : Nat) : blen (2 ^ N - 1) = N := by
  cases N with
  | zero => rfl
  | succ N =>
    have h := Nat.two_pow_pos N
    refine blen_eq ?_ ?_
    · rw [Nat.pow_succ]; omega
    · have := Nat.two_pow_pos (N + 1); omega
theorem wrap_fit (x : Nat) (h : x < 18446744073709551616) : IntKind.u64.wrap ((x : Nat) : Int) = ((x : Nat) : Int) := by rw [IntKind.wrap_u64]; omega
theorem wrap_over (n m : Nat) (hn : n < 18446744073709551616) (hm : m < 18446744073709551616) (h : 18446744073709551616 ≤ n + m) : IntKind.u64.wrap ((n : Int) + (m : Int)) < (n : Int) := by rw [IntKind.wrap_u64]; omega
theorem cast_mul_pow (n k : Nat) : ((n : Int) * 2 ^ k) = ((n * 2 ^ k : Nat) : Int) := by rw [Int.natCast_mul, Int.natCast_pow]; rfl
theorem shl_back_fit (n k : Nat) (h : n * 2 ^ k < 18446744073709551616) : IntKind.u64.wrap ((n : Int) * 2 ^ k) / 2 ^ k = (n : Int) := by
  rw [cast_mul_pow, wrap_fit _ h, show ((2 : Int) ^ k) = ((2 ^ k : Nat) : Int) by rw [Int.natCast_pow]; rfl, ← Int.natCast_ediv, Nat.mul_div_cancel _ (Nat.two_pow_pos k)]
theorem shl_back_over (n k : Nat) (h : 18446744073709551616 ≤ n * 2 ^ k) : IntKind.u64.wrap ((n : Int) * 2 ^ k) / 2 ^ k ≠ (n : Int) := by
  rw [cast_mul_pow, IntKind.wrap_u64, show ((2 : Int) ^ k) = ((2 ^ k : Nat) : Int) by rw [Int.natCast_pow]; rfl, show (((n * 2 ^ k : Nat) : Int) % 18446744073709551616) = ((n * 2 ^ k % 18446744073709551616 : Nat) : Int) by rw [Int.natCast_emod]; rfl, ← Int.natCast_ediv]
  have h1 : n * 2 ^ k % 18446744073709551616 < n * 2 ^ k := Nat.lt_of_lt_of_le (Nat.mod_lt _ (by decide)) h
  have h2 : n * 2 ^ k % 18446744073709551616 / 2 ^ k < n := by
    rw [Nat.div_lt_iff_lt_mul (Nat.two_pow_pos k)]; exact h1
  omega
theorem lowN_lt {n : Nat} (h : n < 18446744073709551616) : lowN n = n := if_pos h
theorem lowN_ge {n : Nat} (h : 18446744073709551616 ≤ n) : lowN n = 0 := if_neg (by omega)
theorem lowB_lt {n : Nat} (h : n < 18446744073709551616) : lowB n = true := decide_eq_true h
theorem lowB_ge {n : Nat} (h : 18446744073709551616 ≤ n) : lowB n = false := decide_eq_false (by omega)
theorem len_64 {n : Nat} (h : n < 18446744073709551616) : (limbs n).length ≤ 2 := len_le_of_lt (by simpa using h)
theorem blen_le_len (n : Nat) : blen n ≤ 32 * (limbs n).length := blen_len (Nat.le_refl _)
theorem blen_zero_iff (n : Nat) : blen n = 0 ↔ (limbs n).length = 0 := by
  by_cases h : n = 0
  · subst h; rw [limbs_zero]; exact ⟨fun _ => rfl, fun _ => rfl⟩
  · have h1 := blen_pos h
    have h2 : 0 < (limbs n).length := by rw [limbs_pos h]; simp
    omega
theorem top_one (n : Nat) (h : 0 < blen n) : bitN n (((blen n : Nat) : Int) - 1) = 1 := by
  have hn : n ≠ 0 := by intro e; subst e; rw [blen_zero] at h; omega
  have e : (((blen n : Nat) : Int) - 1) = ((blen n - 1 : Nat) : Int) := by omega
  rw [e, bitN_nat]
  have h1 := pow_blen_le hn
  have h2 := lt_pow_blen n
  have h3 : n / 2 ^ (blen n - 1) < 2 := by
    rw [Nat.div_lt_iff_lt_mul (Nat.two_pow_pos _), ← Nat.pow_succ', show (blen n - 1).succ = blen n by omega]; exact h2
  have h4 : 0 < n / 2 ^ (blen n - 1) := Nat.div_pos h1 (Nat.two_pow_pos _)
  omega
theorem beyond_zero (n k : Nat) : bitN n (((blen n : Nat) : Int) + (k : Int)) = 0 := by
  have e : (((blen n : Nat) : Int) + (k : Int)) = ((blen n + k : Nat) : Int) := by omega
  rw [e, bitN_nat]
  have h2 := Nat.lt_of_lt_of_le (lt_pow_blen n) (Nat.pow_le_pow_right (show 0 < 2 by decide) (Nat.le_add_right (blen n) k))
  rw [Nat.div_eq_of_lt h2]
theorem next_bit (n k : Nat) : n / 2 ^ k = n / 2 ^ (k + 1) + n / 2 ^ (k + 1) + bitN n (k : Int) := by
  rw [bitN_nat, Nat.pow_succ, ← Nat.div_div_eq_div_mul]
  omega
theorem bitN_le (n : Nat) (i : Int) : bitN n i ≤ 1 := by
  unfold bitN
  split <;> omega
end Go.Proofs.Ytnjkdplhoihkiaa
