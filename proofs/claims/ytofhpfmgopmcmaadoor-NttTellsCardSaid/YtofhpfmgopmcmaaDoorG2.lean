/- Sizes, primes, roots. -/
import Derived.Test.YtofhpfmgopmcmaaDoorG1
import Derived.Test.YtofhpfmgopmcmaaDoorT2
namespace Go.Proofs.YtofhpfmgopmcmaaDoor
open Go.RowKit
set_option linter.unusedVariables false
set_option maxHeartbeats 400000

theorem blen_pow (k : Nat) : blen (2 ^ k) = k + 1 := blen_eq (Nat.le_refl _) (by rw [Nat.pow_succ]; have := Nat.two_pow_pos k; omega)
theorem size_yes (w : World) (n k : Nat) (hn : n = 2 ^ k) (hk : k ≤ 16) :
    Calls Tryd.prog 37 #[.int .i64 (n : Nat)] w fun e w' => e = .returned (.tuple #[.int .i64 (k : Nat), .bool true]) ∧ w = w' := by
  have hb := blen_pow k
  rw [← hn] at hb
  have hn1 : n ≤ 65536 := by rw [hn]; exact Nat.pow_le_pow_right (by decide) hk
  have hn0 : 0 < n := by rw [hn]; exact Nat.two_pow_pos k
  have hki : ((blen n : Nat) : Int) - 1 = (k : Int) := by omega
  have hk16 : decide ((k : Int) ≤ 16) = true := by rw [decide_eq_true_iff]; omega
  have hsh : (2 : Int) ^ k = (n : Int) := by rw [hn, Int.natCast_pow]; rfl
  have HN := Lib.hid hn
  clear hn hb
  go_enter Tryd.func37, Tryd.ntmps37
  go_wp2_with (fail)
  have hw : IntKind.u64.wrap (n : Int) = (n : Int) := by rw [IntKind.wrap_u64]; omega
  refine (len_calls _ n (by omega)).mono ?_
  rintro e w' ⟨rfl, rfl⟩
  go_wp2_with (fail)
  go_ret2
  exact ⟨rfl, rfl⟩
theorem size_no (w : World) (n : Nat) (hn1 : n < 4294967296) (hn : ∀ k, k ≤ 16 → n ≠ 2 ^ k) :
    Calls Tryd.prog 37 #[.int .i64 (n : Nat)] w fun e w' => e = .returned (.tuple #[.int .i64 ((blen n : Int) - 1), .bool false]) ∧ w = w' := by
  have hw : IntKind.u64.wrap (n : Int) = (n : Int) := by rw [IntKind.wrap_u64]; omega
  rcases Nat.eq_zero_or_pos n with rfl | h0
  · have hz : blen 0 = 0 := rfl
    have HZ := Lib.hid hz
    clear hn
    go_enter Tryd.func37, Tryd.ntmps37
    go_wp2_with (fail)
    refine (len_calls _ 0 (by decide)).mono ?_
    rintro e w' ⟨rfl, rfl⟩
    rw [HZ.out]
    go_wp2_with (fail)
    go_ret2
    exact ⟨rfl, rfl⟩
  · obtain ⟨m, hm⟩ : ∃ m, blen n = m + 1 := ⟨blen n - 1, by have := blen_pos (n := n) (by omega); omega⟩
    have hm32 : m < 32 := by have := blen_le_of_lt (n := n) (k := 32) (by simpa using hn1); omega
    have hki : ((blen n : Nat) : Int) - 1 = (m : Int) := by omega
    obtain ⟨q, hq⟩ : ∃ q, 2 ^ m = q := ⟨_, rfl⟩
    have hq32 : q ≤ 2147483648 := by rw [← hq]; exact Nat.pow_le_pow_right (n := 2) (by decide) (show m ≤ 31 by omega)
    have hsh : (2 : Int) ^ m = (q : Int) := by rw [← hq, Int.natCast_pow]; rfl
    by_cases e : n = q
    · have hm16 : decide ((m : Int) ≤ 16) = false := by
        rw [decide_eq_false_iff_not]
        intro h
        exact hn m (by omega) (by rw [e, hq])
      have he : ((n : Int) == (q : Int)) = true := by rw [beq_iff_eq, e]
      have HQ := Lib.hid hq
      clear hn hm hq e
      go_enter Tryd.func37, Tryd.ntmps37
      go_wp2_with (fail)
      refine (len_calls _ n (by omega)).mono ?_
      rintro e w' ⟨rfl, rfl⟩
      go_wp2_with (fail)
      go_ret2
      exact ⟨by rw [hki]; rfl, rfl⟩
    · have he : ((n : Int) == (q : Int)) = false := by rw [beq_eq_false_iff_ne]; omega
      have HQ := Lib.hid hq
      clear hn hm hq e
      go_enter Tryd.func37, Tryd.ntmps37
      go_wp2_with (fail)
      refine (len_calls _ n (by omega)).mono ?_
      rintro e w' ⟨rfl, rfl⟩
      go_wp2_with (fail)
      go_ret2
      exact ⟨by rw [hki]; rfl, rfl⟩
end Go.Proofs.YtofhpfmgopmcmaaDoor
