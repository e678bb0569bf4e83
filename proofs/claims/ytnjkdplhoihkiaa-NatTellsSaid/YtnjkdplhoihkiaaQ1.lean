/- The document's own Right, limb, Bit, Bits, Low, Cmp. -/
import Derived.Test.YtnjkdplhoihkiaaR2
import Derived.Test.YtnjkdplhoihkiaaA5
import Derived.Test.YtnjkdplhoihkiaaW6
namespace Go.Proofs.Ytnjkdplhoihkiaa
open Go.RowKit
set_option linter.unusedVariables false
set_option maxHeartbeats 400000

theorem rright_calls (w : World) (v : Value) (xs : List Nat) (h : U w v xs) :
    Calls Try.prog 14 #[v] w fun e w' => e = .returned (.bool (rightB xs)) ∧ w = w' := by
  obtain ⟨A, c, rfl, ⟨hc, hm⟩, hx, hr⟩ := h
  by_cases hlen : xs.length ≤ 65536
  · rcases Nat.eq_zero_or_pos xs.length with h0 | h0
    · obtain rfl := List.eq_nil_of_length_eq_zero h0
      go_enter Try.func14, Try.ntmps14
      go_wp2
      go_ret
      exact ⟨rfl, rfl⟩
    · obtain ⟨ad, rfl, hb, hcell⟩ := hr h0
      have hc1 := hcell (xs.length - 1) (by omega)
      have hne : (((xs.length : Nat) : Int) == 0) = false := by rw [beq_eq_false_iff_ne]; omega
      have hres : rightB xs = (lb xs (xs.length - 1) != 0) := by
        unfold rightB
        have : xs.isEmpty = false := by cases xs <;> simp_all
        simp [hlen, this]
      have HR := Lib.hid hres
      clear hres
      go_enter Try.func14, Try.ntmps14
      go_wp2
      go_ret
      exact ⟨by rw [HR.out, ← bne_cast]; rfl, rfl⟩
  · have hres : rightB xs = false := by unfold rightB; simp [hlen]
    have hne : (((xs.length : Nat) : Int) == 0) = false := by rw [beq_eq_false_iff_ne]; omega
    have HR := Lib.hid hres
    clear hres
    go_enter Try.func14, Try.ntmps14
    go_wp2
    go_ret
    exact ⟨by rw [HR.out]; rfl, rfl⟩

theorem limb_calls (w : World) (v : Value) (xs : List Nat) (i : Int) (k : Nat) (hi : i = (k : Int)) (h : U w v xs) :
    Calls Try.prog 38 #[v, .int .i64 i] w fun e w' => e = .returned (.int .u64 (lb xs k : Nat)) ∧ w = w' := by
  subst hi
  obtain ⟨A, c, rfl, ⟨hc, hm⟩, hx, hr⟩ := h
  have hkn : decide (((k : Nat) : Int) < 0) = false := by rw [decide_eq_false_iff_not]; omega
  by_cases h1 : k < xs.length
  · obtain ⟨ad, rfl, hb, hcell⟩ := hr (by omega)
    have hc1 := hcell k h1
    have hL := lb_lt hx k
    have hw : IntKind.u64.wrap ((lb xs k : Nat) : Int) = ((lb xs k : Nat) : Int) := by rw [IntKind.wrap_u64]; omega
    go_enter Try.func38, Try.ntmps38
    go_wp2
    go_ret
    exact ⟨by first | rfl | rw [hw], rfl⟩
  · have HF : Hid (lb xs k = 0) := lb_out (by omega)
    have hd : decide ((xs.length : Int) ≤ (k : Int)) = true := by rw [decide_eq_true_iff]; omega
    go_enter Try.func38, Try.ntmps38
    go_wp2
    go_ret
    exact ⟨by rw [HF.out]; rfl, rfl⟩

theorem rbit_calls (w : World) (v : Value) (n : Nat) (i : Int) (hi0 : -9000000000000 ≤ i) (hi1 : i ≤ 9000000000000) (h : Un w v n) :
    Calls Try.prog 29 #[v, .int .i64 i] w fun e w' => e = .returned (.int .u32 (bitN n i : Nat)) ∧ w = w' := by
  obtain ⟨A, c, rfl, ⟨hc, hm⟩, hx, hr⟩ := h
  by_cases h0 : i < 0
  · have HF : Hid (bitN n i = 0) := if_pos h0
    go_enter Try.func29, Try.ntmps29
    go_wp2
    go_ret
    exact ⟨by rw [HF.out]; rfl, rfl⟩
  · obtain ⟨k, rfl⟩ := Int.eq_ofNat_of_zero_le (show 0 ≤ i by omega)
    have hkn : decide (((k : Nat) : Int) < 0) = false := by rw [decide_eq_false_iff_not]; omega
    have HB : Hid (bitN n (k : Int) = n / 2 ^ k % 2) := by rw [Hid, bitN, if_neg h0, Int.toNat_natCast]
    by_cases h1 : k / 32 < (limbs n).length
    · obtain ⟨ad, rfl, hb, hcell⟩ := hr (by omega)
      have hc1 := hcell (k / 32) h1
      have HL := Lib.hid (lb_lt hx (k / 32))
      have HF : Hid (bitN n (k : Int) = lb (limbs n) (k / 32) / 2 ^ (k % 32) % 2) := by
        rw [Hid, HB.out, bit_limb n k]
      clear HB
      go_enter Try.func29, Try.ntmps29
      go_wp2_with (fail)
      go_loop [5, 6] (fun x j => ∃ m : Nat, m ≤ k % 32 ∧ j = .int .i64 m ∧ x = .int .u32 (lb (limbs n) (k / 32) / 2 ^ m : Nat)) (fun x j => k % 32 - (intOf j).toNat)
      case atStart => exact ⟨0, Nat.zero_le _, rfl, by simp⟩
      case round =>
        obtain ⟨m, hm2, rfl, rfl⟩ := hrel
        have hq : lb (limbs n) (k / 32) / 2 ^ m < 4294967296 := Nat.lt_of_le_of_lt (Nat.div_le_self _ _) HL.out
        by_cases hlt : m < k % 32
        · have HN : Hid (((lb (limbs n) (k / 32) / 2 ^ m : Nat) : Int) / 2 = ((lb (limbs n) (k / 32) / 2 ^ (m + 1) : Nat) : Int)) := by
            rw [Hid, Nat.pow_succ, ← Nat.div_div_eq_div_mul]; omega
          generalize lb (limbs n) (k / 32) / 2 ^ m = X at *
          go_wp2
          go_round
          case rel => exact ⟨m + 1, by omega, by go_num, by rw [HN.out]⟩
          case measure => simp [intOf]; omega
        · obtain rfl : m = k % 32 := by omega
          generalize lb (limbs n) (k / 32) / 2 ^ (k % 32) = X at *
          go_wp2
          go_ret
          exact ⟨by rw [HF.out]; rfl, rfl⟩
    · have HF : Hid (bitN n (k : Int) = 0) := by rw [Hid, HB.out]; exact bit_out n k (by omega)
      go_enter Try.func29, Try.ntmps29
      go_wp2
      go_ret
      exact ⟨by rw [HF.out]; rfl, rfl⟩

theorem blen_halves {t j : Nat} (h0 : t / 2 ^ j = 0) (h1 : 0 < j → t / 2 ^ (j - 1) ≠ 0) : blen t = j := by
  have a : t < 2 ^ j := by
    rcases Nat.lt_or_ge t (2 ^ j) with h | h
    · exact h
    · have := Nat.div_pos h (Nat.two_pow_pos j); omega
  rcases Nat.eq_zero_or_pos j with rfl | hj
  · have : t = 0 := by simpa using a
    subst this; rfl
  · have b : 2 ^ (j - 1) ≤ t := by
      rcases Nat.lt_or_ge t (2 ^ (j - 1)) with h | h
      · exact absurd (Nat.div_eq_of_lt h) (h1 hj)
      · exact h
    have := blen_eq b (by rwa [show j - 1 + 1 = j by omega])
    omega

theorem rbits_calls (w : World) (v : Value) (n : Nat) (h : Un w v n) (hl : (limbs n).length ≤ 1000000000) :
    Calls Try.prog 27 #[v] w fun e w' => e = .returned (.int .i64 (blen n : Nat)) ∧ ∃ m, w' = w.drewN m := by
  obtain ⟨A, c, rfl, ⟨hc, hm⟩, hx, hr⟩ := h
  by_cases h0 : n = 0
  · subst h0
    have hz : limbs 0 = [] := limbs_zero
    rw [hz]
    clear hz hr hx hm hl hc
    have HF : Hid (blen 0 = 0) := rfl
    go_enter Try.func27, Try.ntmps27
    go_wp2
    go_ret
    exact ⟨by rw [HF.out]; rfl, 0, rfl⟩
  · have HF := Lib.hid (blen_limbs n h0)
    have hlen : 0 < (limbs n).length := by rw [limbs_pos h0]; simp
    obtain ⟨ad, rfl, hb, hcell⟩ := hr hlen
    have hc1 := hcell ((limbs n).length - 1) (by omega)
    have hne : (((limbs n).length : Int) == 0) = false := by rw [beq_eq_false_iff_ne]; omega
    have hL := lb_lt hx ((limbs n).length - 1)
    have HL := Lib.hid hL
    clear hL
    go_enter Try.func27, Try.ntmps27
    go_wp2_with (fail)
    go_region
    go_wp2_with (fail)
    clear hc1 hcell hr
    generalize ht : lb (limbs n) ((limbs n).length - 1) = T at *
    clear ht
    go_loop [3, 4] (fun m x => ∃ j : Nat, j ≤ 32 ∧ m = .int .i64 j ∧ x = .int .u32 (T / 2 ^ j : Nat) ∧ Hid (0 < j → T / 2 ^ (j - 1) ≠ 0)) (fun m x => 33 - (intOf m).toNat)
    case atStart => exact ⟨0, Nat.zero_le _, rfl, by simp, fun h => absurd h (by omega)⟩
    case round =>
      obtain ⟨j, hj, rfl, rfl, HZ⟩ := hrel
      have hq : T / 2 ^ j < 4294967296 := Nat.lt_of_le_of_lt (Nat.div_le_self _ _) HL.out
      have HN : Hid (((T / 2 ^ j : Nat) : Int) / 2 = ((T / 2 ^ (j + 1) : Nat) : Int)) := by
        rw [Hid, Nat.pow_succ, ← Nat.div_div_eq_div_mul]; omega
      rcases Nat.eq_zero_or_pos (T / 2 ^ j) with h0 | h0
      · have HT : Hid (blen T = j) := blen_halves h0 HZ.out
        rw [h0]
        clear h0 hq HN
        go_wp2
        go_ret
        exact ⟨by rw [HF.out, HT.out]; exact ret_int (by omega), 1, rfl⟩
      · have HP : Hid (T / 2 ^ j ≠ 0) := by rw [Hid]; omega
        have HJ : Hid (j < 32) := by
          rw [Hid]
          rcases Nat.lt_or_ge j 32 with h | h
          · exact h
          · have := Nat.pow_le_pow_right (n := 2) (by decide) h
            have h2 := HL.out
            exact absurd (Nat.div_eq_of_lt (Nat.lt_of_lt_of_le (by simpa using h2) this)) HP.out
        have HP' : Hid (T / 2 ^ j ≠ 0) := HP
        obtain ⟨X, hX⟩ : ∃ X, T / 2 ^ j = X := ⟨_, rfl⟩
        rw [hX] at HN HP hq h0
        rw [hX]
        clear hX
        go_wp2
        go_round
        case rel => exact ⟨j + 1, by have := HJ.out; omega, by go_num, by rw [HN.out], fun _ => by rw [Nat.add_sub_cancel]; exact HP'.out⟩
        case measure => have := HJ.out; simp [intOf]; omega
end Go.Proofs.Ytnjkdplhoihkiaa
