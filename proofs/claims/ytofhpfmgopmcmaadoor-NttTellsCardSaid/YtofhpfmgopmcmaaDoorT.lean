/- Lengths in bits. -/
import Derived.Test.YtofhpfmgopmcmaaDoorK
namespace Go.Proofs.YtofhpfmgopmcmaaDoor
open Go.RowKit
set_option linter.unusedVariables false
set_option maxHeartbeats 400000

/-- The least k of which 2^k is above n. -/
def blen (n : Nat) : Nat := if n = 0 then 0 else n.log2 + 1
theorem blen_zero : blen 0 = 0 := rfl
theorem lt_pow_blen (n : Nat) : n < 2 ^ blen n := by
  unfold blen
  split
  · subst_vars; decide
  · exact Nat.lt_log2_self
theorem pow_blen_le {n : Nat} (h : n ≠ 0) : 2 ^ (blen n - 1) ≤ n := by
  unfold blen
  rw [if_neg h, Nat.add_sub_cancel]
  exact Nat.log2_self_le h
theorem blen_pos {n : Nat} (h : n ≠ 0) : 0 < blen n := by unfold blen; rw [if_neg h]; omega
theorem blen_le_of_lt {n k : Nat} (h : n < 2 ^ k) : blen n ≤ k := by
  by_cases h0 : n = 0
  · subst h0; exact Nat.zero_le _
  · have h1 := Nat.lt_of_le_of_lt (pow_blen_le h0) h
    have := (Nat.pow_lt_pow_iff_right (by decide : 1 < 2)).1 h1
    omega
theorem lt_blen_of_le {n k : Nat} (h : 2 ^ k ≤ n) : k < blen n := by
  have h1 := Nat.lt_of_le_of_lt h (lt_pow_blen n)
  exact (Nat.pow_lt_pow_iff_right (by decide : 1 < 2)).1 h1
theorem blen_eq {n k : Nat} (h1 : 2 ^ k ≤ n) (h2 : n < 2 ^ (k + 1)) : blen n = k + 1 := by
  have := lt_blen_of_le h1
  have := blen_le_of_lt h2
  omega
/-- A number's length is that of what lies from bit k on, and k, if anything lies there. -/
theorem blen_shift (n k : Nat) (h : n / 2 ^ k ≠ 0) : blen n = k + blen (n / 2 ^ k) := by
  have hp := blen_pos h
  have h1 := pow_blen_le h
  have h2 := lt_pow_blen (n / 2 ^ k)
  have hk : 0 < 2 ^ k := Nat.two_pow_pos k
  have g1 : 2 ^ (k + blen (n / 2 ^ k) - 1) ≤ n := by
    have : k + blen (n / 2 ^ k) - 1 = (blen (n / 2 ^ k) - 1) + k := by omega
    rw [this, Nat.pow_add]
    exact Nat.le_trans (Nat.mul_le_mul_right _ h1) (Nat.div_mul_le_self n (2 ^ k))
  have g2 : n < 2 ^ (k + blen (n / 2 ^ k)) := by
    rw [Nat.pow_add]
    exact Nat.lt_mul_of_div_lt h2 hk |> fun h => by rwa [Nat.mul_comm] at h
  have a := blen_le_of_lt g2
  have b := lt_blen_of_le g1
  omega

def tab8 : ByteArray := ⟨((List.range 256).map fun n => UInt8.ofNat (blen n)).toArray⟩
theorem tab8_size : tab8.size = 256 := by decide +kernel
theorem tab8_fin : ∀ p : Fin 256, (tab8[p.val]'(by rw [tab8_size]; exact p.isLt)).toNat = blen p.val := by decide +kernel
theorem tab8_eq : (⟨(([0, 1, 2, 2, 3, 3, 3, 3, 4, 4, 4, 4, 4, 4, 4, 4, 5, 5, 5, 5, 5, 5, 5, 5, 5, 5, 5, 5, 5, 5, 5, 5, 6, 6, 6, 6, 6, 6, 6, 6, 6, 6, 6, 6, 6, 6, 6, 6, 6, 6, 6, 6, 6, 6, 6, 6, 6, 6, 6, 6, 6, 6, 6, 6].append [7, 7, 7, 7, 7, 7, 7, 7, 7, 7, 7, 7, 7, 7, 7, 7, 7, 7, 7, 7, 7, 7, 7, 7, 7, 7, 7, 7, 7, 7, 7, 7, 7, 7, 7, 7, 7, 7, 7, 7, 7, 7, 7, 7, 7, 7, 7, 7, 7, 7, 7, 7, 7, 7, 7, 7, 7, 7, 7, 7, 7, 7, 7, 7]).append ([8, 8, 8, 8, 8, 8, 8, 8, 8, 8, 8, 8, 8, 8, 8, 8, 8, 8, 8, 8, 8, 8, 8, 8, 8, 8, 8, 8, 8, 8, 8, 8, 8, 8, 8, 8, 8, 8, 8, 8, 8, 8, 8, 8, 8, 8, 8, 8, 8, 8, 8, 8, 8, 8, 8, 8, 8, 8, 8, 8, 8, 8, 8, 8].append [8, 8, 8, 8, 8, 8, 8, 8, 8, 8, 8, 8, 8, 8, 8, 8, 8, 8, 8, 8, 8, 8, 8, 8, 8, 8, 8, 8, 8, 8, 8, 8, 8, 8, 8, 8, 8, 8, 8, 8, 8, 8, 8, 8, 8, 8, 8, 8, 8, 8, 8, 8, 8, 8, 8, 8, 8, 8, 8, 8, 8, 8, 8, 8])).toArray⟩ : ByteArray) = tab8 := by decide +kernel
theorem idx_tab8 {P : Program} (t : TypeId) (ht : P.underlying t = some .string) (k : IntKind) (i : Nat) (hi : i < 256) (w : World) :
    (Instr.index t (.string tab8) (.int k (i : Int))).run P w = .ok (.int .u8 (blen i : Nat)) w := by
  rw [run_index_string w t tab8 k _ ht, dif_pos ⟨by omega, by rw [tab8_size]; omega⟩]
  have e : ((i : Int)).toNat = i := by omega
  simp only [e]
  rw [tab8_fin ⟨i, hi⟩]

theorem len32_a (w : World) (x : Nat) (h : x < 256) :
    Calls Tryd.prog 48 #[.int .u32 x] w fun e w' => e = .returned (.int .i64 (blen x : Nat)) ∧ w = w' := by
  have h65 : decide ((65536 : Int) ≤ (x : Nat)) = false := by rw [decide_eq_false_iff_not]; omega
  have h256 : decide ((256 : Int) ≤ (x : Nat)) = false := by rw [decide_eq_false_iff_not]; omega
  have HF : Hid (blen x = blen (x % 256)) := by rw [Hid, Nat.mod_eq_of_lt h]
  have hI := fun w => idx_tab8 (P := Tryd.prog) 9 Tryd.underlying9 .u8 (x % 256) (by omega) w
  have hB := blen_le_of_lt (n := x % 256) (k := 8) (by omega)
  have hv : ((x % 256 : Nat) : Int) = (x : Int) % 256 := by omega
  rw [hv] at hI
  clear hv
  generalize blen (x % 256) = b at *
  go_enter Tryd.func48, Tryd.ntmps48
  generalize hT : (ByteArray.mk _ : ByteArray) = T
  have hT2 : T = tab8 := by rw [← hT]; exact tab8_eq
  rw [← hT2] at hI
  clear hT hT2 h
  go_wp2
  go_ret
  exact ⟨by rw [HF.out]; first | rfl | exact ret_int (by omega), rfl⟩

theorem len32_b (w : World) (x : Nat) (h : 256 ≤ x) (h2 : x < 65536) :
    Calls Tryd.prog 48 #[.int .u32 x] w fun e w' => e = .returned (.int .i64 (blen x : Nat)) ∧ w = w' := by
  have h65 : decide ((65536 : Int) ≤ (x : Nat)) = false := by rw [decide_eq_false_iff_not]; omega
  have h256 : decide ((256 : Int) ≤ (x : Nat)) = true := by rw [decide_eq_true_iff]; omega
  have HF : Hid (blen x = 8 + blen (x / 256 % 256)) := by
    rw [Hid, Nat.mod_eq_of_lt (by omega)]; exact blen_shift x 8 (by simp only [Nat.reducePow]; omega)
  have hI := fun w => idx_tab8 (P := Tryd.prog) 9 Tryd.underlying9 .u8 (x / 256 % 256) (by omega) w
  have hB := blen_le_of_lt (n := x / 256 % 256) (k := 8) (by omega)
  have hv : ((x / 256 % 256 : Nat) : Int) = (x : Int) / 256 % 256 := by omega
  rw [hv] at hI
  clear hv
  generalize blen (x / 256 % 256) = b at *
  go_enter Tryd.func48, Tryd.ntmps48
  generalize hT : (ByteArray.mk _ : ByteArray) = T
  have hT2 : T = tab8 := by rw [← hT]; exact tab8_eq
  rw [← hT2] at hI
  clear hT hT2 h h2
  go_wp2
  go_ret
  exact ⟨by rw [HF.out]; first | rfl | exact ret_int (by omega), rfl⟩

theorem len32_c (w : World) (x : Nat) (h : 65536 ≤ x) (h2 : x < 16777216) :
    Calls Tryd.prog 48 #[.int .u32 x] w fun e w' => e = .returned (.int .i64 (blen x : Nat)) ∧ w = w' := by
  have h65 : decide ((65536 : Int) ≤ (x : Nat)) = true := by rw [decide_eq_true_iff]; omega
  have h256 : decide ((256 : Int) ≤ (x : Nat) / 65536) = false := by rw [decide_eq_false_iff_not]; omega
  have HF : Hid (blen x = 16 + blen (x / 65536 % 256)) := by
    rw [Hid, Nat.mod_eq_of_lt (by omega)]; exact blen_shift x 16 (by simp only [Nat.reducePow]; omega)
  have hI := fun w => idx_tab8 (P := Tryd.prog) 9 Tryd.underlying9 .u8 (x / 65536 % 256) (by omega) w
  have hB := blen_le_of_lt (n := x / 65536 % 256) (k := 8) (by omega)
  have hv : ((x / 65536 % 256 : Nat) : Int) = (x : Int) / 65536 % 256 := by omega
  rw [hv] at hI
  clear hv
  generalize blen (x / 65536 % 256) = b at *
  go_enter Tryd.func48, Tryd.ntmps48
  generalize hT : (ByteArray.mk _ : ByteArray) = T
  have hT2 : T = tab8 := by rw [← hT]; exact tab8_eq
  rw [← hT2] at hI
  clear hT hT2 h h2
  go_wp2
  go_ret
  exact ⟨by rw [HF.out]; first | rfl | exact ret_int (by omega), rfl⟩

theorem len32_d (w : World) (x : Nat) (h : 16777216 ≤ x) (h2 : x < 4294967296) :
    Calls Tryd.prog 48 #[.int .u32 x] w fun e w' => e = .returned (.int .i64 (blen x : Nat)) ∧ w = w' := by
  have h65 : decide ((65536 : Int) ≤ (x : Nat)) = true := by rw [decide_eq_true_iff]; omega
  have h256 : decide ((256 : Int) ≤ (x : Nat) / 65536) = true := by rw [decide_eq_true_iff]; omega
  have HF : Hid (blen x = 24 + blen (x / 65536 / 256 % 256)) := by
    rw [Hid, Nat.div_div_eq_div_mul, Nat.mod_eq_of_lt (by omega)]; exact blen_shift x 24 (by simp only [Nat.reducePow]; omega)
  have hI := fun w => idx_tab8 (P := Tryd.prog) 9 Tryd.underlying9 .u8 (x / 65536 / 256 % 256) (by omega) w
  have hB := blen_le_of_lt (n := x / 65536 / 256 % 256) (k := 8) (by omega)
  have hv : ((x / 65536 / 256 % 256 : Nat) : Int) = (x : Int) / 65536 / 256 % 256 := by omega
  rw [hv] at hI
  clear hv
  generalize blen (x / 65536 / 256 % 256) = b at *
  go_enter Tryd.func48, Tryd.ntmps48
  generalize hT : (ByteArray.mk _ : ByteArray) = T
  have hT2 : T = tab8 := by rw [← hT]; exact tab8_eq
  rw [← hT2] at hI
  clear hT hT2 h h2
  go_wp2
  go_ret
  exact ⟨by rw [HF.out]; first | rfl | exact ret_int (by omega), rfl⟩

theorem len32_calls (w : World) (x : Nat) (h : x < 4294967296) :
    Calls Tryd.prog 48 #[.int .u32 x] w fun e w' => e = .returned (.int .i64 (blen x : Nat)) ∧ w = w' := by
  rcases Nat.lt_or_ge x 256 with h1 | h1
  · exact len32_a w x h1
  · rcases Nat.lt_or_ge x 65536 with h2 | h2
    · exact len32_b w x h1 h2
    · rcases Nat.lt_or_ge x 16777216 with h3 | h3
      · exact len32_c w x h2 h3
      · exact len32_d w x h3 h
end Go.Proofs.YtofhpfmgopmcmaaDoor
