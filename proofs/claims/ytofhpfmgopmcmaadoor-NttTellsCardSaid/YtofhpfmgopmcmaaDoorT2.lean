/- Lengths in bits, of 64 bits. -/
import Derived.Test.YtofhpfmgopmcmaaDoorT
namespace Go.Proofs.YtofhpfmgopmcmaaDoor
open Go.RowKit
set_option linter.unusedVariables false
set_option maxHeartbeats 400000

theorem len64_a (w : World) (x : Nat) (h : x < 256) :
    Calls Tryd.prog 49 #[.int .u64 x] w fun e w' => e = .returned (.int .i64 (blen x : Nat)) ∧ w = w' := by
  have h65 : decide ((65536 : Int) ≤ (x : Nat)) = false := by rw [decide_eq_false_iff_not]; omega
  have h256 : decide ((256 : Int) ≤ (x : Nat)) = false := by rw [decide_eq_false_iff_not]; omega
  have h32 : decide ((4294967296 : Int) ≤ (x : Nat)) = false := by rw [decide_eq_false_iff_not]; omega
  have HF : Hid (blen x = blen (x % 256)) := by rw [Hid, Nat.mod_eq_of_lt h]
  have hI := fun w => idx_tab8 (P := Tryd.prog) 9 Tryd.underlying9 .u8 (x % 256) (by omega) w
  have hB := blen_le_of_lt (n := x % 256) (k := 8) (by omega)
  have hv : ((x % 256 : Nat) : Int) = (x : Int) % 256 := by omega
  rw [hv] at hI
  clear hv
  generalize blen (x % 256) = b at *
  go_enter Tryd.func49, Tryd.ntmps49
  generalize hT : (ByteArray.mk _ : ByteArray) = T
  have hT2 : T = tab8 := by rw [← hT]; exact tab8_eq
  rw [← hT2] at hI
  clear hT hT2 h
  go_wp2
  go_ret
  exact ⟨by rw [HF.out]; first | rfl | exact ret_int (by omega), rfl⟩

theorem len64_b (w : World) (x : Nat) (h : 256 ≤ x) (h2 : x < 65536) :
    Calls Tryd.prog 49 #[.int .u64 x] w fun e w' => e = .returned (.int .i64 (blen x : Nat)) ∧ w = w' := by
  have h65 : decide ((65536 : Int) ≤ (x : Nat)) = false := by rw [decide_eq_false_iff_not]; omega
  have h256 : decide ((256 : Int) ≤ (x : Nat)) = true := by rw [decide_eq_true_iff]; omega
  have h32 : decide ((4294967296 : Int) ≤ (x : Nat)) = false := by rw [decide_eq_false_iff_not]; omega
  have HF : Hid (blen x = 8 + blen (x / 256 % 256)) := by
    rw [Hid, Nat.mod_eq_of_lt (by omega)]; exact blen_shift x 8 (by simp only [Nat.reducePow]; omega)
  have hI := fun w => idx_tab8 (P := Tryd.prog) 9 Tryd.underlying9 .u8 (x / 256 % 256) (by omega) w
  have hB := blen_le_of_lt (n := x / 256 % 256) (k := 8) (by omega)
  have hv : ((x / 256 % 256 : Nat) : Int) = (x : Int) / 256 % 256 := by omega
  rw [hv] at hI
  clear hv
  generalize blen (x / 256 % 256) = b at *
  go_enter Tryd.func49, Tryd.ntmps49
  generalize hT : (ByteArray.mk _ : ByteArray) = T
  have hT2 : T = tab8 := by rw [← hT]; exact tab8_eq
  rw [← hT2] at hI
  clear hT hT2 h h2
  go_wp2
  go_ret
  exact ⟨by rw [HF.out]; first | rfl | exact ret_int (by omega), rfl⟩

theorem len64_c (w : World) (x : Nat) (h : 65536 ≤ x) (h2 : x < 16777216) :
    Calls Tryd.prog 49 #[.int .u64 x] w fun e w' => e = .returned (.int .i64 (blen x : Nat)) ∧ w = w' := by
  have h65 : decide ((65536 : Int) ≤ (x : Nat)) = true := by rw [decide_eq_true_iff]; omega
  have h256 : decide ((256 : Int) ≤ (x : Nat) / 65536) = false := by rw [decide_eq_false_iff_not]; omega
  have h32 : decide ((4294967296 : Int) ≤ (x : Nat)) = false := by rw [decide_eq_false_iff_not]; omega
  have HF : Hid (blen x = 16 + blen (x / 65536 % 256)) := by
    rw [Hid, Nat.mod_eq_of_lt (by omega)]; exact blen_shift x 16 (by simp only [Nat.reducePow]; omega)
  have hI := fun w => idx_tab8 (P := Tryd.prog) 9 Tryd.underlying9 .u8 (x / 65536 % 256) (by omega) w
  have hB := blen_le_of_lt (n := x / 65536 % 256) (k := 8) (by omega)
  have hv : ((x / 65536 % 256 : Nat) : Int) = (x : Int) / 65536 % 256 := by omega
  rw [hv] at hI
  clear hv
  generalize blen (x / 65536 % 256) = b at *
  go_enter Tryd.func49, Tryd.ntmps49
  generalize hT : (ByteArray.mk _ : ByteArray) = T
  have hT2 : T = tab8 := by rw [← hT]; exact tab8_eq
  rw [← hT2] at hI
  clear hT hT2 h h2
  go_wp2
  go_ret
  exact ⟨by rw [HF.out]; first | rfl | exact ret_int (by omega), rfl⟩

theorem len64_d (w : World) (x : Nat) (h : 16777216 ≤ x) (h2 : x < 4294967296) :
    Calls Tryd.prog 49 #[.int .u64 x] w fun e w' => e = .returned (.int .i64 (blen x : Nat)) ∧ w = w' := by
  have h65 : decide ((65536 : Int) ≤ (x : Nat)) = true := by rw [decide_eq_true_iff]; omega
  have h256 : decide ((256 : Int) ≤ (x : Nat) / 65536) = true := by rw [decide_eq_true_iff]; omega
  have h32 : decide ((4294967296 : Int) ≤ (x : Nat)) = false := by rw [decide_eq_false_iff_not]; omega
  have HF : Hid (blen x = 24 + blen (x / 65536 / 256 % 256)) := by
    rw [Hid, Nat.div_div_eq_div_mul, Nat.mod_eq_of_lt (by omega)]; exact blen_shift x 24 (by simp only [Nat.reducePow]; omega)
  have hI := fun w => idx_tab8 (P := Tryd.prog) 9 Tryd.underlying9 .u8 (x / 65536 / 256 % 256) (by omega) w
  have hB := blen_le_of_lt (n := x / 65536 / 256 % 256) (k := 8) (by omega)
  have hv : ((x / 65536 / 256 % 256 : Nat) : Int) = (x : Int) / 65536 / 256 % 256 := by omega
  rw [hv] at hI
  clear hv
  generalize blen (x / 65536 / 256 % 256) = b at *
  go_enter Tryd.func49, Tryd.ntmps49
  generalize hT : (ByteArray.mk _ : ByteArray) = T
  have hT2 : T = tab8 := by rw [← hT]; exact tab8_eq
  rw [← hT2] at hI
  clear hT hT2 h h2
  go_wp2
  go_ret
  exact ⟨by rw [HF.out]; first | rfl | exact ret_int (by omega), rfl⟩

theorem len64_calls (w : World) (x : Nat) (h : x < 4294967296) :
    Calls Tryd.prog 49 #[.int .u64 x] w fun e w' => e = .returned (.int .i64 (blen x : Nat)) ∧ w = w' := by
  rcases Nat.lt_or_ge x 256 with h1 | h1
  · exact len64_a w x h1
  · rcases Nat.lt_or_ge x 65536 with h2 | h2
    · exact len64_b w x h1 h2
    · rcases Nat.lt_or_ge x 16777216 with h3 | h3
      · exact len64_c w x h2 h3
      · exact len64_d w x h3 h

theorem len_calls (w : World) (x : Nat) (h : x < 4294967296) :
    Calls Tryd.prog 33 #[.int .u64 x] w fun e w' => e = .returned (.int .i64 (blen x : Nat)) ∧ w = w' := by
  go_enter Tryd.func33, Tryd.ntmps33
  go_wp2_with (fail)
  refine (len64_calls _ x h).mono ?_
  rintro e w' ⟨rfl, rfl⟩
  go_wp2
  go_ret
  exact ⟨rfl, rfl⟩
end Go.Proofs.YtofhpfmgopmcmaaDoor
