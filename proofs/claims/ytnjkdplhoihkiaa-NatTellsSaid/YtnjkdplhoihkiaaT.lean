import Derived.Test.YtnjkdplhoihkiaaW2
namespace Go.Proofs.Ytnjkdplhoihkiaa
open Go.RowKit
set_option linter.unusedVariables false
set_option maxHeartbeats 400000






theorem ret_int {k : IntKind} {a b : Int} (h : a = b) : Ending.returned (.int k a) = .returned (.int k b) := by rw [h]

def tab8 : ByteArray := ⟨((List.range 256).map fun n => UInt8.ofNat (blen n)).toArray⟩
theorem tab8_size : tab8.size = 256 := by decide +kernel
theorem tab8_fin : ∀ p : Fin 256, (tab8[p.val]'(by rw [tab8_size]; exact p.isLt)).toNat = blen p.val := by decide +kernel
theorem tab8_eq : (⟨(([0, 1, 2, 2, 3, 3, 3, 3, 4, 4, 4, 4, 4, 4, 4, 4, 5, 5, 5, 5, 5, 5, 5, 5, 5, 5, 5, 5, 5, 5, 5, 5, 6, 6, 6, 6, 6, 6, 6, 6, 6, 6, 6, 6, 6, 6, 6, 6, 6, 6, 6, 6, 6, 6, 6, 6, 6, 6, 6, 6, 6, 6, 6, 6].append [7, 7, 7, 7, 7, 7, 7, 7, 7, 7, 7, 7, 7, 7, 7, 7, 7, 7, 7, 7, 7, 7, 7, 7, 7, 7, 7, 7, 7, 7, 7, 7, 7, 7, 7, 7, 7, 7, 7, 7, 7, 7, 7, 7, 7, 7, 7, 7, 7, 7, 7, 7, 7, 7, 7, 7, 7, 7, 7, 7, 7, 7, 7, 7]).append ([8, 8, 8, 8, 8, 8, 8, 8, 8, 8, 8, 8, 8, 8, 8, 8, 8, 8, 8, 8, 8, 8, 8, 8, 8, 8, 8, 8, 8, 8, 8, 8, 8, 8, 8, 8, 8, 8, 8, 8, 8, 8, 8, 8, 8, 8, 8, 8, 8, 8, 8, 8, 8, 8, 8, 8, 8, 8, 8, 8, 8, 8, 8, 8].append [8, 8, 8, 8, 8, 8, 8, 8, 8, 8, 8, 8, 8, 8, 8, 8, 8, 8, 8, 8, 8, 8, 8, 8, 8, 8, 8, 8, 8, 8, 8, 8, 8, 8, 8, 8, 8, 8, 8, 8, 8, 8, 8, 8, 8, 8, 8, 8, 8, 8, 8, 8, 8, 8, 8, 8, 8, 8, 8, 8, 8, 8, 8, 8])).toArray⟩ : ByteArray) = tab8 := by decide +kernel
theorem idx_tab8 {P : Program} (t : TypeId) (ht : P.underlying t = some .string) (k : IntKind) (i : Nat) (hi : i < 256) (w : World) :
    (Instr.index t (.string tab8) (.int k (i : Int))).run P w = .ok (.int .u8 (blen i : Nat)) w := by
  rw [run_index_string w t tab8 k _ ht, dif_pos ⟨by omega, by rw [tab8_size]; omega⟩]
  have e : ((i : Int)).toNat = i := by omega
  simp only [e]
  rw [tab8_fin ⟨i, hi⟩]

theorem len32_a (w : World) (x : Nat) (h : x < 256) :
    Calls Try.prog 43 #[.int .u32 x] w fun e w' => e = .returned (.int .i64 (blen x : Nat)) ∧ w = w' := by
  have h65 : decide ((65536 : Int) ≤ (x : Nat)) = false := by rw [decide_eq_false_iff_not]; omega
  have h256 : decide ((256 : Int) ≤ (x : Nat)) = false := by rw [decide_eq_false_iff_not]; omega
  have HF : Hid (blen x = blen (x % 256)) := by rw [Hid, Nat.mod_eq_of_lt h]
  have hI := fun w => idx_tab8 (P := Try.prog) 9 Try.underlying9 .u8 (x % 256) (by omega) w
  have hB := blen_le_of_lt (n := x % 256) (k := 8) (by omega)
  have hv : ((x % 256 : Nat) : Int) = (x : Int) % 256 := by omega
  rw [hv] at hI
  clear hv
  generalize blen (x % 256) = b at *
  go_enter Try.func43, Try.ntmps43
  generalize hT : (ByteArray.mk _ : ByteArray) = T
  have hT2 : T = tab8 := by rw [← hT]; exact tab8_eq
  rw [← hT2] at hI
  clear hT hT2 h
  go_wp2
  go_ret
  exact ⟨by rw [HF.out]; first | rfl | exact ret_int (by omega), rfl⟩

theorem len32_b (w : World) (x : Nat) (h : 256 ≤ x) (h2 : x < 65536) :
    Calls Try.prog 43 #[.int .u32 x] w fun e w' => e = .returned (.int .i64 (blen x : Nat)) ∧ w = w' := by
  have h65 : decide ((65536 : Int) ≤ (x : Nat)) = false := by rw [decide_eq_false_iff_not]; omega
  have h256 : decide ((256 : Int) ≤ (x : Nat)) = true := by rw [decide_eq_true_iff]; omega
  have HF : Hid (blen x = 8 + blen (x / 256 % 256)) := by
    rw [Hid, Nat.mod_eq_of_lt (by omega)]; exact blen_shift x 8 (by simp only [Nat.reducePow]; omega)
  have hI := fun w => idx_tab8 (P := Try.prog) 9 Try.underlying9 .u8 (x / 256 % 256) (by omega) w
  have hB := blen_le_of_lt (n := x / 256 % 256) (k := 8) (by omega)
  have hv : ((x / 256 % 256 : Nat) : Int) = (x : Int) / 256 % 256 := by omega
  rw [hv] at hI
  clear hv
  generalize blen (x / 256 % 256) = b at *
  go_enter Try.func43, Try.ntmps43
  generalize hT : (ByteArray.mk _ : ByteArray) = T
  have hT2 : T = tab8 := by rw [← hT]; exact tab8_eq
  rw [← hT2] at hI
  clear hT hT2 h h2
  go_wp2
  go_ret
  exact ⟨by rw [HF.out]; first | rfl | exact ret_int (by omega), rfl⟩

theorem len32_c (w : World) (x : Nat) (h : 65536 ≤ x) (h2 : x < 16777216) :
    Calls Try.prog 43 #[.int .u32 x] w fun e w' => e = .returned (.int .i64 (blen x : Nat)) ∧ w = w' := by
  have h65 : decide ((65536 : Int) ≤ (x : Nat)) = true := by rw [decide_eq_true_iff]; omega
  have h256 : decide ((256 : Int) ≤ (x : Nat) / 65536) = false := by rw [decide_eq_false_iff_not]; omega
  have HF : Hid (blen x = 16 + blen (x / 65536 % 256)) := by
    rw [Hid, Nat.mod_eq_of_lt (by omega)]; exact blen_shift x 16 (by simp only [Nat.reducePow]; omega)
  have hI := fun w => idx_tab8 (P := Try.prog) 9 Try.underlying9 .u8 (x / 65536 % 256) (by omega) w
  have hB := blen_le_of_lt (n := x / 65536 % 256) (k := 8) (by omega)
  have hv : ((x / 65536 % 256 : Nat) : Int) = (x : Int) / 65536 % 256 := by omega
  rw [hv] at hI
  clear hv
  generalize blen (x / 65536 % 256) = b at *
  go_enter Try.func43, Try.ntmps43
  generalize hT : (ByteArray.mk _ : ByteArray) = T
  have hT2 : T = tab8 := by rw [← hT]; exact tab8_eq
  rw [← hT2] at hI
  clear hT hT2 h h2
  go_wp2
  go_ret
  exact ⟨by rw [HF.out]; first | rfl | exact ret_int (by omega), rfl⟩

theorem len32_d (w : World) (x : Nat) (h : 16777216 ≤ x) (h2 : x < 4294967296) :
    Calls Try.prog 43 #[.int .u32 x] w fun e w' => e = .returned (.int .i64 (blen x : Nat)) ∧ w = w' := by
  have h65 : decide ((65536 : Int) ≤ (x : Nat)) = true := by rw [decide_eq_true_iff]; omega
  have h256 : decide ((256 : Int) ≤ (x : Nat) / 65536) = true := by rw [decide_eq_true_iff]; omega
  have HF : Hid (blen x = 24 + blen (x / 65536 / 256 % 256)) := by
    rw [Hid, Nat.div_div_eq_div_mul, Nat.mod_eq_of_lt (by omega)]; exact blen_shift x 24 (by simp only [Nat.reducePow]; omega)
  have hI := fun w => idx_tab8 (P := Try.prog) 9 Try.underlying9 .u8 (x / 65536 / 256 % 256) (by omega) w
  have hB := blen_le_of_lt (n := x / 65536 / 256 % 256) (k := 8) (by omega)
  have hv : ((x / 65536 / 256 % 256 : Nat) : Int) = (x : Int) / 65536 / 256 % 256 := by omega
  rw [hv] at hI
  clear hv
  generalize blen (x / 65536 / 256 % 256) = b at *
  go_enter Try.func43, Try.ntmps43
  generalize hT : (ByteArray.mk _ : ByteArray) = T
  have hT2 : T = tab8 := by rw [← hT]; exact tab8_eq
  rw [← hT2] at hI
  clear hT hT2 h h2
  go_wp2
  go_ret
  exact ⟨by rw [HF.out]; first | rfl | exact ret_int (by omega), rfl⟩

theorem len32_calls (w : World) (x : Nat) (h : x < 4294967296) :
    Calls Try.prog 43 #[.int .u32 x] w fun e w' => e = .returned (.int .i64 (blen x : Nat)) ∧ w = w' := by
  rcases Nat.lt_or_ge x 256 with h1 | h1
  · exact len32_a w x h1
  · rcases Nat.lt_or_ge x 65536 with h2 | h2
    · exact len32_b w x h1 h2
    · rcases Nat.lt_or_ge x 16777216 with h3 | h3
      · exact len32_c w x h2 h3
      · exact len32_d w x h3 h
end Go.Proofs.Ytnjkdplhoihkiaa
