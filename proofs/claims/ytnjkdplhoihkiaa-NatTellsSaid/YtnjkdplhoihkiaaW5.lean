/- walks -/
import Derived.Test.YtnjkdplhoihkiaaW4
import Derived.Test.YtnjkdplhoihkiaaT
namespace Go.Proofs.Ytnjkdplhoihkiaa
open Go.RowKit
set_option linter.unusedVariables false
set_option maxHeartbeats 400000

theorem bit_calls (w : World) (v : Value) (n : Nat) (i : Int) (hi0 : -9000000000000 ≤ i) (hi1 : i ≤ 9000000000000) (h : Un w v n) :
    Calls Try.prog 28 #[v, .int .i64 i] w fun e w' => e = .returned (.int .u32 (bitN n i : Nat)) ∧ w = w' := by
  obtain ⟨A, c, rfl, ⟨hc, hm⟩, hx, hr⟩ := h
  by_cases h0 : i < 0
  · have HF : Hid (bitN n i = 0) := if_pos h0
    go_enter Try.func28, Try.ntmps28
    go_wp2
    go_ret
    exact ⟨by rw [HF.out]; rfl, rfl⟩
  · obtain ⟨k, rfl⟩ := Int.eq_ofNat_of_zero_le (show 0 ≤ i by omega)
    have hkn : decide (((k : Nat) : Int) < 0) = false := by rw [decide_eq_false_iff_not]; omega
    have HB : Hid (bitN n (k : Int) = n / 2 ^ k % 2) := by rw [Hid, bitN, if_neg h0, Int.toNat_natCast]
    by_cases h1 : k / 32 < (limbs n).length
    · obtain ⟨ad, rfl, hb, hcell⟩ := hr (by omega)
      have hc1 := hcell (k / 32) h1
      have hL := lb_lt hx (k / 32)
      have hd : lb (limbs n) (k / 32) / 2 ^ (k % 32) < 4294967296 := Nat.lt_of_le_of_lt (Nat.div_le_self _ _) hL
      have HF : Hid (bits .and .u32 (((lb (limbs n) (k / 32) : Nat) : Int) / 2 ^ (k % 32)) 1 = ((bitN n (k : Int) : Nat) : Int)) := by
        rw [Hid, cast_shr, HB.out, ← bit_limb n k]
        have := u32_and_nat (lb (limbs n) (k / 32) / 2 ^ (k % 32)) 1 hd (by decide)
        rw [Nat.and_one_is_mod] at this
        exact this
      clear hd hL HB
      go_enter Try.func28, Try.ntmps28
      go_wp2
      go_ret
      exact ⟨by rw [← HF.out]; rfl, rfl⟩
    · have HF : Hid (bitN n (k : Int) = 0) := by rw [Hid, HB.out]; exact bit_out n k (by omega)
      go_enter Try.func28, Try.ntmps28
      go_wp2
      go_ret
      exact ⟨by rw [HF.out]; rfl, rfl⟩

theorem bits_calls (w : World) (v : Value) (n : Nat) (h : Un w v n) (hl : (limbs n).length ≤ 1000000000) :
    Calls Try.prog 26 #[v] w fun e w' => e = .returned (.int .i64 (blen n : Nat)) ∧ w = w' := by
  obtain ⟨A, c, rfl, ⟨hc, hm⟩, hx, hr⟩ := h
  by_cases h0 : n = 0
  · subst h0
    have hz : limbs 0 = [] := limbs_zero
    rw [hz]
    clear hz hr hx hm hl hc
    have HF : Hid (blen 0 = 0) := rfl
    go_enter Try.func26, Try.ntmps26
    go_wp2
    go_ret
    exact ⟨by rw [HF.out]; rfl, rfl⟩
  · have HF := Lib.hid (blen_limbs n h0)
    have hlen : 0 < (limbs n).length := by rw [limbs_pos h0]; simp
    obtain ⟨ad, rfl, hb, hcell⟩ := hr hlen
    have hc1 := hcell ((limbs n).length - 1) (by omega)
    have hne : (((limbs n).length : Int) == 0) = false := by rw [beq_eq_false_iff_ne]; omega
    have hL := lb_lt hx ((limbs n).length - 1)
    have hB := blen_le_of_lt (k := 32) hL
    have HL := Lib.hid hL
    clear hL
    go_enter Try.func26, Try.ntmps26
    go_wp2_with (go_at_call 43; refine (len32_calls _ _ HL.out).mono ?_; rintro e w' ⟨rfl, rfl⟩)
    go_ret
    exact ⟨by rw [HF.out]; exact ret_int (by omega), rfl⟩

theorem of_calls (w : World) (n : Nat) (hn : n < 18446744073709551616) :
    Calls Try.prog 35 #[.int .u64 n] w fun e w' => (∃ u, e = .returned u ∧ Un w' u n) ∧ Below w.heap.size w w' := by
  have HN := Lib.hid hn
  go_enter Try.func35, Try.ntmps35
  go_wp2_with fail
  have hn' := HN.out
  have hv : val [n % 4294967296, n / 4294967296] = n := by simp only [val]; omega
  have hu : U (w.alloc (Obj.cells #[Value.int IntKind.u32 ((n : Int) % 4294967296), Value.int IntKind.u32 ((n : Int) / 4294967296)] 37)) (.slice (some ⟨w.heap.size, 0, none⟩) 2 2) [n % 4294967296, n / 4294967296] := by
    refine ⟨_, 2, rfl, ⟨Nat.le_refl _, by simp⟩, by intro x hx; simp at hx; omega, fun _ => ⟨_, rfl, by simp, fun j hj => ?_⟩⟩
    have : j = 0 ∨ j = 1 := by simp at hj; omega
    rcases this with rfl | rfl
    · simp [lb, Addr.add]
    · simp [lb, Addr.add]
  clear hn' hn
  refine (make_calls _ _ _ hu).mono ?_
  rintro e w2 ⟨⟨u, rfl, hu2⟩, rfl⟩
  rw [hv] at hu2
  clear hv
  go_wp2
  go_ret
  exact ⟨⟨_, rfl, hu2⟩, (Below.refl _ _).alloc (Nat.le_refl _) _⟩
end Go.Proofs.Ytnjkdplhoihkiaa
