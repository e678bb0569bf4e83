/- The document's own Made. -/
import Derived.Test.YtnjkdplhoihkiaaR1
namespace Go.Proofs.Ytnjkdplhoihkiaa
open Go.RowKit
set_option linter.unusedVariables false
set_option maxHeartbeats 400000

/-- The number that the first k limbs are. -/
def cutN (xs : List Nat) (k : Nat) : Nat := val (xs.take k)
theorem cutN_len (xs : List Nat) (k : Nat) (hx : ∀ x ∈ xs, x < 4294967296) : (limbs (cutN xs k)).length ≤ k := by
  apply len_le_of_lt
  have := val_lt (xs.take k) (fun x h => hx x (List.mem_of_mem_take h))
  refine Nat.lt_of_lt_of_le this (Nat.pow_le_pow_right (by decide) ?_)
  rw [List.length_take]; omega

theorem made_calls (w : World) (v : Value) (xs : List Nat) (k : Int) (hk0 : 0 ≤ k) (hk1 : k ≤ 1000000000) (h : U w v xs) :
    Calls Try.prog 34 #[v, .int .i64 k] w fun e w' => (∃ u, e = .returned u ∧ Un w' u (cutN xs k.toNat)) ∧ Below w.heap.size w w' := by
  have h' := h
  obtain ⟨A, c, rfl, ⟨hc, hm⟩, hx, hr⟩ := h
  clear hr
  by_cases hl : (xs.length : Int) ≤ k
  · have hu := rmake_calls w _ xs h' (by omega)
    have HT : Hid (xs.take k.toNat = xs) := List.take_of_length_le (by omega)
    have hmin : min (xs.length : Int) k = xs.length := by omega
    go_enter Try.func34, Try.ntmps34
    go_wp2_with (go_at_call 17; refine hu.mono ?_; rintro e w' ⟨⟨z, rfl, hz⟩, hB⟩)
    go_ret
    exact ⟨⟨_, rfl, by rw [Un, cutN, HT.out]; exact hz⟩, hB⟩
  · obtain ⟨k, rfl⟩ := Int.eq_ofNat_of_zero_le hk0
    have hu := rmake_calls w _ _ (h'.take (k := k) (c' := c) (by omega) (by omega)) (by rw [List.length_take]; omega)
    have hmin : min (xs.length : Int) (k : Int) = k := by omega
    go_enter Try.func34, Try.ntmps34
    go_wp2_with (go_at_call 17; refine hu.mono ?_; rintro e w' ⟨⟨z, rfl, hz⟩, hB⟩)
    go_ret
    exact ⟨⟨_, rfl, by rw [Un, cutN, Int.toNat_natCast]; exact hz⟩, hB⟩
end Go.Proofs.Ytnjkdplhoihkiaa
