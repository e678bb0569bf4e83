/- The document's own Shl. -/
import Derived.Test.YtnjkdplhoihkiaaQ4
namespace Go.Proofs.Ytnjkdplhoihkiaa
open Go.RowKit
set_option linter.unusedVariables false
set_option maxHeartbeats 400000
attribute [local go_sem ↓] app_shut
attribute [local go_sem] run_append_tok

/-- The limbs of a number times P, behind q noughts, so far, and what is carried. -/
structure RShl (xs : List Nat) (q P k : Nat) (o : List Nat) (c : Nat) : Prop where
  len : o.length = q + k
  lt : ∀ x ∈ o, x < 4294967296
  carry : c < P
  val_eq : val o + c * 4294967296 ^ (q + k) = pv xs k * P * 4294967296 ^ q
theorem RShl.start (xs : List Nat) (q P : Nat) (hP : 0 < P) : RShl xs q P 0 (List.replicate q 0) 0 :=
  ⟨by simp, by intro x hx; have := List.eq_of_mem_replicate hx; omega, hP, by rw [val_replicate_zero, pv_zero]; simp⟩
theorem RShl.step {xs : List Nat} {q P k : Nat} {o : List Nat} {c : Nat} (h : RShl xs q P k o c) (hx : ∀ x ∈ xs, x < 4294967296) :
    RShl xs q P (k + 1) (o ++ [(lb xs k * P + c) % 4294967296]) ((lb xs k * P + c) / 4294967296) := by
  have h1 := lb_lt hx k
  have h3 := h.carry
  have h4 : lb xs k * P + c < 4294967296 * P := by
    have := Nat.mul_le_mul_right P (show lb xs k + 1 ≤ 4294967296 by omega)
    rw [Nat.add_mul] at this; omega
  refine ⟨by simp [h.len]; omega, snoc_lt h.lt (Nat.mod_lt _ (by decide)), by rw [Nat.div_lt_iff_lt_mul (by decide), Nat.mul_comm P]; exact h4, ?_⟩
  rw [val_snoc, pv_succ, h.len, ← Nat.add_assoc, Nat.pow_succ, Nat.pow_add 4294967296 q k]
  have e := h.val_eq
  rw [Nat.pow_add] at e
  generalize 4294967296 ^ k = B at *
  generalize 4294967296 ^ q = C at *
  obtain ⟨X, hX⟩ : ∃ X, lb xs k * P + c = X := ⟨_, rfl⟩
  have e3 : X = X % 4294967296 + X / 4294967296 * 4294967296 := by omega
  have e4 : X * (C * B) = X % 4294967296 * (C * B) + X / 4294967296 * (C * B * 4294967296) := by
    conv => lhs; rw [e3]
    rw [Nat.add_mul, Nat.mul_assoc (X / 4294967296), Nat.mul_comm 4294967296]
  have e5 : X * (C * B) = lb xs k * P * (C * B) + c * (C * B) := by rw [← hX, Nat.add_mul]
  have e6 : lb xs k * P * (C * B) = lb xs k * B * P * C := by
    rw [Nat.mul_comm C B, ← Nat.mul_assoc, Nat.mul_right_comm (lb xs k) P B]
  rw [hX, Nat.add_mul, Nat.add_mul]
  omega
theorem RShl.done {xs : List Nat} {q P k : Nat} {o : List Nat} {c : Nat} (h : RShl xs q P (k + 1) o c) (hx : ∀ x ∈ xs, x < 4294967296) (h1 : xs.length ≤ k) (hP : P < 4294967296) :
    val o = val xs * P * 4294967296 ^ q := by
  have e := h.val_eq
  have a1 := pv_lt xs k hx
  rw [pv_all xs _ (by omega)] at e a1
  have hc : c = 0 := by
    rcases Nat.eq_zero_or_pos c with h0 | h0
    · exact h0
    · exfalso
      have b1 : 4294967296 ^ (q + (k + 1)) ≤ c * 4294967296 ^ (q + (k + 1)) := Nat.le_mul_of_pos_left _ h0
      have b2 : val xs * P < 4294967296 ^ (k + 1) := by
        rw [Nat.pow_succ]
        exact Nat.mul_lt_mul'' a1 hP
      have b3 : val xs * P * 4294967296 ^ q < 4294967296 ^ (k + 1) * 4294967296 ^ q := Nat.mul_lt_mul_of_pos_right b2 (Nat.pow_pos (by decide))
      rw [← Nat.pow_add, Nat.add_comm (k + 1) q] at b3
      omega
  subst hc
  omega

set_option maxRecDepth 100000 in
theorem rshl_calls (w : World) (v : Value) (n : Nat) (k0 : Nat) (hk : k0 ≤ 100000000) (h : Un w v n) (hl : (limbs n).length ≤ 100000000) :
    Calls Try.prog 31 #[v, .int .i64 (k0 : Int)] w fun e w' => (∃ u, e = .returned u ∧ Un w' u (n * 2 ^ k0)) ∧ Below w.heap.size w w' := by
  obtain ⟨A, c, rfl, ⟨hc, hm⟩, hx, hr⟩ := id h
  clear hr
  obtain ⟨Q, hQ⟩ : ∃ Q, k0 / 32 = Q := ⟨_, rfl⟩
  obtain ⟨S, hS⟩ : ∃ S, k0 % 32 = S := ⟨_, rfl⟩
  have eQ : (k0 : Int) / 32 = (Q : Int) := by omega
  have eS : (k0 : Int) % 32 = (S : Int) := by omega
  have HK : Hid (k0 = 32 * Q + S) := by rw [Hid]; omega
  have hS32 : S < 32 := by omega
  have hQ1 : Q ≤ 100000000 := by omega
  go_enter Try.func31, Try.ntmps31
  go_wp2_with (fail)
  have hown0 : Own (w.alloc (.cells #[] 37)) w.heap.size (.slice (some ⟨w.heap.size, 0, none⟩) 0 0) [] := World.ownsRow_lit w #[] 0 (Nat.le_refl _) (Nat.zero_le _) rfl
  have hB0 : Below w.heap.size w (w.alloc (.cells #[] 37)) := (Below.refl _ _).alloc (Nat.le_refl _) _
  go_loopw [5, 8] (fun s i wr => ∃ k : Nat, k ≤ Q ∧ i = .int .i64 k ∧ Own wr w.heap.size s (List.replicate k 0) ∧ Below w.heap.size w wr) (fun _ i _ => Q - (intOf i).toNat)
  case atStart => exact ⟨0, Nat.zero_le _, rfl, hown0, hB0⟩
  case round =>
    clear hown0 hB0
    obtain ⟨k, hk1, rfl, hown, hB⟩ := hrel
    by_cases hd1 : k < Q
    · obtain ⟨v', w', hrun, hown', hB'⟩ := push_own hB hown 0 0 rfl (by decide) (by simp; omega)
      obtain ⟨t1, t2, t3⟩ := app_tok hrun
      rw [← List.replicate_succ'] at hown'
      clear hrun
      go_wp2
      go_roundw
      case rel => exact ⟨k + 1, by omega, by go_num, hown', hB'⟩
      case measure => simp [intOf]; omega
    · obtain rfl : k = Q := by omega
      go_wp2_with (fail)
      go_loop [7, 9] (fun b i => ∃ j : Nat, j ≤ S ∧ i = .int .i64 j ∧ b = .int .u64 (2 ^ j : Nat)) (fun _ i => S - (intOf i).toNat)
      case atStart => exact ⟨0, Nat.zero_le _, rfl, rfl⟩
      case round =>
        obtain ⟨j, hj, rfl, rfl⟩ := hrel
        have hp1 : 2 ^ j < 4294967296 := Nat.lt_of_le_of_lt (Nat.pow_le_pow_right (by decide) (show j ≤ 31 by omega)) (by decide)
        by_cases hd2 : j < S
        · have HN : Hid (2 * ((2 ^ j : Nat) : Int) = ((2 ^ (j + 1) : Nat) : Int)) := by rw [Hid, Nat.pow_succ]; omega
          obtain ⟨X, hX⟩ : ∃ X, 2 ^ j = X := ⟨_, rfl⟩
          rw [hX] at HN hp1
          rw [hX]
          clear hX
          go_wp2
          go_round
          case rel => exact ⟨j + 1, by omega, by go_num, by rw [← HN.out]⟩
          case measure => simp [intOf]; omega
        · obtain rfl : j = S := by omega
          have hp0 : 0 < 2 ^ j := Nat.two_pow_pos j
          have HV0 : Hid (n * 2 ^ k0 = n * 2 ^ j * 4294967296 ^ k) := by
            rw [Hid, HK.out, pow32, Nat.pow_add, Nat.mul_comm (2 ^ (32 * k)), ← Nat.mul_assoc]
          obtain ⟨P, hP⟩ : ∃ P, 2 ^ j = P := ⟨_, rfl⟩
          rw [hP] at hp0 hp1 HV0
          rw [hP]
          clear hP
          go_wp2_with (fail)
          have HO0 : Hid (RShl (limbs n) k P 0 (List.replicate k 0) 0) := RShl.start _ _ _ hp0
          go_loopw [5, 6, 10] (fun s cv i wr => ∃ (m cy : Nat) (o : List Nat), m ≤ (limbs n).length + 1 ∧ i = .int .i64 m ∧ cv = .int .u64 cy ∧ Hid (RShl (limbs n) k P m o cy) ∧ Own wr w.heap.size s o ∧ Below w.heap.size w wr) (fun _ _ i _ => (limbs n).length + 1 - (intOf i).toNat)
          case atStart => exact ⟨0, 0, _, Nat.zero_le _, rfl, rfl, HO0, hown, hB⟩
          case round =>
            clear HO0 hown hB
            obtain ⟨m, cy, o, hm1, rfl, rfl, HO, hown, hB⟩ := hrel
            have hlen := HO.out.len
            by_cases hd3 : m ≤ (limbs n).length
            · have h1 := lb_lt hx m
              have h3 := HO.out.carry
              have h4 : lb (limbs n) m * P + cy < 4294967296 * P := by
                have := Nat.mul_le_mul_right P (show lb (limbs n) m + 1 ≤ 4294967296 by omega)
                rw [Nat.add_mul] at this; omega
              have e1 : ((lb (limbs n) m : Nat) : Int) * (P : Int) = ((lb (limbs n) m * P : Nat) : Int) := by rw [Int.natCast_mul]
              have hm3 : ((lb (limbs n) m : Nat) : Int) * (P : Int) + (cy : Int) < 18446744073709551616 := by rw [e1]; omega
              have hm4 : 0 ≤ ((lb (limbs n) m : Nat) : Int) * (P : Int) := by rw [e1]; omega
              obtain ⟨x1, hx1⟩ : ∃ x1, (lb (limbs n) m * P + cy) % 4294967296 = x1 := ⟨_, rfl⟩
              obtain ⟨c1, hc1⟩ : ∃ c1, (lb (limbs n) m * P + cy) / 4294967296 = c1 := ⟨_, rfl⟩
              have HO2 : Hid (RShl (limbs n) k P (m + 1) (o ++ [x1]) c1) := by rw [Hid, ← hx1, ← hc1]; exact HO.out.step hx
              obtain ⟨v', w', hrun, hown', hB'⟩ := push_own hB hown ((((lb (limbs n) m : Nat) : Int) * (P : Int) + (cy : Int)) % 4294967296) x1 (by rw [← hx1, e1]; omega) (by rw [← hx1]; exact Nat.mod_lt _ (by decide)) (by omega)
              obtain ⟨t1, t2, t3⟩ := app_tok hrun
              have HC1 : Hid ((((lb (limbs n) m : Nat) : Int) * (P : Int) + (cy : Int)) / 4294967296 = (c1 : Int)) := by rw [Hid, ← hc1, e1]; omega
              clear hrun hx1 hc1 hlen e1 h4
              go_wp2_with (fail)
              refine (limb_calls _ _ (limbs n) _ m rfl (U.below h hB)).mono ?_
              rintro e w' ⟨rfl, rfl⟩
              go_wp2_with (fail)
              go_roundw
              case rel => exact ⟨m + 1, c1, _, by omega, by go_num, by rw [HC1.out], HO2, hown', hB'⟩
              case measure => simp [intOf]; omega
            · obtain rfl : m = (limbs n).length + 1 := by omega
              have HV : Hid (val o = n * 2 ^ k0) := by rw [Hid, HO.out.done hx (Nat.le_refl _) hp1, val_limbs, HV0.out]
              have hu := hown.toU HO.out.lt (by omega)
              have hol : o.length ≤ 1000000000 := by omega
              clear hlen
              go_wp2_with (fail)
              refine (rmake_calls _ _ _ hu hol).mono ?_
              rintro e w' ⟨⟨z, rfl, hz⟩, hB2⟩
              have hz2 : Un w' z (n * 2 ^ k0) := by rw [← HV.out]; exact hz
              replace hB := Below.trans hB (Below.mono hB2 hB.size)
              clear hz
              go_wp2
              go_ret
              exact ⟨⟨_, rfl, hz2⟩, hB⟩
end Go.Proofs.Ytnjkdplhoihkiaa
