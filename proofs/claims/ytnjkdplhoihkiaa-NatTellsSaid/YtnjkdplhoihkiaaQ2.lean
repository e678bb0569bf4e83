/- The document's own Low and Cmp. -/
import Derived.Test.YtnjkdplhoihkiaaQ1
namespace Go.Proofs.Ytnjkdplhoihkiaa
open Go.RowKit
set_option linter.unusedVariables false
set_option maxHeartbeats 400000

theorem val_cons_drop (xs : List Nat) (k : Nat) (h : k < xs.length) : val (xs.drop k) = lb xs k + 4294967296 * val (xs.drop (k + 1)) := by
  rw [List.drop_eq_getElem_cons h]
  have : lb xs k = xs[k] := by simp [lb, h]
  rw [this]; rfl

theorem rlow_calls (w : World) (v : Value) (n : Nat) (h : Un w v n) :
    Calls Try.prog 21 #[v] w fun e w' => e = .returned (.tuple #[.int .u64 (lowN n : Nat), .bool (lowB n)]) ∧ w = w' := by
  obtain ⟨A, c, rfl, ⟨hc, hm⟩, hx, hr⟩ := h
  by_cases h2 : (limbs n).length ≤ 2
  · have HB := Lib.hid (lowB_of_le h2)
    have HN := Lib.hid (lowN_of_le h2)
    have HL2 := Lib.hid h2
    go_enter Try.func21, Try.ntmps21
    go_wp2_with (fail)
    go_loop [4, 5] (fun s i => ∃ k : Nat, k ≤ (limbs n).length ∧ i = .int .i64 ((k : Int) - 1) ∧ s = .int .u64 (val ((limbs n).drop k) : Nat)) (fun s i => (intOf i + 1).toNat)
    case atStart => exact ⟨(limbs n).length, Nat.le_refl _, rfl, by rw [List.drop_length]; rfl⟩
    case round =>
      obtain ⟨k, hk, rfl, rfl⟩ := hrel
      rcases Nat.eq_zero_or_pos k with rfl | h0
      · have HV : Hid (lowN n = val ((limbs n).drop 0)) := by rw [Hid, HN.out, List.drop_zero, val_limbs]
        clear HN
        go_wp2
        go_ret2
        exact ⟨by rw [HV.out, HB.out]; rfl, rfl⟩
      · obtain ⟨ad, rfl, hb, hcell⟩ := hr (by omega)
        have hc1 := hcell (k - 1) (by omega)
        have HW : Hid (IntKind.u64.wrap (IntKind.u64.wrap (((val ((limbs n).drop k) : Nat) : Int) * 4294967296) + IntKind.u64.wrap ((lb (limbs n) (k - 1) : Nat) : Int)) = ((val ((limbs n).drop (k - 1)) : Nat) : Int)) := by
          rw [Hid, val_cons_drop _ (k - 1) (by omega), show k - 1 + 1 = k by omega]
          have h1 := lb_lt hx (k - 1)
          have h3 := val_lt ((limbs n).drop k) (fun x h => hx x (List.mem_of_mem_drop h))
          have h4 : ((limbs n).drop k).length ≤ 1 := by rw [List.length_drop]; omega
          have h5 := Nat.pow_le_pow_right (n := 4294967296) (by decide) h4
          rw [Nat.pow_one] at h5
          rw [IntKind.wrap_u64, IntKind.wrap_u64, IntKind.wrap_u64]
          omega
        clear h2
        go_wp2
        go_round
        case rel => exact ⟨k - 1, by omega, by go_num, by rw [← HW.out]⟩
        case measure => simp [intOf]; omega
  · have HB : Hid (lowB n = false) := lowB_of_gt (by omega)
    have HN : Hid (lowN n = 0) := lowN_of_gt (by omega)
    go_enter Try.func21, Try.ntmps21
    go_wp2
    go_ret2
    exact ⟨by rw [HN.out, HB.out]; rfl, rfl⟩

theorem cmp_top {xs ys : List Nat} (hx : ∀ x ∈ xs, x < 4294967296) (hy : ∀ x ∈ ys, x < 4294967296) (p L : Nat) (h1 : xs.length ≤ L) (h2 : ys.length ≤ L) (hp : p < L)
    (ht : ∀ j, p < j → j < L → lb xs j = lb ys j) (hlt : lb xs p < lb ys p) : val xs < val ys := by
  rw [← range_lb xs L h1, ← range_lb ys L h2]
  have e : ∀ (zs : List Nat) j, j < L → lb ((List.range L).map fun j => lb zs j) j = lb zs j := fun zs j hj => by
    simp [lb, hj]
  refine val_lt_of_top (by simp) ?_ ?_ p (by simp; exact hp) ?_ ?_
  · intro x hx'; obtain ⟨j, _, rfl⟩ := List.mem_map.1 hx'; exact lb_lt hx j
  · intro x hx'; obtain ⟨j, _, rfl⟩ := List.mem_map.1 hx'; exact lb_lt hy j
  · intro j h3 h4; simp at h4; rw [e xs j h4, e ys j h4]; exact ht j h3 h4
  · rw [e xs p hp, e ys p hp]; exact hlt
theorem val_eq_of_lb {xs ys : List Nat} (L : Nat) (h1 : xs.length ≤ L) (h2 : ys.length ≤ L) (ht : ∀ j, j < L → lb xs j = lb ys j) : val xs = val ys := by
  rw [← range_lb xs L h1, ← range_lb ys L h2]
  congr 1
  apply List.map_congr_left
  intro j hj
  exact ht j (by simpa using hj)

theorem rcmp_calls (w : World) (v u : Value) (xs ys : List Nat) (h : U w v xs) (g : U w u ys) (hl : xs.length ≤ 1000000000) (hl2 : ys.length ≤ 1000000000) :
    Calls Try.prog 25 #[v, u] w fun e w' => e = .returned (.int .i64 (cmpI (val xs : Nat) (val ys : Nat))) ∧ w = w' := by
  obtain ⟨A, c, rfl, ⟨hc, hm⟩, hx, hr⟩ := id h
  obtain ⟨A2, c2, rfl, ⟨hc2, hm2⟩, hx2, hr2⟩ := id g
  rcases Nat.lt_or_ge xs.length ys.length with hlen | hlen
  · have HL1 : Hid (xs.length ≤ ys.length) := by rw [Hid]; omega
    have HL2 : Hid (ys.length ≤ ys.length) := by rw [Hid]; omega
    go_enter Try.func25, Try.ntmps25
    go_wp2_with (fail)
    go_loop [5] (fun i => ∃ k : Nat, k ≤ ys.length ∧ i = .int .i64 ((k : Int) - 1) ∧ Hid (∀ j, k ≤ j → j < ys.length → lb xs j = lb ys j)) (fun i => (intOf i + 1).toNat)
    case atStart => exact ⟨ys.length, Nat.le_refl _, rfl, fun j h1 h2 => by omega⟩
    case round =>
      obtain ⟨k, hk, rfl, HE⟩ := hrel
      rcases Nat.eq_zero_or_pos k with rfl | h0
      · have HF : Hid (cmpI (val xs : Nat) (val ys : Nat) = 0) := by
          rw [Hid, val_eq_of_lb (ys.length) HL1.out HL2.out (fun j hj => HE.out j (Nat.zero_le _) hj)]; exact cmpI_eq _
        go_wp2
        go_ret
        exact ⟨by rw [HF.out]; rfl, rfl⟩
      · rcases Nat.lt_trichotomy (lb xs (k - 1)) (lb ys (k - 1)) with hc1 | hc1 | hc1
        · have HF : Hid (cmpI (val xs : Nat) (val ys : Nat) = -1) := cmpI_lt (Int.ofNat_lt.2 (cmp_top hx hx2 (k - 1) (ys.length) HL1.out HL2.out (by omega) (fun j h1 h2 => HE.out j (by omega) h2) hc1))
          have hd : decide (((lb xs (k - 1) : Nat) : Int) < ((lb ys (k - 1) : Nat) : Int)) = true := by rw [decide_eq_true_iff]; omega
          go_wp2_with (fail)
          refine (limb_calls _ _ xs _ (k - 1) (by omega) h).mono ?_
          rintro e w' ⟨rfl, rfl⟩
          go_wp2_with (fail)
          refine (limb_calls _ _ ys _ (k - 1) (by omega) g).mono ?_
          rintro e w' ⟨rfl, rfl⟩
          go_wp2_with (fail)
          go_ret
          exact ⟨by rw [HF.out]; rfl, rfl⟩
        · have hd : decide (((lb xs (k - 1) : Nat) : Int) < ((lb ys (k - 1) : Nat) : Int)) = false := by rw [decide_eq_false_iff_not]; omega
          have hd2 : decide (((lb ys (k - 1) : Nat) : Int) < ((lb xs (k - 1) : Nat) : Int)) = false := by rw [decide_eq_false_iff_not]; omega
          have HC := Lib.hid hc1
          have hle1 : ¬ lb xs (k - 1) < lb ys (k - 1) := by omega
          have hle2 : ¬ lb ys (k - 1) < lb xs (k - 1) := by omega
          clear hc1
          go_wp2_with (fail)
          refine (limb_calls _ _ xs _ (k - 1) (by omega) h).mono ?_
          rintro e w' ⟨rfl, rfl⟩
          go_wp2_with (fail)
          refine (limb_calls _ _ ys _ (k - 1) (by omega) g).mono ?_
          rintro e w' ⟨rfl, rfl⟩
          go_wp2_with (fail)
          refine (limb_calls _ _ xs _ (k - 1) (by omega) h).mono ?_
          rintro e w' ⟨rfl, rfl⟩
          go_wp2_with (fail)
          refine (limb_calls _ _ ys _ (k - 1) (by omega) g).mono ?_
          rintro e w' ⟨rfl, rfl⟩
          go_wp2_with (fail)
          go_round
          case rel => exact ⟨k - 1, by omega, by go_num, fun j h1 h2 => by
            rcases Nat.lt_or_ge j k with h3 | h3
            · have ej : j = k - 1 := by omega
              rw [ej]
              exact HC.out
            · exact HE.out j h3 h2⟩
          case measure => simp [intOf]; omega
        · have HF : Hid (cmpI (val xs : Nat) (val ys : Nat) = 1) := cmpI_gt (Int.ofNat_lt.2 (cmp_top hx2 hx (k - 1) (ys.length) HL2.out HL1.out (by omega) (fun j h1 h2 => by have := HE.out j (by omega) h2; exact this.symm) hc1))
          have hd : decide (((lb xs (k - 1) : Nat) : Int) < ((lb ys (k - 1) : Nat) : Int)) = false := by rw [decide_eq_false_iff_not]; omega
          have hd2 : decide (((lb ys (k - 1) : Nat) : Int) < ((lb xs (k - 1) : Nat) : Int)) = true := by rw [decide_eq_true_iff]; omega
          go_wp2_with (fail)
          refine (limb_calls _ _ xs _ (k - 1) (by omega) h).mono ?_
          rintro e w' ⟨rfl, rfl⟩
          go_wp2_with (fail)
          refine (limb_calls _ _ ys _ (k - 1) (by omega) g).mono ?_
          rintro e w' ⟨rfl, rfl⟩
          go_wp2_with (fail)
          refine (limb_calls _ _ xs _ (k - 1) (by omega) h).mono ?_
          rintro e w' ⟨rfl, rfl⟩
          go_wp2_with (fail)
          refine (limb_calls _ _ ys _ (k - 1) (by omega) g).mono ?_
          rintro e w' ⟨rfl, rfl⟩
          go_wp2_with (fail)
          go_ret
          exact ⟨by rw [HF.out]; rfl, rfl⟩
  · have HL1 : Hid (xs.length ≤ xs.length) := by rw [Hid]; omega
    have HL2 : Hid (ys.length ≤ xs.length) := by rw [Hid]; omega
    go_enter Try.func25, Try.ntmps25
    go_wp2_with (fail)
    go_loop [5] (fun i => ∃ k : Nat, k ≤ xs.length ∧ i = .int .i64 ((k : Int) - 1) ∧ Hid (∀ j, k ≤ j → j < xs.length → lb xs j = lb ys j)) (fun i => (intOf i + 1).toNat)
    case atStart => exact ⟨xs.length, Nat.le_refl _, rfl, fun j h1 h2 => by omega⟩
    case round =>
      obtain ⟨k, hk, rfl, HE⟩ := hrel
      rcases Nat.eq_zero_or_pos k with rfl | h0
      · have HF : Hid (cmpI (val xs : Nat) (val ys : Nat) = 0) := by
          rw [Hid, val_eq_of_lb (xs.length) HL1.out HL2.out (fun j hj => HE.out j (Nat.zero_le _) hj)]; exact cmpI_eq _
        go_wp2
        go_ret
        exact ⟨by rw [HF.out]; rfl, rfl⟩
      · rcases Nat.lt_trichotomy (lb xs (k - 1)) (lb ys (k - 1)) with hc1 | hc1 | hc1
        · have HF : Hid (cmpI (val xs : Nat) (val ys : Nat) = -1) := cmpI_lt (Int.ofNat_lt.2 (cmp_top hx hx2 (k - 1) (xs.length) HL1.out HL2.out (by omega) (fun j h1 h2 => HE.out j (by omega) h2) hc1))
          have hd : decide (((lb xs (k - 1) : Nat) : Int) < ((lb ys (k - 1) : Nat) : Int)) = true := by rw [decide_eq_true_iff]; omega
          go_wp2_with (fail)
          refine (limb_calls _ _ xs _ (k - 1) (by omega) h).mono ?_
          rintro e w' ⟨rfl, rfl⟩
          go_wp2_with (fail)
          refine (limb_calls _ _ ys _ (k - 1) (by omega) g).mono ?_
          rintro e w' ⟨rfl, rfl⟩
          go_wp2_with (fail)
          go_ret
          exact ⟨by rw [HF.out]; rfl, rfl⟩
        · have hd : decide (((lb xs (k - 1) : Nat) : Int) < ((lb ys (k - 1) : Nat) : Int)) = false := by rw [decide_eq_false_iff_not]; omega
          have hd2 : decide (((lb ys (k - 1) : Nat) : Int) < ((lb xs (k - 1) : Nat) : Int)) = false := by rw [decide_eq_false_iff_not]; omega
          have HC := Lib.hid hc1
          have hle1 : ¬ lb xs (k - 1) < lb ys (k - 1) := by omega
          have hle2 : ¬ lb ys (k - 1) < lb xs (k - 1) := by omega
          clear hc1
          go_wp2_with (fail)
          refine (limb_calls _ _ xs _ (k - 1) (by omega) h).mono ?_
          rintro e w' ⟨rfl, rfl⟩
          go_wp2_with (fail)
          refine (limb_calls _ _ ys _ (k - 1) (by omega) g).mono ?_
          rintro e w' ⟨rfl, rfl⟩
          go_wp2_with (fail)
          refine (limb_calls _ _ xs _ (k - 1) (by omega) h).mono ?_
          rintro e w' ⟨rfl, rfl⟩
          go_wp2_with (fail)
          refine (limb_calls _ _ ys _ (k - 1) (by omega) g).mono ?_
          rintro e w' ⟨rfl, rfl⟩
          go_wp2_with (fail)
          go_round
          case rel => exact ⟨k - 1, by omega, by go_num, fun j h1 h2 => by
            rcases Nat.lt_or_ge j k with h3 | h3
            · have ej : j = k - 1 := by omega
              rw [ej]
              exact HC.out
            · exact HE.out j h3 h2⟩
          case measure => simp [intOf]; omega
        · have HF : Hid (cmpI (val xs : Nat) (val ys : Nat) = 1) := cmpI_gt (Int.ofNat_lt.2 (cmp_top hx2 hx (k - 1) (xs.length) HL2.out HL1.out (by omega) (fun j h1 h2 => by have := HE.out j (by omega) h2; exact this.symm) hc1))
          have hd : decide (((lb xs (k - 1) : Nat) : Int) < ((lb ys (k - 1) : Nat) : Int)) = false := by rw [decide_eq_false_iff_not]; omega
          have hd2 : decide (((lb ys (k - 1) : Nat) : Int) < ((lb xs (k - 1) : Nat) : Int)) = true := by rw [decide_eq_true_iff]; omega
          go_wp2_with (fail)
          refine (limb_calls _ _ xs _ (k - 1) (by omega) h).mono ?_
          rintro e w' ⟨rfl, rfl⟩
          go_wp2_with (fail)
          refine (limb_calls _ _ ys _ (k - 1) (by omega) g).mono ?_
          rintro e w' ⟨rfl, rfl⟩
          go_wp2_with (fail)
          refine (limb_calls _ _ xs _ (k - 1) (by omega) h).mono ?_
          rintro e w' ⟨rfl, rfl⟩
          go_wp2_with (fail)
          refine (limb_calls _ _ ys _ (k - 1) (by omega) g).mono ?_
          rintro e w' ⟨rfl, rfl⟩
          go_wp2_with (fail)
          go_ret
          exact ⟨by rw [HF.out]; rfl, rfl⟩
end Go.Proofs.Ytnjkdplhoihkiaa
