/- Proved: the statement NatOrder: whatever limbs: of two naturals one is less, or they are the same; what is less than what is less is less; sums with a third one, and shifts, keep it. No condition. -/
import Derived.Test.YtnjkdplhoihkiaaH
import Derived.Test.YtnjkdplhoihkiaaF
import Derived.Test.YtnjkdplhoihkiaaL
namespace Go.Proofs.Ytnjkdplhoihkiaa
open Go.ChangeShapes Go.WideShapes Go.ChangeAt Go.RowKit
set_option linter.unusedVariables false

set_option maxRecDepth 100000 in
set_option maxHeartbeats 4000000 in
theorem NatOrder_walk (w : World) (v0 : Value) (xs0 : List Nat) (h0 : U w v0 xs0) (v1 : Value) (xs1 : List Nat) (h1 : U w v1 xs1) (v2 : Value) (xs2 : List Nat) (h2 : U w v2 xs2) :
    Calls Try.prog 9 #[v0, v1, v2] w fun e w' => e = .returned (.bool true) ∧ Ext w w' := by
  have HB := Ext.refl w
  have b0 := h0.lim
  have b1 := h1.lim
  have b2 := h2.lim
  go_enter Try.func9, Try.ntmps9
  go_wp2_with (fail)
  refine (head_calls _).mono ?_
  rintro e w1 ⟨rfl, hB⟩
  replace HB := HB.below hB
  replace h0 := h0.below hB
  replace h1 := h1.below hB
  replace h2 := h2.below hB
  clear hB
  go_wp2_with (fail)
  refine (made_B _ v0 xs0 40 h0 (by decide) (by decide) _ rfl).mono ?_
  rintro e w2 ⟨x1, rfl, hx1, hB⟩
  replace HB := HB.below hB
  replace h0 := h0.below hB
  replace h1 := h1.below hB
  replace h2 := h2.below hB
  clear hB
  go_wp2_with (fail)
  refine (made_B _ v1 xs1 40 h1 (by decide) (by decide) _ rfl).mono ?_
  rintro e w3 ⟨x2, rfl, hx2, hB⟩
  replace HB := HB.below hB
  replace h1 := h1.below hB
  replace h2 := h2.below hB
  replace hx1 := hx1.below hB
  clear hB
  go_wp2_with (fail)
  refine (made_B _ v2 xs2 40 h2 (by decide) (by decide) _ rfl).mono ?_
  rintro e w4 ⟨x3, rfl, hx3, hB⟩
  replace HB := HB.below hB
  replace h2 := h2.below hB
  replace hx1 := hx1.below hB
  replace hx2 := hx2.below hB
  clear hB
  have l1 := cutN_len xs0 40 b0
  have l2 := cutN_len xs1 40 b1
  have l3 := cutN_len xs2 40 b2
  rw [show ((40 : Int)).toNat = 40 from rfl] at hx1 hx2 hx3
  generalize cutN xs0 40 = n1 at *
  generalize cutN xs1 40 = n2 at *
  generalize cutN xs2 40 = n3 at *
  have l13 := len_add l1 l3
  have l23 := len_add l2 l3
  clear h0 h1 h2 b0 b1 b2
  rcases Nat.lt_trichotomy n1 n2 with hc | hc | hc
  · go_wp2_with (fail)
    refine (cmp_B _ _ _ n1 n2 hx1 hx2 (-1) (cmpI_lt (by omega))).mono ?_
    rintro e w5 ⟨rfl, hB⟩
    replace HB := HB.below hB
    replace hx1 := hx1.below hB
    replace hx2 := hx2.below hB
    replace hx3 := hx3.below hB
    clear hB
    go_wp2_with (fail)
    refine (cmp_B _ _ _ n2 n1 hx2 hx1 (1) (cmpI_gt (by omega))).mono ?_
    rintro e w6 ⟨rfl, hB⟩
    replace HB := HB.below hB
    replace hx1 := hx1.below hB
    replace hx2 := hx2.below hB
    replace hx3 := hx3.below hB
    clear hB
    go_wp2_with (fail)
    refine (same_B _ _ _ _ _ hx1 hx2 false (decide_eq_false (fun h => by have := limbs_inj h; omega))).mono ?_
    rintro e w7 ⟨rfl, hB⟩
    replace HB := HB.below hB
    replace hx1 := hx1.below hB
    replace hx2 := hx2.below hB
    replace hx3 := hx3.below hB
    clear hB
    go_wp2_with (fail)
    refine (cmp_B _ _ _ n1 n1 hx1 hx1 0 (cmpI_eq _)).mono ?_
    rintro e w8 ⟨rfl, hB⟩
    replace HB := HB.below hB
    replace hx1 := hx1.below hB
    replace hx2 := hx2.below hB
    replace hx3 := hx3.below hB
    clear hB
    obtain ⟨k2, hk2⟩ : ∃ k, cmpI n2 n3 = k := ⟨_, rfl⟩
    have K2 := Lib.hid hk2
    have hq : (k2 ≤ 0 → n2 ≤ n3) := fun h => by rw [← hk2] at h; exact cmpI_le h
    clear hk2
    rcases Int.lt_or_le 0 k2 with hk | hk
    · clear hq
      go_wp2_with (fail)
      refine (cmp_B _ _ _ n2 n3 hx2 hx3 k2 K2.out).mono ?_
      rintro e w9 ⟨rfl, hB⟩
      replace HB := HB.below hB
      replace hx1 := hx1.below hB
      replace hx2 := hx2.below hB
      replace hx3 := hx3.below hB
      clear hB
      obtain ⟨A3, c3, rfl, hz1, hz2, hz3⟩ := id hx3
      clear hz1 hz2 hz3
      go_wp2_with (fail)
      refine (add_B _ _ _ n1 n3 hx1 hx3 (by omega) (by omega) _ rfl).mono ?_
      rintro e w10 ⟨t1, rfl, ht1, hB⟩
      replace HB := HB.below hB
      replace hx1 := hx1.below hB
      replace hx2 := hx2.below hB
      replace hx3 := hx3.below hB
      clear hB
      go_wp2_with (fail)
      refine (add_B _ _ _ n2 n3 hx2 hx3 (by omega) (by omega) _ rfl).mono ?_
      rintro e w11 ⟨t2, rfl, ht2, hB⟩
      replace HB := HB.below hB
      replace hx1 := hx1.below hB
      replace hx2 := hx2.below hB
      replace hx3 := hx3.below hB
      replace ht1 := ht1.below hB
      clear hB
      go_wp2_with (fail)
      refine (cmp_B _ _ _ (n1 + n3) (n2 + n3) ht1 ht2 (-1) (cmpI_lt (by omega))).mono ?_
      rintro e w12 ⟨rfl, hB⟩
      replace HB := HB.below hB
      replace hx1 := hx1.below hB
      replace hx2 := hx2.below hB
      replace hx3 := hx3.below hB
      replace ht1 := ht1.below hB
      replace ht2 := ht2.below hB
      clear hB
      go_wp2_with (fail)
      refine (shl_B _ _ n1 _ hx1 (by omega) (by omega) (by omega) _ (by rw [Int.toNat_natCast])).mono ?_
      rintro e w13 ⟨t3, rfl, ht3, hB⟩
      replace HB := HB.below hB
      replace hx1 := hx1.below hB
      replace hx2 := hx2.below hB
      replace hx3 := hx3.below hB
      clear hB
      go_wp2_with (fail)
      refine (shl_B _ _ n2 _ hx2 (by omega) (by omega) (by omega) _ (by rw [Int.toNat_natCast])).mono ?_
      rintro e w14 ⟨t4, rfl, ht4, hB⟩
      replace HB := HB.below hB
      replace hx1 := hx1.below hB
      replace hx2 := hx2.below hB
      replace hx3 := hx3.below hB
      replace ht3 := ht3.below hB
      clear hB
      go_wp2_with (fail)
      refine (cmp_B _ _ _ (n1 * 2 ^ (limbs n3).length) (n2 * 2 ^ (limbs n3).length) ht3 ht4 (-1) (cmpI_shl_lt hc)).mono ?_
      rintro e w15 ⟨rfl, hB⟩
      replace HB := HB.below hB
      replace hx1 := hx1.below hB
      replace hx2 := hx2.below hB
      replace hx3 := hx3.below hB
      replace ht3 := ht3.below hB
      replace ht4 := ht4.below hB
      clear hB
      go_wp2
      go_ret
      exact ⟨rfl, HB⟩
    · have hle := hq hk
      go_wp2_with (fail)
      refine (cmp_B _ _ _ n2 n3 hx2 hx3 k2 K2.out).mono ?_
      rintro e w9 ⟨rfl, hB⟩
      replace HB := HB.below hB
      replace hx1 := hx1.below hB
      replace hx2 := hx2.below hB
      replace hx3 := hx3.below hB
      clear hB
      obtain ⟨k3, hk3⟩ : ∃ k, cmpI n1 n3 = k := ⟨_, rfl⟩
      have hk4 : k3 ≤ 0 := by rw [← hk3]; exact le_cmpI (by omega)
      have K3 := Lib.hid hk3
      clear hk3 hq
      go_wp2_with (fail)
      refine (cmp_B _ _ _ n1 n3 hx1 hx3 k3 K3.out).mono ?_
      rintro e w10 ⟨rfl, hB⟩
      replace HB := HB.below hB
      replace hx1 := hx1.below hB
      replace hx2 := hx2.below hB
      replace hx3 := hx3.below hB
      clear hB
      obtain ⟨A3, c3, rfl, hz1, hz2, hz3⟩ := id hx3
      clear hz1 hz2 hz3
      go_wp2_with (fail)
      refine (add_B _ _ _ n1 n3 hx1 hx3 (by omega) (by omega) _ rfl).mono ?_
      rintro e w11 ⟨t1, rfl, ht1, hB⟩
      replace HB := HB.below hB
      replace hx1 := hx1.below hB
      replace hx2 := hx2.below hB
      replace hx3 := hx3.below hB
      clear hB
      go_wp2_with (fail)
      refine (add_B _ _ _ n2 n3 hx2 hx3 (by omega) (by omega) _ rfl).mono ?_
      rintro e w12 ⟨t2, rfl, ht2, hB⟩
      replace HB := HB.below hB
      replace hx1 := hx1.below hB
      replace hx2 := hx2.below hB
      replace hx3 := hx3.below hB
      replace ht1 := ht1.below hB
      clear hB
      go_wp2_with (fail)
      refine (cmp_B _ _ _ (n1 + n3) (n2 + n3) ht1 ht2 (-1) (cmpI_lt (by omega))).mono ?_
      rintro e w13 ⟨rfl, hB⟩
      replace HB := HB.below hB
      replace hx1 := hx1.below hB
      replace hx2 := hx2.below hB
      replace hx3 := hx3.below hB
      replace ht1 := ht1.below hB
      replace ht2 := ht2.below hB
      clear hB
      go_wp2_with (fail)
      refine (shl_B _ _ n1 _ hx1 (by omega) (by omega) (by omega) _ (by rw [Int.toNat_natCast])).mono ?_
      rintro e w14 ⟨t3, rfl, ht3, hB⟩
      replace HB := HB.below hB
      replace hx1 := hx1.below hB
      replace hx2 := hx2.below hB
      replace hx3 := hx3.below hB
      clear hB
      go_wp2_with (fail)
      refine (shl_B _ _ n2 _ hx2 (by omega) (by omega) (by omega) _ (by rw [Int.toNat_natCast])).mono ?_
      rintro e w15 ⟨t4, rfl, ht4, hB⟩
      replace HB := HB.below hB
      replace hx1 := hx1.below hB
      replace hx2 := hx2.below hB
      replace hx3 := hx3.below hB
      replace ht3 := ht3.below hB
      clear hB
      go_wp2_with (fail)
      refine (cmp_B _ _ _ (n1 * 2 ^ (limbs n3).length) (n2 * 2 ^ (limbs n3).length) ht3 ht4 (-1) (cmpI_shl_lt hc)).mono ?_
      rintro e w16 ⟨rfl, hB⟩
      replace HB := HB.below hB
      replace hx1 := hx1.below hB
      replace hx2 := hx2.below hB
      replace hx3 := hx3.below hB
      replace ht3 := ht3.below hB
      replace ht4 := ht4.below hB
      clear hB
      go_wp2
      go_ret
      exact ⟨rfl, HB⟩
  · subst hc
    go_wp2_with (fail)
    refine (cmp_B _ _ _ n1 n1 hx1 hx2 (0) (cmpI_eq _)).mono ?_
    rintro e w5 ⟨rfl, hB⟩
    replace HB := HB.below hB
    replace hx1 := hx1.below hB
    replace hx2 := hx2.below hB
    replace hx3 := hx3.below hB
    clear hB
    go_wp2_with (fail)
    refine (cmp_B _ _ _ n1 n1 hx2 hx1 (0) (cmpI_eq _)).mono ?_
    rintro e w6 ⟨rfl, hB⟩
    replace HB := HB.below hB
    replace hx1 := hx1.below hB
    replace hx2 := hx2.below hB
    replace hx3 := hx3.below hB
    clear hB
    go_wp2_with (fail)
    refine (same_B _ _ _ _ _ hx1 hx2 true (decide_eq_true rfl)).mono ?_
    rintro e w7 ⟨rfl, hB⟩
    replace HB := HB.below hB
    replace hx1 := hx1.below hB
    replace hx2 := hx2.below hB
    replace hx3 := hx3.below hB
    clear hB
    go_wp2_with (fail)
    refine (cmp_B _ _ _ n1 n1 hx1 hx1 0 (cmpI_eq _)).mono ?_
    rintro e w8 ⟨rfl, hB⟩
    replace HB := HB.below hB
    replace hx1 := hx1.below hB
    replace hx2 := hx2.below hB
    replace hx3 := hx3.below hB
    clear hB
    obtain ⟨k2, hk2⟩ : ∃ k, cmpI n1 n3 = k := ⟨_, rfl⟩
    have K2 := Lib.hid hk2
    have hq : (k2 ≤ 0 → n1 ≤ n3) := fun h => by rw [← hk2] at h; exact cmpI_le h
    clear hk2
    rcases Int.lt_or_le 0 k2 with hk | hk
    · clear hq
      go_wp2_with (fail)
      refine (cmp_B _ _ _ n1 n3 hx2 hx3 k2 K2.out).mono ?_
      rintro e w9 ⟨rfl, hB⟩
      replace HB := HB.below hB
      replace hx1 := hx1.below hB
      replace hx2 := hx2.below hB
      replace hx3 := hx3.below hB
      clear hB
      obtain ⟨A3, c3, rfl, hz1, hz2, hz3⟩ := id hx3
      clear hz1 hz2 hz3
      go_wp2_with (fail)
      refine (add_B _ _ _ n1 n3 hx1 hx3 (by omega) (by omega) _ rfl).mono ?_
      rintro e w10 ⟨t1, rfl, ht1, hB⟩
      replace HB := HB.below hB
      replace hx1 := hx1.below hB
      replace hx2 := hx2.below hB
      replace hx3 := hx3.below hB
      clear hB
      go_wp2_with (fail)
      refine (add_B _ _ _ n1 n3 hx2 hx3 (by omega) (by omega) _ rfl).mono ?_
      rintro e w11 ⟨t2, rfl, ht2, hB⟩
      replace HB := HB.below hB
      replace hx1 := hx1.below hB
      replace hx2 := hx2.below hB
      replace hx3 := hx3.below hB
      replace ht1 := ht1.below hB
      clear hB
      go_wp2_with (fail)
      refine (cmp_B _ _ _ (n1 + n3) (n1 + n3) ht1 ht2 (0) (cmpI_eq _)).mono ?_
      rintro e w12 ⟨rfl, hB⟩
      replace HB := HB.below hB
      replace hx1 := hx1.below hB
      replace hx2 := hx2.below hB
      replace hx3 := hx3.below hB
      replace ht1 := ht1.below hB
      replace ht2 := ht2.below hB
      clear hB
      go_wp2_with (fail)
      refine (shl_B _ _ n1 _ hx1 (by omega) (by omega) (by omega) _ (by rw [Int.toNat_natCast])).mono ?_
      rintro e w13 ⟨t3, rfl, ht3, hB⟩
      replace HB := HB.below hB
      replace hx1 := hx1.below hB
      replace hx2 := hx2.below hB
      replace hx3 := hx3.below hB
      clear hB
      go_wp2_with (fail)
      refine (shl_B _ _ n1 _ hx2 (by omega) (by omega) (by omega) _ (by rw [Int.toNat_natCast])).mono ?_
      rintro e w14 ⟨t4, rfl, ht4, hB⟩
      replace HB := HB.below hB
      replace hx1 := hx1.below hB
      replace hx2 := hx2.below hB
      replace hx3 := hx3.below hB
      replace ht3 := ht3.below hB
      clear hB
      go_wp2_with (fail)
      refine (cmp_B _ _ _ (n1 * 2 ^ (limbs n3).length) (n1 * 2 ^ (limbs n3).length) ht3 ht4 (0) (cmpI_eq _)).mono ?_
      rintro e w15 ⟨rfl, hB⟩
      replace HB := HB.below hB
      replace hx1 := hx1.below hB
      replace hx2 := hx2.below hB
      replace hx3 := hx3.below hB
      replace ht3 := ht3.below hB
      replace ht4 := ht4.below hB
      clear hB
      go_wp2
      go_ret
      exact ⟨rfl, HB⟩
    · have hle := hq hk
      go_wp2_with (fail)
      refine (cmp_B _ _ _ n1 n3 hx2 hx3 k2 K2.out).mono ?_
      rintro e w9 ⟨rfl, hB⟩
      replace HB := HB.below hB
      replace hx1 := hx1.below hB
      replace hx2 := hx2.below hB
      replace hx3 := hx3.below hB
      clear hB
      obtain ⟨k3, hk3⟩ : ∃ k, cmpI n1 n3 = k := ⟨_, rfl⟩
      have hk4 : k3 ≤ 0 := by rw [← hk3]; exact le_cmpI (by omega)
      have K3 := Lib.hid hk3
      clear hk3 hq
      go_wp2_with (fail)
      refine (cmp_B _ _ _ n1 n3 hx1 hx3 k3 K3.out).mono ?_
      rintro e w10 ⟨rfl, hB⟩
      replace HB := HB.below hB
      replace hx1 := hx1.below hB
      replace hx2 := hx2.below hB
      replace hx3 := hx3.below hB
      clear hB
      obtain ⟨A3, c3, rfl, hz1, hz2, hz3⟩ := id hx3
      clear hz1 hz2 hz3
      go_wp2_with (fail)
      refine (add_B _ _ _ n1 n3 hx1 hx3 (by omega) (by omega) _ rfl).mono ?_
      rintro e w11 ⟨t1, rfl, ht1, hB⟩
      replace HB := HB.below hB
      replace hx1 := hx1.below hB
      replace hx2 := hx2.below hB
      replace hx3 := hx3.below hB
      clear hB
      go_wp2_with (fail)
      refine (add_B _ _ _ n1 n3 hx2 hx3 (by omega) (by omega) _ rfl).mono ?_
      rintro e w12 ⟨t2, rfl, ht2, hB⟩
      replace HB := HB.below hB
      replace hx1 := hx1.below hB
      replace hx2 := hx2.below hB
      replace hx3 := hx3.below hB
      replace ht1 := ht1.below hB
      clear hB
      go_wp2_with (fail)
      refine (cmp_B _ _ _ (n1 + n3) (n1 + n3) ht1 ht2 (0) (cmpI_eq _)).mono ?_
      rintro e w13 ⟨rfl, hB⟩
      replace HB := HB.below hB
      replace hx1 := hx1.below hB
      replace hx2 := hx2.below hB
      replace hx3 := hx3.below hB
      replace ht1 := ht1.below hB
      replace ht2 := ht2.below hB
      clear hB
      go_wp2_with (fail)
      refine (shl_B _ _ n1 _ hx1 (by omega) (by omega) (by omega) _ (by rw [Int.toNat_natCast])).mono ?_
      rintro e w14 ⟨t3, rfl, ht3, hB⟩
      replace HB := HB.below hB
      replace hx1 := hx1.below hB
      replace hx2 := hx2.below hB
      replace hx3 := hx3.below hB
      clear hB
      go_wp2_with (fail)
      refine (shl_B _ _ n1 _ hx2 (by omega) (by omega) (by omega) _ (by rw [Int.toNat_natCast])).mono ?_
      rintro e w15 ⟨t4, rfl, ht4, hB⟩
      replace HB := HB.below hB
      replace hx1 := hx1.below hB
      replace hx2 := hx2.below hB
      replace hx3 := hx3.below hB
      replace ht3 := ht3.below hB
      clear hB
      go_wp2_with (fail)
      refine (cmp_B _ _ _ (n1 * 2 ^ (limbs n3).length) (n1 * 2 ^ (limbs n3).length) ht3 ht4 (0) (cmpI_eq _)).mono ?_
      rintro e w16 ⟨rfl, hB⟩
      replace HB := HB.below hB
      replace hx1 := hx1.below hB
      replace hx2 := hx2.below hB
      replace hx3 := hx3.below hB
      replace ht3 := ht3.below hB
      replace ht4 := ht4.below hB
      clear hB
      go_wp2
      go_ret
      exact ⟨rfl, HB⟩
  · go_wp2_with (fail)
    refine (cmp_B _ _ _ n1 n2 hx1 hx2 (1) (cmpI_gt (by omega))).mono ?_
    rintro e w5 ⟨rfl, hB⟩
    replace HB := HB.below hB
    replace hx1 := hx1.below hB
    replace hx2 := hx2.below hB
    replace hx3 := hx3.below hB
    clear hB
    go_wp2_with (fail)
    refine (cmp_B _ _ _ n2 n1 hx2 hx1 (-1) (cmpI_lt (by omega))).mono ?_
    rintro e w6 ⟨rfl, hB⟩
    replace HB := HB.below hB
    replace hx1 := hx1.below hB
    replace hx2 := hx2.below hB
    replace hx3 := hx3.below hB
    clear hB
    go_wp2_with (fail)
    refine (same_B _ _ _ _ _ hx1 hx2 false (decide_eq_false (fun h => by have := limbs_inj h; omega))).mono ?_
    rintro e w7 ⟨rfl, hB⟩
    replace HB := HB.below hB
    replace hx1 := hx1.below hB
    replace hx2 := hx2.below hB
    replace hx3 := hx3.below hB
    clear hB
    go_wp2_with (fail)
    refine (cmp_B _ _ _ n1 n1 hx1 hx1 0 (cmpI_eq _)).mono ?_
    rintro e w8 ⟨rfl, hB⟩
    replace HB := HB.below hB
    replace hx1 := hx1.below hB
    replace hx2 := hx2.below hB
    replace hx3 := hx3.below hB
    clear hB
    obtain ⟨A3, c3, rfl, hz1, hz2, hz3⟩ := id hx3
    clear hz1 hz2 hz3
    go_wp2_with (fail)
    refine (add_B _ _ _ n1 n3 hx1 hx3 (by omega) (by omega) _ rfl).mono ?_
    rintro e w9 ⟨t1, rfl, ht1, hB⟩
    replace HB := HB.below hB
    replace hx1 := hx1.below hB
    replace hx2 := hx2.below hB
    replace hx3 := hx3.below hB
    clear hB
    go_wp2_with (fail)
    refine (add_B _ _ _ n2 n3 hx2 hx3 (by omega) (by omega) _ rfl).mono ?_
    rintro e w10 ⟨t2, rfl, ht2, hB⟩
    replace HB := HB.below hB
    replace hx1 := hx1.below hB
    replace hx2 := hx2.below hB
    replace hx3 := hx3.below hB
    replace ht1 := ht1.below hB
    clear hB
    go_wp2_with (fail)
    refine (cmp_B _ _ _ (n1 + n3) (n2 + n3) ht1 ht2 (1) (cmpI_gt (by omega))).mono ?_
    rintro e w11 ⟨rfl, hB⟩
    replace HB := HB.below hB
    replace hx1 := hx1.below hB
    replace hx2 := hx2.below hB
    replace hx3 := hx3.below hB
    replace ht1 := ht1.below hB
    replace ht2 := ht2.below hB
    clear hB
    go_wp2_with (fail)
    refine (shl_B _ _ n1 _ hx1 (by omega) (by omega) (by omega) _ (by rw [Int.toNat_natCast])).mono ?_
    rintro e w12 ⟨t3, rfl, ht3, hB⟩
    replace HB := HB.below hB
    replace hx1 := hx1.below hB
    replace hx2 := hx2.below hB
    replace hx3 := hx3.below hB
    clear hB
    go_wp2_with (fail)
    refine (shl_B _ _ n2 _ hx2 (by omega) (by omega) (by omega) _ (by rw [Int.toNat_natCast])).mono ?_
    rintro e w13 ⟨t4, rfl, ht4, hB⟩
    replace HB := HB.below hB
    replace hx1 := hx1.below hB
    replace hx2 := hx2.below hB
    replace hx3 := hx3.below hB
    replace ht3 := ht3.below hB
    clear hB
    go_wp2_with (fail)
    refine (cmp_B _ _ _ (n1 * 2 ^ (limbs n3).length) (n2 * 2 ^ (limbs n3).length) ht3 ht4 (1) (cmpI_shl_gt hc)).mono ?_
    rintro e w14 ⟨rfl, hB⟩
    replace HB := HB.below hB
    replace hx1 := hx1.below hB
    replace hx2 := hx2.below hB
    replace hx3 := hx3.below hB
    replace ht3 := ht3.below hB
    replace ht4 := ht4.below hB
    clear hB
    go_wp2
    go_ret
    exact ⟨rfl, HB⟩

set_option maxRecDepth 100000 in
theorem lifted_NatOrder (os : Os) (started : os.Started) (H : Type) (enc : TypeId × Value → H) :
    ReturnsInHanded {} Try.checked os 9 .any (Rows.natOrderSpec.pre6 enc Try.prog Try.f9 Rows.natOrderRow.domain false) (Rows.natOrderSpec.post enc Try.prog Try.f9 false true false false) := by
  refine returnsInHanded_of_change (C := Try.checked) own started (by kernel_rfl) Try.func9
    (ChangeSpec.witness6 (enc := enc) (C := Try.checked) false ⟨#[], #[.slice none 0 0, .slice none 0 0, .slice none 0 0], []⟩ 8 (by kernel_rfl) (by kernel_rfl) (by kernel_rfl) (by kernel_rfl)) ?_
  intro W base args ds gs before hval hW _ _
  have hW' := hW
  obtain ⟨p, q, hA, hV, rfl, _, _⟩ := hW
  have hlt : ∀ x ∈ p ++ q, x.block < W.heap.size := fun x hx => hW'.lt x hx
  have hA2 : DataW.TrodAll enc Try.prog W 0 (fun _ => true) true Try.f9.params.toList args.toList ds p := hA
  rw [Try.params9] at hA2 hval
  clear hA
  obtain ⟨v0, vs0, d0, ds0, p0, q0, hargs0, rfl, rfl, h0, r0⟩ := trodAll_cons hA2
  obtain ⟨v1, vs1, d1, ds1, p1, q1, hargs1, rfl, rfl, h1, r1⟩ := trodAll_cons r0
  obtain ⟨v2, vs2, d2, ds2, p2, q2, hargs2, rfl, rfl, h2, r2⟩ := trodAll_cons r1
  obtain ⟨hn1, rfl, rfl⟩ := trodAll_nil r2
  subst hn1
  subst hargs2
  subst hargs1
  obtain rfl : args = #[v0, v1, v2] := by cases args; simp_all
  obtain ⟨rfl, rfl⟩ := trodVars_none hV
  obtain ⟨xs0, u0⟩ := open_limbs (hval 0 22 v0 rfl rfl) h0 (fun x hx => hlt x (by simp [hx]))
  obtain ⟨xs1, u1⟩ := open_limbs (hval 1 22 v1 rfl rfl) h1 (fun x hx => hlt x (by simp [hx]))
  obtain ⟨xs2, u2⟩ := open_limbs (hval 2 22 v2 rfl rfl) h2 (fun x hx => hlt x (by simp [hx]))
  refine (NatOrder_walk W _ _ u0 _ _ u1 _ _ u2).mono fun e W' ⟨he, hB⟩ => ?_
  subst he
  exact ⟨_, rfl, law_post hW' rfl (by rw [Try.params9]; decide +kernel) rfl rfl rfl rfl hB⟩

/-- The statement. -/
theorem natOrder_holds : Rows.NatOrderSaid :=
  OpenClaim.holds_of_wide 9 Try.f9 rfl rfl rfl rfl rfl rfl rfl ⟨rfl, rfl, rfl, rfl, rfl⟩ rfl rfl rfl rfl rfl (by kernel_rfl) Try.func9 (by kernel_rfl)
    (of_decide_eq_true (by kernel_rfl)) (by unfold Func.isWrapper; first | (rw [if_pos (by decide +kernel)]; kernel_rfl) | (rw [if_neg (by decide +kernel)]; exact ⟨rfl, rfl⟩))
    (fun os started H enc _ => lifted_NatOrder os started H enc)
end Go.Proofs.Ytnjkdplhoihkiaa
