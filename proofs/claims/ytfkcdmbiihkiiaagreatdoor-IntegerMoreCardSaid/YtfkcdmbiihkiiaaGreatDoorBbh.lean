/- The document's division, walked. -/
import Derived.Test.YtfkcdmbiihkiiaaGreatDoorBbg
import Derived.Test.YtfkcdmbiihkiiaaGreatDoorBaw
import Derived.Test.YtfkcdmbiihkiiaaGreatDoorBaj
import Derived.Test.YtfkcdmbiihkiiaaGreatDoorBbf
import Derived.Test.YtfkcdmbiihkiiaaGreatDoorBbd
import Derived.Deep.RegionHeld3

namespace Go.Proofs.YtfkcdmbiihkiiaaGreatDoor
open Go.RowKit
set_option linter.unusedVariables false
set_option maxHeartbeats 400000

set_option maxRecDepth 100000 in
set_option maxHeartbeats 8000000 in
theorem rdm_D (w : World) (va vb : Value) (a b q r : Nat) (h_a : Un w va a) (h_b : Un w vb b) (hla : (limbs a).length ≤ 200) (hlb : (limbs b).length ≤ 200) (h0b : b ≠ 0) (hq : a / b = q) (hr : a % b = r) :
    Calls Tryz.prog 53 #[va, vb] w fun e w' => Dv w w' e q r := by
  unfold Dv
  have HB := Ext.refl w
  have hnzb := limbs_nz h0b
  have HLB := Lib.hid hlb
  obtain ⟨Ab, cb, rfl, hcb⟩ := U.shape (U.asUn h_b)
  obtain ⟨Aa, ca, rfl, hca⟩ := U.shape (U.asUn h_a)
  obtain ⟨Lb, hLb⟩ : ∃ Lb, (limbs b).length = Lb := ⟨_, rfl⟩
  obtain ⟨La, hLa⟩ : ∃ La, (limbs a).length = La := ⟨_, rfl⟩
  obtain ⟨bl, hbl⟩ : ∃ bl, blen a = bl := ⟨_, rfl⟩
  rw [hLb] at h_b hlb hnzb ⊢
  rw [hLa] at h_a hla ⊢
  have hL0 : ((Lb : Int) == 0) = false := by rw [beq_eq_false_iff_ne]; omega
  have hL1 : ¬ Lb = 0 := by omega
  have hbl2 : bl ≤ 32 * La := by rw [← hbl, ← hLa]; exact blen_le_len a
  have HBits := Lib.hid (fun W (h : Un W (.slice Aa La ca) a) => rbits_B W _ a h (by omega) (bl : Int) (by rw [hbl]))
  have HBit := Lib.hid (fun W (j : Nat) (hj : j ≤ 10000) k (hk : a / 2 ^ j % 2 = k) (h : Un W (.slice Aa La ca) a) => rbit_B W _ a (j : Int) h (by omega) (by omega) (k : Int) (by rw [bitN_nat, hk]))
  have HS0 : Hid (RdmI a b La bl (List.replicate La 0)) := by
    refine ⟨by simp, by simp, ?_⟩
    rw [val_replicate_zero, Nat.div_eq_of_lt (show a < 2 ^ bl by rw [← hbl]; exact lt_pow_blen a), Nat.zero_div, Nat.zero_mul]
  have HR0 : Hid (a / 2 ^ bl % b = 0) := by rw [Hid, Nat.div_eq_of_lt (show a < 2 ^ bl by rw [← hbl]; exact lt_pow_blen a), Nat.zero_mod]
  have HDN : Hid (∀ o, RdmI a b La 0 o → val o = q) := fun o h => by
    have := h.val
    rwa [Nat.pow_zero, Nat.div_one, Nat.mul_one, hq] at this
  have HDR : Hid (∀ r', a / 2 ^ 0 % b = r' → r' = r) := fun r' h => by
    rw [Nat.pow_zero, Nat.div_one, hr] at h; exact h.symm
  have HB0 := Lib.hid (show 0 < b by omega)
  have HLL : Hid (∀ x, x ≤ 2 * b + 1 → (limbs x).length ≤ 300) := fun x h => by
    have h1 : (limbs b).length ≤ 200 := by omega
    have h2 := len_add h1 h1
    have h3 : (limbs 1).length ≤ 1 := by rw [limbs_small 1 (by decide) (by decide)]; simp
    have h4 := len_add h2 h3
    exact Nat.le_trans (len_mono (show x ≤ b + b + 1 by omega)) (Nat.le_trans h4 (by decide))
  obtain ⟨i0, hi, hz0, hz1, hz2⟩ := info_parts info32
  obtain ⟨B, hB⟩ : ∃ B, w.heap.size = B := ⟨_, rfl⟩
  have HBS := Lib.hid hB
  clear hLb hLa hbl hq hr hcb hca hnzb h0b
  have ha0 := h_a
  have hb0 := h_b
  go_enter Tryz.func53, Tryz.ntmps53
  go_wp2_with (at_make; refine wpList_make_full _ rfl _ _ 22 rfl w.heap.size 56 i0 (.int .u32 0) 1 Tryz.underlying22 hi hz0 hz1 _ _ _ _ La rfl rfl (by omega) (by omega) (by rw [hz2]; omega) (by unfold maxLen; omega) (Nat.le_refl _) ?_; intro w1 hown hgrow)
  have ho0 : Own w1 w.heap.size (.slice (some ⟨w.heap.size, 0, none⟩) La La) (List.replicate La 0) := by
    have := Own.zeros hown
    rwa [List.length_replicate] at this
  have hE0 : Ext w w1 := (Ext.refl w).grown hgrow (Nat.le_refl _) (fun _ h => by cases h)
  rw [hB] at ho0
  replace h_a := U.below (U.asUn h_a) hE0
  replace h_b := U.below (U.asUn h_b) hE0
  clear hown hgrow hi hz0 hz1 hz2 i0 HB
  have hwB := ho0.block.2
  go_wp2_with (fail)
  refine (HBits.out _ (U.alloc (U.asUn h_a) _)).mono ?_
  rintro e w2 ⟨rfl, hB2⟩
  have hR0 : Un w2 (.slice (some ⟨w1.heap.size, 0, none⟩) 0 0) 0 := U.un (U.nil_ _ _ _) limbs_zero
  have hF0 : Fr0 (B + 1) (.slice (some ⟨w1.heap.size, 0, none⟩) 0 0) := fun ad n c e => by
    injection e with e1 _ _
    injection e1 with e1
    subst e1
    exact hwB
  replace ho0 := (ho0.alloc (.cells #[] 56)).ext hB2
  replace hE0 := (hE0.alloc (.cells #[] 56)).below hB2
  replace h_a := U.below (U.alloc (U.asUn h_a) _) hB2
  replace h_b := U.below (U.alloc (U.asUn h_b) _) hB2
  clear hB2 hwB HBits
  go_wp2
  go_loopw [8, 9] (fun s8 s9 wr => ∃ (j : Nat) (z : Int) (R : Nat) (o : List Nat), j ≤ bl ∧ s9 = .int .i64 z ∧ z = (j : Int) - 1 ∧ Un wr s8 R ∧ Fr0 (B + 1) s8 ∧ Hid (a / 2 ^ j % b = R) ∧ Hid (RdmI a b La j o) ∧ Own wr B (.slice (some ⟨B, 0, none⟩) La La) o ∧ Ext w wr) (fun _ s9 _ => (intOf s9 + 1).toNat)
  case atStart => exact ⟨bl, _, 0, _, Nat.le_refl _, rfl, rfl, hR0, hF0, HR0, HS0, ho0, hE0⟩
  case round =>
    clear hR0 hF0 HR0 HS0 ho0 h_a h_b hE0
    obtain ⟨j, z, R, o, hj, rfl, hz, hR, hf, HRO, HO, hown, hE⟩ := hrel
    have h_a := U.below (U.asUn ha0) hE
    have h_b := U.below (U.asUn hb0) hE
    cases j with
    | zero =>
      obtain rfl : z = -1 := by omega
      obtain rfl := HDR.out R HRO.out
      have hu := hown.toU HO.out.lt (by rw [HO.out.len]; omega)
      have hlo := HO.out.len
      have HM1 := Lib.hid (rmake_B _ _ o hu (by omega) q (HDN.out o HO.out))
      have HM2 := Lib.hid (fun W (h : Un W u8 R) => rmake_B W _ (limbs R) h (by have := HLL.out R (by have := HRO.out; have := Nat.mod_lt (a / 2 ^ 0) HB0.out; omega); omega) R (val_limbs R))
      clear hu hlo hown HO HDN HDR hz h_a h_b HLL hf
      go_wp2_with (fail)
      refine HM1.out.mono ?_
      rintro e w3 ⟨v3, rfl, hv3, hB3⟩
      replace hR := U.below (U.asUn hR) hB3
      replace hE := hE.below hB3
      clear hB3 HM1
      go_wp2_with (fail)
      refine (HM2.out _ hR).mono ?_
      rintro e w4 ⟨v4, rfl, hv4, hB4⟩
      replace hE := hE.below hB4
      have HF : Hid (∃ x' y', Ending.returned (.tuple #[v3, v4, .int .i64 0]) = .returned (.tuple #[x', y', .int .i64 0]) ∧ Un w4 x' q ∧ Un w4 y' R) := ⟨_, _, rfl, U.below (U.asUn hv3) hB4, hv4⟩
      clear hB4 HM2 hv3 hv4 hR
      go_wp2
      go_ret3
      exact ⟨HF.out, hE⟩
    | succ j =>
      obtain rfl : z = (j : Int) := by omega
      clear hz
      have hwr := hown.block.2
      have hRb : R < b := by rw [← HRO.out]; exact Nat.mod_lt _ HB0.out
      obtain ⟨R1, hR1⟩ : ∃ R1, R * 2 ^ 1 = R1 := ⟨_, rfl⟩
      have HR1 := Lib.hid hR1
      have hj2 : j ≤ 10000 := by omega
      obtain ⟨k, hk⟩ : ∃ k, j / 32 = k := ⟨_, rfl⟩
      obtain ⟨s, hs⟩ : ∃ s, j % 32 = s := ⟨_, rfl⟩
      obtain ⟨P, hP⟩ : ∃ P, 2 ^ s = P := ⟨_, rfl⟩
      obtain ⟨x, hxe⟩ : ∃ x, lb o k = x := ⟨_, rfl⟩
      have hkl : k < La := by omega
      have hkl2 : k < o.length := by rw [HO.out.len]; exact hkl
      have k1 : (j : Int) / 32 = (k : Int) := by omega
      have k2 : (j : Int).tdiv 32 = (k : Int) := by rw [Int.tdiv_eq_ediv_of_nonneg (Int.natCast_nonneg _)]; exact k1
      have k3 : (j : Int) % 32 = (s : Int) := by omega
      have k4 : (j : Int).tmod 32 = (s : Int) := by rw [Int.tmod_eq_emod_of_nonneg (Int.natCast_nonneg _)]; exact k3
      have k5 : (0 : Int) ≤ (k : Int) := Int.natCast_nonneg k
      have k6 : (k : Int) < (La : Int) := by omega
      have k7 : (0 : Int) ≤ (s : Int) := Int.natCast_nonneg s
      have k8 := i64_fit (show k ≤ 1000000 by omega)
      have k9 := i64_fit (show s ≤ 1000000 by omega)
      have hPb : P ≤ 2147483648 := by
        rw [← hP]
        show 2 ^ s ≤ 2 ^ 31
        exact Nat.pow_le_pow_right (by decide) (by omega)
      have p1 : (2 : Int) ^ s = (P : Int) := by rw [← hP, Int.natCast_pow]; rfl
      have p2 := u32_fit (show P < 4294967296 by omega)
      have p3 := u32_mod (show P < 4294967296 by omega)
      rcases (show a / 2 ^ j % 2 = 0 ∨ a / 2 ^ j % 2 = 1 by omega) with hbit | hbit
      · obtain ⟨R2, hR2⟩ : ∃ R2, R1 = R2 := ⟨_, rfl⟩
        subst hR2
        by_cases hge : b ≤ R1
        · obtain ⟨d, hd⟩ : ∃ d, R1 - b = d := ⟨_, rfl⟩
          obtain ⟨h1, h2, h3⟩ := HO.out.more HB0.out 0 R k s P x hbit HRO.out (by omega) hk hs hP hxe hkl
          obtain ⟨y, hy⟩ : ∃ y, x + P = y := ⟨_, rfl⟩
          rw [hy] at h1 h2
          have HST := Lib.hid h2
          have HRR : Hid (a / 2 ^ j % b = d) := by rw [Hid, h3]; omega
          have q1 : (x : Int) + (P : Int) = (y : Int) := by omega
          have q2 := u32_fit h1
          have q3 := u32_mod h1
          have HH := Lib.hid (And.intro hj2 (And.intro hbit (And.intro hge (And.intro hd (And.intro hkl2 (And.intro hxe (And.intro hRb (And.intro hR1 (And.intro hbl2 (And.intro hlb hwr))))))))))
          clear hk hs hP h1 h2 h3 hy HO HRO hj2 hbit hge hd hkl2 hxe hRb hR1 hkl hPb hbl2 hlb hwr
          go_wp2_with (fail)
          refine (rshlF _ _ R 1 hR (by decide) (by have := HH.out; have := HLL.out R (by omega); omega) R1 HR1.out).mono ?_
          rintro e w3 ⟨v3, rfl, hv3, hf3, hB3⟩
          replace hf3 : Fr0 (B + 1) v3 := hf3.mono HH.out.2.2.2.2.2.2.2.2.2.2
          replace h_a := U.below (U.asUn h_a) hB3
          replace h_b := U.below (U.asUn h_b) hB3
          replace hown := hown.ext hB3
          replace hE := hE.below hB3
          clear hB3 hR hf
          go_wp2_with (fail)
          refine (HBit.out _ j HH.out.1 0 HH.out.2.1 h_a).mono ?_
          rintro e w4 ⟨rfl, hB4⟩
          replace h_a := U.below (U.asUn h_a) hB4
          replace h_b := U.below (U.asUn h_b) hB4
          replace hv3 := U.below (U.asUn hv3) hB4
          replace hown := hown.ext hB4
          replace hE := hE.below hB4
          clear hB4
          have hv5 := hv3
          have hf6 := hf3
          clear hv3 hf3
          have hw5 := hown.block.2
          go_wp2_with (fail)
          refine (rsubF _ _ _ R1 b hv5 h_b (by have := HH.out; have := HR1.out; have := HLL.out R1 (by omega); omega) (by have := HLB.out; omega) true (by rw [decide_eq_true_iff]; exact HH.out.2.2.1) d HH.out.2.2.2.1).mono ?_
          rintro e w6 ⟨v6, rfl, hv6, hf7, hB6⟩
          replace hf7 : Fr0 (B + 1) v6 := hf7.mono hw5
          replace hown := hown.ext hB6
          replace hE := hE.below hB6
          replace hv5 := U.below (U.asUn hv5) hB6
          clear hB6 h_a h_b
          have hcz := hown.rd.2 k HH.out.2.2.2.2.1
          rw [HH.out.2.2.2.2.2.1] at hcz
          have hfz := hown.frozen' k
          have hBq : But B w6 (w6.setCell ⟨B, k, none⟩ (.int .u32 (y : Nat))) := (But.refl B w6).setCell k _
          have hown2 := hown.set' k y
          have hv7 := U.apart (U.asUn hv6) hf7 (Nat.lt_succ_self B) hBq
          have hE2 := hE.setCell (p := ⟨B, k, none⟩) (by rw [HBS.out]; exact Nat.le_refl _) (.int .u32 (y : Nat))
          clear hv5 hf6 hv6 hown hE hBq hw5
          go_wp2
          go_region
          all_goals
            go_wp2
            go_roundw
            case rel => exact ⟨j, _, d, _, by omega, rfl, rfl, hv7, hf7, HRR, HST, hown2.drew, hE2.drew⟩
            case measure => simp [intOf]
        · obtain ⟨d, hd⟩ : ∃ d, R1 - b = d := ⟨_, rfl⟩
          obtain ⟨h2, h3⟩ := HO.out.none 0 R hbit HRO.out (by omega)
          have HST := Lib.hid h2
          have HRR : Hid (a / 2 ^ j % b = R1) := by rw [Hid, h3]; omega
          have HH := Lib.hid (And.intro hj2 (And.intro hbit (And.intro hge (And.intro hd (And.intro hkl2 (And.intro hxe (And.intro hRb (And.intro hR1 (And.intro hbl2 (And.intro hlb hwr))))))))))
          clear hk hs hP h2 h3 HO HRO hj2 hbit hge hd hkl2 hxe hRb hR1 hkl hPb hbl2 hlb hwr
          go_wp2_with (fail)
          refine (rshlF _ _ R 1 hR (by decide) (by have := HH.out; have := HLL.out R (by omega); omega) R1 HR1.out).mono ?_
          rintro e w3 ⟨v3, rfl, hv3, hf3, hB3⟩
          replace hf3 : Fr0 (B + 1) v3 := hf3.mono HH.out.2.2.2.2.2.2.2.2.2.2
          replace h_a := U.below (U.asUn h_a) hB3
          replace h_b := U.below (U.asUn h_b) hB3
          replace hown := hown.ext hB3
          replace hE := hE.below hB3
          clear hB3 hR hf
          go_wp2_with (fail)
          refine (HBit.out _ j HH.out.1 0 HH.out.2.1 h_a).mono ?_
          rintro e w4 ⟨rfl, hB4⟩
          replace h_a := U.below (U.asUn h_a) hB4
          replace h_b := U.below (U.asUn h_b) hB4
          replace hv3 := U.below (U.asUn hv3) hB4
          replace hown := hown.ext hB4
          replace hE := hE.below hB4
          clear hB4
          have hv5 := hv3
          have hf6 := hf3
          clear hv3 hf3
          have hw5 := hown.block.2
          go_wp2_with (fail)
          refine (rsubF _ _ _ R1 b hv5 h_b (by have := HH.out; have := HR1.out; have := HLL.out R1 (by omega); omega) (by have := HLB.out; omega) false (by rw [decide_eq_false_iff_not]; exact HH.out.2.2.1) d HH.out.2.2.2.1).mono ?_
          rintro e w6 ⟨v6, rfl, hv6, hf7, hB6⟩
          replace hf7 : Fr0 (B + 1) v6 := hf7.mono hw5
          replace hown := hown.ext hB6
          replace hE := hE.below hB6
          replace hv5 := U.below (U.asUn hv5) hB6
          clear hB6 h_a h_b
          clear hv6 hf7 hw5
          go_wp2
          go_roundw
          case rel => exact ⟨j, _, R1, _, by omega, rfl, rfl, hv5, hf6, HRR, HST, hown, hE⟩
          case measure => simp [intOf]
      · obtain ⟨R2, hR2⟩ : ∃ R2, R1 + 1 = R2 := ⟨_, rfl⟩
        have HR2 := Lib.hid hR2
        by_cases hge : b ≤ R2
        · obtain ⟨d, hd⟩ : ∃ d, R2 - b = d := ⟨_, rfl⟩
          obtain ⟨h1, h2, h3⟩ := HO.out.more HB0.out 1 R k s P x hbit HRO.out (by omega) hk hs hP hxe hkl
          obtain ⟨y, hy⟩ : ∃ y, x + P = y := ⟨_, rfl⟩
          rw [hy] at h1 h2
          have HST := Lib.hid h2
          have HRR : Hid (a / 2 ^ j % b = d) := by rw [Hid, h3]; omega
          have q1 : (x : Int) + (P : Int) = (y : Int) := by omega
          have q2 := u32_fit h1
          have q3 := u32_mod h1
          have HH := Lib.hid (And.intro hj2 (And.intro hbit (And.intro hge (And.intro hd (And.intro hkl2 (And.intro hxe (And.intro hRb (And.intro hR1 (And.intro hbl2 (And.intro hlb hwr))))))))))
          clear hk hs hP h1 h2 h3 hy HO HRO hj2 hbit hge hd hkl2 hxe hRb hR1 hkl hPb hbl2 hlb hwr hR2
          go_wp2_with (fail)
          refine (rshlF _ _ R 1 hR (by decide) (by have := HH.out; have := HLL.out R (by omega); omega) R1 HR1.out).mono ?_
          rintro e w3 ⟨v3, rfl, hv3, hf3, hB3⟩
          replace hf3 : Fr0 (B + 1) v3 := hf3.mono HH.out.2.2.2.2.2.2.2.2.2.2
          replace h_a := U.below (U.asUn h_a) hB3
          replace h_b := U.below (U.asUn h_b) hB3
          replace hown := hown.ext hB3
          replace hE := hE.below hB3
          clear hB3 hR hf
          go_wp2_with (fail)
          refine (HBit.out _ j HH.out.1 1 HH.out.2.1 h_a).mono ?_
          rintro e w4 ⟨rfl, hB4⟩
          replace h_a := U.below (U.asUn h_a) hB4
          replace h_b := U.below (U.asUn h_b) hB4
          replace hv3 := U.below (U.asUn hv3) hB4
          replace hown := hown.ext hB4
          replace hE := hE.below hB4
          clear hB4
          have hl := Lib.hid (pow_lit w4)
          have hw4 := hown.block.2
          go_wp2_with (fail)
          refine (raddF _ _ _ R1 1 (U.alloc (U.asUn hv3) _) hl.out (by have := HH.out; have := HR1.out; have := HLL.out R1 (by omega); omega) (by have := len_1; rw [limbs_small 1 (by decide) (by decide)]; simp) R2 HR2.out).mono ?_
          rintro e w5 ⟨v5, rfl, hv5, hf5, hB5⟩
          have hf6 : Fr0 (B + 1) v5 := hf5.mono (by simp; omega)
          replace h_a := U.below (U.alloc (U.asUn h_a) _) hB5
          replace h_b := U.below (U.alloc (U.asUn h_b) _) hB5
          replace hown := (hown.alloc _).ext hB5
          replace hE := (hE.alloc _).below hB5
          clear hB5 hf5 hv3 hf3 hl hw4
          have hw5 := hown.block.2
          go_wp2_with (fail)
          refine (rsubF _ _ _ R2 b hv5 h_b (by have := HH.out; have := HR1.out; have := HR2.out; have := HLL.out R2 (by omega); omega) (by have := HLB.out; omega) true (by rw [decide_eq_true_iff]; exact HH.out.2.2.1) d HH.out.2.2.2.1).mono ?_
          rintro e w6 ⟨v6, rfl, hv6, hf7, hB6⟩
          replace hf7 : Fr0 (B + 1) v6 := hf7.mono hw5
          replace hown := hown.ext hB6
          replace hE := hE.below hB6
          replace hv5 := U.below (U.asUn hv5) hB6
          clear hB6 h_a h_b
          have hcz := hown.rd.2 k HH.out.2.2.2.2.1
          rw [HH.out.2.2.2.2.2.1] at hcz
          have hfz := hown.frozen' k
          have hBq : But B w6 (w6.setCell ⟨B, k, none⟩ (.int .u32 (y : Nat))) := (But.refl B w6).setCell k _
          have hown2 := hown.set' k y
          have hv7 := U.apart (U.asUn hv6) hf7 (Nat.lt_succ_self B) hBq
          have hE2 := hE.setCell (p := ⟨B, k, none⟩) (by rw [HBS.out]; exact Nat.le_refl _) (.int .u32 (y : Nat))
          clear hv5 hf6 hv6 hown hE hBq hw5
          go_wp2
          go_region
          all_goals
            go_wp2
            go_roundw
            case rel => exact ⟨j, _, d, _, by omega, rfl, rfl, hv7, hf7, HRR, HST, hown2.drew, hE2.drew⟩
            case measure => simp [intOf]
        · obtain ⟨d, hd⟩ : ∃ d, R2 - b = d := ⟨_, rfl⟩
          obtain ⟨h2, h3⟩ := HO.out.none 1 R hbit HRO.out (by omega)
          have HST := Lib.hid h2
          have HRR : Hid (a / 2 ^ j % b = R2) := by rw [Hid, h3]; omega
          have HH := Lib.hid (And.intro hj2 (And.intro hbit (And.intro hge (And.intro hd (And.intro hkl2 (And.intro hxe (And.intro hRb (And.intro hR1 (And.intro hbl2 (And.intro hlb hwr))))))))))
          clear hk hs hP h2 h3 HO HRO hj2 hbit hge hd hkl2 hxe hRb hR1 hkl hPb hbl2 hlb hwr hR2
          go_wp2_with (fail)
          refine (rshlF _ _ R 1 hR (by decide) (by have := HH.out; have := HLL.out R (by omega); omega) R1 HR1.out).mono ?_
          rintro e w3 ⟨v3, rfl, hv3, hf3, hB3⟩
          replace hf3 : Fr0 (B + 1) v3 := hf3.mono HH.out.2.2.2.2.2.2.2.2.2.2
          replace h_a := U.below (U.asUn h_a) hB3
          replace h_b := U.below (U.asUn h_b) hB3
          replace hown := hown.ext hB3
          replace hE := hE.below hB3
          clear hB3 hR hf
          go_wp2_with (fail)
          refine (HBit.out _ j HH.out.1 1 HH.out.2.1 h_a).mono ?_
          rintro e w4 ⟨rfl, hB4⟩
          replace h_a := U.below (U.asUn h_a) hB4
          replace h_b := U.below (U.asUn h_b) hB4
          replace hv3 := U.below (U.asUn hv3) hB4
          replace hown := hown.ext hB4
          replace hE := hE.below hB4
          clear hB4
          have hl := Lib.hid (pow_lit w4)
          have hw4 := hown.block.2
          go_wp2_with (fail)
          refine (raddF _ _ _ R1 1 (U.alloc (U.asUn hv3) _) hl.out (by have := HH.out; have := HR1.out; have := HLL.out R1 (by omega); omega) (by have := len_1; rw [limbs_small 1 (by decide) (by decide)]; simp) R2 HR2.out).mono ?_
          rintro e w5 ⟨v5, rfl, hv5, hf5, hB5⟩
          have hf6 : Fr0 (B + 1) v5 := hf5.mono (by simp; omega)
          replace h_a := U.below (U.alloc (U.asUn h_a) _) hB5
          replace h_b := U.below (U.alloc (U.asUn h_b) _) hB5
          replace hown := (hown.alloc _).ext hB5
          replace hE := (hE.alloc _).below hB5
          clear hB5 hf5 hv3 hf3 hl hw4
          have hw5 := hown.block.2
          go_wp2_with (fail)
          refine (rsubF _ _ _ R2 b hv5 h_b (by have := HH.out; have := HR1.out; have := HR2.out; have := HLL.out R2 (by omega); omega) (by have := HLB.out; omega) false (by rw [decide_eq_false_iff_not]; exact HH.out.2.2.1) d HH.out.2.2.2.1).mono ?_
          rintro e w6 ⟨v6, rfl, hv6, hf7, hB6⟩
          replace hf7 : Fr0 (B + 1) v6 := hf7.mono hw5
          replace hown := hown.ext hB6
          replace hE := hE.below hB6
          replace hv5 := U.below (U.asUn hv5) hB6
          clear hB6 h_a h_b
          clear hv6 hf7 hw5
          go_wp2
          go_roundw
          case rel => exact ⟨j, _, R2, _, by omega, rfl, rfl, hv5, hf6, HRR, HST, hown, hE⟩
          case measure => simp [intOf]
end Go.Proofs.YtfkcdmbiihkiiaaGreatDoor
/- The document's division by nothing; its reciprocals, and its division by a limb. -/
namespace Go.Proofs.YtfkcdmbiihkiiaaGreatDoor
open Go.RowKit
set_option linter.unusedVariables false
set_option maxHeartbeats 400000

theorem rdm_Z (w : World) (va vb : Value) (hb : Un w vb 0) :
    Calls Tryz.prog 53 #[va, vb] w fun e w' => Dz w w' e := by
  unfold Dz
  obtain ⟨Ab, cb, rfl⟩ := un_zero hb
  have hEw := Ext.refl w
  clear hb
  go_enter Tryz.func53, Tryz.ntmps53
  go_wp2
  go_ret3
  exact ⟨rfl, hEw⟩

end Go.Proofs.YtfkcdmbiihkiiaaGreatDoor
/- The document's quotients. -/
namespace Go.Proofs.YtfkcdmbiihkiiaaGreatDoor
open Go.RowKit
set_option linter.unusedVariables false
set_option maxHeartbeats 400000

set_option maxRecDepth 100000 in
set_option maxHeartbeats 8000000 in
theorem rzdiv_Z (w : World) (va vb : Value) (a : Int) (ha : Zn w va a) (hb : Zn w vb 0) :
    Calls Tryz.prog 15 #[va, vb] w fun e w' => ZdZ w w' e := by
  unfold ZdZ
  obtain ⟨p, A, L, c, n, rfl, hu, hL, hz, -, hza, hzn⟩ := ha.open
  obtain ⟨q, B, K, d, m, rfl, hv, hK, hz2, -, hza2, hzn2⟩ := hb.open
  obtain rfl : m = 0 := by rw [← hza2]; rfl
  have hE0 := ((((Ext.refl w).alloc (.cells #[.bool p, .slice A L c] 24)).alloc (.cells #[.bool q, .slice B K d] 24)).alloc (.cells #[.bool false, .slice none 0 0] 24)).alloc (.cells #[.bool false, .slice none 0 0] 24)
  have hI0 := (Ib.new3 w (.cells #[.bool p, .slice A L c] 24) (.cells #[.bool q, .slice B K d] 24) false (.slice none 0 0) 24).ext ((Ext.refl _).alloc (.cells #[.bool false, .slice none 0 0] 24))
  have hJ0 := Ib.new3 (w.alloc (.cells #[.bool p, .slice A L c] 24)) (.cells #[.bool q, .slice B K d] 24) (.cells #[.bool false, .slice none 0 0] 24) false (.slice none 0 0) 24
  have hD := Lib.hid (rdm_Z _ (.slice A L c) (.slice B K d) (hv.below hE0))
  have hN : (w.alloc (.cells #[.bool p, .slice A L c] 24)).heap.size = w.heap.size + 1 := by simp
  rw [hN] at hJ0
  clear hza hzn hza2 hzn2 hz hz2 hL hK ha hb hu hv hN
  unfold Dz at hD
  go_enter Tryz.func15, Tryz.ntmps15
  go_wp2_with (go_at_call 53; refine hD.out.mono ?_; rintro e w2 ⟨rfl, hE2⟩; obtain ⟨i0, i1, i2, i3, i4⟩ := hI0.ext hE2; obtain ⟨j0, j1, j2, j3, j4⟩ := hJ0.ext hE2)
  (try simp only [Exit.inBlock, Exit.then])
  refine bodyPost_ret (v := .tuple #[.agg #[.bool false, .slice none 0 0], .agg #[.bool false, .slice none 0 0], .int .i64 3]) (show (results _ _).run _ _ = _ from ?_) rfl ⟨rfl, ((hE0.below hE2).put2 (by omega) _ _).put2 (by omega) _ _⟩
  simp only [results]
  go_simp

set_option maxRecDepth 100000 in
set_option maxHeartbeats 16000000 in
theorem rzdiv_D (w : World) (va vb : Value) (a b : Int) (ha : Zn w va a) (hb : Zn w vb b) (hl : (limbs a.natAbs).length ≤ 200) (hl2 : (limbs b.natAbs).length ≤ 200) (h0 : b ≠ 0) (x y : Int) (hx : a / b = x) (hy : a % b = y) :
    Calls Tryz.prog 15 #[va, vb] w fun e w' => ZdD w w' e x y := by
  unfold ZdD
  obtain ⟨p, A, L, c, n, rfl, hu, hL, hz, -, hza, hzn⟩ := ha.open
  obtain ⟨q, B, K, d, m, rfl, hv, hK, hz2, -, hza2, hzn2⟩ := hb.open
  rw [hza] at hl
  rw [hza2] at hl2
  have hm0 : m ≠ 0 := by omega
  obtain ⟨Q, hQ⟩ : ∃ Q, n / m = Q := ⟨_, rfl⟩
  obtain ⟨R, hR⟩ : ∃ R, n % m = R := ⟨_, rfl⟩
  have hQl : (limbs Q).length ≤ 200 := Nat.le_trans (len_mono (by rw [← hQ]; exact Nat.div_le_self _ _)) hl
  have hRm : R < m := by rw [← hR]; exact Nat.mod_lt _ (by omega)
  have hRl : (limbs R).length ≤ 200 := Nat.le_trans (len_mono (by omega)) hl2
  have hE0 := ((((Ext.refl w).alloc (.cells #[.bool p, .slice A L c] 24)).alloc (.cells #[.bool q, .slice B K d] 24)).alloc (.cells #[.bool false, .slice none 0 0] 24)).alloc (.cells #[.bool false, .slice none 0 0] 24)
  have hI0 := (Ib.new3 w (.cells #[.bool p, .slice A L c] 24) (.cells #[.bool q, .slice B K d] 24) false (.slice none 0 0) 24).ext ((Ext.refl _).alloc (.cells #[.bool false, .slice none 0 0] 24))
  have hJ0 := Ib.new3 (w.alloc (.cells #[.bool p, .slice A L c] 24)) (.cells #[.bool q, .slice B K d] 24) (.cells #[.bool false, .slice none 0 0] 24) false (.slice none 0 0) 24
  have hN : (w.alloc (.cells #[.bool p, .slice A L c] 24)).heap.size = w.heap.size + 1 := by simp
  rw [hN] at hJ0
  have hP0 := (Ib.new w p (.slice A L c) 24).ext ((((Ext.refl _).alloc (.cells #[.bool q, .slice B K d] 24)).alloc (.cells #[.bool false, .slice none 0 0] 24)).alloc (.cells #[.bool false, .slice none 0 0] 24))
  have hQ0 := (Ib.new2 w (.cells #[.bool p, .slice A L c] 24) q (.slice B K d) 24).ext (((Ext.refl _).alloc (.cells #[.bool false, .slice none 0 0] 24)).alloc (.cells #[.bool false, .slice none 0 0] 24))
  have hD := Lib.hid (rdm_D _ (.slice A L c) (.slice B K d) n m Q R (hu.below hE0) (hv.below hE0) hl hl2 hm0 hQ hR)
  have hv0 := hv.below hE0
  have hcs := len_cases R
  obtain ⟨LR, hLR⟩ : ∃ L, (limbs R).length = L := ⟨_, rfl⟩
  have HLR := Lib.hid hLR
  rw [hLR] at hcs
  by_cases hsp : p = true ∧ R ≠ 0
  · obtain ⟨rfl, hR0⟩ := hsp
    obtain ⟨k1, k2⟩ := sg_divmod2 q n m hm0 (by rw [hR]; exact hR0)
    rw [hQ, ← hz, ← hz2, hx] at k1
    rw [hR, ← hz, ← hz2, hy] at k2
    rw [show (!(true == q)) = !q by cases q <;> rfl] at k1
    have hQ1 : (limbs (Q + 1)).length ≤ 1000000000 := by
      have := len_mono (show Q + 1 ≤ Q + Q + 1 by omega)
      have h5 := mul_len_le (Q + 1) 1
      have h6 : (limbs (Q + 1)).length ≤ (limbs Q).length + 1 := by
        refine len_of ?_
        have h7 : Q < LB ^ (limbs Q).length := lt_of_len_le (Nat.le_refl _)
        rw [Nat.pow_succ]
        have h8 : LB ^ (limbs Q).length * 2 ≤ LB ^ (limbs Q).length * LB := Nat.mul_le_mul_left _ (by unfold LB; decide)
        omega
      omega
    have hmR : (limbs (m - R)).length ≤ 1000000000 := by have := len_mono (show m - R ≤ m by omega); omega
    have hAd := Lib.hid (fun W v u h g => radd_B W v u Q 1 h g (by omega) (by have := len_1; have h5 := len_of (k := 1) (show 1 < LB ^ 1 by unfold LB; decide); omega) (Q + 1) rfl)
    have hSb := Lib.hid (fun W v h g => rsub_B W (.slice B K d) v m R h g (by omega) (by omega) true (decide_eq_true (by omega)) (m - R) rfl)
    have hM1 := Lib.hid (fun W v (h : Un W v (Q + 1)) => rzmake W (!q) v (limbs (Q + 1)) h hQ1 (Q + 1) (val_limbs _) x k1)
    have hM2 := Lib.hid (fun W v (h : Un W v (m - R)) => rzmake W false v (limbs (m - R)) h hmR (m - R) (val_limbs _) y k2)
    have hlr : ¬ (LR = 0) := by omega
    have hlr2 : ((LR : Int) == 0) = false := by rw [beq_eq_false_iff_ne]; omega
    clear hl hl2 hza hzn hza2 hzn2 hz hz2 hL hK ha hb hu hv hN hx hy hQ hR h0 hm0 hcs hLR k1 k2 hRm hR0 hQ1 hmR hQl hRl
    unfold Dv at hD
    go_enter Tryz.func15, Tryz.ntmps15
    go_upto_region 7 with (first
      | (go_at_call 53; refine hD.out.mono ?_; rintro e w2 ⟨⟨vq, vr, rfl, hvq, hvr⟩, hE2⟩; obtain ⟨A2, c2, rfl, -⟩ := Un.sh hvq; obtain ⟨A3, c3, rfl, -⟩ := Un.sh hvr; rw [HLR.out] at hvr ⊢; obtain ⟨p0, p1, p2, p3, p4⟩ := hP0.ext hE2; obtain ⟨q0, q1, q2, q3, q4⟩ := hQ0.ext hE2; have hv2 := Un.below hv0 hE2)
      | (go_at_call 54; refine (hSb.out _ _ hv2 hvr).mono ?_; rintro e w3 ⟨u3, rfl, hu3, hE3⟩; obtain ⟨A5, c5, rfl, -⟩ := Un.sh hu3))
    have hE03 := (((hE0.below hE2).below hE3).drew)
    have hI3 := ((hI0.ext hE2).ext hE3).ext (Ext.refl _).drew
    have hJ3 := ((hJ0.ext hE2).ext hE3).ext (Ext.refl _).drew
    have hP3 := ((hP0.ext hE2).ext hE3).ext (Ext.refl _).drew
    have hQ3 := ((hQ0.ext hE2).ext hE3).ext (Ext.refl _).drew
    have hS0 : (w.heap.size + 1 + 1 + 1 < w3.drew.heap.size ∧ w3.drew.cell? ⟨w.heap.size, 0, none⟩ = some (.bool true) ∧ w3.drew.cell? ⟨w.heap.size, 1, none⟩ = some (.slice A L c) ∧ w3.drew.cell? ⟨w.heap.size + 1, 0, none⟩ = some (.bool q) ∧ w3.drew.cell? ⟨w.heap.size + 1, 1, none⟩ = some (.slice B K d)) ∧ Ext w w3.drew := ⟨⟨hJ3.1, hP3.2.1, hP3.2.2.1, hQ3.2.1, hQ3.2.2.1⟩, hE03⟩
    have hvq3 := ((Un.below hvq hE3).below (Ext.refl _).drew)
    have hu3' := Un.below hu3 (Ext.refl _).drew
    clear hP3 hQ3 hP0 hQ0 p0 p1 p2 p3 p4 q0 q1 q2 q3 q4
    go_region_held3 (fun X => (w.heap.size + 1 + 1 + 1 < X.heap.size ∧ X.cell? ⟨w.heap.size, 0, none⟩ = some (.bool true) ∧ X.cell? ⟨w.heap.size, 1, none⟩ = some (.slice A L c) ∧ X.cell? ⟨w.heap.size + 1, 0, none⟩ = some (.bool q) ∧ X.cell? ⟨w.heap.size + 1, 1, none⟩ = some (.slice B K d)) ∧ Ext w X)
      (first
        | assumption
        | with_reducible exact hS0
        | with_reducible exact keepS22 (by assumption)
        | with_reducible exact keepT22 (by assumption)
        | exact keepI22 (by assumption) (by assumption)
        | exact keepI22 (by assumption) ((Ext.refl _).alloc _))
      (first
        | (go_at_call 55; (refine (hAd.out _ _ _ (Un.below hvq3 ((Ext.refl _).alloc _)) (pow_lit _)).mono ?_); rintro e w4 ⟨u4, rfl, hu4, hE4⟩; have hE4' := ((Ext.refl w3.drew).alloc (.cells #[.int .u32 1] 56)).below hE4; obtain ⟨A4, c4, rfl, -⟩ := Un.sh hu4)
        | (go_at_call 22; ((with_reducible refine (hM1.out _ _ hu4).mono ?_); rintro e w6 ⟨u6, rfl, hz6, hE6⟩; obtain ⟨b6, A6, L6, c6, rfl⟩ := hz6.sh))
        | (go_at_call 22; (have hX7 := Un.below hu3' hE4'; have hY7 := Un.below hX7 hE6; (with_reducible refine (hM2.out _ _ hY7).mono ?_); rintro e w7 ⟨u7, rfl, hz7, hE7⟩; obtain ⟨b7, A7, L7, c7, rfl⟩ := hz7.sh; have hI7 := ((hI3.ext hE4').ext hE6).ext hE7; have hJ7 := ((hJ3.ext hE4').ext hE6).ext hE7; obtain ⟨i0, i1, i2, i3, i4⟩ := id hI7; obtain ⟨j0, j1, j2, j3, j4⟩ := id hJ7; have hEE := ((hE03.below hE4').below hE6).below hE7)))
    have hZ6 := hz6.below hE7
    have HI7 := Lib.hid hI7
    have HJ7 := Lib.hid hJ7
    clear hI7 hJ7
    go_wp2
    (try simp only [Exit.inBlock, Exit.then])
    refine bodyPost_ret (v := .tuple #[.agg #[.bool b6, .slice A6 L6 c6], .agg #[.bool b7, .slice A7 L7 c7], .int .i64 0]) (show (results _ _).run _ _ = _ from ?_) rfl ⟨⟨_, _, rfl, (hZ6.put2 HI7.out (slice_no_int _ _ _) _ _).put2 (HJ7.out.other (by omega) _ _) (slice_no_int _ _ _) _ _, (hz7.put2 HI7.out (slice_no_int _ _ _) _ _).put2 (HJ7.out.other (by omega) _ _) (slice_no_int _ _ _) _ _⟩, (hEE.put2 (by omega) _ _).put2 (by omega) _ _⟩
    simp only [results]
    go_simp
  · have hpr : p = false ∨ R = 0 := by
      cases p
      · exact .inl rfl
      · right
        rcases Nat.eq_zero_or_pos R with h | h
        · exact h
        · exact absurd ⟨rfl, by omega⟩ hsp
    obtain ⟨k1, k2⟩ := sg_divmod p q n m hm0 (by rw [hR]; exact hpr)
    rw [hQ, ← hz, ← hz2, hx] at k1
    rw [hR, ← hz, ← hz2, hy] at k2
    have hM1 := Lib.hid (fun W v (h : Un W v Q) => rzmake W (!(p == q)) v (limbs Q) h (by omega) Q (val_limbs _) x k1)
    have hM2 := Lib.hid (fun W v (h : Un W v R) => rzmake W false v (limbs R) h (by omega) R (val_limbs _) y k2)
    have hcase : p = false ∨ (p = true ∧ LR = 0) := by
      rcases hpr with h | h
      · exact .inl h
      · cases p
        · exact .inl rfl
        · exact .inr ⟨rfl, by omega⟩
    clear hl hl2 hza hzn hza2 hzn2 hz hz2 hL hK ha hb hu hv hN hx hy hQ hR h0 hm0 hcs hLR k1 k2 hRm hsp hpr
    unfold Dv at hD
    rcases hcase with rfl | ⟨rfl, rfl⟩
    case' inl => rw [show (!(false == q)) = q by cases q <;> rfl] at hM1
    case' inr => rw [show (!(true == q)) = !q by cases q <;> rfl] at hM1
    all_goals (
      go_enter Tryz.func15, Tryz.ntmps15
      go_upto_region 5 with (first
        | (go_at_call 53; refine hD.out.mono ?_; rintro e w5 ⟨⟨vq, vr, rfl, hvq, hvr⟩, hE5⟩; obtain ⟨A2, c2, rfl, -⟩ := Un.sh hvq; obtain ⟨A3, c3, rfl, -⟩ := Un.sh hvr; rw [HLR.out] at hvr ⊢; obtain ⟨p0, p1, p2, p3, p4⟩ := hP0.ext hE5; obtain ⟨q0, q1, q2, q3, q4⟩ := hQ0.ext hE5))
      go_wp2_with (fail)
      refine (hM1.out _ _ hvq).mono ?_
      rintro e w6 ⟨u6, rfl, hz6, hE6⟩
      obtain ⟨b6, A6, L6, c6, rfl⟩ := hz6.sh
      go_wp2_with (fail)
      refine (hM2.out _ _ (Un.below hvr hE6)).mono ?_
      rintro e w7 ⟨u7, rfl, hz7, hE7⟩
      obtain ⟨b7, A7, L7, c7, rfl⟩ := hz7.sh
      have hI7 := ((hI0.ext hE5).ext hE6).ext hE7
      have hJ7 := ((hJ0.ext hE5).ext hE6).ext hE7
      obtain ⟨i0, i1, i2, i3, i4⟩ := id hI7
      obtain ⟨j0, j1, j2, j3, j4⟩ := id hJ7
      have HI7 := Lib.hid hI7
      have HJ7 := Lib.hid hJ7
      have hZ6 := hz6.below hE7
      have hEE := ((hE0.below hE5).below hE6).below hE7
      clear hI7 hJ7
      go_wp2
      (try simp only [Exit.inBlock, Exit.then])
      refine bodyPost_ret (v := .tuple #[.agg #[.bool b6, .slice A6 L6 c6], .agg #[.bool b7, .slice A7 L7 c7], .int .i64 0]) (show (results _ _).run _ _ = _ from ?_) rfl ⟨⟨_, _, rfl, (hZ6.put2 HI7.out (slice_no_int _ _ _) _ _).put2 (HJ7.out.other (by omega) _ _) (slice_no_int _ _ _) _ _, (hz7.put2 HI7.out (slice_no_int _ _ _) _ _).put2 (HJ7.out.other (by omega) _ _) (slice_no_int _ _ _) _ _⟩, (hEE.put2 (by omega) _ _).put2 (by omega) _ _⟩
      simp only [results]
      go_simp)
end Go.Proofs.YtfkcdmbiihkiiaaGreatDoor
/- The document's powers, exact quotients. -/
namespace Go.Proofs.YtfkcdmbiihkiiaaGreatDoor
open Go.RowKit
set_option linter.unusedVariables false
set_option maxHeartbeats 400000

set_option maxRecDepth 100000 in
set_option maxHeartbeats 8000000 in
theorem rzpow (w : World) (va : Value) (a : Int) (k : Nat) (ha : Zn w va a) (hl : (limbs a.natAbs).length ≤ 398) (hl2 : (limbs (a.natAbs ^ k)).length ≤ 398) (hk : k ≤ 100000) (y : Int) (hy : a ^ k = y) :
    Calls Tryz.prog 39 #[va, .int .i64 (k : Nat)] w fun e w' => ∃ u, e = .returned u ∧ Zn w' u y ∧ Ext w w' := by
  obtain ⟨p, A, L, c, n, rfl, hu, hL, hz, -, hza, hzn⟩ := ha.open
  rw [hza] at hl hl2
  have hpl := pow_len_all hl2 (by decide)
  obtain ⟨P, hP⟩ : ∃ P, n ^ k = P := ⟨_, rfl⟩
  have hPl : (limbs P).length ≤ 1000000000 := by rw [← hP]; omega
  have k1 := sg_pow p n k
  rw [hP, ← hz, hy] at k1
  obtain ⟨r, hr⟩ : ∃ r, k % 2 = r := ⟨_, rfl⟩
  rw [hr] at k1
  have hE0 := ((Ext.refl w).alloc (.cells #[.bool p, .slice A L c] 24)).alloc (.cells #[.bool false, .slice none 0 0] 24)
  have hI0 := Ib.new2 w (.cells #[.bool p, .slice A L c] 24) false (.slice none 0 0) 24
  have hP0 := (Ib.new w p (.slice A L c) 24).ext ((Ext.refl _).alloc (.cells #[.bool false, .slice none 0 0] 24))
  have hPw := Lib.hid (rpowN _ (.slice A L c) n k (hu.below hE0) hl hpl hk P hP)
  obtain ⟨b, hb⟩ : ∃ b, (p && decide (r = 1)) = b := ⟨_, rfl⟩
  rw [hb] at k1
  have hM1 := Lib.hid (fun W v (h : Un W v P) => rzmake W b v (limbs P) h hPl P (val_limbs _) y k1)
  have t1 : (k : Int).tmod 2 = (r : Int) := by rw [Int.tmod_eq_emod_of_nonneg (Int.natCast_nonneg _)]; omega
  have t2 : (k : Int) % 2 = (r : Int) := by omega
  have hr2 : r = 0 ∨ r = 1 := by omega
  obtain ⟨p0, p1, p2, p3, p4⟩ := hP0
  clear hl hl2 hza hzn hz hL ha hu hpl hP hr hy k1
  rcases hr2 with rfl | rfl
  all_goals (
    cases p
    all_goals (
      simp at hb
      subst hb
      go_enter Tryz.func39, Tryz.ntmps39
      go_wp2_with (first
        | (go_at_call 71; refine hPw.out.mono ?_; rintro e w2 ⟨u, rfl, hu2, hE2⟩; obtain ⟨A2, c2, rfl, -⟩ := Un.sh hu2)
        | (go_at_call 22; refine (hM1.out _ _ hu2).mono ?_; rintro e w3 ⟨u, rfl, hz3, hE3⟩; obtain ⟨b3, A4, L3, c4, rfl⟩ := hz3.sh; have hI3 := (hI0.ext hE2).ext hE3; obtain ⟨i0, i1, i2, i3, i4⟩ := id hI3))
      (try simp only [Exit.inBlock, Exit.then])
      refine bodyPost_ret (v := .agg #[.bool b3, .slice A4 L3 c4]) (show (results _ _).run _ _ = _ from ?_) rfl ⟨_, rfl, hz3.put2 hI3 (slice_no_int _ _ _) _ _, ((hE0.below hE2).below hE3).put2 (by omega) _ _⟩
      simp only [results]
      go_simp))
set_option maxRecDepth 100000 in
set_option maxHeartbeats 8000000 in
theorem rzexact_no (w : World) (va vb : Value) (a b : Int) (ha : Zn w va a) (hb : Zn w vb b) (hl : (limbs a.natAbs).length ≤ 200) (hl2 : (limbs b.natAbs).length ≤ 200) (h0 : b = 0 ∨ a % b ≠ 0) :
    Calls Tryz.prog 17 #[va, vb] w fun e w' => e = .returned (.tuple #[.agg #[.bool false, .slice none 0 0], .bool false]) ∧ Ext w w' := by
  have ha' := ha
  have hb' := hb
  obtain ⟨p, A, L, c, rfl⟩ := ha.sh
  obtain ⟨q, B, K, d, rfl⟩ := hb.sh
  have hE0 := (((Ext.refl w).alloc (.cells #[.bool p, .slice A L c] 24)).alloc (.cells #[.bool q, .slice B K d] 24)).alloc (.cells #[.bool false, .slice none 0 0] 24)
  have hI0 := Ib.new3 w (.cells #[.bool p, .slice A L c] 24) (.cells #[.bool q, .slice B K d] 24) false (.slice none 0 0) 24
  by_cases hb0 : b = 0
  · subst hb0
    have hD := Lib.hid (rzdiv_Z _ _ _ a (ha'.below hE0) (hb'.below hE0))
    clear h0 ha hb ha' hb' hl hl2
    unfold ZdZ at hD
    go_enter Tryz.func17, Tryz.ntmps17
    go_wp2_with (go_at_call 15; refine hD.out.mono ?_; rintro e w2 ⟨rfl, hE2⟩; have hE3 := ((Ext.refl w2).alloc (.cells #[.bool false, .slice none 0 0] 24)).alloc (.cells #[.bool false, .slice none 0 0] 24); obtain ⟨i0, i1, i2, i3, i4⟩ := (hI0.ext hE2).ext hE3; have hs := (hE0.below hE2).size)
    (try simp only [Exit.inBlock, Exit.then])
    refine bodyPost_ret (v := .tuple #[.agg #[.bool false, .slice none 0 0], .bool false]) (show (results _ _).run _ _ = _ from ?_) rfl ⟨rfl, ((hE0.below hE2).below hE3).put2 (by omega) _ _⟩
    simp only [results]
    go_simp
  · have hr0 : a % b ≠ 0 := by
      rcases h0 with h | h
      · exact absurd h hb0
      · exact h
    have hD := Lib.hid (rzdiv_D _ _ _ a b (ha'.below hE0) (hb'.below hE0) hl hl2 hb0 _ (a % b) rfl rfl)
    obtain ⟨r, hr⟩ : ∃ r, a % b = r := ⟨_, rfl⟩
    rw [hr] at hD hr0
    clear h0 ha hb ha' hb' hl hl2 hr hb0
    unfold ZdD at hD
    go_enter Tryz.func17, Tryz.ntmps17
    go_wp2_with (go_at_call 15; refine hD.out.mono ?_; rintro e w2 ⟨⟨x, y, rfl, hx, hy⟩, hE2⟩; obtain ⟨b1, A1, L1, c1, rfl⟩ := hx.sh; obtain ⟨b2, A2, L2, c2, n2, hv2, hu2, hL2, hz2, -, hza2, -⟩ := hy.open; subst hv2; have hl2 : 0 < L2 := (by { have := len_cases n2; omega }); have hl3 : (0 : Int) < (L2 : Int) := (by omega); clear hL2 hz2 hza2; have hE3 := ((Ext.refl w2).alloc (.cells #[.bool b1, .slice A1 L1 c1] 24)).alloc (.cells #[.bool b2, .slice A2 L2 c2] 24); obtain ⟨i0, i1, i2, i3, i4⟩ := (hI0.ext hE2).ext hE3; have hs := (hE0.below hE2).size)
    (try simp only [Exit.inBlock, Exit.then])
    refine bodyPost_ret (v := .tuple #[.agg #[.bool false, .slice none 0 0], .bool false]) (show (results _ _).run _ _ = _ from ?_) rfl ⟨rfl, ((hE0.below hE2).below hE3).put2 (by omega) _ _⟩
    simp only [results]
    go_simp

set_option maxRecDepth 100000 in
set_option maxHeartbeats 8000000 in
theorem rzexact_yes (w : World) (va vb : Value) (a b : Int) (ha : Zn w va a) (hb : Zn w vb b) (hl : (limbs a.natAbs).length ≤ 200) (hl2 : (limbs b.natAbs).length ≤ 200) (h0 : b ≠ 0) (hr : a % b = 0) (x : Int) (hx : a / b = x) :
    Calls Tryz.prog 17 #[va, vb] w fun e w' => ∃ u, e = .returned (.tuple #[u, .bool true]) ∧ Zn w' u x ∧ Ext w w' := by
  have ha' := ha
  have hb' := hb
  obtain ⟨p, A, L, c, rfl⟩ := ha.sh
  obtain ⟨q, B, K, d, rfl⟩ := hb.sh
  have hE0 := (((Ext.refl w).alloc (.cells #[.bool p, .slice A L c] 24)).alloc (.cells #[.bool q, .slice B K d] 24)).alloc (.cells #[.bool false, .slice none 0 0] 24)
  have hI0 := Ib.new3 w (.cells #[.bool p, .slice A L c] 24) (.cells #[.bool q, .slice B K d] 24) false (.slice none 0 0) 24
  have hD := Lib.hid (rzdiv_D _ _ _ a b (ha'.below hE0) (hb'.below hE0) hl hl2 h0 x 0 hx hr)
  clear h0 ha hb ha' hb' hl hl2 hr hx
  unfold ZdD at hD
  go_enter Tryz.func17, Tryz.ntmps17
  go_wp2_with (go_at_call 15; refine hD.out.mono ?_; rintro e w2 ⟨⟨x', y, rfl, hx, hy⟩, hE2⟩; obtain ⟨b1, A1, L1, c1, rfl⟩ := hx.sh; obtain ⟨b2, A2, L2, c2, n2, hv2, hu2, hL2, hz2, -, hza2, -⟩ := hy.open; subst hv2; obtain rfl : L2 = 0 := (by { have := len_cases n2; omega }); clear hL2 hz2 hza2; have hE3 := ((Ext.refl w2).alloc (.cells #[.bool b1, .slice A1 L1 c1] 24)).alloc (.cells #[.bool b2, .slice A2 0 c2] 24); have hI3 := (hI0.ext hE2).ext hE3; obtain ⟨i0, i1, i2, i3, i4⟩ := id hI3; have hJ3 := (Ib.new w2 b1 (.slice A1 L1 c1) 24).ext ((Ext.refl _).alloc (.cells #[.bool b2, .slice A2 0 c2] 24)); obtain ⟨j0, j1, j2, j3, j4⟩ := id hJ3; have hs := (hE0.below hE2).size)
  (try simp only [Exit.inBlock, Exit.then])
  refine bodyPost_ret (v := .tuple #[.agg #[.bool b1, .slice A1 L1 c1], .bool true]) (show (results _ _).run _ _ = _ from ?_) rfl ⟨_, rfl, (hx.below hE3).put2 hI3 (slice_no_int _ _ _) _ _, ((hE0.below hE2).below hE3).put2 (by omega) _ _⟩
  simp only [results]
  go_simp
end Go.Proofs.YtfkcdmbiihkiiaaGreatDoor
