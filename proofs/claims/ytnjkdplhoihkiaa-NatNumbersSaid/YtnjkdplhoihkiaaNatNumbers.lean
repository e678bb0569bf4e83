/- Proved: the statement NatNumbers: whatever numbers of 64 bits: they come there and back; sums, differences and shifts of such are as those of the machine, as far as they fit. No condition. -/
import Derived.Test.YtnjkdplhoihkiaaH
import Derived.Test.YtnjkdplhoihkiaaF
import Derived.Test.YtnjkdplhoihkiaaL2
namespace Go.Proofs.Ytnjkdplhoihkiaa
open Go.ChangeShapes Go.WideShapes Go.ChangeAt Go.RowKit
set_option linter.unusedVariables false

set_option maxRecDepth 100000 in
set_option maxHeartbeats 4000000 in
theorem NatNumbers_walk (w : World) (a : Nat) (ha : a < 18446744073709551616) (b : Nat) (hb : b < 18446744073709551616) (c : Nat) (hc : c < 256) :
    Calls Try.prog 10 #[.int .u64 (a : Int), .int .u64 (b : Int), .int .u8 (c : Int)] w fun e w' => e = .returned (.bool true) ∧ Ext w w' := by
  have HB := Ext.refl w
  go_enter Try.func10, Try.ntmps10
  go_wp2_with (fail)
  refine (head_calls _).mono ?_
  rintro e w1 ⟨rfl, hB⟩
  replace HB := HB.below hB
  clear hB
  have l1 := len_64 ha
  have l2 := len_64 hb
  have l12 := len_add l1 l2
  have lsh := len_shl a 2 (c % 64) l1 (by omega)
  have HA := Lib.hid ha
  have HBB := Lib.hid hb
  have ha2 : (a : Int) ≤ 18446744073709551615 := by omega
  have hb2 : (b : Int) ≤ 18446744073709551615 := by omega
  have hc2 : (c : Int) ≤ 255 := by omega
  have eS : Hid (((c : Int) % 64).toNat = c % 64) := by rw [Hid]; omega
  clear ha hb hc
  go_wp2_with (fail)
  refine (of_B _ _ (by omega) (by omega) a (by omega)).mono ?_
  rintro e w2 ⟨x, rfl, hx, hB⟩
  replace HB := HB.below hB
  clear hB
  go_wp2_with (fail)
  refine (of_B _ _ (by omega) (by omega) b (by omega)).mono ?_
  rintro e w3 ⟨y, rfl, hy, hB⟩
  replace HB := HB.below hB
  replace hx := hx.below hB
  clear hB
  go_wp2_with (fail)
  refine (low_B _ _ a hx (a : Int) true (by rw [lowN_lt HA.out]) (lowB_lt HA.out)).mono ?_
  rintro e w4 ⟨rfl, hB⟩
  replace HB := HB.below hB
  replace hx := hx.below hB
  replace hy := hy.below hB
  clear hB
  go_wp2_with (fail)
  refine (add_B _ _ _ a b hx hy (by omega) (by omega) _ rfl).mono ?_
  rintro e w5 ⟨s, rfl, hs, hB⟩
  replace HB := HB.below hB
  replace hx := hx.below hB
  replace hy := hy.below hB
  clear hB
  rcases Nat.lt_or_ge (a + b) 18446744073709551616 with hf | hf
  · have hsum : (a : Int) + (b : Int) ≤ 18446744073709551615 := by omega
    have HF := Lib.hid hf
    clear hf
    go_wp2_with (fail)
    refine (low_B _ _ (a + b) hs ((a : Int) + (b : Int)) true (by rw [lowN_lt HF.out, Int.natCast_add]) (lowB_lt HF.out)).mono ?_
    rintro e w6 ⟨rfl, hB⟩
    replace HB := HB.below hB
    replace hx := hx.below hB
    replace hy := hy.below hB
    replace hs := hs.below hB
    clear hB
    rcases Nat.lt_or_ge a b with hd | hd
    · have hdl : (a : Int) < (b : Int) := by omega
      go_wp2_with (fail)
      refine (sub_B _ _ _ a b hx hy (by omega) false (decide_eq_false (by omega)) 0 (by omega)).mono ?_
      rintro e w7 ⟨z, rfl, hz, hB⟩
      replace HB := HB.below hB
      replace hx := hx.below hB
      replace hy := hy.below hB
      clear hB
      go_wp2_with (fail)
      refine (low_B _ _ 0 hz 0 true rfl (by decide)).mono ?_
      rintro e w8 ⟨rfl, hB⟩
      replace HB := HB.below hB
      replace hx := hx.below hB
      replace hy := hy.below hB
      replace hz := hz.below hB
      clear hB
      go_wp2_with (fail)
      refine (shr_B _ _ a _ hx (by omega) (by omega) (by omega) (a / 2 ^ (c % 64)) (by rw [eS.out])).mono ?_
      rintro e w9 ⟨r, rfl, hr, hB⟩
      replace HB := HB.below hB
      replace hx := hx.below hB
      replace hy := hy.below hB
      clear hB
      go_wp2_with (fail)
      refine (low_B _ _ (a / 2 ^ (c % 64)) hr ((a : Int) / 2 ^ (c % 64)) true (by rw [lowN_lt (Nat.lt_of_le_of_lt (Nat.div_le_self _ _) HA.out), cast_shr]) (lowB_lt (Nat.lt_of_le_of_lt (Nat.div_le_self _ _) HA.out))).mono ?_
      rintro e w10 ⟨rfl, hB⟩
      replace HB := HB.below hB
      replace hx := hx.below hB
      replace hy := hy.below hB
      replace hr := hr.below hB
      clear hB
      obtain ⟨T, hT⟩ : ∃ T, IntKind.u64.wrap ((a : Int) * 2 ^ (c % 64)) = T := ⟨_, rfl⟩
      rcases Nat.lt_or_ge (a * 2 ^ (c % 64)) 18446744073709551616 with hg | hg
      · have hq : (T / 2 ^ (c % 64) == (a : Int)) = true := by rw [beq_iff_eq, ← hT]; exact shl_back_fit _ _ hg
        have HK : Hid (((lowN (a * 2 ^ (c % 64)) : Nat) : Int) = T) := by rw [Hid, lowN_lt hg, ← hT, cast_mul_pow, wrap_fit _ hg]
        have HG := Lib.hid hg
        clear hg
        go_wp2_with (fail)
        refine (shl_B _ _ a _ hx (by omega) (by omega) (by omega) (a * 2 ^ (c % 64)) (by rw [eS.out])).mono ?_
        rintro e w11 ⟨l, rfl, hl, hB⟩
        replace HB := HB.below hB
        replace hx := hx.below hB
        replace hy := hy.below hB
        clear hB
        go_wp2_with (fail)
        refine (low_B _ _ (a * 2 ^ (c % 64)) hl T true HK.out (lowB_lt HG.out)).mono ?_
        rintro e w12 ⟨rfl, hB⟩
        replace HB := HB.below hB
        replace hx := hx.below hB
        replace hy := hy.below hB
        replace hl := hl.below hB
        clear hB
        go_wp2_with (fail)
        refine (right_B _ _ _ hx true (rightB_limbs (by omega))).mono ?_
        rintro e w13 ⟨rfl, hB⟩
        replace HB := HB.below hB
        replace hx := hx.below hB
        replace hy := hy.below hB
        clear hB
        go_wp2_with (fail)
        refine (right_B _ _ _ hy true (rightB_limbs (by omega))).mono ?_
        rintro e w14 ⟨rfl, hB⟩
        replace HB := HB.below hB
        replace hx := hx.below hB
        replace hy := hy.below hB
        clear hB
        go_wp2
        go_ret
        exact ⟨rfl, HB⟩
      · have hq : (T / 2 ^ (c % 64) == (a : Int)) = false := by rw [beq_eq_false_iff_ne, ← hT]; exact shl_back_over _ _ hg
        have HG := Lib.hid hg
        clear hg
        go_wp2_with (fail)
        refine (shl_B _ _ a _ hx (by omega) (by omega) (by omega) (a * 2 ^ (c % 64)) (by rw [eS.out])).mono ?_
        rintro e w11 ⟨l, rfl, hl, hB⟩
        replace HB := HB.below hB
        replace hx := hx.below hB
        replace hy := hy.below hB
        clear hB
        go_wp2_with (fail)
        refine (low_B _ _ (a * 2 ^ (c % 64)) hl 0 false (by rw [lowN_ge HG.out]; rfl) (lowB_ge HG.out)).mono ?_
        rintro e w12 ⟨rfl, hB⟩
        replace HB := HB.below hB
        replace hx := hx.below hB
        replace hy := hy.below hB
        replace hl := hl.below hB
        clear hB
        go_wp2_with (fail)
        refine (right_B _ _ _ hx true (rightB_limbs (by omega))).mono ?_
        rintro e w13 ⟨rfl, hB⟩
        replace HB := HB.below hB
        replace hx := hx.below hB
        replace hy := hy.below hB
        clear hB
        go_wp2_with (fail)
        refine (right_B _ _ _ hy true (rightB_limbs (by omega))).mono ?_
        rintro e w14 ⟨rfl, hB⟩
        replace HB := HB.below hB
        replace hx := hx.below hB
        replace hy := hy.below hB
        clear hB
        go_wp2
        go_ret
        exact ⟨rfl, HB⟩
    · have hdl : (b : Int) ≤ (a : Int) := by omega
      go_wp2_with (fail)
      refine (sub_B _ _ _ a b hx hy (by omega) true (decide_eq_true hd) (a - b) rfl).mono ?_
      rintro e w7 ⟨z, rfl, hz, hB⟩
      replace HB := HB.below hB
      replace hx := hx.below hB
      replace hy := hy.below hB
      clear hB
      go_wp2_with (fail)
      refine (low_B _ _ (a - b) hz ((a : Int) - (b : Int)) true (by rw [lowN_lt (by have := HA.out; omega)]; omega) (lowB_lt (by have := HA.out; omega))).mono ?_
      rintro e w8 ⟨rfl, hB⟩
      replace HB := HB.below hB
      replace hx := hx.below hB
      replace hy := hy.below hB
      replace hz := hz.below hB
      clear hB
      go_wp2_with (fail)
      refine (shr_B _ _ a _ hx (by omega) (by omega) (by omega) (a / 2 ^ (c % 64)) (by rw [eS.out])).mono ?_
      rintro e w9 ⟨r, rfl, hr, hB⟩
      replace HB := HB.below hB
      replace hx := hx.below hB
      replace hy := hy.below hB
      clear hB
      go_wp2_with (fail)
      refine (low_B _ _ (a / 2 ^ (c % 64)) hr ((a : Int) / 2 ^ (c % 64)) true (by rw [lowN_lt (Nat.lt_of_le_of_lt (Nat.div_le_self _ _) HA.out), cast_shr]) (lowB_lt (Nat.lt_of_le_of_lt (Nat.div_le_self _ _) HA.out))).mono ?_
      rintro e w10 ⟨rfl, hB⟩
      replace HB := HB.below hB
      replace hx := hx.below hB
      replace hy := hy.below hB
      replace hr := hr.below hB
      clear hB
      obtain ⟨T, hT⟩ : ∃ T, IntKind.u64.wrap ((a : Int) * 2 ^ (c % 64)) = T := ⟨_, rfl⟩
      rcases Nat.lt_or_ge (a * 2 ^ (c % 64)) 18446744073709551616 with hg | hg
      · have hq : (T / 2 ^ (c % 64) == (a : Int)) = true := by rw [beq_iff_eq, ← hT]; exact shl_back_fit _ _ hg
        have HK : Hid (((lowN (a * 2 ^ (c % 64)) : Nat) : Int) = T) := by rw [Hid, lowN_lt hg, ← hT, cast_mul_pow, wrap_fit _ hg]
        have HG := Lib.hid hg
        clear hg
        go_wp2_with (fail)
        refine (shl_B _ _ a _ hx (by omega) (by omega) (by omega) (a * 2 ^ (c % 64)) (by rw [eS.out])).mono ?_
        rintro e w11 ⟨l, rfl, hl, hB⟩
        replace HB := HB.below hB
        replace hx := hx.below hB
        replace hy := hy.below hB
        clear hB
        go_wp2_with (fail)
        refine (low_B _ _ (a * 2 ^ (c % 64)) hl T true HK.out (lowB_lt HG.out)).mono ?_
        rintro e w12 ⟨rfl, hB⟩
        replace HB := HB.below hB
        replace hx := hx.below hB
        replace hy := hy.below hB
        replace hl := hl.below hB
        clear hB
        go_wp2_with (fail)
        refine (right_B _ _ _ hx true (rightB_limbs (by omega))).mono ?_
        rintro e w13 ⟨rfl, hB⟩
        replace HB := HB.below hB
        replace hx := hx.below hB
        replace hy := hy.below hB
        clear hB
        go_wp2_with (fail)
        refine (right_B _ _ _ hy true (rightB_limbs (by omega))).mono ?_
        rintro e w14 ⟨rfl, hB⟩
        replace HB := HB.below hB
        replace hx := hx.below hB
        replace hy := hy.below hB
        clear hB
        go_wp2
        go_ret
        exact ⟨rfl, HB⟩
      · have hq : (T / 2 ^ (c % 64) == (a : Int)) = false := by rw [beq_eq_false_iff_ne, ← hT]; exact shl_back_over _ _ hg
        have HG := Lib.hid hg
        clear hg
        go_wp2_with (fail)
        refine (shl_B _ _ a _ hx (by omega) (by omega) (by omega) (a * 2 ^ (c % 64)) (by rw [eS.out])).mono ?_
        rintro e w11 ⟨l, rfl, hl, hB⟩
        replace HB := HB.below hB
        replace hx := hx.below hB
        replace hy := hy.below hB
        clear hB
        go_wp2_with (fail)
        refine (low_B _ _ (a * 2 ^ (c % 64)) hl 0 false (by rw [lowN_ge HG.out]; rfl) (lowB_ge HG.out)).mono ?_
        rintro e w12 ⟨rfl, hB⟩
        replace HB := HB.below hB
        replace hx := hx.below hB
        replace hy := hy.below hB
        replace hl := hl.below hB
        clear hB
        go_wp2_with (fail)
        refine (right_B _ _ _ hx true (rightB_limbs (by omega))).mono ?_
        rintro e w13 ⟨rfl, hB⟩
        replace HB := HB.below hB
        replace hx := hx.below hB
        replace hy := hy.below hB
        clear hB
        go_wp2_with (fail)
        refine (right_B _ _ _ hy true (rightB_limbs (by omega))).mono ?_
        rintro e w14 ⟨rfl, hB⟩
        replace HB := HB.below hB
        replace hx := hx.below hB
        replace hy := hy.below hB
        clear hB
        go_wp2
        go_ret
        exact ⟨rfl, HB⟩
  · have hov := wrap_over a b HA.out HBB.out hf
    have HF := Lib.hid hf
    obtain ⟨S1, hS1⟩ : ∃ S1, IntKind.u64.wrap ((a : Int) + (b : Int)) = S1 := ⟨_, rfl⟩
    rw [hS1] at hov
    clear hf
    go_wp2_with (fail)
    refine (low_B _ _ (a + b) hs 0 false (by rw [lowN_ge HF.out]; rfl) (lowB_ge HF.out)).mono ?_
    rintro e w6 ⟨rfl, hB⟩
    replace HB := HB.below hB
    replace hx := hx.below hB
    replace hy := hy.below hB
    replace hs := hs.below hB
    clear hB
    rcases Nat.lt_or_ge a b with hd | hd
    · have hdl : (a : Int) < (b : Int) := by omega
      go_wp2_with (fail)
      refine (sub_B _ _ _ a b hx hy (by omega) false (decide_eq_false (by omega)) 0 (by omega)).mono ?_
      rintro e w7 ⟨z, rfl, hz, hB⟩
      replace HB := HB.below hB
      replace hx := hx.below hB
      replace hy := hy.below hB
      clear hB
      go_wp2_with (fail)
      refine (low_B _ _ 0 hz 0 true rfl (by decide)).mono ?_
      rintro e w8 ⟨rfl, hB⟩
      replace HB := HB.below hB
      replace hx := hx.below hB
      replace hy := hy.below hB
      replace hz := hz.below hB
      clear hB
      go_wp2_with (fail)
      refine (shr_B _ _ a _ hx (by omega) (by omega) (by omega) (a / 2 ^ (c % 64)) (by rw [eS.out])).mono ?_
      rintro e w9 ⟨r, rfl, hr, hB⟩
      replace HB := HB.below hB
      replace hx := hx.below hB
      replace hy := hy.below hB
      clear hB
      go_wp2_with (fail)
      refine (low_B _ _ (a / 2 ^ (c % 64)) hr ((a : Int) / 2 ^ (c % 64)) true (by rw [lowN_lt (Nat.lt_of_le_of_lt (Nat.div_le_self _ _) HA.out), cast_shr]) (lowB_lt (Nat.lt_of_le_of_lt (Nat.div_le_self _ _) HA.out))).mono ?_
      rintro e w10 ⟨rfl, hB⟩
      replace HB := HB.below hB
      replace hx := hx.below hB
      replace hy := hy.below hB
      replace hr := hr.below hB
      clear hB
      obtain ⟨T, hT⟩ : ∃ T, IntKind.u64.wrap ((a : Int) * 2 ^ (c % 64)) = T := ⟨_, rfl⟩
      rcases Nat.lt_or_ge (a * 2 ^ (c % 64)) 18446744073709551616 with hg | hg
      · have hq : (T / 2 ^ (c % 64) == (a : Int)) = true := by rw [beq_iff_eq, ← hT]; exact shl_back_fit _ _ hg
        have HK : Hid (((lowN (a * 2 ^ (c % 64)) : Nat) : Int) = T) := by rw [Hid, lowN_lt hg, ← hT, cast_mul_pow, wrap_fit _ hg]
        have HG := Lib.hid hg
        clear hg
        go_wp2_with (fail)
        refine (shl_B _ _ a _ hx (by omega) (by omega) (by omega) (a * 2 ^ (c % 64)) (by rw [eS.out])).mono ?_
        rintro e w11 ⟨l, rfl, hl, hB⟩
        replace HB := HB.below hB
        replace hx := hx.below hB
        replace hy := hy.below hB
        clear hB
        go_wp2_with (fail)
        refine (low_B _ _ (a * 2 ^ (c % 64)) hl T true HK.out (lowB_lt HG.out)).mono ?_
        rintro e w12 ⟨rfl, hB⟩
        replace HB := HB.below hB
        replace hx := hx.below hB
        replace hy := hy.below hB
        replace hl := hl.below hB
        clear hB
        go_wp2_with (fail)
        refine (right_B _ _ _ hx true (rightB_limbs (by omega))).mono ?_
        rintro e w13 ⟨rfl, hB⟩
        replace HB := HB.below hB
        replace hx := hx.below hB
        replace hy := hy.below hB
        clear hB
        go_wp2_with (fail)
        refine (right_B _ _ _ hy true (rightB_limbs (by omega))).mono ?_
        rintro e w14 ⟨rfl, hB⟩
        replace HB := HB.below hB
        replace hx := hx.below hB
        replace hy := hy.below hB
        clear hB
        go_wp2
        go_ret
        exact ⟨rfl, HB⟩
      · have hq : (T / 2 ^ (c % 64) == (a : Int)) = false := by rw [beq_eq_false_iff_ne, ← hT]; exact shl_back_over _ _ hg
        have HG := Lib.hid hg
        clear hg
        go_wp2_with (fail)
        refine (shl_B _ _ a _ hx (by omega) (by omega) (by omega) (a * 2 ^ (c % 64)) (by rw [eS.out])).mono ?_
        rintro e w11 ⟨l, rfl, hl, hB⟩
        replace HB := HB.below hB
        replace hx := hx.below hB
        replace hy := hy.below hB
        clear hB
        go_wp2_with (fail)
        refine (low_B _ _ (a * 2 ^ (c % 64)) hl 0 false (by rw [lowN_ge HG.out]; rfl) (lowB_ge HG.out)).mono ?_
        rintro e w12 ⟨rfl, hB⟩
        replace HB := HB.below hB
        replace hx := hx.below hB
        replace hy := hy.below hB
        replace hl := hl.below hB
        clear hB
        go_wp2_with (fail)
        refine (right_B _ _ _ hx true (rightB_limbs (by omega))).mono ?_
        rintro e w13 ⟨rfl, hB⟩
        replace HB := HB.below hB
        replace hx := hx.below hB
        replace hy := hy.below hB
        clear hB
        go_wp2_with (fail)
        refine (right_B _ _ _ hy true (rightB_limbs (by omega))).mono ?_
        rintro e w14 ⟨rfl, hB⟩
        replace HB := HB.below hB
        replace hx := hx.below hB
        replace hy := hy.below hB
        clear hB
        go_wp2
        go_ret
        exact ⟨rfl, HB⟩
    · have hdl : (b : Int) ≤ (a : Int) := by omega
      go_wp2_with (fail)
      refine (sub_B _ _ _ a b hx hy (by omega) true (decide_eq_true hd) (a - b) rfl).mono ?_
      rintro e w7 ⟨z, rfl, hz, hB⟩
      replace HB := HB.below hB
      replace hx := hx.below hB
      replace hy := hy.below hB
      clear hB
      go_wp2_with (fail)
      refine (low_B _ _ (a - b) hz ((a : Int) - (b : Int)) true (by rw [lowN_lt (by have := HA.out; omega)]; omega) (lowB_lt (by have := HA.out; omega))).mono ?_
      rintro e w8 ⟨rfl, hB⟩
      replace HB := HB.below hB
      replace hx := hx.below hB
      replace hy := hy.below hB
      replace hz := hz.below hB
      clear hB
      go_wp2_with (fail)
      refine (shr_B _ _ a _ hx (by omega) (by omega) (by omega) (a / 2 ^ (c % 64)) (by rw [eS.out])).mono ?_
      rintro e w9 ⟨r, rfl, hr, hB⟩
      replace HB := HB.below hB
      replace hx := hx.below hB
      replace hy := hy.below hB
      clear hB
      go_wp2_with (fail)
      refine (low_B _ _ (a / 2 ^ (c % 64)) hr ((a : Int) / 2 ^ (c % 64)) true (by rw [lowN_lt (Nat.lt_of_le_of_lt (Nat.div_le_self _ _) HA.out), cast_shr]) (lowB_lt (Nat.lt_of_le_of_lt (Nat.div_le_self _ _) HA.out))).mono ?_
      rintro e w10 ⟨rfl, hB⟩
      replace HB := HB.below hB
      replace hx := hx.below hB
      replace hy := hy.below hB
      replace hr := hr.below hB
      clear hB
      obtain ⟨T, hT⟩ : ∃ T, IntKind.u64.wrap ((a : Int) * 2 ^ (c % 64)) = T := ⟨_, rfl⟩
      rcases Nat.lt_or_ge (a * 2 ^ (c % 64)) 18446744073709551616 with hg | hg
      · have hq : (T / 2 ^ (c % 64) == (a : Int)) = true := by rw [beq_iff_eq, ← hT]; exact shl_back_fit _ _ hg
        have HK : Hid (((lowN (a * 2 ^ (c % 64)) : Nat) : Int) = T) := by rw [Hid, lowN_lt hg, ← hT, cast_mul_pow, wrap_fit _ hg]
        have HG := Lib.hid hg
        clear hg
        go_wp2_with (fail)
        refine (shl_B _ _ a _ hx (by omega) (by omega) (by omega) (a * 2 ^ (c % 64)) (by rw [eS.out])).mono ?_
        rintro e w11 ⟨l, rfl, hl, hB⟩
        replace HB := HB.below hB
        replace hx := hx.below hB
        replace hy := hy.below hB
        clear hB
        go_wp2_with (fail)
        refine (low_B _ _ (a * 2 ^ (c % 64)) hl T true HK.out (lowB_lt HG.out)).mono ?_
        rintro e w12 ⟨rfl, hB⟩
        replace HB := HB.below hB
        replace hx := hx.below hB
        replace hy := hy.below hB
        replace hl := hl.below hB
        clear hB
        go_wp2_with (fail)
        refine (right_B _ _ _ hx true (rightB_limbs (by omega))).mono ?_
        rintro e w13 ⟨rfl, hB⟩
        replace HB := HB.below hB
        replace hx := hx.below hB
        replace hy := hy.below hB
        clear hB
        go_wp2_with (fail)
        refine (right_B _ _ _ hy true (rightB_limbs (by omega))).mono ?_
        rintro e w14 ⟨rfl, hB⟩
        replace HB := HB.below hB
        replace hx := hx.below hB
        replace hy := hy.below hB
        clear hB
        go_wp2
        go_ret
        exact ⟨rfl, HB⟩
      · have hq : (T / 2 ^ (c % 64) == (a : Int)) = false := by rw [beq_eq_false_iff_ne, ← hT]; exact shl_back_over _ _ hg
        have HG := Lib.hid hg
        clear hg
        go_wp2_with (fail)
        refine (shl_B _ _ a _ hx (by omega) (by omega) (by omega) (a * 2 ^ (c % 64)) (by rw [eS.out])).mono ?_
        rintro e w11 ⟨l, rfl, hl, hB⟩
        replace HB := HB.below hB
        replace hx := hx.below hB
        replace hy := hy.below hB
        clear hB
        go_wp2_with (fail)
        refine (low_B _ _ (a * 2 ^ (c % 64)) hl 0 false (by rw [lowN_ge HG.out]; rfl) (lowB_ge HG.out)).mono ?_
        rintro e w12 ⟨rfl, hB⟩
        replace HB := HB.below hB
        replace hx := hx.below hB
        replace hy := hy.below hB
        replace hl := hl.below hB
        clear hB
        go_wp2_with (fail)
        refine (right_B _ _ _ hx true (rightB_limbs (by omega))).mono ?_
        rintro e w13 ⟨rfl, hB⟩
        replace HB := HB.below hB
        replace hx := hx.below hB
        replace hy := hy.below hB
        clear hB
        go_wp2_with (fail)
        refine (right_B _ _ _ hy true (rightB_limbs (by omega))).mono ?_
        rintro e w14 ⟨rfl, hB⟩
        replace HB := HB.below hB
        replace hx := hx.below hB
        replace hy := hy.below hB
        clear hB
        go_wp2
        go_ret
        exact ⟨rfl, HB⟩

set_option maxRecDepth 100000 in
theorem lifted_NatNumbers (os : Os) (started : os.Started) (H : Type) (enc : TypeId × Value → H) :
    ReturnsInHanded {} Try.checked os 10 .any (Rows.natNumbersSpec.pre6 enc Try.prog Try.f10 Rows.natNumbersRow.domain false) (Rows.natNumbersSpec.post enc Try.prog Try.f10 false true false false) := by
  refine returnsInHanded_of_change (C := Try.checked) own started (by kernel_rfl) Try.func10
    (ChangeSpec.witness6 (enc := enc) (C := Try.checked) false ⟨#[], #[.int .u64 0, .int .u64 0, .int .u8 0], []⟩ 8 (by kernel_rfl) (by kernel_rfl) (by kernel_rfl) (by kernel_rfl)) ?_
  intro W base args ds gs before hval hW _ _
  have hW' := hW
  obtain ⟨p, q, hA, hV, rfl, _, _⟩ := hW
  have hlt : ∀ x ∈ p ++ q, x.block < W.heap.size := fun x hx => hW'.lt x hx
  have hA2 : DataW.TrodAll enc Try.prog W 0 (fun _ => true) true Try.f10.params.toList args.toList ds p := hA
  rw [Try.params10] at hA2 hval
  clear hA
  obtain ⟨v0, vs0, d0, ds0, p0, q0, hargs0, rfl, rfl, h0, r0⟩ := trodAll_cons hA2
  obtain ⟨v1, vs1, d1, ds1, p1, q1, hargs1, rfl, rfl, h1, r1⟩ := trodAll_cons r0
  obtain ⟨v2, vs2, d2, ds2, p2, q2, hargs2, rfl, rfl, h2, r2⟩ := trodAll_cons r1
  obtain ⟨hn1, rfl, rfl⟩ := trodAll_nil r2
  subst hn1
  subst hargs2
  subst hargs1
  obtain rfl : args = #[v0, v1, v2] := by cases args; simp_all
  obtain ⟨rfl, rfl⟩ := trodVars_none hV
  obtain ⟨n0, rfl, rfl, rfl, wf0⟩ := open_int Try.underlying31 (hval 0 31 v0 rfl rfl) h0
  have bd0 := bounds_u64 wf0
  obtain ⟨m0, rfl⟩ := Int.eq_ofNat_of_zero_le bd0.1
  obtain ⟨n1, rfl, rfl, rfl, wf1⟩ := open_int Try.underlying31 (hval 1 31 v1 rfl rfl) h1
  have bd1 := bounds_u64 wf1
  obtain ⟨m1, rfl⟩ := Int.eq_ofNat_of_zero_le bd1.1
  obtain ⟨n2, rfl, rfl, rfl, wf2⟩ := open_int Try.underlying5 (hval 2 5 v2 rfl rfl) h2
  have bd2 := bounds_u8 wf2
  obtain ⟨m2, rfl⟩ := Int.eq_ofNat_of_zero_le bd2.1
  refine (NatNumbers_walk W m0 (by omega) m1 (by omega) m2 (by omega)).mono fun e W' ⟨he, hB⟩ => ?_
  subst he
  exact ⟨_, rfl, law_post hW' rfl (by rw [Try.params10]; decide +kernel) rfl rfl rfl rfl hB⟩

/-- The statement. -/
theorem natNumbers_holds : Rows.NatNumbersSaid :=
  OpenClaim.holds_of_wide 10 Try.f10 rfl rfl rfl rfl rfl rfl rfl ⟨rfl, rfl, rfl, rfl, rfl⟩ rfl rfl rfl rfl rfl (by kernel_rfl) Try.func10 (by kernel_rfl)
    (of_decide_eq_true (by kernel_rfl)) (by unfold Func.isWrapper; first | (rw [if_pos (by decide +kernel)]; kernel_rfl) | (rw [if_neg (by decide +kernel)]; exact ⟨rfl, rfl⟩))
    (fun os started H enc _ => lifted_NatNumbers os started H enc)
end Go.Proofs.Ytnjkdplhoihkiaa
