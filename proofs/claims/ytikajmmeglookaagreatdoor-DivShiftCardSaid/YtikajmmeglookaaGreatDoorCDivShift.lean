/- Proved: the statement DivShift: for any two rows (of at most 30 limbs) and any shift (of at most 300): both times a power of 2 have the same quotient, and the rest times that; by a power of 2 alone a division is a shift. No condition. -/
import Derived.Test.YtikajmmeglookaaGreatDoorPj

namespace Go.Proofs.YtikajmmeglookaaGreatDoor
open Go.RowKit
set_option linter.unusedVariables false
set_option maxHeartbeats 400000

set_option maxRecDepth 100000 in
set_option maxHeartbeats 8000000 in
theorem DivShift_walk (w : World) (r0 : Value) (xa : List Nat) (u0 : U w r0 xa) (r1 : Value) (xb : List Nat) (u1 : U w r1 xb) (z : Nat) (hz : z < 65536) :
    Calls Tryz.prog 11 #[r0, r1, .int .u16 (z : Nat)] w fun e w' => e = .returned (.bool true) ∧ Ext w w' := by
  have HB := Ext.refl w
  obtain ⟨a, da⟩ : ∃ a, cutN xa 30 = a := ⟨_, rfl⟩
  have ta : (limbs a).length ≤ 30 := by rw [← da]; exact len_of (cut_lt xa 30 u0.lim)
  have hMd_a := Lib.hid (fun W (h : U W r0 xa) => made_B W r0 xa 30 h (by decide) (by decide) a da)
  obtain ⟨b, db⟩ : ∃ b, cutN xb 30 = b := ⟨_, rfl⟩
  have tb : (limbs b).length ≤ 30 := by rw [← db]; exact len_of (cut_lt xb 30 u1.lim)
  have hMd_b := Lib.hid (fun W (h : U W r1 xb) => made_B W r1 xb 30 h (by decide) (by decide) b db)
  clear da db
  obtain ⟨n, hn⟩ : ∃ n, z % 301 = n := ⟨_, rfl⟩
  have hnb : n < 301 := by rw [← hn]; exact Nat.mod_lt _ (by decide)
  have hni : (z : Int) % 301 = (n : Int) := by omega
  have hnt : (z : Int).tmod 301 = (n : Int) := by rw [Int.tmod_eq_emod_of_nonneg (Int.natCast_nonneg _)]; exact hni
  have hn2 : n ≤ 300 := by omega
  clear hnb hn
  obtain ⟨Y, hY⟩ : ∃ Y, 2 ^ n = Y := ⟨_, rfl⟩
  have hY0 : Y ≠ 0 := by rw [← hY]; exact Nat.pos_iff_ne_zero.1 (Nat.two_pow_pos _)
  have hlY : (limbs Y).length ≤ 10 := by rw [← hY]; exact len_two_le 10 (Nat.le_refl _) (by omega)
  obtain ⟨u, hu⟩ : ∃ u, a / Y = u := ⟨_, rfl⟩
  obtain ⟨v, hv⟩ : ∃ v, a % Y = v := ⟨_, rfl⟩
  obtain ⟨f1, f2, f3, f4⟩ := dm_all hY0 hu hv ta
  obtain ⟨u2, hu2⟩ : ∃ u2, u * Y = u2 := ⟨_, rfl⟩
  have hlu2 : (limbs u2).length ≤ 30 := Nat.le_trans (len_mono (by omega)) ta
  obtain ⟨A2, hA2⟩ : ∃ A2, a * 2 ^ n = A2 := ⟨_, rfl⟩
  have hlA2 : (limbs A2).length ≤ 40 := by rw [← hA2]; exact Nat.le_trans (len_shl_c a 30 n 10 ta (by omega)) (by decide)
  obtain ⟨bl, hbl⟩ : ∃ bl, blen v = bl := ⟨_, rfl⟩
  have hbn : bl ≤ n := by rw [← hbl]; exact blen_le_of_lt (by rw [hY]; exact f2)
  have hbn2 : decide ((bl : Int) ≤ (n : Int)) = true := by rw [decide_eq_true_iff]; omega
  have HYY : Hid (1 * 2 ^ n = Y) := by rw [Hid, Nat.one_mul]; exact hY
  have HUV := Lib.hid (And.intro hu hv)
  have HU2 : Hid (u * 2 ^ n = u2) := by rw [Hid, hY]; exact hu2
  have HSR : Hid (a / 2 ^ n = u) := by rw [Hid, hY]; exact hu
  have HAD : Hid (u2 + v = a) := by rw [Hid, ← hu2]; exact f1
  have HA2 := Lib.hid hA2
  have HBL : Hid (((blen v : Nat) : Int) = (bl : Int)) := by rw [Hid, hbl]
  have LL := Lib.hid (And.intro ta (And.intro tb (And.intro hlY (And.intro f3 (And.intro f4 (And.intro hlu2 (And.intro hlA2 hn2)))))))
  have HY0 := Lib.hid hY0
  clear hu hv f1 f2 f3 f4 hu2 hlu2 hlA2 hbl hlY hY0 ta
  by_cases h0b : b = 0
  · subst h0b
    have hz : 0 * 2 ^ n = 0 := Nat.zero_mul _
    have HZ := Lib.hid hz
    clear hz tb
    go_enter Tryz.func11, Tryz.ntmps11
    go_wp2_with (fail)
    refine (dhead_calls _).mono ?_
    rintro e w1 ⟨rfl, hB⟩
    replace u0 := U.below u0 hB
    replace u1 := U.below u1 hB
    replace HB := HB.below hB
    clear hB
    go_wp2_with (fail)
    refine (hMd_a.out _ u0).mono ?_
    rintro e w2 ⟨v_a, rfl, h_a, hB⟩
    replace u1 := U.below u1 hB
    replace HB := HB.below hB
    clear hB
    clear u0
    go_wp2_with (fail)
    refine (hMd_b.out _ u1).mono ?_
    rintro e w3 ⟨v_b, rfl, h_b, hB⟩
    replace h_a := U.below (U.asUn h_a) hB
    replace HB := HB.below hB
    clear hB
    clear u1
    go_wp2_with (fail)
    refine (divmod_Z _ _ _ a h_a h_b (by have := LL.out; omega)).mono ?_
    rintro e w4 ⟨rfl, hB⟩
    replace h_a := U.below (U.asUn h_a) hB
    replace h_b := U.below (U.asUn h_b) hB
    replace HB := HB.below hB
    clear hB
    go_wp2_with (fail)
    refine (rshl_B _ _ a n h_a (by have := LL.out; omega) (by have := LL.out; omega) A2 HA2.out).mono ?_
    rintro e w5 ⟨v_a2, rfl, h_a2, hB⟩
    replace h_a := U.below (U.asUn h_a) hB
    replace h_b := U.below (U.asUn h_b) hB
    replace HB := HB.below hB
    clear hB
    go_wp2_with (fail)
    refine (rshl_B _ _ 0 n h_b (by have := LL.out; omega) (by rw [limbs_zero]; decide) 0 HZ.out).mono ?_
    rintro e w6 ⟨v_b2, rfl, h_b2, hB⟩
    clear h_b
    replace h_a := U.below (U.asUn h_a) hB
    replace h_a2 := U.below (U.asUn h_a2) hB
    replace HB := HB.below hB
    clear hB
    go_wp2_with (fail)
    refine (newton_Z _ _ _ h_b2).mono ?_
    rintro e w7 ⟨rfl, hB⟩
    clear h_a2
    clear h_b2
    replace h_a := U.below (U.asUn h_a) hB
    replace HB := HB.below hB
    clear hB
    go_wp2_with (fail)
    refine (rshl_B _ _ 1 n (Un_lit _ (w7.heap.size) (by simp) [1] 1 (by decide) (by decide) (limbs_small 1 (by decide) (by decide))) (by have := LL.out; omega) (lenc (len_s (by decide) (by decide)) (by decide)) Y HYY.out).mono ?_
    rintro e w8 ⟨v_y, rfl, h_y, hB⟩
    replace h_a := U.below (U.alloc (U.asUn h_a) _) hB
    replace HB := (HB.alloc _).below hB
    clear hB
    go_wp2_with (fail)
    refine (ziegler_D _ _ _ a Y u v h_a h_y (by have := LL.out; omega) (by have := LL.out; omega) HY0.out HUV.out.1 HUV.out.2).mono ?_
    rintro e w9 ⟨⟨v_u, v_v, rfl, h_u, h_v⟩, hB⟩
    clear h_y
    replace h_a := U.below (U.asUn h_a) hB
    replace HB := HB.below hB
    clear hB
    go_wp2_with (fail)
    refine (sameT _ _ _ 0 (Un_nil _) (Un_nil _)).mono ?_
    rintro e w10 ⟨rfl, hB⟩
    replace h_a := U.below (U.asUn h_a) hB
    replace h_u := U.below (U.asUn h_u) hB
    replace h_v := U.below (U.asUn h_v) hB
    replace HB := HB.below hB
    clear hB
    go_wp2_with (fail)
    refine (rshl_B _ _ 0 n (Un_nil _) (by have := LL.out; omega) (by rw [limbs_zero]; decide) 0 HZ.out).mono ?_
    rintro e w11 ⟨v_r2, rfl, h_r2, hB⟩
    replace h_a := U.below (U.asUn h_a) hB
    replace h_u := U.below (U.asUn h_u) hB
    replace h_v := U.below (U.asUn h_v) hB
    replace HB := HB.below hB
    clear hB
    go_wp2_with (fail)
    refine (sameT _ _ _ 0 h_r2 (Un_nil _)).mono ?_
    rintro e w12 ⟨rfl, hB⟩
    clear h_r2
    replace h_a := U.below (U.asUn h_a) hB
    replace h_u := U.below (U.asUn h_u) hB
    replace h_v := U.below (U.asUn h_v) hB
    replace HB := HB.below hB
    clear hB
    go_wp2_with (fail)
    refine (rshr_B _ _ a n h_a (by have := LL.out; omega) (by have := LL.out; omega) u HSR.out).mono ?_
    rintro e w13 ⟨v_x, rfl, h_x, hB⟩
    replace h_a := U.below (U.asUn h_a) hB
    replace h_u := U.below (U.asUn h_u) hB
    replace h_v := U.below (U.asUn h_v) hB
    replace HB := HB.below hB
    clear hB
    go_wp2_with (fail)
    refine (sameT _ _ _ _ h_u h_x).mono ?_
    rintro e w14 ⟨rfl, hB⟩
    clear h_x
    replace h_a := U.below (U.asUn h_a) hB
    replace h_u := U.below (U.asUn h_u) hB
    replace h_v := U.below (U.asUn h_v) hB
    replace HB := HB.below hB
    clear hB
    go_wp2_with (fail)
    refine (rshl_B _ _ u n h_u (by have := LL.out; omega) (by have := LL.out; omega) u2 HU2.out).mono ?_
    rintro e w15 ⟨v_m, rfl, h_m, hB⟩
    clear h_u
    replace h_a := U.below (U.asUn h_a) hB
    replace h_v := U.below (U.asUn h_v) hB
    replace HB := HB.below hB
    clear hB
    go_wp2_with (fail)
    refine (radd_B _ _ _ u2 v h_m h_v (by have := LL.out; omega) (by have := LL.out; omega) a HAD.out).mono ?_
    rintro e w16 ⟨v_x, rfl, h_x, hB⟩
    clear h_m
    replace h_a := U.below (U.asUn h_a) hB
    replace h_v := U.below (U.asUn h_v) hB
    replace HB := HB.below hB
    clear hB
    go_wp2_with (fail)
    refine (sameT _ _ _ _ h_x h_a).mono ?_
    rintro e w17 ⟨rfl, hB⟩
    clear h_x
    clear h_a
    replace h_v := U.below (U.asUn h_v) hB
    replace HB := HB.below hB
    clear hB
    go_wp2_with (fail)
    refine (rbits_B _ _ v h_v (by have := LL.out; omega) (bl : Int) HBL.out).mono ?_
    rintro e w18 ⟨rfl, hB⟩
    clear h_v
    replace HB := HB.below hB
    clear hB
    go_wp2
    go_ret
    exact ⟨rfl, HB⟩
  · obtain ⟨q, hq⟩ : ∃ q, a / b = q := ⟨_, rfl⟩
    obtain ⟨r, hr⟩ : ∃ r, a % b = r := ⟨_, rfl⟩
    obtain ⟨-, -, e3, e4⟩ := dm_all h0b hq hr LL.out.1
    obtain ⟨B2, hB2⟩ : ∃ B2, b * 2 ^ n = B2 := ⟨_, rfl⟩
    obtain ⟨R2, hR2⟩ : ∃ R2, r * 2 ^ n = R2 := ⟨_, rfl⟩
    have hlB2 : (limbs B2).length ≤ 40 := by rw [← hB2]; exact Nat.le_trans (len_shl_c b 30 n 10 tb (by omega)) (by decide)
    have h0B : B2 ≠ 0 := by rw [← hB2]; exact Nat.mul_ne_zero h0b (Nat.pos_iff_ne_zero.1 (Nat.two_pow_pos _))
    have d1 : A2 / B2 = q := by rw [← HA2.out, ← hB2, Nat.mul_div_mul_right _ _ (Nat.two_pow_pos n), hq]
    have d2 : A2 % B2 = R2 := by rw [← HA2.out, ← hB2, Nat.mul_mod_mul_right, hr, hR2]
    have HQ := Lib.hid (And.intro hq hr)
    have HD := Lib.hid (And.intro d1 d2)
    have HB2 := Lib.hid hB2
    have HR2 := Lib.hid hR2
    have LM := Lib.hid (And.intro e3 (And.intro e4 hlB2))
    have H0 := Lib.hid (And.intro h0b h0B)
    clear hq hr e3 e4 hB2 hR2 hlB2 h0B d1 d2 tb h0b
    go_enter Tryz.func11, Tryz.ntmps11
    go_wp2_with (fail)
    refine (dhead_calls _).mono ?_
    rintro e w1 ⟨rfl, hB⟩
    replace u0 := U.below u0 hB
    replace u1 := U.below u1 hB
    replace HB := HB.below hB
    clear hB
    go_wp2_with (fail)
    refine (hMd_a.out _ u0).mono ?_
    rintro e w2 ⟨v_a, rfl, h_a, hB⟩
    replace u1 := U.below u1 hB
    replace HB := HB.below hB
    clear hB
    clear u0
    go_wp2_with (fail)
    refine (hMd_b.out _ u1).mono ?_
    rintro e w3 ⟨v_b, rfl, h_b, hB⟩
    replace h_a := U.below (U.asUn h_a) hB
    replace HB := HB.below hB
    clear hB
    clear u1
    go_wp2_with (fail)
    refine (divmod_D _ _ _ a b q r h_a h_b (by have := LL.out; omega) (by have := LL.out; omega) H0.out.1 HQ.out.1 HQ.out.2).mono ?_
    rintro e w4 ⟨⟨v_q, v_r, rfl, h_q, h_r⟩, hB⟩
    replace h_a := U.below (U.asUn h_a) hB
    replace h_b := U.below (U.asUn h_b) hB
    replace HB := HB.below hB
    clear hB
    go_wp2_with (fail)
    refine (rshl_B _ _ a n h_a (by have := LL.out; omega) (by have := LL.out; omega) A2 HA2.out).mono ?_
    rintro e w5 ⟨v_a2, rfl, h_a2, hB⟩
    replace h_a := U.below (U.asUn h_a) hB
    replace h_b := U.below (U.asUn h_b) hB
    replace h_q := U.below (U.asUn h_q) hB
    replace h_r := U.below (U.asUn h_r) hB
    replace HB := HB.below hB
    clear hB
    go_wp2_with (fail)
    refine (rshl_B _ _ b n h_b (by have := LL.out; omega) (by have := LL.out; omega) B2 HB2.out).mono ?_
    rintro e w6 ⟨v_b2, rfl, h_b2, hB⟩
    clear h_b
    replace h_a := U.below (U.asUn h_a) hB
    replace h_q := U.below (U.asUn h_q) hB
    replace h_r := U.below (U.asUn h_r) hB
    replace h_a2 := U.below (U.asUn h_a2) hB
    replace HB := HB.below hB
    clear hB
    go_wp2_with (fail)
    refine (newton_D _ _ _ A2 B2 q R2 h_a2 h_b2 (by have := LL.out; omega) (by have := LM.out; omega) H0.out.2 HD.out.1 HD.out.2).mono ?_
    rintro e w7 ⟨⟨v_s, v_t, rfl, h_s, h_t⟩, hB⟩
    clear h_a2
    clear h_b2
    replace h_a := U.below (U.asUn h_a) hB
    replace h_q := U.below (U.asUn h_q) hB
    replace h_r := U.below (U.asUn h_r) hB
    replace HB := HB.below hB
    clear hB
    go_wp2_with (fail)
    refine (rshl_B _ _ 1 n (Un_lit _ (w7.heap.size) (by simp) [1] 1 (by decide) (by decide) (limbs_small 1 (by decide) (by decide))) (by have := LL.out; omega) (lenc (len_s (by decide) (by decide)) (by decide)) Y HYY.out).mono ?_
    rintro e w8 ⟨v_y, rfl, h_y, hB⟩
    replace h_a := U.below (U.alloc (U.asUn h_a) _) hB
    replace h_q := U.below (U.alloc (U.asUn h_q) _) hB
    replace h_r := U.below (U.alloc (U.asUn h_r) _) hB
    replace h_s := U.below (U.alloc (U.asUn h_s) _) hB
    replace h_t := U.below (U.alloc (U.asUn h_t) _) hB
    replace HB := (HB.alloc _).below hB
    clear hB
    go_wp2_with (fail)
    refine (ziegler_D _ _ _ a Y u v h_a h_y (by have := LL.out; omega) (by have := LL.out; omega) HY0.out HUV.out.1 HUV.out.2).mono ?_
    rintro e w9 ⟨⟨v_u, v_v, rfl, h_u, h_v⟩, hB⟩
    clear h_y
    replace h_a := U.below (U.asUn h_a) hB
    replace h_q := U.below (U.asUn h_q) hB
    replace h_r := U.below (U.asUn h_r) hB
    replace h_s := U.below (U.asUn h_s) hB
    replace h_t := U.below (U.asUn h_t) hB
    replace HB := HB.below hB
    clear hB
    go_wp2_with (fail)
    refine (sameT _ _ _ _ h_q h_s).mono ?_
    rintro e w10 ⟨rfl, hB⟩
    clear h_q
    clear h_s
    replace h_a := U.below (U.asUn h_a) hB
    replace h_r := U.below (U.asUn h_r) hB
    replace h_t := U.below (U.asUn h_t) hB
    replace h_u := U.below (U.asUn h_u) hB
    replace h_v := U.below (U.asUn h_v) hB
    replace HB := HB.below hB
    clear hB
    go_wp2_with (fail)
    refine (rshl_B _ _ r n h_r (by have := LL.out; omega) (by have := LM.out; omega) R2 HR2.out).mono ?_
    rintro e w11 ⟨v_r2, rfl, h_r2, hB⟩
    clear h_r
    replace h_a := U.below (U.asUn h_a) hB
    replace h_t := U.below (U.asUn h_t) hB
    replace h_u := U.below (U.asUn h_u) hB
    replace h_v := U.below (U.asUn h_v) hB
    replace HB := HB.below hB
    clear hB
    go_wp2_with (fail)
    refine (sameT _ _ _ _ h_r2 h_t).mono ?_
    rintro e w12 ⟨rfl, hB⟩
    clear h_r2
    clear h_t
    replace h_a := U.below (U.asUn h_a) hB
    replace h_u := U.below (U.asUn h_u) hB
    replace h_v := U.below (U.asUn h_v) hB
    replace HB := HB.below hB
    clear hB
    go_wp2_with (fail)
    refine (rshr_B _ _ a n h_a (by have := LL.out; omega) (by have := LL.out; omega) u HSR.out).mono ?_
    rintro e w13 ⟨v_x, rfl, h_x, hB⟩
    replace h_a := U.below (U.asUn h_a) hB
    replace h_u := U.below (U.asUn h_u) hB
    replace h_v := U.below (U.asUn h_v) hB
    replace HB := HB.below hB
    clear hB
    go_wp2_with (fail)
    refine (sameT _ _ _ _ h_u h_x).mono ?_
    rintro e w14 ⟨rfl, hB⟩
    clear h_x
    replace h_a := U.below (U.asUn h_a) hB
    replace h_u := U.below (U.asUn h_u) hB
    replace h_v := U.below (U.asUn h_v) hB
    replace HB := HB.below hB
    clear hB
    go_wp2_with (fail)
    refine (rshl_B _ _ u n h_u (by have := LL.out; omega) (by have := LL.out; omega) u2 HU2.out).mono ?_
    rintro e w15 ⟨v_m, rfl, h_m, hB⟩
    clear h_u
    replace h_a := U.below (U.asUn h_a) hB
    replace h_v := U.below (U.asUn h_v) hB
    replace HB := HB.below hB
    clear hB
    go_wp2_with (fail)
    refine (radd_B _ _ _ u2 v h_m h_v (by have := LL.out; omega) (by have := LL.out; omega) a HAD.out).mono ?_
    rintro e w16 ⟨v_x, rfl, h_x, hB⟩
    clear h_m
    replace h_a := U.below (U.asUn h_a) hB
    replace h_v := U.below (U.asUn h_v) hB
    replace HB := HB.below hB
    clear hB
    go_wp2_with (fail)
    refine (sameT _ _ _ _ h_x h_a).mono ?_
    rintro e w17 ⟨rfl, hB⟩
    clear h_x
    clear h_a
    replace h_v := U.below (U.asUn h_v) hB
    replace HB := HB.below hB
    clear hB
    go_wp2_with (fail)
    refine (rbits_B _ _ v h_v (by have := LL.out; omega) (bl : Int) HBL.out).mono ?_
    rintro e w18 ⟨rfl, hB⟩
    clear h_v
    replace HB := HB.below hB
    clear hB
    go_wp2
    go_ret
    exact ⟨rfl, HB⟩
end Go.Proofs.YtikajmmeglookaaGreatDoor
/- Proved: the statement DivShift: for any two rows (of at most 30 limbs) and any shift (of at most 300): both times a power of 2 have the same quotient, and the rest times that; by a power of 2 alone a division is a shift. No condition. -/
namespace Go.Proofs.YtikajmmeglookaaGreatDoor
open Go.ChangeShapes Go.WideShapes Go.ChangeAt Go.RowKit
set_option linter.unusedVariables false
set_option maxHeartbeats 2000000

set_option maxRecDepth 100000 in
theorem lifted_DivShift (os : Os) (started : os.Started) (H : Type) (enc : TypeId × Value → H) :
    ReturnsInHanded {} Tryz.checked os 11 .any (fun w args => (Rows.divShiftSpec.pre enc Tryz.prog Tryz.f11 [] false w args ∧ laidMetH Tryz.prog laidT w) ∧ sizedMet enc Tryz.prog Tryz.f11 (OpenSpec.ofChange Rows.divShiftSpec) false w args)
      (Rows.divShiftSpec.post enc Tryz.prog Tryz.f11 false true false false) := by
  refine returnsInHanded_of_change_and (C := Tryz.checked) (X := fun w _ => laidMetH Tryz.prog laidT w) (fun _ _ _ hh h => h.of_heap hh) own started (by kernel_rfl) Tryz.func11
    (ChangeSpec.witness_shaped (enc := enc) (C := Tryz.checked) (os := os) (X := fun w _ => laidMetH Tryz.prog laidT w) false (World.doorLaid Tryz.prog 400 os) #[.slice none 0 0, .slice none 0 0, .int .u16 0] 8 rfl (World.shaped_of_RefB (by kernel_rfl) (by kernel_rfl)) (by kernel_rfl) (by kernel_rfl) (by kernel_rfl) (door_met os _)) ?_
  intro W base args ds gs before hval0 hW _ _ hL _
  have hval : ∀ (j : Nat) t v, Tryz.f11.params[j]? = some t → args[j]? = some v → Value.okWide Tryz.prog W .any base t v := hval0
  have hW' := hW
  obtain ⟨p, q, hA0, hV, rfl, hfz, hnd⟩ := hW
  have hlt : ∀ x ∈ p ++ q, x.block < W.heap.size := fun x hx => hW'.lt x hx
  have hA : DataW.TrodAll enc Tryz.prog W 0 (fun _ => true) true Tryz.f11.params.toList args.toList ds p := hA0
  rw [Tryz.params11] at hA hval
  clear hA0 hval0
  obtain ⟨v0, vs0, d0, ds0, p0, q0, hargs0, rfl, rfl, h0, r0⟩ := trodAll_cons hA
  obtain ⟨v1, vs1, d1, ds1, p1, q1, hargs1, rfl, rfl, h1, r1⟩ := trodAll_cons r0
  obtain ⟨v2, vs2, d2, ds2, p2, q2, hargs2, rfl, rfl, h2, r2⟩ := trodAll_cons r1
  obtain ⟨hn1, rfl, rfl⟩ := trodAll_nil r2
  subst hn1
  subst hargs2
  subst hargs1
  obtain rfl : args = #[v0, v1, v2] := by cases args; simp_all
  obtain ⟨rfl, rfl⟩ := trodVars_none hV
  obtain ⟨xs0, u0⟩ := open_limbs (hval 0 22 v0 rfl rfl) h0 (fun x hx => hlt x (by simp [hx]))
  obtain ⟨xs1, u1⟩ := open_limbs (hval 1 22 v1 rfl rfl) h1 (fun x hx => hlt x (by simp [hx]))
  obtain ⟨z2, rfl, rfl, rfl, hz2⟩ := open_int Tryz.underlying37 (hval 2 37 v2 rfl rfl) h2
  have hb2 := bounds_u16 hz2
  obtain ⟨n2, rfl⟩ := Int.eq_ofNat_of_zero_le (show 0 ≤ z2 by omega)
  refine (DivShift_walk W _ _ u0 _ _ u1 n2 (by omega)).mono fun e W' ⟨he, hB⟩ => ?_
  subst he
  exact ⟨_, rfl, law_post hW' rfl (by rw [Tryz.params11]; decide +kernel) rfl rfl rfl rfl hB⟩

theorem divShift_said : Rows.DivShiftSaid :=
  OpenClaim.holds_of_wide 11 Tryz.f11 rfl rfl rfl rfl rfl rfl rfl ⟨rfl, rfl, rfl, rfl, rfl⟩ rfl rfl rfl rfl rfl (by kernel_rfl) Tryz.func11 (by kernel_rfl)
    (of_decide_eq_true (by kernel_rfl)) (by unfold Func.isWrapper; first | (rw [if_pos (by decide +kernel)]; kernel_rfl) | (rw [if_neg (by decide +kernel)]; exact ⟨rfl, rfl⟩))
    (fun os started H enc _ => lifted_DivShift os started H enc)
/-- The statement: the card, tied. -/
theorem divShift_holds : Rows.DivShiftCardSaid :=
  Claim7.holds_tied_plain_at .later [] [.wider] true Rows.divShiftCard.stood.harness false
    divShift_said (fun _ h => by cases h) (by kernel_rfl) (fun _ h => by cases h) divShift_row_tie rfl ⟨rfl, rfl⟩ (by kernel_rfl) rfl
    (fun f fn hf hfn => by
      obtain rfl : f = 11 := Option.some.inj ((show Tryz.prog.funcNamed "ziggurat/zigguratlaw04.DivShift" = some 11 by kernel_rfl).symm.trans hf) |>.symm
      obtain rfl : fn = Tryz.f11 := (Option.some.inj (Tryz.func11.symm.trans hfn)).symm
      exact ⟨by kernel_rfl, fun j t ht => by
        rw [Tryz.params11] at ht
        have hm : t ∈ [22, 22, 37] := by simpa using Array.mem_of_getElem? ht
        have hall : ([22, 22, 37].all fun u => !Tryz.prog.wantsStandIn u) = true := by kernel_rfl
        exact (show Tryz.prog.wantsStandIn t = false by simpa using List.all_eq_true.1 hall t hm)⟩)
    (by kernel_rfl)
end Go.Proofs.YtikajmmeglookaaGreatDoor
