/- Proved: the statement MulPowers: whatever two rows and exponents: powers of one natural are added, and multiplied, in their exponents; of a product they are the product of the powers. No condition. -/
import Derived.Test.YtkmejhkdmnjbeaaDoorPg

namespace Go.Proofs.YtkmejhkdmnjbeaaDoor
open Go.RowKit
set_option linter.unusedVariables false
set_option maxHeartbeats 400000

set_option maxRecDepth 100000 in
set_option maxHeartbeats 8000000 in
theorem MulPowers_walk (w : World) (hg : Gl w) (r0 : Value) (xa : List Nat) (u0 : U w r0 xa) (r1 : Value) (xb : List Nat) (u1 : U w r1 xb) (m : Nat) (hm : m < 256) (n : Nat) (hn : n < 256) :
    Calls Tryd.prog 10 #[.agg #[r0, r1], .int .u8 (m : Nat), .int .u8 (n : Nat)] w fun e w' => e = .returned (.bool true) ∧ Ext w w' := by
  obtain ⟨a, da⟩ : ∃ a, cutN xa 3 = a := ⟨_, rfl⟩
  have ta : Ltl a 3 := by rw [← da]; exact cut_lt xa 3 u0.lim
  have hMd_a := Lib.hid (fun W h => made_B W r0 xa 3 h (by decide) (by decide) a da)
  have L_a := Lib.hid (len398 ta (by decide))
  obtain ⟨b, db⟩ : ∃ b, cutN xb 3 = b := ⟨_, rfl⟩
  have tb : Ltl b 3 := by rw [← db]; exact cut_lt xb 3 u1.lim
  have hMd_b := Lib.hid (fun W h => made_B W r1 xb 3 h (by decide) (by decide) b db)
  have L_b := Lib.hid (len398 tb (by decide))
  obtain ⟨i, di⟩ : ∃ i, m % 12 = i := ⟨_, rfl⟩
  have fi1 : (m : Int) % 12 = (i : Int) := by omega
  have fi2 : (m : Int).tmod 12 = (i : Int) := by rw [Int.tmod_eq_emod_of_nonneg (by omega)]; exact fi1
  have bi : i ≤ 11 := by omega
  obtain ⟨k, dk⟩ : ∃ k, n % 12 = k := ⟨_, rfl⟩
  have fk1 : (n : Int) % 12 = (k : Int) := by omega
  have fk2 : (n : Int).tmod 12 = (k : Int) := by rw [Int.tmod_eq_emod_of_nonneg (by omega)]; exact fk1
  have bk : k ≤ 11 := by omega
  obtain ⟨k5, dk5⟩ : ∃ k5, k % 5 = k5 := ⟨_, rfl⟩
  have fk51 : (k : Int) % 5 = (k5 : Int) := by omega
  have fk52 : (k : Int).tmod 5 = (k5 : Int) := by rw [Int.tmod_eq_emod_of_nonneg (by omega)]; exact fk51
  have bk5 : k5 ≤ 4 := by omega
  obtain ⟨ik, dik⟩ : ∃ ik, i + k = ik := ⟨_, rfl⟩
  have fik : (i : Int) + (k : Int) = (ik : Int) := by omega
  obtain ⟨i5, di5⟩ : ∃ i5, i * k5 = i5 := ⟨_, rfl⟩
  have fi5 : (i : Int) * (k5 : Int) = (i5 : Int) := by rw [← di5, Int.natCast_mul]
  have bi5 : i5 ≤ 44 := by rw [← di5]; exact Nat.mul_le_mul bi bk5
  have bik : ik ≤ 22 := by omega
  have HPA := Lib.hid (fun W v hg h e (he : e ≤ 60) r (hr : a ^ e = r) => pow_B W hg v a 3 e h ta (show 3 * e ≤ 380 by omega) (by decide) (by omega) r hr)
  have HPB := Lib.hid (fun W v hg h e (he : e ≤ 60) r (hr : b ^ e = r) => pow_B W hg v b 3 e h tb (show 3 * e ≤ 380 by omega) (by decide) (by omega) r hr)
  obtain ⟨ai, dai⟩ : ∃ ai, a ^ i = ai := ⟨_, rfl⟩
  obtain ⟨ak, dak⟩ : ∃ ak, a ^ k = ak := ⟨_, rfl⟩
  obtain ⟨bk_, dbk⟩ : ∃ bk_, b ^ k = bk_ := ⟨_, rfl⟩
  obtain ⟨ab, dab⟩ : ∃ ab, a * b = ab := ⟨_, rfl⟩
  have tab : ab < LB ^ 6 := by rw [← dab]; exact mul_lt ta tb
  have l_ai : (limbs ai).length ≤ 34 := by rw [← dai]; exact pow_limbs ta bi
  have l_ak : (limbs ak).length ≤ 34 := by rw [← dak]; exact pow_limbs ta bk
  have l_bk : (limbs bk_).length ≤ 34 := by rw [← dbk]; exact pow_limbs tb bk
  have tai : ai < LB ^ 34 := Nat.lt_of_lt_of_le un_lt (Nat.pow_le_pow_right (by decide) l_ai)
  have L_ai := Lib.hid (Nat.le_trans l_ai (show 34 ≤ 398 by decide))
  have L_ak := Lib.hid (Nat.le_trans l_ak (show 34 ≤ 398 by decide))
  have L_bk := Lib.hid (Nat.le_trans l_bk (show 34 ≤ 398 by decide))
  have HPI := Lib.hid (fun W v hg h r (hr : ai ^ k5 = r) => pow_B W hg v ai 34 k5 h tai (show 34 * k5 ≤ 380 by omega) (by decide) (by omega) r hr)
  have HPM := Lib.hid (fun W v hg h r (hr : ab ^ k = r) => pow_B W hg v ab 6 k h tab (show 6 * k ≤ 380 by omega) (by decide) (by omega) r hr)
  have E1 : Hid (a ^ ik = ai * ak) := by rw [Hid, ← dik, Nat.pow_add, dai, dak]
  have E2 : Hid (a ^ i5 = ai ^ k5) := by rw [Hid, ← di5, Nat.pow_mul, dai]
  have E3 : Hid (ab ^ k = ak * bk_) := by rw [Hid, ← dab, Nat.mul_pow, dak, dbk]
  have Eai := Lib.hid dai
  have Eak := Lib.hid dak
  have Ebk := Lib.hid dbk
  have Eab := Lib.hid dab
  obtain ⟨A0, c0, e0, hc0⟩ := u0.shape
  subst e0
  obtain ⟨A1, c1, e1, hc1⟩ := u1.shape
  subst e1
  have HB := (Ext.refl w).alloc (.cells #[.slice A0 xa.length c0, .slice A1 xb.length c1] 34)
  have HX := Bx2.new w A0 A1 xa.length c0 xb.length c1
  replace hg := hg.ext HB
  replace u0 := u0.below HB
  replace u1 := u1.below HB
  generalize xa.length = l0 at *
  generalize xb.length = l1 at *
  clear da db ta tb di dk dk5 dik di5 dai dak dbk dab tab l_ai l_ak l_bk tai hc0 hc1
  go_enter Tryd.func10, Tryd.ntmps10
  go_wp2_with (fail)
  refine (mhead_calls _ hg).mono ?_
  rintro e w1 ⟨rfl, hB⟩
  replace HB := HB.below hB
  replace hg := hg.ext hB
  replace u0 := u0.below hB
  replace u1 := u1.below hB
  replace HX := HX.ext hB
  clear hB
  obtain ⟨b0, b1, b2⟩ := id HX
  go_wp2_with (fail)
  refine (hMd_a.out _ u0).mono ?_
  rintro e w2 ⟨v_a, rfl, h_a, hB⟩
  clear b0 b1 b2
  clear u0
  replace HB := HB.below hB
  replace hg := hg.ext hB
  replace u1 := u1.below hB
  replace HX := HX.ext hB
  clear hB
  obtain ⟨b0, b1, b2⟩ := id HX
  go_wp2_with (fail)
  refine (hMd_b.out _ u1).mono ?_
  rintro e w3 ⟨v_b, rfl, h_b, hB⟩
  clear b0 b1 b2
  clear u1
  clear HX
  replace HB := HB.below hB
  replace hg := hg.ext hB
  replace h_a := U.below (U.asUn h_a) hB
  clear hB
  go_wp2_with (fail)
  refine (HPA.out _ _ hg h_a ik (by omega) _ E1.out).mono ?_
  rintro e w4 ⟨v_p1, rfl, h_p1, hB⟩
  replace HB := HB.below hB
  replace hg := hg.ext hB
  replace h_a := U.below (U.asUn h_a) hB
  replace h_b := U.below (U.asUn h_b) hB
  clear hB
  go_wp2_with (fail)
  refine (HPA.out _ _ hg h_a i (by omega) ai Eai.out).mono ?_
  rintro e w5 ⟨v_p2, rfl, h_p2, hB⟩
  replace HB := HB.below hB
  replace hg := hg.ext hB
  replace h_a := U.below (U.asUn h_a) hB
  replace h_b := U.below (U.asUn h_b) hB
  replace h_p1 := U.below (U.asUn h_p1) hB
  clear hB
  go_wp2_with (fail)
  refine (HPA.out _ _ hg h_a k (by omega) ak Eak.out).mono ?_
  rintro e w6 ⟨v_p3, rfl, h_p3, hB⟩
  replace HB := HB.below hB
  replace hg := hg.ext hB
  replace h_a := U.below (U.asUn h_a) hB
  replace h_b := U.below (U.asUn h_b) hB
  replace h_p1 := U.below (U.asUn h_p1) hB
  replace h_p2 := U.below (U.asUn h_p2) hB
  clear hB
  go_wp2_with (fail)
  refine (mul_B _ _ _ ai ak _ hg h_p2 h_p3 L_ai.out L_ak.out rfl).mono ?_
  rintro e w7 ⟨v_p4, rfl, h_p4, hB⟩
  clear h_p2
  clear h_p3
  replace HB := HB.below hB
  replace hg := hg.ext hB
  replace h_a := U.below (U.asUn h_a) hB
  replace h_b := U.below (U.asUn h_b) hB
  replace h_p1 := U.below (U.asUn h_p1) hB
  clear hB
  go_wp2_with (fail)
  refine (same_N _ _ _ _ _ h_p1 h_p4 true (decide_eq_true rfl)).mono ?_
  rintro e w8 ⟨rfl, hB⟩
  clear h_p1
  clear h_p4
  replace HB := HB.below hB
  replace hg := hg.ext hB
  replace h_a := U.below (U.asUn h_a) hB
  replace h_b := U.below (U.asUn h_b) hB
  clear hB
  go_wp2_with (fail)
  refine (HPA.out _ _ hg h_a i (by omega) ai Eai.out).mono ?_
  rintro e w9 ⟨v_q1, rfl, h_q1, hB⟩
  replace HB := HB.below hB
  replace hg := hg.ext hB
  replace h_a := U.below (U.asUn h_a) hB
  replace h_b := U.below (U.asUn h_b) hB
  clear hB
  go_wp2_with (fail)
  refine (HPI.out _ _ hg h_q1 _ rfl).mono ?_
  rintro e w10 ⟨v_q2, rfl, h_q2, hB⟩
  clear h_q1
  replace HB := HB.below hB
  replace hg := hg.ext hB
  replace h_a := U.below (U.asUn h_a) hB
  replace h_b := U.below (U.asUn h_b) hB
  clear hB
  go_wp2_with (fail)
  refine (HPA.out _ _ hg h_a i5 (by omega) _ E2.out).mono ?_
  rintro e w11 ⟨v_q3, rfl, h_q3, hB⟩
  replace HB := HB.below hB
  replace hg := hg.ext hB
  replace h_a := U.below (U.asUn h_a) hB
  replace h_b := U.below (U.asUn h_b) hB
  replace h_q2 := U.below (U.asUn h_q2) hB
  clear hB
  go_wp2_with (fail)
  refine (same_N _ _ _ _ _ h_q2 h_q3 true (decide_eq_true rfl)).mono ?_
  rintro e w12 ⟨rfl, hB⟩
  clear h_q2
  clear h_q3
  replace HB := HB.below hB
  replace hg := hg.ext hB
  replace h_a := U.below (U.asUn h_a) hB
  replace h_b := U.below (U.asUn h_b) hB
  clear hB
  go_wp2_with (fail)
  refine (mul_B _ _ _ a b ab hg h_a h_b L_a.out L_b.out Eab.out).mono ?_
  rintro e w13 ⟨v_z0, rfl, h_z0, hB⟩
  replace HB := HB.below hB
  replace hg := hg.ext hB
  replace h_a := U.below (U.asUn h_a) hB
  replace h_b := U.below (U.asUn h_b) hB
  clear hB
  go_wp2_with (fail)
  refine (HPM.out _ _ hg h_z0 _ E3.out).mono ?_
  rintro e w14 ⟨v_z1, rfl, h_z1, hB⟩
  clear h_z0
  replace HB := HB.below hB
  replace hg := hg.ext hB
  replace h_a := U.below (U.asUn h_a) hB
  replace h_b := U.below (U.asUn h_b) hB
  clear hB
  go_wp2_with (fail)
  refine (HPA.out _ _ hg h_a k (by omega) ak Eak.out).mono ?_
  rintro e w15 ⟨v_z2, rfl, h_z2, hB⟩
  clear h_a
  replace HB := HB.below hB
  replace hg := hg.ext hB
  replace h_b := U.below (U.asUn h_b) hB
  replace h_z1 := U.below (U.asUn h_z1) hB
  clear hB
  go_wp2_with (fail)
  refine (HPB.out _ _ hg h_b k (by omega) bk_ Ebk.out).mono ?_
  rintro e w16 ⟨v_z3, rfl, h_z3, hB⟩
  clear h_b
  replace HB := HB.below hB
  replace hg := hg.ext hB
  replace h_z1 := U.below (U.asUn h_z1) hB
  replace h_z2 := U.below (U.asUn h_z2) hB
  clear hB
  go_wp2_with (fail)
  refine (mul_B _ _ _ ak bk_ _ hg h_z2 h_z3 L_ak.out L_bk.out rfl).mono ?_
  rintro e w17 ⟨v_z4, rfl, h_z4, hB⟩
  clear h_z2
  clear h_z3
  replace HB := HB.below hB
  replace hg := hg.ext hB
  replace h_z1 := U.below (U.asUn h_z1) hB
  clear hB
  go_wp2_with (fail)
  refine (same_N _ _ _ _ _ h_z1 h_z4 true (decide_eq_true rfl)).mono ?_
  rintro e w18 ⟨rfl, hB⟩
  clear h_z1
  clear h_z4
  replace HB := HB.below hB
  replace hg := hg.ext hB
  clear hB
  go_wp2
  go_ret
  exact ⟨rfl, HB⟩
end Go.Proofs.YtkmejhkdmnjbeaaDoor
/- Proved: the statement MulPowers: whatever two rows and exponents: powers of one natural are added, and multiplied, in their exponents; of a product they are the product of the powers. No condition. -/
namespace Go.Proofs.YtkmejhkdmnjbeaaDoor
open Go.ChangeShapes Go.WideShapes Go.ChangeAt Go.RowKit
set_option linter.unusedVariables false
set_option maxHeartbeats 2000000

set_option maxRecDepth 100000 in
theorem lifted_MulPowers (os : Os) (started : os.Started) (H : Type) (enc : TypeId × Value → H) :
    ReturnsInHanded {} Tryd.checked os 10 .any (fun w args => (Rows.mulPowersSpec.pre enc Tryd.prog Tryd.f10 [] false w args ∧ laidMetH Tryd.prog laidT w) ∧ sizedMet enc Tryd.prog Tryd.f10 (OpenSpec.ofChange Rows.mulPowersSpec) false w args)
      (Rows.mulPowersSpec.post enc Tryd.prog Tryd.f10 false true false false) := by
  refine returnsInHanded_of_change_and (C := Tryd.checked) (X := fun w _ => laidMetH Tryd.prog laidT w) (fun _ _ _ hh h => h.of_heap hh) own started (by kernel_rfl) Tryd.func10
    (ChangeSpec.witness_shaped (enc := enc) (C := Tryd.checked) (os := os) (X := fun w _ => laidMetH Tryd.prog laidT w) false (World.doorLaid Tryd.prog 400 os) #[.agg #[.slice none 0 0, .slice none 0 0], .int .u8 0, .int .u8 0] 8 rfl (World.shaped_of_RefB (by kernel_rfl) (by kernel_rfl)) (by kernel_rfl) (by kernel_rfl) (by kernel_rfl) (door_met os _)) ?_
  intro W base args ds gs before hval0 hW _ _ hL _
  have hval : ∀ (j : Nat) t v, Tryd.f10.params[j]? = some t → args[j]? = some v → Value.okWide Tryd.prog W .any base t v := hval0
  have hW' := hW
  obtain ⟨p, q, hA0, hV, rfl, hfz, hnd⟩ := hW
  have hlt : ∀ x ∈ p ++ q, x.block < W.heap.size := fun x hx => hW'.lt x hx
  have hA : DataW.TrodAll enc Tryd.prog W 0 (fun _ => true) true Tryd.f10.params.toList args.toList ds p := hA0
  rw [Tryd.params10] at hA hval
  clear hA0 hval0
  obtain ⟨v0, vs0, d0, ds0, p0, q0, hargs0, rfl, rfl, h0, r0⟩ := trodAll_cons hA
  obtain ⟨v1, vs1, d1, ds1, p1, q1, hargs1, rfl, rfl, h1, r1⟩ := trodAll_cons r0
  obtain ⟨v2, vs2, d2, ds2, p2, q2, hargs2, rfl, rfl, h2, r2⟩ := trodAll_cons r1
  obtain ⟨hn1, rfl, rfl⟩ := trodAll_nil r2
  subst hn1
  subst hargs2
  subst hargs1
  obtain rfl : args = #[v0, v1, v2] := by cases args; simp_all
  obtain ⟨rfl, rfl⟩ := trodVars_none hV
  obtain ⟨ra0, rb0, xa0, xb0, hv0, ua0, ub0⟩ := open_two (hval 0 34 v0 rfl rfl) h0 (fun x hx => hlt x (by simp [hx]))
  subst hv0
  obtain ⟨z1, rfl, rfl, rfl, hz1⟩ := open_int Tryd.underlying5 (hval 1 5 v1 rfl rfl) h1
  have hb1 := bounds_u8 hz1
  obtain ⟨n1, rfl⟩ := Int.eq_ofNat_of_zero_le (show 0 ≤ z1 by omega)
  obtain ⟨z2, rfl, rfl, rfl, hz2⟩ := open_int Tryd.underlying5 (hval 2 5 v2 rfl rfl) h2
  have hb2 := bounds_u8 hz2
  obtain ⟨n2, rfl⟩ := Int.eq_ofNat_of_zero_le (show 0 ≤ z2 by omega)
  refine (MulPowers_walk W (gl_of_laid hL) _ _ ua0 _ _ ub0 n1 (by omega) n2 (by omega)).mono fun e W' ⟨he, hB⟩ => ?_
  subst he
  exact ⟨_, rfl, law_post hW' rfl (by rw [Tryd.params10]; decide +kernel) rfl rfl rfl rfl hB⟩

theorem mulPowers_said : Rows.MulPowersSaid :=
  OpenClaim.holds_of_wide 10 Tryd.f10 rfl rfl rfl rfl rfl rfl rfl ⟨rfl, rfl, rfl, rfl, rfl⟩ rfl rfl rfl rfl rfl (by kernel_rfl) Tryd.func10 (by kernel_rfl)
    (of_decide_eq_true (by kernel_rfl)) (by unfold Func.isWrapper; first | (rw [if_pos (by decide +kernel)]; kernel_rfl) | (rw [if_neg (by decide +kernel)]; exact ⟨rfl, rfl⟩))
    (fun os started H enc _ => lifted_MulPowers os started H enc)
/-- The statement: the card, tied. -/
theorem mulPowers_holds : Rows.MulPowersCardSaid :=
  Claim7.holds_tied_plain_at .later [] [.wider] true Rows.mulPowersCard.stood.harness false
    mulPowers_said (fun _ h => by cases h) (by kernel_rfl) (fun _ h => by cases h) mulPowers_row_tie rfl ⟨rfl, rfl⟩ (by kernel_rfl) rfl
    (fun f fn hf hfn => by
      obtain rfl : f = 10 := Option.some.inj ((show Tryd.prog.funcNamed "ziggurat/zigguratlaw03.MulPowers" = some 10 by kernel_rfl).symm.trans hf) |>.symm
      obtain rfl : fn = Tryd.f10 := (Option.some.inj (Tryd.func10.symm.trans hfn)).symm
      exact ⟨by kernel_rfl, fun j t ht => by
        rw [Tryd.params10] at ht
        have hm : t ∈ [34, 5, 5] := by simpa using Array.mem_of_getElem? ht
        have hall : ([34, 5, 5].all fun u => !Tryd.prog.wantsStandIn u) = true := by kernel_rfl
        exact (show Tryd.prog.wantsStandIn t = false by simpa using List.all_eq_true.1 hall t hm)⟩)
    (by kernel_rfl)
end Go.Proofs.YtkmejhkdmnjbeaaDoor
