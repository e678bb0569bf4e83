/- Proved: the statement MulRing: whatever three rows and ways: products, by any way, may be turned about, put together in any order, by other ways, and taken apart over a sum. No condition. -/
import Derived.Test.YtkmejhkdmnjbeaaDoorPg

namespace Go.Proofs.YtkmejhkdmnjbeaaDoor
open Go.RowKit
set_option linter.unusedVariables false
set_option maxHeartbeats 400000

set_option maxRecDepth 100000 in
set_option maxHeartbeats 8000000 in
theorem MulRing_walk (w : World) (hg : Gl w) (r0 : Value) (xa : List Nat) (u0 : U w r0 xa) (r1 : Value) (xb : List Nat) (u1 : U w r1 xb) (r2 : Value) (xc : List Nat) (u2 : U w r2 xc) (x : Nat) (hx : x < 256) (y : Nat) (hy : y < 256) :
    Calls Tryd.prog 5 #[.agg #[r0, r1, r2], .int .u8 (x : Nat), .int .u8 (y : Nat)] w fun e w' => e = .returned (.bool true) ∧ Ext w w' := by
  obtain ⟨a, da⟩ : ∃ a, cutN xa 120 = a := ⟨_, rfl⟩
  have ta : Ltl a 120 := by rw [← da]; exact cut_lt xa 120 u0.lim
  have hMd_a := Lib.hid (fun W h => made_N W r0 xa h a da)
  have L_a := Lib.hid (len398 ta (by decide))
  obtain ⟨b, db⟩ : ∃ b, cutN xb 120 = b := ⟨_, rfl⟩
  have tb : Ltl b 120 := by rw [← db]; exact cut_lt xb 120 u1.lim
  have hMd_b := Lib.hid (fun W h => made_N W r1 xb h b db)
  have L_b := Lib.hid (len398 tb (by decide))
  obtain ⟨c, dc⟩ : ∃ c, cutN xc 120 = c := ⟨_, rfl⟩
  have tc : Ltl c 120 := by rw [← dc]; exact cut_lt xc 120 u2.lim
  have hMd_c := Lib.hid (fun W h => made_N W r2 xc h c dc)
  have L_c := Lib.hid (len398 tc (by decide))
  obtain ⟨ab, dab⟩ : ∃ ab, a * b = ab := ⟨_, rfl⟩
  have tab : Ltl ab 240 := by rw [← dab]; exact mul_lt ta tb
  have L_ab := Lib.hid (len398 tab (by decide))
  have E_ab := Lib.hid dab
  obtain ⟨bc, dbc⟩ : ∃ bc, b * c = bc := ⟨_, rfl⟩
  have tbc : Ltl bc 240 := by rw [← dbc]; exact mul_lt tb tc
  have L_bc := Lib.hid (len398 tbc (by decide))
  have E_bc := Lib.hid dbc
  obtain ⟨abc, dabc⟩ : ∃ abc, ab * c = abc := ⟨_, rfl⟩
  have tabc : Ltl abc 360 := by rw [← dabc]; exact mul_lt tab tc
  have L_abc := Lib.hid (len398 tabc (by decide))
  have E_abc := Lib.hid dabc
  obtain ⟨s, ds⟩ : ∃ s, b + c = s := ⟨_, rfl⟩
  have ts : Ltl s 121 := by rw [← ds]; exact ladd_lt tb tc
  have L_s := Lib.hid (len398 ts (by decide))
  have E_s := Lib.hid ds
  obtain ⟨as_, das_⟩ : ∃ as_, a * s = as_ := ⟨_, rfl⟩
  have tas_ : Ltl as_ 241 := by rw [← das_]; exact mul_lt ta ts
  have L_as_ := Lib.hid (len398 tas_ (by decide))
  have E_as_ := Lib.hid das_
  obtain ⟨ac, dac⟩ : ∃ ac, a * c = ac := ⟨_, rfl⟩
  have tac : Ltl ac 240 := by rw [← dac]; exact mul_lt ta tc
  have L_ac := Lib.hid (len398 tac (by decide))
  have E_ac := Lib.hid dac
  obtain ⟨A0, c0, e0, hc0⟩ := u0.shape
  subst e0
  obtain ⟨A1, c1, e1, hc1⟩ := u1.shape
  subst e1
  obtain ⟨A2, c2, e2, hc2⟩ := u2.shape
  subst e2
  have HB := (Ext.refl w).alloc (.cells #[.slice A0 xa.length c0, .slice A1 xb.length c1, .slice A2 xc.length c2] 31)
  have HX := Bx3.new w A0 A1 A2 xa.length c0 xb.length c1 xc.length c2
  replace hg := hg.ext HB
  replace u0 := u0.below HB
  replace u1 := u1.below HB
  replace u2 := u2.below HB
  generalize xa.length = l0 at *
  generalize xb.length = l1 at *
  generalize xc.length = l2 at *
  clear da db dc ta tb tc dab dbc dabc ds das_ dac tab tbc tabc ts tas_ tac hc0 hc1 hc2
  go_enter Tryd.func5, Tryd.ntmps5
  go_wp2_with (fail)
  refine (mhead_calls _ hg).mono ?_
  rintro e w1 ⟨rfl, hB⟩
  replace HB := HB.below hB
  replace hg := hg.ext hB
  replace u0 := u0.below hB
  replace u1 := u1.below hB
  replace u2 := u2.below hB
  replace HX := HX.ext hB
  clear hB
  obtain ⟨b0, b1, b2, b3⟩ := id HX
  go_wp2_with (fail)
  refine (hMd_a.out _ u0).mono ?_
  rintro e w2 ⟨v_a, rfl, h_a, hB⟩
  clear b0 b1 b2 b3
  clear u0
  replace HB := HB.below hB
  replace hg := hg.ext hB
  replace u1 := u1.below hB
  replace u2 := u2.below hB
  replace HX := HX.ext hB
  clear hB
  obtain ⟨b0, b1, b2, b3⟩ := id HX
  go_wp2_with (fail)
  refine (hMd_b.out _ u1).mono ?_
  rintro e w3 ⟨v_b, rfl, h_b, hB⟩
  clear b0 b1 b2 b3
  clear u1
  replace HB := HB.below hB
  replace hg := hg.ext hB
  replace h_a := U.below (U.asUn h_a) hB
  replace u2 := u2.below hB
  replace HX := HX.ext hB
  clear hB
  obtain ⟨b0, b1, b2, b3⟩ := id HX
  go_wp2_with (fail)
  refine (hMd_c.out _ u2).mono ?_
  rintro e w4 ⟨v_c, rfl, h_c, hB⟩
  clear b0 b1 b2 b3
  clear u2
  clear HX
  replace HB := HB.below hB
  replace hg := hg.ext hB
  replace h_a := U.below (U.asUn h_a) hB
  replace h_b := U.below (U.asUn h_b) hB
  clear hB
  go_wp2_with (fail)
  refine (by_B x hx _ _ _ _ _ ab hg h_a h_b L_a.out L_b.out E_ab.out).mono ?_
  rintro e w5 ⟨v_p1, rfl, h_p1, hB⟩
  replace HB := HB.below hB
  replace hg := hg.ext hB
  replace h_a := U.below (U.asUn h_a) hB
  replace h_b := U.below (U.asUn h_b) hB
  replace h_c := U.below (U.asUn h_c) hB
  clear hB
  go_wp2_with (fail)
  refine (by_B y hy _ _ _ _ _ ab hg h_b h_a L_b.out L_a.out (by rw [Nat.mul_comm]; exact E_ab.out)).mono ?_
  rintro e w6 ⟨v_p2, rfl, h_p2, hB⟩
  replace HB := HB.below hB
  replace hg := hg.ext hB
  replace h_a := U.below (U.asUn h_a) hB
  replace h_b := U.below (U.asUn h_b) hB
  replace h_c := U.below (U.asUn h_c) hB
  replace h_p1 := U.below (U.asUn h_p1) hB
  clear hB
  go_wp2_with (fail)
  refine (same_N _ _ _ _ _ h_p1 h_p2 true (decide_eq_true rfl)).mono ?_
  rintro e w7 ⟨rfl, hB⟩
  clear h_p1
  clear h_p2
  replace HB := HB.below hB
  replace hg := hg.ext hB
  replace h_a := U.below (U.asUn h_a) hB
  replace h_b := U.below (U.asUn h_b) hB
  replace h_c := U.below (U.asUn h_c) hB
  clear hB
  go_wp2_with (fail)
  refine (by_B y hy _ _ _ _ _ ab hg h_a h_b L_a.out L_b.out E_ab.out).mono ?_
  rintro e w8 ⟨v_q1, rfl, h_q1, hB⟩
  replace HB := HB.below hB
  replace hg := hg.ext hB
  replace h_a := U.below (U.asUn h_a) hB
  replace h_b := U.below (U.asUn h_b) hB
  replace h_c := U.below (U.asUn h_c) hB
  clear hB
  go_wp2_with (fail)
  refine (by_B x hx _ _ _ _ _ abc hg h_q1 h_c L_ab.out L_c.out E_abc.out).mono ?_
  rintro e w9 ⟨v_q2, rfl, h_q2, hB⟩
  clear h_q1
  replace HB := HB.below hB
  replace hg := hg.ext hB
  replace h_a := U.below (U.asUn h_a) hB
  replace h_b := U.below (U.asUn h_b) hB
  replace h_c := U.below (U.asUn h_c) hB
  clear hB
  go_wp2_with (fail)
  refine (by_B x hx _ _ _ _ _ bc hg h_b h_c L_b.out L_c.out E_bc.out).mono ?_
  rintro e w10 ⟨v_q3, rfl, h_q3, hB⟩
  replace HB := HB.below hB
  replace hg := hg.ext hB
  replace h_a := U.below (U.asUn h_a) hB
  replace h_b := U.below (U.asUn h_b) hB
  replace h_c := U.below (U.asUn h_c) hB
  replace h_q2 := U.below (U.asUn h_q2) hB
  clear hB
  go_wp2_with (fail)
  refine (by_B y hy _ _ _ _ _ abc hg h_a h_q3 L_a.out L_bc.out (by rw [← E_abc.out, ← E_ab.out, ← E_bc.out, Nat.mul_assoc])).mono ?_
  rintro e w11 ⟨v_q4, rfl, h_q4, hB⟩
  clear h_q3
  replace HB := HB.below hB
  replace hg := hg.ext hB
  replace h_a := U.below (U.asUn h_a) hB
  replace h_b := U.below (U.asUn h_b) hB
  replace h_c := U.below (U.asUn h_c) hB
  replace h_q2 := U.below (U.asUn h_q2) hB
  clear hB
  go_wp2_with (fail)
  refine (same_N _ _ _ _ _ h_q2 h_q4 true (decide_eq_true rfl)).mono ?_
  rintro e w12 ⟨rfl, hB⟩
  clear h_q2
  clear h_q4
  replace HB := HB.below hB
  replace hg := hg.ext hB
  replace h_a := U.below (U.asUn h_a) hB
  replace h_b := U.below (U.asUn h_b) hB
  replace h_c := U.below (U.asUn h_c) hB
  clear hB
  go_wp2_with (fail)
  refine (add_B _ _ _ _ _ h_b h_c (lenG L_b.out) (lenG L_c.out) s E_s.out).mono ?_
  rintro e w13 ⟨v_s, rfl, h_s, hB⟩
  replace HB := HB.below hB
  replace hg := hg.ext hB
  replace h_a := U.below (U.asUn h_a) hB
  replace h_b := U.below (U.asUn h_b) hB
  replace h_c := U.below (U.asUn h_c) hB
  clear hB
  go_wp2_with (fail)
  refine (by_B x hx _ _ _ _ _ as_ hg h_a h_s L_a.out L_s.out E_as_.out).mono ?_
  rintro e w14 ⟨v_z1, rfl, h_z1, hB⟩
  clear h_s
  replace HB := HB.below hB
  replace hg := hg.ext hB
  replace h_a := U.below (U.asUn h_a) hB
  replace h_b := U.below (U.asUn h_b) hB
  replace h_c := U.below (U.asUn h_c) hB
  clear hB
  go_wp2_with (fail)
  refine (by_B y hy _ _ _ _ _ ab hg h_a h_b L_a.out L_b.out E_ab.out).mono ?_
  rintro e w15 ⟨v_z2, rfl, h_z2, hB⟩
  clear h_b
  replace HB := HB.below hB
  replace hg := hg.ext hB
  replace h_a := U.below (U.asUn h_a) hB
  replace h_c := U.below (U.asUn h_c) hB
  replace h_z1 := U.below (U.asUn h_z1) hB
  clear hB
  go_wp2_with (fail)
  refine (by_B y hy _ _ _ _ _ ac hg h_a h_c L_a.out L_c.out E_ac.out).mono ?_
  rintro e w16 ⟨v_z3, rfl, h_z3, hB⟩
  clear h_a
  clear h_c
  replace HB := HB.below hB
  replace hg := hg.ext hB
  replace h_z1 := U.below (U.asUn h_z1) hB
  replace h_z2 := U.below (U.asUn h_z2) hB
  clear hB
  go_wp2_with (fail)
  refine (add_B _ _ _ _ _ h_z2 h_z3 (lenG L_ab.out) (lenG L_ac.out) as_ (by rw [← E_as_.out, ← E_s.out, ← E_ab.out, ← E_ac.out, Nat.mul_add])).mono ?_
  rintro e w17 ⟨v_z4, rfl, h_z4, hB⟩
  clear h_z2
  clear h_z3
  replace HB := HB.below hB
  replace hg := hg.ext hB
  replace h_z1 := U.below (U.asUn h_z1) hB
  clear hB
  go_wp2_with (fail)
  refine (same_N _ _ _ _ _ h_z1 h_z4 true (decide_eq_true rfl)).mono ?_
  rintro e w18 ⟨rfl, hB⟩
  clear h_z1
  clear h_z4
  replace HB := HB.below hB
  replace hg := hg.ext hB
  clear hB
  go_wp2
  go_ret
  exact ⟨rfl, HB⟩
end Go.Proofs.YtkmejhkdmnjbeaaDoor
/- Proved: the statement MulRing: whatever three rows and ways: products, by any way, may be turned about, put together in any order, by other ways, and taken apart over a sum. No condition. -/
namespace Go.Proofs.YtkmejhkdmnjbeaaDoor
open Go.ChangeShapes Go.WideShapes Go.ChangeAt Go.RowKit
set_option linter.unusedVariables false
set_option maxHeartbeats 2000000

set_option maxRecDepth 100000 in
theorem lifted_MulRing (os : Os) (started : os.Started) (H : Type) (enc : TypeId × Value → H) :
    ReturnsInHanded {} Tryd.checked os 5 .any (fun w args => (Rows.mulRingSpec.pre enc Tryd.prog Tryd.f5 [] false w args ∧ laidMetH Tryd.prog laidT w) ∧ sizedMet enc Tryd.prog Tryd.f5 (OpenSpec.ofChange Rows.mulRingSpec) false w args)
      (Rows.mulRingSpec.post enc Tryd.prog Tryd.f5 false true false false) := by
  refine returnsInHanded_of_change_and (C := Tryd.checked) (X := fun w _ => laidMetH Tryd.prog laidT w) (fun _ _ _ hh h => h.of_heap hh) own started (by kernel_rfl) Tryd.func5
    (ChangeSpec.witness_shaped (enc := enc) (C := Tryd.checked) (os := os) (X := fun w _ => laidMetH Tryd.prog laidT w) false (World.doorLaid Tryd.prog 400 os) #[.agg #[.slice none 0 0, .slice none 0 0, .slice none 0 0], .int .u8 0, .int .u8 0] 8 rfl (World.shaped_of_RefB (by kernel_rfl) (by kernel_rfl)) (by kernel_rfl) (by kernel_rfl) (by kernel_rfl) (door_met os _)) ?_
  intro W base args ds gs before hval0 hW _ _ hL _
  have hval : ∀ (j : Nat) t v, Tryd.f5.params[j]? = some t → args[j]? = some v → Value.okWide Tryd.prog W .any base t v := hval0
  have hW' := hW
  obtain ⟨p, q, hA0, hV, rfl, hfz, hnd⟩ := hW
  have hlt : ∀ x ∈ p ++ q, x.block < W.heap.size := fun x hx => hW'.lt x hx
  have hA : DataW.TrodAll enc Tryd.prog W 0 (fun _ => true) true Tryd.f5.params.toList args.toList ds p := hA0
  rw [Tryd.params5] at hA hval
  clear hA0 hval0
  obtain ⟨v0, vs0, d0, ds0, p0, q0, hargs0, rfl, rfl, h0, r0⟩ := trodAll_cons hA
  obtain ⟨v1, vs1, d1, ds1, p1, q1, hargs1, rfl, rfl, h1, r1⟩ := trodAll_cons r0
  obtain ⟨v2, vs2, d2, ds2, p2, q2, hargs2, rfl, rfl, h2, r2⟩ := trodAll_cons r1
  obtain ⟨hn1, rfl, rfl⟩ := trodAll_nil r2
  subst hn1
  subst hargs2
  subst hargs1
  obtain rfl : args = #[v0, v1, v2] := by cases args; simp_all
  obtain ⟨rfl, rfl⟩ := trodVars_none hV
  obtain ⟨ra0, rb0, rc0, xa0, xb0, xc0, hv0, ua0, ub0, uc0⟩ := open_three (hval 0 31 v0 rfl rfl) h0 (fun x hx => hlt x (by simp [hx]))
  subst hv0
  obtain ⟨z1, rfl, rfl, rfl, hz1⟩ := open_int Tryd.underlying5 (hval 1 5 v1 rfl rfl) h1
  have hb1 := bounds_u8 hz1
  obtain ⟨n1, rfl⟩ := Int.eq_ofNat_of_zero_le (show 0 ≤ z1 by omega)
  obtain ⟨z2, rfl, rfl, rfl, hz2⟩ := open_int Tryd.underlying5 (hval 2 5 v2 rfl rfl) h2
  have hb2 := bounds_u8 hz2
  obtain ⟨n2, rfl⟩ := Int.eq_ofNat_of_zero_le (show 0 ≤ z2 by omega)
  refine (MulRing_walk W (gl_of_laid hL) _ _ ua0 _ _ ub0 _ _ uc0 n1 (by omega) n2 (by omega)).mono fun e W' ⟨he, hB⟩ => ?_
  subst he
  exact ⟨_, rfl, law_post hW' rfl (by rw [Tryd.params5]; decide +kernel) rfl rfl rfl rfl hB⟩

theorem mulRing_said : Rows.MulRingSaid :=
  OpenClaim.holds_of_wide 5 Tryd.f5 rfl rfl rfl rfl rfl rfl rfl ⟨rfl, rfl, rfl, rfl, rfl⟩ rfl rfl rfl rfl rfl (by kernel_rfl) Tryd.func5 (by kernel_rfl)
    (of_decide_eq_true (by kernel_rfl)) (by unfold Func.isWrapper; first | (rw [if_pos (by decide +kernel)]; kernel_rfl) | (rw [if_neg (by decide +kernel)]; exact ⟨rfl, rfl⟩))
    (fun os started H enc _ => lifted_MulRing os started H enc)
/-- The statement: the card, tied. -/
theorem mulRing_holds : Rows.MulRingCardSaid :=
  Claim7.holds_tied_plain_at .later [] [.wider] true Rows.mulRingCard.stood.harness false
    mulRing_said (fun _ h => by cases h) (by kernel_rfl) (fun _ h => by cases h) mulRing_row_tie rfl ⟨rfl, rfl⟩ (by kernel_rfl) rfl
    (fun f fn hf hfn => by
      obtain rfl : f = 5 := Option.some.inj ((show Tryd.prog.funcNamed "ziggurat/zigguratlaw03.MulRing" = some 5 by kernel_rfl).symm.trans hf) |>.symm
      obtain rfl : fn = Tryd.f5 := (Option.some.inj (Tryd.func5.symm.trans hfn)).symm
      exact ⟨by kernel_rfl, fun j t ht => by
        rw [Tryd.params5] at ht
        have hm : t ∈ [31, 5, 5] := by simpa using Array.mem_of_getElem? ht
        have hall : ([31, 5, 5].all fun u => !Tryd.prog.wantsStandIn u) = true := by kernel_rfl
        exact (show Tryd.prog.wantsStandIn t = false by simpa using List.all_eq_true.1 hall t hm)⟩)
    (by kernel_rfl)
end Go.Proofs.YtkmejhkdmnjbeaaDoor
