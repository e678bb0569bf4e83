/- Proved: the statement DivMore: for any three rows (of at most 30, 30 and 20 limbs): a multiple of the divisor more is just that more of the quotient, and leaves the rest. No condition. -/
import Derived.Test.YtikajmmeglookaaGreatDoorPj

namespace Go.Proofs.YtikajmmeglookaaGreatDoor
open Go.RowKit
set_option linter.unusedVariables false
set_option maxHeartbeats 400000

set_option maxRecDepth 100000 in
set_option maxHeartbeats 8000000 in
theorem DivMore_walk (w : World) (r0 : Value) (xa : List Nat) (u0 : U w r0 xa) (r1 : Value) (xb : List Nat) (u1 : U w r1 xb) (r2 : Value) (xc : List Nat) (u2 : U w r2 xc) :
    Calls Tryz.prog 10 #[r0, r1, r2] w fun e w' => e = .returned (.bool true) ∧ Ext w w' := by
  have HB := Ext.refl w
  obtain ⟨a, da⟩ : ∃ a, cutN xa 30 = a := ⟨_, rfl⟩
  have ta : (limbs a).length ≤ 30 := by rw [← da]; exact len_of (cut_lt xa 30 u0.lim)
  have hMd_a := Lib.hid (fun W (h : U W r0 xa) => made_B W r0 xa 30 h (by decide) (by decide) a da)
  obtain ⟨b, db⟩ : ∃ b, cutN xb 30 = b := ⟨_, rfl⟩
  have tb : (limbs b).length ≤ 30 := by rw [← db]; exact len_of (cut_lt xb 30 u1.lim)
  have hMd_b := Lib.hid (fun W (h : U W r1 xb) => made_B W r1 xb 30 h (by decide) (by decide) b db)
  obtain ⟨c, dc⟩ : ∃ c, cutN xc 20 = c := ⟨_, rfl⟩
  have tc : (limbs c).length ≤ 20 := by rw [← dc]; exact len_of (cut_lt xc 20 u2.lim)
  have hMd_c := Lib.hid (fun W (h : U W r2 xc) => made_B W r2 xc 20 h (by decide) (by decide) c dc)
  clear da db dc
  by_cases h0b : b = 0
  · subst h0b
    go_enter Tryz.func10, Tryz.ntmps10
    go_wp2_with (fail)
    refine (dhead_calls _).mono ?_
    rintro e w1 ⟨rfl, hB⟩
    replace u0 := U.below u0 hB
    replace u1 := U.below u1 hB
    replace u2 := U.below u2 hB
    replace HB := HB.below hB
    clear hB
    go_wp2_with (fail)
    refine (hMd_a.out _ u0).mono ?_
    rintro e w2 ⟨v_a, rfl, h_a, hB⟩
    replace u1 := U.below u1 hB
    replace u2 := U.below u2 hB
    replace HB := HB.below hB
    clear hB
    clear u0
    go_wp2_with (fail)
    refine (hMd_b.out _ u1).mono ?_
    rintro e w3 ⟨v_b, rfl, h_b, hB⟩
    replace h_a := U.below (U.asUn h_a) hB
    replace u2 := U.below u2 hB
    replace HB := HB.below hB
    clear hB
    clear u1
    obtain ⟨Ab, cb, rfl⟩ := un_zero h_b
    go_wp2_with (fail)
    refine (hMd_c.out _ u2).mono ?_
    rintro e w4 ⟨v_c, rfl, h_c, hB⟩
    replace h_a := U.below (U.asUn h_a) hB
    replace h_b := U.below (U.asUn h_b) hB
    replace HB := HB.below hB
    clear hB
    clear u2
    go_wp2
    go_ret
    exact ⟨rfl, HB⟩
  · obtain ⟨q, hq⟩ : ∃ q, a / b = q := ⟨_, rfl⟩
    obtain ⟨r, hr⟩ : ∃ r, a % b = r := ⟨_, rfl⟩
    obtain ⟨-, -, e3, e4⟩ := dm_all h0b hq hr ta
    obtain ⟨p, hp⟩ : ∃ p, b * c = p := ⟨_, rfl⟩
    obtain ⟨x, hx⟩ : ∃ x, a + p = x := ⟨_, rfl⟩
    obtain ⟨s, hs⟩ : ∃ s, q + c = s := ⟨_, rfl⟩
    have hlp : (limbs p).length ≤ 50 := by rw [← hp]; exact len_of (mul_lt (i := 30) (j := 20) (lt_of_len_le tb) (lt_of_len_le tc))
    have hlx : (limbs x).length ≤ 51 := by rw [← hx]; exact Nat.le_trans (len_add ta hlp) (by decide)
    have d1 : x / b = s := by rw [← hx, ← hp, Nat.add_mul_div_left _ _ (by omega), hq, hs]
    have d2 : x % b = r := by rw [← hx, ← hp, Nat.add_mul_mod_self_left, hr]
    have HQ := Lib.hid (And.intro hq hr)
    have HD := Lib.hid (And.intro d1 d2)
    have HP := Lib.hid hp
    have HX := Lib.hid hx
    have HS := Lib.hid hs
    have LL := Lib.hid (And.intro ta (And.intro tb (And.intro tc (And.intro e3 (And.intro e4 (And.intro hlp hlx))))))
    have H0 := Lib.hid h0b
    obtain ⟨Lb, hLb⟩ : ∃ Lb, (limbs b).length = Lb := ⟨_, rfl⟩
    have hL0b : ((Lb : Int) == 0) = false := by rw [beq_eq_false_iff_ne]; have := limbs_nz h0b; omega
    have hL1b : ¬ Lb = 0 := by have := limbs_nz h0b; omega
    clear hq hr hp hx hs hlp hlx d1 d2 e3 e4 ta tb tc h0b
    go_enter Tryz.func10, Tryz.ntmps10
    go_wp2_with (fail)
    refine (dhead_calls _).mono ?_
    rintro e w1 ⟨rfl, hB⟩
    replace u0 := U.below u0 hB
    replace u1 := U.below u1 hB
    replace u2 := U.below u2 hB
    replace HB := HB.below hB
    clear hB
    go_wp2_with (fail)
    refine (hMd_a.out _ u0).mono ?_
    rintro e w2 ⟨v_a, rfl, h_a, hB⟩
    replace u1 := U.below u1 hB
    replace u2 := U.below u2 hB
    replace HB := HB.below hB
    clear hB
    clear u0
    go_wp2_with (fail)
    refine (hMd_b.out _ u1).mono ?_
    rintro e w3 ⟨v_b, rfl, h_b, hB⟩
    replace h_a := U.below (U.asUn h_a) hB
    replace u2 := U.below u2 hB
    replace HB := HB.below hB
    clear hB
    clear u1
    obtain ⟨Ab, cb, rfl, hcb⟩ := U.shape (U.asUn h_b)
    rw [hLb] at h_b ⊢
    clear hcb
    go_wp2_with (fail)
    refine (hMd_c.out _ u2).mono ?_
    rintro e w4 ⟨v_c, rfl, h_c, hB⟩
    replace h_a := U.below (U.asUn h_a) hB
    replace h_b := U.below (U.asUn h_b) hB
    replace HB := HB.below hB
    clear hB
    clear u2
    go_wp2_with (fail)
    refine (ziegler_D _ _ _ a b q r h_a h_b (by have := LL.out; omega) (by have := LL.out; omega) H0.out HQ.out.1 HQ.out.2).mono ?_
    rintro e w5 ⟨⟨v_q, v_r, rfl, h_q, h_r⟩, hB⟩
    replace h_a := U.below (U.asUn h_a) hB
    replace h_b := U.below (U.asUn h_b) hB
    replace h_c := U.below (U.asUn h_c) hB
    replace HB := HB.below hB
    clear hB
    go_wp2_with (fail)
    refine (rmul_B _ _ _ b c p h_b h_c (by have := LL.out; omega) (by have := LL.out; omega) HP.out).mono ?_
    rintro e w6 ⟨v_p, rfl, h_p, hB⟩
    replace h_a := U.below (U.asUn h_a) hB
    replace h_b := U.below (U.asUn h_b) hB
    replace h_c := U.below (U.asUn h_c) hB
    replace h_q := U.below (U.asUn h_q) hB
    replace h_r := U.below (U.asUn h_r) hB
    replace HB := HB.below hB
    clear hB
    go_wp2_with (fail)
    refine (radd_B _ _ _ a p h_a h_p (by have := LL.out; omega) (by have := LL.out; omega) x HX.out).mono ?_
    rintro e w7 ⟨v_x, rfl, h_x, hB⟩
    clear h_a
    clear h_p
    replace h_b := U.below (U.asUn h_b) hB
    replace h_c := U.below (U.asUn h_c) hB
    replace h_q := U.below (U.asUn h_q) hB
    replace h_r := U.below (U.asUn h_r) hB
    replace HB := HB.below hB
    clear hB
    go_wp2_with (fail)
    refine (divmod_D _ _ _ x b s r h_x h_b (by have := LL.out; omega) (by have := LL.out; omega) H0.out HD.out.1 HD.out.2).mono ?_
    rintro e w8 ⟨⟨v_s, v_t, rfl, h_s, h_t⟩, hB⟩
    clear h_x
    clear h_b
    replace h_c := U.below (U.asUn h_c) hB
    replace h_q := U.below (U.asUn h_q) hB
    replace h_r := U.below (U.asUn h_r) hB
    replace HB := HB.below hB
    clear hB
    go_wp2_with (fail)
    refine (radd_B _ _ _ q c h_q h_c (by have := LL.out; omega) (by have := LL.out; omega) s HS.out).mono ?_
    rintro e w9 ⟨v_y, rfl, h_y, hB⟩
    clear h_q
    clear h_c
    replace h_r := U.below (U.asUn h_r) hB
    replace h_s := U.below (U.asUn h_s) hB
    replace h_t := U.below (U.asUn h_t) hB
    replace HB := HB.below hB
    clear hB
    go_wp2_with (fail)
    refine (sameT _ _ _ _ h_s h_y).mono ?_
    rintro e w10 ⟨rfl, hB⟩
    clear h_s
    clear h_y
    replace h_r := U.below (U.asUn h_r) hB
    replace h_t := U.below (U.asUn h_t) hB
    replace HB := HB.below hB
    clear hB
    go_wp2_with (fail)
    refine (sameT _ _ _ _ h_t h_r).mono ?_
    rintro e w11 ⟨rfl, hB⟩
    clear h_t
    clear h_r
    replace HB := HB.below hB
    clear hB
    go_wp2
    go_ret
    exact ⟨rfl, HB⟩
end Go.Proofs.YtikajmmeglookaaGreatDoor
/- Proved: the statement DivMore: for any three rows (of at most 30, 30 and 20 limbs): a multiple of the divisor more is just that more of the quotient, and leaves the rest. No condition. -/
namespace Go.Proofs.YtikajmmeglookaaGreatDoor
open Go.ChangeShapes Go.WideShapes Go.ChangeAt Go.RowKit
set_option linter.unusedVariables false
set_option maxHeartbeats 2000000

set_option maxRecDepth 100000 in
theorem lifted_DivMore (os : Os) (started : os.Started) (H : Type) (enc : TypeId × Value → H) :
    ReturnsInHanded {} Tryz.checked os 10 .any (fun w args => (Rows.divMoreSpec.pre enc Tryz.prog Tryz.f10 [] false w args ∧ laidMetH Tryz.prog laidT w) ∧ sizedMet enc Tryz.prog Tryz.f10 (OpenSpec.ofChange Rows.divMoreSpec) false w args)
      (Rows.divMoreSpec.post enc Tryz.prog Tryz.f10 false true false false) := by
  refine returnsInHanded_of_change_and (C := Tryz.checked) (X := fun w _ => laidMetH Tryz.prog laidT w) (fun _ _ _ hh h => h.of_heap hh) own started (by kernel_rfl) Tryz.func10
    (ChangeSpec.witness_shaped (enc := enc) (C := Tryz.checked) (os := os) (X := fun w _ => laidMetH Tryz.prog laidT w) false (World.doorLaid Tryz.prog 400 os) #[.slice none 0 0, .slice none 0 0, .slice none 0 0] 8 rfl (World.shaped_of_RefB (by kernel_rfl) (by kernel_rfl)) (by kernel_rfl) (by kernel_rfl) (by kernel_rfl) (door_met os _)) ?_
  intro W base args ds gs before hval0 hW _ _ hL _
  have hval : ∀ (j : Nat) t v, Tryz.f10.params[j]? = some t → args[j]? = some v → Value.okWide Tryz.prog W .any base t v := hval0
  have hW' := hW
  obtain ⟨p, q, hA0, hV, rfl, hfz, hnd⟩ := hW
  have hlt : ∀ x ∈ p ++ q, x.block < W.heap.size := fun x hx => hW'.lt x hx
  have hA : DataW.TrodAll enc Tryz.prog W 0 (fun _ => true) true Tryz.f10.params.toList args.toList ds p := hA0
  rw [Tryz.params10] at hA hval
  clear hA0 hval0
  obtain ⟨v0, vs0, d0, ds0, p0, q0, hargs0, rfl, rfl, h0, r0⟩ := trodAll_cons hA
  obtain ⟨v1, vs1, d1, ds1, p1, q1, hargs1, rfl, rfl, h1, r1⟩ := trodAll_cons r0
  obtain ⟨v2, vs2, d2, ds2, p2, q2, hargs2, rfl, rfl, h2, r2⟩ := trodAll_cons r1
  obtain ⟨hn1, rfl, rfl⟩ := trodAll_nil r2
  subst hn1
  subst hargs2
  subst hargs1
  obtain rfl : args = #[v0, v1, v2] := by cases args; simp_all
  obtain ⟨rfl, rfl⟩ := trodVars_none hV
  obtain ⟨xs0, u0⟩ := open_limbs (hval 0 22 v0 rfl rfl) h0 (fun x hx => hlt x (by simp [hx]))
  obtain ⟨xs1, u1⟩ := open_limbs (hval 1 22 v1 rfl rfl) h1 (fun x hx => hlt x (by simp [hx]))
  obtain ⟨xs2, u2⟩ := open_limbs (hval 2 22 v2 rfl rfl) h2 (fun x hx => hlt x (by simp [hx]))
  refine (DivMore_walk W _ _ u0 _ _ u1 _ _ u2).mono fun e W' ⟨he, hB⟩ => ?_
  subst he
  exact ⟨_, rfl, law_post hW' rfl (by rw [Tryz.params10]; decide +kernel) rfl rfl rfl rfl hB⟩

theorem divMore_said : Rows.DivMoreSaid :=
  OpenClaim.holds_of_wide 10 Tryz.f10 rfl rfl rfl rfl rfl rfl rfl ⟨rfl, rfl, rfl, rfl, rfl⟩ rfl rfl rfl rfl rfl (by kernel_rfl) Tryz.func10 (by kernel_rfl)
    (of_decide_eq_true (by kernel_rfl)) (by unfold Func.isWrapper; first | (rw [if_pos (by decide +kernel)]; kernel_rfl) | (rw [if_neg (by decide +kernel)]; exact ⟨rfl, rfl⟩))
    (fun os started H enc _ => lifted_DivMore os started H enc)
/-- The statement: the card, tied. -/
theorem divMore_holds : Rows.DivMoreCardSaid :=
  Claim7.holds_tied_plain_at .later [] [.wider] true Rows.divMoreCard.stood.harness false
    divMore_said (fun _ h => by cases h) (by kernel_rfl) (fun _ h => by cases h) divMore_row_tie rfl ⟨rfl, rfl⟩ (by kernel_rfl) rfl
    (fun f fn hf hfn => by
      obtain rfl : f = 10 := Option.some.inj ((show Tryz.prog.funcNamed "ziggurat/zigguratlaw04.DivMore" = some 10 by kernel_rfl).symm.trans hf) |>.symm
      obtain rfl : fn = Tryz.f10 := (Option.some.inj (Tryz.func10.symm.trans hfn)).symm
      exact ⟨by kernel_rfl, fun j t ht => by
        rw [Tryz.params10] at ht
        have hm : t ∈ [22, 22, 22] := by simpa using Array.mem_of_getElem? ht
        have hall : ([22, 22, 22].all fun u => !Tryz.prog.wantsStandIn u) = true := by kernel_rfl
        exact (show Tryz.prog.wantsStandIn t = false by simpa using List.all_eq_true.1 hall t hm)⟩)
    (by kernel_rfl)
end Go.Proofs.YtikajmmeglookaaGreatDoor
