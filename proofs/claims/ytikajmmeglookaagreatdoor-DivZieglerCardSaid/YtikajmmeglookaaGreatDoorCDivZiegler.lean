/- Proved: the statement DivZiegler: for any two rows (of at most 60 limbs): so it is by halves. No condition. -/
import Derived.Test.YtikajmmeglookaaGreatDoorPj

namespace Go.Proofs.YtikajmmeglookaaGreatDoor
open Go.RowKit
set_option linter.unusedVariables false
set_option maxHeartbeats 400000

set_option maxRecDepth 100000 in
set_option maxHeartbeats 8000000 in
theorem DivZiegler_walk (w : World) (r0 : Value) (xa : List Nat) (u0 : U w r0 xa) (r1 : Value) (xb : List Nat) (u1 : U w r1 xb) :
    Calls Tryz.prog 6 #[r0, r1] w fun e w' => e = .returned (.bool true) ∧ Ext w w' := by
  have HB := Ext.refl w
  obtain ⟨a, da⟩ : ∃ a, cutN xa 60 = a := ⟨_, rfl⟩
  have ta : (limbs a).length ≤ 60 := by rw [← da]; exact len_of (cut_lt xa 60 u0.lim)
  have hMd_a := Lib.hid (fun W (h : U W r0 xa) => made_B W r0 xa 60 h (by decide) (by decide) a da)
  obtain ⟨b, db⟩ : ∃ b, cutN xb 60 = b := ⟨_, rfl⟩
  have tb : (limbs b).length ≤ 60 := by rw [← db]; exact len_of (cut_lt xb 60 u1.lim)
  have hMd_b := Lib.hid (fun W (h : U W r1 xb) => made_B W r1 xb 60 h (by decide) (by decide) b db)
  clear da db
  by_cases h0b : b = 0
  · subst h0b
    go_enter Tryz.func6, Tryz.ntmps6
    go_wp2_with (fail)
    refine (dhead_calls _).mono ?_
    rintro e w1 ⟨rfl, hB⟩
    replace u0 := U.below u0 hB
    replace u1 := U.below u1 hB
    replace HB := HB.below hB
    clear hB
    go_wp2_with (fail)
    refine (hMd_a.out _ u0).mono ?_
    rintro e w2 ⟨v_a, rfl, h_a, hB⟩
    replace u1 := U.below u1 hB
    replace HB := HB.below hB
    clear hB
    clear u0
    go_wp2_with (fail)
    refine (hMd_b.out _ u1).mono ?_
    rintro e w3 ⟨v_b, rfl, h_b, hB⟩
    replace h_a := U.below (U.asUn h_a) hB
    replace HB := HB.below hB
    clear hB
    clear u1
    obtain ⟨Ab, cb, rfl⟩ := un_zero h_b
    go_wp2_with (fail)
    refine (ziegler_Z _ _ _ h_b).mono ?_
    rintro e w4 ⟨rfl, hB⟩
    clear h_a
    clear h_b
    replace HB := HB.below hB
    clear hB
    go_wp2
    go_ret
    exact ⟨rfl, HB⟩
  · obtain ⟨q, hq⟩ : ∃ q, a / b = q := ⟨_, rfl⟩
    obtain ⟨r, hr⟩ : ∃ r, a % b = r := ⟨_, rfl⟩
    obtain ⟨e1, e2, e3, e4⟩ := dm_all h0b hq hr ta
    have HQ := Lib.hid hq
    have HR := Lib.hid hr
    have HE := Lib.hid (And.intro e1 e2)
    have LL := Lib.hid (And.intro ta (And.intro tb (And.intro e3 e4)))
    have H0 := Lib.hid h0b
    obtain ⟨Lb, hLb⟩ : ∃ Lb, (limbs b).length = Lb := ⟨_, rfl⟩
    have hL0b : ((Lb : Int) == 0) = false := by rw [beq_eq_false_iff_ne]; have := limbs_nz h0b; omega
    have hL1b : ¬ Lb = 0 := by have := limbs_nz h0b; omega
    clear hq hr e1 e2 e3 e4 ta tb h0b
    go_enter Tryz.func6, Tryz.ntmps6
    go_wp2_with (fail)
    refine (dhead_calls _).mono ?_
    rintro e w1 ⟨rfl, hB⟩
    replace u0 := U.below u0 hB
    replace u1 := U.below u1 hB
    replace HB := HB.below hB
    clear hB
    go_wp2_with (fail)
    refine (hMd_a.out _ u0).mono ?_
    rintro e w2 ⟨v_a, rfl, h_a, hB⟩
    replace u1 := U.below u1 hB
    replace HB := HB.below hB
    clear hB
    clear u0
    go_wp2_with (fail)
    refine (hMd_b.out _ u1).mono ?_
    rintro e w3 ⟨v_b, rfl, h_b, hB⟩
    replace h_a := U.below (U.asUn h_a) hB
    replace HB := HB.below hB
    clear hB
    clear u1
    obtain ⟨Ab, cb, rfl, hcb⟩ := U.shape (U.asUn h_b)
    rw [hLb] at h_b ⊢
    clear hcb
    go_wp2_with (fail)
    refine (ziegler_D _ _ _ a b q r h_a h_b (by have := LL.out; omega) (by have := LL.out; omega) H0.out HQ.out HR.out).mono ?_
    rintro e w4 ⟨⟨v_q, v_r, rfl, h_q, h_r⟩, hB⟩
    replace h_a := U.below (U.asUn h_a) hB
    replace h_b := U.below (U.asUn h_b) hB
    replace HB := HB.below hB
    clear hB
    go_wp2_with (fail)
    refine (fits_B _ _ _ _ _ a b q r h_a h_b h_q h_r (by have := LL.out; omega) (by have := LL.out; omega) (by have := LL.out; omega) (by have := LL.out; omega) HE.out.1 HE.out.2).mono ?_
    rintro e w5 ⟨rfl, hB⟩
    clear h_a
    clear h_b
    clear h_q
    clear h_r
    replace HB := HB.below hB
    clear hB
    go_wp2
    go_ret
    exact ⟨rfl, HB⟩
end Go.Proofs.YtikajmmeglookaaGreatDoor
/- Proved: the statement DivZiegler: for any two rows (of at most 60 limbs): so it is by halves. No condition. -/
namespace Go.Proofs.YtikajmmeglookaaGreatDoor
open Go.ChangeShapes Go.WideShapes Go.ChangeAt Go.RowKit
set_option linter.unusedVariables false
set_option maxHeartbeats 2000000

set_option maxRecDepth 100000 in
theorem lifted_DivZiegler (os : Os) (started : os.Started) (H : Type) (enc : TypeId × Value → H) :
    ReturnsInHanded {} Tryz.checked os 6 .any (fun w args => (Rows.divZieglerSpec.pre enc Tryz.prog Tryz.f6 [] false w args ∧ laidMetH Tryz.prog laidT w) ∧ sizedMet enc Tryz.prog Tryz.f6 (OpenSpec.ofChange Rows.divZieglerSpec) false w args)
      (Rows.divZieglerSpec.post enc Tryz.prog Tryz.f6 false true false false) := by
  refine returnsInHanded_of_change_and (C := Tryz.checked) (X := fun w _ => laidMetH Tryz.prog laidT w) (fun _ _ _ hh h => h.of_heap hh) own started (by kernel_rfl) Tryz.func6
    (ChangeSpec.witness_shaped (enc := enc) (C := Tryz.checked) (os := os) (X := fun w _ => laidMetH Tryz.prog laidT w) false (World.doorLaid Tryz.prog 400 os) #[.slice none 0 0, .slice none 0 0] 8 rfl (World.shaped_of_RefB (by kernel_rfl) (by kernel_rfl)) (by kernel_rfl) (by kernel_rfl) (by kernel_rfl) (door_met os _)) ?_
  intro W base args ds gs before hval0 hW _ _ hL _
  have hval : ∀ (j : Nat) t v, Tryz.f6.params[j]? = some t → args[j]? = some v → Value.okWide Tryz.prog W .any base t v := hval0
  have hW' := hW
  obtain ⟨p, q, hA0, hV, rfl, hfz, hnd⟩ := hW
  have hlt : ∀ x ∈ p ++ q, x.block < W.heap.size := fun x hx => hW'.lt x hx
  have hA : DataW.TrodAll enc Tryz.prog W 0 (fun _ => true) true Tryz.f6.params.toList args.toList ds p := hA0
  rw [Tryz.params6] at hA hval
  clear hA0 hval0
  obtain ⟨v0, vs0, d0, ds0, p0, q0, hargs0, rfl, rfl, h0, r0⟩ := trodAll_cons hA
  obtain ⟨v1, vs1, d1, ds1, p1, q1, hargs1, rfl, rfl, h1, r1⟩ := trodAll_cons r0
  obtain ⟨hn1, rfl, rfl⟩ := trodAll_nil r1
  subst hn1
  subst hargs1
  obtain rfl : args = #[v0, v1] := by cases args; simp_all
  obtain ⟨rfl, rfl⟩ := trodVars_none hV
  obtain ⟨xs0, u0⟩ := open_limbs (hval 0 22 v0 rfl rfl) h0 (fun x hx => hlt x (by simp [hx]))
  obtain ⟨xs1, u1⟩ := open_limbs (hval 1 22 v1 rfl rfl) h1 (fun x hx => hlt x (by simp [hx]))
  refine (DivZiegler_walk W _ _ u0 _ _ u1).mono fun e W' ⟨he, hB⟩ => ?_
  subst he
  exact ⟨_, rfl, law_post hW' rfl (by rw [Tryz.params6]; decide +kernel) rfl rfl rfl rfl hB⟩

theorem divZiegler_said : Rows.DivZieglerSaid :=
  OpenClaim.holds_of_wide 6 Tryz.f6 rfl rfl rfl rfl rfl rfl rfl ⟨rfl, rfl, rfl, rfl, rfl⟩ rfl rfl rfl rfl rfl (by kernel_rfl) Tryz.func6 (by kernel_rfl)
    (of_decide_eq_true (by kernel_rfl)) (by unfold Func.isWrapper; first | (rw [if_pos (by decide +kernel)]; kernel_rfl) | (rw [if_neg (by decide +kernel)]; exact ⟨rfl, rfl⟩))
    (fun os started H enc _ => lifted_DivZiegler os started H enc)
/-- The statement: the card, tied. -/
theorem divZiegler_holds : Rows.DivZieglerCardSaid :=
  Claim7.holds_tied_plain_at .later [] [.wider] true Rows.divZieglerCard.stood.harness false
    divZiegler_said (fun _ h => by cases h) (by kernel_rfl) (fun _ h => by cases h) divZiegler_row_tie rfl ⟨rfl, rfl⟩ (by kernel_rfl) rfl
    (fun f fn hf hfn => by
      obtain rfl : f = 6 := Option.some.inj ((show Tryz.prog.funcNamed "ziggurat/zigguratlaw04.DivZiegler" = some 6 by kernel_rfl).symm.trans hf) |>.symm
      obtain rfl : fn = Tryz.f6 := (Option.some.inj (Tryz.func6.symm.trans hfn)).symm
      exact ⟨by kernel_rfl, fun j t ht => by
        rw [Tryz.params6] at ht
        have hm : t ∈ [22, 22] := by simpa using Array.mem_of_getElem? ht
        have hall : ([22, 22].all fun u => !Tryz.prog.wantsStandIn u) = true := by kernel_rfl
        exact (show Tryz.prog.wantsStandIn t = false by simpa using List.all_eq_true.1 hall t hm)⟩)
    (by kernel_rfl)
end Go.Proofs.YtikajmmeglookaaGreatDoor
