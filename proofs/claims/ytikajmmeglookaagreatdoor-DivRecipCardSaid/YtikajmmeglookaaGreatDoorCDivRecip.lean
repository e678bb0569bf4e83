/- Proved: the statement DivRecip: for any row (of at most 40 limbs) and any bits (of at most 2500): the reciprocal times the divisor is not above the power of 2, and with one more it is. No condition. -/
import Derived.Test.YtikajmmeglookaaGreatDoorPj

namespace Go.Proofs.YtikajmmeglookaaGreatDoor
open Go.RowKit
set_option linter.unusedVariables false
set_option maxHeartbeats 400000

set_option maxRecDepth 100000 in
set_option maxHeartbeats 8000000 in
theorem DivRecip_walk (w : World) (r0 : Value) (xb : List Nat) (u0 : U w r0 xb) (z : Nat) (hz : z < 65536) :
    Calls Tryz.prog 7 #[r0, .int .u16 (z : Nat)] w fun e w' => e = .returned (.bool true) ∧ Ext w w' := by
  have HB := Ext.refl w
  obtain ⟨b, db⟩ : ∃ b, cutN xb 40 = b := ⟨_, rfl⟩
  have tb : (limbs b).length ≤ 40 := by rw [← db]; exact len_of (cut_lt xb 40 u0.lim)
  have hMd_b := Lib.hid (fun W (h : U W r0 xb) => made_B W r0 xb 40 h (by decide) (by decide) b db)
  clear db
  obtain ⟨n, hn⟩ : ∃ n, z % 2501 = n := ⟨_, rfl⟩
  have hnb : n < 2501 := by rw [← hn]; exact Nat.mod_lt _ (by decide)
  have hni : (z : Int) % 2501 = (n : Int) := by omega
  have hnt : (z : Int).tmod 2501 = (n : Int) := by rw [Int.tmod_eq_emod_of_nonneg (Int.natCast_nonneg _)]; exact hni
  have hn2 : n ≤ 2500 := by omega
  clear hnb hn
  by_cases h0b : b = 0
  · subst h0b
    go_enter Tryz.func7, Tryz.ntmps7
    go_wp2_with (fail)
    refine (dhead_calls _).mono ?_
    rintro e w1 ⟨rfl, hB⟩
    replace u0 := U.below u0 hB
    replace HB := HB.below hB
    clear hB
    go_wp2_with (fail)
    refine (hMd_b.out _ u0).mono ?_
    rintro e w2 ⟨v_b, rfl, h_b, hB⟩
    replace HB := HB.below hB
    clear hB
    clear u0
    obtain ⟨Ab, cb, rfl⟩ := un_zero h_b
    go_wp2_with (fail)
    refine (recip_Z _ _ n h_b).mono ?_
    rintro e w3 ⟨rfl, hB⟩
    clear h_b
    replace HB := HB.below hB
    clear hB
    go_wp2
    go_ret
    exact ⟨rfl, HB⟩
  · obtain ⟨Y, hY⟩ : ∃ Y, 2 ^ n = Y := ⟨_, rfl⟩
    obtain ⟨q, hq⟩ : ∃ q, Y / b = q := ⟨_, rfl⟩
    obtain ⟨r, hr⟩ : ∃ r, Y % b = r := ⟨_, rfl⟩
    have hlY : (limbs Y).length ≤ 79 := by rw [← hY]; exact len_two_le 79 (Nat.le_refl _) (by omega)
    obtain ⟨e1, e2, e3, e4⟩ := dm_all h0b hq hr hlY
    obtain ⟨m, hm⟩ : ∃ m, q * b = m := ⟨_, rfl⟩
    obtain ⟨m2, hm2⟩ : ∃ m2, m + b = m2 := ⟨_, rfl⟩
    obtain ⟨k, hk⟩ : ∃ k, cmpI (m : Int) (Y : Int) = k := ⟨_, rfl⟩
    have hk1 : k ≤ 0 := by
      rw [← hk]
      rcases Nat.lt_or_ge m Y with h | h
      · rw [cmpI_lt (by omega)]; decide
      · rw [show m = Y by omega, cmpI_eq]; decide
    have hk2 : decide (k ≤ 0) = true := by rw [decide_eq_true_iff]; exact hk1
    have hlm : (limbs m).length ≤ 79 := Nat.le_trans (len_mono (by omega)) hlY
    have hlm2 : (limbs m2).length ≤ 80 := by rw [← hm2]; exact Nat.le_trans (len_add hlm tb) (by decide)
    have HK2 : Hid (cmpI (m2 : Int) (Y : Int) = 1) := cmpI_gt (by omega)
    have HK := Lib.hid hk
    have HQ : Hid (2 ^ n / b = q) := by rw [Hid, hY]; exact hq
    have HY : Hid (1 * 2 ^ n = Y) := by rw [Hid, Nat.one_mul]; exact hY
    have HM := Lib.hid hm
    have HM2 := Lib.hid hm2
    have LL := Lib.hid (And.intro tb (And.intro e3 (And.intro hlY (And.intro hlm (And.intro hlm2 hn2)))))
    have H0 := Lib.hid h0b
    obtain ⟨Lb, hLb⟩ : ∃ Lb, (limbs b).length = Lb := ⟨_, rfl⟩
    have hL0b : ((Lb : Int) == 0) = false := by rw [beq_eq_false_iff_ne]; have := limbs_nz h0b; omega
    have hL1b : ¬ Lb = 0 := by have := limbs_nz h0b; omega
    clear hq hr e1 e2 e3 e4 tb h0b hlY hlm hlm2 hm hm2 hk hY
    go_enter Tryz.func7, Tryz.ntmps7
    go_wp2_with (fail)
    refine (dhead_calls _).mono ?_
    rintro e w1 ⟨rfl, hB⟩
    replace u0 := U.below u0 hB
    replace HB := HB.below hB
    clear hB
    go_wp2_with (fail)
    refine (hMd_b.out _ u0).mono ?_
    rintro e w2 ⟨v_b, rfl, h_b, hB⟩
    replace HB := HB.below hB
    clear hB
    clear u0
    obtain ⟨Ab, cb, rfl, hcb⟩ := U.shape (U.asUn h_b)
    rw [hLb] at h_b ⊢
    clear hcb
    go_wp2_with (fail)
    refine (recip_D _ _ b n q h_b (by have := LL.out; omega) H0.out (by have := LL.out; omega) HQ.out).mono ?_
    rintro e w3 ⟨⟨v_q, rfl, h_q⟩, hB⟩
    replace h_b := U.below (U.asUn h_b) hB
    replace HB := HB.below hB
    clear hB
    go_wp2_with (fail)
    refine (rshl_B _ _ 1 n (Un_lit _ (w3.heap.size) (by simp) [1] 1 (by decide) (by decide) (limbs_small 1 (by decide) (by decide))) (by have := LL.out; omega) (lenc (len_s (by decide) (by decide)) (by decide)) Y HY.out).mono ?_
    rintro e w4 ⟨v_p, rfl, h_p, hB⟩
    replace h_b := U.below (U.alloc (U.asUn h_b) _) hB
    replace h_q := U.below (U.alloc (U.asUn h_q) _) hB
    replace HB := (HB.alloc _).below hB
    clear hB
    go_wp2_with (fail)
    refine (rmul_B _ _ _ q b m h_q h_b (by have := LL.out; omega) (by have := LL.out; omega) HM.out).mono ?_
    rintro e w5 ⟨v_m, rfl, h_m, hB⟩
    replace h_b := U.below (U.asUn h_b) hB
    replace h_q := U.below (U.asUn h_q) hB
    replace h_p := U.below (U.asUn h_p) hB
    replace HB := HB.below hB
    clear hB
    go_wp2_with (fail)
    refine (rcmp_B _ _ _ m Y h_m h_p (by have := LL.out; omega) (by have := LL.out; omega) k HK.out).mono ?_
    rintro e w6 ⟨rfl, hB⟩
    replace h_b := U.below (U.asUn h_b) hB
    replace h_q := U.below (U.asUn h_q) hB
    replace h_p := U.below (U.asUn h_p) hB
    replace h_m := U.below (U.asUn h_m) hB
    replace HB := HB.below hB
    clear hB
    go_wp2_with (fail)
    refine (radd_B _ _ _ m b h_m h_b (by have := LL.out; omega) (by have := LL.out; omega) m2 HM2.out).mono ?_
    rintro e w7 ⟨v_s, rfl, h_s, hB⟩
    clear h_m
    clear h_b
    replace h_q := U.below (U.asUn h_q) hB
    replace h_p := U.below (U.asUn h_p) hB
    replace HB := HB.below hB
    clear hB
    go_wp2_with (fail)
    refine (rcmp_B _ _ _ m2 Y h_s h_p (by have := LL.out; omega) (by have := LL.out; omega) 1 HK2.out).mono ?_
    rintro e w8 ⟨rfl, hB⟩
    clear h_s
    clear h_p
    replace h_q := U.below (U.asUn h_q) hB
    replace HB := HB.below hB
    clear hB
    go_wp2_with (fail)
    refine (rrightT _ _ _ h_q (by have := LL.out; omega)).mono ?_
    rintro e w9 ⟨rfl, hB⟩
    clear h_q
    replace HB := HB.below hB
    clear hB
    go_wp2
    go_ret
    exact ⟨rfl, HB⟩
end Go.Proofs.YtikajmmeglookaaGreatDoor
/- Proved: the statement DivRecip: for any row (of at most 40 limbs) and any bits (of at most 2500): the reciprocal times the divisor is not above the power of 2, and with one more it is. No condition. -/
namespace Go.Proofs.YtikajmmeglookaaGreatDoor
open Go.ChangeShapes Go.WideShapes Go.ChangeAt Go.RowKit
set_option linter.unusedVariables false
set_option maxHeartbeats 2000000

set_option maxRecDepth 100000 in
theorem lifted_DivRecip (os : Os) (started : os.Started) (H : Type) (enc : TypeId × Value → H) :
    ReturnsInHanded {} Tryz.checked os 7 .any (fun w args => (Rows.divRecipSpec.pre enc Tryz.prog Tryz.f7 [] false w args ∧ laidMetH Tryz.prog laidT w) ∧ sizedMet enc Tryz.prog Tryz.f7 (OpenSpec.ofChange Rows.divRecipSpec) false w args)
      (Rows.divRecipSpec.post enc Tryz.prog Tryz.f7 false true false false) := by
  refine returnsInHanded_of_change_and (C := Tryz.checked) (X := fun w _ => laidMetH Tryz.prog laidT w) (fun _ _ _ hh h => h.of_heap hh) own started (by kernel_rfl) Tryz.func7
    (ChangeSpec.witness_shaped (enc := enc) (C := Tryz.checked) (os := os) (X := fun w _ => laidMetH Tryz.prog laidT w) false (World.doorLaid Tryz.prog 400 os) #[.slice none 0 0, .int .u16 0] 8 rfl (World.shaped_of_RefB (by kernel_rfl) (by kernel_rfl)) (by kernel_rfl) (by kernel_rfl) (by kernel_rfl) (door_met os _)) ?_
  intro W base args ds gs before hval0 hW _ _ hL _
  have hval : ∀ (j : Nat) t v, Tryz.f7.params[j]? = some t → args[j]? = some v → Value.okWide Tryz.prog W .any base t v := hval0
  have hW' := hW
  obtain ⟨p, q, hA0, hV, rfl, hfz, hnd⟩ := hW
  have hlt : ∀ x ∈ p ++ q, x.block < W.heap.size := fun x hx => hW'.lt x hx
  have hA : DataW.TrodAll enc Tryz.prog W 0 (fun _ => true) true Tryz.f7.params.toList args.toList ds p := hA0
  rw [Tryz.params7] at hA hval
  clear hA0 hval0
  obtain ⟨v0, vs0, d0, ds0, p0, q0, hargs0, rfl, rfl, h0, r0⟩ := trodAll_cons hA
  obtain ⟨v1, vs1, d1, ds1, p1, q1, hargs1, rfl, rfl, h1, r1⟩ := trodAll_cons r0
  obtain ⟨hn1, rfl, rfl⟩ := trodAll_nil r1
  subst hn1
  subst hargs1
  obtain rfl : args = #[v0, v1] := by cases args; simp_all
  obtain ⟨rfl, rfl⟩ := trodVars_none hV
  obtain ⟨xs0, u0⟩ := open_limbs (hval 0 22 v0 rfl rfl) h0 (fun x hx => hlt x (by simp [hx]))
  obtain ⟨z1, rfl, rfl, rfl, hz1⟩ := open_int Tryz.underlying37 (hval 1 37 v1 rfl rfl) h1
  have hb1 := bounds_u16 hz1
  obtain ⟨n1, rfl⟩ := Int.eq_ofNat_of_zero_le (show 0 ≤ z1 by omega)
  refine (DivRecip_walk W _ _ u0 n1 (by omega)).mono fun e W' ⟨he, hB⟩ => ?_
  subst he
  exact ⟨_, rfl, law_post hW' rfl (by rw [Tryz.params7]; decide +kernel) rfl rfl rfl rfl hB⟩

theorem divRecip_said : Rows.DivRecipSaid :=
  OpenClaim.holds_of_wide 7 Tryz.f7 rfl rfl rfl rfl rfl rfl rfl ⟨rfl, rfl, rfl, rfl, rfl⟩ rfl rfl rfl rfl rfl (by kernel_rfl) Tryz.func7 (by kernel_rfl)
    (of_decide_eq_true (by kernel_rfl)) (by unfold Func.isWrapper; first | (rw [if_pos (by decide +kernel)]; kernel_rfl) | (rw [if_neg (by decide +kernel)]; exact ⟨rfl, rfl⟩))
    (fun os started H enc _ => lifted_DivRecip os started H enc)
/-- The statement: the card, tied. -/
theorem divRecip_holds : Rows.DivRecipCardSaid :=
  Claim7.holds_tied_plain_at .later [] [.wider] true Rows.divRecipCard.stood.harness false
    divRecip_said (fun _ h => by cases h) (by kernel_rfl) (fun _ h => by cases h) divRecip_row_tie rfl ⟨rfl, rfl⟩ (by kernel_rfl) rfl
    (fun f fn hf hfn => by
      obtain rfl : f = 7 := Option.some.inj ((show Tryz.prog.funcNamed "ziggurat/zigguratlaw04.DivRecip" = some 7 by kernel_rfl).symm.trans hf) |>.symm
      obtain rfl : fn = Tryz.f7 := (Option.some.inj (Tryz.func7.symm.trans hfn)).symm
      exact ⟨by kernel_rfl, fun j t ht => by
        rw [Tryz.params7] at ht
        have hm : t ∈ [22, 37] := by simpa using Array.mem_of_getElem? ht
        have hall : ([22, 37].all fun u => !Tryz.prog.wantsStandIn u) = true := by kernel_rfl
        exact (show Tryz.prog.wantsStandIn t = false by simpa using List.all_eq_true.1 hall t hm)⟩)
    (by kernel_rfl)
end Go.Proofs.YtikajmmeglookaaGreatDoor
