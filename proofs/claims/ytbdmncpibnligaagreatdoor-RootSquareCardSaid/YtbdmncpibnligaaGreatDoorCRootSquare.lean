/- Proved: the statement RootSquare, without a condition. -/
import Derived.Test.YtbdmncpibnligaaGreatDoorBbh
import Derived.Test.YtbdmncpibnligaaGreatDoorBai

namespace Go.Proofs.YtbdmncpibnligaaGreatDoor
open Go.RowKit 
set_option linter.unusedVariables false
set_option linter.unusedSimpArgs false
set_option maxRecDepth 100000
set_option maxHeartbeats 4000000
theorem RootSquare_walk (w : World) (r0 : Value) (xa : List Nat) (u0 : U w r0 xa) :
    Calls Tryz.prog 5 #[r0] w fun e w' => e = .returned (.bool true) ∧ Ext w w' := by
  obtain ⟨a, da⟩ : ∃ q, cutN xa 60 = q := ⟨_, rfl⟩
  have la : Sn a 60 := by rw [← da]; exact len_of (cut_lt xa 60 u0.lim)
  have ba : blen a ≤ 32 * 60 := Sn.blen la
  have hr1 : (limbs (Rt.kr a 2)).length ≤ 60 := Sn.down la (Rt.kr_self _ (by decide))
  have hr2 : (limbs (a - Rt.kr a 2 * Rt.kr a 2)).length ≤ 60 := Sn.down la (Nat.sub_le _ _)
  refine Pl.calls_by (n := 56) (vs := [r0]) Tryz.func5 rfl (by kernel_rfl) (by simp) ?_
  repeat refine Pl.V_seq ?_
  refine Pl.V_region (by kernel_rfl) ?_
  refine Pl.qA_go trivial rfl ?_
  refine Pl.pA_end ?_
  repeat refine Pl.V_seq ?_
  refine Pl.V_region (by kernel_rfl) ?_
  refine Pl.pA_call rfl rfl rfl rfl rfl (fun u X => Pl.enters Tryz.func12 (by kernel_rfl) rfl u X) ?_
  refine Calls.mono (head8 _) ?_
  rintro e w1 ⟨rfl, hE1⟩
  have sz1 := Pl.Ex.size hE1
  refine ⟨_, rfl, trivial, ?_⟩
  refine Pl.qA_go trivial rfl ?_
  refine Pl.pA_end ?_
  repeat refine Pl.V_seq ?_
  refine Pl.V_region (by kernel_rfl) ?_
  refine Pl.qA_go trivial rfl ?_
  refine Pl.pA_call rfl rfl rfl rfl rfl (fun u X => Pl.enters Tryz.func13 (by kernel_rfl) rfl u X) ?_
  refine Calls.mono (made_B _ _ xa 60 (U.below u0 hE1) (by decide) (by decide) a da) ?_
  rintro e w2 ⟨v1, rfl, hv1, hE2⟩
  have sz2 := Pl.Ex.size hE2
  refine ⟨_, rfl, trivial, ?_⟩
  refine Pl.qA_go trivial rfl ?_
  refine Pl.pA_end ?_
  repeat refine Pl.V_seq ?_
  refine Pl.V_region (by kernel_rfl) ?_
  refine Pl.qA_go trivial rfl ?_
  refine Pl.pA_call rfl rfl rfl rfl rfl (fun u X => Pl.enters Tryz.func16 (by kernel_rfl) rfl u X) ?_
  refine Calls.mono (sqrt_calls a _ _ hv1 (Sn.le la (by decide))) ?_
  rintro e w3 ⟨v2, v3, rfl, hv2, hv3, hE3⟩
  have sz3 := Pl.Ex.size hE3
  refine ⟨_, rfl, trivial, ?_⟩
  refine Pl.qA_go trivial rfl ?_
  refine Pl.pA_end ?_
  repeat refine Pl.V_seq ?_
  refine Pl.V_region (by kernel_rfl) ?_
  refine Pl.qA_go trivial rfl ?_
  have hbz4 : blen a ≤ 32 * 60 := Sn.blen la
  refine Pl.pA_call rfl rfl rfl rfl rfl (fun u X => Pl.enters Tryz.func14 (by kernel_rfl) rfl u X) ?_
  refine Calls.mono (root_N _ _ a (Un.below hv1 hE3) (Sn.le la (by decide)) 2 (by decide) (by decide) (fun j hj hlt => by omega)) ?_
  rintro e w4 ⟨v5, rfl, hv5, hE4⟩
  have sz4 := Pl.Ex.size hE4
  refine ⟨_, rfl, trivial, ?_⟩
  refine Pl.qA_go trivial rfl ?_
  refine Pl.pA_end ?_
  repeat refine Pl.V_seq ?_
  refine Pl.V_region (by kernel_rfl) ?_
  refine Pl.qA_go trivial rfl ?_
  obtain ⟨A6, c7, rfl⟩ := Un.sh (Un.below hv2 hE4)
  refine Pl.qA_ln Tryz.underlying22 trivial rfl rfl rfl rfl rfl ?_
  have hf5_2 : ¬ (((limbs (Rt.kr a 2)).length) > 60) := by omega
  refine Pl.qA_b (v := .bool false) (fun X => Pl.r_gtr (decide_eq_false (by omega)) X) trivial rfl rfl rfl rfl rfl rfl ?_
  refine Pl.qA_go trivial rfl ?_
  obtain ⟨A8, c9, rfl⟩ := Un.sh (Un.below hv3 hE4)
  refine Pl.qA_ln Tryz.underlying22 trivial rfl rfl rfl rfl rfl ?_
  have hf5_6 : ¬ (((limbs (a - (Rt.kr a 2) * (Rt.kr a 2))).length) > 60) := by omega
  refine Pl.qA_b (v := .bool false) (fun X => Pl.r_gtr (decide_eq_false (by omega)) X) trivial rfl rfl rfl rfl rfl rfl ?_
  refine Pl.qA_go trivial rfl ?_
  refine Pl.pA_end ?_
  repeat refine Pl.V_seq ?_
  refine Pl.V_false rfl ?_
  repeat refine Pl.V_seq ?_
  refine Pl.V_skip ?_
  repeat refine Pl.V_seq ?_
  refine Pl.V_region (by kernel_rfl) ?_
  refine Pl.qA_go trivial rfl ?_
  refine Pl.pA_call rfl rfl rfl rfl rfl (fun u X => Pl.enters Tryz.func26 (by kernel_rfl) rfl u X) ?_
  refine Calls.mono (rschoolX_B _ _ _ (Rt.kr a 2) (Rt.kr a 2) _ (Un.below hv2 hE4) (Un.below hv2 hE4) (Sn.le (Sn.down la (Rt.kr_self _ (by decide))) (by decide)) (Sn.le (Sn.down la (Rt.kr_self _ (by decide))) (by decide)) rfl) ?_
  rintro e w5 ⟨v10, rfl, hv10, hE5⟩
  have sz5 := Pl.Ex.size hE5
  refine ⟨_, rfl, trivial, ?_⟩
  refine Pl.qA_go trivial rfl ?_
  refine Pl.pA_call rfl rfl rfl rfl rfl (fun u X => Pl.enters Tryz.func23 (by kernel_rfl) rfl u X) ?_
  refine Calls.mono (radd_B _ _ _ ((Rt.kr a 2) * (Rt.kr a 2)) (a - (Rt.kr a 2) * (Rt.kr a 2)) hv10 (Un.below hv3 (Pl.Ex.trans hE4 hE5)) (Sn.le (Sn.mul (Sn.down la (Rt.kr_self _ (by decide))) (Sn.down la (Rt.kr_self _ (by decide))) (by decide) : Sn ((Rt.kr a 2) * (Rt.kr a 2)) 120) (by decide)) (Sn.le (Sn.down la (Nat.sub_le _ _)) (by decide)) _ rfl) ?_
  rintro e w6 ⟨v11, rfl, hv11, hE6⟩
  have sz6 := Pl.Ex.size hE6
  refine ⟨_, rfl, trivial, ?_⟩
  refine Pl.qA_go trivial rfl ?_
  refine Pl.pA_call rfl rfl rfl rfl rfl (fun u X => Pl.enters Tryz.func20 (by kernel_rfl) rfl u X) ?_
  refine Calls.mono (same1 _ _ _ (((Rt.kr a 2) * (Rt.kr a 2)) + (a - (Rt.kr a 2) * (Rt.kr a 2))) a hv11 (Un.below hv1 (Pl.Ex.trans hE3 (Pl.Ex.trans hE4 (Pl.Ex.trans hE5 hE6)))) true (decide_eq_true (Rt.sq_parts a))) ?_
  rintro e w7 ⟨rfl, hE7⟩
  have sz7 := Pl.Ex.size hE7
  refine ⟨_, rfl, trivial, ?_⟩
  refine Pl.qA_go trivial rfl ?_
  refine Pl.pA_call rfl rfl rfl rfl rfl (fun u X => Pl.enters Tryz.func27 (by kernel_rfl) rfl u X) ?_
  refine Calls.mono (rshl_B _ _ (Rt.kr a 2) 1 (Un.below hv2 (Pl.Ex.trans hE4 (Pl.Ex.trans hE5 (Pl.Ex.trans hE6 hE7)))) (by omega) (Sn.le (Sn.down la (Rt.kr_self _ (by decide))) (by decide)) _ rfl) ?_
  rintro e w8 ⟨v12, rfl, hv12, hE8⟩
  have sz8 := Pl.Ex.size hE8
  refine ⟨_, rfl, trivial, ?_⟩
  refine Pl.pA_call rfl rfl rfl rfl rfl (fun u X => Pl.enters Tryz.func25 (by kernel_rfl) rfl u X) ?_
  refine Calls.mono (rcmp_B _ _ _ (a - (Rt.kr a 2) * (Rt.kr a 2)) ((Rt.kr a 2) * 2 ^ 1) (Un.below hv3 (Pl.Ex.trans hE4 (Pl.Ex.trans hE5 (Pl.Ex.trans hE6 (Pl.Ex.trans hE7 hE8))))) hv12 (Sn.le (Sn.down la (Nat.sub_le _ _)) (by decide)) (Sn.le (Sn.mul (Sn.down la (Rt.kr_self _ (by decide))) (Sn.of (K := 1) (show 2 ^ 1 < 4294967296 ^ 1 by decide)) (by decide) : Sn (Rt.kr a 2 * 2 ^ 1) 61) (by decide)) _ rfl) ?_
  rintro e w9 ⟨rfl, hE9⟩
  have sz9 := Pl.Ex.size hE9
  refine ⟨_, rfl, trivial, ?_⟩
  refine Pl.qA_b (v := .bool true) (fun X => Cm.le_leq_t (by have := Rt.sq_rest a; omega) X) trivial rfl rfl rfl rfl rfl rfl ?_
  refine Pl.qA_go trivial rfl ?_
  refine Pl.pA_call rfl rfl rfl rfl rfl (fun u X => Pl.enters Tryz.func20 (by kernel_rfl) rfl u X) ?_
  refine Calls.mono (same1 _ _ _ (Rt.kr a 2) (Rt.kr a 2) (Un.below hv2 (Pl.Ex.trans hE4 (Pl.Ex.trans hE5 (Pl.Ex.trans hE6 (Pl.Ex.trans hE7 (Pl.Ex.trans hE8 hE9)))))) (Un.below hv5 (Pl.Ex.trans hE5 (Pl.Ex.trans hE6 (Pl.Ex.trans hE7 (Pl.Ex.trans hE8 hE9))))) true (decide_eq_true rfl)) ?_
  rintro e w10 ⟨rfl, hE10⟩
  have sz10 := Pl.Ex.size hE10
  refine ⟨_, rfl, trivial, ?_⟩
  refine Pl.qA_go trivial rfl ?_
  refine Pl.qA_b (v := .bool true) (fun X => Pl.r_eql (Pl.e_t (by omega)) X) trivial rfl rfl rfl rfl rfl rfl ?_
  refine Pl.qA_go trivial rfl ?_
  refine Pl.pA_end ?_
  repeat refine Pl.V_seq ?_
  exact Pl.post_ret rfl rfl  (⟨rfl, (Pl.Ex.trans hE1 (Pl.Ex.trans hE2 (Pl.Ex.trans hE3 (Pl.Ex.trans hE4 (Pl.Ex.trans hE5 (Pl.Ex.trans hE6 (Pl.Ex.trans hE7 (Pl.Ex.trans hE8 (Pl.Ex.trans hE9 hE10)))))))))⟩)
end Go.Proofs.YtbdmncpibnligaaGreatDoor
/- Proved: the statement RootSquare, without a condition. -/
namespace Go.Proofs.YtbdmncpibnligaaGreatDoor
open Go.ChangeShapes Go.WideShapes Go.ChangeAt Go.RowKit
set_option linter.unusedVariables false
set_option maxHeartbeats 2000000

set_option maxRecDepth 100000 in
theorem lifted_RootSquare (os : Os) (started : os.Started) (H : Type) (enc : TypeId × Value → H) :
    ReturnsInHanded {} Tryz.checked os 5 .any (fun w args => (Rows.rootSquareSpec.pre enc Tryz.prog Tryz.f5 [] false w args ∧ laidMetH Tryz.prog laidT w) ∧ sizedMet enc Tryz.prog Tryz.f5 (OpenSpec.ofChange Rows.rootSquareSpec) false w args)
      (Rows.rootSquareSpec.post enc Tryz.prog Tryz.f5 false true false false) := by
  refine returnsInHanded_of_change_and (C := Tryz.checked) (X := fun w _ => laidMetH Tryz.prog laidT w) (fun _ _ _ hh h => h.of_heap hh) own started (by kernel_rfl) Tryz.func5
    (ChangeSpec.witness_shaped (enc := enc) (C := Tryz.checked) (os := os) (X := fun w _ => laidMetH Tryz.prog laidT w) false (World.doorLaid Tryz.prog 400 os) #[.slice none 0 0] 8 rfl (World.shaped_of_RefB (by kernel_rfl) (by kernel_rfl)) (by kernel_rfl) (by kernel_rfl) (by kernel_rfl) (door_met os _)) ?_
  intro W base args ds gs before hval0 hW _ _ hL _
  have hval : ∀ (j : Nat) t v, Tryz.f5.params[j]? = some t → args[j]? = some v → Value.okWide Tryz.prog W .any base t v := hval0
  have hW' := hW
  obtain ⟨p, q, hA0, hV, rfl, hfz, hnd⟩ := hW
  have hlt : ∀ x ∈ p ++ q, x.block < W.heap.size := fun x hx => hW'.lt x hx
  have hA : DataW.TrodAll enc Tryz.prog W 0 (fun _ => true) true Tryz.f5.params.toList args.toList ds p := hA0
  rw [Tryz.params5] at hA hval
  clear hA0 hval0
  obtain ⟨v0, vs0, d0, ds0, p0, q0, hargs0, rfl, rfl, h0, r0⟩ := trodAll_cons hA
  obtain ⟨hn1, rfl, rfl⟩ := trodAll_nil r0
  subst hn1
  obtain rfl : args = #[v0] := by cases args; simp_all
  obtain ⟨rfl, rfl⟩ := trodVars_none hV
  obtain ⟨xs0, u0⟩ := open_limbs (hval 0 22 v0 rfl rfl) h0 (fun x hx => hlt x (by simp [hx]))
  refine (RootSquare_walk W _ _ u0).mono fun e W' ⟨he, hB⟩ => ?_
  subst he
  exact ⟨_, rfl, law_post hW' rfl (by rw [Tryz.params5]; decide +kernel) rfl rfl rfl rfl hB⟩

theorem rootSquare_said : Rows.RootSquareSaid :=
  OpenClaim.holds_of_wide 5 Tryz.f5 rfl rfl rfl rfl rfl rfl rfl ⟨rfl, rfl, rfl, rfl, rfl⟩ rfl rfl rfl rfl rfl (by kernel_rfl) Tryz.func5 (by kernel_rfl)
    (of_decide_eq_true (by kernel_rfl)) (by unfold Func.isWrapper; first | (rw [if_pos (by decide +kernel)]; kernel_rfl) | (rw [if_neg (by decide +kernel)]; exact ⟨rfl, rfl⟩))
    (fun os started H enc _ => lifted_RootSquare os started H enc)
/-- The statement: the card, tied. -/
theorem rootSquare_holds : Rows.RootSquareCardSaid :=
  Claim7.holds_tied_plain_at .later [] [.wider] true Rows.rootSquareCard.stood.harness false
    rootSquare_said (fun _ h => by cases h) (by kernel_rfl) (fun _ h => by cases h) rootSquare_row_tie rfl ⟨rfl, rfl⟩ (by kernel_rfl) rfl
    (fun f fn hf hfn => by
      obtain rfl : f = 5 := Option.some.inj ((show Tryz.prog.funcNamed "ziggurat/zigguratlaw08.RootSquare" = some 5 by kernel_rfl).symm.trans hf) |>.symm
      obtain rfl : fn = Tryz.f5 := (Option.some.inj (Tryz.func5.symm.trans hfn)).symm
      exact ⟨by kernel_rfl, fun j t ht => by
        rw [Tryz.params5] at ht
        have hm : t ∈ [22] := by simpa using Array.mem_of_getElem? ht
        have hall : ([22].all fun u => !Tryz.prog.wantsStandIn u) = true := by kernel_rfl
        exact (show Tryz.prog.wantsStandIn t = false by simpa using List.all_eq_true.1 hall t hm)⟩)
    (by kernel_rfl)
end Go.Proofs.YtbdmncpibnligaaGreatDoor
