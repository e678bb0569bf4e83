/- Proved: the statement RootBetween, without a condition. -/
import Derived.Test.YtbdmncpibnligaaGreatDoorBbh
import Derived.Test.YtbdmncpibnligaaGreatDoorBai

namespace Go.Proofs.YtbdmncpibnligaaGreatDoor
open Go.RowKit 
set_option linter.unusedVariables false
set_option linter.unusedSimpArgs false
set_option maxRecDepth 100000
set_option maxHeartbeats 4000000
theorem krb_le (a : Nat) {k : Nat} (hk : k ≠ 0) : blen (Rt.kr a k) * k ≤ blen a + k := by
  rcases Nat.eq_zero_or_pos (Rt.kr a k) with h0 | h0
  · rw [h0, show blen 0 = 0 from rfl]; omega
  · have h2 : 2 ^ ((blen (Rt.kr a k) - 1) * k) ≤ a := by
      rw [Nat.pow_mul]
      exact Nat.le_trans (Nat.pow_le_pow_left (pow_blen_le (by omega)) k) (Rt.kr_le a hk)
    have h3 := (Nat.pow_lt_pow_iff_right (a := 2) (by decide)).1 (Nat.lt_of_le_of_lt h2 (lt_pow_blen a))
    have h4 := Nat.le_mul_of_pos_left k (blen_pos (n := Rt.kr a k) (by omega))
    rw [Nat.sub_mul, Nat.one_mul] at h3
    omega
theorem len_monoR {a b : Nat} (h : a ≤ b) : (limbs a).length ≤ (limbs b).length := (show Sn b (limbs b).length from Nat.le_refl _).down h
theorem RootBetween_walk (w : World) (r0 : Value) (xa : List Nat) (u0 : U w r0 xa) (n : Nat) (hn : n < 256) :
    Calls Tryz.prog 4 #[r0, .int .u8 ((n : Nat) : Int)] w fun e w' => e = .returned (.bool true) ∧ Ext w w' := by
  obtain ⟨a, da⟩ : ∃ q, cutN xa 60 = q := ⟨_, rfl⟩
  have la : Sn a 60 := by rw [← da]; exact len_of (cut_lt xa 60 u0.lim)
  have ba : blen a ≤ 32 * 60 := Sn.blen la
  obtain ⟨k, qk⟩ : ∃ q, 1 + n % 60 = q := ⟨_, rfl⟩
  have gk : 1 ≤ k ∧ k ≤ 60 := by omega
  refine Pl.calls_by (n := 72) (vs := [r0, .int .u8 ((n : Nat) : Int)]) Tryz.func4 rfl (by kernel_rfl) (by simp) ?_
  repeat refine Pl.V_seq ?_
  refine Pl.V_region (by kernel_rfl) ?_
  refine Pl.qA_go trivial rfl ?_
  refine Pl.pA_end ?_
  repeat refine Pl.V_seq ?_
  refine Pl.V_region (by kernel_rfl) ?_
  refine Pl.pA_call rfl rfl rfl rfl rfl (fun u X => Pl.enters Tryz.func12 (by kernel_rfl) rfl u X) ?_
  refine Calls.mono (head8 _) ?_
  rintro e w1 ⟨rfl, hE1⟩
  have sz1 := Pl.Ex.size hE1
  refine ⟨_, rfl, trivial, ?_⟩
  refine Pl.qA_go trivial rfl ?_
  refine Pl.pA_end ?_
  repeat refine Pl.V_seq ?_
  refine Pl.V_region (by kernel_rfl) ?_
  refine Pl.qA_go trivial rfl ?_
  refine Pl.pA_call rfl rfl rfl rfl rfl (fun u X => Pl.enters Tryz.func13 (by kernel_rfl) rfl u X) ?_
  refine Calls.mono (made_B _ _ xa 60 (U.below u0 hE1) (by decide) (by decide) a da) ?_
  rintro e w2 ⟨v1, rfl, hv1, hE2⟩
  have sz2 := Pl.Ex.size hE2
  refine ⟨_, rfl, trivial, ?_⟩
  refine Pl.qA_go trivial rfl ?_
  refine Pl.qA_cv (c := ((n : Nat) : Int)) Tryz.underlying3 (by kernel_rfl) (Pl.c_id (a := n) rfl (Pl.w64 (by omega) (by omega))) trivial rfl rfl rfl rfl rfl ?_
  refine Pl.qA_b (v := .int .i64 (((n % 60) : Nat) : Int)) (fun X => nb_rem_i64 (a := n) (b := 60) (by omega) (by omega) X) trivial rfl rfl rfl rfl rfl rfl ?_
  refine Pl.qA_b (v := .int .i64 ((k : Nat) : Int)) (fun X => Pl.Bn.as (nb_add_i64 (a := 1) (b := (n % 60)) (by omega)) (by rw [qk]) X) trivial rfl rfl rfl rfl rfl rfl ?_
  refine Pl.qA_go trivial rfl ?_
  refine Pl.pA_end ?_
  repeat refine Pl.V_seq ?_
  refine Pl.V_region (by kernel_rfl) ?_
  refine Pl.qA_go trivial rfl ?_
  have hbz2 : blen a ≤ 32 * 60 := Sn.blen la
  refine Pl.pA_call rfl rfl rfl rfl rfl (fun u X => Pl.enters Tryz.func14 (by kernel_rfl) rfl u X) ?_
  refine Calls.mono (root_N _ _ a hv1 (Sn.le la (by decide)) k (by omega) (by omega) (fun j hj hlt => by omega)) ?_
  rintro e w3 ⟨v3, rfl, hv3, hE3⟩
  have sz3 := Pl.Ex.size hE3
  refine ⟨_, rfl, trivial, ?_⟩
  refine Pl.qA_go trivial rfl ?_
  refine Pl.pA_end ?_
  repeat refine Pl.V_seq ?_
  refine Pl.V_region (by kernel_rfl) ?_
  refine Pl.qA_go trivial rfl ?_
  refine Pl.qA_b (v := .bool false) (fun X => Pl.r_neq (Pl.n_f (by omega)) X) trivial rfl rfl rfl rfl rfl rfl ?_
  refine Pl.qA_go trivial rfl ?_
  obtain ⟨A4, c5, rfl⟩ := Un.sh hv3
  refine Pl.qA_ln Tryz.underlying22 trivial rfl rfl rfl rfl rfl ?_
  refine Pl.qA_go trivial rfl ?_
  obtain ⟨A6, c7, rfl⟩ := Un.sh (Un.below hv1 hE3)
  refine Pl.qA_ln Tryz.underlying22 trivial rfl rfl rfl rfl rfl ?_
  have hf4_7 : ¬ (((limbs (Rt.kr a k)).length) > ((limbs a).length)) := Nat.not_lt.2 (len_monoR (Rt.kr_self a (by omega)))
  refine Pl.qA_b (v := .bool false) (fun X => Pl.r_gtr (decide_eq_false (by omega)) X) trivial rfl rfl rfl rfl rfl rfl ?_
  refine Pl.qA_go trivial rfl ?_
  refine Pl.pA_end ?_
  repeat refine Pl.V_seq ?_
  refine Pl.V_false rfl ?_
  repeat refine Pl.V_seq ?_
  refine Pl.V_skip ?_
  repeat refine Pl.V_seq ?_
  refine Pl.V_region (by kernel_rfl) ?_
  refine Pl.qA_go trivial rfl ?_
  refine Pl.qA_bs (e := 36) (n := 1) [.int .u32 1] rfl rfl rfl rfl (by kernel_rfl) (fun Y hY => trivial) ?_
  intro N8 w4 hE4 hN_N8 k_N8_0
  have z_N8 := Pl.Cb.lt k_N8_0
  have sz4 := Pl.Ex.size hE4
  have hl9 := Un.one (x := 1) k_N8_0 rfl (by omega)
  refine Pl.pA_call rfl rfl rfl rfl rfl (fun u X => Pl.enters Tryz.func23 (by kernel_rfl) rfl u X) ?_
  refine Calls.mono (radd_B _ _ _ (Rt.kr a k) 1 (Un.below hv3 hE4) hl9 (Sn.le (Sn.down la (Rt.kr_self _ (by omega))) (by decide)) (Sn.le (Sn.of (K := 1) (by omega)) (by decide)) _ rfl) ?_
  rintro e w5 ⟨v10, rfl, hv10, hE5⟩
  have sz5 := Pl.Ex.size hE5
  refine ⟨_, rfl, trivial, ?_⟩
  refine Pl.qA_go trivial rfl ?_
  refine Pl.pA_end ?_
  repeat refine Pl.V_seq ?_
  refine Pl.V_region (by kernel_rfl) ?_
  refine Pl.qA_go trivial rfl ?_
  refine Pl.pA_call rfl rfl rfl rfl rfl (fun u X => Pl.enters Tryz.func24 (by kernel_rfl) rfl u X) ?_
  refine Calls.mono (lpower_Y _ _ (Rt.kr a k) (Un.below hv3 (Pl.Ex.trans hE4 hE5)) (Sn.le (Sn.down la (Rt.kr_self _ (by omega))) (by decide)) k (by omega) (by have := krb_le a (k := k) (by omega); omega)) ?_
  rintro e w6 ⟨v11, rfl, hv11, hE6⟩
  have sz6 := Pl.Ex.size hE6
  refine ⟨_, rfl, trivial, ?_⟩
  refine Pl.qA_go trivial rfl ?_
  refine Pl.pA_end ?_
  repeat refine Pl.V_seq ?_
  refine Pl.V_region (by kernel_rfl) ?_
  refine Pl.qA_go trivial rfl ?_
  by_cases c12 : blen ((Rt.kr a k) + 1) * k ≤ 6400
  · refine Pl.pA_call rfl rfl rfl rfl rfl (fun u X => Pl.enters Tryz.func24 (by kernel_rfl) rfl u X) ?_
    refine Calls.mono (lpower_Y _ _ ((Rt.kr a k) + 1) (Un.below hv10 hE6) (Sn.le (Sn.add (Sn.down la (Rt.kr_self _ (by omega))) (Sn.of (K := 1) (by omega)) (by decide) (by decide) : Sn ((Rt.kr a k) + 1) 61) (by decide)) k (by omega) c12) ?_
    rintro e w7 ⟨v13, rfl, hv13, hE7⟩
    have sz7 := Pl.Ex.size hE7
    refine ⟨_, rfl, trivial, ?_⟩
    refine Pl.qA_go trivial rfl ?_
    refine Pl.pA_end ?_
    repeat refine Pl.V_seq ?_
    refine Pl.V_region (by kernel_rfl) ?_
    refine Pl.qA_go trivial rfl ?_
    refine Pl.pA_call rfl rfl rfl rfl rfl (fun u X => Pl.enters Tryz.func25 (by kernel_rfl) rfl u X) ?_
    refine Calls.mono (rcmp_B _ _ _ ((Rt.kr a k) ^ k) a (Un.below hv11 hE7) (Un.below hv1 (Pl.Ex.trans hE3 (Pl.Ex.trans hE4 (Pl.Ex.trans hE5 (Pl.Ex.trans hE6 hE7))))) (Sn.le (pow_sn201 (by have := krb_le a (k := k) (by omega); omega) : Sn ((Rt.kr a k) ^ k) 201) (by decide)) (Sn.le la (by decide)) _ rfl) ?_
    rintro e w8 ⟨rfl, hE8⟩
    have sz8 := Pl.Ex.size hE8
    refine ⟨_, rfl, trivial, ?_⟩
    refine Pl.qA_b (v := .bool true) (fun X => Cm.le_leq_t (Rt.kr_le a (by omega)) X) trivial rfl rfl rfl rfl rfl rfl ?_
    refine Pl.qA_go trivial rfl ?_
    refine Pl.qA_un (v := .bool false) trivial rfl rfl rfl rfl rfl (fun X => rfl) ?_
    refine Pl.qA_go trivial rfl ?_
    refine Pl.pA_call rfl rfl rfl rfl rfl (fun u X => Pl.enters Tryz.func25 (by kernel_rfl) rfl u X) ?_
    refine Calls.mono (rcmp_B _ _ _ (((Rt.kr a k) + 1) ^ k) a (Un.below hv13 hE8) (Un.below hv1 (Pl.Ex.trans hE3 (Pl.Ex.trans hE4 (Pl.Ex.trans hE5 (Pl.Ex.trans hE6 (Pl.Ex.trans hE7 hE8)))))) (Sn.le (pow_sn201 c12 : Sn (((Rt.kr a k) + 1) ^ k) 201) (by decide)) (Sn.le la (by decide)) _ rfl) ?_
    rintro e w9 ⟨rfl, hE9⟩
    have sz9 := Pl.Ex.size hE9
    refine ⟨_, rfl, trivial, ?_⟩
    refine Pl.qA_b (v := .bool true) (fun X => Cm.gt_gtr_t (Rt.kr_lt a (by omega)) X) trivial rfl rfl rfl rfl rfl rfl ?_
    refine Pl.qA_go trivial rfl ?_
    refine Pl.pA_end ?_
    repeat refine Pl.V_seq ?_
    exact Pl.post_ret rfl rfl  (⟨rfl, (Pl.Ex.trans hE1 (Pl.Ex.trans hE2 (Pl.Ex.trans hE3 (Pl.Ex.trans hE4 (Pl.Ex.trans hE5 (Pl.Ex.trans hE6 (Pl.Ex.trans hE7 (Pl.Ex.trans hE8 hE9))))))))⟩)
  · refine Pl.pA_call rfl rfl rfl rfl rfl (fun u X => Pl.enters Tryz.func24 (by kernel_rfl) rfl u X) ?_
    refine Calls.mono (lpower_N _ _ ((Rt.kr a k) + 1) (Un.below hv10 hE6) (Sn.le (Sn.add (Sn.down la (Rt.kr_self _ (by omega))) (Sn.of (K := 1) (by omega)) (by decide) (by decide) : Sn ((Rt.kr a k) + 1) 61) (by decide)) k (by omega) c12) ?_
    rintro e w7 ⟨u13, rfl, hE7⟩
    have sz7 := Pl.Ex.size hE7
    refine ⟨_, rfl, trivial, ?_⟩
    refine Pl.qA_go trivial rfl ?_
    refine Pl.pA_end ?_
    repeat refine Pl.V_seq ?_
    refine Pl.V_region (by kernel_rfl) ?_
    refine Pl.qA_go trivial rfl ?_
    refine Pl.pA_call rfl rfl rfl rfl rfl (fun u X => Pl.enters Tryz.func25 (by kernel_rfl) rfl u X) ?_
    refine Calls.mono (rcmp_B _ _ _ ((Rt.kr a k) ^ k) a (Un.below hv11 hE7) (Un.below hv1 (Pl.Ex.trans hE3 (Pl.Ex.trans hE4 (Pl.Ex.trans hE5 (Pl.Ex.trans hE6 hE7))))) (Sn.le (pow_sn201 (by have := krb_le a (k := k) (by omega); omega) : Sn ((Rt.kr a k) ^ k) 201) (by decide)) (Sn.le la (by decide)) _ rfl) ?_
    rintro e w8 ⟨rfl, hE8⟩
    have sz8 := Pl.Ex.size hE8
    refine ⟨_, rfl, trivial, ?_⟩
    refine Pl.qA_b (v := .bool true) (fun X => Cm.le_leq_t (Rt.kr_le a (by omega)) X) trivial rfl rfl rfl rfl rfl rfl ?_
    refine Pl.qA_go trivial rfl ?_
    refine Pl.qA_un (v := .bool true) trivial rfl rfl rfl rfl rfl (fun X => rfl) ?_
    refine Pl.qA_go trivial rfl ?_
    refine Pl.pA_end ?_
    repeat refine Pl.V_seq ?_
    exact Pl.post_ret rfl rfl  (⟨rfl, (Pl.Ex.trans hE1 (Pl.Ex.trans hE2 (Pl.Ex.trans hE3 (Pl.Ex.trans hE4 (Pl.Ex.trans hE5 (Pl.Ex.trans hE6 (Pl.Ex.trans hE7 hE8)))))))⟩)
end Go.Proofs.YtbdmncpibnligaaGreatDoor
/- Proved: the statement RootBetween, without a condition. -/
namespace Go.Proofs.YtbdmncpibnligaaGreatDoor
open Go.ChangeShapes Go.WideShapes Go.ChangeAt Go.RowKit
set_option linter.unusedVariables false
set_option maxHeartbeats 2000000

set_option maxRecDepth 100000 in
theorem lifted_RootBetween (os : Os) (started : os.Started) (H : Type) (enc : TypeId × Value → H) :
    ReturnsInHanded {} Tryz.checked os 4 .any (fun w args => (Rows.rootBetweenSpec.pre enc Tryz.prog Tryz.f4 [] false w args ∧ laidMetH Tryz.prog laidT w) ∧ sizedMet enc Tryz.prog Tryz.f4 (OpenSpec.ofChange Rows.rootBetweenSpec) false w args)
      (Rows.rootBetweenSpec.post enc Tryz.prog Tryz.f4 false true false false) := by
  refine returnsInHanded_of_change_and (C := Tryz.checked) (X := fun w _ => laidMetH Tryz.prog laidT w) (fun _ _ _ hh h => h.of_heap hh) own started (by kernel_rfl) Tryz.func4
    (ChangeSpec.witness_shaped (enc := enc) (C := Tryz.checked) (os := os) (X := fun w _ => laidMetH Tryz.prog laidT w) false (World.doorLaid Tryz.prog 400 os) #[.slice none 0 0, .int .u8 0] 8 rfl (World.shaped_of_RefB (by kernel_rfl) (by kernel_rfl)) (by kernel_rfl) (by kernel_rfl) (by kernel_rfl) (door_met os _)) ?_
  intro W base args ds gs before hval0 hW _ _ hL _
  have hval : ∀ (j : Nat) t v, Tryz.f4.params[j]? = some t → args[j]? = some v → Value.okWide Tryz.prog W .any base t v := hval0
  have hW' := hW
  obtain ⟨p, q, hA0, hV, rfl, hfz, hnd⟩ := hW
  have hlt : ∀ x ∈ p ++ q, x.block < W.heap.size := fun x hx => hW'.lt x hx
  have hA : DataW.TrodAll enc Tryz.prog W 0 (fun _ => true) true Tryz.f4.params.toList args.toList ds p := hA0
  rw [Tryz.params4] at hA hval
  clear hA0 hval0
  obtain ⟨v0, vs0, d0, ds0, p0, q0, hargs0, rfl, rfl, h0, r0⟩ := trodAll_cons hA
  obtain ⟨v1, vs1, d1, ds1, p1, q1, hargs1, rfl, rfl, h1, r1⟩ := trodAll_cons r0
  obtain ⟨hn1, rfl, rfl⟩ := trodAll_nil r1
  subst hn1
  subst hargs1
  obtain rfl : args = #[v0, v1] := by cases args; simp_all
  obtain ⟨rfl, rfl⟩ := trodVars_none hV
  obtain ⟨xs0, u0⟩ := open_limbs (hval 0 22 v0 rfl rfl) h0 (fun x hx => hlt x (by simp [hx]))
  obtain ⟨z1, rfl, rfl, rfl, hz1⟩ := open_int Tryz.underlying5 (hval 1 5 v1 rfl rfl) h1
  have hb1 := bounds_u8 hz1
  obtain ⟨n1, rfl⟩ := Int.eq_ofNat_of_zero_le (show 0 ≤ z1 by omega)
  refine (RootBetween_walk W _ _ u0 n1 (by omega)).mono fun e W' ⟨he, hB⟩ => ?_
  subst he
  exact ⟨_, rfl, law_post hW' rfl (by rw [Tryz.params4]; decide +kernel) rfl rfl rfl rfl hB⟩

theorem rootBetween_said : Rows.RootBetweenSaid :=
  OpenClaim.holds_of_wide 4 Tryz.f4 rfl rfl rfl rfl rfl rfl rfl ⟨rfl, rfl, rfl, rfl, rfl⟩ rfl rfl rfl rfl rfl (by kernel_rfl) Tryz.func4 (by kernel_rfl)
    (of_decide_eq_true (by kernel_rfl)) (by unfold Func.isWrapper; first | (rw [if_pos (by decide +kernel)]; kernel_rfl) | (rw [if_neg (by decide +kernel)]; exact ⟨rfl, rfl⟩))
    (fun os started H enc _ => lifted_RootBetween os started H enc)
/-- The statement: the card, tied. -/
theorem rootBetween_holds : Rows.RootBetweenCardSaid :=
  Claim7.holds_tied_plain_at .later [] [.wider] true Rows.rootBetweenCard.stood.harness false
    rootBetween_said (fun _ h => by cases h) (by kernel_rfl) (fun _ h => by cases h) rootBetween_row_tie rfl ⟨rfl, rfl⟩ (by kernel_rfl) rfl
    (fun f fn hf hfn => by
      obtain rfl : f = 4 := Option.some.inj ((show Tryz.prog.funcNamed "ziggurat/zigguratlaw08.RootBetween" = some 4 by kernel_rfl).symm.trans hf) |>.symm
      obtain rfl : fn = Tryz.f4 := (Option.some.inj (Tryz.func4.symm.trans hfn)).symm
      exact ⟨by kernel_rfl, fun j t ht => by
        rw [Tryz.params4] at ht
        have hm : t ∈ [22, 5] := by simpa using Array.mem_of_getElem? ht
        have hall : ([22, 5].all fun u => !Tryz.prog.wantsStandIn u) = true := by kernel_rfl
        exact (show Tryz.prog.wantsStandIn t = false by simpa using List.all_eq_true.1 hall t hm)⟩)
    (by kernel_rfl)
end Go.Proofs.YtbdmncpibnligaaGreatDoor
