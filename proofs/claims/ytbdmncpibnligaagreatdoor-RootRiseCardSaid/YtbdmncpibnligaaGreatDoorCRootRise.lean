/- Proved: the statement RootRise, without a condition. -/
import Derived.Test.YtbdmncpibnligaaGreatDoorBbh
import Derived.Test.YtbdmncpibnligaaGreatDoorBai

namespace Go.Proofs.YtbdmncpibnligaaGreatDoor
open Go.RowKit 
set_option linter.unusedVariables false
set_option linter.unusedSimpArgs false
set_option maxRecDepth 100000
set_option maxHeartbeats 4000000
theorem kr_anti (a : Nat) {k : Nat} (hk : k ≠ 0) : Rt.kr a (k + 1) ≤ Rt.kr a k := by
  rcases Nat.eq_zero_or_pos (Rt.kr a (k + 1)) with h | h
  · omega
  · refine Rt.le_kr hk (Nat.le_trans (Nat.le_trans ?_ (Nat.le_of_eq (Nat.pow_succ _ _).symm)) (Rt.kr_le a (k := k + 1) (by omega)))
    exact Nat.le_mul_of_pos_right _ h
theorem kr_bl {a k : Nat} (h0 : a ≠ 0) (h : blen a ≤ k) : Rt.kr a k = 1 := Rt.kr_big h0 (Nat.lt_of_lt_of_le (lt_pow_blen a) (Nat.pow_le_pow_right (by decide) h))
theorem RootRise_walk (w : World) (r0 : Value) (xa : List Nat) (u0 : U w r0 xa) (r1 : Value) (xb : List Nat) (u1 : U w r1 xb) (n : Nat) (hn : n < 256) :
    Calls Tryz.prog 11 #[r0, r1, .int .u8 ((n : Nat) : Int)] w fun e w' => e = .returned (.bool true) ∧ Ext w w' := by
  obtain ⟨a, da⟩ : ∃ q, cutN xa 40 = q := ⟨_, rfl⟩
  have la : Sn a 40 := by rw [← da]; exact len_of (cut_lt xa 40 u0.lim)
  have ba : blen a ≤ 32 * 40 := Sn.blen la
  obtain ⟨b, db⟩ : ∃ q, cutN xb 40 = q := ⟨_, rfl⟩
  have lb : Sn b 40 := by rw [← db]; exact len_of (cut_lt xb 40 u1.lim)
  have bb : blen b ≤ 32 * 40 := Sn.blen lb
  obtain ⟨k, qk⟩ : ∃ q, 1 + n % 80 = q := ⟨_, rfl⟩
  have gk : 1 ≤ k ∧ k ≤ 80 := by omega
  obtain ⟨k1, qk1⟩ : ∃ q, k + 1 = q := ⟨_, rfl⟩
  have gk1 : k1 = k + 1 := by omega
  obtain ⟨m, qm⟩ : ∃ q, max (blen a) 1 = q := ⟨_, rfl⟩
  have gm : 1 ≤ m ∧ blen a ≤ m ∧ m ≤ 1281 := by omega
  refine Pl.calls_by (n := 107) (vs := [r0, r1, .int .u8 ((n : Nat) : Int)]) Tryz.func11 rfl (by kernel_rfl) (by simp) ?_
  repeat refine Pl.V_seq ?_
  refine Pl.V_region (by kernel_rfl) ?_
  refine Pl.qA_go trivial rfl ?_
  refine Pl.pA_end ?_
  repeat refine Pl.V_seq ?_
  refine Pl.V_region (by kernel_rfl) ?_
  refine Pl.pA_call rfl rfl rfl rfl rfl (fun u X => Pl.enters Tryz.func12 (by kernel_rfl) rfl u X) ?_
  refine Calls.mono (head8 _) ?_
  rintro e w1 ⟨rfl, hE1⟩
  have sz1 := Pl.Ex.size hE1
  refine ⟨_, rfl, trivial, ?_⟩
  refine Pl.qA_go trivial rfl ?_
  refine Pl.pA_end ?_
  repeat refine Pl.V_seq ?_
  refine Pl.V_region (by kernel_rfl) ?_
  refine Pl.qA_go trivial rfl ?_
  refine Pl.pA_call rfl rfl rfl rfl rfl (fun u X => Pl.enters Tryz.func13 (by kernel_rfl) rfl u X) ?_
  refine Calls.mono (made_B _ _ xa 40 (U.below u0 hE1) (by decide) (by decide) a da) ?_
  rintro e w2 ⟨v1, rfl, hv1, hE2⟩
  have sz2 := Pl.Ex.size hE2
  refine ⟨_, rfl, trivial, ?_⟩
  refine Pl.qA_go trivial rfl ?_
  refine Pl.pA_call rfl rfl rfl rfl rfl (fun u X => Pl.enters Tryz.func13 (by kernel_rfl) rfl u X) ?_
  refine Calls.mono (made_B _ _ xb 40 (U.below u1 (Pl.Ex.trans hE1 hE2)) (by decide) (by decide) b db) ?_
  rintro e w3 ⟨v2, rfl, hv2, hE3⟩
  have sz3 := Pl.Ex.size hE3
  refine ⟨_, rfl, trivial, ?_⟩
  refine Pl.qA_go trivial rfl ?_
  refine Pl.qA_cv (c := ((n : Nat) : Int)) Tryz.underlying3 (by kernel_rfl) (Pl.c_id (a := n) rfl (Pl.w64 (by omega) (by omega))) trivial rfl rfl rfl rfl rfl ?_
  refine Pl.qA_b (v := .int .i64 (((n % 80) : Nat) : Int)) (fun X => nb_rem_i64 (a := n) (b := 80) (by omega) (by omega) X) trivial rfl rfl rfl rfl rfl rfl ?_
  refine Pl.qA_b (v := .int .i64 ((k : Nat) : Int)) (fun X => Pl.Bn.as (nb_add_i64 (a := 1) (b := (n % 80)) (by omega)) (by rw [qk]) X) trivial rfl rfl rfl rfl rfl rfl ?_
  refine Pl.qA_go trivial rfl ?_
  refine Pl.pA_end ?_
  repeat refine Pl.V_seq ?_
  refine Pl.V_region (by kernel_rfl) ?_
  refine Pl.qA_go trivial rfl ?_
  have hbz3 : blen a ≤ 32 * 40 := Sn.blen la
  refine Pl.pA_call rfl rfl rfl rfl rfl (fun u X => Pl.enters Tryz.func14 (by kernel_rfl) rfl u X) ?_
  refine Calls.mono (root_N _ _ a (Un.below hv1 hE3) (Sn.le la (by decide)) k (by omega) (by omega) (fun j hj hlt => by omega)) ?_
  rintro e w4 ⟨v4, rfl, hv4, hE4⟩
  have sz4 := Pl.Ex.size hE4
  refine ⟨_, rfl, trivial, ?_⟩
  refine Pl.qA_go trivial rfl ?_
  refine Pl.pA_end ?_
  repeat refine Pl.V_seq ?_
  refine Pl.V_region (by kernel_rfl) ?_
  refine Pl.qA_go trivial rfl ?_
  refine Pl.pA_call rfl rfl rfl rfl rfl (fun u X => Pl.enters Tryz.func23 (by kernel_rfl) rfl u X) ?_
  refine Calls.mono (radd_B _ _ _ a b (Un.below hv1 (Pl.Ex.trans hE3 hE4)) (Un.below hv2 hE4) (Sn.le la (by decide)) (Sn.le lb (by decide)) _ rfl) ?_
  rintro e w5 ⟨v5, rfl, hv5, hE5⟩
  have sz5 := Pl.Ex.size hE5
  refine ⟨_, rfl, trivial, ?_⟩
  refine Pl.qA_go trivial rfl ?_
  have hbz6 : blen (a + b) ≤ 32 * 41 := Sn.blen (Sn.add la lb (by decide) (by decide) : Sn (a + b) 41)
  refine Pl.pA_call rfl rfl rfl rfl rfl (fun u X => Pl.enters Tryz.func14 (by kernel_rfl) rfl u X) ?_
  refine Calls.mono (root_N _ _ (a + b) hv5 (Sn.le (Sn.add la lb (by decide) (by decide) : Sn (a + b) 41) (by decide)) k (by omega) (by omega) (fun j hj hlt => by omega)) ?_
  rintro e w6 ⟨v7, rfl, hv7, hE6⟩
  have sz6 := Pl.Ex.size hE6
  refine ⟨_, rfl, trivial, ?_⟩
  refine Pl.qA_go trivial rfl ?_
  refine Pl.pA_end ?_
  repeat refine Pl.V_seq ?_
  refine Pl.V_region (by kernel_rfl) ?_
  refine Pl.qA_go trivial rfl ?_
  refine Pl.qA_b (v := .int .i64 ((k1 : Nat) : Int)) (fun X => Pl.Bn.as (nb_add_i64 (a := k) (b := 1) (by omega)) (by rw [qk1]) X) trivial rfl rfl rfl rfl rfl rfl ?_
  have hbz8 : blen a ≤ 32 * 40 := Sn.blen la
  refine Pl.pA_call rfl rfl rfl rfl rfl (fun u X => Pl.enters Tryz.func14 (by kernel_rfl) rfl u X) ?_
  refine Calls.mono (root_N _ _ a (Un.below hv1 (Pl.Ex.trans hE3 (Pl.Ex.trans hE4 (Pl.Ex.trans hE5 hE6)))) (Sn.le la (by decide)) k1 (by omega) (by omega) (fun j hj hlt => by omega)) ?_
  rintro e w7 ⟨v9, rfl, hv9, hE7⟩
  have sz7 := Pl.Ex.size hE7
  refine ⟨_, rfl, trivial, ?_⟩
  refine Pl.qA_go trivial rfl ?_
  refine Pl.pA_end ?_
  repeat refine Pl.V_seq ?_
  refine Pl.V_region (by kernel_rfl) ?_
  refine Pl.qA_go trivial rfl ?_
  refine Pl.pA_call rfl rfl rfl rfl rfl (fun u X => Pl.enters Tryz.func30 (by kernel_rfl) rfl u X) ?_
  refine Calls.mono (rbits_B _ _ a (Un.below hv1 (Pl.Ex.trans hE3 (Pl.Ex.trans hE4 (Pl.Ex.trans hE5 (Pl.Ex.trans hE6 hE7))))) (Sn.le la (by decide)) _ rfl) ?_
  rintro e w8 ⟨rfl, hE8⟩
  have sz8 := Pl.Ex.size hE8
  refine ⟨_, rfl, trivial, ?_⟩
  refine qA_mx (k := .i64) (a := blen a) (b := 1) (c := m) qm trivial rfl rfl rfl rfl rfl rfl ?_
  have hbz10 : blen a ≤ 32 * 40 := Sn.blen la
  refine Pl.pA_call rfl rfl rfl rfl rfl (fun u X => Pl.enters Tryz.func14 (by kernel_rfl) rfl u X) ?_
  refine Calls.mono (root_N _ _ a (Un.below hv1 (Pl.Ex.trans hE3 (Pl.Ex.trans hE4 (Pl.Ex.trans hE5 (Pl.Ex.trans hE6 (Pl.Ex.trans hE7 hE8)))))) (Sn.le la (by decide)) m (by omega) (by omega) (fun j hj hlt => by omega)) ?_
  rintro e w9 ⟨v11, rfl, hv11, hE9⟩
  have sz9 := Pl.Ex.size hE9
  refine ⟨_, rfl, trivial, ?_⟩
  refine Pl.qA_go trivial rfl ?_
  refine Pl.pA_end ?_
  repeat refine Pl.V_seq ?_
  refine Pl.V_region (by kernel_rfl) ?_
  refine Pl.qA_go trivial rfl ?_
  refine Pl.qA_b (v := .bool false) (fun X => Pl.r_neq (Pl.n_f (by omega)) X) trivial rfl rfl rfl rfl rfl rfl ?_
  refine Pl.qA_go trivial rfl ?_
  refine Pl.qA_b (v := .bool false) (fun X => Pl.r_neq (Pl.n_f (by omega)) X) trivial rfl rfl rfl rfl rfl rfl ?_
  refine Pl.qA_go trivial rfl ?_
  refine Pl.qA_b (v := .bool false) (fun X => Pl.r_neq (Pl.n_f (by omega)) X) trivial rfl rfl rfl rfl rfl rfl ?_
  refine Pl.qA_go trivial rfl ?_
  refine Pl.qA_b (v := .bool false) (fun X => Pl.r_neq (Pl.n_f (by omega)) X) trivial rfl rfl rfl rfl rfl rfl ?_
  refine Pl.qA_go trivial rfl ?_
  refine Pl.pA_call rfl rfl rfl rfl rfl (fun u X => Pl.enters Tryz.func25 (by kernel_rfl) rfl u X) ?_
  refine Calls.mono (rcmp_B _ _ _ (Rt.kr (a + b) k) (Rt.kr a k) (Un.below hv7 (Pl.Ex.trans hE7 (Pl.Ex.trans hE8 hE9))) (Un.below hv4 (Pl.Ex.trans hE5 (Pl.Ex.trans hE6 (Pl.Ex.trans hE7 (Pl.Ex.trans hE8 hE9))))) (Sn.le (Sn.down (Sn.add la lb (by decide) (by decide) : Sn (a + b) 41) (Rt.kr_self _ (by omega))) (by decide)) (Sn.le (Sn.down la (Rt.kr_self _ (by omega))) (by decide)) _ rfl) ?_
  rintro e w10 ⟨rfl, hE10⟩
  have sz10 := Pl.Ex.size hE10
  refine ⟨_, rfl, trivial, ?_⟩
  refine Pl.qA_b (v := .bool false) (fun X => Cm.lt_lss_f (Nat.not_lt.2 (Rt.kr_mono (by omega) (Nat.le_add_right a b))) X) trivial rfl rfl rfl rfl rfl rfl ?_
  refine Pl.qA_go trivial rfl ?_
  refine Pl.pA_call rfl rfl rfl rfl rfl (fun u X => Pl.enters Tryz.func25 (by kernel_rfl) rfl u X) ?_
  refine Calls.mono (rcmp_B _ _ _ (Rt.kr a k1) (Rt.kr a k) (Un.below hv9 (Pl.Ex.trans hE8 (Pl.Ex.trans hE9 hE10))) (Un.below hv4 (Pl.Ex.trans hE5 (Pl.Ex.trans hE6 (Pl.Ex.trans hE7 (Pl.Ex.trans hE8 (Pl.Ex.trans hE9 hE10)))))) (Sn.le (Sn.down la (Rt.kr_self _ (by omega))) (by decide)) (Sn.le (Sn.down la (Rt.kr_self _ (by omega))) (by decide)) _ rfl) ?_
  rintro e w11 ⟨rfl, hE11⟩
  have sz11 := Pl.Ex.size hE11
  refine ⟨_, rfl, trivial, ?_⟩
  refine Pl.qA_b (v := .bool false) (fun X => Cm.gt_gtr_f (Nat.not_lt.2 (by rw [← qk1]; exact kr_anti a (by omega))) X) trivial rfl rfl rfl rfl rfl rfl ?_
  refine Pl.qA_go trivial rfl ?_
  refine Pl.pA_end ?_
  repeat refine Pl.V_seq ?_
  refine Pl.V_false rfl ?_
  repeat refine Pl.V_seq ?_
  refine Pl.V_skip ?_
  repeat refine Pl.V_seq ?_
  refine Pl.V_region (by kernel_rfl) ?_
  refine Pl.qA_go trivial rfl ?_
  obtain ⟨A12, c13, rfl⟩ := Un.sh (Un.below hv1 (Pl.Ex.trans hE3 (Pl.Ex.trans hE4 (Pl.Ex.trans hE5 (Pl.Ex.trans hE6 (Pl.Ex.trans hE7 (Pl.Ex.trans hE8 (Pl.Ex.trans hE9 (Pl.Ex.trans hE10 hE11)))))))))
  refine Pl.qA_ln Tryz.underlying22 trivial rfl rfl rfl rfl rfl ?_
  by_cases c14 : ((limbs a).length) = 0
  · refine Pl.qA_b (v := .bool true) (fun X => Pl.r_eql (Pl.e_t (by omega)) X) trivial rfl rfl rfl rfl rfl rfl ?_
    refine Pl.qA_go trivial rfl ?_
    obtain ⟨A15, c16, rfl⟩ := Un.sh (Un.below hv11 (Pl.Ex.trans hE10 hE11))
    refine Pl.qA_ln Tryz.underlying22 trivial rfl rfl rfl rfl rfl ?_
    have hf9_6 : ((limbs (Rt.kr a m)).length) = 0 := len0.2 (by rw [len0.1 c14]; exact Rt.kr_zero (by omega))
    refine Pl.qA_b (v := .bool true) (fun X => Pl.r_eql (Pl.e_t (by omega)) X) trivial rfl rfl rfl rfl rfl rfl ?_
    refine Pl.qA_go trivial rfl ?_
    refine Pl.pA_end ?_
    repeat refine Pl.V_seq ?_
    exact Pl.post_ret rfl rfl  (⟨rfl, (Pl.Ex.trans hE1 (Pl.Ex.trans hE2 (Pl.Ex.trans hE3 (Pl.Ex.trans hE4 (Pl.Ex.trans hE5 (Pl.Ex.trans hE6 (Pl.Ex.trans hE7 (Pl.Ex.trans hE8 (Pl.Ex.trans hE9 (Pl.Ex.trans hE10 hE11))))))))))⟩)
  · refine Pl.qA_b (v := .bool false) (fun X => Pl.r_eql (Pl.e_f (by omega)) X) trivial rfl rfl rfl rfl rfl rfl ?_
    refine Pl.qA_go trivial rfl ?_
    refine Pl.qA_ln Tryz.underlying22 trivial rfl rfl rfl rfl rfl ?_
    have hf9_14 : ((limbs a).length) > 0 := Nat.pos_of_ne_zero c14
    refine Pl.qA_b (v := .bool true) (fun X => Pl.r_gtr (decide_eq_true (by omega)) X) trivial rfl rfl rfl rfl rfl rfl ?_
    refine Pl.qA_go trivial rfl ?_
    refine Pl.qA_bs (e := 36) (n := 1) [.int .u32 1] rfl rfl rfl rfl (by kernel_rfl) (fun Y hY => trivial) ?_
    intro N15 w12 hE12 hN_N15 k_N15_0
    have z_N15 := Pl.Cb.lt k_N15_0
    have sz12 := Pl.Ex.size hE12
    have hl16 := Un.one (x := 1) k_N15_0 rfl (by omega)
    refine Pl.pA_call rfl rfl rfl rfl rfl (fun u X => Pl.enters Tryz.func20 (by kernel_rfl) rfl u X) ?_
    refine Calls.mono (same1 _ _ _ (Rt.kr a m) 1 (Un.below hv11 (Pl.Ex.trans hE10 (Pl.Ex.trans hE11 hE12))) hl16 true (decide_eq_true (kr_bl (fun h9 => c14 (len0.2 h9)) gm.2.1))) ?_
    rintro e w13 ⟨rfl, hE13⟩
    have sz13 := Pl.Ex.size hE13
    refine ⟨_, rfl, trivial, ?_⟩
    refine Pl.qA_go trivial rfl ?_
    refine Pl.pA_end ?_
    repeat refine Pl.V_seq ?_
    exact Pl.post_ret rfl rfl  (⟨rfl, (Pl.Ex.trans hE1 (Pl.Ex.trans hE2 (Pl.Ex.trans hE3 (Pl.Ex.trans hE4 (Pl.Ex.trans hE5 (Pl.Ex.trans hE6 (Pl.Ex.trans hE7 (Pl.Ex.trans hE8 (Pl.Ex.trans hE9 (Pl.Ex.trans hE10 (Pl.Ex.trans hE11 (Pl.Ex.trans hE12 hE13))))))))))))⟩)
end Go.Proofs.YtbdmncpibnligaaGreatDoor
/- Proved: the statement RootRise, without a condition. -/
namespace Go.Proofs.YtbdmncpibnligaaGreatDoor
open Go.ChangeShapes Go.WideShapes Go.ChangeAt Go.RowKit
set_option linter.unusedVariables false
set_option maxHeartbeats 2000000

set_option maxRecDepth 100000 in
theorem lifted_RootRise (os : Os) (started : os.Started) (H : Type) (enc : TypeId × Value → H) :
    ReturnsInHanded {} Tryz.checked os 11 .any (fun w args => (Rows.rootRiseSpec.pre enc Tryz.prog Tryz.f11 [] false w args ∧ laidMetH Tryz.prog laidT w) ∧ sizedMet enc Tryz.prog Tryz.f11 (OpenSpec.ofChange Rows.rootRiseSpec) false w args)
      (Rows.rootRiseSpec.post enc Tryz.prog Tryz.f11 false true false false) := by
  refine returnsInHanded_of_change_and (C := Tryz.checked) (X := fun w _ => laidMetH Tryz.prog laidT w) (fun _ _ _ hh h => h.of_heap hh) own started (by kernel_rfl) Tryz.func11
    (ChangeSpec.witness_shaped (enc := enc) (C := Tryz.checked) (os := os) (X := fun w _ => laidMetH Tryz.prog laidT w) false (World.doorLaid Tryz.prog 400 os) #[.slice none 0 0, .slice none 0 0, .int .u8 0] 8 rfl (World.shaped_of_RefB (by kernel_rfl) (by kernel_rfl)) (by kernel_rfl) (by kernel_rfl) (by kernel_rfl) (door_met os _)) ?_
  intro W base args ds gs before hval0 hW _ _ hL _
  have hval : ∀ (j : Nat) t v, Tryz.f11.params[j]? = some t → args[j]? = some v → Value.okWide Tryz.prog W .any base t v := hval0
  have hW' := hW
  obtain ⟨p, q, hA0, hV, rfl, hfz, hnd⟩ := hW
  have hlt : ∀ x ∈ p ++ q, x.block < W.heap.size := fun x hx => hW'.lt x hx
  have hA : DataW.TrodAll enc Tryz.prog W 0 (fun _ => true) true Tryz.f11.params.toList args.toList ds p := hA0
  rw [Tryz.params11] at hA hval
  clear hA0 hval0
  obtain ⟨v0, vs0, d0, ds0, p0, q0, hargs0, rfl, rfl, h0, r0⟩ := trodAll_cons hA
  obtain ⟨v1, vs1, d1, ds1, p1, q1, hargs1, rfl, rfl, h1, r1⟩ := trodAll_cons r0
  obtain ⟨v2, vs2, d2, ds2, p2, q2, hargs2, rfl, rfl, h2, r2⟩ := trodAll_cons r1
  obtain ⟨hn1, rfl, rfl⟩ := trodAll_nil r2
  subst hn1
  subst hargs2
  subst hargs1
  obtain rfl : args = #[v0, v1, v2] := by cases args; simp_all
  obtain ⟨rfl, rfl⟩ := trodVars_none hV
  obtain ⟨xs0, u0⟩ := open_limbs (hval 0 22 v0 rfl rfl) h0 (fun x hx => hlt x (by simp [hx]))
  obtain ⟨xs1, u1⟩ := open_limbs (hval 1 22 v1 rfl rfl) h1 (fun x hx => hlt x (by simp [hx]))
  obtain ⟨z2, rfl, rfl, rfl, hz2⟩ := open_int Tryz.underlying5 (hval 2 5 v2 rfl rfl) h2
  have hb2 := bounds_u8 hz2
  obtain ⟨n2, rfl⟩ := Int.eq_ofNat_of_zero_le (show 0 ≤ z2 by omega)
  refine (RootRise_walk W _ _ u0 _ _ u1 n2 (by omega)).mono fun e W' ⟨he, hB⟩ => ?_
  subst he
  exact ⟨_, rfl, law_post hW' rfl (by rw [Tryz.params11]; decide +kernel) rfl rfl rfl rfl hB⟩

theorem rootRise_said : Rows.RootRiseSaid :=
  OpenClaim.holds_of_wide 11 Tryz.f11 rfl rfl rfl rfl rfl rfl rfl ⟨rfl, rfl, rfl, rfl, rfl⟩ rfl rfl rfl rfl rfl (by kernel_rfl) Tryz.func11 (by kernel_rfl)
    (of_decide_eq_true (by kernel_rfl)) (by unfold Func.isWrapper; first | (rw [if_pos (by decide +kernel)]; kernel_rfl) | (rw [if_neg (by decide +kernel)]; exact ⟨rfl, rfl⟩))
    (fun os started H enc _ => lifted_RootRise os started H enc)
/-- The statement: the card, tied. -/
theorem rootRise_holds : Rows.RootRiseCardSaid :=
  Claim7.holds_tied_plain_at .later [] [.wider] true Rows.rootRiseCard.stood.harness false
    rootRise_said (fun _ h => by cases h) (by kernel_rfl) (fun _ h => by cases h) rootRise_row_tie rfl ⟨rfl, rfl⟩ (by kernel_rfl) rfl
    (fun f fn hf hfn => by
      obtain rfl : f = 11 := Option.some.inj ((show Tryz.prog.funcNamed "ziggurat/zigguratlaw08.RootRise" = some 11 by kernel_rfl).symm.trans hf) |>.symm
      obtain rfl : fn = Tryz.f11 := (Option.some.inj (Tryz.func11.symm.trans hfn)).symm
      exact ⟨by kernel_rfl, fun j t ht => by
        rw [Tryz.params11] at ht
        have hm : t ∈ [22, 22, 5] := by simpa using Array.mem_of_getElem? ht
        have hall : ([22, 22, 5].all fun u => !Tryz.prog.wantsStandIn u) = true := by kernel_rfl
        exact (show Tryz.prog.wantsStandIn t = false by simpa using List.all_eq_true.1 hall t hm)⟩)
    (by kernel_rfl)
end Go.Proofs.YtbdmncpibnligaaGreatDoor
