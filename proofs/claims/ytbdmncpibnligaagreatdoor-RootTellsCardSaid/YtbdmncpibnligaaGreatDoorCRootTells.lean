/- Proved: the statement RootTells, without a condition. -/
import Derived.Test.YtbdmncpibnligaaGreatDoorBbh
import Derived.Test.YtbdmncpibnligaaGreatDoorBai

namespace Go.Proofs.YtbdmncpibnligaaGreatDoor
open Go.RowKit 
set_option linter.unusedVariables false
set_option linter.unusedSimpArgs false
set_option maxRecDepth 100000
set_option maxHeartbeats 4000000
theorem RootTells_11 (w : World) (r0 : Value) (xa : List Nat) (u0 : U w r0 xa) (z : Int) (n : Nat) (hn : n < 256) (hbad : (z < 1 ∨ 1000000 < z)) (hf : n % 40 < 1) :
    Calls Tryz.prog 3 #[r0, .int .i64 z, .int .u8 ((n : Nat) : Int)] w fun e w' => e = .returned (.bool true) ∧ Ext w w' := by
  obtain ⟨a, da⟩ : ∃ q, cutN xa 8 = q := ⟨_, rfl⟩
  have la : Sn a 8 := by rw [← da]; exact len_of (cut_lt xa 8 u0.lim)
  have ba : blen a ≤ 32 * 8 := Sn.blen la
  have hfw := hf
  obtain ⟨few, qfew⟩ : ∃ q, n % 40 = q := ⟨_, rfl⟩
  have gfew : few < 40 := by omega
  refine Pl.calls_by (n := 135) (vs := [r0, .int .i64 z, .int .u8 ((n : Nat) : Int)]) Tryz.func3 rfl (by kernel_rfl) (by simp) ?_
  repeat refine Pl.V_seq ?_
  refine Pl.V_region (by kernel_rfl) ?_
  refine Pl.qA_go trivial rfl ?_
  refine Pl.pA_end ?_
  repeat refine Pl.V_seq ?_
  refine Pl.V_region (by kernel_rfl) ?_
  refine Pl.pA_call rfl rfl rfl rfl rfl (fun u X => Pl.enters Tryz.func12 (by kernel_rfl) rfl u X) ?_
  refine Calls.mono (head8 _) ?_
  rintro e w1 ⟨rfl, hE1⟩
  have sz1 := Pl.Ex.size hE1
  refine ⟨_, rfl, trivial, ?_⟩
  refine Pl.qA_go trivial rfl ?_
  refine Pl.pA_end ?_
  repeat refine Pl.V_seq ?_
  refine Pl.V_region (by kernel_rfl) ?_
  refine Pl.qA_go trivial rfl ?_
  refine Pl.pA_call rfl rfl rfl rfl rfl (fun u X => Pl.enters Tryz.func13 (by kernel_rfl) rfl u X) ?_
  refine Calls.mono (made_B _ _ xa 8 (U.below u0 hE1) (by decide) (by decide) a da) ?_
  rintro e w2 ⟨v1, rfl, hv1, hE2⟩
  have sz2 := Pl.Ex.size hE2
  refine ⟨_, rfl, trivial, ?_⟩
  refine Pl.qA_go trivial rfl ?_
  refine Pl.qA_cv (c := ((n : Nat) : Int)) Tryz.underlying3 (by kernel_rfl) (Pl.c_id (a := n) rfl (Pl.w64 (by omega) (by omega))) trivial rfl rfl rfl rfl rfl ?_
  refine Pl.qA_b (v := .int .i64 ((few : Nat) : Int)) (fun X => Pl.Bn.as (nb_rem_i64 (a := n) (b := 40) (by omega) (by omega)) (by rw [qfew]) X) trivial rfl rfl rfl rfl rfl rfl ?_
  refine Pl.qA_go trivial rfl ?_
  refine Pl.pA_end ?_
  repeat refine Pl.V_seq ?_
  refine Pl.V_region (by kernel_rfl) ?_
  refine Pl.qA_go trivial rfl ?_
  have hbz2 : blen a ≤ 32 * 8 := Sn.blen la
  refine Pl.pA_call rfl rfl rfl rfl rfl (fun u X => Pl.enters Tryz.func14 (by kernel_rfl) rfl u X) ?_
  refine Calls.mono (root_bad _ _ a hv1 (Sn.le la (by decide)) ((few : Nat) : Int) (by omega) (fun j hj hlt => by omega)) ?_
  rintro e w3 ⟨rfl, hE3⟩
  have sz3 := Pl.Ex.size hE3
  refine ⟨_, rfl, trivial, ?_⟩
  refine Pl.qA_go trivial rfl ?_
  refine Pl.pA_end ?_
  repeat refine Pl.V_seq ?_
  refine Pl.V_region (by kernel_rfl) ?_
  refine Pl.qA_go trivial rfl ?_
  have hbz3 : blen a ≤ 32 * 8 := Sn.blen la
  refine Pl.pA_call rfl rfl rfl rfl rfl (fun u X => Pl.enters Tryz.func15 (by kernel_rfl) rfl u X) ?_
  refine Calls.mono (rroot_bad _ _ a (Un.below hv1 hE3) (Sn.le la (by decide)) ((few : Nat) : Int) (by omega) (fun j hj hlt => by omega)) ?_
  rintro e w4 ⟨rfl, hE4⟩
  have sz4 := Pl.Ex.size hE4
  refine ⟨_, rfl, trivial, ?_⟩
  refine Pl.qA_go trivial rfl ?_
  refine Pl.pA_end ?_
  repeat refine Pl.V_seq ?_
  refine Pl.V_region (by kernel_rfl) ?_
  refine Pl.qA_go trivial rfl ?_
  have hbz4 : blen a ≤ 32 * 8 := Sn.blen la
  refine Pl.pA_call rfl rfl rfl rfl rfl (fun u X => Pl.enters Tryz.func14 (by kernel_rfl) rfl u X) ?_
  refine Calls.mono (root_bad _ _ a (Un.below hv1 (Pl.Ex.trans hE3 hE4)) (Sn.le la (by decide)) z hbad (fun j hj hlt => by omega)) ?_
  rintro e w5 ⟨rfl, hE5⟩
  have sz5 := Pl.Ex.size hE5
  refine ⟨_, rfl, trivial, ?_⟩
  refine Pl.qA_go trivial rfl ?_
  refine Pl.pA_end ?_
  repeat refine Pl.V_seq ?_
  refine Pl.V_region (by kernel_rfl) ?_
  refine Pl.qA_go trivial rfl ?_
  have hbz5 : blen a ≤ 32 * 8 := Sn.blen la
  refine Pl.pA_call rfl rfl rfl rfl rfl (fun u X => Pl.enters Tryz.func15 (by kernel_rfl) rfl u X) ?_
  refine Calls.mono (rroot_bad _ _ a (Un.below hv1 (Pl.Ex.trans hE3 (Pl.Ex.trans hE4 hE5))) (Sn.le la (by decide)) z hbad (fun j hj hlt => by omega)) ?_
  rintro e w6 ⟨rfl, hE6⟩
  have sz6 := Pl.Ex.size hE6
  refine ⟨_, rfl, trivial, ?_⟩
  refine Pl.qA_go trivial rfl ?_
  refine Pl.pA_end ?_
  repeat refine Pl.V_seq ?_
  refine Pl.V_region (by kernel_rfl) ?_
  refine Pl.qA_go trivial rfl ?_
  refine Pl.pA_call rfl rfl rfl rfl rfl (fun u X => Pl.enters Tryz.func16 (by kernel_rfl) rfl u X) ?_
  refine Calls.mono (sqrt_calls a _ _ (Un.below hv1 (Pl.Ex.trans hE3 (Pl.Ex.trans hE4 (Pl.Ex.trans hE5 hE6)))) (Sn.le la (by decide))) ?_
  rintro e w7 ⟨v6, v7, rfl, hv6, hv7, hE7⟩
  have sz7 := Pl.Ex.size hE7
  refine ⟨_, rfl, trivial, ?_⟩
  refine Pl.qA_go trivial rfl ?_
  refine Pl.pA_end ?_
  repeat refine Pl.V_seq ?_
  refine Pl.V_region (by kernel_rfl) ?_
  refine Pl.qA_go trivial rfl ?_
  refine Pl.pA_call rfl rfl rfl rfl rfl (fun u X => Pl.enters Tryz.func17 (by kernel_rfl) rfl u X) ?_
  refine Calls.mono (rsqrt_calls _ _ a (Un.below hv1 (Pl.Ex.trans hE3 (Pl.Ex.trans hE4 (Pl.Ex.trans hE5 (Pl.Ex.trans hE6 hE7))))) (Sn.le la (by decide))) ?_
  rintro e w8 ⟨v8, v9, rfl, hv8, hv9, hE8⟩
  have sz8 := Pl.Ex.size hE8
  refine ⟨_, rfl, trivial, ?_⟩
  refine Pl.qA_go trivial rfl ?_
  refine Pl.pA_end ?_
  repeat refine Pl.V_seq ?_
  refine Pl.V_region (by kernel_rfl) ?_
  refine Pl.qA_go trivial rfl ?_
  have hbz10 : blen a ≤ 32 * 8 := Sn.blen la
  refine Pl.pA_call rfl rfl rfl rfl rfl (fun u X => Pl.enters Tryz.func18 (by kernel_rfl) rfl u X) ?_
  refine Calls.mono (power_all _ _ a (Un.below hv1 (Pl.Ex.trans hE3 (Pl.Ex.trans hE4 (Pl.Ex.trans hE5 (Pl.Ex.trans hE6 (Pl.Ex.trans hE7 hE8)))))) (Sn.le la (by decide)) (by omega)) ?_
  rintro e w9 ⟨u11, pb12, pk13, rfl, hu11, hppb12, hE9⟩
  have lpb12 := Sn.down la (pw_le hppb12)
  have qpk13 := pw_k hppb12
  have sz9 := Pl.Ex.size hE9
  refine ⟨_, rfl, trivial, ?_⟩
  refine Pl.qA_go trivial rfl ?_
  refine Pl.pA_end ?_
  repeat refine Pl.V_seq ?_
  refine Pl.V_region (by kernel_rfl) ?_
  refine Pl.qA_go trivial rfl ?_
  have hbz14 : blen a ≤ 32 * 8 := Sn.blen la
  refine Pl.pA_call rfl rfl rfl rfl rfl (fun u X => Pl.enters Tryz.func19 (by kernel_rfl) rfl u X) ?_
  refine Calls.mono (rpower_calls _ _ a (Un.below hv1 (Pl.Ex.trans hE3 (Pl.Ex.trans hE4 (Pl.Ex.trans hE5 (Pl.Ex.trans hE6 (Pl.Ex.trans hE7 (Pl.Ex.trans hE8 hE9))))))) (Sn.le la (by decide)) (by omega)) ?_
  rintro e w10 ⟨u15, pb16, pk17, rfl, hu15, hppb16, hE10⟩
  have lpb16 := Sn.down la (pw_le hppb16)
  have qpk17 := pw_k hppb16
  have sz10 := Pl.Ex.size hE10
  refine ⟨_, rfl, trivial, ?_⟩
  refine Pl.qA_go trivial rfl ?_
  refine Pl.pA_end ?_
  repeat refine Pl.V_seq ?_
  refine Pl.V_region (by kernel_rfl) ?_
  refine Pl.qA_go trivial rfl ?_
  refine Pl.pA_call rfl rfl rfl rfl rfl (fun u X => Pl.enters Tryz.func20 (by kernel_rfl) rfl u X) ?_
  refine Calls.mono (same1 _ _ _ 0 0 (Un_nil _) (Un_nil _) true (decide_eq_true rfl)) ?_
  rintro e w11 ⟨rfl, hE11⟩
  have sz11 := Pl.Ex.size hE11
  refine ⟨_, rfl, trivial, ?_⟩
  refine Pl.qA_go trivial rfl ?_
  refine Pl.qA_b (v := .bool true) (fun X => Pl.r_eql (Pl.e_t (by omega)) X) trivial rfl rfl rfl rfl rfl rfl ?_
  refine Pl.qA_go trivial rfl ?_
  refine Pl.pA_call rfl rfl rfl rfl rfl (fun u X => Pl.enters Tryz.func20 (by kernel_rfl) rfl u X) ?_
  refine Calls.mono (same1 _ _ _ 0 0 (Un_nil _) (Un_nil _) true (decide_eq_true rfl)) ?_
  rintro e w12 ⟨rfl, hE12⟩
  have sz12 := Pl.Ex.size hE12
  refine ⟨_, rfl, trivial, ?_⟩
  refine Pl.qA_go trivial rfl ?_
  refine Pl.qA_b (v := .bool true) (fun X => Pl.r_eql (Pl.e_t (by omega)) X) trivial rfl rfl rfl rfl rfl rfl ?_
  refine Pl.qA_go trivial rfl ?_
  refine Pl.pA_call rfl rfl rfl rfl rfl (fun u X => Pl.enters Tryz.func20 (by kernel_rfl) rfl u X) ?_
  refine Calls.mono (same1 _ _ _ (Rt.kr a 2) (Rt.kr a 2) (Un.below hv6 (Pl.Ex.trans hE8 (Pl.Ex.trans hE9 (Pl.Ex.trans hE10 (Pl.Ex.trans hE11 hE12))))) (Un.below hv8 (Pl.Ex.trans hE9 (Pl.Ex.trans hE10 (Pl.Ex.trans hE11 hE12)))) true (decide_eq_true rfl)) ?_
  rintro e w13 ⟨rfl, hE13⟩
  have sz13 := Pl.Ex.size hE13
  refine ⟨_, rfl, trivial, ?_⟩
  refine Pl.qA_go trivial rfl ?_
  refine Pl.pA_call rfl rfl rfl rfl rfl (fun u X => Pl.enters Tryz.func20 (by kernel_rfl) rfl u X) ?_
  refine Calls.mono (same1 _ _ _ (a - (Rt.kr a 2) * (Rt.kr a 2)) (a - (Rt.kr a 2) * (Rt.kr a 2)) (Un.below hv7 (Pl.Ex.trans hE8 (Pl.Ex.trans hE9 (Pl.Ex.trans hE10 (Pl.Ex.trans hE11 (Pl.Ex.trans hE12 hE13)))))) (Un.below hv9 (Pl.Ex.trans hE9 (Pl.Ex.trans hE10 (Pl.Ex.trans hE11 (Pl.Ex.trans hE12 hE13))))) true (decide_eq_true rfl)) ?_
  rintro e w14 ⟨rfl, hE14⟩
  have sz14 := Pl.Ex.size hE14
  refine ⟨_, rfl, trivial, ?_⟩
  refine Pl.qA_go trivial rfl ?_
  refine Pl.pA_call rfl rfl rfl rfl rfl (fun u X => Pl.enters Tryz.func20 (by kernel_rfl) rfl u X) ?_
  refine Calls.mono (same1 _ _ _ pb12 pb16 (Un.below hu11 (Pl.Ex.trans hE10 (Pl.Ex.trans hE11 (Pl.Ex.trans hE12 (Pl.Ex.trans hE13 hE14))))) (Un.below hu15 (Pl.Ex.trans hE11 (Pl.Ex.trans hE12 (Pl.Ex.trans hE13 hE14)))) true (decide_eq_true (pw_uniq hppb12 hppb16).1)) ?_
  rintro e w15 ⟨rfl, hE15⟩
  have sz15 := Pl.Ex.size hE15
  refine ⟨_, rfl, trivial, ?_⟩
  refine Pl.qA_go trivial rfl ?_
  have hf11_36 : pk13 = pk17 := (pw_uniq hppb12 hppb16).2
  refine Pl.qA_b (v := .bool true) (fun X => Pl.r_eql (Pl.e_t (by omega)) X) trivial rfl rfl rfl rfl rfl rfl ?_
  refine Pl.qA_go trivial rfl ?_
  have hbz19 : blen a ≤ 32 * 8 := Sn.blen la
  refine Pl.pA_call rfl rfl rfl rfl rfl (fun u X => Pl.enters Tryz.func21 (by kernel_rfl) rfl u X) ?_
  refine Calls.mono (is_calls _ _ a (Un.below hv1 (Pl.Ex.trans hE3 (Pl.Ex.trans hE4 (Pl.Ex.trans hE5 (Pl.Ex.trans hE6 (Pl.Ex.trans hE7 (Pl.Ex.trans hE8 (Pl.Ex.trans hE9 (Pl.Ex.trans hE10 (Pl.Ex.trans hE11 (Pl.Ex.trans hE12 (Pl.Ex.trans hE13 (Pl.Ex.trans hE14 hE15))))))))))))) (Sn.le la (by decide)) ((few : Nat) : Int) (fun j hj hlt => by omega)) ?_
  rintro e w16 ⟨r18, rfl, hr18, hE16⟩
  obtain rfl : r18 = false := by exact Bool.eq_false_iff.2 fun h => absurd (hr18.1 h).1 (by omega)
  have sz16 := Pl.Ex.size hE16
  refine ⟨_, rfl, trivial, ?_⟩
  refine Pl.qA_go trivial rfl ?_
  have hbz21 : blen a ≤ 32 * 8 := Sn.blen la
  refine Pl.pA_call rfl rfl rfl rfl rfl (fun u X => Pl.enters Tryz.func22 (by kernel_rfl) rfl u X) ?_
  refine Calls.mono (ris_calls _ _ a (Un.below hv1 (Pl.Ex.trans hE3 (Pl.Ex.trans hE4 (Pl.Ex.trans hE5 (Pl.Ex.trans hE6 (Pl.Ex.trans hE7 (Pl.Ex.trans hE8 (Pl.Ex.trans hE9 (Pl.Ex.trans hE10 (Pl.Ex.trans hE11 (Pl.Ex.trans hE12 (Pl.Ex.trans hE13 (Pl.Ex.trans hE14 (Pl.Ex.trans hE15 hE16)))))))))))))) (Sn.le la (by decide)) ((few : Nat) : Int) (fun j hj hlt => by omega)) ?_
  rintro e w17 ⟨r20, rfl, hr20, hE17⟩
  obtain rfl : r20 = false := by exact Bool.eq_false_iff.2 fun h => absurd (hr20.1 h).1 (by omega)
  have sz17 := Pl.Ex.size hE17
  refine ⟨_, rfl, trivial, ?_⟩
  refine Pl.qA_b (v := .bool true) (fun X => Pl.r_eqb Tryz.underlying4 (by decide) X) trivial rfl rfl rfl rfl rfl rfl ?_
  refine Pl.qA_go trivial rfl ?_
  by_cases c22 : 1 ≤ z ∧ Rt.isP a ((z).toNat)
  · have hbz24 : blen a ≤ 32 * 8 := Sn.blen la
    refine Pl.pA_call rfl rfl rfl rfl rfl (fun u X => Pl.enters Tryz.func21 (by kernel_rfl) rfl u X) ?_
    refine Calls.mono (is_calls _ _ a (Un.below hv1 (Pl.Ex.trans hE3 (Pl.Ex.trans hE4 (Pl.Ex.trans hE5 (Pl.Ex.trans hE6 (Pl.Ex.trans hE7 (Pl.Ex.trans hE8 (Pl.Ex.trans hE9 (Pl.Ex.trans hE10 (Pl.Ex.trans hE11 (Pl.Ex.trans hE12 (Pl.Ex.trans hE13 (Pl.Ex.trans hE14 (Pl.Ex.trans hE15 (Pl.Ex.trans hE16 hE17))))))))))))))) (Sn.le la (by decide)) z (fun j hj hlt => by omega)) ?_
    rintro e w18 ⟨r23, rfl, hr23, hE18⟩
    obtain rfl : r23 = true := by exact hr23.2 c22
    have sz18 := Pl.Ex.size hE18
    refine ⟨_, rfl, trivial, ?_⟩
    refine Pl.qA_go trivial rfl ?_
    have hbz26 : blen a ≤ 32 * 8 := Sn.blen la
    refine Pl.pA_call rfl rfl rfl rfl rfl (fun u X => Pl.enters Tryz.func22 (by kernel_rfl) rfl u X) ?_
    refine Calls.mono (ris_calls _ _ a (Un.below hv1 (Pl.Ex.trans hE3 (Pl.Ex.trans hE4 (Pl.Ex.trans hE5 (Pl.Ex.trans hE6 (Pl.Ex.trans hE7 (Pl.Ex.trans hE8 (Pl.Ex.trans hE9 (Pl.Ex.trans hE10 (Pl.Ex.trans hE11 (Pl.Ex.trans hE12 (Pl.Ex.trans hE13 (Pl.Ex.trans hE14 (Pl.Ex.trans hE15 (Pl.Ex.trans hE16 (Pl.Ex.trans hE17 hE18)))))))))))))))) (Sn.le la (by decide)) z (fun j hj hlt => by omega)) ?_
    rintro e w19 ⟨r25, rfl, hr25, hE19⟩
    obtain rfl : r25 = true := by exact hr25.2 c22
    have sz19 := Pl.Ex.size hE19
    refine ⟨_, rfl, trivial, ?_⟩
    refine Pl.qA_b (v := .bool true) (fun X => Pl.r_eqb Tryz.underlying4 (by decide) X) trivial rfl rfl rfl rfl rfl rfl ?_
    refine Pl.qA_go trivial rfl ?_
    refine Pl.pA_end ?_
    repeat refine Pl.V_seq ?_
    exact Pl.post_ret rfl rfl  (⟨rfl, (Pl.Ex.trans hE1 (Pl.Ex.trans hE2 (Pl.Ex.trans hE3 (Pl.Ex.trans hE4 (Pl.Ex.trans hE5 (Pl.Ex.trans hE6 (Pl.Ex.trans hE7 (Pl.Ex.trans hE8 (Pl.Ex.trans hE9 (Pl.Ex.trans hE10 (Pl.Ex.trans hE11 (Pl.Ex.trans hE12 (Pl.Ex.trans hE13 (Pl.Ex.trans hE14 (Pl.Ex.trans hE15 (Pl.Ex.trans hE16 (Pl.Ex.trans hE17 (Pl.Ex.trans hE18 hE19))))))))))))))))))⟩)
  · have hbz24 : blen a ≤ 32 * 8 := Sn.blen la
    refine Pl.pA_call rfl rfl rfl rfl rfl (fun u X => Pl.enters Tryz.func21 (by kernel_rfl) rfl u X) ?_
    refine Calls.mono (is_calls _ _ a (Un.below hv1 (Pl.Ex.trans hE3 (Pl.Ex.trans hE4 (Pl.Ex.trans hE5 (Pl.Ex.trans hE6 (Pl.Ex.trans hE7 (Pl.Ex.trans hE8 (Pl.Ex.trans hE9 (Pl.Ex.trans hE10 (Pl.Ex.trans hE11 (Pl.Ex.trans hE12 (Pl.Ex.trans hE13 (Pl.Ex.trans hE14 (Pl.Ex.trans hE15 (Pl.Ex.trans hE16 hE17))))))))))))))) (Sn.le la (by decide)) z (fun j hj hlt => by omega)) ?_
    rintro e w18 ⟨r23, rfl, hr23, hE18⟩
    obtain rfl : r23 = false := by exact Bool.eq_false_iff.2 fun h => c22 (hr23.1 h)
    have sz18 := Pl.Ex.size hE18
    refine ⟨_, rfl, trivial, ?_⟩
    refine Pl.qA_go trivial rfl ?_
    have hbz26 : blen a ≤ 32 * 8 := Sn.blen la
    refine Pl.pA_call rfl rfl rfl rfl rfl (fun u X => Pl.enters Tryz.func22 (by kernel_rfl) rfl u X) ?_
    refine Calls.mono (ris_calls _ _ a (Un.below hv1 (Pl.Ex.trans hE3 (Pl.Ex.trans hE4 (Pl.Ex.trans hE5 (Pl.Ex.trans hE6 (Pl.Ex.trans hE7 (Pl.Ex.trans hE8 (Pl.Ex.trans hE9 (Pl.Ex.trans hE10 (Pl.Ex.trans hE11 (Pl.Ex.trans hE12 (Pl.Ex.trans hE13 (Pl.Ex.trans hE14 (Pl.Ex.trans hE15 (Pl.Ex.trans hE16 (Pl.Ex.trans hE17 hE18)))))))))))))))) (Sn.le la (by decide)) z (fun j hj hlt => by omega)) ?_
    rintro e w19 ⟨r25, rfl, hr25, hE19⟩
    obtain rfl : r25 = false := by exact Bool.eq_false_iff.2 fun h => c22 (hr25.1 h)
    have sz19 := Pl.Ex.size hE19
    refine ⟨_, rfl, trivial, ?_⟩
    refine Pl.qA_b (v := .bool true) (fun X => Pl.r_eqb Tryz.underlying4 (by decide) X) trivial rfl rfl rfl rfl rfl rfl ?_
    refine Pl.qA_go trivial rfl ?_
    refine Pl.pA_end ?_
    repeat refine Pl.V_seq ?_
    exact Pl.post_ret rfl rfl  (⟨rfl, (Pl.Ex.trans hE1 (Pl.Ex.trans hE2 (Pl.Ex.trans hE3 (Pl.Ex.trans hE4 (Pl.Ex.trans hE5 (Pl.Ex.trans hE6 (Pl.Ex.trans hE7 (Pl.Ex.trans hE8 (Pl.Ex.trans hE9 (Pl.Ex.trans hE10 (Pl.Ex.trans hE11 (Pl.Ex.trans hE12 (Pl.Ex.trans hE13 (Pl.Ex.trans hE14 (Pl.Ex.trans hE15 (Pl.Ex.trans hE16 (Pl.Ex.trans hE17 (Pl.Ex.trans hE18 hE19))))))))))))))))))⟩)
theorem RootTells_10 (w : World) (r0 : Value) (xa : List Nat) (u0 : U w r0 xa) (z : Int) (n : Nat) (hn : n < 256) (hbad : (z < 1 ∨ 1000000 < z)) (hf : ¬ n % 40 < 1) :
    Calls Tryz.prog 3 #[r0, .int .i64 z, .int .u8 ((n : Nat) : Int)] w fun e w' => e = .returned (.bool true) ∧ Ext w w' := by
  obtain ⟨a, da⟩ : ∃ q, cutN xa 8 = q := ⟨_, rfl⟩
  have la : Sn a 8 := by rw [← da]; exact len_of (cut_lt xa 8 u0.lim)
  have ba : blen a ≤ 32 * 8 := Sn.blen la
  have hfw := hf
  obtain ⟨few, qfew⟩ : ∃ q, n % 40 = q := ⟨_, rfl⟩
  have gfew : few < 40 := by omega
  refine Pl.calls_by (n := 135) (vs := [r0, .int .i64 z, .int .u8 ((n : Nat) : Int)]) Tryz.func3 rfl (by kernel_rfl) (by simp) ?_
  repeat refine Pl.V_seq ?_
  refine Pl.V_region (by kernel_rfl) ?_
  refine Pl.qA_go trivial rfl ?_
  refine Pl.pA_end ?_
  repeat refine Pl.V_seq ?_
  refine Pl.V_region (by kernel_rfl) ?_
  refine Pl.pA_call rfl rfl rfl rfl rfl (fun u X => Pl.enters Tryz.func12 (by kernel_rfl) rfl u X) ?_
  refine Calls.mono (head8 _) ?_
  rintro e w1 ⟨rfl, hE1⟩
  have sz1 := Pl.Ex.size hE1
  refine ⟨_, rfl, trivial, ?_⟩
  refine Pl.qA_go trivial rfl ?_
  refine Pl.pA_end ?_
  repeat refine Pl.V_seq ?_
  refine Pl.V_region (by kernel_rfl) ?_
  refine Pl.qA_go trivial rfl ?_
  refine Pl.pA_call rfl rfl rfl rfl rfl (fun u X => Pl.enters Tryz.func13 (by kernel_rfl) rfl u X) ?_
  refine Calls.mono (made_B _ _ xa 8 (U.below u0 hE1) (by decide) (by decide) a da) ?_
  rintro e w2 ⟨v1, rfl, hv1, hE2⟩
  have sz2 := Pl.Ex.size hE2
  refine ⟨_, rfl, trivial, ?_⟩
  refine Pl.qA_go trivial rfl ?_
  refine Pl.qA_cv (c := ((n : Nat) : Int)) Tryz.underlying3 (by kernel_rfl) (Pl.c_id (a := n) rfl (Pl.w64 (by omega) (by omega))) trivial rfl rfl rfl rfl rfl ?_
  refine Pl.qA_b (v := .int .i64 ((few : Nat) : Int)) (fun X => Pl.Bn.as (nb_rem_i64 (a := n) (b := 40) (by omega) (by omega)) (by rw [qfew]) X) trivial rfl rfl rfl rfl rfl rfl ?_
  refine Pl.qA_go trivial rfl ?_
  refine Pl.pA_end ?_
  repeat refine Pl.V_seq ?_
  refine Pl.V_region (by kernel_rfl) ?_
  refine Pl.qA_go trivial rfl ?_
  have hbz2 : blen a ≤ 32 * 8 := Sn.blen la
  refine Pl.pA_call rfl rfl rfl rfl rfl (fun u X => Pl.enters Tryz.func14 (by kernel_rfl) rfl u X) ?_
  refine Calls.mono (root_N _ _ a hv1 (Sn.le la (by decide)) few (by omega) (by omega) (fun j hj hlt => by omega)) ?_
  rintro e w3 ⟨v3, rfl, hv3, hE3⟩
  have sz3 := Pl.Ex.size hE3
  refine ⟨_, rfl, trivial, ?_⟩
  refine Pl.qA_go trivial rfl ?_
  refine Pl.pA_end ?_
  repeat refine Pl.V_seq ?_
  refine Pl.V_region (by kernel_rfl) ?_
  refine Pl.qA_go trivial rfl ?_
  refine Pl.pA_call rfl rfl rfl rfl rfl (fun u X => Pl.enters Tryz.func15 (by kernel_rfl) rfl u X) ?_
  refine Calls.mono (rroot_N _ _ a (Un.below hv1 hE3) (Sn.le la (by decide)) few (by omega) (by omega)) ?_
  rintro e w4 ⟨v4, rfl, hv4, hE4⟩
  have sz4 := Pl.Ex.size hE4
  refine ⟨_, rfl, trivial, ?_⟩
  refine Pl.qA_go trivial rfl ?_
  refine Pl.pA_end ?_
  repeat refine Pl.V_seq ?_
  refine Pl.V_region (by kernel_rfl) ?_
  refine Pl.qA_go trivial rfl ?_
  have hbz5 : blen a ≤ 32 * 8 := Sn.blen la
  refine Pl.pA_call rfl rfl rfl rfl rfl (fun u X => Pl.enters Tryz.func14 (by kernel_rfl) rfl u X) ?_
  refine Calls.mono (root_bad _ _ a (Un.below hv1 (Pl.Ex.trans hE3 hE4)) (Sn.le la (by decide)) z hbad (fun j hj hlt => by omega)) ?_
  rintro e w5 ⟨rfl, hE5⟩
  have sz5 := Pl.Ex.size hE5
  refine ⟨_, rfl, trivial, ?_⟩
  refine Pl.qA_go trivial rfl ?_
  refine Pl.pA_end ?_
  repeat refine Pl.V_seq ?_
  refine Pl.V_region (by kernel_rfl) ?_
  refine Pl.qA_go trivial rfl ?_
  have hbz6 : blen a ≤ 32 * 8 := Sn.blen la
  refine Pl.pA_call rfl rfl rfl rfl rfl (fun u X => Pl.enters Tryz.func15 (by kernel_rfl) rfl u X) ?_
  refine Calls.mono (rroot_bad _ _ a (Un.below hv1 (Pl.Ex.trans hE3 (Pl.Ex.trans hE4 hE5))) (Sn.le la (by decide)) z hbad (fun j hj hlt => by omega)) ?_
  rintro e w6 ⟨rfl, hE6⟩
  have sz6 := Pl.Ex.size hE6
  refine ⟨_, rfl, trivial, ?_⟩
  refine Pl.qA_go trivial rfl ?_
  refine Pl.pA_end ?_
  repeat refine Pl.V_seq ?_
  refine Pl.V_region (by kernel_rfl) ?_
  refine Pl.qA_go trivial rfl ?_
  refine Pl.pA_call rfl rfl rfl rfl rfl (fun u X => Pl.enters Tryz.func16 (by kernel_rfl) rfl u X) ?_
  refine Calls.mono (sqrt_calls a _ _ (Un.below hv1 (Pl.Ex.trans hE3 (Pl.Ex.trans hE4 (Pl.Ex.trans hE5 hE6)))) (Sn.le la (by decide))) ?_
  rintro e w7 ⟨v7, v8, rfl, hv7, hv8, hE7⟩
  have sz7 := Pl.Ex.size hE7
  refine ⟨_, rfl, trivial, ?_⟩
  refine Pl.qA_go trivial rfl ?_
  refine Pl.pA_end ?_
  repeat refine Pl.V_seq ?_
  refine Pl.V_region (by kernel_rfl) ?_
  refine Pl.qA_go trivial rfl ?_
  refine Pl.pA_call rfl rfl rfl rfl rfl (fun u X => Pl.enters Tryz.func17 (by kernel_rfl) rfl u X) ?_
  refine Calls.mono (rsqrt_calls _ _ a (Un.below hv1 (Pl.Ex.trans hE3 (Pl.Ex.trans hE4 (Pl.Ex.trans hE5 (Pl.Ex.trans hE6 hE7))))) (Sn.le la (by decide))) ?_
  rintro e w8 ⟨v9, v10, rfl, hv9, hv10, hE8⟩
  have sz8 := Pl.Ex.size hE8
  refine ⟨_, rfl, trivial, ?_⟩
  refine Pl.qA_go trivial rfl ?_
  refine Pl.pA_end ?_
  repeat refine Pl.V_seq ?_
  refine Pl.V_region (by kernel_rfl) ?_
  refine Pl.qA_go trivial rfl ?_
  have hbz11 : blen a ≤ 32 * 8 := Sn.blen la
  refine Pl.pA_call rfl rfl rfl rfl rfl (fun u X => Pl.enters Tryz.func18 (by kernel_rfl) rfl u X) ?_
  refine Calls.mono (power_all _ _ a (Un.below hv1 (Pl.Ex.trans hE3 (Pl.Ex.trans hE4 (Pl.Ex.trans hE5 (Pl.Ex.trans hE6 (Pl.Ex.trans hE7 hE8)))))) (Sn.le la (by decide)) (by omega)) ?_
  rintro e w9 ⟨u12, pb13, pk14, rfl, hu12, hppb13, hE9⟩
  have lpb13 := Sn.down la (pw_le hppb13)
  have qpk14 := pw_k hppb13
  have sz9 := Pl.Ex.size hE9
  refine ⟨_, rfl, trivial, ?_⟩
  refine Pl.qA_go trivial rfl ?_
  refine Pl.pA_end ?_
  repeat refine Pl.V_seq ?_
  refine Pl.V_region (by kernel_rfl) ?_
  refine Pl.qA_go trivial rfl ?_
  have hbz15 : blen a ≤ 32 * 8 := Sn.blen la
  refine Pl.pA_call rfl rfl rfl rfl rfl (fun u X => Pl.enters Tryz.func19 (by kernel_rfl) rfl u X) ?_
  refine Calls.mono (rpower_calls _ _ a (Un.below hv1 (Pl.Ex.trans hE3 (Pl.Ex.trans hE4 (Pl.Ex.trans hE5 (Pl.Ex.trans hE6 (Pl.Ex.trans hE7 (Pl.Ex.trans hE8 hE9))))))) (Sn.le la (by decide)) (by omega)) ?_
  rintro e w10 ⟨u16, pb17, pk18, rfl, hu16, hppb17, hE10⟩
  have lpb17 := Sn.down la (pw_le hppb17)
  have qpk18 := pw_k hppb17
  have sz10 := Pl.Ex.size hE10
  refine ⟨_, rfl, trivial, ?_⟩
  refine Pl.qA_go trivial rfl ?_
  refine Pl.pA_end ?_
  repeat refine Pl.V_seq ?_
  refine Pl.V_region (by kernel_rfl) ?_
  refine Pl.qA_go trivial rfl ?_
  refine Pl.pA_call rfl rfl rfl rfl rfl (fun u X => Pl.enters Tryz.func20 (by kernel_rfl) rfl u X) ?_
  refine Calls.mono (same1 _ _ _ (Rt.kr a few) (Rt.kr a few) (Un.below hv3 (Pl.Ex.trans hE4 (Pl.Ex.trans hE5 (Pl.Ex.trans hE6 (Pl.Ex.trans hE7 (Pl.Ex.trans hE8 (Pl.Ex.trans hE9 hE10))))))) (Un.below hv4 (Pl.Ex.trans hE5 (Pl.Ex.trans hE6 (Pl.Ex.trans hE7 (Pl.Ex.trans hE8 (Pl.Ex.trans hE9 hE10)))))) true (decide_eq_true rfl)) ?_
  rintro e w11 ⟨rfl, hE11⟩
  have sz11 := Pl.Ex.size hE11
  refine ⟨_, rfl, trivial, ?_⟩
  refine Pl.qA_go trivial rfl ?_
  refine Pl.qA_b (v := .bool true) (fun X => Pl.r_eql (Pl.e_t (by omega)) X) trivial rfl rfl rfl rfl rfl rfl ?_
  refine Pl.qA_go trivial rfl ?_
  refine Pl.pA_call rfl rfl rfl rfl rfl (fun u X => Pl.enters Tryz.func20 (by kernel_rfl) rfl u X) ?_
  refine Calls.mono (same1 _ _ _ 0 0 (Un_nil _) (Un_nil _) true (decide_eq_true rfl)) ?_
  rintro e w12 ⟨rfl, hE12⟩
  have sz12 := Pl.Ex.size hE12
  refine ⟨_, rfl, trivial, ?_⟩
  refine Pl.qA_go trivial rfl ?_
  refine Pl.qA_b (v := .bool true) (fun X => Pl.r_eql (Pl.e_t (by omega)) X) trivial rfl rfl rfl rfl rfl rfl ?_
  refine Pl.qA_go trivial rfl ?_
  refine Pl.pA_call rfl rfl rfl rfl rfl (fun u X => Pl.enters Tryz.func20 (by kernel_rfl) rfl u X) ?_
  refine Calls.mono (same1 _ _ _ (Rt.kr a 2) (Rt.kr a 2) (Un.below hv7 (Pl.Ex.trans hE8 (Pl.Ex.trans hE9 (Pl.Ex.trans hE10 (Pl.Ex.trans hE11 hE12))))) (Un.below hv9 (Pl.Ex.trans hE9 (Pl.Ex.trans hE10 (Pl.Ex.trans hE11 hE12)))) true (decide_eq_true rfl)) ?_
  rintro e w13 ⟨rfl, hE13⟩
  have sz13 := Pl.Ex.size hE13
  refine ⟨_, rfl, trivial, ?_⟩
  refine Pl.qA_go trivial rfl ?_
  refine Pl.pA_call rfl rfl rfl rfl rfl (fun u X => Pl.enters Tryz.func20 (by kernel_rfl) rfl u X) ?_
  refine Calls.mono (same1 _ _ _ (a - (Rt.kr a 2) * (Rt.kr a 2)) (a - (Rt.kr a 2) * (Rt.kr a 2)) (Un.below hv8 (Pl.Ex.trans hE8 (Pl.Ex.trans hE9 (Pl.Ex.trans hE10 (Pl.Ex.trans hE11 (Pl.Ex.trans hE12 hE13)))))) (Un.below hv10 (Pl.Ex.trans hE9 (Pl.Ex.trans hE10 (Pl.Ex.trans hE11 (Pl.Ex.trans hE12 hE13))))) true (decide_eq_true rfl)) ?_
  rintro e w14 ⟨rfl, hE14⟩
  have sz14 := Pl.Ex.size hE14
  refine ⟨_, rfl, trivial, ?_⟩
  refine Pl.qA_go trivial rfl ?_
  refine Pl.pA_call rfl rfl rfl rfl rfl (fun u X => Pl.enters Tryz.func20 (by kernel_rfl) rfl u X) ?_
  refine Calls.mono (same1 _ _ _ pb13 pb17 (Un.below hu12 (Pl.Ex.trans hE10 (Pl.Ex.trans hE11 (Pl.Ex.trans hE12 (Pl.Ex.trans hE13 hE14))))) (Un.below hu16 (Pl.Ex.trans hE11 (Pl.Ex.trans hE12 (Pl.Ex.trans hE13 hE14)))) true (decide_eq_true (pw_uniq hppb13 hppb17).1)) ?_
  rintro e w15 ⟨rfl, hE15⟩
  have sz15 := Pl.Ex.size hE15
  refine ⟨_, rfl, trivial, ?_⟩
  refine Pl.qA_go trivial rfl ?_
  have hf11_36 : pk14 = pk18 := (pw_uniq hppb13 hppb17).2
  refine Pl.qA_b (v := .bool true) (fun X => Pl.r_eql (Pl.e_t (by omega)) X) trivial rfl rfl rfl rfl rfl rfl ?_
  refine Pl.qA_go trivial rfl ?_
  by_cases c19 : Rt.isP a few
  · have hbz21 : blen a ≤ 32 * 8 := Sn.blen la
    refine Pl.pA_call rfl rfl rfl rfl rfl (fun u X => Pl.enters Tryz.func21 (by kernel_rfl) rfl u X) ?_
    refine Calls.mono (is_calls _ _ a (Un.below hv1 (Pl.Ex.trans hE3 (Pl.Ex.trans hE4 (Pl.Ex.trans hE5 (Pl.Ex.trans hE6 (Pl.Ex.trans hE7 (Pl.Ex.trans hE8 (Pl.Ex.trans hE9 (Pl.Ex.trans hE10 (Pl.Ex.trans hE11 (Pl.Ex.trans hE12 (Pl.Ex.trans hE13 (Pl.Ex.trans hE14 hE15))))))))))))) (Sn.le la (by decide)) ((few : Nat) : Int) (fun j hj hlt => by omega)) ?_
    rintro e w16 ⟨r20, rfl, hr20, hE16⟩
    obtain rfl : r20 = true := by exact hr20.2 ⟨by omega, c19⟩
    have sz16 := Pl.Ex.size hE16
    refine ⟨_, rfl, trivial, ?_⟩
    refine Pl.qA_go trivial rfl ?_
    have hbz23 : blen a ≤ 32 * 8 := Sn.blen la
    refine Pl.pA_call rfl rfl rfl rfl rfl (fun u X => Pl.enters Tryz.func22 (by kernel_rfl) rfl u X) ?_
    refine Calls.mono (ris_calls _ _ a (Un.below hv1 (Pl.Ex.trans hE3 (Pl.Ex.trans hE4 (Pl.Ex.trans hE5 (Pl.Ex.trans hE6 (Pl.Ex.trans hE7 (Pl.Ex.trans hE8 (Pl.Ex.trans hE9 (Pl.Ex.trans hE10 (Pl.Ex.trans hE11 (Pl.Ex.trans hE12 (Pl.Ex.trans hE13 (Pl.Ex.trans hE14 (Pl.Ex.trans hE15 hE16)))))))))))))) (Sn.le la (by decide)) ((few : Nat) : Int) (fun j hj hlt => by omega)) ?_
    rintro e w17 ⟨r22, rfl, hr22, hE17⟩
    obtain rfl : r22 = true := by exact hr22.2 ⟨by omega, c19⟩
    have sz17 := Pl.Ex.size hE17
    refine ⟨_, rfl, trivial, ?_⟩
    refine Pl.qA_b (v := .bool true) (fun X => Pl.r_eqb Tryz.underlying4 (by decide) X) trivial rfl rfl rfl rfl rfl rfl ?_
    refine Pl.qA_go trivial rfl ?_
    by_cases c24 : 1 ≤ z ∧ Rt.isP a ((z).toNat)
    · have hbz26 : blen a ≤ 32 * 8 := Sn.blen la
      refine Pl.pA_call rfl rfl rfl rfl rfl (fun u X => Pl.enters Tryz.func21 (by kernel_rfl) rfl u X) ?_
      refine Calls.mono (is_calls _ _ a (Un.below hv1 (Pl.Ex.trans hE3 (Pl.Ex.trans hE4 (Pl.Ex.trans hE5 (Pl.Ex.trans hE6 (Pl.Ex.trans hE7 (Pl.Ex.trans hE8 (Pl.Ex.trans hE9 (Pl.Ex.trans hE10 (Pl.Ex.trans hE11 (Pl.Ex.trans hE12 (Pl.Ex.trans hE13 (Pl.Ex.trans hE14 (Pl.Ex.trans hE15 (Pl.Ex.trans hE16 hE17))))))))))))))) (Sn.le la (by decide)) z (fun j hj hlt => by omega)) ?_
      rintro e w18 ⟨r25, rfl, hr25, hE18⟩
      obtain rfl : r25 = true := by exact hr25.2 c24
      have sz18 := Pl.Ex.size hE18
      refine ⟨_, rfl, trivial, ?_⟩
      refine Pl.qA_go trivial rfl ?_
      have hbz28 : blen a ≤ 32 * 8 := Sn.blen la
      refine Pl.pA_call rfl rfl rfl rfl rfl (fun u X => Pl.enters Tryz.func22 (by kernel_rfl) rfl u X) ?_
      refine Calls.mono (ris_calls _ _ a (Un.below hv1 (Pl.Ex.trans hE3 (Pl.Ex.trans hE4 (Pl.Ex.trans hE5 (Pl.Ex.trans hE6 (Pl.Ex.trans hE7 (Pl.Ex.trans hE8 (Pl.Ex.trans hE9 (Pl.Ex.trans hE10 (Pl.Ex.trans hE11 (Pl.Ex.trans hE12 (Pl.Ex.trans hE13 (Pl.Ex.trans hE14 (Pl.Ex.trans hE15 (Pl.Ex.trans hE16 (Pl.Ex.trans hE17 hE18)))))))))))))))) (Sn.le la (by decide)) z (fun j hj hlt => by omega)) ?_
      rintro e w19 ⟨r27, rfl, hr27, hE19⟩
      obtain rfl : r27 = true := by exact hr27.2 c24
      have sz19 := Pl.Ex.size hE19
      refine ⟨_, rfl, trivial, ?_⟩
      refine Pl.qA_b (v := .bool true) (fun X => Pl.r_eqb Tryz.underlying4 (by decide) X) trivial rfl rfl rfl rfl rfl rfl ?_
      refine Pl.qA_go trivial rfl ?_
      refine Pl.pA_end ?_
      repeat refine Pl.V_seq ?_
      exact Pl.post_ret rfl rfl  (⟨rfl, (Pl.Ex.trans hE1 (Pl.Ex.trans hE2 (Pl.Ex.trans hE3 (Pl.Ex.trans hE4 (Pl.Ex.trans hE5 (Pl.Ex.trans hE6 (Pl.Ex.trans hE7 (Pl.Ex.trans hE8 (Pl.Ex.trans hE9 (Pl.Ex.trans hE10 (Pl.Ex.trans hE11 (Pl.Ex.trans hE12 (Pl.Ex.trans hE13 (Pl.Ex.trans hE14 (Pl.Ex.trans hE15 (Pl.Ex.trans hE16 (Pl.Ex.trans hE17 (Pl.Ex.trans hE18 hE19))))))))))))))))))⟩)
    · have hbz26 : blen a ≤ 32 * 8 := Sn.blen la
      refine Pl.pA_call rfl rfl rfl rfl rfl (fun u X => Pl.enters Tryz.func21 (by kernel_rfl) rfl u X) ?_
      refine Calls.mono (is_calls _ _ a (Un.below hv1 (Pl.Ex.trans hE3 (Pl.Ex.trans hE4 (Pl.Ex.trans hE5 (Pl.Ex.trans hE6 (Pl.Ex.trans hE7 (Pl.Ex.trans hE8 (Pl.Ex.trans hE9 (Pl.Ex.trans hE10 (Pl.Ex.trans hE11 (Pl.Ex.trans hE12 (Pl.Ex.trans hE13 (Pl.Ex.trans hE14 (Pl.Ex.trans hE15 (Pl.Ex.trans hE16 hE17))))))))))))))) (Sn.le la (by decide)) z (fun j hj hlt => by omega)) ?_
      rintro e w18 ⟨r25, rfl, hr25, hE18⟩
      obtain rfl : r25 = false := by exact Bool.eq_false_iff.2 fun h => c24 (hr25.1 h)
      have sz18 := Pl.Ex.size hE18
      refine ⟨_, rfl, trivial, ?_⟩
      refine Pl.qA_go trivial rfl ?_
      have hbz28 : blen a ≤ 32 * 8 := Sn.blen la
      refine Pl.pA_call rfl rfl rfl rfl rfl (fun u X => Pl.enters Tryz.func22 (by kernel_rfl) rfl u X) ?_
      refine Calls.mono (ris_calls _ _ a (Un.below hv1 (Pl.Ex.trans hE3 (Pl.Ex.trans hE4 (Pl.Ex.trans hE5 (Pl.Ex.trans hE6 (Pl.Ex.trans hE7 (Pl.Ex.trans hE8 (Pl.Ex.trans hE9 (Pl.Ex.trans hE10 (Pl.Ex.trans hE11 (Pl.Ex.trans hE12 (Pl.Ex.trans hE13 (Pl.Ex.trans hE14 (Pl.Ex.trans hE15 (Pl.Ex.trans hE16 (Pl.Ex.trans hE17 hE18)))))))))))))))) (Sn.le la (by decide)) z (fun j hj hlt => by omega)) ?_
      rintro e w19 ⟨r27, rfl, hr27, hE19⟩
      obtain rfl : r27 = false := by exact Bool.eq_false_iff.2 fun h => c24 (hr27.1 h)
      have sz19 := Pl.Ex.size hE19
      refine ⟨_, rfl, trivial, ?_⟩
      refine Pl.qA_b (v := .bool true) (fun X => Pl.r_eqb Tryz.underlying4 (by decide) X) trivial rfl rfl rfl rfl rfl rfl ?_
      refine Pl.qA_go trivial rfl ?_
      refine Pl.pA_end ?_
      repeat refine Pl.V_seq ?_
      exact Pl.post_ret rfl rfl  (⟨rfl, (Pl.Ex.trans hE1 (Pl.Ex.trans hE2 (Pl.Ex.trans hE3 (Pl.Ex.trans hE4 (Pl.Ex.trans hE5 (Pl.Ex.trans hE6 (Pl.Ex.trans hE7 (Pl.Ex.trans hE8 (Pl.Ex.trans hE9 (Pl.Ex.trans hE10 (Pl.Ex.trans hE11 (Pl.Ex.trans hE12 (Pl.Ex.trans hE13 (Pl.Ex.trans hE14 (Pl.Ex.trans hE15 (Pl.Ex.trans hE16 (Pl.Ex.trans hE17 (Pl.Ex.trans hE18 hE19))))))))))))))))))⟩)
  · have hbz21 : blen a ≤ 32 * 8 := Sn.blen la
    refine Pl.pA_call rfl rfl rfl rfl rfl (fun u X => Pl.enters Tryz.func21 (by kernel_rfl) rfl u X) ?_
    refine Calls.mono (is_calls _ _ a (Un.below hv1 (Pl.Ex.trans hE3 (Pl.Ex.trans hE4 (Pl.Ex.trans hE5 (Pl.Ex.trans hE6 (Pl.Ex.trans hE7 (Pl.Ex.trans hE8 (Pl.Ex.trans hE9 (Pl.Ex.trans hE10 (Pl.Ex.trans hE11 (Pl.Ex.trans hE12 (Pl.Ex.trans hE13 (Pl.Ex.trans hE14 hE15))))))))))))) (Sn.le la (by decide)) ((few : Nat) : Int) (fun j hj hlt => by omega)) ?_
    rintro e w16 ⟨r20, rfl, hr20, hE16⟩
    obtain rfl : r20 = false := by exact Bool.eq_false_iff.2 fun h => c19 (hr20.1 h).2
    have sz16 := Pl.Ex.size hE16
    refine ⟨_, rfl, trivial, ?_⟩
    refine Pl.qA_go trivial rfl ?_
    have hbz23 : blen a ≤ 32 * 8 := Sn.blen la
    refine Pl.pA_call rfl rfl rfl rfl rfl (fun u X => Pl.enters Tryz.func22 (by kernel_rfl) rfl u X) ?_
    refine Calls.mono (ris_calls _ _ a (Un.below hv1 (Pl.Ex.trans hE3 (Pl.Ex.trans hE4 (Pl.Ex.trans hE5 (Pl.Ex.trans hE6 (Pl.Ex.trans hE7 (Pl.Ex.trans hE8 (Pl.Ex.trans hE9 (Pl.Ex.trans hE10 (Pl.Ex.trans hE11 (Pl.Ex.trans hE12 (Pl.Ex.trans hE13 (Pl.Ex.trans hE14 (Pl.Ex.trans hE15 hE16)))))))))))))) (Sn.le la (by decide)) ((few : Nat) : Int) (fun j hj hlt => by omega)) ?_
    rintro e w17 ⟨r22, rfl, hr22, hE17⟩
    obtain rfl : r22 = false := by exact Bool.eq_false_iff.2 fun h => c19 (hr22.1 h).2
    have sz17 := Pl.Ex.size hE17
    refine ⟨_, rfl, trivial, ?_⟩
    refine Pl.qA_b (v := .bool true) (fun X => Pl.r_eqb Tryz.underlying4 (by decide) X) trivial rfl rfl rfl rfl rfl rfl ?_
    refine Pl.qA_go trivial rfl ?_
    by_cases c24 : 1 ≤ z ∧ Rt.isP a ((z).toNat)
    · have hbz26 : blen a ≤ 32 * 8 := Sn.blen la
      refine Pl.pA_call rfl rfl rfl rfl rfl (fun u X => Pl.enters Tryz.func21 (by kernel_rfl) rfl u X) ?_
      refine Calls.mono (is_calls _ _ a (Un.below hv1 (Pl.Ex.trans hE3 (Pl.Ex.trans hE4 (Pl.Ex.trans hE5 (Pl.Ex.trans hE6 (Pl.Ex.trans hE7 (Pl.Ex.trans hE8 (Pl.Ex.trans hE9 (Pl.Ex.trans hE10 (Pl.Ex.trans hE11 (Pl.Ex.trans hE12 (Pl.Ex.trans hE13 (Pl.Ex.trans hE14 (Pl.Ex.trans hE15 (Pl.Ex.trans hE16 hE17))))))))))))))) (Sn.le la (by decide)) z (fun j hj hlt => by omega)) ?_
      rintro e w18 ⟨r25, rfl, hr25, hE18⟩
      obtain rfl : r25 = true := by exact hr25.2 c24
      have sz18 := Pl.Ex.size hE18
      refine ⟨_, rfl, trivial, ?_⟩
      refine Pl.qA_go trivial rfl ?_
      have hbz28 : blen a ≤ 32 * 8 := Sn.blen la
      refine Pl.pA_call rfl rfl rfl rfl rfl (fun u X => Pl.enters Tryz.func22 (by kernel_rfl) rfl u X) ?_
      refine Calls.mono (ris_calls _ _ a (Un.below hv1 (Pl.Ex.trans hE3 (Pl.Ex.trans hE4 (Pl.Ex.trans hE5 (Pl.Ex.trans hE6 (Pl.Ex.trans hE7 (Pl.Ex.trans hE8 (Pl.Ex.trans hE9 (Pl.Ex.trans hE10 (Pl.Ex.trans hE11 (Pl.Ex.trans hE12 (Pl.Ex.trans hE13 (Pl.Ex.trans hE14 (Pl.Ex.trans hE15 (Pl.Ex.trans hE16 (Pl.Ex.trans hE17 hE18)))))))))))))))) (Sn.le la (by decide)) z (fun j hj hlt => by omega)) ?_
      rintro e w19 ⟨r27, rfl, hr27, hE19⟩
      obtain rfl : r27 = true := by exact hr27.2 c24
      have sz19 := Pl.Ex.size hE19
      refine ⟨_, rfl, trivial, ?_⟩
      refine Pl.qA_b (v := .bool true) (fun X => Pl.r_eqb Tryz.underlying4 (by decide) X) trivial rfl rfl rfl rfl rfl rfl ?_
      refine Pl.qA_go trivial rfl ?_
      refine Pl.pA_end ?_
      repeat refine Pl.V_seq ?_
      exact Pl.post_ret rfl rfl  (⟨rfl, (Pl.Ex.trans hE1 (Pl.Ex.trans hE2 (Pl.Ex.trans hE3 (Pl.Ex.trans hE4 (Pl.Ex.trans hE5 (Pl.Ex.trans hE6 (Pl.Ex.trans hE7 (Pl.Ex.trans hE8 (Pl.Ex.trans hE9 (Pl.Ex.trans hE10 (Pl.Ex.trans hE11 (Pl.Ex.trans hE12 (Pl.Ex.trans hE13 (Pl.Ex.trans hE14 (Pl.Ex.trans hE15 (Pl.Ex.trans hE16 (Pl.Ex.trans hE17 (Pl.Ex.trans hE18 hE19))))))))))))))))))⟩)
    · have hbz26 : blen a ≤ 32 * 8 := Sn.blen la
      refine Pl.pA_call rfl rfl rfl rfl rfl (fun u X => Pl.enters Tryz.func21 (by kernel_rfl) rfl u X) ?_
      refine Calls.mono (is_calls _ _ a (Un.below hv1 (Pl.Ex.trans hE3 (Pl.Ex.trans hE4 (Pl.Ex.trans hE5 (Pl.Ex.trans hE6 (Pl.Ex.trans hE7 (Pl.Ex.trans hE8 (Pl.Ex.trans hE9 (Pl.Ex.trans hE10 (Pl.Ex.trans hE11 (Pl.Ex.trans hE12 (Pl.Ex.trans hE13 (Pl.Ex.trans hE14 (Pl.Ex.trans hE15 (Pl.Ex.trans hE16 hE17))))))))))))))) (Sn.le la (by decide)) z (fun j hj hlt => by omega)) ?_
      rintro e w18 ⟨r25, rfl, hr25, hE18⟩
      obtain rfl : r25 = false := by exact Bool.eq_false_iff.2 fun h => c24 (hr25.1 h)
      have sz18 := Pl.Ex.size hE18
      refine ⟨_, rfl, trivial, ?_⟩
      refine Pl.qA_go trivial rfl ?_
      have hbz28 : blen a ≤ 32 * 8 := Sn.blen la
      refine Pl.pA_call rfl rfl rfl rfl rfl (fun u X => Pl.enters Tryz.func22 (by kernel_rfl) rfl u X) ?_
      refine Calls.mono (ris_calls _ _ a (Un.below hv1 (Pl.Ex.trans hE3 (Pl.Ex.trans hE4 (Pl.Ex.trans hE5 (Pl.Ex.trans hE6 (Pl.Ex.trans hE7 (Pl.Ex.trans hE8 (Pl.Ex.trans hE9 (Pl.Ex.trans hE10 (Pl.Ex.trans hE11 (Pl.Ex.trans hE12 (Pl.Ex.trans hE13 (Pl.Ex.trans hE14 (Pl.Ex.trans hE15 (Pl.Ex.trans hE16 (Pl.Ex.trans hE17 hE18)))))))))))))))) (Sn.le la (by decide)) z (fun j hj hlt => by omega)) ?_
      rintro e w19 ⟨r27, rfl, hr27, hE19⟩
      obtain rfl : r27 = false := by exact Bool.eq_false_iff.2 fun h => c24 (hr27.1 h)
      have sz19 := Pl.Ex.size hE19
      refine ⟨_, rfl, trivial, ?_⟩
      refine Pl.qA_b (v := .bool true) (fun X => Pl.r_eqb Tryz.underlying4 (by decide) X) trivial rfl rfl rfl rfl rfl rfl ?_
      refine Pl.qA_go trivial rfl ?_
      refine Pl.pA_end ?_
      repeat refine Pl.V_seq ?_
      exact Pl.post_ret rfl rfl  (⟨rfl, (Pl.Ex.trans hE1 (Pl.Ex.trans hE2 (Pl.Ex.trans hE3 (Pl.Ex.trans hE4 (Pl.Ex.trans hE5 (Pl.Ex.trans hE6 (Pl.Ex.trans hE7 (Pl.Ex.trans hE8 (Pl.Ex.trans hE9 (Pl.Ex.trans hE10 (Pl.Ex.trans hE11 (Pl.Ex.trans hE12 (Pl.Ex.trans hE13 (Pl.Ex.trans hE14 (Pl.Ex.trans hE15 (Pl.Ex.trans hE16 (Pl.Ex.trans hE17 (Pl.Ex.trans hE18 hE19))))))))))))))))))⟩)
theorem RootTells_01 (w : World) (r0 : Value) (xa : List Nat) (u0 : U w r0 xa) (z : Int) (n : Nat) (hn : n < 256) (hbad : ¬ (z < 1 ∨ 1000000 < z)) (hf : n % 40 < 1) :
    Calls Tryz.prog 3 #[r0, .int .i64 z, .int .u8 ((n : Nat) : Int)] w fun e w' => e = .returned (.bool true) ∧ Ext w w' := by
  obtain ⟨a, da⟩ : ∃ q, cutN xa 8 = q := ⟨_, rfl⟩
  have la : Sn a 8 := by rw [← da]; exact len_of (cut_lt xa 8 u0.lim)
  have ba : blen a ≤ 32 * 8 := Sn.blen la
  have hfw := hf
  obtain ⟨few, qfew⟩ : ∃ q, n % 40 = q := ⟨_, rfl⟩
  have gfew : few < 40 := by omega
  obtain ⟨k, rfl⟩ : ∃ k : Nat, z = (k : Int) := ⟨z.toNat, by omega⟩
  refine Pl.calls_by (n := 135) (vs := [r0, .int .i64 ((k : Nat) : Int), .int .u8 ((n : Nat) : Int)]) Tryz.func3 rfl (by kernel_rfl) (by simp) ?_
  repeat refine Pl.V_seq ?_
  refine Pl.V_region (by kernel_rfl) ?_
  refine Pl.qA_go trivial rfl ?_
  refine Pl.pA_end ?_
  repeat refine Pl.V_seq ?_
  refine Pl.V_region (by kernel_rfl) ?_
  refine Pl.pA_call rfl rfl rfl rfl rfl (fun u X => Pl.enters Tryz.func12 (by kernel_rfl) rfl u X) ?_
  refine Calls.mono (head8 _) ?_
  rintro e w1 ⟨rfl, hE1⟩
  have sz1 := Pl.Ex.size hE1
  refine ⟨_, rfl, trivial, ?_⟩
  refine Pl.qA_go trivial rfl ?_
  refine Pl.pA_end ?_
  repeat refine Pl.V_seq ?_
  refine Pl.V_region (by kernel_rfl) ?_
  refine Pl.qA_go trivial rfl ?_
  refine Pl.pA_call rfl rfl rfl rfl rfl (fun u X => Pl.enters Tryz.func13 (by kernel_rfl) rfl u X) ?_
  refine Calls.mono (made_B _ _ xa 8 (U.below u0 hE1) (by decide) (by decide) a da) ?_
  rintro e w2 ⟨v1, rfl, hv1, hE2⟩
  have sz2 := Pl.Ex.size hE2
  refine ⟨_, rfl, trivial, ?_⟩
  refine Pl.qA_go trivial rfl ?_
  refine Pl.qA_cv (c := ((n : Nat) : Int)) Tryz.underlying3 (by kernel_rfl) (Pl.c_id (a := n) rfl (Pl.w64 (by omega) (by omega))) trivial rfl rfl rfl rfl rfl ?_
  refine Pl.qA_b (v := .int .i64 ((few : Nat) : Int)) (fun X => Pl.Bn.as (nb_rem_i64 (a := n) (b := 40) (by omega) (by omega)) (by rw [qfew]) X) trivial rfl rfl rfl rfl rfl rfl ?_
  refine Pl.qA_go trivial rfl ?_
  refine Pl.pA_end ?_
  repeat refine Pl.V_seq ?_
  refine Pl.V_region (by kernel_rfl) ?_
  refine Pl.qA_go trivial rfl ?_
  have hbz2 : blen a ≤ 32 * 8 := Sn.blen la
  refine Pl.pA_call rfl rfl rfl rfl rfl (fun u X => Pl.enters Tryz.func14 (by kernel_rfl) rfl u X) ?_
  refine Calls.mono (root_bad _ _ a hv1 (Sn.le la (by decide)) ((few : Nat) : Int) (by omega) (fun j hj hlt => by omega)) ?_
  rintro e w3 ⟨rfl, hE3⟩
  have sz3 := Pl.Ex.size hE3
  refine ⟨_, rfl, trivial, ?_⟩
  refine Pl.qA_go trivial rfl ?_
  refine Pl.pA_end ?_
  repeat refine Pl.V_seq ?_
  refine Pl.V_region (by kernel_rfl) ?_
  refine Pl.qA_go trivial rfl ?_
  have hbz3 : blen a ≤ 32 * 8 := Sn.blen la
  refine Pl.pA_call rfl rfl rfl rfl rfl (fun u X => Pl.enters Tryz.func15 (by kernel_rfl) rfl u X) ?_
  refine Calls.mono (rroot_bad _ _ a (Un.below hv1 hE3) (Sn.le la (by decide)) ((few : Nat) : Int) (by omega) (fun j hj hlt => by omega)) ?_
  rintro e w4 ⟨rfl, hE4⟩
  have sz4 := Pl.Ex.size hE4
  refine ⟨_, rfl, trivial, ?_⟩
  refine Pl.qA_go trivial rfl ?_
  refine Pl.pA_end ?_
  repeat refine Pl.V_seq ?_
  refine Pl.V_region (by kernel_rfl) ?_
  refine Pl.qA_go trivial rfl ?_
  have hbz4 : blen a ≤ 32 * 8 := Sn.blen la
  refine Pl.pA_call rfl rfl rfl rfl rfl (fun u X => Pl.enters Tryz.func14 (by kernel_rfl) rfl u X) ?_
  refine Calls.mono (root_N _ _ a (Un.below hv1 (Pl.Ex.trans hE3 hE4)) (Sn.le la (by decide)) k (by omega) (by omega) (fun j hj hlt => by omega)) ?_
  rintro e w5 ⟨v5, rfl, hv5, hE5⟩
  have sz5 := Pl.Ex.size hE5
  refine ⟨_, rfl, trivial, ?_⟩
  refine Pl.qA_go trivial rfl ?_
  refine Pl.pA_end ?_
  repeat refine Pl.V_seq ?_
  refine Pl.V_region (by kernel_rfl) ?_
  refine Pl.qA_go trivial rfl ?_
  refine Pl.pA_call rfl rfl rfl rfl rfl (fun u X => Pl.enters Tryz.func15 (by kernel_rfl) rfl u X) ?_
  refine Calls.mono (rroot_N _ _ a (Un.below hv1 (Pl.Ex.trans hE3 (Pl.Ex.trans hE4 hE5))) (Sn.le la (by decide)) k (by omega) (by omega)) ?_
  rintro e w6 ⟨v6, rfl, hv6, hE6⟩
  have sz6 := Pl.Ex.size hE6
  refine ⟨_, rfl, trivial, ?_⟩
  refine Pl.qA_go trivial rfl ?_
  refine Pl.pA_end ?_
  repeat refine Pl.V_seq ?_
  refine Pl.V_region (by kernel_rfl) ?_
  refine Pl.qA_go trivial rfl ?_
  refine Pl.pA_call rfl rfl rfl rfl rfl (fun u X => Pl.enters Tryz.func16 (by kernel_rfl) rfl u X) ?_
  refine Calls.mono (sqrt_calls a _ _ (Un.below hv1 (Pl.Ex.trans hE3 (Pl.Ex.trans hE4 (Pl.Ex.trans hE5 hE6)))) (Sn.le la (by decide))) ?_
  rintro e w7 ⟨v7, v8, rfl, hv7, hv8, hE7⟩
  have sz7 := Pl.Ex.size hE7
  refine ⟨_, rfl, trivial, ?_⟩
  refine Pl.qA_go trivial rfl ?_
  refine Pl.pA_end ?_
  repeat refine Pl.V_seq ?_
  refine Pl.V_region (by kernel_rfl) ?_
  refine Pl.qA_go trivial rfl ?_
  refine Pl.pA_call rfl rfl rfl rfl rfl (fun u X => Pl.enters Tryz.func17 (by kernel_rfl) rfl u X) ?_
  refine Calls.mono (rsqrt_calls _ _ a (Un.below hv1 (Pl.Ex.trans hE3 (Pl.Ex.trans hE4 (Pl.Ex.trans hE5 (Pl.Ex.trans hE6 hE7))))) (Sn.le la (by decide))) ?_
  rintro e w8 ⟨v9, v10, rfl, hv9, hv10, hE8⟩
  have sz8 := Pl.Ex.size hE8
  refine ⟨_, rfl, trivial, ?_⟩
  refine Pl.qA_go trivial rfl ?_
  refine Pl.pA_end ?_
  repeat refine Pl.V_seq ?_
  refine Pl.V_region (by kernel_rfl) ?_
  refine Pl.qA_go trivial rfl ?_
  have hbz11 : blen a ≤ 32 * 8 := Sn.blen la
  refine Pl.pA_call rfl rfl rfl rfl rfl (fun u X => Pl.enters Tryz.func18 (by kernel_rfl) rfl u X) ?_
  refine Calls.mono (power_all _ _ a (Un.below hv1 (Pl.Ex.trans hE3 (Pl.Ex.trans hE4 (Pl.Ex.trans hE5 (Pl.Ex.trans hE6 (Pl.Ex.trans hE7 hE8)))))) (Sn.le la (by decide)) (by omega)) ?_
  rintro e w9 ⟨u12, pb13, pk14, rfl, hu12, hppb13, hE9⟩
  have lpb13 := Sn.down la (pw_le hppb13)
  have qpk14 := pw_k hppb13
  have sz9 := Pl.Ex.size hE9
  refine ⟨_, rfl, trivial, ?_⟩
  refine Pl.qA_go trivial rfl ?_
  refine Pl.pA_end ?_
  repeat refine Pl.V_seq ?_
  refine Pl.V_region (by kernel_rfl) ?_
  refine Pl.qA_go trivial rfl ?_
  have hbz15 : blen a ≤ 32 * 8 := Sn.blen la
  refine Pl.pA_call rfl rfl rfl rfl rfl (fun u X => Pl.enters Tryz.func19 (by kernel_rfl) rfl u X) ?_
  refine Calls.mono (rpower_calls _ _ a (Un.below hv1 (Pl.Ex.trans hE3 (Pl.Ex.trans hE4 (Pl.Ex.trans hE5 (Pl.Ex.trans hE6 (Pl.Ex.trans hE7 (Pl.Ex.trans hE8 hE9))))))) (Sn.le la (by decide)) (by omega)) ?_
  rintro e w10 ⟨u16, pb17, pk18, rfl, hu16, hppb17, hE10⟩
  have lpb17 := Sn.down la (pw_le hppb17)
  have qpk18 := pw_k hppb17
  have sz10 := Pl.Ex.size hE10
  refine ⟨_, rfl, trivial, ?_⟩
  refine Pl.qA_go trivial rfl ?_
  refine Pl.pA_end ?_
  repeat refine Pl.V_seq ?_
  refine Pl.V_region (by kernel_rfl) ?_
  refine Pl.qA_go trivial rfl ?_
  refine Pl.pA_call rfl rfl rfl rfl rfl (fun u X => Pl.enters Tryz.func20 (by kernel_rfl) rfl u X) ?_
  refine Calls.mono (same1 _ _ _ 0 0 (Un_nil _) (Un_nil _) true (decide_eq_true rfl)) ?_
  rintro e w11 ⟨rfl, hE11⟩
  have sz11 := Pl.Ex.size hE11
  refine ⟨_, rfl, trivial, ?_⟩
  refine Pl.qA_go trivial rfl ?_
  refine Pl.qA_b (v := .bool true) (fun X => Pl.r_eql (Pl.e_t (by omega)) X) trivial rfl rfl rfl rfl rfl rfl ?_
  refine Pl.qA_go trivial rfl ?_
  refine Pl.pA_call rfl rfl rfl rfl rfl (fun u X => Pl.enters Tryz.func20 (by kernel_rfl) rfl u X) ?_
  refine Calls.mono (same1 _ _ _ (Rt.kr a k) (Rt.kr a k) (Un.below hv5 (Pl.Ex.trans hE6 (Pl.Ex.trans hE7 (Pl.Ex.trans hE8 (Pl.Ex.trans hE9 (Pl.Ex.trans hE10 hE11)))))) (Un.below hv6 (Pl.Ex.trans hE7 (Pl.Ex.trans hE8 (Pl.Ex.trans hE9 (Pl.Ex.trans hE10 hE11))))) true (decide_eq_true rfl)) ?_
  rintro e w12 ⟨rfl, hE12⟩
  have sz12 := Pl.Ex.size hE12
  refine ⟨_, rfl, trivial, ?_⟩
  refine Pl.qA_go trivial rfl ?_
  refine Pl.qA_b (v := .bool true) (fun X => Pl.r_eql (Pl.e_t (by omega)) X) trivial rfl rfl rfl rfl rfl rfl ?_
  refine Pl.qA_go trivial rfl ?_
  refine Pl.pA_call rfl rfl rfl rfl rfl (fun u X => Pl.enters Tryz.func20 (by kernel_rfl) rfl u X) ?_
  refine Calls.mono (same1 _ _ _ (Rt.kr a 2) (Rt.kr a 2) (Un.below hv7 (Pl.Ex.trans hE8 (Pl.Ex.trans hE9 (Pl.Ex.trans hE10 (Pl.Ex.trans hE11 hE12))))) (Un.below hv9 (Pl.Ex.trans hE9 (Pl.Ex.trans hE10 (Pl.Ex.trans hE11 hE12)))) true (decide_eq_true rfl)) ?_
  rintro e w13 ⟨rfl, hE13⟩
  have sz13 := Pl.Ex.size hE13
  refine ⟨_, rfl, trivial, ?_⟩
  refine Pl.qA_go trivial rfl ?_
  refine Pl.pA_call rfl rfl rfl rfl rfl (fun u X => Pl.enters Tryz.func20 (by kernel_rfl) rfl u X) ?_
  refine Calls.mono (same1 _ _ _ (a - (Rt.kr a 2) * (Rt.kr a 2)) (a - (Rt.kr a 2) * (Rt.kr a 2)) (Un.below hv8 (Pl.Ex.trans hE8 (Pl.Ex.trans hE9 (Pl.Ex.trans hE10 (Pl.Ex.trans hE11 (Pl.Ex.trans hE12 hE13)))))) (Un.below hv10 (Pl.Ex.trans hE9 (Pl.Ex.trans hE10 (Pl.Ex.trans hE11 (Pl.Ex.trans hE12 hE13))))) true (decide_eq_true rfl)) ?_
  rintro e w14 ⟨rfl, hE14⟩
  have sz14 := Pl.Ex.size hE14
  refine ⟨_, rfl, trivial, ?_⟩
  refine Pl.qA_go trivial rfl ?_
  refine Pl.pA_call rfl rfl rfl rfl rfl (fun u X => Pl.enters Tryz.func20 (by kernel_rfl) rfl u X) ?_
  refine Calls.mono (same1 _ _ _ pb13 pb17 (Un.below hu12 (Pl.Ex.trans hE10 (Pl.Ex.trans hE11 (Pl.Ex.trans hE12 (Pl.Ex.trans hE13 hE14))))) (Un.below hu16 (Pl.Ex.trans hE11 (Pl.Ex.trans hE12 (Pl.Ex.trans hE13 hE14)))) true (decide_eq_true (pw_uniq hppb13 hppb17).1)) ?_
  rintro e w15 ⟨rfl, hE15⟩
  have sz15 := Pl.Ex.size hE15
  refine ⟨_, rfl, trivial, ?_⟩
  refine Pl.qA_go trivial rfl ?_
  have hf11_36 : pk14 = pk18 := (pw_uniq hppb13 hppb17).2
  refine Pl.qA_b (v := .bool true) (fun X => Pl.r_eql (Pl.e_t (by omega)) X) trivial rfl rfl rfl rfl rfl rfl ?_
  refine Pl.qA_go trivial rfl ?_
  have hbz20 : blen a ≤ 32 * 8 := Sn.blen la
  refine Pl.pA_call rfl rfl rfl rfl rfl (fun u X => Pl.enters Tryz.func21 (by kernel_rfl) rfl u X) ?_
  refine Calls.mono (is_calls _ _ a (Un.below hv1 (Pl.Ex.trans hE3 (Pl.Ex.trans hE4 (Pl.Ex.trans hE5 (Pl.Ex.trans hE6 (Pl.Ex.trans hE7 (Pl.Ex.trans hE8 (Pl.Ex.trans hE9 (Pl.Ex.trans hE10 (Pl.Ex.trans hE11 (Pl.Ex.trans hE12 (Pl.Ex.trans hE13 (Pl.Ex.trans hE14 hE15))))))))))))) (Sn.le la (by decide)) ((few : Nat) : Int) (fun j hj hlt => by omega)) ?_
  rintro e w16 ⟨r19, rfl, hr19, hE16⟩
  obtain rfl : r19 = false := by exact Bool.eq_false_iff.2 fun h => absurd (hr19.1 h).1 (by omega)
  have sz16 := Pl.Ex.size hE16
  refine ⟨_, rfl, trivial, ?_⟩
  refine Pl.qA_go trivial rfl ?_
  have hbz22 : blen a ≤ 32 * 8 := Sn.blen la
  refine Pl.pA_call rfl rfl rfl rfl rfl (fun u X => Pl.enters Tryz.func22 (by kernel_rfl) rfl u X) ?_
  refine Calls.mono (ris_calls _ _ a (Un.below hv1 (Pl.Ex.trans hE3 (Pl.Ex.trans hE4 (Pl.Ex.trans hE5 (Pl.Ex.trans hE6 (Pl.Ex.trans hE7 (Pl.Ex.trans hE8 (Pl.Ex.trans hE9 (Pl.Ex.trans hE10 (Pl.Ex.trans hE11 (Pl.Ex.trans hE12 (Pl.Ex.trans hE13 (Pl.Ex.trans hE14 (Pl.Ex.trans hE15 hE16)))))))))))))) (Sn.le la (by decide)) ((few : Nat) : Int) (fun j hj hlt => by omega)) ?_
  rintro e w17 ⟨r21, rfl, hr21, hE17⟩
  obtain rfl : r21 = false := by exact Bool.eq_false_iff.2 fun h => absurd (hr21.1 h).1 (by omega)
  have sz17 := Pl.Ex.size hE17
  refine ⟨_, rfl, trivial, ?_⟩
  refine Pl.qA_b (v := .bool true) (fun X => Pl.r_eqb Tryz.underlying4 (by decide) X) trivial rfl rfl rfl rfl rfl rfl ?_
  refine Pl.qA_go trivial rfl ?_
  by_cases c23 : Rt.isP a k
  · have hbz25 : blen a ≤ 32 * 8 := Sn.blen la
    refine Pl.pA_call rfl rfl rfl rfl rfl (fun u X => Pl.enters Tryz.func21 (by kernel_rfl) rfl u X) ?_
    refine Calls.mono (is_calls _ _ a (Un.below hv1 (Pl.Ex.trans hE3 (Pl.Ex.trans hE4 (Pl.Ex.trans hE5 (Pl.Ex.trans hE6 (Pl.Ex.trans hE7 (Pl.Ex.trans hE8 (Pl.Ex.trans hE9 (Pl.Ex.trans hE10 (Pl.Ex.trans hE11 (Pl.Ex.trans hE12 (Pl.Ex.trans hE13 (Pl.Ex.trans hE14 (Pl.Ex.trans hE15 (Pl.Ex.trans hE16 hE17))))))))))))))) (Sn.le la (by decide)) ((k : Nat) : Int) (fun j hj hlt => by omega)) ?_
    rintro e w18 ⟨r24, rfl, hr24, hE18⟩
    obtain rfl : r24 = true := by exact hr24.2 ⟨by omega, c23⟩
    have sz18 := Pl.Ex.size hE18
    refine ⟨_, rfl, trivial, ?_⟩
    refine Pl.qA_go trivial rfl ?_
    have hbz27 : blen a ≤ 32 * 8 := Sn.blen la
    refine Pl.pA_call rfl rfl rfl rfl rfl (fun u X => Pl.enters Tryz.func22 (by kernel_rfl) rfl u X) ?_
    refine Calls.mono (ris_calls _ _ a (Un.below hv1 (Pl.Ex.trans hE3 (Pl.Ex.trans hE4 (Pl.Ex.trans hE5 (Pl.Ex.trans hE6 (Pl.Ex.trans hE7 (Pl.Ex.trans hE8 (Pl.Ex.trans hE9 (Pl.Ex.trans hE10 (Pl.Ex.trans hE11 (Pl.Ex.trans hE12 (Pl.Ex.trans hE13 (Pl.Ex.trans hE14 (Pl.Ex.trans hE15 (Pl.Ex.trans hE16 (Pl.Ex.trans hE17 hE18)))))))))))))))) (Sn.le la (by decide)) ((k : Nat) : Int) (fun j hj hlt => by omega)) ?_
    rintro e w19 ⟨r26, rfl, hr26, hE19⟩
    obtain rfl : r26 = true := by exact hr26.2 ⟨by omega, c23⟩
    have sz19 := Pl.Ex.size hE19
    refine ⟨_, rfl, trivial, ?_⟩
    refine Pl.qA_b (v := .bool true) (fun X => Pl.r_eqb Tryz.underlying4 (by decide) X) trivial rfl rfl rfl rfl rfl rfl ?_
    refine Pl.qA_go trivial rfl ?_
    refine Pl.pA_end ?_
    repeat refine Pl.V_seq ?_
    exact Pl.post_ret rfl rfl  (⟨rfl, (Pl.Ex.trans hE1 (Pl.Ex.trans hE2 (Pl.Ex.trans hE3 (Pl.Ex.trans hE4 (Pl.Ex.trans hE5 (Pl.Ex.trans hE6 (Pl.Ex.trans hE7 (Pl.Ex.trans hE8 (Pl.Ex.trans hE9 (Pl.Ex.trans hE10 (Pl.Ex.trans hE11 (Pl.Ex.trans hE12 (Pl.Ex.trans hE13 (Pl.Ex.trans hE14 (Pl.Ex.trans hE15 (Pl.Ex.trans hE16 (Pl.Ex.trans hE17 (Pl.Ex.trans hE18 hE19))))))))))))))))))⟩)
  · have hbz25 : blen a ≤ 32 * 8 := Sn.blen la
    refine Pl.pA_call rfl rfl rfl rfl rfl (fun u X => Pl.enters Tryz.func21 (by kernel_rfl) rfl u X) ?_
    refine Calls.mono (is_calls _ _ a (Un.below hv1 (Pl.Ex.trans hE3 (Pl.Ex.trans hE4 (Pl.Ex.trans hE5 (Pl.Ex.trans hE6 (Pl.Ex.trans hE7 (Pl.Ex.trans hE8 (Pl.Ex.trans hE9 (Pl.Ex.trans hE10 (Pl.Ex.trans hE11 (Pl.Ex.trans hE12 (Pl.Ex.trans hE13 (Pl.Ex.trans hE14 (Pl.Ex.trans hE15 (Pl.Ex.trans hE16 hE17))))))))))))))) (Sn.le la (by decide)) ((k : Nat) : Int) (fun j hj hlt => by omega)) ?_
    rintro e w18 ⟨r24, rfl, hr24, hE18⟩
    obtain rfl : r24 = false := by exact Bool.eq_false_iff.2 fun h => c23 (hr24.1 h).2
    have sz18 := Pl.Ex.size hE18
    refine ⟨_, rfl, trivial, ?_⟩
    refine Pl.qA_go trivial rfl ?_
    have hbz27 : blen a ≤ 32 * 8 := Sn.blen la
    refine Pl.pA_call rfl rfl rfl rfl rfl (fun u X => Pl.enters Tryz.func22 (by kernel_rfl) rfl u X) ?_
    refine Calls.mono (ris_calls _ _ a (Un.below hv1 (Pl.Ex.trans hE3 (Pl.Ex.trans hE4 (Pl.Ex.trans hE5 (Pl.Ex.trans hE6 (Pl.Ex.trans hE7 (Pl.Ex.trans hE8 (Pl.Ex.trans hE9 (Pl.Ex.trans hE10 (Pl.Ex.trans hE11 (Pl.Ex.trans hE12 (Pl.Ex.trans hE13 (Pl.Ex.trans hE14 (Pl.Ex.trans hE15 (Pl.Ex.trans hE16 (Pl.Ex.trans hE17 hE18)))))))))))))))) (Sn.le la (by decide)) ((k : Nat) : Int) (fun j hj hlt => by omega)) ?_
    rintro e w19 ⟨r26, rfl, hr26, hE19⟩
    obtain rfl : r26 = false := by exact Bool.eq_false_iff.2 fun h => c23 (hr26.1 h).2
    have sz19 := Pl.Ex.size hE19
    refine ⟨_, rfl, trivial, ?_⟩
    refine Pl.qA_b (v := .bool true) (fun X => Pl.r_eqb Tryz.underlying4 (by decide) X) trivial rfl rfl rfl rfl rfl rfl ?_
    refine Pl.qA_go trivial rfl ?_
    refine Pl.pA_end ?_
    repeat refine Pl.V_seq ?_
    exact Pl.post_ret rfl rfl  (⟨rfl, (Pl.Ex.trans hE1 (Pl.Ex.trans hE2 (Pl.Ex.trans hE3 (Pl.Ex.trans hE4 (Pl.Ex.trans hE5 (Pl.Ex.trans hE6 (Pl.Ex.trans hE7 (Pl.Ex.trans hE8 (Pl.Ex.trans hE9 (Pl.Ex.trans hE10 (Pl.Ex.trans hE11 (Pl.Ex.trans hE12 (Pl.Ex.trans hE13 (Pl.Ex.trans hE14 (Pl.Ex.trans hE15 (Pl.Ex.trans hE16 (Pl.Ex.trans hE17 (Pl.Ex.trans hE18 hE19))))))))))))))))))⟩)
theorem RootTells_00 (w : World) (r0 : Value) (xa : List Nat) (u0 : U w r0 xa) (z : Int) (n : Nat) (hn : n < 256) (hbad : ¬ (z < 1 ∨ 1000000 < z)) (hf : ¬ n % 40 < 1) :
    Calls Tryz.prog 3 #[r0, .int .i64 z, .int .u8 ((n : Nat) : Int)] w fun e w' => e = .returned (.bool true) ∧ Ext w w' := by
  obtain ⟨a, da⟩ : ∃ q, cutN xa 8 = q := ⟨_, rfl⟩
  have la : Sn a 8 := by rw [← da]; exact len_of (cut_lt xa 8 u0.lim)
  have ba : blen a ≤ 32 * 8 := Sn.blen la
  have hfw := hf
  obtain ⟨few, qfew⟩ : ∃ q, n % 40 = q := ⟨_, rfl⟩
  have gfew : few < 40 := by omega
  obtain ⟨k, rfl⟩ : ∃ k : Nat, z = (k : Int) := ⟨z.toNat, by omega⟩
  refine Pl.calls_by (n := 135) (vs := [r0, .int .i64 ((k : Nat) : Int), .int .u8 ((n : Nat) : Int)]) Tryz.func3 rfl (by kernel_rfl) (by simp) ?_
  repeat refine Pl.V_seq ?_
  refine Pl.V_region (by kernel_rfl) ?_
  refine Pl.qA_go trivial rfl ?_
  refine Pl.pA_end ?_
  repeat refine Pl.V_seq ?_
  refine Pl.V_region (by kernel_rfl) ?_
  refine Pl.pA_call rfl rfl rfl rfl rfl (fun u X => Pl.enters Tryz.func12 (by kernel_rfl) rfl u X) ?_
  refine Calls.mono (head8 _) ?_
  rintro e w1 ⟨rfl, hE1⟩
  have sz1 := Pl.Ex.size hE1
  refine ⟨_, rfl, trivial, ?_⟩
  refine Pl.qA_go trivial rfl ?_
  refine Pl.pA_end ?_
  repeat refine Pl.V_seq ?_
  refine Pl.V_region (by kernel_rfl) ?_
  refine Pl.qA_go trivial rfl ?_
  refine Pl.pA_call rfl rfl rfl rfl rfl (fun u X => Pl.enters Tryz.func13 (by kernel_rfl) rfl u X) ?_
  refine Calls.mono (made_B _ _ xa 8 (U.below u0 hE1) (by decide) (by decide) a da) ?_
  rintro e w2 ⟨v1, rfl, hv1, hE2⟩
  have sz2 := Pl.Ex.size hE2
  refine ⟨_, rfl, trivial, ?_⟩
  refine Pl.qA_go trivial rfl ?_
  refine Pl.qA_cv (c := ((n : Nat) : Int)) Tryz.underlying3 (by kernel_rfl) (Pl.c_id (a := n) rfl (Pl.w64 (by omega) (by omega))) trivial rfl rfl rfl rfl rfl ?_
  refine Pl.qA_b (v := .int .i64 ((few : Nat) : Int)) (fun X => Pl.Bn.as (nb_rem_i64 (a := n) (b := 40) (by omega) (by omega)) (by rw [qfew]) X) trivial rfl rfl rfl rfl rfl rfl ?_
  refine Pl.qA_go trivial rfl ?_
  refine Pl.pA_end ?_
  repeat refine Pl.V_seq ?_
  refine Pl.V_region (by kernel_rfl) ?_
  refine Pl.qA_go trivial rfl ?_
  have hbz2 : blen a ≤ 32 * 8 := Sn.blen la
  refine Pl.pA_call rfl rfl rfl rfl rfl (fun u X => Pl.enters Tryz.func14 (by kernel_rfl) rfl u X) ?_
  refine Calls.mono (root_N _ _ a hv1 (Sn.le la (by decide)) few (by omega) (by omega) (fun j hj hlt => by omega)) ?_
  rintro e w3 ⟨v3, rfl, hv3, hE3⟩
  have sz3 := Pl.Ex.size hE3
  refine ⟨_, rfl, trivial, ?_⟩
  refine Pl.qA_go trivial rfl ?_
  refine Pl.pA_end ?_
  repeat refine Pl.V_seq ?_
  refine Pl.V_region (by kernel_rfl) ?_
  refine Pl.qA_go trivial rfl ?_
  refine Pl.pA_call rfl rfl rfl rfl rfl (fun u X => Pl.enters Tryz.func15 (by kernel_rfl) rfl u X) ?_
  refine Calls.mono (rroot_N _ _ a (Un.below hv1 hE3) (Sn.le la (by decide)) few (by omega) (by omega)) ?_
  rintro e w4 ⟨v4, rfl, hv4, hE4⟩
  have sz4 := Pl.Ex.size hE4
  refine ⟨_, rfl, trivial, ?_⟩
  refine Pl.qA_go trivial rfl ?_
  refine Pl.pA_end ?_
  repeat refine Pl.V_seq ?_
  refine Pl.V_region (by kernel_rfl) ?_
  refine Pl.qA_go trivial rfl ?_
  have hbz5 : blen a ≤ 32 * 8 := Sn.blen la
  refine Pl.pA_call rfl rfl rfl rfl rfl (fun u X => Pl.enters Tryz.func14 (by kernel_rfl) rfl u X) ?_
  refine Calls.mono (root_N _ _ a (Un.below hv1 (Pl.Ex.trans hE3 hE4)) (Sn.le la (by decide)) k (by omega) (by omega) (fun j hj hlt => by omega)) ?_
  rintro e w5 ⟨v6, rfl, hv6, hE5⟩
  have sz5 := Pl.Ex.size hE5
  refine ⟨_, rfl, trivial, ?_⟩
  refine Pl.qA_go trivial rfl ?_
  refine Pl.pA_end ?_
  repeat refine Pl.V_seq ?_
  refine Pl.V_region (by kernel_rfl) ?_
  refine Pl.qA_go trivial rfl ?_
  refine Pl.pA_call rfl rfl rfl rfl rfl (fun u X => Pl.enters Tryz.func15 (by kernel_rfl) rfl u X) ?_
  refine Calls.mono (rroot_N _ _ a (Un.below hv1 (Pl.Ex.trans hE3 (Pl.Ex.trans hE4 hE5))) (Sn.le la (by decide)) k (by omega) (by omega)) ?_
  rintro e w6 ⟨v7, rfl, hv7, hE6⟩
  have sz6 := Pl.Ex.size hE6
  refine ⟨_, rfl, trivial, ?_⟩
  refine Pl.qA_go trivial rfl ?_
  refine Pl.pA_end ?_
  repeat refine Pl.V_seq ?_
  refine Pl.V_region (by kernel_rfl) ?_
  refine Pl.qA_go trivial rfl ?_
  refine Pl.pA_call rfl rfl rfl rfl rfl (fun u X => Pl.enters Tryz.func16 (by kernel_rfl) rfl u X) ?_
  refine Calls.mono (sqrt_calls a _ _ (Un.below hv1 (Pl.Ex.trans hE3 (Pl.Ex.trans hE4 (Pl.Ex.trans hE5 hE6)))) (Sn.le la (by decide))) ?_
  rintro e w7 ⟨v8, v9, rfl, hv8, hv9, hE7⟩
  have sz7 := Pl.Ex.size hE7
  refine ⟨_, rfl, trivial, ?_⟩
  refine Pl.qA_go trivial rfl ?_
  refine Pl.pA_end ?_
  repeat refine Pl.V_seq ?_
  refine Pl.V_region (by kernel_rfl) ?_
  refine Pl.qA_go trivial rfl ?_
  refine Pl.pA_call rfl rfl rfl rfl rfl (fun u X => Pl.enters Tryz.func17 (by kernel_rfl) rfl u X) ?_
  refine Calls.mono (rsqrt_calls _ _ a (Un.below hv1 (Pl.Ex.trans hE3 (Pl.Ex.trans hE4 (Pl.Ex.trans hE5 (Pl.Ex.trans hE6 hE7))))) (Sn.le la (by decide))) ?_
  rintro e w8 ⟨v10, v11, rfl, hv10, hv11, hE8⟩
  have sz8 := Pl.Ex.size hE8
  refine ⟨_, rfl, trivial, ?_⟩
  refine Pl.qA_go trivial rfl ?_
  refine Pl.pA_end ?_
  repeat refine Pl.V_seq ?_
  refine Pl.V_region (by kernel_rfl) ?_
  refine Pl.qA_go trivial rfl ?_
  have hbz12 : blen a ≤ 32 * 8 := Sn.blen la
  refine Pl.pA_call rfl rfl rfl rfl rfl (fun u X => Pl.enters Tryz.func18 (by kernel_rfl) rfl u X) ?_
  refine Calls.mono (power_all _ _ a (Un.below hv1 (Pl.Ex.trans hE3 (Pl.Ex.trans hE4 (Pl.Ex.trans hE5 (Pl.Ex.trans hE6 (Pl.Ex.trans hE7 hE8)))))) (Sn.le la (by decide)) (by omega)) ?_
  rintro e w9 ⟨u13, pb14, pk15, rfl, hu13, hppb14, hE9⟩
  have lpb14 := Sn.down la (pw_le hppb14)
  have qpk15 := pw_k hppb14
  have sz9 := Pl.Ex.size hE9
  refine ⟨_, rfl, trivial, ?_⟩
  refine Pl.qA_go trivial rfl ?_
  refine Pl.pA_end ?_
  repeat refine Pl.V_seq ?_
  refine Pl.V_region (by kernel_rfl) ?_
  refine Pl.qA_go trivial rfl ?_
  have hbz16 : blen a ≤ 32 * 8 := Sn.blen la
  refine Pl.pA_call rfl rfl rfl rfl rfl (fun u X => Pl.enters Tryz.func19 (by kernel_rfl) rfl u X) ?_
  refine Calls.mono (rpower_calls _ _ a (Un.below hv1 (Pl.Ex.trans hE3 (Pl.Ex.trans hE4 (Pl.Ex.trans hE5 (Pl.Ex.trans hE6 (Pl.Ex.trans hE7 (Pl.Ex.trans hE8 hE9))))))) (Sn.le la (by decide)) (by omega)) ?_
  rintro e w10 ⟨u17, pb18, pk19, rfl, hu17, hppb18, hE10⟩
  have lpb18 := Sn.down la (pw_le hppb18)
  have qpk19 := pw_k hppb18
  have sz10 := Pl.Ex.size hE10
  refine ⟨_, rfl, trivial, ?_⟩
  refine Pl.qA_go trivial rfl ?_
  refine Pl.pA_end ?_
  repeat refine Pl.V_seq ?_
  refine Pl.V_region (by kernel_rfl) ?_
  refine Pl.qA_go trivial rfl ?_
  refine Pl.pA_call rfl rfl rfl rfl rfl (fun u X => Pl.enters Tryz.func20 (by kernel_rfl) rfl u X) ?_
  refine Calls.mono (same1 _ _ _ (Rt.kr a few) (Rt.kr a few) (Un.below hv3 (Pl.Ex.trans hE4 (Pl.Ex.trans hE5 (Pl.Ex.trans hE6 (Pl.Ex.trans hE7 (Pl.Ex.trans hE8 (Pl.Ex.trans hE9 hE10))))))) (Un.below hv4 (Pl.Ex.trans hE5 (Pl.Ex.trans hE6 (Pl.Ex.trans hE7 (Pl.Ex.trans hE8 (Pl.Ex.trans hE9 hE10)))))) true (decide_eq_true rfl)) ?_
  rintro e w11 ⟨rfl, hE11⟩
  have sz11 := Pl.Ex.size hE11
  refine ⟨_, rfl, trivial, ?_⟩
  refine Pl.qA_go trivial rfl ?_
  refine Pl.qA_b (v := .bool true) (fun X => Pl.r_eql (Pl.e_t (by omega)) X) trivial rfl rfl rfl rfl rfl rfl ?_
  refine Pl.qA_go trivial rfl ?_
  refine Pl.pA_call rfl rfl rfl rfl rfl (fun u X => Pl.enters Tryz.func20 (by kernel_rfl) rfl u X) ?_
  refine Calls.mono (same1 _ _ _ (Rt.kr a k) (Rt.kr a k) (Un.below hv6 (Pl.Ex.trans hE6 (Pl.Ex.trans hE7 (Pl.Ex.trans hE8 (Pl.Ex.trans hE9 (Pl.Ex.trans hE10 hE11)))))) (Un.below hv7 (Pl.Ex.trans hE7 (Pl.Ex.trans hE8 (Pl.Ex.trans hE9 (Pl.Ex.trans hE10 hE11))))) true (decide_eq_true rfl)) ?_
  rintro e w12 ⟨rfl, hE12⟩
  have sz12 := Pl.Ex.size hE12
  refine ⟨_, rfl, trivial, ?_⟩
  refine Pl.qA_go trivial rfl ?_
  refine Pl.qA_b (v := .bool true) (fun X => Pl.r_eql (Pl.e_t (by omega)) X) trivial rfl rfl rfl rfl rfl rfl ?_
  refine Pl.qA_go trivial rfl ?_
  refine Pl.pA_call rfl rfl rfl rfl rfl (fun u X => Pl.enters Tryz.func20 (by kernel_rfl) rfl u X) ?_
  refine Calls.mono (same1 _ _ _ (Rt.kr a 2) (Rt.kr a 2) (Un.below hv8 (Pl.Ex.trans hE8 (Pl.Ex.trans hE9 (Pl.Ex.trans hE10 (Pl.Ex.trans hE11 hE12))))) (Un.below hv10 (Pl.Ex.trans hE9 (Pl.Ex.trans hE10 (Pl.Ex.trans hE11 hE12)))) true (decide_eq_true rfl)) ?_
  rintro e w13 ⟨rfl, hE13⟩
  have sz13 := Pl.Ex.size hE13
  refine ⟨_, rfl, trivial, ?_⟩
  refine Pl.qA_go trivial rfl ?_
  refine Pl.pA_call rfl rfl rfl rfl rfl (fun u X => Pl.enters Tryz.func20 (by kernel_rfl) rfl u X) ?_
  refine Calls.mono (same1 _ _ _ (a - (Rt.kr a 2) * (Rt.kr a 2)) (a - (Rt.kr a 2) * (Rt.kr a 2)) (Un.below hv9 (Pl.Ex.trans hE8 (Pl.Ex.trans hE9 (Pl.Ex.trans hE10 (Pl.Ex.trans hE11 (Pl.Ex.trans hE12 hE13)))))) (Un.below hv11 (Pl.Ex.trans hE9 (Pl.Ex.trans hE10 (Pl.Ex.trans hE11 (Pl.Ex.trans hE12 hE13))))) true (decide_eq_true rfl)) ?_
  rintro e w14 ⟨rfl, hE14⟩
  have sz14 := Pl.Ex.size hE14
  refine ⟨_, rfl, trivial, ?_⟩
  refine Pl.qA_go trivial rfl ?_
  refine Pl.pA_call rfl rfl rfl rfl rfl (fun u X => Pl.enters Tryz.func20 (by kernel_rfl) rfl u X) ?_
  refine Calls.mono (same1 _ _ _ pb14 pb18 (Un.below hu13 (Pl.Ex.trans hE10 (Pl.Ex.trans hE11 (Pl.Ex.trans hE12 (Pl.Ex.trans hE13 hE14))))) (Un.below hu17 (Pl.Ex.trans hE11 (Pl.Ex.trans hE12 (Pl.Ex.trans hE13 hE14)))) true (decide_eq_true (pw_uniq hppb14 hppb18).1)) ?_
  rintro e w15 ⟨rfl, hE15⟩
  have sz15 := Pl.Ex.size hE15
  refine ⟨_, rfl, trivial, ?_⟩
  refine Pl.qA_go trivial rfl ?_
  have hf11_36 : pk15 = pk19 := (pw_uniq hppb14 hppb18).2
  refine Pl.qA_b (v := .bool true) (fun X => Pl.r_eql (Pl.e_t (by omega)) X) trivial rfl rfl rfl rfl rfl rfl ?_
  refine Pl.qA_go trivial rfl ?_
  by_cases c20 : Rt.isP a few
  · have hbz22 : blen a ≤ 32 * 8 := Sn.blen la
    refine Pl.pA_call rfl rfl rfl rfl rfl (fun u X => Pl.enters Tryz.func21 (by kernel_rfl) rfl u X) ?_
    refine Calls.mono (is_calls _ _ a (Un.below hv1 (Pl.Ex.trans hE3 (Pl.Ex.trans hE4 (Pl.Ex.trans hE5 (Pl.Ex.trans hE6 (Pl.Ex.trans hE7 (Pl.Ex.trans hE8 (Pl.Ex.trans hE9 (Pl.Ex.trans hE10 (Pl.Ex.trans hE11 (Pl.Ex.trans hE12 (Pl.Ex.trans hE13 (Pl.Ex.trans hE14 hE15))))))))))))) (Sn.le la (by decide)) ((few : Nat) : Int) (fun j hj hlt => by omega)) ?_
    rintro e w16 ⟨r21, rfl, hr21, hE16⟩
    obtain rfl : r21 = true := by exact hr21.2 ⟨by omega, c20⟩
    have sz16 := Pl.Ex.size hE16
    refine ⟨_, rfl, trivial, ?_⟩
    refine Pl.qA_go trivial rfl ?_
    have hbz24 : blen a ≤ 32 * 8 := Sn.blen la
    refine Pl.pA_call rfl rfl rfl rfl rfl (fun u X => Pl.enters Tryz.func22 (by kernel_rfl) rfl u X) ?_
    refine Calls.mono (ris_calls _ _ a (Un.below hv1 (Pl.Ex.trans hE3 (Pl.Ex.trans hE4 (Pl.Ex.trans hE5 (Pl.Ex.trans hE6 (Pl.Ex.trans hE7 (Pl.Ex.trans hE8 (Pl.Ex.trans hE9 (Pl.Ex.trans hE10 (Pl.Ex.trans hE11 (Pl.Ex.trans hE12 (Pl.Ex.trans hE13 (Pl.Ex.trans hE14 (Pl.Ex.trans hE15 hE16)))))))))))))) (Sn.le la (by decide)) ((few : Nat) : Int) (fun j hj hlt => by omega)) ?_
    rintro e w17 ⟨r23, rfl, hr23, hE17⟩
    obtain rfl : r23 = true := by exact hr23.2 ⟨by omega, c20⟩
    have sz17 := Pl.Ex.size hE17
    refine ⟨_, rfl, trivial, ?_⟩
    refine Pl.qA_b (v := .bool true) (fun X => Pl.r_eqb Tryz.underlying4 (by decide) X) trivial rfl rfl rfl rfl rfl rfl ?_
    refine Pl.qA_go trivial rfl ?_
    by_cases c25 : Rt.isP a k
    · have hbz27 : blen a ≤ 32 * 8 := Sn.blen la
      refine Pl.pA_call rfl rfl rfl rfl rfl (fun u X => Pl.enters Tryz.func21 (by kernel_rfl) rfl u X) ?_
      refine Calls.mono (is_calls _ _ a (Un.below hv1 (Pl.Ex.trans hE3 (Pl.Ex.trans hE4 (Pl.Ex.trans hE5 (Pl.Ex.trans hE6 (Pl.Ex.trans hE7 (Pl.Ex.trans hE8 (Pl.Ex.trans hE9 (Pl.Ex.trans hE10 (Pl.Ex.trans hE11 (Pl.Ex.trans hE12 (Pl.Ex.trans hE13 (Pl.Ex.trans hE14 (Pl.Ex.trans hE15 (Pl.Ex.trans hE16 hE17))))))))))))))) (Sn.le la (by decide)) ((k : Nat) : Int) (fun j hj hlt => by omega)) ?_
      rintro e w18 ⟨r26, rfl, hr26, hE18⟩
      obtain rfl : r26 = true := by exact hr26.2 ⟨by omega, c25⟩
      have sz18 := Pl.Ex.size hE18
      refine ⟨_, rfl, trivial, ?_⟩
      refine Pl.qA_go trivial rfl ?_
      have hbz29 : blen a ≤ 32 * 8 := Sn.blen la
      refine Pl.pA_call rfl rfl rfl rfl rfl (fun u X => Pl.enters Tryz.func22 (by kernel_rfl) rfl u X) ?_
      refine Calls.mono (ris_calls _ _ a (Un.below hv1 (Pl.Ex.trans hE3 (Pl.Ex.trans hE4 (Pl.Ex.trans hE5 (Pl.Ex.trans hE6 (Pl.Ex.trans hE7 (Pl.Ex.trans hE8 (Pl.Ex.trans hE9 (Pl.Ex.trans hE10 (Pl.Ex.trans hE11 (Pl.Ex.trans hE12 (Pl.Ex.trans hE13 (Pl.Ex.trans hE14 (Pl.Ex.trans hE15 (Pl.Ex.trans hE16 (Pl.Ex.trans hE17 hE18)))))))))))))))) (Sn.le la (by decide)) ((k : Nat) : Int) (fun j hj hlt => by omega)) ?_
      rintro e w19 ⟨r28, rfl, hr28, hE19⟩
      obtain rfl : r28 = true := by exact hr28.2 ⟨by omega, c25⟩
      have sz19 := Pl.Ex.size hE19
      refine ⟨_, rfl, trivial, ?_⟩
      refine Pl.qA_b (v := .bool true) (fun X => Pl.r_eqb Tryz.underlying4 (by decide) X) trivial rfl rfl rfl rfl rfl rfl ?_
      refine Pl.qA_go trivial rfl ?_
      refine Pl.pA_end ?_
      repeat refine Pl.V_seq ?_
      exact Pl.post_ret rfl rfl  (⟨rfl, (Pl.Ex.trans hE1 (Pl.Ex.trans hE2 (Pl.Ex.trans hE3 (Pl.Ex.trans hE4 (Pl.Ex.trans hE5 (Pl.Ex.trans hE6 (Pl.Ex.trans hE7 (Pl.Ex.trans hE8 (Pl.Ex.trans hE9 (Pl.Ex.trans hE10 (Pl.Ex.trans hE11 (Pl.Ex.trans hE12 (Pl.Ex.trans hE13 (Pl.Ex.trans hE14 (Pl.Ex.trans hE15 (Pl.Ex.trans hE16 (Pl.Ex.trans hE17 (Pl.Ex.trans hE18 hE19))))))))))))))))))⟩)
    · have hbz27 : blen a ≤ 32 * 8 := Sn.blen la
      refine Pl.pA_call rfl rfl rfl rfl rfl (fun u X => Pl.enters Tryz.func21 (by kernel_rfl) rfl u X) ?_
      refine Calls.mono (is_calls _ _ a (Un.below hv1 (Pl.Ex.trans hE3 (Pl.Ex.trans hE4 (Pl.Ex.trans hE5 (Pl.Ex.trans hE6 (Pl.Ex.trans hE7 (Pl.Ex.trans hE8 (Pl.Ex.trans hE9 (Pl.Ex.trans hE10 (Pl.Ex.trans hE11 (Pl.Ex.trans hE12 (Pl.Ex.trans hE13 (Pl.Ex.trans hE14 (Pl.Ex.trans hE15 (Pl.Ex.trans hE16 hE17))))))))))))))) (Sn.le la (by decide)) ((k : Nat) : Int) (fun j hj hlt => by omega)) ?_
      rintro e w18 ⟨r26, rfl, hr26, hE18⟩
      obtain rfl : r26 = false := by exact Bool.eq_false_iff.2 fun h => c25 (hr26.1 h).2
      have sz18 := Pl.Ex.size hE18
      refine ⟨_, rfl, trivial, ?_⟩
      refine Pl.qA_go trivial rfl ?_
      have hbz29 : blen a ≤ 32 * 8 := Sn.blen la
      refine Pl.pA_call rfl rfl rfl rfl rfl (fun u X => Pl.enters Tryz.func22 (by kernel_rfl) rfl u X) ?_
      refine Calls.mono (ris_calls _ _ a (Un.below hv1 (Pl.Ex.trans hE3 (Pl.Ex.trans hE4 (Pl.Ex.trans hE5 (Pl.Ex.trans hE6 (Pl.Ex.trans hE7 (Pl.Ex.trans hE8 (Pl.Ex.trans hE9 (Pl.Ex.trans hE10 (Pl.Ex.trans hE11 (Pl.Ex.trans hE12 (Pl.Ex.trans hE13 (Pl.Ex.trans hE14 (Pl.Ex.trans hE15 (Pl.Ex.trans hE16 (Pl.Ex.trans hE17 hE18)))))))))))))))) (Sn.le la (by decide)) ((k : Nat) : Int) (fun j hj hlt => by omega)) ?_
      rintro e w19 ⟨r28, rfl, hr28, hE19⟩
      obtain rfl : r28 = false := by exact Bool.eq_false_iff.2 fun h => c25 (hr28.1 h).2
      have sz19 := Pl.Ex.size hE19
      refine ⟨_, rfl, trivial, ?_⟩
      refine Pl.qA_b (v := .bool true) (fun X => Pl.r_eqb Tryz.underlying4 (by decide) X) trivial rfl rfl rfl rfl rfl rfl ?_
      refine Pl.qA_go trivial rfl ?_
      refine Pl.pA_end ?_
      repeat refine Pl.V_seq ?_
      exact Pl.post_ret rfl rfl  (⟨rfl, (Pl.Ex.trans hE1 (Pl.Ex.trans hE2 (Pl.Ex.trans hE3 (Pl.Ex.trans hE4 (Pl.Ex.trans hE5 (Pl.Ex.trans hE6 (Pl.Ex.trans hE7 (Pl.Ex.trans hE8 (Pl.Ex.trans hE9 (Pl.Ex.trans hE10 (Pl.Ex.trans hE11 (Pl.Ex.trans hE12 (Pl.Ex.trans hE13 (Pl.Ex.trans hE14 (Pl.Ex.trans hE15 (Pl.Ex.trans hE16 (Pl.Ex.trans hE17 (Pl.Ex.trans hE18 hE19))))))))))))))))))⟩)
  · have hbz22 : blen a ≤ 32 * 8 := Sn.blen la
    refine Pl.pA_call rfl rfl rfl rfl rfl (fun u X => Pl.enters Tryz.func21 (by kernel_rfl) rfl u X) ?_
    refine Calls.mono (is_calls _ _ a (Un.below hv1 (Pl.Ex.trans hE3 (Pl.Ex.trans hE4 (Pl.Ex.trans hE5 (Pl.Ex.trans hE6 (Pl.Ex.trans hE7 (Pl.Ex.trans hE8 (Pl.Ex.trans hE9 (Pl.Ex.trans hE10 (Pl.Ex.trans hE11 (Pl.Ex.trans hE12 (Pl.Ex.trans hE13 (Pl.Ex.trans hE14 hE15))))))))))))) (Sn.le la (by decide)) ((few : Nat) : Int) (fun j hj hlt => by omega)) ?_
    rintro e w16 ⟨r21, rfl, hr21, hE16⟩
    obtain rfl : r21 = false := by exact Bool.eq_false_iff.2 fun h => c20 (hr21.1 h).2
    have sz16 := Pl.Ex.size hE16
    refine ⟨_, rfl, trivial, ?_⟩
    refine Pl.qA_go trivial rfl ?_
    have hbz24 : blen a ≤ 32 * 8 := Sn.blen la
    refine Pl.pA_call rfl rfl rfl rfl rfl (fun u X => Pl.enters Tryz.func22 (by kernel_rfl) rfl u X) ?_
    refine Calls.mono (ris_calls _ _ a (Un.below hv1 (Pl.Ex.trans hE3 (Pl.Ex.trans hE4 (Pl.Ex.trans hE5 (Pl.Ex.trans hE6 (Pl.Ex.trans hE7 (Pl.Ex.trans hE8 (Pl.Ex.trans hE9 (Pl.Ex.trans hE10 (Pl.Ex.trans hE11 (Pl.Ex.trans hE12 (Pl.Ex.trans hE13 (Pl.Ex.trans hE14 (Pl.Ex.trans hE15 hE16)))))))))))))) (Sn.le la (by decide)) ((few : Nat) : Int) (fun j hj hlt => by omega)) ?_
    rintro e w17 ⟨r23, rfl, hr23, hE17⟩
    obtain rfl : r23 = false := by exact Bool.eq_false_iff.2 fun h => c20 (hr23.1 h).2
    have sz17 := Pl.Ex.size hE17
    refine ⟨_, rfl, trivial, ?_⟩
    refine Pl.qA_b (v := .bool true) (fun X => Pl.r_eqb Tryz.underlying4 (by decide) X) trivial rfl rfl rfl rfl rfl rfl ?_
    refine Pl.qA_go trivial rfl ?_
    by_cases c25 : Rt.isP a k
    · have hbz27 : blen a ≤ 32 * 8 := Sn.blen la
      refine Pl.pA_call rfl rfl rfl rfl rfl (fun u X => Pl.enters Tryz.func21 (by kernel_rfl) rfl u X) ?_
      refine Calls.mono (is_calls _ _ a (Un.below hv1 (Pl.Ex.trans hE3 (Pl.Ex.trans hE4 (Pl.Ex.trans hE5 (Pl.Ex.trans hE6 (Pl.Ex.trans hE7 (Pl.Ex.trans hE8 (Pl.Ex.trans hE9 (Pl.Ex.trans hE10 (Pl.Ex.trans hE11 (Pl.Ex.trans hE12 (Pl.Ex.trans hE13 (Pl.Ex.trans hE14 (Pl.Ex.trans hE15 (Pl.Ex.trans hE16 hE17))))))))))))))) (Sn.le la (by decide)) ((k : Nat) : Int) (fun j hj hlt => by omega)) ?_
      rintro e w18 ⟨r26, rfl, hr26, hE18⟩
      obtain rfl : r26 = true := by exact hr26.2 ⟨by omega, c25⟩
      have sz18 := Pl.Ex.size hE18
      refine ⟨_, rfl, trivial, ?_⟩
      refine Pl.qA_go trivial rfl ?_
      have hbz29 : blen a ≤ 32 * 8 := Sn.blen la
      refine Pl.pA_call rfl rfl rfl rfl rfl (fun u X => Pl.enters Tryz.func22 (by kernel_rfl) rfl u X) ?_
      refine Calls.mono (ris_calls _ _ a (Un.below hv1 (Pl.Ex.trans hE3 (Pl.Ex.trans hE4 (Pl.Ex.trans hE5 (Pl.Ex.trans hE6 (Pl.Ex.trans hE7 (Pl.Ex.trans hE8 (Pl.Ex.trans hE9 (Pl.Ex.trans hE10 (Pl.Ex.trans hE11 (Pl.Ex.trans hE12 (Pl.Ex.trans hE13 (Pl.Ex.trans hE14 (Pl.Ex.trans hE15 (Pl.Ex.trans hE16 (Pl.Ex.trans hE17 hE18)))))))))))))))) (Sn.le la (by decide)) ((k : Nat) : Int) (fun j hj hlt => by omega)) ?_
      rintro e w19 ⟨r28, rfl, hr28, hE19⟩
      obtain rfl : r28 = true := by exact hr28.2 ⟨by omega, c25⟩
      have sz19 := Pl.Ex.size hE19
      refine ⟨_, rfl, trivial, ?_⟩
      refine Pl.qA_b (v := .bool true) (fun X => Pl.r_eqb Tryz.underlying4 (by decide) X) trivial rfl rfl rfl rfl rfl rfl ?_
      refine Pl.qA_go trivial rfl ?_
      refine Pl.pA_end ?_
      repeat refine Pl.V_seq ?_
      exact Pl.post_ret rfl rfl  (⟨rfl, (Pl.Ex.trans hE1 (Pl.Ex.trans hE2 (Pl.Ex.trans hE3 (Pl.Ex.trans hE4 (Pl.Ex.trans hE5 (Pl.Ex.trans hE6 (Pl.Ex.trans hE7 (Pl.Ex.trans hE8 (Pl.Ex.trans hE9 (Pl.Ex.trans hE10 (Pl.Ex.trans hE11 (Pl.Ex.trans hE12 (Pl.Ex.trans hE13 (Pl.Ex.trans hE14 (Pl.Ex.trans hE15 (Pl.Ex.trans hE16 (Pl.Ex.trans hE17 (Pl.Ex.trans hE18 hE19))))))))))))))))))⟩)
    · have hbz27 : blen a ≤ 32 * 8 := Sn.blen la
      refine Pl.pA_call rfl rfl rfl rfl rfl (fun u X => Pl.enters Tryz.func21 (by kernel_rfl) rfl u X) ?_
      refine Calls.mono (is_calls _ _ a (Un.below hv1 (Pl.Ex.trans hE3 (Pl.Ex.trans hE4 (Pl.Ex.trans hE5 (Pl.Ex.trans hE6 (Pl.Ex.trans hE7 (Pl.Ex.trans hE8 (Pl.Ex.trans hE9 (Pl.Ex.trans hE10 (Pl.Ex.trans hE11 (Pl.Ex.trans hE12 (Pl.Ex.trans hE13 (Pl.Ex.trans hE14 (Pl.Ex.trans hE15 (Pl.Ex.trans hE16 hE17))))))))))))))) (Sn.le la (by decide)) ((k : Nat) : Int) (fun j hj hlt => by omega)) ?_
      rintro e w18 ⟨r26, rfl, hr26, hE18⟩
      obtain rfl : r26 = false := by exact Bool.eq_false_iff.2 fun h => c25 (hr26.1 h).2
      have sz18 := Pl.Ex.size hE18
      refine ⟨_, rfl, trivial, ?_⟩
      refine Pl.qA_go trivial rfl ?_
      have hbz29 : blen a ≤ 32 * 8 := Sn.blen la
      refine Pl.pA_call rfl rfl rfl rfl rfl (fun u X => Pl.enters Tryz.func22 (by kernel_rfl) rfl u X) ?_
      refine Calls.mono (ris_calls _ _ a (Un.below hv1 (Pl.Ex.trans hE3 (Pl.Ex.trans hE4 (Pl.Ex.trans hE5 (Pl.Ex.trans hE6 (Pl.Ex.trans hE7 (Pl.Ex.trans hE8 (Pl.Ex.trans hE9 (Pl.Ex.trans hE10 (Pl.Ex.trans hE11 (Pl.Ex.trans hE12 (Pl.Ex.trans hE13 (Pl.Ex.trans hE14 (Pl.Ex.trans hE15 (Pl.Ex.trans hE16 (Pl.Ex.trans hE17 hE18)))))))))))))))) (Sn.le la (by decide)) ((k : Nat) : Int) (fun j hj hlt => by omega)) ?_
      rintro e w19 ⟨r28, rfl, hr28, hE19⟩
      obtain rfl : r28 = false := by exact Bool.eq_false_iff.2 fun h => c25 (hr28.1 h).2
      have sz19 := Pl.Ex.size hE19
      refine ⟨_, rfl, trivial, ?_⟩
      refine Pl.qA_b (v := .bool true) (fun X => Pl.r_eqb Tryz.underlying4 (by decide) X) trivial rfl rfl rfl rfl rfl rfl ?_
      refine Pl.qA_go trivial rfl ?_
      refine Pl.pA_end ?_
      repeat refine Pl.V_seq ?_
      exact Pl.post_ret rfl rfl  (⟨rfl, (Pl.Ex.trans hE1 (Pl.Ex.trans hE2 (Pl.Ex.trans hE3 (Pl.Ex.trans hE4 (Pl.Ex.trans hE5 (Pl.Ex.trans hE6 (Pl.Ex.trans hE7 (Pl.Ex.trans hE8 (Pl.Ex.trans hE9 (Pl.Ex.trans hE10 (Pl.Ex.trans hE11 (Pl.Ex.trans hE12 (Pl.Ex.trans hE13 (Pl.Ex.trans hE14 (Pl.Ex.trans hE15 (Pl.Ex.trans hE16 (Pl.Ex.trans hE17 (Pl.Ex.trans hE18 hE19))))))))))))))))))⟩)
theorem RootTells_walk (w : World) (r0 : Value) (xa : List Nat) (u0 : U w r0 xa) (z : Int) (n : Nat) (hn : n < 256) :
    Calls Tryz.prog 3 #[r0, .int .i64 z, .int .u8 ((n : Nat) : Int)] w fun e w' => e = .returned (.bool true) ∧ Ext w w' := by
  by_cases hbad : (z < 1 ∨ 1000000 < z) <;> by_cases hf : n % 40 < 1
  · exact RootTells_11 w r0 xa u0 z n hn hbad hf
  · exact RootTells_10 w r0 xa u0 z n hn hbad hf
  · exact RootTells_01 w r0 xa u0 z n hn hbad hf
  · exact RootTells_00 w r0 xa u0 z n hn hbad hf
end Go.Proofs.YtbdmncpibnligaaGreatDoor
/- Proved: the statement RootTells, without a condition. -/
namespace Go.Proofs.YtbdmncpibnligaaGreatDoor
open Go.ChangeShapes Go.WideShapes Go.ChangeAt Go.RowKit
set_option linter.unusedVariables false
set_option maxHeartbeats 2000000

set_option maxRecDepth 100000 in
theorem lifted_RootTells (os : Os) (started : os.Started) (H : Type) (enc : TypeId × Value → H) :
    ReturnsInHanded {} Tryz.checked os 3 .any (fun w args => (Rows.rootTellsSpec.pre enc Tryz.prog Tryz.f3 [] false w args ∧ laidMetH Tryz.prog laidT w) ∧ sizedMet enc Tryz.prog Tryz.f3 (OpenSpec.ofChange Rows.rootTellsSpec) false w args)
      (Rows.rootTellsSpec.post enc Tryz.prog Tryz.f3 false true false false) := by
  refine returnsInHanded_of_change_and (C := Tryz.checked) (X := fun w _ => laidMetH Tryz.prog laidT w) (fun _ _ _ hh h => h.of_heap hh) own started (by kernel_rfl) Tryz.func3
    (ChangeSpec.witness_shaped (enc := enc) (C := Tryz.checked) (os := os) (X := fun w _ => laidMetH Tryz.prog laidT w) false (World.doorLaid Tryz.prog 400 os) #[.slice none 0 0, .int .i64 0, .int .u8 0] 8 rfl (World.shaped_of_RefB (by kernel_rfl) (by kernel_rfl)) (by kernel_rfl) (by kernel_rfl) (by kernel_rfl) (door_met os _)) ?_
  intro W base args ds gs before hval0 hW _ _ hL _
  have hval : ∀ (j : Nat) t v, Tryz.f3.params[j]? = some t → args[j]? = some v → Value.okWide Tryz.prog W .any base t v := hval0
  have hW' := hW
  obtain ⟨p, q, hA0, hV, rfl, hfz, hnd⟩ := hW
  have hlt : ∀ x ∈ p ++ q, x.block < W.heap.size := fun x hx => hW'.lt x hx
  have hA : DataW.TrodAll enc Tryz.prog W 0 (fun _ => true) true Tryz.f3.params.toList args.toList ds p := hA0
  rw [Tryz.params3] at hA hval
  clear hA0 hval0
  obtain ⟨v0, vs0, d0, ds0, p0, q0, hargs0, rfl, rfl, h0, r0⟩ := trodAll_cons hA
  obtain ⟨v1, vs1, d1, ds1, p1, q1, hargs1, rfl, rfl, h1, r1⟩ := trodAll_cons r0
  obtain ⟨v2, vs2, d2, ds2, p2, q2, hargs2, rfl, rfl, h2, r2⟩ := trodAll_cons r1
  obtain ⟨hn1, rfl, rfl⟩ := trodAll_nil r2
  subst hn1
  subst hargs2
  subst hargs1
  obtain rfl : args = #[v0, v1, v2] := by cases args; simp_all
  obtain ⟨rfl, rfl⟩ := trodVars_none hV
  obtain ⟨xs0, u0⟩ := open_limbs (hval 0 22 v0 rfl rfl) h0 (fun x hx => hlt x (by simp [hx]))
  obtain ⟨z1, rfl, rfl, rfl, hz1⟩ := open_int Tryz.underlying3 (hval 1 3 v1 rfl rfl) h1
  obtain ⟨z2, rfl, rfl, rfl, hz2⟩ := open_int Tryz.underlying5 (hval 2 5 v2 rfl rfl) h2
  have hb2 := bounds_u8 hz2
  obtain ⟨n2, rfl⟩ := Int.eq_ofNat_of_zero_le (show 0 ≤ z2 by omega)
  refine (RootTells_walk W _ _ u0 z1 n2 (by omega)).mono fun e W' ⟨he, hB⟩ => ?_
  subst he
  exact ⟨_, rfl, law_post hW' rfl (by rw [Tryz.params3]; decide +kernel) rfl rfl rfl rfl hB⟩

theorem rootTells_said : Rows.RootTellsSaid :=
  OpenClaim.holds_of_wide 3 Tryz.f3 rfl rfl rfl rfl rfl rfl rfl ⟨rfl, rfl, rfl, rfl, rfl⟩ rfl rfl rfl rfl rfl (by kernel_rfl) Tryz.func3 (by kernel_rfl)
    (of_decide_eq_true (by kernel_rfl)) (by unfold Func.isWrapper; first | (rw [if_pos (by decide +kernel)]; kernel_rfl) | (rw [if_neg (by decide +kernel)]; exact ⟨rfl, rfl⟩))
    (fun os started H enc _ => lifted_RootTells os started H enc)
/-- The statement: the card, tied. -/
theorem rootTells_holds : Rows.RootTellsCardSaid :=
  Claim7.holds_tied_plain_at .later [] [.wider] true Rows.rootTellsCard.stood.harness false
    rootTells_said (fun _ h => by cases h) (by kernel_rfl) (fun _ h => by cases h) rootTells_row_tie rfl ⟨rfl, rfl⟩ (by kernel_rfl) rfl
    (fun f fn hf hfn => by
      obtain rfl : f = 3 := Option.some.inj ((show Tryz.prog.funcNamed "ziggurat/zigguratlaw08.RootTells" = some 3 by kernel_rfl).symm.trans hf) |>.symm
      obtain rfl : fn = Tryz.f3 := (Option.some.inj (Tryz.func3.symm.trans hfn)).symm
      exact ⟨by kernel_rfl, fun j t ht => by
        rw [Tryz.params3] at ht
        have hm : t ∈ [22, 3, 5] := by simpa using Array.mem_of_getElem? ht
        have hall : ([22, 3, 5].all fun u => !Tryz.prog.wantsStandIn u) = true := by kernel_rfl
        exact (show Tryz.prog.wantsStandIn t = false by simpa using List.all_eq_true.1 hall t hm)⟩)
    (by kernel_rfl)
end Go.Proofs.YtbdmncpibnligaaGreatDoor
