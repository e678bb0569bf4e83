/- Proved: the statement RootIs, without a condition. -/
import Derived.Test.YtbdmncpibnligaaGreatDoorBbh
import Derived.Test.YtbdmncpibnligaaGreatDoorBai

namespace Go.Proofs.YtbdmncpibnligaaGreatDoor
open Go.RowKit 
set_option linter.unusedVariables false
set_option linter.unusedSimpArgs false
set_option maxRecDepth 100000
set_option maxHeartbeats 4000000
theorem pow_bl {a k : Nat} (ha : blen a ≤ 64) (hk : k ≤ 8) (h1 : 1 ≤ k) : blen (a ^ k) ≤ 512 := by
  refine Nat.le_trans (blen_le_of_lt (k := blen a * k) (by rw [Nat.pow_mul]; exact Nat.pow_lt_pow_left (lt_pow_blen a) (by omega))) ?_
  have := Nat.mul_le_mul ha hk
  omega
theorem is_mod {a b m j : Nat} (h : Pwr a b m) (h1 : ¬ a ≤ 1) (hj : 1 ≤ j) : Rt.isP a j ↔ m % j = 0 := by
  rcases h with ⟨h0, _⟩ | ⟨h0, rfl, h2, h3⟩
  · omega
  · exact Rt.prim_isP h2 (pw_gt h0 rfl) (by omega) (by omega)
theorem RootIs_walk (w : World) (r0 : Value) (xa : List Nat) (u0 : U w r0 xa) (n : Nat) (hn : n < 256) (kk : Nat) (hkk : kk < 256) :
    Calls Tryz.prog 10 #[r0, .int .u8 ((n : Nat) : Int), .int .u8 ((kk : Nat) : Int)] w fun e w' => e = .returned (.bool true) ∧ Ext w w' := by
  obtain ⟨a, da⟩ : ∃ q, cutN xa 2 = q := ⟨_, rfl⟩
  have la : Sn a 2 := by rw [← da]; exact len_of (cut_lt xa 2 u0.lim)
  have ba : blen a ≤ 32 * 2 := Sn.blen la
  obtain ⟨e1, qe1⟩ : ∃ q, 1 + n % 8 = q := ⟨_, rfl⟩
  have ge1 : 1 ≤ e1 ∧ e1 ≤ 8 := by omega
  obtain ⟨j, qj⟩ : ∃ q, 1 + kk % 70 = q := ⟨_, rfl⟩
  have gj : 1 ≤ j ∧ j ≤ 70 := by omega
  have hmul : blen a * e1 ≤ 32 * 2 * 8 := Nat.mul_le_mul ba ge1.2
  have hpb : blen (a ^ e1) ≤ 512 := pow_bl (by omega) ge1.2 ge1.1
  refine Pl.calls_by (n := 57) (vs := [r0, .int .u8 ((n : Nat) : Int), .int .u8 ((kk : Nat) : Int)]) Tryz.func10 rfl (by kernel_rfl) (by simp) ?_
  repeat refine Pl.V_seq ?_
  refine Pl.V_region (by kernel_rfl) ?_
  refine Pl.qA_go trivial rfl ?_
  refine Pl.pA_end ?_
  repeat refine Pl.V_seq ?_
  refine Pl.V_region (by kernel_rfl) ?_
  refine Pl.pA_call rfl rfl rfl rfl rfl (fun u X => Pl.enters Tryz.func12 (by kernel_rfl) rfl u X) ?_
  refine Calls.mono (head8 _) ?_
  rintro e w1 ⟨rfl, hE1⟩
  have sz1 := Pl.Ex.size hE1
  refine ⟨_, rfl, trivial, ?_⟩
  refine Pl.qA_go trivial rfl ?_
  refine Pl.pA_end ?_
  repeat refine Pl.V_seq ?_
  refine Pl.V_region (by kernel_rfl) ?_
  refine Pl.qA_go trivial rfl ?_
  refine Pl.pA_call rfl rfl rfl rfl rfl (fun u X => Pl.enters Tryz.func13 (by kernel_rfl) rfl u X) ?_
  refine Calls.mono (made_B _ _ xa 2 (U.below u0 hE1) (by decide) (by decide) a da) ?_
  rintro e w2 ⟨v1, rfl, hv1, hE2⟩
  have sz2 := Pl.Ex.size hE2
  refine ⟨_, rfl, trivial, ?_⟩
  refine Pl.qA_go trivial rfl ?_
  refine Pl.qA_cv (c := ((n : Nat) : Int)) Tryz.underlying3 (by kernel_rfl) (Pl.c_id (a := n) rfl (Pl.w64 (by omega) (by omega))) trivial rfl rfl rfl rfl rfl ?_
  refine Pl.qA_b (v := .int .i64 (((n % 8) : Nat) : Int)) (fun X => nb_rem_i64 (a := n) (b := 8) (by omega) (by omega) X) trivial rfl rfl rfl rfl rfl rfl ?_
  refine Pl.qA_b (v := .int .i64 ((e1 : Nat) : Int)) (fun X => Pl.Bn.as (nb_add_i64 (a := 1) (b := (n % 8)) (by omega)) (by rw [qe1]) X) trivial rfl rfl rfl rfl rfl rfl ?_
  refine Pl.pA_call rfl rfl rfl rfl rfl (fun u X => Pl.enters Tryz.func24 (by kernel_rfl) rfl u X) ?_
  refine Calls.mono (lpower_Y _ _ a hv1 (Sn.le la (by decide)) e1 (by omega) (by omega)) ?_
  rintro e w3 ⟨v2, rfl, hv2, hE3⟩
  have sz3 := Pl.Ex.size hE3
  refine ⟨_, rfl, trivial, ?_⟩
  refine Pl.qA_go trivial rfl ?_
  refine Pl.pA_end ?_
  repeat refine Pl.V_seq ?_
  refine Pl.V_region (by kernel_rfl) ?_
  refine Pl.qA_go trivial rfl ?_
  refine Pl.qA_un (v := .bool false) trivial rfl rfl rfl rfl rfl (fun X => rfl) ?_
  refine Pl.qA_go trivial rfl ?_
  refine Pl.qA_bs (e := 36) (n := 1) [.int .u32 1] rfl rfl rfl rfl (by kernel_rfl) (fun Y hY => trivial) ?_
  intro N3 w4 hE4 hN_N3 k_N3_0
  have z_N3 := Pl.Cb.lt k_N3_0
  have sz4 := Pl.Ex.size hE4
  have hl4 := Un.one (x := 1) k_N3_0 rfl (by omega)
  refine Pl.pA_call rfl rfl rfl rfl rfl (fun u X => Pl.enters Tryz.func25 (by kernel_rfl) rfl u X) ?_
  refine Calls.mono (rcmp_B _ _ _ (a ^ e1) 1 (Un.below hv2 hE4) hl4 (Sn.le (pow_sn201 (by omega) : Sn (a ^ e1) 201) (by decide)) (Sn.le (Sn.of (K := 1) (by omega)) (by decide)) _ rfl) ?_
  rintro e w5 ⟨rfl, hE5⟩
  have sz5 := Pl.Ex.size hE5
  refine ⟨_, rfl, trivial, ?_⟩
  by_cases c5 : (a ^ e1) ≤ 1
  · refine Pl.qA_b (v := .bool true) (fun X => Cm.le_leq_t c5 X) trivial rfl rfl rfl rfl rfl rfl ?_
    refine Pl.qA_go trivial rfl ?_
    refine Pl.pA_end ?_
    repeat refine Pl.V_seq ?_
    refine Pl.V_true rfl ?_
    repeat refine Pl.V_seq ?_
    refine Pl.V_region (by kernel_rfl) ?_
    refine Pl.qA_go trivial rfl ?_
    refine Pl.pA_end ?_
    repeat refine Pl.V_seq ?_
    exact Pl.post_ret rfl rfl  (⟨rfl, (Pl.Ex.trans hE1 (Pl.Ex.trans hE2 (Pl.Ex.trans hE3 (Pl.Ex.trans hE4 hE5))))⟩)
  · refine Pl.qA_b (v := .bool false) (fun X => Cm.le_leq_f c5 X) trivial rfl rfl rfl rfl rfl rfl ?_
    refine Pl.qA_go trivial rfl ?_
    refine Pl.pA_end ?_
    repeat refine Pl.V_seq ?_
    refine Pl.V_false rfl ?_
    repeat refine Pl.V_seq ?_
    refine Pl.V_skip ?_
    repeat refine Pl.V_seq ?_
    refine Pl.V_region (by kernel_rfl) ?_
    refine Pl.qA_go trivial rfl ?_
    have hbz6 : blen (a ^ e1) ≤ 32 * 201 := Sn.blen (pow_sn201 (by omega) : Sn (a ^ e1) 201)
    refine Pl.pA_call rfl rfl rfl rfl rfl (fun u X => Pl.enters Tryz.func18 (by kernel_rfl) rfl u X) ?_
    refine Calls.mono (power_all _ _ (a ^ e1) (Un.below hv2 (Pl.Ex.trans hE4 hE5)) (Sn.le (pow_sn201 (by omega) : Sn (a ^ e1) 201) (by decide)) (by omega)) ?_
    rintro e w6 ⟨u7, pb8, pk9, rfl, hu7, hppb8, hE6⟩
    have lpb8 := Sn.down (pow_sn201 (by omega) : Sn (a ^ e1) 201) (pw_le hppb8)
    have qpk9 := pw_k hppb8
    have sz6 := Pl.Ex.size hE6
    refine ⟨_, rfl, trivial, ?_⟩
    refine Pl.qA_go trivial rfl ?_
    refine Pl.pA_end ?_
    repeat refine Pl.V_seq ?_
    refine Pl.V_region (by kernel_rfl) ?_
    refine Pl.qA_go trivial rfl ?_
    refine Pl.qA_cv (c := ((kk : Nat) : Int)) Tryz.underlying3 (by kernel_rfl) (Pl.c_id (a := kk) rfl (Pl.w64 (by omega) (by omega))) trivial rfl rfl rfl rfl rfl ?_
    refine Pl.qA_b (v := .int .i64 (((kk % 70) : Nat) : Int)) (fun X => nb_rem_i64 (a := kk) (b := 70) (by omega) (by omega) X) trivial rfl rfl rfl rfl rfl rfl ?_
    refine Pl.qA_b (v := .int .i64 ((j : Nat) : Int)) (fun X => Pl.Bn.as (nb_add_i64 (a := 1) (b := (kk % 70)) (by omega)) (by rw [qj]) X) trivial rfl rfl rfl rfl rfl rfl ?_
    refine Pl.qA_go trivial rfl ?_
    refine Pl.pA_end ?_
    repeat refine Pl.V_seq ?_
    refine Pl.V_draw (S := fun X => Pl.Ex w6 X) [(true, 0, 0), (true, 1, 1), (true, 2, 3), (true, 3, 7), (true, 4, 15), (true, 6, 31), (true, 7, 95), (true, 8, 223), (true, 9, 479), (false, 5, 991), (true, 10, 1023), (true, 11, 2047), (true, 12, 4095), (true, 13, 8191), (true, 14, 16383), (true, 15, 32767)] fo Pl.post_panic (by kernel_rfl) (Pl.Ex.trans (Pl.Ex.refl _) (Pl.Ex.drew _)) ?_
    have hE7 := Pl.Ex.drew w6
    generalize w6.drew = w7 at *
    have sz7 := Pl.Ex.size hE7
    intro hS7
    refine Pl.qA_go hS7 rfl ?_
    have hf7_1 : pk9 ≥ 1 := by omega
    refine Pl.qA_b (v := .bool true) (fun X => Pl.r_geq (decide_eq_true (by omega)) X) hS7 rfl rfl rfl rfl rfl rfl ?_
    refine Pl.qA_go hS7 rfl ?_
    refine Pl.qA_b (v := .int .i64 (((pk9 % j) : Nat) : Int)) (fun X => nb_rem_i64 (a := pk9) (b := j) (by omega) (by omega) X) hS7 rfl rfl rfl rfl rfl rfl ?_
    by_cases c10 : (pk9 % j) = 0
    · refine Pl.qA_b (v := .bool true) (fun X => Pl.r_eql (Pl.e_t (by omega)) X) hS7 rfl rfl rfl rfl rfl rfl ?_
      have hbz12 : blen (a ^ e1) ≤ 32 * 201 := Sn.blen (pow_sn201 (by omega) : Sn (a ^ e1) 201)
      refine Pl.pA_call rfl rfl rfl rfl rfl (fun u X => Pl.enters Tryz.func21 (by kernel_rfl) rfl u X) ?_
      refine Calls.mono (is_calls _ _ (a ^ e1) (Un.below hv2 (Pl.Ex.trans hE4 (Pl.Ex.trans hE5 (Pl.Ex.trans hE6 hE7)))) (Sn.le (pow_sn201 (by omega) : Sn (a ^ e1) 201) (by decide)) ((j : Nat) : Int) (fun j hj hlt => by omega)) ?_
      rintro e w8 ⟨r11, rfl, hr11, hE8⟩
      obtain rfl : r11 = true := by exact hr11.2 ⟨by omega, ((is_mod hppb8 c5 (by omega)).2 c10)⟩
      have sz8 := Pl.Ex.size hE8
      have hS8 := Pl.Ex.trans hS7 hE8
      refine ⟨_, rfl, hS8, ?_⟩
      refine Pl.qA_b (v := .bool true) (fun X => Pl.r_eqb Tryz.underlying4 (by decide) X) hS8 rfl rfl rfl rfl rfl rfl ?_
      refine Pl.qA_go hS8 rfl ?_
      refine Pl.pA_end ?_
      repeat refine Pl.V_seq ?_
      exact Pl.post_ret rfl rfl  (⟨rfl, (Pl.Ex.trans hE1 (Pl.Ex.trans hE2 (Pl.Ex.trans hE3 (Pl.Ex.trans hE4 (Pl.Ex.trans hE5 (Pl.Ex.trans hE6 (Pl.Ex.trans hE7 hE8)))))))⟩)
    · refine Pl.qA_b (v := .bool false) (fun X => Pl.r_eql (Pl.e_f (by omega)) X) hS7 rfl rfl rfl rfl rfl rfl ?_
      have hbz12 : blen (a ^ e1) ≤ 32 * 201 := Sn.blen (pow_sn201 (by omega) : Sn (a ^ e1) 201)
      refine Pl.pA_call rfl rfl rfl rfl rfl (fun u X => Pl.enters Tryz.func21 (by kernel_rfl) rfl u X) ?_
      refine Calls.mono (is_calls _ _ (a ^ e1) (Un.below hv2 (Pl.Ex.trans hE4 (Pl.Ex.trans hE5 (Pl.Ex.trans hE6 hE7)))) (Sn.le (pow_sn201 (by omega) : Sn (a ^ e1) 201) (by decide)) ((j : Nat) : Int) (fun j hj hlt => by omega)) ?_
      rintro e w8 ⟨r11, rfl, hr11, hE8⟩
      obtain rfl : r11 = false := by exact Bool.eq_false_iff.2 fun h => (fun h9 => c10 ((is_mod hppb8 c5 (by omega)).1 h9)) (hr11.1 h).2
      have sz8 := Pl.Ex.size hE8
      have hS8 := Pl.Ex.trans hS7 hE8
      refine ⟨_, rfl, hS8, ?_⟩
      refine Pl.qA_b (v := .bool true) (fun X => Pl.r_eqb Tryz.underlying4 (by decide) X) hS8 rfl rfl rfl rfl rfl rfl ?_
      refine Pl.qA_go hS8 rfl ?_
      refine Pl.pA_end ?_
      repeat refine Pl.V_seq ?_
      exact Pl.post_ret rfl rfl  (⟨rfl, (Pl.Ex.trans hE1 (Pl.Ex.trans hE2 (Pl.Ex.trans hE3 (Pl.Ex.trans hE4 (Pl.Ex.trans hE5 (Pl.Ex.trans hE6 (Pl.Ex.trans hE7 hE8)))))))⟩)
end Go.Proofs.YtbdmncpibnligaaGreatDoor
/- Proved: the statement RootIs, without a condition. -/
namespace Go.Proofs.YtbdmncpibnligaaGreatDoor
open Go.ChangeShapes Go.WideShapes Go.ChangeAt Go.RowKit
set_option linter.unusedVariables false
set_option maxHeartbeats 2000000

set_option maxRecDepth 100000 in
theorem lifted_RootIs (os : Os) (started : os.Started) (H : Type) (enc : TypeId × Value → H) :
    ReturnsInHanded {} Tryz.checked os 10 .any (fun w args => (Rows.rootIsSpec.pre enc Tryz.prog Tryz.f10 [] false w args ∧ laidMetH Tryz.prog laidT w) ∧ sizedMet enc Tryz.prog Tryz.f10 (OpenSpec.ofChange Rows.rootIsSpec) false w args)
      (Rows.rootIsSpec.post enc Tryz.prog Tryz.f10 false true false false) := by
  refine returnsInHanded_of_change_and (C := Tryz.checked) (X := fun w _ => laidMetH Tryz.prog laidT w) (fun _ _ _ hh h => h.of_heap hh) own started (by kernel_rfl) Tryz.func10
    (ChangeSpec.witness_shaped (enc := enc) (C := Tryz.checked) (os := os) (X := fun w _ => laidMetH Tryz.prog laidT w) false (World.doorLaid Tryz.prog 400 os) #[.slice none 0 0, .int .u8 0, .int .u8 0] 8 rfl (World.shaped_of_RefB (by kernel_rfl) (by kernel_rfl)) (by kernel_rfl) (by kernel_rfl) (by kernel_rfl) (door_met os _)) ?_
  intro W base args ds gs before hval0 hW _ _ hL _
  have hval : ∀ (j : Nat) t v, Tryz.f10.params[j]? = some t → args[j]? = some v → Value.okWide Tryz.prog W .any base t v := hval0
  have hW' := hW
  obtain ⟨p, q, hA0, hV, rfl, hfz, hnd⟩ := hW
  have hlt : ∀ x ∈ p ++ q, x.block < W.heap.size := fun x hx => hW'.lt x hx
  have hA : DataW.TrodAll enc Tryz.prog W 0 (fun _ => true) true Tryz.f10.params.toList args.toList ds p := hA0
  rw [Tryz.params10] at hA hval
  clear hA0 hval0
  obtain ⟨v0, vs0, d0, ds0, p0, q0, hargs0, rfl, rfl, h0, r0⟩ := trodAll_cons hA
  obtain ⟨v1, vs1, d1, ds1, p1, q1, hargs1, rfl, rfl, h1, r1⟩ := trodAll_cons r0
  obtain ⟨v2, vs2, d2, ds2, p2, q2, hargs2, rfl, rfl, h2, r2⟩ := trodAll_cons r1
  obtain ⟨hn1, rfl, rfl⟩ := trodAll_nil r2
  subst hn1
  subst hargs2
  subst hargs1
  obtain rfl : args = #[v0, v1, v2] := by cases args; simp_all
  obtain ⟨rfl, rfl⟩ := trodVars_none hV
  obtain ⟨xs0, u0⟩ := open_limbs (hval 0 22 v0 rfl rfl) h0 (fun x hx => hlt x (by simp [hx]))
  obtain ⟨z1, rfl, rfl, rfl, hz1⟩ := open_int Tryz.underlying5 (hval 1 5 v1 rfl rfl) h1
  have hb1 := bounds_u8 hz1
  obtain ⟨n1, rfl⟩ := Int.eq_ofNat_of_zero_le (show 0 ≤ z1 by omega)
  obtain ⟨z2, rfl, rfl, rfl, hz2⟩ := open_int Tryz.underlying5 (hval 2 5 v2 rfl rfl) h2
  have hb2 := bounds_u8 hz2
  obtain ⟨n2, rfl⟩ := Int.eq_ofNat_of_zero_le (show 0 ≤ z2 by omega)
  refine (RootIs_walk W _ _ u0 n1 (by omega) n2 (by omega)).mono fun e W' ⟨he, hB⟩ => ?_
  subst he
  exact ⟨_, rfl, law_post hW' rfl (by rw [Tryz.params10]; decide +kernel) rfl rfl rfl rfl hB⟩

theorem rootIs_said : Rows.RootIsSaid :=
  OpenClaim.holds_of_wide 10 Tryz.f10 rfl rfl rfl rfl rfl rfl rfl ⟨rfl, rfl, rfl, rfl, rfl⟩ rfl rfl rfl rfl rfl (by kernel_rfl) Tryz.func10 (by kernel_rfl)
    (of_decide_eq_true (by kernel_rfl)) (by unfold Func.isWrapper; first | (rw [if_pos (by decide +kernel)]; kernel_rfl) | (rw [if_neg (by decide +kernel)]; exact ⟨rfl, rfl⟩))
    (fun os started H enc _ => lifted_RootIs os started H enc)
/-- The statement: the card, tied. -/
theorem rootIs_holds : Rows.RootIsCardSaid :=
  Claim7.holds_tied_plain_at .later [] [.wider] true Rows.rootIsCard.stood.harness false
    rootIs_said (fun _ h => by cases h) (by kernel_rfl) (fun _ h => by cases h) rootIs_row_tie rfl ⟨rfl, rfl⟩ (by kernel_rfl) rfl
    (fun f fn hf hfn => by
      obtain rfl : f = 10 := Option.some.inj ((show Tryz.prog.funcNamed "ziggurat/zigguratlaw08.RootIs" = some 10 by kernel_rfl).symm.trans hf) |>.symm
      obtain rfl : fn = Tryz.f10 := (Option.some.inj (Tryz.func10.symm.trans hfn)).symm
      exact ⟨by kernel_rfl, fun j t ht => by
        rw [Tryz.params10] at ht
        have hm : t ∈ [22, 5, 5] := by simpa using Array.mem_of_getElem? ht
        have hall : ([22, 5, 5].all fun u => !Tryz.prog.wantsStandIn u) = true := by kernel_rfl
        exact (show Tryz.prog.wantsStandIn t = false by simpa using List.all_eq_true.1 hall t hm)⟩)
    (by kernel_rfl)
end Go.Proofs.YtbdmncpibnligaaGreatDoor
