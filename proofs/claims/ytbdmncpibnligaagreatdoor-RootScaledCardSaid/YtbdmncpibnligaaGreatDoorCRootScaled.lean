/- Proved: the statement RootScaled, without a condition. -/
import Derived.Test.YtbdmncpibnligaaGreatDoorBbh
import Derived.Test.YtbdmncpibnligaaGreatDoorBai

namespace Go.Proofs.YtbdmncpibnligaaGreatDoor
open Go.RowKit 
set_option linter.unusedVariables false
set_option linter.unusedSimpArgs false
set_option maxRecDepth 100000
set_option maxHeartbeats 4000000
theorem kr_scaled (a : Nat) {k y ky : Nat} (hk : k ≠ 0) (h : k * y = ky) : Rt.kr (a * 2 ^ ky) k / 2 ^ y = Rt.kr a k := by
  subst h
  rw [← Rt.kr_cut _ _ hk, Nat.mul_div_cancel _ (Nat.two_pow_pos _)]
theorem shl_sn {a ky : Nat} (h : blen a ≤ 32 * 40) (hy : ky ≤ 1200) : Sn (a * 2 ^ ky) 78 := by
  refine Sn.bits (b := blen a + ky) ?_ (by omega)
  rw [Nat.pow_add]
  exact Nat.mul_lt_mul_of_pos_right (lt_pow_blen a) (Nat.two_pow_pos _)
theorem RootScaled_walk (w : World) (r0 : Value) (xa : List Nat) (u0 : U w r0 xa) (na : Nat) (hna : na < 256) (nb : Nat) (hnb : nb < 256) :
    Calls Tryz.prog 8 #[r0, .agg #[.int .u8 ((na : Nat) : Int), .int .u8 ((nb : Nat) : Int)]] w fun e w' => e = .returned (.bool true) ∧ Ext w w' := by
  obtain ⟨a, da⟩ : ∃ q, cutN xa 40 = q := ⟨_, rfl⟩
  have la : Sn a 40 := by rw [← da]; exact len_of (cut_lt xa 40 u0.lim)
  have ba : blen a ≤ 32 * 40 := Sn.blen la
  obtain ⟨k, qk⟩ : ∃ q, 1 + na % 12 = q := ⟨_, rfl⟩
  have gk : 1 ≤ k ∧ k ≤ 12 := by omega
  obtain ⟨y, qy⟩ : ∃ q, nb % 101 = q := ⟨_, rfl⟩
  have gy : y ≤ 100 := by omega
  obtain ⟨ky, qky⟩ : ∃ q, k * y = q := ⟨_, rfl⟩
  have hky2 : ky ≤ 12 * 100 := by rw [← qky]; exact Nat.mul_le_mul gk.2 gy
  refine Pl.calls_by (n := 57) (vs := [r0, .agg #[.int .u8 ((na : Nat) : Int), .int .u8 ((nb : Nat) : Int)]]) Tryz.func8 rfl (by kernel_rfl) (by simp) ?_
  repeat refine Pl.V_seq ?_
  refine Pl.V_region (by kernel_rfl) ?_
  refine Pl.qA_bx (cs := [.int .u8 ((na : Nat) : Int), .int .u8 ((nb : Nat) : Int)]) rfl rfl rfl rfl rfl rfl (fun Y hY => trivial) ?_
  intro N1 w1 hE1 hN_N1 k_N1_0
  have z_N1 := Pl.Cb.lt k_N1_0
  have sz1 := Pl.Ex.size hE1
  refine Pl.qA_go trivial rfl ?_
  refine Pl.pA_end ?_
  repeat refine Pl.V_seq ?_
  refine Pl.V_region (by kernel_rfl) ?_
  refine Pl.pA_call rfl rfl rfl rfl rfl (fun u X => Pl.enters Tryz.func12 (by kernel_rfl) rfl u X) ?_
  refine Calls.mono (head8 _) ?_
  rintro e w2 ⟨rfl, hE2⟩
  have sz2 := Pl.Ex.size hE2
  refine ⟨_, rfl, trivial, ?_⟩
  refine Pl.qA_go trivial rfl ?_
  refine Pl.pA_end ?_
  repeat refine Pl.V_seq ?_
  refine Pl.V_draw (S := fun X => Pl.Ex w2 X) [(true, 0, 0), (true, 2, 1), (true, 3, 5), (true, 4, 13), (true, 5, 29), (true, 6, 61), (true, 7, 125), (true, 8, 253), (true, 9, 509), (true, 10, 1021), (false, 1, 2045), (true, 11, 2047), (true, 12, 4095), (true, 13, 8191)] fo Pl.post_panic (by kernel_rfl) (Pl.Ex.trans (Pl.Ex.refl _) (Pl.Ex.drew _)) ?_
  have hE3 := Pl.Ex.drew w2
  generalize w2.drew = w3 at *
  have sz3 := Pl.Ex.size hE3
  intro hS3
  refine Pl.qA_go hS3 rfl ?_
  refine Pl.qA_ia (s := 1) (j := 0) Tryz.underlying43 (by kernel_rfl) rfl (by omega) hS3 rfl rfl rfl rfl rfl rfl ?_
  refine Pl.qA_lc (v := .int .u8 ((na : Nat) : Int)) Tryz.underlying5 rfl (fun X hX => Pl.Cb.at (j := 0) (Pl.Cb.ex (Pl.Cb.ex k_N1_0 hE2) hX) rfl) hS3 rfl rfl rfl rfl rfl ?_
  refine Pl.qA_cv (c := ((na : Nat) : Int)) Tryz.underlying3 (by kernel_rfl) (Pl.c_id (a := na) rfl (Pl.w64 (by omega) (by omega))) hS3 rfl rfl rfl rfl rfl ?_
  refine Pl.qA_b (v := .int .i64 (((na % 12) : Nat) : Int)) (fun X => nb_rem_i64 (a := na) (b := 12) (by omega) (by omega) X) hS3 rfl rfl rfl rfl rfl rfl ?_
  refine Pl.qA_b (v := .int .i64 ((k : Nat) : Int)) (fun X => Pl.Bn.as (nb_add_i64 (a := 1) (b := (na % 12)) (by omega)) (by rw [qk]) X) hS3 rfl rfl rfl rfl rfl rfl ?_
  refine Pl.qA_ia (s := 1) (j := 1) Tryz.underlying43 (by kernel_rfl) rfl (by omega) hS3 rfl rfl rfl rfl rfl rfl ?_
  refine Pl.qA_lc (v := .int .u8 ((nb : Nat) : Int)) Tryz.underlying5 rfl (fun X hX => Pl.Cb.at (j := 1) (Pl.Cb.ex (Pl.Cb.ex k_N1_0 hE2) hX) rfl) hS3 rfl rfl rfl rfl rfl ?_
  refine Pl.qA_cv (c := ((nb : Nat) : Int)) Tryz.underlying3 (by kernel_rfl) (Pl.c_id (a := nb) rfl (Pl.w64 (by omega) (by omega))) hS3 rfl rfl rfl rfl rfl ?_
  refine Pl.qA_b (v := .int .i64 ((y : Nat) : Int)) (fun X => Pl.Bn.as (nb_rem_i64 (a := nb) (b := 101) (by omega) (by omega)) (by rw [qy]) X) hS3 rfl rfl rfl rfl rfl rfl ?_
  refine Pl.pA_call rfl rfl rfl rfl rfl (fun u X => Pl.enters Tryz.func13 (by kernel_rfl) rfl u X) ?_
  refine Calls.mono (made_B _ _ xa 40 (U.below u0 (Pl.Ex.trans hE1 (Pl.Ex.trans hE2 hE3))) (by decide) (by decide) a da) ?_
  rintro e w4 ⟨v2, rfl, hv2, hE4⟩
  have sz4 := Pl.Ex.size hE4
  have hS4 := Pl.Ex.trans hS3 hE4
  refine ⟨_, rfl, hS4, ?_⟩
  refine Pl.qA_go hS4 rfl ?_
  refine Pl.pA_end ?_
  repeat refine Pl.V_seq ?_
  refine Pl.V_region (by kernel_rfl) ?_
  refine Pl.qA_go trivial rfl ?_
  have hbz3 : blen a ≤ 32 * 40 := Sn.blen la
  refine Pl.pA_call rfl rfl rfl rfl rfl (fun u X => Pl.enters Tryz.func14 (by kernel_rfl) rfl u X) ?_
  refine Calls.mono (root_N _ _ a hv2 (Sn.le la (by decide)) k (by omega) (by omega) (fun j hj hlt => by omega)) ?_
  rintro e w5 ⟨v4, rfl, hv4, hE5⟩
  have sz5 := Pl.Ex.size hE5
  refine ⟨_, rfl, trivial, ?_⟩
  refine Pl.qA_go trivial rfl ?_
  refine Pl.pA_end ?_
  repeat refine Pl.V_seq ?_
  refine Pl.V_region (by kernel_rfl) ?_
  refine Pl.qA_go trivial rfl ?_
  refine Pl.qA_b (v := .int .i64 ((ky : Nat) : Int)) (fun X => Pl.Bn.as (nb_mul_i64 (a := k) (b := y) (by rw [qky]; omega)) (by rw [qky]) X) trivial rfl rfl rfl rfl rfl rfl ?_
  refine Pl.pA_call rfl rfl rfl rfl rfl (fun u X => Pl.enters Tryz.func27 (by kernel_rfl) rfl u X) ?_
  refine Calls.mono (rshl_B _ _ a ky (Un.below hv2 hE5) (by omega) (Sn.le la (by decide)) _ rfl) ?_
  rintro e w6 ⟨v5, rfl, hv5, hE6⟩
  have sz6 := Pl.Ex.size hE6
  refine ⟨_, rfl, trivial, ?_⟩
  refine Pl.qA_go trivial rfl ?_
  have hbz6 : blen (a * 2 ^ ky) ≤ 32 * 78 := Sn.blen (shl_sn ba (by omega))
  refine Pl.pA_call rfl rfl rfl rfl rfl (fun u X => Pl.enters Tryz.func14 (by kernel_rfl) rfl u X) ?_
  refine Calls.mono (root_N _ _ (a * 2 ^ ky) hv5 (Sn.le (shl_sn ba (by omega)) (by decide)) k (by omega) (by omega) (fun j hj hlt => by omega)) ?_
  rintro e w7 ⟨v7, rfl, hv7, hE7⟩
  have sz7 := Pl.Ex.size hE7
  refine ⟨_, rfl, trivial, ?_⟩
  refine Pl.qA_go trivial rfl ?_
  refine Pl.pA_end ?_
  repeat refine Pl.V_seq ?_
  refine Pl.V_region (by kernel_rfl) ?_
  refine Pl.qA_go trivial rfl ?_
  refine Pl.qA_b (v := .bool true) (fun X => Pl.r_eql (Pl.e_t (by omega)) X) trivial rfl rfl rfl rfl rfl rfl ?_
  refine Pl.qA_go trivial rfl ?_
  refine Pl.qA_b (v := .bool true) (fun X => Pl.r_eql (Pl.e_t (by omega)) X) trivial rfl rfl rfl rfl rfl rfl ?_
  refine Pl.qA_go trivial rfl ?_
  refine Pl.pA_call rfl rfl rfl rfl rfl (fun u X => Pl.enters Tryz.func29 (by kernel_rfl) rfl u X) ?_
  refine Calls.mono (rshr_B _ _ (Rt.kr (a * 2 ^ ky) k) y hv7 (by omega) (Sn.le (Sn.down (shl_sn ba (by omega)) (Rt.kr_self _ (by omega))) (by decide)) _ rfl) ?_
  rintro e w8 ⟨v8, rfl, hv8, hE8⟩
  have sz8 := Pl.Ex.size hE8
  refine ⟨_, rfl, trivial, ?_⟩
  refine Pl.qA_go trivial rfl ?_
  refine Pl.pA_call rfl rfl rfl rfl rfl (fun u X => Pl.enters Tryz.func20 (by kernel_rfl) rfl u X) ?_
  refine Calls.mono (same1 _ _ _ ((Rt.kr (a * 2 ^ ky) k) / 2 ^ y) (Rt.kr a k) hv8 (Un.below hv4 (Pl.Ex.trans hE6 (Pl.Ex.trans hE7 hE8))) true (decide_eq_true (kr_scaled a (by omega) qky))) ?_
  rintro e w9 ⟨rfl, hE9⟩
  have sz9 := Pl.Ex.size hE9
  refine ⟨_, rfl, trivial, ?_⟩
  refine Pl.qA_go trivial rfl ?_
  refine Pl.pA_end ?_
  repeat refine Pl.V_seq ?_
  exact Pl.post_ret rfl rfl  (⟨rfl, (Pl.Ex.trans hE1 (Pl.Ex.trans hE2 (Pl.Ex.trans hE3 (Pl.Ex.trans hE4 (Pl.Ex.trans hE5 (Pl.Ex.trans hE6 (Pl.Ex.trans hE7 (Pl.Ex.trans hE8 hE9))))))))⟩)
end Go.Proofs.YtbdmncpibnligaaGreatDoor
/- Proved: the statement RootScaled, without a condition. -/
namespace Go.Proofs.YtbdmncpibnligaaGreatDoor
open Go.ChangeShapes Go.WideShapes Go.ChangeAt Go.RowKit
set_option linter.unusedVariables false
set_option maxHeartbeats 2000000

theorem bounds_n8 {z : Int} (h : (Lit.int .u8 z).wf = true) : ∃ n : Nat, z = (n : Int) ∧ n < 256 := by
  have := bounds_u8 h
  exact ⟨z.toNat, by omega, by omega⟩
set_option maxRecDepth 100000 in
theorem open_nums8 {H : Type} {enc : TypeId × Value → H} {W : World} {base : Nat} {v : Value} {d : DataW H} {ps : List MemPlace} (hval : Value.okWide Tryz.prog W .any base 43 v) (h : DataW.Trod enc Tryz.prog W 0 (fun _ => true) true 43 v d ps) :
    ∃ n0 n1 : Nat, v = .agg #[.int .u8 (n0 : Nat), .int .u8 (n1 : Nat)] ∧ n0 < 256 ∧ n1 < 256 := by
  obtain ⟨cs, rfl, hsz⟩ := okWide_arr' Tryz.underlying43 hval
  rw [show Tryz.prog.cellsOf 43 = 2 by kernel_rfl] at hsz
  obtain ⟨l⟩ := cs
  match l, hsz with
  | [c0, c1], _ =>
    obtain ⟨fuel, hf⟩ := h
    obtain ⟨y0, y1, n, h0, h1⟩ := trod_array2 Tryz.underlying43 (show Tryz.prog.cellsOf 5 = 1 by kernel_rfl) hf
    obtain ⟨a0, e0, _, f0⟩ := DataW.trod_int Tryz.underlying5 h0
    obtain ⟨a1, e1, _, f1⟩ := DataW.trod_int Tryz.underlying5 h1
    simp at e0 e1
    subst e0 e1
    obtain ⟨n0, rfl, g0⟩ := bounds_n8 f0
    obtain ⟨n1, rfl, g1⟩ := bounds_n8 f1
    exact ⟨n0, n1, rfl, g0, g1⟩
set_option maxRecDepth 100000 in
theorem lifted_RootScaled (os : Os) (started : os.Started) (H : Type) (enc : TypeId × Value → H) :
    ReturnsInHanded {} Tryz.checked os 8 .any (fun w args => (Rows.rootScaledSpec.pre enc Tryz.prog Tryz.f8 [] false w args ∧ laidMetH Tryz.prog laidT w) ∧ sizedMet enc Tryz.prog Tryz.f8 (OpenSpec.ofChange Rows.rootScaledSpec) false w args)
      (Rows.rootScaledSpec.post enc Tryz.prog Tryz.f8 false true false false) := by
  refine returnsInHanded_of_change_and (C := Tryz.checked) (X := fun w _ => laidMetH Tryz.prog laidT w) (fun _ _ _ hh h => h.of_heap hh) own started (by kernel_rfl) Tryz.func8
    (ChangeSpec.witness_shaped (enc := enc) (C := Tryz.checked) (os := os) (X := fun w _ => laidMetH Tryz.prog laidT w) false (World.doorLaid Tryz.prog 400 os) #[.slice none 0 0, .agg #[.int .u8 0, .int .u8 0]] 8 rfl (World.shaped_of_RefB (by kernel_rfl) (by kernel_rfl)) (by kernel_rfl) (by kernel_rfl) (by kernel_rfl) (door_met os _)) ?_
  intro W base args ds gs before hval0 hW _ _ hL _
  have hval : ∀ (j : Nat) t v, Tryz.f8.params[j]? = some t → args[j]? = some v → Value.okWide Tryz.prog W .any base t v := hval0
  have hW' := hW
  obtain ⟨p, q, hA0, hV, rfl, hfz, hnd⟩ := hW
  have hlt : ∀ x ∈ p ++ q, x.block < W.heap.size := fun x hx => hW'.lt x hx
  have hA : DataW.TrodAll enc Tryz.prog W 0 (fun _ => true) true Tryz.f8.params.toList args.toList ds p := hA0
  rw [Tryz.params8] at hA hval
  clear hA0 hval0
  obtain ⟨v0, vs0, d0, ds0, p0, q0, hargs0, rfl, rfl, h0, r0⟩ := trodAll_cons hA
  obtain ⟨v1, vs1, d1, ds1, p1, q1, hargs1, rfl, rfl, h1, r1⟩ := trodAll_cons r0
  obtain ⟨hn1, rfl, rfl⟩ := trodAll_nil r1
  subst hn1
  subst hargs1
  obtain rfl : args = #[v0, v1] := by cases args; simp_all
  obtain ⟨rfl, rfl⟩ := trodVars_none hV
  obtain ⟨xs0, u0⟩ := open_limbs (hval 0 22 v0 rfl rfl) h0 (fun x hx => hlt x (by simp [hx]))
  obtain ⟨na1, nb1, hv1, hna1, hnb1⟩ := open_nums8 (hval 1 43 v1 rfl rfl) h1
  subst hv1
  refine (RootScaled_walk W _ _ u0 na1 hna1 nb1 hnb1).mono fun e W' ⟨he, hB⟩ => ?_
  subst he
  exact ⟨_, rfl, law_post hW' rfl (by rw [Tryz.params8]; decide +kernel) rfl rfl rfl rfl hB⟩

theorem rootScaled_said : Rows.RootScaledSaid :=
  OpenClaim.holds_of_wide 8 Tryz.f8 rfl rfl rfl rfl rfl rfl rfl ⟨rfl, rfl, rfl, rfl, rfl⟩ rfl rfl rfl rfl rfl (by kernel_rfl) Tryz.func8 (by kernel_rfl)
    (of_decide_eq_true (by kernel_rfl)) (by unfold Func.isWrapper; first | (rw [if_pos (by decide +kernel)]; kernel_rfl) | (rw [if_neg (by decide +kernel)]; exact ⟨rfl, rfl⟩))
    (fun os started H enc _ => lifted_RootScaled os started H enc)
/-- The statement: the card, tied. -/
theorem rootScaled_holds : Rows.RootScaledCardSaid :=
  Claim7.holds_tied_plain_at .later [] [.wider] true Rows.rootScaledCard.stood.harness false
    rootScaled_said (fun _ h => by cases h) (by kernel_rfl) (fun _ h => by cases h) rootScaled_row_tie rfl ⟨rfl, rfl⟩ (by kernel_rfl) rfl
    (fun f fn hf hfn => by
      obtain rfl : f = 8 := Option.some.inj ((show Tryz.prog.funcNamed "ziggurat/zigguratlaw08.RootScaled" = some 8 by kernel_rfl).symm.trans hf) |>.symm
      obtain rfl : fn = Tryz.f8 := (Option.some.inj (Tryz.func8.symm.trans hfn)).symm
      exact ⟨by kernel_rfl, fun j t ht => by
        rw [Tryz.params8] at ht
        have hm : t ∈ [22, 43] := by simpa using Array.mem_of_getElem? ht
        have hall : ([22, 43].all fun u => !Tryz.prog.wantsStandIn u) = true := by kernel_rfl
        exact (show Tryz.prog.wantsStandIn t = false by simpa using List.all_eq_true.1 hall t hm)⟩)
    (by kernel_rfl)
end Go.Proofs.YtbdmncpibnligaaGreatDoor
