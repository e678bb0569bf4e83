/- Proved: the statement MulSizes: whatever two rows and way: a product of two that are not 0 has as many bits as both together, or one less; it is right; with 0 it is 0, with 1 the other one. No condition. -/
import Derived.Test.YtkmejhkdmnjbeaaDoorPg

namespace Go.Proofs.YtkmejhkdmnjbeaaDoor
open Go.RowKit
set_option linter.unusedVariables false
set_option maxHeartbeats 400000

theorem rightB_limb {n : Nat} (h : (limbs n).length ≤ 65536) : rightB (limbs n) = true := by
  unfold rightB
  by_cases h0 : n = 0
  · subst h0; rw [limbs_zero]; rfl
  · have := limbs_last h0
    rw [decide_eq_true h, Bool.true_and, Bool.or_eq_true]
    right
    rw [bne_iff_ne]
    exact this
theorem len_zero (n : Nat) : ((limbs n).length = 0 → n = 0) ∧ (n = 0 → (limbs n).length = 0) := by
  refine ⟨fun h => ?_, fun h => by rw [h, limbs_zero]; rfl⟩
  have := val_limbs n
  rw [List.length_eq_zero_iff.1 h] at this
  exact this.symm
theorem blen_lim (n : Nat) : blen n ≤ 32 * (limbs n).length := by
  refine blen_le_of_lt ?_
  have := un_lt (n := n)
  rw [Nat.pow_mul]
  exact this
theorem bits_prod (a b : Nat) (ha : a ≠ 0) (hb : b ≠ 0) : blen (a * b) = blen a + blen b ∨ blen (a * b) + 1 = blen a + blen b := by
  have h1 := lt_pow_blen a
  have h2 := lt_pow_blen b
  have h3 := pow_blen_le ha
  have h4 := pow_blen_le hb
  have p1 := blen_pos ha
  have p2 := blen_pos hb
  have hup : a * b < 2 ^ (blen a + blen b) := by rw [Nat.pow_add]; exact Nat.mul_lt_mul'' h1 h2
  have hlo : 2 ^ (blen a - 1 + (blen b - 1)) ≤ a * b := by rw [Nat.pow_add]; exact Nat.mul_le_mul h3 h4
  have k1 := blen_le_of_lt hup
  have k2 := lt_blen_of_le hlo
  omega

set_option maxRecDepth 100000 in
set_option maxHeartbeats 8000000 in
theorem MulSizes_walk (w : World) (hg : Gl w) (r0 : Value) (xa : List Nat) (u0 : U w r0 xa) (r1 : Value) (xb : List Nat) (u1 : U w r1 xb) (x : Nat) (hx : x < 256) :
    Calls Tryd.prog 7 #[.agg #[r0, r1], .int .u8 (x : Nat)] w fun e w' => e = .returned (.bool true) ∧ Ext w w' := by
  obtain ⟨a, da⟩ : ∃ a, cutN xa 120 = a := ⟨_, rfl⟩
  have ta : Ltl a 120 := by rw [← da]; exact cut_lt xa 120 u0.lim
  have hMd_a := Lib.hid (fun W h => made_N W r0 xa h a da)
  have L_a := Lib.hid (len398 ta (by decide))
  obtain ⟨b, db⟩ : ∃ b, cutN xb 120 = b := ⟨_, rfl⟩
  have tb : Ltl b 120 := by rw [← db]; exact cut_lt xb 120 u1.lim
  have hMd_b := Lib.hid (fun W h => made_N W r1 xb h b db)
  have L_b := Lib.hid (len398 tb (by decide))
  obtain ⟨ab, dab⟩ : ∃ ab, a * b = ab := ⟨_, rfl⟩
  have tab : Ltl ab 240 := by rw [← dab]; exact mul_lt ta tb
  have L_ab := Lib.hid (len398 tab (by decide))
  have E_ab := Lib.hid dab
  obtain ⟨A0, c0, e0, hc0⟩ := u0.shape
  subst e0
  obtain ⟨A1, c1, e1, hc1⟩ := u1.shape
  subst e1
  have HB := (Ext.refl w).alloc (.cells #[.slice A0 xa.length c0, .slice A1 xb.length c1] 34)
  have HX := Bx2.new w A0 A1 xa.length c0 xb.length c1
  replace hg := hg.ext HB
  replace u0 := u0.below HB
  replace u1 := u1.below HB
  generalize xa.length = l0 at *
  generalize xb.length = l1 at *
  have L_one := Lib.hid (len1 (x := 1) (by decide))
  have L_zero := Lib.hid (len1 (x := 0) (by decide))
  have HBN := Lib.hid (bits_prod a b)
  rw [dab] at HBN
  have hbl : blen a ≤ 40000 ∧ blen b ≤ 40000 := ⟨Nat.le_trans (blen_lim a) (by have := L_a.out; omega), Nat.le_trans (blen_lim b) (by have := L_b.out; omega)⟩
  have hbl3 : blen ab ≤ 40000 := Nat.le_trans (blen_lim ab) (by have := L_ab.out; omega)
  have hZ := Lib.hid (len_zero a)
  have hZb := Lib.hid (len_zero b)
  have hZ0 : Hid (a = 0 ∨ b = 0 → (limbs ab).length = 0) := by rw [← dab]; rintro (h | h) <;> (rw [h]; simp [limbs_zero])
  clear da db ta tb dab tab hc0 hc1
  go_enter Tryd.func7, Tryd.ntmps7
  go_wp2_with (fail)
  refine (mhead_calls _ hg).mono ?_
  rintro e w1 ⟨rfl, hB⟩
  replace HB := HB.below hB
  replace hg := hg.ext hB
  replace u0 := u0.below hB
  replace u1 := u1.below hB
  replace HX := HX.ext hB
  clear hB
  obtain ⟨b0, b1, b2⟩ := id HX
  go_wp2_with (fail)
  refine (hMd_a.out _ u0).mono ?_
  rintro e w2 ⟨v_a, rfl, h_a, hB⟩
  clear b0 b1 b2
  clear u0
  replace HB := HB.below hB
  replace hg := hg.ext hB
  replace u1 := u1.below hB
  replace HX := HX.ext hB
  clear hB
  obtain ⟨b0, b1, b2⟩ := id HX
  go_wp2_with (fail)
  refine (hMd_b.out _ u1).mono ?_
  rintro e w3 ⟨v_b, rfl, h_b, hB⟩
  clear b0 b1 b2
  clear u1
  clear HX
  replace HB := HB.below hB
  replace hg := hg.ext hB
  replace h_a := U.below (U.asUn h_a) hB
  clear hB
  go_wp2_with (fail)
  refine (by_B x hx _ _ _ _ _ ab hg h_a h_b L_a.out L_b.out E_ab.out).mono ?_
  rintro e w4 ⟨v_p, rfl, h_p, hB⟩
  replace HB := HB.below hB
  replace hg := hg.ext hB
  replace h_a := U.below (U.asUn h_a) hB
  replace h_b := U.below (U.asUn h_b) hB
  clear hB
  go_wp2_with (fail)
  refine (right_B _ _ _ h_p true (rightB_limb (Nat.le_trans L_ab.out (by decide)))).mono ?_
  rintro e w5 ⟨rfl, hB⟩
  replace HB := HB.below hB
  replace hg := hg.ext hB
  replace h_a := U.below (U.asUn h_a) hB
  replace h_b := U.below (U.asUn h_b) hB
  replace h_p := U.below (U.asUn h_p) hB
  clear hB
  have h_one : Un (w5.alloc (.cells #[.int .u32 1] 35)) (.slice (some ⟨w5.heap.size, 0, none⟩) 1 1) 1 := Un_lit1 w5 _ rfl 1 (by decide) (by decide)
  have hB := (Ext.refl w5).alloc (.cells #[.int .u32 1] 35)
  replace HB := HB.below hB
  replace hg := hg.ext hB
  replace h_a := U.below (U.asUn h_a) hB
  replace h_b := U.below (U.asUn h_b) hB
  replace h_p := U.below (U.asUn h_p) hB
  clear hB
  go_wp2_with (fail)
  refine (by_B x hx _ _ _ _ _ a hg h_a h_one L_a.out L_one.out (Nat.mul_one a)).mono ?_
  rintro e w6 ⟨v_q, rfl, h_q, hB⟩
  clear h_one
  replace HB := HB.below hB
  replace hg := hg.ext hB
  replace h_a := U.below (U.asUn h_a) hB
  replace h_b := U.below (U.asUn h_b) hB
  replace h_p := U.below (U.asUn h_p) hB
  clear hB
  go_wp2_with (fail)
  refine (same_N _ _ _ _ _ h_q h_a true (decide_eq_true rfl)).mono ?_
  rintro e w7 ⟨rfl, hB⟩
  clear h_q
  replace HB := HB.below hB
  replace hg := hg.ext hB
  replace h_a := U.below (U.asUn h_a) hB
  replace h_b := U.below (U.asUn h_b) hB
  replace h_p := U.below (U.asUn h_p) hB
  clear hB
  go_wp2_with (fail)
  refine (by_B x hx _ _ _ 0 b 0 hg (Un_nil _) h_b L_zero.out L_b.out (Nat.zero_mul b)).mono ?_
  rintro e w8 ⟨v_z, rfl, h_z, hB⟩
  replace HB := HB.below hB
  replace hg := hg.ext hB
  replace h_a := U.below (U.asUn h_a) hB
  replace h_b := U.below (U.asUn h_b) hB
  replace h_p := U.below (U.asUn h_p) hB
  clear hB
  obtain ⟨A9, c9, hv9, _⟩ := U.shape (U.asUn h_z)
  rw [limbs_zero] at hv9
  subst hv9
  clear h_z
  obtain ⟨A7, c7, hv7, hk7⟩ := U.shape (U.asUn h_a)
  obtain ⟨A8, c8, hv8, hk8⟩ := U.shape (U.asUn h_b)
  obtain ⟨A6, c6, hv6, hk6⟩ := U.shape (U.asUn h_p)
  subst hv7 hv8 hv6
  obtain ⟨n7, hn7⟩ : ∃ n7, (limbs a).length = n7 := ⟨_, rfl⟩
  obtain ⟨n8, hn8⟩ : ∃ n8, (limbs b).length = n8 := ⟨_, rfl⟩
  obtain ⟨n6, hn6⟩ : ∃ n6, (limbs ab).length = n6 := ⟨_, rfl⟩
  have hbA := Lib.hid (fun W h => bits_B W (.slice A7 n7 c7) a h (lenG L_a.out) (blen a : Nat) rfl)
  have hbB := Lib.hid (fun W h => bits_B W (.slice A8 n8 c8) b h (lenG L_b.out) (blen b : Nat) rfl)
  have hbP := Lib.hid (fun W h => bits_B W (.slice A6 n6 c6) ab h (lenG L_ab.out) (blen ab : Nat) rfl)
  rw [hn7] at h_a hk7 ⊢
  rw [hn8] at h_b hk8 ⊢
  rw [hn6] at h_p hk6 ⊢
  by_cases h0 : a = 0 ∨ b = 0
  · have hp0 : n6 = 0 := by rw [← hn6]; exact hZ0.out h0
    clear hn6
    subst hp0
    by_cases ha0 : a = 0
    · have hn0 : n7 = 0 := by rw [← hn7]; exact hZ.out.2 ha0
      clear hn7
      subst hn0
      clear h0 ha0 hbA hbB hbP h_a h_b h_p
      go_wp2
      go_ret
      exact ⟨rfl, HB⟩
    · have hb0 : b = 0 := by rcases h0 with h | h; · exact absurd h ha0
                             · exact h
      have hn0 : n8 = 0 := by rw [← hn8]; exact hZb.out.2 hb0
      have hne : (((n7 : Nat) : Int) == 0) = false := by rw [beq_eq_false_iff_ne]; intro h; exact ha0 (hZ.out.1 (by omega))
      clear hn8
      subst hn0
      clear h0 ha0 hb0 hbA hbB hbP h_a h_b h_p hn7
      go_wp2
      go_ret
      exact ⟨rfl, HB⟩
  · have ha0 : a ≠ 0 := fun h => h0 (.inl h)
    have hb0 : b ≠ 0 := fun h => h0 (.inr h)
    have hne : (((n7 : Nat) : Int) == 0) = false := by rw [beq_eq_false_iff_ne]; intro h; exact ha0 (hZ.out.1 (by omega))
    have hne2 : (((n8 : Nat) : Int) == 0) = false := by rw [beq_eq_false_iff_ne]; intro h; exact hb0 (hZb.out.1 (by omega))
    have hbn := HBN.out ha0 hb0
    clear h0 ha0 hb0 hn6 hn7 hn8 hZ hZb hZ0 HBN
    generalize blen a = la at *
    generalize blen b = lb_ at *
    generalize blen ab = lp at *
    have hbn2 : ((lp : Int) == (la : Int) + (lb_ : Int)) = true ∨ ((lp : Int) == (la : Int) + (lb_ : Int)) = false ∧ ((lp : Int) == (la : Int) + (lb_ : Int) - 1) = true := by
      rcases hbn with h | h
      · left; rw [beq_iff_eq]; omega
      · right; refine ⟨?_, ?_⟩
        · rw [beq_eq_false_iff_ne]; omega
        · rw [beq_iff_eq]; omega
    clear hbn
    go_wp2_with (fail)
    refine (hbA.out _ h_a).mono ?_
    rintro e w9 ⟨rfl, hB⟩
    replace HB := HB.below hB
    replace h_b := U.below (U.asUn h_b) hB
    replace h_p := U.below (U.asUn h_p) hB
    clear hB
    go_wp2_with (fail)
    refine (hbB.out _ h_b).mono ?_
    rintro e w10 ⟨rfl, hB⟩
    replace HB := HB.below hB
    replace h_p := U.below (U.asUn h_p) hB
    clear hB
    go_wp2_with (fail)
    refine (hbP.out _ h_p).mono ?_
    rintro e w11 ⟨rfl, hB⟩
    replace HB := HB.below hB
    replace h_p := U.below (U.asUn h_p) hB
    clear hB
    rcases hbn2 with hq | ⟨hq, hq2⟩
    · go_wp2
      go_ret
      exact ⟨rfl, HB⟩
    · go_wp2_with (fail)
      refine (hbP.out _ h_p).mono ?_
      rintro e w99 ⟨rfl, hB⟩
      replace HB := HB.below hB
      go_wp2
      go_ret
      exact ⟨rfl, HB⟩
end Go.Proofs.YtkmejhkdmnjbeaaDoor
/- Proved: the statement MulSizes: whatever two rows and way: a product of two that are not 0 has as many bits as both together, or one less; it is right; with 0 it is 0, with 1 the other one. No condition. -/
namespace Go.Proofs.YtkmejhkdmnjbeaaDoor
open Go.ChangeShapes Go.WideShapes Go.ChangeAt Go.RowKit
set_option linter.unusedVariables false
set_option maxHeartbeats 2000000

set_option maxRecDepth 100000 in
theorem lifted_MulSizes (os : Os) (started : os.Started) (H : Type) (enc : TypeId × Value → H) :
    ReturnsInHanded {} Tryd.checked os 7 .any (fun w args => (Rows.mulSizesSpec.pre enc Tryd.prog Tryd.f7 [] false w args ∧ laidMetH Tryd.prog laidT w) ∧ sizedMet enc Tryd.prog Tryd.f7 (OpenSpec.ofChange Rows.mulSizesSpec) false w args)
      (Rows.mulSizesSpec.post enc Tryd.prog Tryd.f7 false true false false) := by
  refine returnsInHanded_of_change_and (C := Tryd.checked) (X := fun w _ => laidMetH Tryd.prog laidT w) (fun _ _ _ hh h => h.of_heap hh) own started (by kernel_rfl) Tryd.func7
    (ChangeSpec.witness_shaped (enc := enc) (C := Tryd.checked) (os := os) (X := fun w _ => laidMetH Tryd.prog laidT w) false (World.doorLaid Tryd.prog 400 os) #[.agg #[.slice none 0 0, .slice none 0 0], .int .u8 0] 8 rfl (World.shaped_of_RefB (by kernel_rfl) (by kernel_rfl)) (by kernel_rfl) (by kernel_rfl) (by kernel_rfl) (door_met os _)) ?_
  intro W base args ds gs before hval0 hW _ _ hL _
  have hval : ∀ (j : Nat) t v, Tryd.f7.params[j]? = some t → args[j]? = some v → Value.okWide Tryd.prog W .any base t v := hval0
  have hW' := hW
  obtain ⟨p, q, hA0, hV, rfl, hfz, hnd⟩ := hW
  have hlt : ∀ x ∈ p ++ q, x.block < W.heap.size := fun x hx => hW'.lt x hx
  have hA : DataW.TrodAll enc Tryd.prog W 0 (fun _ => true) true Tryd.f7.params.toList args.toList ds p := hA0
  rw [Tryd.params7] at hA hval
  clear hA0 hval0
  obtain ⟨v0, vs0, d0, ds0, p0, q0, hargs0, rfl, rfl, h0, r0⟩ := trodAll_cons hA
  obtain ⟨v1, vs1, d1, ds1, p1, q1, hargs1, rfl, rfl, h1, r1⟩ := trodAll_cons r0
  obtain ⟨hn1, rfl, rfl⟩ := trodAll_nil r1
  subst hn1
  subst hargs1
  obtain rfl : args = #[v0, v1] := by cases args; simp_all
  obtain ⟨rfl, rfl⟩ := trodVars_none hV
  obtain ⟨ra0, rb0, xa0, xb0, hv0, ua0, ub0⟩ := open_two (hval 0 34 v0 rfl rfl) h0 (fun x hx => hlt x (by simp [hx]))
  subst hv0
  obtain ⟨z1, rfl, rfl, rfl, hz1⟩ := open_int Tryd.underlying5 (hval 1 5 v1 rfl rfl) h1
  have hb1 := bounds_u8 hz1
  obtain ⟨n1, rfl⟩ := Int.eq_ofNat_of_zero_le (show 0 ≤ z1 by omega)
  refine (MulSizes_walk W (gl_of_laid hL) _ _ ua0 _ _ ub0 n1 (by omega)).mono fun e W' ⟨he, hB⟩ => ?_
  subst he
  exact ⟨_, rfl, law_post hW' rfl (by rw [Tryd.params7]; decide +kernel) rfl rfl rfl rfl hB⟩

theorem mulSizes_said : Rows.MulSizesSaid :=
  OpenClaim.holds_of_wide 7 Tryd.f7 rfl rfl rfl rfl rfl rfl rfl ⟨rfl, rfl, rfl, rfl, rfl⟩ rfl rfl rfl rfl rfl (by kernel_rfl) Tryd.func7 (by kernel_rfl)
    (of_decide_eq_true (by kernel_rfl)) (by unfold Func.isWrapper; first | (rw [if_pos (by decide +kernel)]; kernel_rfl) | (rw [if_neg (by decide +kernel)]; exact ⟨rfl, rfl⟩))
    (fun os started H enc _ => lifted_MulSizes os started H enc)
/-- The statement: the card, tied. -/
theorem mulSizes_holds : Rows.MulSizesCardSaid :=
  Claim7.holds_tied_plain_at .later [] [.wider] true Rows.mulSizesCard.stood.harness false
    mulSizes_said (fun _ h => by cases h) (by kernel_rfl) (fun _ h => by cases h) mulSizes_row_tie rfl ⟨rfl, rfl⟩ (by kernel_rfl) rfl
    (fun f fn hf hfn => by
      obtain rfl : f = 7 := Option.some.inj ((show Tryd.prog.funcNamed "ziggurat/zigguratlaw03.MulSizes" = some 7 by kernel_rfl).symm.trans hf) |>.symm
      obtain rfl : fn = Tryd.f7 := (Option.some.inj (Tryd.func7.symm.trans hfn)).symm
      exact ⟨by kernel_rfl, fun j t ht => by
        rw [Tryd.params7] at ht
        have hm : t ∈ [34, 5] := by simpa using Array.mem_of_getElem? ht
        have hall : ([34, 5].all fun u => !Tryd.prog.wantsStandIn u) = true := by kernel_rfl
        exact (show Tryd.prog.wantsStandIn t = false by simpa using List.all_eq_true.1 hall t hm)⟩)
    (by kernel_rfl)
end Go.Proofs.YtkmejhkdmnjbeaaDoor
