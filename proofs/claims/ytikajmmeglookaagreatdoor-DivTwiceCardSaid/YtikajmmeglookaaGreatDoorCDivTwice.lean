/- Proved: the statement DivTwice: for any three rows (of at most 40, 15 and 15 limbs): dividing by one, and then by another one, is dividing by their product; the rests go together. No condition. -/
import Derived.Test.YtikajmmeglookaaGreatDoorPj

namespace Go.Proofs.YtikajmmeglookaaGreatDoor
open Go.RowKit
set_option linter.unusedVariables false
set_option maxHeartbeats 400000

set_option maxRecDepth 100000 in
set_option maxHeartbeats 8000000 in
theorem DivTwice_walk (w : World) (r0 : Value) (xa : List Nat) (u0 : U w r0 xa) (r1 : Value) (xb : List Nat) (u1 : U w r1 xb) (r2 : Value) (xc : List Nat) (u2 : U w r2 xc) :
    Calls Tryz.prog 9 #[r0, r1, r2] w fun e w' => e = .returned (.bool true) ∧ Ext w w' := by
  have HB := Ext.refl w
  obtain ⟨a, da⟩ : ∃ a, cutN xa 40 = a := ⟨_, rfl⟩
  have ta : (limbs a).length ≤ 40 := by rw [← da]; exact len_of (cut_lt xa 40 u0.lim)
  have hMd_a := Lib.hid (fun W (h : U W r0 xa) => made_B W r0 xa 40 h (by decide) (by decide) a da)
  obtain ⟨b, db⟩ : ∃ b, cutN xb 15 = b := ⟨_, rfl⟩
  have tb : (limbs b).length ≤ 15 := by rw [← db]; exact len_of (cut_lt xb 15 u1.lim)
  have hMd_b := Lib.hid (fun W (h : U W r1 xb) => made_B W r1 xb 15 h (by decide) (by decide) b db)
  obtain ⟨c, dc⟩ : ∃ c, cutN xc 15 = c := ⟨_, rfl⟩
  have tc : (limbs c).length ≤ 15 := by rw [← dc]; exact len_of (cut_lt xc 15 u2.lim)
  have hMd_c := Lib.hid (fun W (h : U W r2 xc) => made_B W r2 xc 15 h (by decide) (by decide) c dc)
  clear da db dc
  by_cases h0b : b = 0
  · subst h0b
    go_enter Tryz.func9, Tryz.ntmps9
    go_wp2_with (fail)
    refine (dhead_calls _).mono ?_
    rintro e w1 ⟨rfl, hB⟩
    replace u0 := U.below u0 hB
    replace u1 := U.below u1 hB
    replace u2 := U.below u2 hB
    replace HB := HB.below hB
    clear hB
    go_wp2_with (fail)
    refine (hMd_a.out _ u0).mono ?_
    rintro e w2 ⟨v_a, rfl, h_a, hB⟩
    replace u1 := U.below u1 hB
    replace u2 := U.below u2 hB
    replace HB := HB.below hB
    clear hB
    clear u0
    go_wp2_with (fail)
    refine (hMd_b.out _ u1).mono ?_
    rintro e w3 ⟨v_b, rfl, h_b, hB⟩
    replace h_a := U.below (U.asUn h_a) hB
    replace u2 := U.below u2 hB
    replace HB := HB.below hB
    clear hB
    clear u1
    obtain ⟨Ab, cb, rfl⟩ := un_zero h_b
    go_wp2_with (fail)
    refine (hMd_c.out _ u2).mono ?_
    rintro e w4 ⟨v_c, rfl, h_c, hB⟩
    replace h_a := U.below (U.asUn h_a) hB
    replace h_b := U.below (U.asUn h_b) hB
    replace HB := HB.below hB
    clear hB
    clear u2
    go_wp2
    go_ret
    exact ⟨rfl, HB⟩
  · by_cases h0c : c = 0
    · subst h0c
      obtain ⟨Lb, hLb⟩ : ∃ Lb, (limbs b).length = Lb := ⟨_, rfl⟩
      have hL0b : ((Lb : Int) == 0) = false := by rw [beq_eq_false_iff_ne]; have := limbs_nz h0b; omega
      have hL1b : ¬ Lb = 0 := by have := limbs_nz h0b; omega
      clear ta tb tc
      go_enter Tryz.func9, Tryz.ntmps9
      go_wp2_with (fail)
      refine (dhead_calls _).mono ?_
      rintro e w1 ⟨rfl, hB⟩
      replace u0 := U.below u0 hB
      replace u1 := U.below u1 hB
      replace u2 := U.below u2 hB
      replace HB := HB.below hB
      clear hB
      go_wp2_with (fail)
      refine (hMd_a.out _ u0).mono ?_
      rintro e w2 ⟨v_a, rfl, h_a, hB⟩
      replace u1 := U.below u1 hB
      replace u2 := U.below u2 hB
      replace HB := HB.below hB
      clear hB
      clear u0
      go_wp2_with (fail)
      refine (hMd_b.out _ u1).mono ?_
      rintro e w3 ⟨v_b, rfl, h_b, hB⟩
      replace h_a := U.below (U.asUn h_a) hB
      replace u2 := U.below u2 hB
      replace HB := HB.below hB
      clear hB
      clear u1
      obtain ⟨Ab, cb, rfl, hcb⟩ := U.shape (U.asUn h_b)
      rw [hLb] at h_b ⊢
      clear hcb
      go_wp2_with (fail)
      refine (hMd_c.out _ u2).mono ?_
      rintro e w4 ⟨v_c, rfl, h_c, hB⟩
      replace h_a := U.below (U.asUn h_a) hB
      replace h_b := U.below (U.asUn h_b) hB
      replace HB := HB.below hB
      clear hB
      clear u2
      obtain ⟨Ac, cc, rfl⟩ := un_zero h_c
      go_wp2
      go_ret
      exact ⟨rfl, HB⟩
    · obtain ⟨q, hq⟩ : ∃ q, a / b = q := ⟨_, rfl⟩
      obtain ⟨r, hr⟩ : ∃ r, a % b = r := ⟨_, rfl⟩
      obtain ⟨-, -, e3, e4⟩ := dm_all h0b hq hr ta
      obtain ⟨s, hs⟩ : ∃ s, q / c = s := ⟨_, rfl⟩
      obtain ⟨t, ht⟩ : ∃ t, q % c = t := ⟨_, rfl⟩
      obtain ⟨-, -, e5, e6⟩ := dm_all h0c hs ht e3
      obtain ⟨p, hp⟩ : ∃ p, b * c = p := ⟨_, rfl⟩
      obtain ⟨tb2, htb⟩ : ∃ tb2, t * b = tb2 := ⟨_, rfl⟩
      obtain ⟨v, hv⟩ : ∃ v, tb2 + r = v := ⟨_, rfl⟩
      have h0p : p ≠ 0 := by rw [← hp]; exact Nat.mul_ne_zero h0b h0c
      have hlp : (limbs p).length ≤ 30 := by rw [← hp]; exact len_of (mul_lt (i := 15) (j := 15) (lt_of_len_le tb) (lt_of_len_le tc))
      have d1 : a / p = s := by rw [← hp, ← Nat.div_div_eq_div_mul, hq, hs]
      have d2 : a % p = v := by rw [← hp, Nat.mod_mul, hq, hr, ht, ← hv, ← htb, Nat.mul_comm b t, Nat.add_comm]
      have hlv : (limbs v).length ≤ 40 := by rw [← d2]; exact Nat.le_trans (len_mono (Nat.mod_le _ _)) ta
      have hltb : (limbs tb2).length ≤ 40 := Nat.le_trans (len_mono (by omega)) hlv
      have HQ := Lib.hid (And.intro hq hr)
      have HS := Lib.hid (And.intro hs ht)
      have HD := Lib.hid (And.intro d1 d2)
      have HP := Lib.hid hp
      have HT := Lib.hid htb
      have HV := Lib.hid hv
      have LL := Lib.hid (And.intro ta (And.intro tb (And.intro tc (And.intro e3 (And.intro e4 (And.intro e5 (And.intro e6 (And.intro hlp (And.intro hlv hltb)))))))))
      have H0 := Lib.hid (And.intro h0b (And.intro h0c h0p))
      obtain ⟨Lb, hLb⟩ : ∃ Lb, (limbs b).length = Lb := ⟨_, rfl⟩
      have hL0b : ((Lb : Int) == 0) = false := by rw [beq_eq_false_iff_ne]; have := limbs_nz h0b; omega
      have hL1b : ¬ Lb = 0 := by have := limbs_nz h0b; omega
      obtain ⟨Lc, hLc⟩ : ∃ Lc, (limbs c).length = Lc := ⟨_, rfl⟩
      have hL0c : ((Lc : Int) == 0) = false := by rw [beq_eq_false_iff_ne]; have := limbs_nz h0c; omega
      have hL1c : ¬ Lc = 0 := by have := limbs_nz h0c; omega
      clear hq hr hs ht hp htb hv h0p hlp d1 d2 hlv hltb e3 e4 e5 e6 ta tb tc h0b h0c
      go_enter Tryz.func9, Tryz.ntmps9
      go_wp2_with (fail)
      refine (dhead_calls _).mono ?_
      rintro e w1 ⟨rfl, hB⟩
      replace u0 := U.below u0 hB
      replace u1 := U.below u1 hB
      replace u2 := U.below u2 hB
      replace HB := HB.below hB
      clear hB
      go_wp2_with (fail)
      refine (hMd_a.out _ u0).mono ?_
      rintro e w2 ⟨v_a, rfl, h_a, hB⟩
      replace u1 := U.below u1 hB
      replace u2 := U.below u2 hB
      replace HB := HB.below hB
      clear hB
      clear u0
      go_wp2_with (fail)
      refine (hMd_b.out _ u1).mono ?_
      rintro e w3 ⟨v_b, rfl, h_b, hB⟩
      replace h_a := U.below (U.asUn h_a) hB
      replace u2 := U.below u2 hB
      replace HB := HB.below hB
      clear hB
      clear u1
      obtain ⟨Ab, cb, rfl, hcb⟩ := U.shape (U.asUn h_b)
      rw [hLb] at h_b ⊢
      clear hcb
      go_wp2_with (fail)
      refine (hMd_c.out _ u2).mono ?_
      rintro e w4 ⟨v_c, rfl, h_c, hB⟩
      replace h_a := U.below (U.asUn h_a) hB
      replace h_b := U.below (U.asUn h_b) hB
      replace HB := HB.below hB
      clear hB
      clear u2
      obtain ⟨Ac, cc, rfl, hcc⟩ := U.shape (U.asUn h_c)
      rw [hLc] at h_c ⊢
      clear hcc
      go_wp2_with (fail)
      refine (divmod_D _ _ _ a b q r h_a h_b (by have := LL.out; omega) (by have := LL.out; omega) H0.out.1 HQ.out.1 HQ.out.2).mono ?_
      rintro e w5 ⟨⟨v_q, v_r, rfl, h_q, h_r⟩, hB⟩
      replace h_a := U.below (U.asUn h_a) hB
      replace h_b := U.below (U.asUn h_b) hB
      replace h_c := U.below (U.asUn h_c) hB
      replace HB := HB.below hB
      clear hB
      go_wp2_with (fail)
      refine (newton_D _ _ _ q c s t h_q h_c (by have := LL.out; omega) (by have := LL.out; omega) H0.out.2.1 HS.out.1 HS.out.2).mono ?_
      rintro e w6 ⟨⟨v_s, v_t, rfl, h_s, h_t⟩, hB⟩
      clear h_q
      replace h_a := U.below (U.asUn h_a) hB
      replace h_b := U.below (U.asUn h_b) hB
      replace h_c := U.below (U.asUn h_c) hB
      replace h_r := U.below (U.asUn h_r) hB
      replace HB := HB.below hB
      clear hB
      go_wp2_with (fail)
      refine (rmul_B _ _ _ b c p h_b h_c (by have := LL.out; omega) (by have := LL.out; omega) HP.out).mono ?_
      rintro e w7 ⟨v_p, rfl, h_p, hB⟩
      clear h_c
      replace h_a := U.below (U.asUn h_a) hB
      replace h_b := U.below (U.asUn h_b) hB
      replace h_r := U.below (U.asUn h_r) hB
      replace h_s := U.below (U.asUn h_s) hB
      replace h_t := U.below (U.asUn h_t) hB
      replace HB := HB.below hB
      clear hB
      go_wp2_with (fail)
      refine (ziegler_D _ _ _ a p s v h_a h_p (by have := LL.out; omega) (by have := LL.out; omega) H0.out.2.2 HD.out.1 HD.out.2).mono ?_
      rintro e w8 ⟨⟨v_u, v_v, rfl, h_u, h_v⟩, hB⟩
      clear h_a
      clear h_p
      replace h_b := U.below (U.asUn h_b) hB
      replace h_r := U.below (U.asUn h_r) hB
      replace h_s := U.below (U.asUn h_s) hB
      replace h_t := U.below (U.asUn h_t) hB
      replace HB := HB.below hB
      clear hB
      go_wp2_with (fail)
      refine (sameT _ _ _ _ h_s h_u).mono ?_
      rintro e w9 ⟨rfl, hB⟩
      clear h_s
      clear h_u
      replace h_b := U.below (U.asUn h_b) hB
      replace h_r := U.below (U.asUn h_r) hB
      replace h_t := U.below (U.asUn h_t) hB
      replace h_v := U.below (U.asUn h_v) hB
      replace HB := HB.below hB
      clear hB
      go_wp2_with (fail)
      refine (rmul_B _ _ _ t b tb2 h_t h_b (by have := LL.out; omega) (by have := LL.out; omega) HT.out).mono ?_
      rintro e w10 ⟨v_m, rfl, h_m, hB⟩
      clear h_t
      clear h_b
      replace h_r := U.below (U.asUn h_r) hB
      replace h_v := U.below (U.asUn h_v) hB
      replace HB := HB.below hB
      clear hB
      go_wp2_with (fail)
      refine (radd_B _ _ _ tb2 r h_m h_r (by have := LL.out; omega) (by have := LL.out; omega) v HV.out).mono ?_
      rintro e w11 ⟨v_x, rfl, h_x, hB⟩
      clear h_m
      clear h_r
      replace h_v := U.below (U.asUn h_v) hB
      replace HB := HB.below hB
      clear hB
      go_wp2_with (fail)
      refine (sameT _ _ _ _ h_x h_v).mono ?_
      rintro e w12 ⟨rfl, hB⟩
      clear h_x
      clear h_v
      replace HB := HB.below hB
      clear hB
      go_wp2
      go_ret
      exact ⟨rfl, HB⟩
end Go.Proofs.YtikajmmeglookaaGreatDoor
/- Proved: the statement DivTwice: for any three rows (of at most 40, 15 and 15 limbs): dividing by one, and then by another one, is dividing by their product; the rests go together. No condition. -/
namespace Go.Proofs.YtikajmmeglookaaGreatDoor
open Go.ChangeShapes Go.WideShapes Go.ChangeAt Go.RowKit
set_option linter.unusedVariables false
set_option maxHeartbeats 2000000

set_option maxRecDepth 100000 in
theorem lifted_DivTwice (os : Os) (started : os.Started) (H : Type) (enc : TypeId × Value → H) :
    ReturnsInHanded {} Tryz.checked os 9 .any (fun w args => (Rows.divTwiceSpec.pre enc Tryz.prog Tryz.f9 [] false w args ∧ laidMetH Tryz.prog laidT w) ∧ sizedMet enc Tryz.prog Tryz.f9 (OpenSpec.ofChange Rows.divTwiceSpec) false w args)
      (Rows.divTwiceSpec.post enc Tryz.prog Tryz.f9 false true false false) := by
  refine returnsInHanded_of_change_and (C := Tryz.checked) (X := fun w _ => laidMetH Tryz.prog laidT w) (fun _ _ _ hh h => h.of_heap hh) own started (by kernel_rfl) Tryz.func9
    (ChangeSpec.witness_shaped (enc := enc) (C := Tryz.checked) (os := os) (X := fun w _ => laidMetH Tryz.prog laidT w) false (World.doorLaid Tryz.prog 400 os) #[.slice none 0 0, .slice none 0 0, .slice none 0 0] 8 rfl (World.shaped_of_RefB (by kernel_rfl) (by kernel_rfl)) (by kernel_rfl) (by kernel_rfl) (by kernel_rfl) (door_met os _)) ?_
  intro W base args ds gs before hval0 hW _ _ hL _
  have hval : ∀ (j : Nat) t v, Tryz.f9.params[j]? = some t → args[j]? = some v → Value.okWide Tryz.prog W .any base t v := hval0
  have hW' := hW
  obtain ⟨p, q, hA0, hV, rfl, hfz, hnd⟩ := hW
  have hlt : ∀ x ∈ p ++ q, x.block < W.heap.size := fun x hx => hW'.lt x hx
  have hA : DataW.TrodAll enc Tryz.prog W 0 (fun _ => true) true Tryz.f9.params.toList args.toList ds p := hA0
  rw [Tryz.params9] at hA hval
  clear hA0 hval0
  obtain ⟨v0, vs0, d0, ds0, p0, q0, hargs0, rfl, rfl, h0, r0⟩ := trodAll_cons hA
  obtain ⟨v1, vs1, d1, ds1, p1, q1, hargs1, rfl, rfl, h1, r1⟩ := trodAll_cons r0
  obtain ⟨v2, vs2, d2, ds2, p2, q2, hargs2, rfl, rfl, h2, r2⟩ := trodAll_cons r1
  obtain ⟨hn1, rfl, rfl⟩ := trodAll_nil r2
  subst hn1
  subst hargs2
  subst hargs1
  obtain rfl : args = #[v0, v1, v2] := by cases args; simp_all
  obtain ⟨rfl, rfl⟩ := trodVars_none hV
  obtain ⟨xs0, u0⟩ := open_limbs (hval 0 22 v0 rfl rfl) h0 (fun x hx => hlt x (by simp [hx]))
  obtain ⟨xs1, u1⟩ := open_limbs (hval 1 22 v1 rfl rfl) h1 (fun x hx => hlt x (by simp [hx]))
  obtain ⟨xs2, u2⟩ := open_limbs (hval 2 22 v2 rfl rfl) h2 (fun x hx => hlt x (by simp [hx]))
  refine (DivTwice_walk W _ _ u0 _ _ u1 _ _ u2).mono fun e W' ⟨he, hB⟩ => ?_
  subst he
  exact ⟨_, rfl, law_post hW' rfl (by rw [Tryz.params9]; decide +kernel) rfl rfl rfl rfl hB⟩

theorem divTwice_said : Rows.DivTwiceSaid :=
  OpenClaim.holds_of_wide 9 Tryz.f9 rfl rfl rfl rfl rfl rfl rfl ⟨rfl, rfl, rfl, rfl, rfl⟩ rfl rfl rfl rfl rfl (by kernel_rfl) Tryz.func9 (by kernel_rfl)
    (of_decide_eq_true (by kernel_rfl)) (by unfold Func.isWrapper; first | (rw [if_pos (by decide +kernel)]; kernel_rfl) | (rw [if_neg (by decide +kernel)]; exact ⟨rfl, rfl⟩))
    (fun os started H enc _ => lifted_DivTwice os started H enc)
/-- The statement: the card, tied. -/
theorem divTwice_holds : Rows.DivTwiceCardSaid :=
  Claim7.holds_tied_plain_at .later [] [.wider] true Rows.divTwiceCard.stood.harness false
    divTwice_said (fun _ h => by cases h) (by kernel_rfl) (fun _ h => by cases h) divTwice_row_tie rfl ⟨rfl, rfl⟩ (by kernel_rfl) rfl
    (fun f fn hf hfn => by
      obtain rfl : f = 9 := Option.some.inj ((show Tryz.prog.funcNamed "ziggurat/zigguratlaw04.DivTwice" = some 9 by kernel_rfl).symm.trans hf) |>.symm
      obtain rfl : fn = Tryz.f9 := (Option.some.inj (Tryz.func9.symm.trans hfn)).symm
      exact ⟨by kernel_rfl, fun j t ht => by
        rw [Tryz.params9] at ht
        have hm : t ∈ [22, 22, 22] := by simpa using Array.mem_of_getElem? ht
        have hall : ([22, 22, 22].all fun u => !Tryz.prog.wantsStandIn u) = true := by kernel_rfl
        exact (show Tryz.prog.wantsStandIn t = false by simpa using List.all_eq_true.1 hall t hm)⟩)
    (by kernel_rfl)
end Go.Proofs.YtikajmmeglookaaGreatDoor
