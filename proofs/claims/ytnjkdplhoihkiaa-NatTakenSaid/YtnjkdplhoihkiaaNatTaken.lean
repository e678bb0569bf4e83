/- Proved: the statement NatTaken: whatever limbs: what was added can be taken away again; of two naturals the one that is not greater can be taken from the other one, and added again. No condition. -/
import Derived.Test.YtnjkdplhoihkiaaH
import Derived.Test.YtnjkdplhoihkiaaF
import Derived.Test.YtnjkdplhoihkiaaL
namespace Go.Proofs.Ytnjkdplhoihkiaa
open Go.ChangeShapes Go.WideShapes Go.ChangeAt Go.RowKit
set_option linter.unusedVariables false

set_option maxRecDepth 100000 in
set_option maxHeartbeats 4000000 in
theorem NatTaken_walk (w : World) (v0 : Value) (xs0 : List Nat) (h0 : U w v0 xs0) (v1 : Value) (xs1 : List Nat) (h1 : U w v1 xs1) :
    Calls Try.prog 5 #[v0, v1] w fun e w' => e = .returned (.bool true) ∧ Ext w w' := by
  have HB := Ext.refl w
  have b0 := h0.lim
  have b1 := h1.lim
  go_enter Try.func5, Try.ntmps5
  go_wp2_with (fail)
  refine (head_calls _).mono ?_
  rintro e w1 ⟨rfl, hB⟩
  replace HB := HB.below hB
  replace h0 := h0.below hB
  replace h1 := h1.below hB
  clear hB
  go_wp2_with (fail)
  refine (made_B _ v0 xs0 60 h0 (by decide) (by decide) _ rfl).mono ?_
  rintro e w2 ⟨x1, rfl, hx1, hB⟩
  replace HB := HB.below hB
  replace h0 := h0.below hB
  replace h1 := h1.below hB
  clear hB
  go_wp2_with (fail)
  refine (made_B _ v1 xs1 60 h1 (by decide) (by decide) _ rfl).mono ?_
  rintro e w3 ⟨x2, rfl, hx2, hB⟩
  replace HB := HB.below hB
  replace h1 := h1.below hB
  replace hx1 := hx1.below hB
  clear hB
  have l1 := cutN_len xs0 60 b0
  have l2 := cutN_len xs1 60 b1
  rw [show ((60 : Int)).toNat = 60 from rfl] at hx1 hx2
  generalize cutN xs0 60 = n1 at *
  generalize cutN xs1 60 = n2 at *
  have l12 := len_add l1 l2
  clear h0 h1 b0 b1
  go_wp2_with (fail)
  refine (add_B _ _ _ n1 n2 hx1 hx2 (by omega) (by omega) _ rfl).mono ?_
  rintro e w4 ⟨s1, rfl, hs1, hB⟩
  replace HB := HB.below hB
  replace hx1 := hx1.below hB
  replace hx2 := hx2.below hB
  clear hB
  go_wp2_with (fail)
  refine (sub_B _ _ _ (n1 + n2) n2 hs1 hx2 (by omega) true (decide_eq_true (by omega)) n1 (by omega)).mono ?_
  rintro e w5 ⟨d, rfl, hd, hB⟩
  replace HB := HB.below hB
  replace hx1 := hx1.below hB
  replace hx2 := hx2.below hB
  replace hs1 := hs1.below hB
  clear hB
  rcases Nat.lt_trichotomy n1 n2 with hc | hc | hc
  · go_wp2_with (fail)
    refine (sub_B _ _ _ n1 n2 hx1 hx2 (by omega) false (decide_eq_false (by omega)) 0 (by omega)).mono ?_
    rintro e w6 ⟨p, rfl, hp, hB⟩
    replace HB := HB.below hB
    replace hx1 := hx1.below hB
    replace hx2 := hx2.below hB
    replace hd := hd.below hB
    clear hB
    go_wp2_with (fail)
    refine (sub_B _ _ _ n2 n1 hx2 hx1 (by omega) true (decide_eq_true (by omega)) (n2 - n1) rfl).mono ?_
    rintro e w7 ⟨q, rfl, hq, hB⟩
    replace HB := HB.below hB
    replace hx1 := hx1.below hB
    replace hx2 := hx2.below hB
    replace hd := hd.below hB
    replace hp := hp.below hB
    clear hB
    go_wp2_with (fail)
    refine (same_B _ _ _ _ _ hd hx1 true (decide_eq_true rfl)).mono ?_
    rintro e w8 ⟨rfl, hB⟩
    replace HB := HB.below hB
    replace hx1 := hx1.below hB
    replace hx2 := hx2.below hB
    replace hd := hd.below hB
    replace hp := hp.below hB
    replace hq := hq.below hB
    clear hB
    go_wp2_with (fail)
    refine (cmp_B _ _ _ n1 n2 hx1 hx2 (-1) (cmpI_lt (by omega))).mono ?_
    rintro e w9 ⟨rfl, hB⟩
    replace HB := HB.below hB
    replace hx1 := hx1.below hB
    replace hx2 := hx2.below hB
    replace hp := hp.below hB
    replace hq := hq.below hB
    clear hB
    go_wp2_with (fail)
    refine (cmp_B _ _ _ n1 n2 hx1 hx2 (-1) (cmpI_lt (by omega))).mono ?_
    rintro e w10 ⟨rfl, hB⟩
    replace HB := HB.below hB
    replace hx1 := hx1.below hB
    replace hx2 := hx2.below hB
    replace hp := hp.below hB
    replace hq := hq.below hB
    clear hB
    have lq := Nat.le_trans (len_mono (Nat.sub_le n2 n1)) l2
    go_wp2_with (fail)
    refine (add_B _ _ _ (n2 - n1) n1 hq hx1 (by omega) (by omega) n2 (by omega)).mono ?_
    rintro e w11 ⟨t2, rfl, ht2, hB⟩
    replace HB := HB.below hB
    replace hx1 := hx1.below hB
    replace hx2 := hx2.below hB
    replace hp := hp.below hB
    replace hq := hq.below hB
    clear hB
    go_wp2_with (fail)
    refine (same_B _ _ _ _ _ ht2 hx2 true (decide_eq_true rfl)).mono ?_
    rintro e w12 ⟨rfl, hB⟩
    replace HB := HB.below hB
    replace hx1 := hx1.below hB
    replace hx2 := hx2.below hB
    replace hp := hp.below hB
    replace hq := hq.below hB
    replace ht2 := ht2.below hB
    clear hB
    have hp0 := hp
    rw [Un, limbs_zero] at hp0
    obtain ⟨A4, c4, rfl, _, _, _⟩ := hp0
    go_wp2_with (fail)
    refine (right_B _ _ _ hp true (rightB_limbs (by rw [limbs_zero]; decide))).mono ?_
    rintro e w13 ⟨rfl, hB⟩
    replace HB := HB.below hB
    replace hx1 := hx1.below hB
    replace hx2 := hx2.below hB
    replace hp := hp.below hB
    replace hq := hq.below hB
    clear hB
    go_wp2_with (fail)
    refine (right_B _ _ _ hq true (rightB_limbs (by omega))).mono ?_
    rintro e w14 ⟨rfl, hB⟩
    replace HB := HB.below hB
    replace hx1 := hx1.below hB
    replace hx2 := hx2.below hB
    replace hp := hp.below hB
    replace hq := hq.below hB
    clear hB
    go_wp2
    go_ret
    exact ⟨rfl, HB⟩
  · subst hc
    go_wp2_with (fail)
    refine (sub_B _ _ _ n1 n1 hx1 hx2 (by omega) true (decide_eq_true (by omega)) (n1 - n1) rfl).mono ?_
    rintro e w6 ⟨p, rfl, hp, hB⟩
    replace HB := HB.below hB
    replace hx1 := hx1.below hB
    replace hx2 := hx2.below hB
    replace hd := hd.below hB
    clear hB
    go_wp2_with (fail)
    refine (sub_B _ _ _ n1 n1 hx2 hx1 (by omega) true (decide_eq_true (by omega)) (n1 - n1) rfl).mono ?_
    rintro e w7 ⟨q, rfl, hq, hB⟩
    replace HB := HB.below hB
    replace hx1 := hx1.below hB
    replace hx2 := hx2.below hB
    replace hd := hd.below hB
    replace hp := hp.below hB
    clear hB
    go_wp2_with (fail)
    refine (same_B _ _ _ _ _ hd hx1 true (decide_eq_true rfl)).mono ?_
    rintro e w8 ⟨rfl, hB⟩
    replace HB := HB.below hB
    replace hx1 := hx1.below hB
    replace hx2 := hx2.below hB
    replace hd := hd.below hB
    replace hp := hp.below hB
    replace hq := hq.below hB
    clear hB
    go_wp2_with (fail)
    refine (cmp_B _ _ _ n1 n1 hx1 hx2 (0) (cmpI_eq _)).mono ?_
    rintro e w9 ⟨rfl, hB⟩
    replace HB := HB.below hB
    replace hx1 := hx1.below hB
    replace hx2 := hx2.below hB
    replace hp := hp.below hB
    replace hq := hq.below hB
    clear hB
    go_wp2_with (fail)
    refine (cmp_B _ _ _ n1 n1 hx1 hx2 (0) (cmpI_eq _)).mono ?_
    rintro e w10 ⟨rfl, hB⟩
    replace HB := HB.below hB
    replace hx1 := hx1.below hB
    replace hx2 := hx2.below hB
    replace hp := hp.below hB
    replace hq := hq.below hB
    clear hB
    have lp := Nat.le_trans (len_mono (Nat.sub_le n1 n1)) l1
    go_wp2_with (fail)
    refine (add_B _ _ _ (n1 - n1) n1 hp hx2 (by omega) (by omega) n1 (by omega)).mono ?_
    rintro e w11 ⟨t1, rfl, ht1, hB⟩
    replace HB := HB.below hB
    replace hx1 := hx1.below hB
    replace hx2 := hx2.below hB
    replace hp := hp.below hB
    replace hq := hq.below hB
    clear hB
    go_wp2_with (fail)
    refine (same_B _ _ _ _ _ ht1 hx1 true (decide_eq_true rfl)).mono ?_
    rintro e w12 ⟨rfl, hB⟩
    replace HB := HB.below hB
    replace hx1 := hx1.below hB
    replace hx2 := hx2.below hB
    replace hp := hp.below hB
    replace hq := hq.below hB
    replace ht1 := ht1.below hB
    clear hB
    have lq := Nat.le_trans (len_mono (Nat.sub_le n1 n1)) l2
    go_wp2_with (fail)
    refine (add_B _ _ _ (n1 - n1) n1 hq hx1 (by omega) (by omega) n1 (by omega)).mono ?_
    rintro e w13 ⟨t2, rfl, ht2, hB⟩
    replace HB := HB.below hB
    replace hx1 := hx1.below hB
    replace hx2 := hx2.below hB
    replace hp := hp.below hB
    replace hq := hq.below hB
    clear hB
    go_wp2_with (fail)
    refine (same_B _ _ _ _ _ ht2 hx2 true (decide_eq_true rfl)).mono ?_
    rintro e w14 ⟨rfl, hB⟩
    replace HB := HB.below hB
    replace hx1 := hx1.below hB
    replace hx2 := hx2.below hB
    replace hp := hp.below hB
    replace hq := hq.below hB
    replace ht2 := ht2.below hB
    clear hB
    go_wp2_with (fail)
    refine (right_B _ _ _ hp true (rightB_limbs (by omega))).mono ?_
    rintro e w15 ⟨rfl, hB⟩
    replace HB := HB.below hB
    replace hx1 := hx1.below hB
    replace hx2 := hx2.below hB
    replace hp := hp.below hB
    replace hq := hq.below hB
    clear hB
    go_wp2_with (fail)
    refine (right_B _ _ _ hq true (rightB_limbs (by omega))).mono ?_
    rintro e w16 ⟨rfl, hB⟩
    replace HB := HB.below hB
    replace hx1 := hx1.below hB
    replace hx2 := hx2.below hB
    replace hp := hp.below hB
    replace hq := hq.below hB
    clear hB
    go_wp2
    go_ret
    exact ⟨rfl, HB⟩
  · go_wp2_with (fail)
    refine (sub_B _ _ _ n1 n2 hx1 hx2 (by omega) true (decide_eq_true (by omega)) (n1 - n2) rfl).mono ?_
    rintro e w6 ⟨p, rfl, hp, hB⟩
    replace HB := HB.below hB
    replace hx1 := hx1.below hB
    replace hx2 := hx2.below hB
    replace hd := hd.below hB
    clear hB
    go_wp2_with (fail)
    refine (sub_B _ _ _ n2 n1 hx2 hx1 (by omega) false (decide_eq_false (by omega)) 0 (by omega)).mono ?_
    rintro e w7 ⟨q, rfl, hq, hB⟩
    replace HB := HB.below hB
    replace hx1 := hx1.below hB
    replace hx2 := hx2.below hB
    replace hd := hd.below hB
    replace hp := hp.below hB
    clear hB
    go_wp2_with (fail)
    refine (same_B _ _ _ _ _ hd hx1 true (decide_eq_true rfl)).mono ?_
    rintro e w8 ⟨rfl, hB⟩
    replace HB := HB.below hB
    replace hx1 := hx1.below hB
    replace hx2 := hx2.below hB
    replace hd := hd.below hB
    replace hp := hp.below hB
    replace hq := hq.below hB
    clear hB
    go_wp2_with (fail)
    refine (cmp_B _ _ _ n1 n2 hx1 hx2 (1) (cmpI_gt (by omega))).mono ?_
    rintro e w9 ⟨rfl, hB⟩
    replace HB := HB.below hB
    replace hx1 := hx1.below hB
    replace hx2 := hx2.below hB
    replace hp := hp.below hB
    replace hq := hq.below hB
    clear hB
    go_wp2_with (fail)
    refine (cmp_B _ _ _ n1 n2 hx1 hx2 (1) (cmpI_gt (by omega))).mono ?_
    rintro e w10 ⟨rfl, hB⟩
    replace HB := HB.below hB
    replace hx1 := hx1.below hB
    replace hx2 := hx2.below hB
    replace hp := hp.below hB
    replace hq := hq.below hB
    clear hB
    have lp := Nat.le_trans (len_mono (Nat.sub_le n1 n2)) l1
    go_wp2_with (fail)
    refine (add_B _ _ _ (n1 - n2) n2 hp hx2 (by omega) (by omega) n1 (by omega)).mono ?_
    rintro e w11 ⟨t1, rfl, ht1, hB⟩
    replace HB := HB.below hB
    replace hx1 := hx1.below hB
    replace hx2 := hx2.below hB
    replace hp := hp.below hB
    replace hq := hq.below hB
    clear hB
    go_wp2_with (fail)
    refine (same_B _ _ _ _ _ ht1 hx1 true (decide_eq_true rfl)).mono ?_
    rintro e w12 ⟨rfl, hB⟩
    replace HB := HB.below hB
    replace hx1 := hx1.below hB
    replace hx2 := hx2.below hB
    replace hp := hp.below hB
    replace hq := hq.below hB
    replace ht1 := ht1.below hB
    clear hB
    have hq0 := hq
    rw [Un, limbs_zero] at hq0
    obtain ⟨A5, c5, rfl, _, _, _⟩ := hq0
    go_wp2_with (fail)
    refine (right_B _ _ _ hp true (rightB_limbs (by omega))).mono ?_
    rintro e w13 ⟨rfl, hB⟩
    replace HB := HB.below hB
    replace hx1 := hx1.below hB
    replace hx2 := hx2.below hB
    replace hp := hp.below hB
    replace hq := hq.below hB
    clear hB
    go_wp2_with (fail)
    refine (right_B _ _ _ hq true (rightB_limbs (by rw [limbs_zero]; decide))).mono ?_
    rintro e w14 ⟨rfl, hB⟩
    replace HB := HB.below hB
    replace hx1 := hx1.below hB
    replace hx2 := hx2.below hB
    replace hp := hp.below hB
    replace hq := hq.below hB
    clear hB
    go_wp2
    go_ret
    exact ⟨rfl, HB⟩

set_option maxRecDepth 100000 in
theorem lifted_NatTaken (os : Os) (started : os.Started) (H : Type) (enc : TypeId × Value → H) :
    ReturnsInHanded {} Try.checked os 5 .any (Rows.natTakenSpec.pre6 enc Try.prog Try.f5 Rows.natTakenRow.domain false) (Rows.natTakenSpec.post enc Try.prog Try.f5 false true false false) := by
  refine returnsInHanded_of_change (C := Try.checked) own started (by kernel_rfl) Try.func5
    (ChangeSpec.witness6 (enc := enc) (C := Try.checked) false ⟨#[], #[.slice none 0 0, .slice none 0 0], []⟩ 8 (by kernel_rfl) (by kernel_rfl) (by kernel_rfl) (by kernel_rfl)) ?_
  intro W base args ds gs before hval hW _ _
  have hW' := hW
  obtain ⟨p, q, hA, hV, rfl, _, _⟩ := hW
  have hlt : ∀ x ∈ p ++ q, x.block < W.heap.size := fun x hx => hW'.lt x hx
  have hA2 : DataW.TrodAll enc Try.prog W 0 (fun _ => true) true Try.f5.params.toList args.toList ds p := hA
  rw [Try.params5] at hA2 hval
  clear hA
  obtain ⟨v0, vs0, d0, ds0, p0, q0, hargs0, rfl, rfl, h0, r0⟩ := trodAll_cons hA2
  obtain ⟨v1, vs1, d1, ds1, p1, q1, hargs1, rfl, rfl, h1, r1⟩ := trodAll_cons r0
  obtain ⟨hn1, rfl, rfl⟩ := trodAll_nil r1
  subst hn1
  subst hargs1
  obtain rfl : args = #[v0, v1] := by cases args; simp_all
  obtain ⟨rfl, rfl⟩ := trodVars_none hV
  obtain ⟨xs0, u0⟩ := open_limbs (hval 0 22 v0 rfl rfl) h0 (fun x hx => hlt x (by simp [hx]))
  obtain ⟨xs1, u1⟩ := open_limbs (hval 1 22 v1 rfl rfl) h1 (fun x hx => hlt x (by simp [hx]))
  refine (NatTaken_walk W _ _ u0 _ _ u1).mono fun e W' ⟨he, hB⟩ => ?_
  subst he
  exact ⟨_, rfl, law_post hW' rfl (by rw [Try.params5]; decide +kernel) rfl rfl rfl rfl hB⟩

/-- The statement. -/
theorem natTaken_holds : Rows.NatTakenSaid :=
  OpenClaim.holds_of_wide 5 Try.f5 rfl rfl rfl rfl rfl rfl rfl ⟨rfl, rfl, rfl, rfl, rfl⟩ rfl rfl rfl rfl rfl (by kernel_rfl) Try.func5 (by kernel_rfl)
    (of_decide_eq_true (by kernel_rfl)) (by unfold Func.isWrapper; first | (rw [if_pos (by decide +kernel)]; kernel_rfl) | (rw [if_neg (by decide +kernel)]; exact ⟨rfl, rfl⟩))
    (fun os started H enc _ => lifted_NatTaken os started H enc)
end Go.Proofs.Ytnjkdplhoihkiaa
