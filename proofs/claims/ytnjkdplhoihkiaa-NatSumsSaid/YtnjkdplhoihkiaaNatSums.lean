/- Proved: the statement NatSums: whatever limbs: a sum may be turned, three may be put together in any order, with 0 nothing comes; a sum is right, and has at most one bit more. No condition. -/
import Derived.Test.YtnjkdplhoihkiaaH
import Derived.Test.YtnjkdplhoihkiaaF
import Derived.Test.YtnjkdplhoihkiaaL
namespace Go.Proofs.Ytnjkdplhoihkiaa
open Go.ChangeShapes Go.WideShapes Go.ChangeAt Go.RowKit
set_option linter.unusedVariables false

set_option maxRecDepth 100000 in
set_option maxHeartbeats 4000000 in
theorem NatSums_walk (w : World) (v0 : Value) (xs0 : List Nat) (h0 : U w v0 xs0) (v1 : Value) (xs1 : List Nat) (h1 : U w v1 xs1) (v2 : Value) (xs2 : List Nat) (h2 : U w v2 xs2) :
    Calls Try.prog 4 #[v0, v1, v2] w fun e w' => e = .returned (.bool true) ∧ Ext w w' := by
  have HB := Ext.refl w
  have b0 := h0.lim
  have b1 := h1.lim
  have b2 := h2.lim
  go_enter Try.func4, Try.ntmps4
  go_wp2_with (fail)
  refine (head_calls _).mono ?_
  rintro e w1 ⟨rfl, hB⟩
  replace HB := HB.below hB
  replace h0 := h0.below hB
  replace h1 := h1.below hB
  replace h2 := h2.below hB
  clear hB
  go_wp2_with (fail)
  refine (made_B _ v0 xs0 60 h0 (by decide) (by decide) _ rfl).mono ?_
  rintro e w2 ⟨x1, rfl, hx1, hB⟩
  replace HB := HB.below hB
  replace h0 := h0.below hB
  replace h1 := h1.below hB
  replace h2 := h2.below hB
  clear hB
  go_wp2_with (fail)
  refine (made_B _ v1 xs1 60 h1 (by decide) (by decide) _ rfl).mono ?_
  rintro e w3 ⟨x2, rfl, hx2, hB⟩
  replace HB := HB.below hB
  replace h1 := h1.below hB
  replace h2 := h2.below hB
  replace hx1 := hx1.below hB
  clear hB
  go_wp2_with (fail)
  refine (made_B _ v2 xs2 60 h2 (by decide) (by decide) _ rfl).mono ?_
  rintro e w4 ⟨x3, rfl, hx3, hB⟩
  replace HB := HB.below hB
  replace h2 := h2.below hB
  replace hx1 := hx1.below hB
  replace hx2 := hx2.below hB
  clear hB
  have l1 := cutN_len xs0 60 b0
  have l2 := cutN_len xs1 60 b1
  have l3 := cutN_len xs2 60 b2
  rw [show ((60 : Int)).toNat = 60 from rfl] at hx1 hx2 hx3
  generalize cutN xs0 60 = n1 at *
  generalize cutN xs1 60 = n2 at *
  generalize cutN xs2 60 = n3 at *
  have l12 := len_add l1 l2
  have l23 := len_add l2 l3
  obtain ⟨s, hs⟩ : ∃ s, s = n1 + n2 := ⟨_, rfl⟩
  have HS := Lib.hid hs
  have lS : (limbs s).length ≤ 61 := by rw [hs]; exact l12
  have hb1 := blen_add_le n1 n2
  have hb2 := le_blen_add n1 n2
  rw [← hs] at hb1 hb2
  obtain ⟨k1, hk1⟩ : ∃ k : Int, ((blen n1 : Nat) : Int) = k := ⟨_, rfl⟩
  obtain ⟨k2, hk2⟩ : ∃ k : Int, ((blen n2 : Nat) : Int) = k := ⟨_, rfl⟩
  obtain ⟨k3, hk3⟩ : ∃ k : Int, ((blen s : Nat) : Int) = k := ⟨_, rfl⟩
  have K1 := Lib.hid hk1
  have K2 := Lib.hid hk2
  have K3 := Lib.hid hk3
  have q1 := blen_len l1
  have q2 := blen_len l2
  have m0 : 0 ≤ k1 := by omega
  have m00 : 0 ≤ k2 := by omega
  have m1 : k3 ≤ 1 + max k1 k2 := by omega
  have m2 : max k1 k2 ≤ k3 := by omega
  have m3 : k1 ≤ 100000 := by omega
  have m33 : k2 ≤ 100000 := by omega
  have HM1 := Lib.hid m1
  have HM2 := Lib.hid m2
  clear m1 m2
  clear hk1 hk2 hk3 hb1 hb2 q1 q2 hs
  go_wp2_with (fail)
  refine (add_B _ _ _ n1 n2 hx1 hx2 (by omega) (by omega) s HS.out.symm).mono ?_
  rintro e w5 ⟨s1, rfl, hs1, hB⟩
  replace HB := HB.below hB
  replace hx1 := hx1.below hB
  replace hx2 := hx2.below hB
  replace hx3 := hx3.below hB
  clear hB
  go_wp2_with (fail)
  refine (add_B _ _ _ n2 n1 hx2 hx1 (by omega) (by omega) s (by rw [HS.out, Nat.add_comm])).mono ?_
  rintro e w6 ⟨s2, rfl, hs2, hB⟩
  replace HB := HB.below hB
  replace hx1 := hx1.below hB
  replace hx2 := hx2.below hB
  replace hx3 := hx3.below hB
  replace hs1 := hs1.below hB
  clear hB
  go_wp2_with (fail)
  refine (same_B _ _ _ _ _ hs1 hs2 true (decide_eq_true rfl)).mono ?_
  rintro e w7 ⟨rfl, hB⟩
  replace HB := HB.below hB
  replace hx1 := hx1.below hB
  replace hx2 := hx2.below hB
  replace hx3 := hx3.below hB
  replace hs1 := hs1.below hB
  replace hs2 := hs2.below hB
  clear hB
  go_wp2_with (fail)
  refine (add_B _ _ _ s n3 hs1 hx3 (by omega) (by omega) _ rfl).mono ?_
  rintro e w8 ⟨s3, rfl, hs3, hB⟩
  replace HB := HB.below hB
  replace hx1 := hx1.below hB
  replace hx2 := hx2.below hB
  replace hx3 := hx3.below hB
  replace hs1 := hs1.below hB
  clear hB
  go_wp2_with (fail)
  refine (add_B _ _ _ n2 n3 hx2 hx3 (by omega) (by omega) _ rfl).mono ?_
  rintro e w9 ⟨s4, rfl, hs4, hB⟩
  replace HB := HB.below hB
  replace hx1 := hx1.below hB
  replace hx2 := hx2.below hB
  replace hx3 := hx3.below hB
  replace hs1 := hs1.below hB
  replace hs3 := hs3.below hB
  clear hB
  go_wp2_with (fail)
  refine (add_B _ _ _ n1 (n2 + n3) hx1 hs4 (by omega) (by omega) (s + n3) (by rw [HS.out, Nat.add_assoc])).mono ?_
  rintro e w10 ⟨s5, rfl, hs5, hB⟩
  replace HB := HB.below hB
  replace hx1 := hx1.below hB
  replace hx2 := hx2.below hB
  replace hx3 := hx3.below hB
  replace hs1 := hs1.below hB
  replace hs3 := hs3.below hB
  replace hs4 := hs4.below hB
  clear hB
  go_wp2_with (fail)
  refine (same_B _ _ _ _ _ hs3 hs5 true (decide_eq_true rfl)).mono ?_
  rintro e w11 ⟨rfl, hB⟩
  replace HB := HB.below hB
  replace hx1 := hx1.below hB
  replace hx2 := hx2.below hB
  replace hx3 := hx3.below hB
  replace hs1 := hs1.below hB
  replace hs3 := hs3.below hB
  replace hs4 := hs4.below hB
  replace hs5 := hs5.below hB
  clear hB
  go_wp2_with (fail)
  refine (add_B _ _ _ n1 0 hx1 (Un_nil _) (by omega) (by rw [limbs_zero]; decide) n1 rfl).mono ?_
  rintro e w12 ⟨s6, rfl, hs6, hB⟩
  replace HB := HB.below hB
  replace hx1 := hx1.below hB
  replace hx2 := hx2.below hB
  replace hx3 := hx3.below hB
  replace hs1 := hs1.below hB
  clear hB
  go_wp2_with (fail)
  refine (same_B _ _ _ _ _ hs6 hx1 true (decide_eq_true rfl)).mono ?_
  rintro e w13 ⟨rfl, hB⟩
  replace HB := HB.below hB
  replace hx1 := hx1.below hB
  replace hx2 := hx2.below hB
  replace hx3 := hx3.below hB
  replace hs1 := hs1.below hB
  replace hs6 := hs6.below hB
  clear hB
  go_wp2_with (fail)
  refine (right_B _ _ _ hs1 true (rightB_limbs (by omega))).mono ?_
  rintro e w14 ⟨rfl, hB⟩
  replace HB := HB.below hB
  replace hx1 := hx1.below hB
  replace hx2 := hx2.below hB
  replace hx3 := hx3.below hB
  replace hs1 := hs1.below hB
  clear hB
  rcases Int.lt_or_le k1 k2 with hle | hle
  · have m1 : k3 ≤ 1 + k2 := by have := HM1.out; omega
    have m2 : k2 ≤ k3 := by have := HM2.out; omega
    go_wp2_with (fail)
    refine (bits_B _ _ s hs1 (by omega) k3 K3.out).mono ?_
    rintro e w15 ⟨rfl, hB⟩
    replace HB := HB.below hB
    replace hx1 := hx1.below hB
    replace hx2 := hx2.below hB
    replace hx3 := hx3.below hB
    replace hs1 := hs1.below hB
    clear hB
    go_wp2_with (fail)
    refine (bits_B _ _ n1 hx1 (by omega) k1 K1.out).mono ?_
    rintro e w16 ⟨rfl, hB⟩
    replace HB := HB.below hB
    replace hx1 := hx1.below hB
    replace hx2 := hx2.below hB
    replace hx3 := hx3.below hB
    replace hs1 := hs1.below hB
    clear hB
    go_wp2_with (fail)
    refine (bits_B _ _ n2 hx2 (by omega) k2 K2.out).mono ?_
    rintro e w17 ⟨rfl, hB⟩
    replace HB := HB.below hB
    replace hx1 := hx1.below hB
    replace hx2 := hx2.below hB
    replace hx3 := hx3.below hB
    replace hs1 := hs1.below hB
    clear hB
    go_wp2_with (fail)
    refine (bits_B _ _ s hs1 (by omega) k3 K3.out).mono ?_
    rintro e w18 ⟨rfl, hB⟩
    replace HB := HB.below hB
    replace hx1 := hx1.below hB
    replace hx2 := hx2.below hB
    replace hx3 := hx3.below hB
    replace hs1 := hs1.below hB
    clear hB
    go_wp2_with (fail)
    refine (bits_B _ _ n1 hx1 (by omega) k1 K1.out).mono ?_
    rintro e w19 ⟨rfl, hB⟩
    replace HB := HB.below hB
    replace hx1 := hx1.below hB
    replace hx2 := hx2.below hB
    replace hx3 := hx3.below hB
    replace hs1 := hs1.below hB
    clear hB
    go_wp2_with (fail)
    refine (bits_B _ _ n2 hx2 (by omega) k2 K2.out).mono ?_
    rintro e w20 ⟨rfl, hB⟩
    replace HB := HB.below hB
    replace hx1 := hx1.below hB
    replace hx2 := hx2.below hB
    replace hx3 := hx3.below hB
    replace hs1 := hs1.below hB
    clear hB
    go_wp2
    go_ret
    exact ⟨rfl, HB⟩
  · have m1 : k3 ≤ 1 + k1 := by have := HM1.out; omega
    have m2 : k1 ≤ k3 := by have := HM2.out; omega
    go_wp2_with (fail)
    refine (bits_B _ _ s hs1 (by omega) k3 K3.out).mono ?_
    rintro e w15 ⟨rfl, hB⟩
    replace HB := HB.below hB
    replace hx1 := hx1.below hB
    replace hx2 := hx2.below hB
    replace hx3 := hx3.below hB
    replace hs1 := hs1.below hB
    clear hB
    go_wp2_with (fail)
    refine (bits_B _ _ n1 hx1 (by omega) k1 K1.out).mono ?_
    rintro e w16 ⟨rfl, hB⟩
    replace HB := HB.below hB
    replace hx1 := hx1.below hB
    replace hx2 := hx2.below hB
    replace hx3 := hx3.below hB
    replace hs1 := hs1.below hB
    clear hB
    go_wp2_with (fail)
    refine (bits_B _ _ n2 hx2 (by omega) k2 K2.out).mono ?_
    rintro e w17 ⟨rfl, hB⟩
    replace HB := HB.below hB
    replace hx1 := hx1.below hB
    replace hx2 := hx2.below hB
    replace hx3 := hx3.below hB
    replace hs1 := hs1.below hB
    clear hB
    go_wp2_with (fail)
    refine (bits_B _ _ s hs1 (by omega) k3 K3.out).mono ?_
    rintro e w18 ⟨rfl, hB⟩
    replace HB := HB.below hB
    replace hx1 := hx1.below hB
    replace hx2 := hx2.below hB
    replace hx3 := hx3.below hB
    replace hs1 := hs1.below hB
    clear hB
    go_wp2_with (fail)
    refine (bits_B _ _ n1 hx1 (by omega) k1 K1.out).mono ?_
    rintro e w19 ⟨rfl, hB⟩
    replace HB := HB.below hB
    replace hx1 := hx1.below hB
    replace hx2 := hx2.below hB
    replace hx3 := hx3.below hB
    replace hs1 := hs1.below hB
    clear hB
    go_wp2_with (fail)
    refine (bits_B _ _ n2 hx2 (by omega) k2 K2.out).mono ?_
    rintro e w20 ⟨rfl, hB⟩
    replace HB := HB.below hB
    replace hx1 := hx1.below hB
    replace hx2 := hx2.below hB
    replace hx3 := hx3.below hB
    replace hs1 := hs1.below hB
    clear hB
    go_wp2
    go_ret
    exact ⟨rfl, HB⟩


set_option maxRecDepth 100000 in
theorem lifted_NatSums (os : Os) (started : os.Started) (H : Type) (enc : TypeId × Value → H) :
    ReturnsInHanded {} Try.checked os 4 .any (Rows.natSumsSpec.pre6 enc Try.prog Try.f4 Rows.natSumsRow.domain false) (Rows.natSumsSpec.post enc Try.prog Try.f4 false true false false) := by
  refine returnsInHanded_of_change (C := Try.checked) own started (by kernel_rfl) Try.func4
    (ChangeSpec.witness6 (enc := enc) (C := Try.checked) false ⟨#[], #[.slice none 0 0, .slice none 0 0, .slice none 0 0], []⟩ 8 (by kernel_rfl) (by kernel_rfl) (by kernel_rfl) (by kernel_rfl)) ?_
  intro W base args ds gs before hval hW _ _
  have hW' := hW
  obtain ⟨p, q, hA, hV, rfl, _, _⟩ := hW
  have hlt : ∀ x ∈ p ++ q, x.block < W.heap.size := fun x hx => hW'.lt x hx
  have hA2 : DataW.TrodAll enc Try.prog W 0 (fun _ => true) true Try.f4.params.toList args.toList ds p := hA
  rw [Try.params4] at hA2 hval
  clear hA
  obtain ⟨v0, vs0, d0, ds0, p0, q0, hargs0, rfl, rfl, h0, r0⟩ := trodAll_cons hA2
  obtain ⟨v1, vs1, d1, ds1, p1, q1, hargs1, rfl, rfl, h1, r1⟩ := trodAll_cons r0
  obtain ⟨v2, vs2, d2, ds2, p2, q2, hargs2, rfl, rfl, h2, r2⟩ := trodAll_cons r1
  obtain ⟨hn1, rfl, rfl⟩ := trodAll_nil r2
  subst hn1
  subst hargs2
  subst hargs1
  obtain rfl : args = #[v0, v1, v2] := by cases args; simp_all
  obtain ⟨rfl, rfl⟩ := trodVars_none hV
  obtain ⟨xs0, u0⟩ := open_limbs (hval 0 22 v0 rfl rfl) h0 (fun x hx => hlt x (by simp [hx]))
  obtain ⟨xs1, u1⟩ := open_limbs (hval 1 22 v1 rfl rfl) h1 (fun x hx => hlt x (by simp [hx]))
  obtain ⟨xs2, u2⟩ := open_limbs (hval 2 22 v2 rfl rfl) h2 (fun x hx => hlt x (by simp [hx]))
  refine (NatSums_walk W _ _ u0 _ _ u1 _ _ u2).mono fun e W' ⟨he, hB⟩ => ?_
  subst he
  exact ⟨_, rfl, law_post hW' rfl (by rw [Try.params4]; decide +kernel) rfl rfl rfl rfl hB⟩

/-- The statement. -/
theorem natSums_holds : Rows.NatSumsSaid :=
  OpenClaim.holds_of_wide 4 Try.f4 rfl rfl rfl rfl rfl rfl rfl ⟨rfl, rfl, rfl, rfl, rfl⟩ rfl rfl rfl rfl rfl (by kernel_rfl) Try.func4 (by kernel_rfl)
    (of_decide_eq_true (by kernel_rfl)) (by unfold Func.isWrapper; first | (rw [if_pos (by decide +kernel)]; kernel_rfl) | (rw [if_neg (by decide +kernel)]; exact ⟨rfl, rfl⟩))
    (fun os started H enc _ => lifted_NatSums os started H enc)
end Go.Proofs.Ytnjkdplhoihkiaa
