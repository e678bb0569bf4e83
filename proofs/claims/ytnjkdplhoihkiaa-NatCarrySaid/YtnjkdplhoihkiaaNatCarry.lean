/- Proved: the statement NatCarry: whatever power up to 2000: a power of 2 less 1, with 1 added, is that power: one bit alone; with it taken again it has all its bits. No condition. -/
import Derived.Test.YtnjkdplhoihkiaaH
import Derived.Test.YtnjkdplhoihkiaaF
import Derived.Test.YtnjkdplhoihkiaaL2
namespace Go.Proofs.Ytnjkdplhoihkiaa
open Go.ChangeShapes Go.WideShapes Go.ChangeAt Go.RowKit
set_option linter.unusedVariables false

set_option maxRecDepth 100000 in
set_option maxHeartbeats 4000000 in
theorem NatCarry_walk (w : World) (a : Nat) (ha : a < 65536) (b : Nat) (hb : b < 65536) :
    Calls Try.prog 11 #[.int .u16 (a : Int), .int .u16 (b : Int)] w fun e w' => e = .returned (.bool true) ∧ Ext w w' := by
  have HB := Ext.refl w
  go_enter Try.func11, Try.ntmps11
  go_wp2_with (fail)
  refine (head_calls _).mono ?_
  rintro e w1 ⟨rfl, hB⟩
  replace HB := HB.below hB
  clear hB
  obtain ⟨N, hN⟩ : ∃ N, N = a % 2001 := ⟨_, rfl⟩
  have eN : Hid (((a : Int) % 2001) = (N : Int)) := by rw [Hid]; omega
  have bN : N ≤ 2000 := by omega
  have nn : 0 ≤ (a : Int) % 2001 := by omega
  have nn2 : (a : Int) % 2001 ≤ 2000 := by omega
  have nn3 : Hid ((N : Int) = (a : Int) % 2001) := by rw [Hid]; omega
  clear hN
  have h1l : (limbs 1).length ≤ 1 := (by rw [lim [1] (by decide) (by decide) (by decide)]; decide)
  have lp := len_shl 1 1 N h1l (by omega)
  rw [Nat.one_mul] at lp
  have hpos := Nat.two_pow_pos N
  obtain ⟨p, hp⟩ : ∃ p, 2 ^ N = p := ⟨_, rfl⟩
  have hbp : Hid (((blen p : Nat) : Int) = (a : Int) % 2001 + 1) := by rw [Hid, ← hp, blen_pow]; have := nn3.out; omega
  have hbq : Hid (((blen (p - 1) : Nat) : Int) = (a : Int) % 2001) := by rw [Hid, ← hp, blen_ones]; have := nn3.out; omega
  have hbt : Hid (((bitN p ((a : Int) % 2001) : Nat) : Int) = 1) := by rw [Hid, ← hp, eN.out, pow_bit_top]; rfl
  have hi0 : 0 ≤ (b : Int) % ((a : Int) % 2001 + 1) := Int.emod_nonneg _ (by omega)
  have hi1 : (b : Int) % ((a : Int) % 2001 + 1) < (a : Int) % 2001 + 1 := Int.emod_lt_of_pos _ (by omega)
  have HQ1 : Hid (∀ j : Int, 0 ≤ j → j < (a : Int) % 2001 → bitN (p - 1) j = 1) := fun j h0 h1 => by obtain ⟨j, rfl⟩ := Int.eq_ofNat_of_zero_le h0; rw [← hp]; exact ones_bit N j (by have := nn3.out; omega)
  have HQ2 : Hid (∀ j : Int, 0 ≤ j → j < (a : Int) % 2001 → bitN p j = 0) := fun j h0 h1 => by obtain ⟨j, rfl⟩ := Int.eq_ofNat_of_zero_le h0; rw [← hp]; exact pow_bit N j (by have := nn3.out; omega)
  rw [hp] at lp hpos
  have HP := Lib.hid hp
  clear hp
  have lq := Nat.le_trans (len_mono (Nat.sub_le p 1)) lp
  go_wp2_with (fail)
  refine (shl_B _ _ 1 _ (U.un (U_lit2 _ (w1.heap.size) (by simp) [1] (by decide) (by decide)) (lim [1] (by decide) (by decide) (by decide))) (by omega) (by omega) (by omega) p (by rw [show ((a : Int) % 2001).toNat = N by have := eN.out; omega, Nat.one_mul]; exact HP.out)).mono ?_
  rintro e w2 ⟨s1, rfl, hs1, hB⟩
  replace HB := (HB.alloc _).below hB
  clear hB
  go_wp2_with (fail)
  refine (sub_B _ _ _ p 1 (hs1.alloc _) (U.un (U_lit2 _ (w2.heap.size) (by simp) [1] (by decide) (by decide)) (lim [1] (by decide) (by decide) (by decide))) (by omega) true (decide_eq_true (by omega)) (p - 1) rfl).mono ?_
  rintro e w3 ⟨s2, rfl, hs2, hB⟩
  replace HB := (HB.alloc _).below hB
  replace hs1 := (hs1.alloc _).below hB
  clear hB
  go_wp2_with (fail)
  refine (add_B _ _ _ (p - 1) 1 (hs2.alloc _) (U.un (U_lit2 _ (w3.heap.size) (by simp) [1] (by decide) (by decide)) (lim [1] (by decide) (by decide) (by decide))) (by omega) (by omega) p (by omega)).mono ?_
  rintro e w4 ⟨s3, rfl, hs3, hB⟩
  replace HB := (HB.alloc _).below hB
  replace hs1 := (hs1.alloc _).below hB
  replace hs2 := (hs2.alloc _).below hB
  clear hB
  go_wp2_with (fail)
  refine (same_B _ _ _ _ _ hs3 hs1 true (decide_eq_true rfl)).mono ?_
  rintro e w5 ⟨rfl, hB⟩
  replace HB := HB.below hB
  replace hs1 := hs1.below hB
  replace hs2 := hs2.below hB
  replace hs3 := hs3.below hB
  clear hB
  go_wp2_with (fail)
  refine (bits_B _ _ p hs1 (by omega) ((a : Int) % 2001 + 1) hbp.out).mono ?_
  rintro e w6 ⟨rfl, hB⟩
  replace HB := HB.below hB
  replace hs1 := hs1.below hB
  replace hs2 := hs2.below hB
  clear hB
  go_wp2_with (fail)
  refine (bits_B _ _ (p - 1) hs2 (by omega) ((a : Int) % 2001) hbq.out).mono ?_
  rintro e w7 ⟨rfl, hB⟩
  replace HB := HB.below hB
  replace hs1 := hs1.below hB
  replace hs2 := hs2.below hB
  clear hB
  go_wp2_with (fail)
  refine (bit_B _ _ p _ hs1 (by omega) (by omega) 1 hbt.out).mono ?_
  rintro e w8 ⟨rfl, hB⟩
  replace HB := HB.below hB
  replace hs1 := hs1.below hB
  replace hs2 := hs2.below hB
  clear hB
  by_cases hc : (b : Int) % ((a : Int) % 2001 + 1) = (a : Int) % 2001
  · have hq : ((b : Int) % ((a : Int) % 2001 + 1) == (a : Int) % 2001) = true := by rw [beq_iff_eq]; exact hc
    clear hc
    go_wp2_with (fail)
    refine (cmp_B _ _ _ (p - 1) p hs2 hs1 (-1) (cmpI_lt (by omega))).mono ?_
    rintro e w9 ⟨rfl, hB⟩
    replace HB := HB.below hB
    replace hs1 := hs1.below hB
    replace hs2 := hs2.below hB
    clear hB
    go_wp2
    go_ret
    exact ⟨rfl, HB⟩
  · have hlt : (b : Int) % ((a : Int) % 2001 + 1) < (a : Int) % 2001 := by omega
    have hq : ((b : Int) % ((a : Int) % 2001 + 1) == (a : Int) % 2001) = false := by rw [beq_eq_false_iff_ne]; omega
    go_wp2_with (fail)
    refine (bit_B _ _ (p - 1) _ hs2 (by omega) (by omega) 1 (by rw [HQ1.out _ hi0 hlt]; rfl)).mono ?_
    rintro e w9 ⟨rfl, hB⟩
    replace HB := HB.below hB
    replace hs1 := hs1.below hB
    replace hs2 := hs2.below hB
    clear hB
    go_wp2_with (fail)
    refine (bit_B _ _ p _ hs1 (by omega) (by omega) 0 (by rw [HQ2.out _ hi0 hlt]; rfl)).mono ?_
    rintro e w10 ⟨rfl, hB⟩
    replace HB := HB.below hB
    replace hs1 := hs1.below hB
    replace hs2 := hs2.below hB
    clear hB
    go_wp2_with (fail)
    refine (cmp_B _ _ _ (p - 1) p hs2 hs1 (-1) (cmpI_lt (by omega))).mono ?_
    rintro e w11 ⟨rfl, hB⟩
    replace HB := HB.below hB
    replace hs1 := hs1.below hB
    replace hs2 := hs2.below hB
    clear hB
    go_wp2
    go_ret
    exact ⟨rfl, HB⟩

set_option maxRecDepth 100000 in
theorem lifted_NatCarry (os : Os) (started : os.Started) (H : Type) (enc : TypeId × Value → H) :
    ReturnsInHanded {} Try.checked os 11 .any (Rows.natCarrySpec.pre6 enc Try.prog Try.f11 Rows.natCarryRow.domain false) (Rows.natCarrySpec.post enc Try.prog Try.f11 false true false false) := by
  refine returnsInHanded_of_change (C := Try.checked) own started (by kernel_rfl) Try.func11
    (ChangeSpec.witness6 (enc := enc) (C := Try.checked) false ⟨#[], #[.int .u16 0, .int .u16 0], []⟩ 8 (by kernel_rfl) (by kernel_rfl) (by kernel_rfl) (by kernel_rfl)) ?_
  intro W base args ds gs before hval hW _ _
  have hW' := hW
  obtain ⟨p, q, hA, hV, rfl, _, _⟩ := hW
  have hlt : ∀ x ∈ p ++ q, x.block < W.heap.size := fun x hx => hW'.lt x hx
  have hA2 : DataW.TrodAll enc Try.prog W 0 (fun _ => true) true Try.f11.params.toList args.toList ds p := hA
  rw [Try.params11] at hA2 hval
  clear hA
  obtain ⟨v0, vs0, d0, ds0, p0, q0, hargs0, rfl, rfl, h0, r0⟩ := trodAll_cons hA2
  obtain ⟨v1, vs1, d1, ds1, p1, q1, hargs1, rfl, rfl, h1, r1⟩ := trodAll_cons r0
  obtain ⟨hn1, rfl, rfl⟩ := trodAll_nil r1
  subst hn1
  subst hargs1
  obtain rfl : args = #[v0, v1] := by cases args; simp_all
  obtain ⟨rfl, rfl⟩ := trodVars_none hV
  obtain ⟨n0, rfl, rfl, rfl, wf0⟩ := open_int Try.underlying23 (hval 0 23 v0 rfl rfl) h0
  have bd0 := bounds_u16 wf0
  obtain ⟨m0, rfl⟩ := Int.eq_ofNat_of_zero_le bd0.1
  obtain ⟨n1, rfl, rfl, rfl, wf1⟩ := open_int Try.underlying23 (hval 1 23 v1 rfl rfl) h1
  have bd1 := bounds_u16 wf1
  obtain ⟨m1, rfl⟩ := Int.eq_ofNat_of_zero_le bd1.1
  refine (NatCarry_walk W m0 (by omega) m1 (by omega)).mono fun e W' ⟨he, hB⟩ => ?_
  subst he
  exact ⟨_, rfl, law_post hW' rfl (by rw [Try.params11]; decide +kernel) rfl rfl rfl rfl hB⟩

/-- The statement. -/
theorem natCarry_holds : Rows.NatCarrySaid :=
  OpenClaim.holds_of_wide 11 Try.f11 rfl rfl rfl rfl rfl rfl rfl ⟨rfl, rfl, rfl, rfl, rfl⟩ rfl rfl rfl rfl rfl (by kernel_rfl) Try.func11 (by kernel_rfl)
    (of_decide_eq_true (by kernel_rfl)) (by unfold Func.isWrapper; first | (rw [if_pos (by decide +kernel)]; kernel_rfl) | (rw [if_neg (by decide +kernel)]; exact ⟨rfl, rfl⟩))
    (fun os started H enc _ => lifted_NatCarry os started H enc)
end Go.Proofs.Ytnjkdplhoihkiaa
