/- Proved: the statement NatCut: whatever limbs and shifts: shifted back and there a natural lacks less than 2 to that power, and has all bits above it; its bits move along. No condition. -/
import Derived.Test.YtnjkdplhoihkiaaH
import Derived.Test.YtnjkdplhoihkiaaF
import Derived.Test.YtnjkdplhoihkiaaL2
namespace Go.Proofs.Ytnjkdplhoihkiaa
open Go.ChangeShapes Go.WideShapes Go.ChangeAt Go.RowKit
set_option linter.unusedVariables false

set_option maxRecDepth 100000 in
set_option maxHeartbeats 4000000 in
theorem NatCut_walk (w : World) (v0 : Value) (xs0 : List Nat) (h0 : U w v0 xs0) (a : Nat) (ha : a < 65536) (b : Nat) (hb : b < 65536) :
    Calls Try.prog 8 #[v0, .int .u16 (a : Int), .int .u16 (b : Int)] w fun e w' => e = .returned (.bool true) ∧ Ext w w' := by
  have HB := Ext.refl w
  have b0 := h0.lim
  go_enter Try.func8, Try.ntmps8
  go_wp2_with (fail)
  refine (head_calls _).mono ?_
  rintro e w1 ⟨rfl, hB⟩
  replace HB := HB.below hB
  replace h0 := h0.below hB
  clear hB
  go_wp2_with (fail)
  refine (made_B _ v0 xs0 40 h0 (by decide) (by decide) _ rfl).mono ?_
  rintro e w2 ⟨x1, rfl, hx1, hB⟩
  replace HB := HB.below hB
  replace h0 := h0.below hB
  clear hB
  have l1 := cutN_len xs0 40 b0
  rw [show ((40 : Int)).toNat = 40 from rfl] at hx1
  generalize cutN xs0 40 = n1 at *
  clear h0 b0
  obtain ⟨N, hN⟩ : ∃ N, N = a % 501 := ⟨_, rfl⟩
  obtain ⟨I, hI⟩ : ∃ I, I = b % 1500 := ⟨_, rfl⟩
  have eN : Hid (((a : Int) % 501) = (N : Int)) := by rw [Hid]; omega
  have eI : Hid (((b : Int) % 1500) = (I : Int)) := by rw [Hid]; omega
  have bN : N ≤ 500 := by omega
  have bI : I ≤ 1499 := by omega
  clear hN hI
  obtain ⟨r, hr⟩ : ∃ r, n1 / 2 ^ N = r := ⟨_, rfl⟩
  obtain ⟨bk, hbk⟩ : ∃ x, r * 2 ^ N = x := ⟨_, rfl⟩
  have lr : (limbs r).length ≤ 40 := by rw [← hr]; exact Nat.le_trans (len_mono (Nat.div_le_self _ _)) l1
  have hle : bk ≤ n1 := by rw [← hbk, ← hr]; exact Nat.div_mul_le_self _ _
  have lbk := Nat.le_trans (len_mono hle) l1
  have lsh := len_shl n1 40 N l1 (by omega)
  have HR := Lib.hid hr
  have HBK := Lib.hid hbk
  have F1 := Lib.hid (cut_blen n1 N)
  rw [hr, hbk] at F1
  have F2 := Lib.hid (cut_bit n1 N I)
  rw [hr] at F2
  have F3 := Lib.hid (shl_bit n1 N I)
  have F4 := Lib.hid (cut_len n1 N)
  rw [hr] at F4
  have F5 : Hid (0 < N → bitN bk ((N : Int) - 1) = 0) := fun h => by rw [← hbk]; exact back_bit r N h
  clear hr hbk
  go_wp2_with (fail)
  refine (shr_B _ _ n1 _ hx1 (by omega) (by omega) (by omega) r (by rw [show ((a : Int) % 501).toNat = N by have := eN.out; omega]; exact HR.out)).mono ?_
  rintro e w3 ⟨s1, rfl, hs1, hB⟩
  replace HB := HB.below hB
  replace hx1 := hx1.below hB
  clear hB
  go_wp2_with (fail)
  refine (shl_B _ _ r _ hs1 (by omega) (by omega) (by omega) bk (by rw [show ((a : Int) % 501).toNat = N by have := eN.out; omega]; exact HBK.out)).mono ?_
  rintro e w4 ⟨s2, rfl, hs2, hB⟩
  replace HB := HB.below hB
  replace hx1 := hx1.below hB
  replace hs1 := hs1.below hB
  clear hB
  go_wp2_with (fail)
  refine (sub_B _ _ _ n1 bk hx1 hs2 (by omega) true (decide_eq_true hle) _ rfl).mono ?_
  rintro e w5 ⟨s3, rfl, hs3, hB⟩
  replace HB := HB.below hB
  replace hx1 := hx1.below hB
  replace hs1 := hs1.below hB
  replace hs2 := hs2.below hB
  clear hB
  have l3 := Nat.le_trans (len_mono (Nat.sub_le n1 bk)) l1
  obtain ⟨k1, hk1⟩ : ∃ k : Int, ((blen (n1 - bk) : Nat) : Int) = k := ⟨_, rfl⟩
  have K1 := Lib.hid hk1
  have q1 : k1 ≤ (a : Int) % 501 := by have := F1.out; have := eN.out; omega
  have q10 : 0 ≤ k1 := by omega
  clear hk1
  go_wp2_with (fail)
  refine (bits_B _ _ (n1 - bk) hs3 (by omega) k1 K1.out).mono ?_
  rintro e w6 ⟨rfl, hB⟩
  replace HB := HB.below hB
  replace hx1 := hx1.below hB
  replace hs1 := hs1.below hB
  replace hs2 := hs2.below hB
  replace hs3 := hs3.below hB
  clear hB
  obtain ⟨k2, hk2⟩ : ∃ k : Int, ((bitN r (I : Int) : Nat) : Int) = k := ⟨_, rfl⟩
  have K2 := Lib.hid hk2
  clear hk2
  go_wp2_with (fail)
  refine (bit_B _ _ r _ hs1 (by omega) (by omega) k2 (by rw [eI.out]; exact K2.out)).mono ?_
  rintro e w7 ⟨rfl, hB⟩
  replace HB := HB.below hB
  replace hx1 := hx1.below hB
  replace hs1 := hs1.below hB
  replace hs2 := hs2.below hB
  clear hB
  go_wp2_with (fail)
  refine (bit_B _ _ n1 _ hx1 (by omega) (by omega) k2 (by rw [eI.out, eN.out, ← K2.out, F2.out])).mono ?_
  rintro e w8 ⟨rfl, hB⟩
  replace HB := HB.below hB
  replace hx1 := hx1.below hB
  replace hs1 := hs1.below hB
  replace hs2 := hs2.below hB
  clear hB
  obtain ⟨k3, hk3⟩ : ∃ k : Int, ((bitN n1 (I : Int) : Nat) : Int) = k := ⟨_, rfl⟩
  have K3 := Lib.hid hk3
  clear hk3
  go_wp2_with (fail)
  refine (shl_B _ _ n1 _ hx1 (by omega) (by omega) (by omega) (n1 * 2 ^ N) (by rw [show ((a : Int) % 501).toNat = N by have := eN.out; omega])).mono ?_
  rintro e w9 ⟨s4, rfl, hs4, hB⟩
  replace HB := HB.below hB
  replace hx1 := hx1.below hB
  replace hs1 := hs1.below hB
  replace hs2 := hs2.below hB
  clear hB
  go_wp2_with (fail)
  refine (bit_B _ _ (n1 * 2 ^ N) _ hs4 (by omega) (by omega) k3 (by rw [eI.out, eN.out, ← K3.out, F3.out])).mono ?_
  rintro e w10 ⟨rfl, hB⟩
  replace HB := HB.below hB
  replace hx1 := hx1.below hB
  replace hs1 := hs1.below hB
  replace hs2 := hs2.below hB
  replace hs4 := hs4.below hB
  clear hB
  go_wp2_with (fail)
  refine (bit_B _ _ n1 _ hx1 (by omega) (by omega) k3 (by rw [eI.out]; exact K3.out)).mono ?_
  rintro e w11 ⟨rfl, hB⟩
  replace HB := HB.below hB
  replace hx1 := hx1.below hB
  replace hs1 := hs1.below hB
  replace hs2 := hs2.below hB
  clear hB
  obtain ⟨k4, hk4⟩ : ∃ k : Int, ((blen r : Nat) : Int) = k := ⟨_, rfl⟩
  obtain ⟨k5, hk5⟩ : ∃ k : Int, ((blen n1 : Nat) : Int) = k := ⟨_, rfl⟩
  have q5 := blen_len l1
  have K4 := Lib.hid hk4
  have K5 := Lib.hid hk5
  have q45 : k4 = max 0 (k5 - ((a : Int) % 501)) := by have := F4.out; have := eN.out; omega
  have Q45 := Lib.hid q45
  have q50 : 0 ≤ k5 := by omega
  have q51 : k5 ≤ 2000 := by omega
  clear hk4 hk5 q5 q45
  obtain ⟨D, hD⟩ : ∃ D, k5 - ((a : Int) % 501) = D := ⟨_, rfl⟩
  rcases Int.lt_or_le 0 D with hd | hd
  · rcases Nat.eq_zero_or_pos N with hn | hn
    · have HD := Lib.hid hD
      have hgt : (a : Int) % 501 < k5 := by omega
      have HQ : Hid (k4 = D) := by rw [Hid]; have := Q45.out; omega
      have q5 : (((a : Int) % 501) == 0) = true := by rw [beq_iff_eq]; have := eN.out; omega
      clear hD
      go_wp2_with (fail)
      refine (bits_B _ _ r hs1 (by omega) (k5 - (a : Int) % 501) (by rw [K4.out, HQ.out, ← HD.out])).mono ?_
      rintro e w12 ⟨rfl, hB⟩
      replace HB := HB.below hB
      replace hx1 := hx1.below hB
      replace hs1 := hs1.below hB
      replace hs2 := hs2.below hB
      clear hB
      go_wp2_with (fail)
      refine (bits_B _ _ n1 hx1 (by omega) k5 K5.out).mono ?_
      rintro e w13 ⟨rfl, hB⟩
      replace HB := HB.below hB
      replace hx1 := hx1.below hB
      replace hs1 := hs1.below hB
      replace hs2 := hs2.below hB
      clear hB
      go_wp2
      go_ret
      exact ⟨rfl, HB⟩
    · have HD := Lib.hid hD
      have hgt : (a : Int) % 501 < k5 := by omega
      have HQ : Hid (k4 = D) := by rw [Hid]; have := Q45.out; omega
      have q5 : (((a : Int) % 501) == 0) = false := by rw [beq_eq_false_iff_ne]; have := eN.out; omega
      clear hD
      go_wp2_with (fail)
      refine (bits_B _ _ r hs1 (by omega) (k5 - (a : Int) % 501) (by rw [K4.out, HQ.out, ← HD.out])).mono ?_
      rintro e w12 ⟨rfl, hB⟩
      replace HB := HB.below hB
      replace hx1 := hx1.below hB
      replace hs1 := hs1.below hB
      replace hs2 := hs2.below hB
      clear hB
      go_wp2_with (fail)
      refine (bits_B _ _ n1 hx1 (by omega) k5 K5.out).mono ?_
      rintro e w13 ⟨rfl, hB⟩
      replace HB := HB.below hB
      replace hx1 := hx1.below hB
      replace hs1 := hs1.below hB
      replace hs2 := hs2.below hB
      clear hB
      go_wp2_with (fail)
      refine (bit_B _ _ bk _ hs2 (by omega) (by omega) 0 (by rw [eN.out, F5.out hn]; try rfl)).mono ?_
      rintro e w14 ⟨rfl, hB⟩
      replace HB := HB.below hB
      replace hx1 := hx1.below hB
      replace hs1 := hs1.below hB
      replace hs2 := hs2.below hB
      clear hB
      go_wp2
      go_ret
      exact ⟨rfl, HB⟩
  · rcases Nat.eq_zero_or_pos N with hn | hn
    · have HD := Lib.hid hD
      have hgt : k5 ≤ (a : Int) % 501 := by omega
      have q4 : k4 = 0 := by have := Q45.out; omega
      subst q4
      have q5 : (((a : Int) % 501) == 0) = true := by rw [beq_iff_eq]; have := eN.out; omega
      clear hD
      go_wp2_with (fail)
      refine (bits_B _ _ r hs1 (by omega) 0 K4.out).mono ?_
      rintro e w12 ⟨rfl, hB⟩
      replace HB := HB.below hB
      replace hx1 := hx1.below hB
      replace hs1 := hs1.below hB
      replace hs2 := hs2.below hB
      clear hB
      go_wp2_with (fail)
      refine (bits_B _ _ n1 hx1 (by omega) k5 K5.out).mono ?_
      rintro e w13 ⟨rfl, hB⟩
      replace HB := HB.below hB
      replace hx1 := hx1.below hB
      replace hs1 := hs1.below hB
      replace hs2 := hs2.below hB
      clear hB
      go_wp2
      go_ret
      exact ⟨rfl, HB⟩
    · have HD := Lib.hid hD
      have hgt : k5 ≤ (a : Int) % 501 := by omega
      have q4 : k4 = 0 := by have := Q45.out; omega
      subst q4
      have q5 : (((a : Int) % 501) == 0) = false := by rw [beq_eq_false_iff_ne]; have := eN.out; omega
      clear hD
      go_wp2_with (fail)
      refine (bits_B _ _ r hs1 (by omega) 0 K4.out).mono ?_
      rintro e w12 ⟨rfl, hB⟩
      replace HB := HB.below hB
      replace hx1 := hx1.below hB
      replace hs1 := hs1.below hB
      replace hs2 := hs2.below hB
      clear hB
      go_wp2_with (fail)
      refine (bits_B _ _ n1 hx1 (by omega) k5 K5.out).mono ?_
      rintro e w13 ⟨rfl, hB⟩
      replace HB := HB.below hB
      replace hx1 := hx1.below hB
      replace hs1 := hs1.below hB
      replace hs2 := hs2.below hB
      clear hB
      go_wp2_with (fail)
      refine (bit_B _ _ bk _ hs2 (by omega) (by omega) 0 (by rw [eN.out, F5.out hn]; try rfl)).mono ?_
      rintro e w14 ⟨rfl, hB⟩
      replace HB := HB.below hB
      replace hx1 := hx1.below hB
      replace hs1 := hs1.below hB
      replace hs2 := hs2.below hB
      clear hB
      go_wp2
      go_ret
      exact ⟨rfl, HB⟩

set_option maxRecDepth 100000 in
theorem lifted_NatCut (os : Os) (started : os.Started) (H : Type) (enc : TypeId × Value → H) :
    ReturnsInHanded {} Try.checked os 8 .any (Rows.natCutSpec.pre6 enc Try.prog Try.f8 Rows.natCutRow.domain false) (Rows.natCutSpec.post enc Try.prog Try.f8 false true false false) := by
  refine returnsInHanded_of_change (C := Try.checked) own started (by kernel_rfl) Try.func8
    (ChangeSpec.witness6 (enc := enc) (C := Try.checked) false ⟨#[], #[.slice none 0 0, .int .u16 0, .int .u16 0], []⟩ 8 (by kernel_rfl) (by kernel_rfl) (by kernel_rfl) (by kernel_rfl)) ?_
  intro W base args ds gs before hval hW _ _
  have hW' := hW
  obtain ⟨p, q, hA, hV, rfl, _, _⟩ := hW
  have hlt : ∀ x ∈ p ++ q, x.block < W.heap.size := fun x hx => hW'.lt x hx
  have hA2 : DataW.TrodAll enc Try.prog W 0 (fun _ => true) true Try.f8.params.toList args.toList ds p := hA
  rw [Try.params8] at hA2 hval
  clear hA
  obtain ⟨v0, vs0, d0, ds0, p0, q0, hargs0, rfl, rfl, h0, r0⟩ := trodAll_cons hA2
  obtain ⟨v1, vs1, d1, ds1, p1, q1, hargs1, rfl, rfl, h1, r1⟩ := trodAll_cons r0
  obtain ⟨v2, vs2, d2, ds2, p2, q2, hargs2, rfl, rfl, h2, r2⟩ := trodAll_cons r1
  obtain ⟨hn1, rfl, rfl⟩ := trodAll_nil r2
  subst hn1
  subst hargs2
  subst hargs1
  obtain rfl : args = #[v0, v1, v2] := by cases args; simp_all
  obtain ⟨rfl, rfl⟩ := trodVars_none hV
  obtain ⟨xs0, u0⟩ := open_limbs (hval 0 22 v0 rfl rfl) h0 (fun x hx => hlt x (by simp [hx]))
  obtain ⟨n1, rfl, rfl, rfl, wf1⟩ := open_int Try.underlying23 (hval 1 23 v1 rfl rfl) h1
  have bd1 := bounds_u16 wf1
  obtain ⟨m1, rfl⟩ := Int.eq_ofNat_of_zero_le bd1.1
  obtain ⟨n2, rfl, rfl, rfl, wf2⟩ := open_int Try.underlying23 (hval 2 23 v2 rfl rfl) h2
  have bd2 := bounds_u16 wf2
  obtain ⟨m2, rfl⟩ := Int.eq_ofNat_of_zero_le bd2.1
  refine (NatCut_walk W _ _ u0 m1 (by omega) m2 (by omega)).mono fun e W' ⟨he, hB⟩ => ?_
  subst he
  exact ⟨_, rfl, law_post hW' rfl (by rw [Try.params8]; decide +kernel) rfl rfl rfl rfl hB⟩

/-- The statement. -/
theorem natCut_holds : Rows.NatCutSaid :=
  OpenClaim.holds_of_wide 8 Try.f8 rfl rfl rfl rfl rfl rfl rfl ⟨rfl, rfl, rfl, rfl, rfl⟩ rfl rfl rfl rfl rfl (by kernel_rfl) Try.func8 (by kernel_rfl)
    (of_decide_eq_true (by kernel_rfl)) (by unfold Func.isWrapper; first | (rw [if_pos (by decide +kernel)]; kernel_rfl) | (rw [if_neg (by decide +kernel)]; exact ⟨rfl, rfl⟩))
    (fun os started H enc _ => lifted_NatCut os started H enc)
end Go.Proofs.Ytnjkdplhoihkiaa
