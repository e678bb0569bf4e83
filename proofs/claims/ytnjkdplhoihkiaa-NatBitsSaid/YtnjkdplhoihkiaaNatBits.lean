/- Proved: the statement NatBits: whatever limbs: a natural is the sum of its bits, each times its power of 2; the last one of Bits is 1, all beyond are 0. No condition. -/
import Derived.Test.YtnjkdplhoihkiaaH
import Derived.Test.YtnjkdplhoihkiaaF
import Derived.Test.YtnjkdplhoihkiaaL2
namespace Go.Proofs.Ytnjkdplhoihkiaa
open Go.ChangeShapes Go.WideShapes Go.ChangeAt Go.RowKit
set_option linter.unusedVariables false

set_option maxRecDepth 100000 in
set_option maxHeartbeats 4000000 in
theorem NatBits_walk (w : World) (v0 : Value) (xs0 : List Nat) (h0 : U w v0 xs0) (a : Nat) (ha : a < 65536) :
    Calls Try.prog 6 #[v0, .int .u16 (a : Int)] w fun e w' => e = .returned (.bool true) ∧ Ext w w' := by
  have HB := Ext.refl w
  have b0 := h0.lim
  go_enter Try.func6, Try.ntmps6
  go_wp2_with (fail)
  refine (head_calls _).mono ?_
  rintro e w1 ⟨rfl, hB⟩
  replace HB := HB.below hB
  replace h0 := h0.below hB
  clear hB
  go_wp2_with (fail)
  refine (made_B _ v0 xs0 12 h0 (by decide) (by decide) _ rfl).mono ?_
  rintro e w2 ⟨x1, rfl, hx1, hB⟩
  replace HB := HB.below hB
  replace h0 := h0.below hB
  clear hB
  have l1 := cutN_len xs0 12 b0
  rw [show ((12 : Int)).toNat = 12 from rfl] at hx1
  generalize cutN xs0 12 = n1 at *
  clear h0 b0
  obtain ⟨A1, c1, rfl, hz1, hz2, hz3⟩ := id hx1
  clear hz1 hz2 hz3
  have q1 := blen_le_len n1
  obtain ⟨B, hBl⟩ : ∃ B, blen n1 = B := ⟨_, rfl⟩
  rw [hBl] at q1
  have HBl := Lib.hid hBl
  have q2 : B ≤ 384 := by omega
  have HZ : Hid (B = 0 ↔ (limbs n1).length = 0) := by rw [Hid, ← hBl]; exact blen_zero_iff n1
  have HT : Hid (0 < B → bitN n1 ((B : Int) - 1) = 1) := fun h => by rw [← hBl] at h ⊢; exact top_one n1 h
  have HO : Hid (∀ k : Nat, bitN n1 ((B : Int) + (k : Int)) = 0) := fun k => by rw [← hBl]; exact beyond_zero n1 k
  clear hBl
  have hnlen : ¬ ((32 : Int) * (limbs n1).length < (B : Int)) := by omega
  have hq0 : decide ((B : Int) < 0) = false := by rw [decide_eq_false_iff_not]; omega
  go_wp2_with (fail)
  refine (bits_B _ _ n1 (hx1.alloc _) (by omega) (B : Int) (by rw [HBl.out])).mono ?_
  rintro e w3 ⟨rfl, hB⟩
  replace HB := (HB.alloc _).below hB
  replace hx1 := (hx1.alloc _).below hB
  clear hB
  go_wp2_with (fail)
  have hs0 : Un w3 (.slice (some ⟨w2.heap.size, 0, none⟩) 0 0) (n1 / 2 ^ B) := by
    rw [Nat.div_eq_of_lt (by have := lt_pow_blen n1; rwa [HBl.out] at this), Un, limbs_zero]; exact U.nil_ _ _ _
  go_loopw [8, 9] (fun s i wr => ∃ k : Nat, k ≤ B ∧ i = .int .i64 ((k : Int) - 1) ∧ Un wr s (n1 / 2 ^ k) ∧ Un wr (.slice A1 (limbs n1).length c1) n1 ∧ Ext w wr) (fun _ i _ => (intOf i + 1).toNat)
  case atStart => exact ⟨B, Nat.le_refl _, rfl, hs0, hx1, HB⟩
  case round =>
    clear hs0 HB hx1
    obtain ⟨k, hk, rfl, hs, hx1, HB⟩ := hrel
    have lk : (limbs (n1 / 2 ^ k)).length ≤ 12 := Nat.le_trans (len_mono (Nat.div_le_self _ _)) l1
    have lkk := len_add lk lk
    rcases Nat.eq_zero_or_pos k with rfl | h0
    · rw [Nat.pow_zero, Nat.div_one] at hs
      rcases Nat.eq_zero_or_pos B with hB0 | hB0
      · have hl0 := HZ.out.1 hB0
        subst hB0
        rw [hl0] at hx1
        rw [hl0]
        clear hl0 lk lkk q1 hnlen
        go_wp2_with (fail)
        refine (same_B _ _ _ _ _ hs hx1 true (decide_eq_true rfl)).mono ?_
        rintro e w201 ⟨rfl, hB⟩
        replace HB := HB.below hB
        replace hx1 := hx1.below hB
        replace hs := hs.below hB
        clear hB
        go_wp2_with (fail)
        refine (bit_B _ _ n1 _ hx1 (by omega) (by omega) 0 (by have := HO.out a; rw [Int.natCast_zero, Int.zero_add] at this; rw [this]; rfl)).mono ?_
        rintro e w202 ⟨rfl, hB⟩
        replace HB := HB.below hB
        replace hx1 := hx1.below hB
        replace hs := hs.below hB
        clear hB
        go_wp2
        go_ret
        exact ⟨rfl, HB⟩
      · have hl0 : 0 < (limbs n1).length := by have := HZ.out; omega
        have e1 : (((B : Nat) : Int) == 0) = false := by rw [beq_eq_false_iff_ne]; omega
        have e2 : ((((limbs n1).length : Nat) : Int) == 0) = false := by rw [beq_eq_false_iff_ne]; omega
        go_wp2_with (fail)
        refine (same_B _ _ _ _ _ hs hx1 true (decide_eq_true rfl)).mono ?_
        rintro e w201 ⟨rfl, hB⟩
        replace HB := HB.below hB
        replace hx1 := hx1.below hB
        replace hs := hs.below hB
        clear hB
        go_wp2_with (fail)
        refine (bit_B _ _ n1 _ hx1 (by omega) (by omega) 1 (by rw [HT.out hB0]; rfl)).mono ?_
        rintro e w202 ⟨rfl, hB⟩
        replace HB := HB.below hB
        replace hx1 := hx1.below hB
        replace hs := hs.below hB
        clear hB
        go_wp2_with (fail)
        refine (bit_B _ _ n1 _ hx1 (by omega) (by omega) 0 (by rw [HO.out]; rfl)).mono ?_
        rintro e w203 ⟨rfl, hB⟩
        replace HB := HB.below hB
        replace hx1 := hx1.below hB
        replace hs := hs.below hB
        clear hB
        go_wp2
        go_ret
        exact ⟨rfl, HB⟩
    · have HN0 : Hid (n1 / 2 ^ (k - 1) = n1 / 2 ^ k + n1 / 2 ^ k + bitN n1 ((k : Int) - 1)) := by
        rw [Hid]
        have e := next_bit n1 (k - 1)
        rw [show k - 1 + 1 = k by omega, show (((k - 1 : Nat)) : Int) = (k : Int) - 1 by omega] at e
        exact e
      have hle := bitN_le n1 ((k : Int) - 1)
      rcases Nat.lt_or_ge (bitN n1 ((k : Int) - 1)) 1 with hb | hb
      · have HK : Hid (((bitN n1 ((k : Int) - 1) : Nat) : Int) = 0) := by rw [Hid]; omega
        have HN : Hid (n1 / 2 ^ (k - 1) = n1 / 2 ^ k + n1 / 2 ^ k) := by have := HN0.out; have := HK.out; rw [Hid]; omega
        clear hb hle
        go_wp2_with (fail)
        refine (add_B _ _ _ (n1 / 2 ^ k) (n1 / 2 ^ k) hs hs (by omega) (by omega) _ rfl).mono ?_
        rintro e w101 ⟨s1, rfl, hs1, hB⟩
        replace HB := HB.below hB
        replace hx1 := hx1.below hB
        replace hs := hs.below hB
        clear hB
        go_wp2_with (fail)
        refine (bit_B _ _ n1 _ hx1 (by omega) (by omega) 0 HK.out).mono ?_
        rintro e w102 ⟨rfl, hB⟩
        replace HB := HB.below hB
        replace hx1 := hx1.below hB
        replace hs := hs.below hB
        replace hs1 := hs1.below hB
        clear hB
        go_wp2_with (fail)
        refine (bit_B _ _ n1 _ hx1 (by omega) (by omega) 0 HK.out).mono ?_
        rintro e w103 ⟨rfl, hB⟩
        replace HB := HB.below hB
        replace hx1 := hx1.below hB
        replace hs := hs.below hB
        replace hs1 := hs1.below hB
        clear hB
        go_wp2
        go_roundw
        case rel => exact ⟨k - 1, by omega, by go_num, by rw [HN.out]; exact hs1, hx1, HB⟩
        case measure => simp [intOf]; omega
      · have HK : Hid (((bitN n1 ((k : Int) - 1) : Nat) : Int) = 1) := by rw [Hid]; omega
        have HN : Hid (n1 / 2 ^ (k - 1) = n1 / 2 ^ k + n1 / 2 ^ k + 1) := by have := HN0.out; have := HK.out; rw [Hid]; omega
        clear hb hle
        go_wp2_with (fail)
        refine (add_B _ _ _ (n1 / 2 ^ k) (n1 / 2 ^ k) hs hs (by omega) (by omega) _ rfl).mono ?_
        rintro e w101 ⟨s1, rfl, hs1, hB⟩
        replace HB := HB.below hB
        replace hx1 := hx1.below hB
        replace hs := hs.below hB
        clear hB
        go_wp2_with (fail)
        refine (bit_B _ _ n1 _ hx1 (by omega) (by omega) 1 HK.out).mono ?_
        rintro e w102 ⟨rfl, hB⟩
        replace HB := HB.below hB
        replace hx1 := hx1.below hB
        replace hs := hs.below hB
        replace hs1 := hs1.below hB
        clear hB
        go_wp2_with (fail)
        refine (add_B _ _ _ (n1 / 2 ^ k + n1 / 2 ^ k) 1 (hs1.alloc _) (U.un (U_lit2 _ (w102.heap.size) (by simp) [1] (by decide) (by decide)) (lim [1] (by decide) (by decide) (by decide))) (by omega) (by rw [lim [1] (by decide) (by decide) (by decide)]; decide) (n1 / 2 ^ (k - 1)) (by rw [HN.out])).mono ?_
        rintro e w103 ⟨s2, rfl, hs2, hB⟩
        replace HB := (HB.alloc _).below hB
        replace hx1 := (hx1.alloc _).below hB
        replace hs := (hs.alloc _).below hB
        replace hs1 := (hs1.alloc _).below hB
        clear hB
        go_wp2
        go_roundw
        case rel => exact ⟨k - 1, by omega, by go_num, hs2, hx1, HB⟩
        case measure => simp [intOf]; omega

set_option maxRecDepth 100000 in
theorem lifted_NatBits (os : Os) (started : os.Started) (H : Type) (enc : TypeId × Value → H) :
    ReturnsInHanded {} Try.checked os 6 .any (Rows.natBitsSpec.pre6 enc Try.prog Try.f6 Rows.natBitsRow.domain false) (Rows.natBitsSpec.post enc Try.prog Try.f6 false true false false) := by
  refine returnsInHanded_of_change (C := Try.checked) own started (by kernel_rfl) Try.func6
    (ChangeSpec.witness6 (enc := enc) (C := Try.checked) false ⟨#[], #[.slice none 0 0, .int .u16 0], []⟩ 8 (by kernel_rfl) (by kernel_rfl) (by kernel_rfl) (by kernel_rfl)) ?_
  intro W base args ds gs before hval hW _ _
  have hW' := hW
  obtain ⟨p, q, hA, hV, rfl, _, _⟩ := hW
  have hlt : ∀ x ∈ p ++ q, x.block < W.heap.size := fun x hx => hW'.lt x hx
  have hA2 : DataW.TrodAll enc Try.prog W 0 (fun _ => true) true Try.f6.params.toList args.toList ds p := hA
  rw [Try.params6] at hA2 hval
  clear hA
  obtain ⟨v0, vs0, d0, ds0, p0, q0, hargs0, rfl, rfl, h0, r0⟩ := trodAll_cons hA2
  obtain ⟨v1, vs1, d1, ds1, p1, q1, hargs1, rfl, rfl, h1, r1⟩ := trodAll_cons r0
  obtain ⟨hn1, rfl, rfl⟩ := trodAll_nil r1
  subst hn1
  subst hargs1
  obtain rfl : args = #[v0, v1] := by cases args; simp_all
  obtain ⟨rfl, rfl⟩ := trodVars_none hV
  obtain ⟨xs0, u0⟩ := open_limbs (hval 0 22 v0 rfl rfl) h0 (fun x hx => hlt x (by simp [hx]))
  obtain ⟨n1, rfl, rfl, rfl, wf1⟩ := open_int Try.underlying23 (hval 1 23 v1 rfl rfl) h1
  have bd1 := bounds_u16 wf1
  obtain ⟨m1, rfl⟩ := Int.eq_ofNat_of_zero_le bd1.1
  refine (NatBits_walk W _ _ u0 m1 (by omega)).mono fun e W' ⟨he, hB⟩ => ?_
  subst he
  exact ⟨_, rfl, law_post hW' rfl (by rw [Try.params6]; decide +kernel) rfl rfl rfl rfl hB⟩

/-- The statement. -/
theorem natBits_holds : Rows.NatBitsSaid :=
  OpenClaim.holds_of_wide 6 Try.f6 rfl rfl rfl rfl rfl rfl rfl ⟨rfl, rfl, rfl, rfl, rfl⟩ rfl rfl rfl rfl rfl (by kernel_rfl) Try.func6 (by kernel_rfl)
    (of_decide_eq_true (by kernel_rfl)) (by unfold Func.isWrapper; first | (rw [if_pos (by decide +kernel)]; kernel_rfl) | (rw [if_neg (by decide +kernel)]; exact ⟨rfl, rfl⟩))
    (fun os started H enc _ => lifted_NatBits os started H enc)
end Go.Proofs.Ytnjkdplhoihkiaa
