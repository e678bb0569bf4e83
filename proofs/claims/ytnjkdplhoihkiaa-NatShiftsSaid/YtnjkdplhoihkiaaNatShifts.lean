/- Proved: the statement NatShifts: whatever limbs: shifts up and down again give the same natural; two shifts are one by the sum; a shift by 1 is the sum with itself, by 0 nothing. No condition. -/
import Derived.Test.YtnjkdplhoihkiaaH
import Derived.Test.YtnjkdplhoihkiaaF
import Derived.Test.YtnjkdplhoihkiaaL2
import Derived.Deep.Cut
import Derived.Deep.RegionWith
import Derived.WideKeyPair
namespace Go.Proofs.Ytnjkdplhoihkiaa
open Go.ChangeShapes Go.WideShapes Go.ChangeAt Go.RowKit
set_option linter.unusedVariables false

theorem rem501 (a : Nat) (h : a < 65536) : (IntKind.i64.wrap (a : Int)).tmod 501 = ((a % 501 : Nat) : Int) := by
  rw [show IntKind.i64.wrap (a : Int) = (a : Int) by rw [IntKind.wrap_i64]; omega, Int.tmod_eq_emod_of_nonneg (by omega)]; omega
set_option maxRecDepth 100000 in
set_option maxHeartbeats 4000000 in
theorem NatShifts_walk (w : World) (v0 : Value) (xs0 : List Nat) (h0 : U w v0 xs0) (a b : Nat) (ha : a < 65536) (hb : b < 65536) :
    Calls Try.prog 7 #[v0, .agg #[.int .u16 (a : Int), .int .u16 (b : Int)]] w fun e w' => e = .returned (.bool true) ∧ Ext w w' := by
  have HB := Ext.refl w
  have b0 := h0.lim
  go_enter Try.func7, Try.ntmps7
  go_wp2_with (fail)
  refine (head_calls _).mono ?_
  rintro e w1 ⟨rfl, hB⟩
  have hc0 : w1.cell? ⟨w.heap.size, 0, none⟩ = some (.int .u16 (a : Int)) := (hB.cell (p := ⟨w.heap.size, 0, none⟩) (by simp)).trans (by simp)
  have hc1 : w1.cell? ⟨w.heap.size, 1, none⟩ = some (.int .u16 (b : Int)) := (hB.cell (p := ⟨w.heap.size, 1, none⟩) (by simp)).trans (by simp)
  have hl1 : w.heap.size < w1.heap.size := Nat.lt_of_lt_of_le (by simp) hB.size
  replace HB := (HB.alloc _).below hB
  replace h0 := (h0.alloc _).below hB
  clear hB
  go_wp2_with (fail)
  have h0d : U w1.drew v0 xs0 := h0
  have HBd : Ext w w1.drew := HB.below (ext_drewN w1 1)
  have hc0d : w1.drew.cell? ⟨w.heap.size, 0, none⟩ = some (.int .u16 (a : Int)) := hc0
  have hc1d : w1.drew.cell? ⟨w.heap.size, 1, none⟩ = some (.int .u16 (b : Int)) := hc1
  go_cut [6, 7, 8] from 9 (fun s6 s7 s8 wx => s7 = .int .i64 ((a % 501 : Nat) : Int) ∧ s8 = .int .i64 ((b % 501 : Nat) : Int) ∧ Un wx s6 (cutN xs0 40) ∧ Ext w wx)
  case first =>
    go_region_with (first
      | (go_at_call 34
         refine (made_B w1.drew v0 xs0 40 h0d (by decide) (by decide) _ rfl).mono ?_
         rintro e w2 ⟨x1, rfl, hx1, hB2⟩
         have hd0 : w2.cell? ⟨w.heap.size, 0, none⟩ = some (.int .u16 (a : Int)) := (hB2.cell (p := ⟨w.heap.size, 0, none⟩) hl1).trans hc0d
         have hd1 : w2.cell? ⟨w.heap.size, 1, none⟩ = some (.int .u16 (b : Int)) := (hB2.cell (p := ⟨w.heap.size, 1, none⟩) hl1).trans hc1d
         have HB2 := HBd.below hB2
         clear hB2))
    all_goals go_wp2
    all_goals go_meet
    all_goals refine ⟨?_, ?_, hx1, HB2⟩
    all_goals (first | rw [rem501 a ha] | rw [rem501 b hb] | (go_num; omega))
  case rest =>
    clear HB HBd h0 h0d hc0 hc1 hc0d hc1d hl1
    obtain ⟨rfl, rfl, hx1, HB⟩ := hcut
    have l1 := cutN_len xs0 40 b0
    generalize cutN xs0 40 = n1 at *
    have N1 : a % 501 ≤ 500 := by omega
    have M1 : b % 501 ≤ 500 := by omega
    generalize a % 501 = N at *
    generalize b % 501 = M at *
    clear ha hb b0
    have l2 : (limbs (n1 * 2 ^ N)).length ≤ 140 := len_shl n1 40 N l1 (by omega)
    obtain ⟨n2, hn2⟩ : ∃ n2, n1 * 2 ^ N = n2 := ⟨_, rfl⟩
    rw [hn2] at l2
    have H2 := Lib.hid hn2
    clear hn2
    have l3 := Nat.le_trans (len_mono (Nat.div_le_self n1 (2 ^ N))) l1
    have r2 : rightB (limbs n2) = true := rightB_limbs (by omega)
    go_wp2_with (fail)
    refine (shl_B _ _ n1 _ hx1 (by omega) (by omega) (by omega) n2 (by rw [show ((N : Int)).toNat = N by omega]; exact H2.out)).mono ?_
    rintro e w1 ⟨s2, rfl, hs2, hB⟩
    replace HB := HB.below hB
    replace hx1 := hx1.below hB
    clear hB
    go_wp2_with (fail)
    refine (shr_B _ _ n2 _ hs2 (by omega) (by omega) (by omega) n1 (by rw [show ((N : Int)).toNat = N by omega, ← H2.out]; exact Nat.mul_div_cancel _ (Nat.two_pow_pos N))).mono ?_
    rintro e w2 ⟨s3, rfl, hs3, hB⟩
    replace HB := HB.below hB
    replace hx1 := hx1.below hB
    replace hs2 := hs2.below hB
    clear hB
    go_wp2_with (fail)
    refine (same_B _ _ _ _ _ hs3 hx1 true (decide_eq_true rfl)).mono ?_
    rintro e w3 ⟨rfl, hB⟩
    replace HB := HB.below hB
    replace hx1 := hx1.below hB
    replace hs2 := hs2.below hB
    replace hs3 := hs3.below hB
    clear hB
    go_wp2_with (fail)
    refine (shl_B _ _ n2 _ hs2 (by omega) (by omega) (by omega) (n1 * 2 ^ (N + M)) (by rw [show ((M : Int)).toNat = M by omega, ← H2.out, Nat.mul_assoc, ← Nat.pow_add])).mono ?_
    rintro e w4 ⟨s4, rfl, hs4, hB⟩
    replace HB := HB.below hB
    replace hx1 := hx1.below hB
    replace hs2 := hs2.below hB
    clear hB
    go_wp2_with (fail)
    refine (shl_B _ _ n1 _ hx1 (by omega) (by omega) (by omega) (n1 * 2 ^ (N + M)) (by rw [show ((N : Int) + (M : Int)).toNat = N + M by omega])).mono ?_
    rintro e w5 ⟨s5, rfl, hs5, hB⟩
    replace HB := HB.below hB
    replace hx1 := hx1.below hB
    replace hs2 := hs2.below hB
    replace hs4 := hs4.below hB
    clear hB
    go_wp2_with (fail)
    refine (same_B _ _ _ _ _ hs4 hs5 true (decide_eq_true rfl)).mono ?_
    rintro e w6 ⟨rfl, hB⟩
    replace HB := HB.below hB
    replace hx1 := hx1.below hB
    replace hs2 := hs2.below hB
    replace hs4 := hs4.below hB
    replace hs5 := hs5.below hB
    clear hB
    go_wp2_with (fail)
    refine (shr_B _ _ n1 _ hx1 (by omega) (by omega) (by omega) _ rfl).mono ?_
    rintro e w7 ⟨s6, rfl, hs6, hB⟩
    replace HB := HB.below hB
    replace hx1 := hx1.below hB
    replace hs2 := hs2.below hB
    clear hB
    rw [show ((N : Int)).toNat = N by omega] at hs6
    go_wp2_with (fail)
    refine (shr_B _ _ (n1 / 2 ^ N) _ hs6 (by omega) (by omega) (by omega) (n1 / 2 ^ (N + M)) (by rw [show ((M : Int)).toNat = M by omega, Nat.pow_add, Nat.div_div_eq_div_mul])).mono ?_
    rintro e w8 ⟨s7, rfl, hs7, hB⟩
    replace HB := HB.below hB
    replace hx1 := hx1.below hB
    replace hs2 := hs2.below hB
    replace hs6 := hs6.below hB
    clear hB
    go_wp2_with (fail)
    refine (shr_B _ _ n1 _ hx1 (by omega) (by omega) (by omega) (n1 / 2 ^ (N + M)) (by rw [show ((N : Int) + (M : Int)).toNat = N + M by omega])).mono ?_
    rintro e w9 ⟨s8, rfl, hs8, hB⟩
    replace HB := HB.below hB
    replace hx1 := hx1.below hB
    replace hs2 := hs2.below hB
    replace hs7 := hs7.below hB
    clear hB
    go_wp2_with (fail)
    refine (same_B _ _ _ _ _ hs7 hs8 true (decide_eq_true rfl)).mono ?_
    rintro e w10 ⟨rfl, hB⟩
    replace HB := HB.below hB
    replace hx1 := hx1.below hB
    replace hs2 := hs2.below hB
    replace hs7 := hs7.below hB
    replace hs8 := hs8.below hB
    clear hB
    go_wp2_with (fail)
    refine (shl_B _ _ n1 _ hx1 (by omega) (by omega) (by omega) (n1 + n1) (by rw [show ((1 : Int)).toNat = 1 from rfl]; omega)).mono ?_
    rintro e w11 ⟨s9, rfl, hs9, hB⟩
    replace HB := HB.below hB
    replace hx1 := hx1.below hB
    replace hs2 := hs2.below hB
    clear hB
    go_wp2_with (fail)
    refine (add_B _ _ _ n1 n1 hx1 hx1 (by omega) (by omega) _ rfl).mono ?_
    rintro e w12 ⟨s10, rfl, hs10, hB⟩
    replace HB := HB.below hB
    replace hx1 := hx1.below hB
    replace hs2 := hs2.below hB
    replace hs9 := hs9.below hB
    clear hB
    go_wp2_with (fail)
    refine (same_B _ _ _ _ _ hs9 hs10 true (decide_eq_true rfl)).mono ?_
    rintro e w13 ⟨rfl, hB⟩
    replace HB := HB.below hB
    replace hx1 := hx1.below hB
    replace hs2 := hs2.below hB
    replace hs9 := hs9.below hB
    replace hs10 := hs10.below hB
    clear hB
    go_wp2_with (fail)
    refine (shl_B _ _ n1 _ hx1 (by omega) (by omega) (by omega) n1 (by rw [show ((0 : Int)).toNat = 0 from rfl]; omega)).mono ?_
    rintro e w14 ⟨s11, rfl, hs11, hB⟩
    replace HB := HB.below hB
    replace hx1 := hx1.below hB
    replace hs2 := hs2.below hB
    clear hB
    go_wp2_with (fail)
    refine (same_B _ _ _ _ _ hs11 hx1 true (decide_eq_true rfl)).mono ?_
    rintro e w15 ⟨rfl, hB⟩
    replace HB := HB.below hB
    replace hx1 := hx1.below hB
    replace hs2 := hs2.below hB
    replace hs11 := hs11.below hB
    clear hB
    go_wp2_with (fail)
    refine (shr_B _ _ n1 _ hx1 (by omega) (by omega) (by omega) n1 (by rw [show ((0 : Int)).toNat = 0 from rfl]; omega)).mono ?_
    rintro e w16 ⟨s12, rfl, hs12, hB⟩
    replace HB := HB.below hB
    replace hx1 := hx1.below hB
    replace hs2 := hs2.below hB
    clear hB
    go_wp2_with (fail)
    refine (same_B _ _ _ _ _ hs12 hx1 true (decide_eq_true rfl)).mono ?_
    rintro e w17 ⟨rfl, hB⟩
    replace HB := HB.below hB
    replace hx1 := hx1.below hB
    replace hs2 := hs2.below hB
    replace hs12 := hs12.below hB
    clear hB
    go_wp2_with (fail)
    refine (right_B _ _ _ hs2 true r2).mono ?_
    rintro e w18 ⟨rfl, hB⟩
    replace HB := HB.below hB
    replace hx1 := hx1.below hB
    replace hs2 := hs2.below hB
    clear hB
    go_wp2
    go_ret
    exact ⟨rfl, HB⟩

set_option maxRecDepth 100000 in
theorem lifted_NatShifts (os : Os) (started : os.Started) (H : Type) (enc : TypeId × Value → H) :
    ReturnsInHanded {} Try.checked os 7 .any (Rows.natShiftsSpec.pre6 enc Try.prog Try.f7 Rows.natShiftsRow.domain false) (Rows.natShiftsSpec.post enc Try.prog Try.f7 false true false false) := by
  refine returnsInHanded_of_change (C := Try.checked) own started (by kernel_rfl) Try.func7
    (ChangeSpec.witness6 (enc := enc) (C := Try.checked) false ⟨#[], #[.slice none 0 0, .agg #[.int .u16 0, .int .u16 0]], []⟩ 8 (by kernel_rfl) (by kernel_rfl) (by kernel_rfl) (by kernel_rfl)) ?_
  intro W base args ds gs before hval hW _ _
  have hW' := hW
  obtain ⟨p, q, hA, hV, rfl, _, _⟩ := hW
  have hlt : ∀ x ∈ p ++ q, x.block < W.heap.size := fun x hx => hW'.lt x hx
  have hA2 : DataW.TrodAll enc Try.prog W 0 (fun _ => true) true Try.f7.params.toList args.toList ds p := hA
  rw [Try.params7] at hA2 hval
  clear hA
  obtain ⟨v0, vs0, d0, ds0, p0, q0, hargs0, rfl, rfl, h0, r0⟩ := trodAll_cons hA2
  obtain ⟨v1, vs1, d1, ds1, p1, q1, hargs1, rfl, rfl, h1, r1⟩ := trodAll_cons r0
  obtain ⟨hn1, rfl, rfl⟩ := trodAll_nil r1
  subst hn1
  subst hargs1
  obtain rfl : args = #[v0, v1] := by cases args; simp_all
  obtain ⟨rfl, rfl⟩ := trodVars_none hV
  obtain ⟨xs0, u0⟩ := open_limbs (hval 0 22 v0 rfl rfl) h0 (fun x hx => hlt x (by simp [hx]))
  obtain ⟨na1, nb1, rfl, rfl, rfl, wfa1, wfb1⟩ := WideMaps.open_pair ⟨Try.underlying24, by kernel_rfl, by kernel_rfl, by kernel_rfl⟩ Try.underlying23 (hval 1 24 v1 rfl rfl) h1
  have bda1 := bounds_u16 wfa1
  have bdb1 := bounds_u16 wfb1
  obtain ⟨ma1, rfl⟩ := Int.eq_ofNat_of_zero_le bda1.1
  obtain ⟨mb1, rfl⟩ := Int.eq_ofNat_of_zero_le bdb1.1
  refine (NatShifts_walk W _ _ u0 ma1 mb1 (by omega) (by omega)).mono fun e W' ⟨he, hB⟩ => ?_
  subst he
  exact ⟨_, rfl, law_post hW' rfl (by rw [Try.params7]; decide +kernel) rfl rfl rfl rfl hB⟩

/-- The statement. -/
theorem natShifts_holds : Rows.NatShiftsSaid :=
  OpenClaim.holds_of_wide 7 Try.f7 rfl rfl rfl rfl rfl rfl rfl ⟨rfl, rfl, rfl, rfl, rfl⟩ rfl rfl rfl rfl rfl (by kernel_rfl) Try.func7 (by kernel_rfl)
    (of_decide_eq_true (by kernel_rfl)) (by unfold Func.isWrapper; first | (rw [if_pos (by decide +kernel)]; kernel_rfl) | (rw [if_neg (by decide +kernel)]; exact ⟨rfl, rfl⟩))
    (fun os started H enc _ => lifted_NatShifts os started H enc)
end Go.Proofs.Ytnjkdplhoihkiaa
