/- Proved: the statement RadixOrder: for any two rows (of at most 60 limbs) and any base: the lesser of two naturals has fewer digits, or as many, and stands ahead of the other one by bytes. No condition. -/
import Derived.Test.YtigdflfhepelaaaGreatDoorPk

namespace Go.Proofs.YtigdflfhepelaaaGreatDoor
open Go.RowKit
set_option linter.unusedVariables false
set_option maxHeartbeats 400000

set_option maxRecDepth 100000 in
set_option maxHeartbeats 8000000 in
theorem RadixOrder_walk (w : World) (r0 : Value) (xs : List Nat) (u0 : U w r0 xs) (r1 : Value) (ys : List Nat) (u1 : U w r1 ys) (n : Nat) (hn : n < 256) :
    Calls Tryz.prog 8 #[r0, r1, .int .u8 (n : Nat)] w fun e w' => e = .returned (.bool true) ∧ Ext w w' := by
  obtain ⟨a, ha⟩ : ∃ a, val (xs.take 60) = a := ⟨_, rfl⟩
  have hla : (limbs a).length ≤ 60 := by rw [← ha]; exact cutK_len xs 60 u0.lim
  obtain ⟨m, hm⟩ : ∃ m, min xs.length 60 = m := ⟨_, rfl⟩
  have hNt := Lib.hid (fun W h => rnat_z W r0 xs h 60 m a 60 rfl (by omega) hm ha)
  obtain ⟨v, hv⟩ : ∃ a, val (ys.take 60) = a := ⟨_, rfl⟩
  have hlv : (limbs v).length ≤ 60 := by rw [← hv]; exact cutK_len ys 60 u1.lim
  obtain ⟨m2, hm2⟩ : ∃ m, min ys.length 60 = m := ⟨_, rfl⟩
  have hNt2 := Lib.hid (fun W h => rnat_z W r1 ys h 60 m2 v 60 rfl (by omega) hm2 hv)
  obtain ⟨b, hb⟩ : ∃ b, 2 + n % 35 = b := ⟨_, rfl⟩
  have h2 : 2 ≤ b := by omega
  have h36 : b ≤ 36 := by omega
  have hOf := Lib.hid (fun W => rof_calls W n hn)
  rw [hb] at hOf
  have hTa := Lib.hid (fun W u h => text_calls W u a b h (by omega) h2 h36)
  have hTv := Lib.hid (fun W u h => text_calls W u v b h (by omega) h2 h36)
  have hCa := Lib.hid (fun W u h => count_calls W u a b h (by omega) h2 h36)
  obtain ⟨p, hp⟩ : ∃ p, decide (a < v) = p := ⟨_, rfl⟩
  have hLs := Lib.hid (fun W x y (h : Un W x a) (g : Un W y v) => less_calls W x y a v h g p hp)
  have hord := dt_order b h2 a v
  have hda := dt_lt b h2 a
  have hdv := dt_lt b h2 v
  have hba := dt_len_bound b a h2 (by omega)
  have hbv := dt_len_bound b v h2 (by omega)
  generalize dt b a = ds at *
  generalize dt b v = es at *
  have hlS := fun hl => less_strD ds es hl (fun d h => by have := hda d h; omega) (fun d h => by have := hdv d h; omega)
  have hs1 := strD_size ds
  have hs2 := strD_size es
  generalize strD ds = T1 at *
  generalize strD es = T2 at *
  obtain ⟨k1, hk1⟩ : ∃ k, ds.length = k := ⟨_, rfl⟩
  obtain ⟨k2, hk2⟩ : ∃ k, es.length = k := ⟨_, rfl⟩
  rw [hk1] at hord hs1 hba hCa hlS
  rw [hk2] at hord hs2 hbv hlS
  have hcase : (k1 < k2 ∧ p = true) ∨ (k2 < k1 ∧ p = false) ∨ (k1 = k2 ∧ Op.bytesLess T1.toList T2.toList = p) := by
    rcases Nat.lt_trichotomy k1 k2 with h | h | h
    · exact .inl ⟨h, by rw [← hp]; exact decide_eq_true (hord.2 (.inl h))⟩
    · refine .inr (.inr ⟨h, ?_⟩)
      rw [hlS h, ← hp, Bool.eq_iff_iff, decide_eq_true_eq, hord]
      constructor
      · intro h3; exact .inr ⟨h, h3⟩
      · rintro (h3 | h3)
        · omega
        · exact h3.2
    · have h5 : ¬ (a < v) := fun h3 => by
        rcases hord.1 h3 with h4 | h4
        · omega
        · omega
      exact .inr (.inl ⟨h, by rw [← hp]; exact decide_eq_false h5⟩)
  obtain ⟨A0, l0, c0, rfl⟩ := U.sl u0
  obtain ⟨A1, l1, c1, rfl⟩ := U.sl u1
  clear ha hm hv hm2 hb hn hord hda hdv hlS hp hla hlv hk1 hk2
  rcases hcase with ⟨h, rfl⟩ | ⟨h, rfl⟩ | ⟨rfl, hbl⟩
  case' inl =>
    have q1 : (k1 : Int) < (k2 : Int) := by omega
  case' inr.inl =>
    have q1 : ¬ ((k1 : Int) < (k2 : Int)) := by omega
    have q2 : ((k1 : Int) == (k2 : Int)) = false := by rw [beq_eq_false_iff_ne]; omega
    have q3 : ¬ (k1 < k2) := by omega
  all_goals (
    go_enter Tryz.func8, Tryz.ntmps8
    go_wp2_with (first
      | (go_at_call 12; refine (xhead_calls _).mono ?_; rintro e w1 ⟨rfl, hE1⟩; have u0b := u0.below hE1; have u1b := u1.below hE1)
      | (go_at_call 13; first | ((with_reducible refine (hNt.out _ u0b).mono ?_); rintro e w2 ⟨⟨v2, rfl, hv2⟩, hE2⟩; obtain ⟨A2, l2, c2, rfl⟩ := U.sl hv2; have u1c := u1b.below hE2) | ((with_reducible refine (hNt2.out _ u1c).mono ?_); rintro e w3 ⟨⟨v3, rfl, hv3⟩, hE3⟩; obtain ⟨A3, l3, c3, rfl⟩ := U.sl hv3; have hv2b := Un.below hv2 hE3))
      | (go_at_call 21; refine (hOf.out _).mono ?_; rintro e w4 ⟨rfl, hw4⟩; have hE4 := ext_eq hw4; clear hw4; have hv2c := Un.below hv2b hE4; have hv3c := Un.below hv3 hE4)
      | (go_at_call 14; first | ((with_reducible refine (hTa.out _ _ hv2c).mono ?_); rintro e w5 ⟨rfl, hE5⟩; have hv3d := Un.below hv3c hE5; have hv2d := Un.below hv2c hE5) | ((with_reducible refine (hTv.out _ _ hv3d).mono ?_); rintro e w6 ⟨rfl, hE6⟩; have hv2e := Un.below hv2d hE6; have hv3e := Un.below hv3d hE6))
      | (go_at_call 16; refine (hCa.out _ _ hv2e).mono ?_; rintro e w7 ⟨rfl, hE7⟩)
      | (go_at_call 27; refine (hLs.out _ _ _ (Un.below hv2e hE7) (Un.below hv3e hE7)).mono ?_; rintro e w8 ⟨rfl, hE8⟩))
    go_ret
    exact ⟨by first | rfl | simp, ((((((hE1.below hE2).below hE3).below hE4).below hE5).below hE6).below hE7).below hE8⟩)
end Go.Proofs.YtigdflfhepelaaaGreatDoor
/- Proved: the statement RadixOrder: for any two rows (of at most 60 limbs) and any base: the lesser of two naturals has fewer digits, or as many, and stands ahead of the other one by bytes. No condition. -/
namespace Go.Proofs.YtigdflfhepelaaaGreatDoor
open Go.ChangeShapes Go.WideShapes Go.ChangeAt Go.RowKit
set_option linter.unusedVariables false
set_option maxHeartbeats 2000000

set_option maxRecDepth 100000 in
theorem lifted_RadixOrder (os : Os) (started : os.Started) (H : Type) (enc : TypeId × Value → H) :
    ReturnsInHanded {} Tryz.checked os 8 .any (fun w args => (Rows.radixOrderSpec.pre enc Tryz.prog Tryz.f8 [] false w args ∧ laidMetH Tryz.prog laidV w) ∧ sizedMet enc Tryz.prog Tryz.f8 (OpenSpec.ofChange Rows.radixOrderSpec) false w args)
      (Rows.radixOrderSpec.post enc Tryz.prog Tryz.f8 false true false false) := by
  refine returnsInHanded_of_change_and (C := Tryz.checked) (X := fun w _ => laidMetH Tryz.prog laidV w) (fun _ _ _ hh h => h.of_heap hh) own started (by kernel_rfl) Tryz.func8
    (ChangeSpec.witness_shaped (enc := enc) (C := Tryz.checked) (os := os) (X := fun w _ => laidMetH Tryz.prog laidV w) false (World.laidAll Tryz.prog os laidV) #[.slice none 0 0, .slice none 0 0, .int .u8 0] 8 (World.laidAll_os _ _ _) (World.shaped_of_ZipB (by kernel_rfl) (by kernel_rfl)) (by kernel_rfl) (by kernel_rfl) (by kernel_rfl) (laid_met os _)) ?_
  intro W base args ds gs before hval0 hW _ _ hL _
  have hval : ∀ (j : Nat) t v, Tryz.f8.params[j]? = some t → args[j]? = some v → Value.okWide Tryz.prog W .any base t v := hval0
  have hW' := hW
  obtain ⟨p, q, hA0, hV, rfl, hfz, hnd⟩ := hW
  have hlt : ∀ x ∈ p ++ q, x.block < W.heap.size := fun x hx => hW'.lt x hx
  have hA : DataW.TrodAll enc Tryz.prog W 0 (fun _ => true) true Tryz.f8.params.toList args.toList ds p := hA0
  rw [Tryz.params8] at hA hval
  clear hA0 hval0
  obtain ⟨v0, vs0, d0, ds0, p0, q0, hargs0, rfl, rfl, h0, r0⟩ := trodAll_cons hA
  obtain ⟨v1, vs1, d1, ds1, p1, q1, hargs1, rfl, rfl, h1, r1⟩ := trodAll_cons r0
  obtain ⟨v2, vs2, d2, ds2, p2, q2, hargs2, rfl, rfl, h2, r2⟩ := trodAll_cons r1
  obtain ⟨hn1, rfl, rfl⟩ := trodAll_nil r2
  subst hn1
  subst hargs2
  subst hargs1
  obtain rfl : args = #[v0, v1, v2] := by cases args; simp_all
  obtain ⟨rfl, rfl⟩ := trodVars_none hV
  obtain ⟨xs0, u0⟩ := open_limbs (hval 0 22 v0 rfl rfl) h0 (fun x hx => hlt x (by simp [hx]))
  obtain ⟨xs1, u1⟩ := open_limbs (hval 1 22 v1 rfl rfl) h1 (fun x hx => hlt x (by simp [hx]))
  obtain ⟨z2, rfl, rfl, rfl, hz2⟩ := open_int Tryz.underlying5 (hval 2 5 v2 rfl rfl) h2
  have hb2 := bounds_u8 hz2
  obtain ⟨n2, rfl⟩ := Int.eq_ofNat_of_zero_le (show 0 ≤ z2 by omega)
  refine (RadixOrder_walk W _ _ u0 _ _ u1 n2 (by omega)).mono fun e W' ⟨he, hB⟩ => ?_
  subst he
  exact ⟨_, rfl, law_post hW' rfl (by rw [Tryz.params8]; decide +kernel) rfl rfl rfl rfl hB⟩

theorem radixOrder_said : Rows.RadixOrderSaid :=
  OpenClaim.holds_of_wide 8 Tryz.f8 rfl rfl rfl rfl rfl rfl rfl ⟨rfl, rfl, rfl, rfl, rfl⟩ rfl rfl rfl rfl rfl (by kernel_rfl) Tryz.func8 (by kernel_rfl)
    (of_decide_eq_true (by kernel_rfl)) (by unfold Func.isWrapper; first | (rw [if_pos (by decide +kernel)]; kernel_rfl) | (rw [if_neg (by decide +kernel)]; exact ⟨rfl, rfl⟩))
    (fun os started H enc _ => lifted_RadixOrder os started H enc)
/-- The statement: the card, tied. -/
theorem radixOrder_holds : Rows.RadixOrderCardSaid :=
  Claim7.holds_tied_plain_at .later [] [.data, .wider, .pinned] true Rows.radixOrderCard.stood.harness false
    radixOrder_said (fun _ h => by cases h) (by kernel_rfl) (fun _ h => by cases h) radixOrder_row_tie rfl ⟨rfl, rfl⟩ (by kernel_rfl) rfl
    (fun f fn hf hfn => by
      obtain rfl : f = 8 := Option.some.inj ((show Tryz.prog.funcNamed "ziggurat/zigguratlaw05.RadixOrder" = some 8 by kernel_rfl).symm.trans hf) |>.symm
      obtain rfl : fn = Tryz.f8 := (Option.some.inj (Tryz.func8.symm.trans hfn)).symm
      exact ⟨by kernel_rfl, fun j t ht => by
        rw [Tryz.params8] at ht
        have hm : t ∈ [22, 22, 5] := by simpa using Array.mem_of_getElem? ht
        have hall : ([22, 22, 5].all fun u => !Tryz.prog.wantsStandIn u) = true := by kernel_rfl
        exact (show Tryz.prog.wantsStandIn t = false by simpa using List.all_eq_true.1 hall t hm)⟩)
    (by kernel_rfl)
end Go.Proofs.YtigdflfhepelaaaGreatDoor
