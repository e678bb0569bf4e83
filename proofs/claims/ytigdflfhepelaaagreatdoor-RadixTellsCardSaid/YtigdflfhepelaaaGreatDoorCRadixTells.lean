/- Proved: the statement RadixTells: for any row (of at most 40 limbs), any text (of at most 200 bytes) and any base: the digits, how many these are, and which natural the text is, or where it is none, are the document's. No condition. -/
import Derived.Test.YtigdflfhepelaaaGreatDoorPk

namespace Go.Proofs.YtigdflfhepelaaaGreatDoor
open Go.RowKit
set_option linter.unusedVariables false
set_option maxHeartbeats 400000

set_option maxRecDepth 100000 in
set_option maxHeartbeats 8000000 in
theorem RadixTells_walk (w : World) (r0 : Value) (xs : List Nat) (u0 : U w r0 xs) (S : ByteArray) (z : Int) :
    Calls Tryz.prog 3 #[r0, .string S, .int .i64 z] w fun e w' => e = .returned (.bool true) ∧ Ext w w' := by
  obtain ⟨a, ha⟩ : ∃ a, val (xs.take 40) = a := ⟨_, rfl⟩
  have hla : (limbs a).length ≤ 40 := by rw [← ha]; exact cutK_len xs 40 u0.lim
  obtain ⟨m, hm⟩ : ∃ m, min xs.length 40 = m := ⟨_, rfl⟩
  have hNt := Lib.hid (fun W h => rnat_calls W r0 xs h 40 m (by omega) hm)
  rw [ha] at hNt
  obtain ⟨k, hk⟩ : ∃ k, min S.size 200 = k := ⟨_, rfl⟩
  obtain ⟨-, d2, d3, d4⟩ := cut_facts S 200 k hk
  have d1 : min (S.size : Int) 200 = (k : Int) := by omega
  obtain ⟨ys, at_, c, hR, hR2⟩ := tell_read (S.extract 0 k) z (by omega)
  obtain ⟨T, tc, n, d, hT, hT2, hC, hC2⟩ := tell_text a z (by omega)
  have HR := Lib.hid hR
  have HR2 := Lib.hid hR2
  have HT := Lib.hid hT
  have HT2 := Lib.hid hT2
  have HC := Lib.hid hC
  have HC2 := Lib.hid hC2
  obtain ⟨A, l, c0, rfl⟩ := U.sl u0
  clear ha hm hla hk hR hR2 hT hT2 hC hC2 d4
  have d5 : (k : Int) ≤ (S.size : Int) := by omega
  have d6 : (0 : Int) ≤ (k : Int) := by omega
  go_enter Tryz.func3, Tryz.ntmps3
  go_wp2_with (first
    | (go_at_call 12; refine (xhead_calls _).mono ?_; rintro e w1 ⟨rfl, hE1⟩; have u1 := u0.below hE1)
    | (go_at_call 13; refine (hNt.out _ u1).mono ?_; rintro e w2 ⟨⟨v2, rfl, hv2⟩, hE2⟩; obtain ⟨A2, l2, c2, rfl⟩ := U.sl hv2)
    | (go_at_call 14; refine (HT.out _ _ hv2).mono ?_; rintro e w3 ⟨rfl, hE3⟩; have hv3 := Un.below hv2 hE3)
    | (go_at_call 15; refine (HT2.out _ _ hv3).mono ?_; rintro e w4 ⟨rfl, hE4⟩; have hv4 := Un.below hv3 hE4)
    | (go_at_call 16; refine (HC.out _ _ hv4).mono ?_; rintro e w5 ⟨rfl, hE5⟩; have hv5 := Un.below hv4 hE5)
    | (go_at_call 17; refine (HC2.out _ _ hv5).mono ?_; rintro e w6 ⟨rfl, hE6⟩)
    | (go_at_call 18; refine (HR.out _).mono ?_; rintro e w7 ⟨v7, rfl, hv7, hE7⟩; obtain ⟨A7, l7, c7, rfl⟩ := U.sl hv7)
    | (go_at_call 19; refine (HR2.out _).mono ?_; rintro e w8 ⟨v8, rfl, hv8, hE8⟩; obtain ⟨A8, l8, c8, rfl⟩ := U.sl hv8; have hv7b := U.below hv7 hE8)
    | (go_at_call 20; refine (rsame_U _ _ _ ys ys hv7b hv8 true (decide_eq_true rfl)).mono ?_; rintro e w9 ⟨rfl, hE9⟩))
  go_ret
  exact ⟨by first | rfl | simp, (((((((hE1.below hE2).below hE3).below hE4).below hE5).below hE6).below hE7).below hE8).below hE9⟩
end Go.Proofs.YtigdflfhepelaaaGreatDoor
/- Proved: the statement RadixTells: for any row (of at most 40 limbs), any text (of at most 200 bytes) and any base: the digits, how many these are, and which natural the text is, or where it is none, are the document's. No condition. -/
namespace Go.Proofs.YtigdflfhepelaaaGreatDoor
open Go.ChangeShapes Go.WideShapes Go.ChangeAt Go.RowKit
set_option linter.unusedVariables false
set_option maxHeartbeats 2000000

set_option maxRecDepth 100000 in
theorem lifted_RadixTells (os : Os) (started : os.Started) (H : Type) (enc : TypeId × Value → H) :
    ReturnsInHanded {} Tryz.checked os 3 .any (fun w args => (Rows.radixTellsSpec.pre enc Tryz.prog Tryz.f3 [] false w args ∧ laidMetH Tryz.prog laidV w) ∧ sizedMet enc Tryz.prog Tryz.f3 (OpenSpec.ofChange Rows.radixTellsSpec) false w args)
      (Rows.radixTellsSpec.post enc Tryz.prog Tryz.f3 false true false false) := by
  refine returnsInHanded_of_change_and (C := Tryz.checked) (X := fun w _ => laidMetH Tryz.prog laidV w) (fun _ _ _ hh h => h.of_heap hh) own started (by kernel_rfl) Tryz.func3
    (ChangeSpec.witness_shaped (enc := enc) (C := Tryz.checked) (os := os) (X := fun w _ => laidMetH Tryz.prog laidV w) false (World.laidAll Tryz.prog os laidV) #[.slice none 0 0, .string ⟨#[]⟩, .int .i64 0] 8 (World.laidAll_os _ _ _) (World.shaped_of_ZipB (by kernel_rfl) (by kernel_rfl)) (by kernel_rfl) (by kernel_rfl) (by kernel_rfl) (laid_met os _)) ?_
  intro W base args ds gs before hval0 hW _ _ hL _
  have hval : ∀ (j : Nat) t v, Tryz.f3.params[j]? = some t → args[j]? = some v → Value.okWide Tryz.prog W .any base t v := hval0
  have hW' := hW
  obtain ⟨p, q, hA0, hV, rfl, hfz, hnd⟩ := hW
  have hlt : ∀ x ∈ p ++ q, x.block < W.heap.size := fun x hx => hW'.lt x hx
  have hA : DataW.TrodAll enc Tryz.prog W 0 (fun _ => true) true Tryz.f3.params.toList args.toList ds p := hA0
  rw [Tryz.params3] at hA hval
  clear hA0 hval0
  obtain ⟨v0, vs0, d0, ds0, p0, q0, hargs0, rfl, rfl, h0, r0⟩ := trodAll_cons hA
  obtain ⟨v1, vs1, d1, ds1, p1, q1, hargs1, rfl, rfl, h1, r1⟩ := trodAll_cons r0
  obtain ⟨v2, vs2, d2, ds2, p2, q2, hargs2, rfl, rfl, h2, r2⟩ := trodAll_cons r1
  obtain ⟨hn1, rfl, rfl⟩ := trodAll_nil r2
  subst hn1
  subst hargs2
  subst hargs1
  obtain rfl : args = #[v0, v1, v2] := by cases args; simp_all
  obtain ⟨rfl, rfl⟩ := trodVars_none hV
  obtain ⟨xs0, u0⟩ := open_limbs (hval 0 22 v0 rfl rfl) h0 (fun x hx => hlt x (by simp [hx]))
  obtain ⟨s1, rfl⟩ := okWide_string Tryz.underlying9 (hval 1 9 v1 rfl rfl)
  obtain ⟨z2, rfl, rfl, rfl, hz2⟩ := open_int Tryz.underlying3 (hval 2 3 v2 rfl rfl) h2
  refine (RadixTells_walk W _ _ u0 s1 z2).mono fun e W' ⟨he, hB⟩ => ?_
  subst he
  exact ⟨_, rfl, law_post hW' rfl (by rw [Tryz.params3]; decide +kernel) rfl rfl rfl rfl hB⟩

theorem radixTells_said : Rows.RadixTellsSaid :=
  OpenClaim.holds_of_wide 3 Tryz.f3 rfl rfl rfl rfl rfl rfl rfl ⟨rfl, rfl, rfl, rfl, rfl⟩ rfl rfl rfl rfl rfl (by kernel_rfl) Tryz.func3 (by kernel_rfl)
    (of_decide_eq_true (by kernel_rfl)) (by unfold Func.isWrapper; first | (rw [if_pos (by decide +kernel)]; kernel_rfl) | (rw [if_neg (by decide +kernel)]; exact ⟨rfl, rfl⟩))
    (fun os started H enc _ => lifted_RadixTells os started H enc)
/-- The statement: the card, tied. -/
theorem radixTells_holds : Rows.RadixTellsCardSaid :=
  Claim7.holds_tied_plain_at .later [] [.data, .wider, .pinned] true Rows.radixTellsCard.stood.harness false
    radixTells_said (fun _ h => by cases h) (by kernel_rfl) (fun _ h => by cases h) radixTells_row_tie rfl ⟨rfl, rfl⟩ (by kernel_rfl) rfl
    (fun f fn hf hfn => by
      obtain rfl : f = 3 := Option.some.inj ((show Tryz.prog.funcNamed "ziggurat/zigguratlaw05.RadixTells" = some 3 by kernel_rfl).symm.trans hf) |>.symm
      obtain rfl : fn = Tryz.f3 := (Option.some.inj (Tryz.func3.symm.trans hfn)).symm
      exact ⟨by kernel_rfl, fun j t ht => by
        rw [Tryz.params3] at ht
        have hm : t ∈ [22, 9, 3] := by simpa using Array.mem_of_getElem? ht
        have hall : ([22, 9, 3].all fun u => !Tryz.prog.wantsStandIn u) = true := by kernel_rfl
        exact (show Tryz.prog.wantsStandIn t = false by simpa using List.all_eq_true.1 hall t hm)⟩)
    (by kernel_rfl)
end Go.Proofs.YtigdflfhepelaaaGreatDoor
