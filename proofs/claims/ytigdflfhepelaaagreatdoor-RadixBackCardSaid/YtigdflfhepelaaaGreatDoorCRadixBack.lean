/- Proved: the statement RadixBack: for any row (of at most 200 limbs) and any base: what is written is read as it was, and it begins with a nought just if it is one. No condition. -/
import Derived.Test.YtigdflfhepelaaaGreatDoorPk

namespace Go.Proofs.YtigdflfhepelaaaGreatDoor
open Go.RowKit
set_option linter.unusedVariables false
set_option maxHeartbeats 400000

/-- The first byte of what is written. -/
theorem first_byte (b a : Nat) (h2 : 2 ≤ b) (h36 : b ≤ 36) (h : 0 < (strD (dt b a)).size) : (((strD (dt b a))[0]'h).toNat = 48 ↔ a = 0) := by
  rw [strD_at (dt b a) (fun d hd => by have := dt_lt b h2 a d hd; omega) 0 h]
  cases e : dt b a with
  | nil =>
    have := dt_len1 b h2 a
    rw [e] at this
    simp at this
  | cons d ds =>
    have := dt_head b h2 a d ds e
    show digB d = 48 ↔ _
    rw [digB_zero]
    exact this

set_option maxRecDepth 100000 in
set_option maxHeartbeats 8000000 in
theorem RadixBack_walk (w : World) (r0 : Value) (xs : List Nat) (u0 : U w r0 xs) (n : Nat) (hn : n < 256) :
    Calls Tryz.prog 4 #[r0, .int .u8 (n : Nat)] w fun e w' => e = .returned (.bool true) ∧ Ext w w' := by
  obtain ⟨a, ha⟩ : ∃ a, val (xs.take 200) = a := ⟨_, rfl⟩
  have hla : (limbs a).length ≤ 200 := by rw [← ha]; exact cutK_len xs 200 u0.lim
  obtain ⟨m, hm⟩ : ∃ m, min xs.length 200 = m := ⟨_, rfl⟩
  have hNt := Lib.hid (fun W h => rnat_calls W r0 xs h 200 m (by omega) hm)
  rw [ha] at hNt
  obtain ⟨b, hb⟩ : ∃ b, 2 + n % 35 = b := ⟨_, rfl⟩
  have h2 : 2 ≤ b := by omega
  have h36 : b ≤ 36 := by omega
  have hOf := Lib.hid (fun W => rof_calls W n hn)
  rw [hb] at hOf
  have hTx := Lib.hid (fun W v h => text_calls W v a b h (by omega) h2 h36)
  have hRd := Lib.hid (fun W => read_dt W b a h2 h36 (by omega))
  have hfb := first_byte b a h2 h36
  have hsz : 0 < (strD (dt b a)).size := by rw [strD_size]; exact dt_len1 b h2 a
  have hie : (strD (dt b a)).toList.isEmpty = false := by rw [isEmpty_size]; exact decide_eq_false (by omega)
  have hfb := hfb hsz
  generalize strD (dt b a) = T at *
  obtain ⟨c0, hc0⟩ : ∃ c, (T[0]'hsz).toNat = c := ⟨_, rfl⟩
  rw [hc0] at hfb
  obtain ⟨A, l, c, rfl⟩ := U.sl u0
  have hz0 : a = 0 ∨ a ≠ 0 := by omega
  have HLa := Lib.hid hla
  clear ha hm hb
  have hcase : (a = 0 ∧ c0 = 48 ∧ (limbs a).length = 0) ∨ (a ≠ 0 ∧ ¬ (c0 = 48) ∧ (limbs a).length ≠ 0) := by
    rcases hz0 with h | h
    · left
      refine ⟨h, hfb.2 h, ?_⟩
      rw [h, limbs_zero]; rfl
    · exact .inr ⟨h, fun e => h (hfb.1 e), fun e => by have := limbs_nz h; omega⟩
  obtain ⟨la, hlla⟩ : ∃ la, (limbs a).length = la := ⟨_, rfl⟩
  rw [hlla] at hcase
  have HLL := Lib.hid hlla
  clear hlla hla hfb hz0
  rcases hcase with ⟨-, rfl, rfl⟩ | ⟨-, q1, q2⟩
  case' inr =>
    have q3 : ((c0 : Int) == 48) = false := by rw [beq_eq_false_iff_ne]; omega
    have q4 : ((la : Int) == 0) = false := by rw [beq_eq_false_iff_ne]; omega
    clear q1 q2
  all_goals (
    go_enter Tryz.func4, Tryz.ntmps4
    go_wp2_with (first
      | (go_at_call 12; refine (xhead_calls _).mono ?_; rintro e w1 ⟨rfl, hE1⟩; have u1 := u0.below hE1)
      | (go_at_call 13; refine (hNt.out _ u1).mono ?_; rintro e w2 ⟨⟨v2, rfl, hv2⟩, hE2⟩; obtain ⟨A2, c2, rfl, hc2⟩ := U.shape (U.asUn hv2); rw [HLL.out] at hv2 ⊢; clear hc2)
      | (go_at_call 21; refine (hOf.out _).mono ?_; rintro e w3 ⟨rfl, hw3⟩; have hE3 := ext_eq hw3; clear hw3)
      | (go_at_call 14; refine (hTx.out _ _ (Un.below hv2 hE3)).mono ?_; rintro e w4 ⟨rfl, hE4⟩)
      | (go_at_call 18; refine (hRd.out _).mono ?_; rintro e w5 ⟨v5, rfl, hv5, hE5⟩; obtain ⟨A5, l5, c5, rfl⟩ := U.sl hv5)
      | (go_at_call 20; refine (rsame_B _ _ _ a a (Un.below (Un.below (Un.below hv2 hE3) hE4) hE5) hv5 true (decide_eq_true rfl)).mono ?_; rintro e w6 ⟨rfl, hE6⟩))
    go_ret
    exact ⟨by first | rfl | simp, ((((hE1.below hE2).below hE3).below hE4).below hE5).below hE6⟩)
end Go.Proofs.YtigdflfhepelaaaGreatDoor
/- Proved: the statement RadixBack: for any row (of at most 200 limbs) and any base: what is written is read as it was, and it begins with a nought just if it is one. No condition. -/
namespace Go.Proofs.YtigdflfhepelaaaGreatDoor
open Go.ChangeShapes Go.WideShapes Go.ChangeAt Go.RowKit
set_option linter.unusedVariables false
set_option maxHeartbeats 2000000

set_option maxRecDepth 100000 in
theorem lifted_RadixBack (os : Os) (started : os.Started) (H : Type) (enc : TypeId × Value → H) :
    ReturnsInHanded {} Tryz.checked os 4 .any (fun w args => (Rows.radixBackSpec.pre enc Tryz.prog Tryz.f4 [] false w args ∧ laidMetH Tryz.prog laidV w) ∧ sizedMet enc Tryz.prog Tryz.f4 (OpenSpec.ofChange Rows.radixBackSpec) false w args)
      (Rows.radixBackSpec.post enc Tryz.prog Tryz.f4 false true false false) := by
  refine returnsInHanded_of_change_and (C := Tryz.checked) (X := fun w _ => laidMetH Tryz.prog laidV w) (fun _ _ _ hh h => h.of_heap hh) own started (by kernel_rfl) Tryz.func4
    (ChangeSpec.witness_shaped (enc := enc) (C := Tryz.checked) (os := os) (X := fun w _ => laidMetH Tryz.prog laidV w) false (World.laidAll Tryz.prog os laidV) #[.slice none 0 0, .int .u8 0] 8 (World.laidAll_os _ _ _) (World.shaped_of_ZipB (by kernel_rfl) (by kernel_rfl)) (by kernel_rfl) (by kernel_rfl) (by kernel_rfl) (laid_met os _)) ?_
  intro W base args ds gs before hval0 hW _ _ hL _
  have hval : ∀ (j : Nat) t v, Tryz.f4.params[j]? = some t → args[j]? = some v → Value.okWide Tryz.prog W .any base t v := hval0
  have hW' := hW
  obtain ⟨p, q, hA0, hV, rfl, hfz, hnd⟩ := hW
  have hlt : ∀ x ∈ p ++ q, x.block < W.heap.size := fun x hx => hW'.lt x hx
  have hA : DataW.TrodAll enc Tryz.prog W 0 (fun _ => true) true Tryz.f4.params.toList args.toList ds p := hA0
  rw [Tryz.params4] at hA hval
  clear hA0 hval0
  obtain ⟨v0, vs0, d0, ds0, p0, q0, hargs0, rfl, rfl, h0, r0⟩ := trodAll_cons hA
  obtain ⟨v1, vs1, d1, ds1, p1, q1, hargs1, rfl, rfl, h1, r1⟩ := trodAll_cons r0
  obtain ⟨hn1, rfl, rfl⟩ := trodAll_nil r1
  subst hn1
  subst hargs1
  obtain rfl : args = #[v0, v1] := by cases args; simp_all
  obtain ⟨rfl, rfl⟩ := trodVars_none hV
  obtain ⟨xs0, u0⟩ := open_limbs (hval 0 22 v0 rfl rfl) h0 (fun x hx => hlt x (by simp [hx]))
  obtain ⟨z1, rfl, rfl, rfl, hz1⟩ := open_int Tryz.underlying5 (hval 1 5 v1 rfl rfl) h1
  have hb1 := bounds_u8 hz1
  obtain ⟨n1, rfl⟩ := Int.eq_ofNat_of_zero_le (show 0 ≤ z1 by omega)
  refine (RadixBack_walk W _ _ u0 n1 (by omega)).mono fun e W' ⟨he, hB⟩ => ?_
  subst he
  exact ⟨_, rfl, law_post hW' rfl (by rw [Tryz.params4]; decide +kernel) rfl rfl rfl rfl hB⟩

theorem radixBack_said : Rows.RadixBackSaid :=
  OpenClaim.holds_of_wide 4 Tryz.f4 rfl rfl rfl rfl rfl rfl rfl ⟨rfl, rfl, rfl, rfl, rfl⟩ rfl rfl rfl rfl rfl (by kernel_rfl) Tryz.func4 (by kernel_rfl)
    (of_decide_eq_true (by kernel_rfl)) (by unfold Func.isWrapper; first | (rw [if_pos (by decide +kernel)]; kernel_rfl) | (rw [if_neg (by decide +kernel)]; exact ⟨rfl, rfl⟩))
    (fun os started H enc _ => lifted_RadixBack os started H enc)
/-- The statement: the card, tied. -/
theorem radixBack_holds : Rows.RadixBackCardSaid :=
  Claim7.holds_tied_plain_at .later [] [.data, .wider, .pinned] true Rows.radixBackCard.stood.harness false
    radixBack_said (fun _ h => by cases h) (by kernel_rfl) (fun _ h => by cases h) radixBack_row_tie rfl ⟨rfl, rfl⟩ (by kernel_rfl) rfl
    (fun f fn hf hfn => by
      obtain rfl : f = 4 := Option.some.inj ((show Tryz.prog.funcNamed "ziggurat/zigguratlaw05.RadixBack" = some 4 by kernel_rfl).symm.trans hf) |>.symm
      obtain rfl : fn = Tryz.f4 := (Option.some.inj (Tryz.func4.symm.trans hfn)).symm
      exact ⟨by kernel_rfl, fun j t ht => by
        rw [Tryz.params4] at ht
        have hm : t ∈ [22, 5] := by simpa using Array.mem_of_getElem? ht
        have hall : ([22, 5].all fun u => !Tryz.prog.wantsStandIn u) = true := by kernel_rfl
        exact (show Tryz.prog.wantsStandIn t = false by simpa using List.all_eq_true.1 hall t hm)⟩)
    (by kernel_rfl)
end Go.Proofs.YtigdflfhepelaaaGreatDoor
