/- Proved: the statement RadixWorth: for any row (of at most 200 limbs), any text (of at most 1000 digits) and any base: a natural's digits are worth it: modulo a prime, digit by digit, as limb by limb; and so are digits that are read. No condition. -/
import Derived.Test.YtigdflfhepelaaaGreatDoorPk

namespace Go.Proofs.YtigdflfhepelaaaGreatDoor
open Go.RowKit
set_option linter.unusedVariables false
set_option maxHeartbeats 400000

set_option maxRecDepth 100000 in
set_option maxHeartbeats 8000000 in
theorem RadixWorth_walk (w : World) (r0 : Value) (xs : List Nat) (u0 : U w r0 xs) (S : ByteArray) (n : Nat) (hn : n < 256) :
    Calls Tryz.prog 6 #[r0, .string S, .int .u8 (n : Nat)] w fun e w' => e = .returned (.bool true) ∧ Ext w w' := by
  obtain ⟨a, ha⟩ : ∃ a, val (xs.take 200) = a := ⟨_, rfl⟩
  have hla : (limbs a).length ≤ 200 := by rw [← ha]; exact cutK_len xs 200 u0.lim
  obtain ⟨m, hm⟩ : ∃ m, min xs.length 200 = m := ⟨_, rfl⟩
  have hNt := Lib.hid (fun W h => rnat_calls W r0 xs h 200 m (by omega) hm)
  rw [ha] at hNt
  obtain ⟨b, hb⟩ : ∃ b, 2 + n % 35 = b := ⟨_, rfl⟩
  have h2 : 2 ≤ b := by omega
  have h36 : b ≤ 36 := by omega
  have hOf := Lib.hid (fun W => rof_calls W n hn)
  rw [hb] at hOf
  have hDg := Lib.hid (fun W => rdigits_calls W S b 1000 h2 h36 (by decide))
  have hdl := dgs_len S b 1000 (by decide)
  have hdb := dgs_lt S b 1000 (by omega)
  generalize dgs S b 1000 = ds at *
  obtain ⟨v, hv⟩ : ∃ v, bval b ds = v := ⟨_, rfl⟩
  have hRd := Lib.hid (fun W => read_ds W b ds v h2 h36 hdb hdl.1 (by omega) hv)
  have hW1 := Lib.hid (fun W => worth0 W b v h36 ds (fun d h => by have := hdb d h; omega) (by omega) hv)
  have hTx := Lib.hid (fun W v h => text_calls W v a b h (by omega) h2 h36)
  have hes := dt_lt b h2 a
  have hel := dt_len_bound b a h2 (by omega)
  have hev := bval_dt b h2 a
  generalize dt b a = es at *
  have hat := Lib.hid (strD_at es (fun d h => by have := hes d h; omega))
  have hDa := Lib.hid (fun i (hi : i < es.length) => hes _ (lb_mem es i hi))
  have hW2 := Lib.hid (fun W => worth0 W b a h36 es (fun d h => by have := hes d h; omega) (by omega) hev)
  have hM1 := Lib.hid (fun W u (h : Un W u a) => rmod_calls W u a h)
  have hM2 := Lib.hid (fun W u (h : Un W u v) => rmod_calls W u v h)
  obtain ⟨A, l, c, rfl⟩ := U.sl u0
  have hsz := strD_size es
  obtain ⟨L, hL⟩ : ∃ L, es.length = L := ⟨_, rfl⟩
  rw [hL] at hsz hel
  have HL := Lib.hid hL
  clear ha hm hb hn hdl hdb hv hes hev hla hL
  generalize strD es = T at *
  generalize strD ds = T2 at *
  go_enter Tryz.func6, Tryz.ntmps6
  go_wp2_with (first
    | (go_at_call 12; refine (xhead_calls _).mono ?_; rintro e w1 ⟨rfl, hE1⟩; have u1 := u0.below hE1)
    | (go_at_call 13; refine (hNt.out _ u1).mono ?_; rintro e w2 ⟨⟨v2, rfl, hv2⟩, hE2⟩; obtain ⟨A2, l2, c2, rfl⟩ := U.sl hv2)
    | (go_at_call 21; refine (hOf.out _).mono ?_; rintro e w3 ⟨rfl, hw3⟩; have hE3 := ext_eq hw3; clear hw3)
    | (go_at_call 22; refine (hDg.out _).mono ?_; rintro e w4 ⟨rfl, hE4⟩; have hv4 := Un.below (Un.below hv2 hE3) hE4)
    | (go_at_call 14; refine (hTx.out _ _ hv4).mono ?_; rintro e w5 ⟨rfl, hE5⟩)
    | (go_at_call 18; refine (hRd.out _).mono ?_; rintro e w6 ⟨v6, rfl, hv6, hE6⟩; obtain ⟨A6, l6, c6, rfl⟩ := U.sl hv6))
  have hE := ((((hE1.below hE2).below hE3).below hE4).below hE5).below hE6
  have hv5 := Un.below (Un.below hv4 hE5) hE6
  clear hE1 hE2 hE3 hE4 hE5 hE6 hv2 hv4 u1 u0 hNt hOf hDg hTx hRd
  go_loopw [15] (fun t wr => ∃ j : Nat, j ≤ L ∧ t = .int .i64 (j : Nat) ∧ wr = w6) (fun t _ => L - (intOf t).toNat)
  case atStart => exact ⟨0, Nat.zero_le _, rfl, rfl⟩
  case round =>
    obtain ⟨j, hj, rfl, rfl⟩ := hrel
    by_cases hlt : j < L
    · have hj1 : (j : Int) < (L : Int) := by omega
      have hj2 : j < T.size := by omega
      have e1 := hat.out j hj2
      have e2 := hDa.out j (by rw [HL.out]; exact hlt)
      obtain ⟨d, hd⟩ : ∃ d, lb es j = d := ⟨_, rfl⟩
      rw [hd] at e1 e2
      have e3 : ¬ ((b : Int) ≤ (d : Int)) := by omega
      have hd36 : d < 36 := by omega
      clear hd e2
      go_wp2_with (go_at_call 24; refine (digit_at _ _ _ hd36 rfl).mono ?_; rintro e w7 ⟨rfl, rfl⟩)
      go_roundw
      case rel => first | exact ⟨j + 1, by omega, by go_num, by trivial⟩ | ((repeat apply Exists.intro); refine ⟨⟨j + 1, by omega, ?_, by trivial⟩, rfl⟩; go_num)
      case measure => simp [intOf]; omega
    · have hj1 : ¬ ((j : Int) < (L : Int)) := by omega
      go_wp2_with (first
        | (go_at_call 25; first | (with_reducible refine (hW2.out _).mono ?_; rintro e w8 ⟨rfl, rfl⟩) | (with_reducible refine (hW1.out _).mono ?_; rintro e w9 ⟨rfl, rfl⟩))
        | (go_at_call 26; first | (with_reducible refine (hM1.out _ _ hv5).mono ?_; rintro e w8 ⟨rfl, rfl⟩) | (with_reducible refine (hM2.out _ _ hv6).mono ?_; rintro e w9 ⟨rfl, rfl⟩)))
      go_ret
      exact ⟨by first | rfl | simp, hE⟩
end Go.Proofs.YtigdflfhepelaaaGreatDoor
/- Proved: the statement RadixWorth: for any row (of at most 200 limbs), any text (of at most 1000 digits) and any base: a natural's digits are worth it: modulo a prime, digit by digit, as limb by limb; and so are digits that are read. No condition. -/
namespace Go.Proofs.YtigdflfhepelaaaGreatDoor
open Go.ChangeShapes Go.WideShapes Go.ChangeAt Go.RowKit
set_option linter.unusedVariables false
set_option maxHeartbeats 2000000

set_option maxRecDepth 100000 in
theorem lifted_RadixWorth (os : Os) (started : os.Started) (H : Type) (enc : TypeId × Value → H) :
    ReturnsInHanded {} Tryz.checked os 6 .any (fun w args => (Rows.radixWorthSpec.pre enc Tryz.prog Tryz.f6 [] false w args ∧ laidMetH Tryz.prog laidV w) ∧ sizedMet enc Tryz.prog Tryz.f6 (OpenSpec.ofChange Rows.radixWorthSpec) false w args)
      (Rows.radixWorthSpec.post enc Tryz.prog Tryz.f6 false true false false) := by
  refine returnsInHanded_of_change_and (C := Tryz.checked) (X := fun w _ => laidMetH Tryz.prog laidV w) (fun _ _ _ hh h => h.of_heap hh) own started (by kernel_rfl) Tryz.func6
    (ChangeSpec.witness_shaped (enc := enc) (C := Tryz.checked) (os := os) (X := fun w _ => laidMetH Tryz.prog laidV w) false (World.laidAll Tryz.prog os laidV) #[.slice none 0 0, .string ⟨#[]⟩, .int .u8 0] 8 (World.laidAll_os _ _ _) (World.shaped_of_ZipB (by kernel_rfl) (by kernel_rfl)) (by kernel_rfl) (by kernel_rfl) (by kernel_rfl) (laid_met os _)) ?_
  intro W base args ds gs before hval0 hW _ _ hL _
  have hval : ∀ (j : Nat) t v, Tryz.f6.params[j]? = some t → args[j]? = some v → Value.okWide Tryz.prog W .any base t v := hval0
  have hW' := hW
  obtain ⟨p, q, hA0, hV, rfl, hfz, hnd⟩ := hW
  have hlt : ∀ x ∈ p ++ q, x.block < W.heap.size := fun x hx => hW'.lt x hx
  have hA : DataW.TrodAll enc Tryz.prog W 0 (fun _ => true) true Tryz.f6.params.toList args.toList ds p := hA0
  rw [Tryz.params6] at hA hval
  clear hA0 hval0
  obtain ⟨v0, vs0, d0, ds0, p0, q0, hargs0, rfl, rfl, h0, r0⟩ := trodAll_cons hA
  obtain ⟨v1, vs1, d1, ds1, p1, q1, hargs1, rfl, rfl, h1, r1⟩ := trodAll_cons r0
  obtain ⟨v2, vs2, d2, ds2, p2, q2, hargs2, rfl, rfl, h2, r2⟩ := trodAll_cons r1
  obtain ⟨hn1, rfl, rfl⟩ := trodAll_nil r2
  subst hn1
  subst hargs2
  subst hargs1
  obtain rfl : args = #[v0, v1, v2] := by cases args; simp_all
  obtain ⟨rfl, rfl⟩ := trodVars_none hV
  obtain ⟨xs0, u0⟩ := open_limbs (hval 0 22 v0 rfl rfl) h0 (fun x hx => hlt x (by simp [hx]))
  obtain ⟨s1, rfl⟩ := okWide_string Tryz.underlying9 (hval 1 9 v1 rfl rfl)
  obtain ⟨z2, rfl, rfl, rfl, hz2⟩ := open_int Tryz.underlying5 (hval 2 5 v2 rfl rfl) h2
  have hb2 := bounds_u8 hz2
  obtain ⟨n2, rfl⟩ := Int.eq_ofNat_of_zero_le (show 0 ≤ z2 by omega)
  refine (RadixWorth_walk W _ _ u0 s1 n2 (by omega)).mono fun e W' ⟨he, hB⟩ => ?_
  subst he
  exact ⟨_, rfl, law_post hW' rfl (by rw [Tryz.params6]; decide +kernel) rfl rfl rfl rfl hB⟩

theorem radixWorth_said : Rows.RadixWorthSaid :=
  OpenClaim.holds_of_wide 6 Tryz.f6 rfl rfl rfl rfl rfl rfl rfl ⟨rfl, rfl, rfl, rfl, rfl⟩ rfl rfl rfl rfl rfl (by kernel_rfl) Tryz.func6 (by kernel_rfl)
    (of_decide_eq_true (by kernel_rfl)) (by unfold Func.isWrapper; first | (rw [if_pos (by decide +kernel)]; kernel_rfl) | (rw [if_neg (by decide +kernel)]; exact ⟨rfl, rfl⟩))
    (fun os started H enc _ => lifted_RadixWorth os started H enc)
/-- The statement: the card, tied. -/
theorem radixWorth_holds : Rows.RadixWorthCardSaid :=
  Claim7.holds_tied_plain_at .later [] [.data, .wider, .pinned] true Rows.radixWorthCard.stood.harness false
    radixWorth_said (fun _ h => by cases h) (by kernel_rfl) (fun _ h => by cases h) radixWorth_row_tie rfl ⟨rfl, rfl⟩ (by kernel_rfl) rfl
    (fun f fn hf hfn => by
      obtain rfl : f = 6 := Option.some.inj ((show Tryz.prog.funcNamed "ziggurat/zigguratlaw05.RadixWorth" = some 6 by kernel_rfl).symm.trans hf) |>.symm
      obtain rfl : fn = Tryz.f6 := (Option.some.inj (Tryz.func6.symm.trans hfn)).symm
      exact ⟨by kernel_rfl, fun j t ht => by
        rw [Tryz.params6] at ht
        have hm : t ∈ [22, 9, 5] := by simpa using Array.mem_of_getElem? ht
        have hall : ([22, 9, 5].all fun u => !Tryz.prog.wantsStandIn u) = true := by kernel_rfl
        exact (show Tryz.prog.wantsStandIn t = false by simpa using List.all_eq_true.1 hall t hm)⟩)
    (by kernel_rfl)
end Go.Proofs.YtigdflfhepelaaaGreatDoor
