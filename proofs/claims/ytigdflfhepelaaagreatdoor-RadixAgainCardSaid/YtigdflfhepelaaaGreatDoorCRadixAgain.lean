/- Proved: the statement RadixAgain: for any text (of at most 1000 digits), any base and any number of noughts: digits that are read, and written again, are these without noughts ahead; noughts more ahead change nothing. No condition. -/
import Derived.Test.YtigdflfhepelaaaGreatDoorPk
import Derived.Laws.Concat

namespace Go.Proofs.YtigdflfhepelaaaGreatDoor
open Go.RowKit
set_option linter.unusedVariables false
set_option maxHeartbeats 400000

theorem zeros_more (ds : List Nat) (i : Nat) : (⟨#[48]⟩ : ByteArray) ++ strD (List.replicate i 0 ++ ds) = strD (List.replicate (i + 1) 0 ++ ds) := by
  have e : (⟨#[48]⟩ : ByteArray) = strD [0] := rfl
  rw [e, strD_app]
  rfl
theorem bval_more (b i : Nat) (ds : List Nat) : bval b (List.replicate i 0 ++ ds) = bval b ds := by
  rw [bval_append, bval_zeros, Nat.zero_mul, Nat.zero_add]

set_option maxRecDepth 100000 in
set_option maxHeartbeats 8000000 in
theorem RadixAgain_walk (w : World) (S : ByteArray) (n : Nat) (hn : n < 256) (q : Nat) (hq : q < 256) :
    Calls Tryz.prog 5 #[.string S, .int .u8 (n : Nat), .int .u8 (q : Nat)] w fun e w' => e = .returned (.bool true) ∧ Ext w w' := by
  obtain ⟨b, hb⟩ : ∃ b, 2 + n % 35 = b := ⟨_, rfl⟩
  have h2 : 2 ≤ b := by omega
  have h36 : b ≤ 36 := by omega
  have hOf := Lib.hid (fun W => rof_calls W n hn)
  rw [hb] at hOf
  have hDg := Lib.hid (fun W => rdigits_calls W S b 1000 h2 h36 (by decide))
  have hdl := dgs_len S b 1000 (by decide)
  have hdb := dgs_lt S b 1000 (by omega)
  generalize dgs S b 1000 = ds at *
  obtain ⟨L, hL⟩ : ∃ L, ds.length = L := ⟨_, rfl⟩
  obtain ⟨a, ha⟩ : ∃ a, bval b ds = a := ⟨_, rfl⟩
  have hla : (limbs a).length ≤ 380 := by rw [← ha]; exact bval_len b ds h36 hdb (by omega)
  have hRd := Lib.hid (fun W => read_ds W b ds a h2 h36 hdb hdl.1 (by omega) ha)
  have hTx := Lib.hid (fun W v h => text_calls W v a b h (by omega) h2 h36)
  have hBr := Lib.hid (fun W => rbare_calls W b h2 h36 ds hdb hdl.1 (by omega))
  rw [ha] at hBr
  have hRm := Lib.hid (fun W i (hi : i ≤ 40) => read_ds W b (List.replicate i 0 ++ ds) a h2 h36 (by
    intro d hd
    rcases List.mem_append.1 hd with h | h
    · rw [List.eq_of_mem_replicate h]; omega
    · exact hdb d h) (by rw [List.length_append]; omega) (by rw [List.length_append, List.length_replicate]; omega) (by rw [bval_more]; exact ha))
  have hZm := Lib.hid (zeros_more ds)
  have hZs := Lib.hid (fun i => strD_size (List.replicate i 0 ++ ds))
  have hZ0 : Hid (strD ds = strD (List.replicate 0 0 ++ ds)) := rfl
  have hL2 := Lib.hid hL
  have hL3 : L ≤ 1000 := by omega
  obtain ⟨N, hN⟩ : ∃ N, q % 40 = N := ⟨_, rfl⟩
  have hN40 : N < 40 := by omega
  have o1 : (q : Int).tmod 40 = (N : Int) := by rw [Int.tmod_eq_emod_of_nonneg (Int.natCast_nonneg _)]; omega
  have o2 : (q : Int) % 40 = (N : Int) := by omega
  have o3 : IntKind.i64.wrap (q : Int) = (q : Int) := by rw [IntKind.wrap_i64]; omega
  generalize hT1 : strD (dt b a) = T1 at *
  clear hb hn hq hN hdl hdb hL ha hT1
  obtain ⟨T0, hT0⟩ : ∃ T, strD ds = T := ⟨_, rfl⟩
  rw [hT0] at hDg hRd hBr hZ0
  clear hT0
  have HLA := Lib.hid hla
  clear hla
  go_enter Tryz.func5, Tryz.ntmps5
  go_wp2_with (first
    | (go_at_call 12; refine (xhead_calls _).mono ?_; rintro e w1 ⟨rfl, hE1⟩)
    | (go_at_call 21; refine (hOf.out _).mono ?_; rintro e w3 ⟨rfl, hw3⟩; have hE3 := ext_eq hw3; clear hw3)
    | (go_at_call 22; refine (hDg.out _).mono ?_; rintro e w4 ⟨rfl, hE4⟩)
    | (go_at_call 18; refine (hRd.out _).mono ?_; rintro e w5 ⟨v5, rfl, hv5, hE5⟩; obtain ⟨A5, l5, c5, rfl⟩ := U.sl hv5)
    | (go_at_call 14; refine (hTx.out _ _ hv5).mono ?_; rintro e w6 ⟨rfl, hE6⟩; have hv6 := Un.below hv5 hE6))
  have hE := (((hE1.below hE3).below hE4).below hE5).below hE6
  clear hE1 hE3 hE4 hE5 hE6 hv5 hOf hDg hRd hTx
  go_loopw [15, 14] (fun t s wr => ∃ (i : Nat) (X : ByteArray), i ≤ N ∧ t = .int .i64 (i : Nat) ∧ s = .string X ∧ Hid (X = strD (List.replicate i 0 ++ ds)) ∧ wr = w6) (fun t _ _ => N - (intOf t).toNat)
  case atStart => exact ⟨0, T0, Nat.zero_le _, rfl, rfl, hZ0, rfl⟩
  case round =>
    obtain ⟨i, X, hi, rfl, rfl, HX, rfl⟩ := hrel
    have hxs := hZs.out i
    rw [← HX.out, List.length_append, List.length_replicate, hL2.out] at hxs
    by_cases hlt : i < N
    · have hi1 : (i : Int) < (N : Int) := by omega
      have hap := hZm.out i
      rw [← HX.out] at hap
      obtain ⟨Y, hY⟩ : ∃ Y, strD (List.replicate (i + 1) 0 ++ ds) = Y := ⟨_, rfl⟩
      rw [hY] at hap
      have HY : Hid (Y = strD (List.replicate (i + 1) 0 ++ ds)) := hY.symm
      have hsz1 : ¬ ((9223372036854775807 : Int) < ((1 + X.size : Nat) : Int)) := by omega
      have hsz2 : ¬ (9223372036854775807 < 1 + X.size) := by omega
      clear hY hxs
      go_wp2
      go_roundw
      case rel => first | exact ⟨i + 1, Y, by omega, by go_num, rfl, HY, by trivial⟩ | ((repeat apply Exists.intro); refine ⟨⟨i + 1, Y, by omega, ?_, rfl, HY, by trivial⟩, rfl⟩; go_num)
      case measure => simp [intOf]; omega
    · obtain rfl : i = N := by omega
      have hRm2 := hRm.out
      have hRx := Lib.hid (fun W => hRm.out W i (by omega))
      rw [← HX.out] at hRx
      clear hRm2 hRm hxs HX
      go_wp2_with (first
        | (go_at_call 18; refine (hRx.out _).mono ?_; rintro e w7 ⟨v7, rfl, hv7, hE7⟩; obtain ⟨A7, l7, c7, rfl⟩ := U.sl hv7)
        | (go_at_call 23; refine (hBr.out _).mono ?_; rintro e w8 ⟨rfl, rfl⟩)
        | (go_at_call 20; refine (rsame_B _ _ _ a a (Un.below hv6 hE7) hv7 true (decide_eq_true rfl)).mono ?_; rintro e w9 ⟨rfl, hE9⟩))
      go_ret
      exact ⟨by first | rfl | simp, (hE.below hE7).below hE9⟩
end Go.Proofs.YtigdflfhepelaaaGreatDoor
/- Proved: the statement RadixAgain: for any text (of at most 1000 digits), any base and any number of noughts: digits that are read, and written again, are these without noughts ahead; noughts more ahead change nothing. No condition. -/
namespace Go.Proofs.YtigdflfhepelaaaGreatDoor
open Go.ChangeShapes Go.WideShapes Go.ChangeAt Go.RowKit
set_option linter.unusedVariables false
set_option maxHeartbeats 2000000

set_option maxRecDepth 100000 in
theorem lifted_RadixAgain (os : Os) (started : os.Started) (H : Type) (enc : TypeId × Value → H) :
    ReturnsInHanded {} Tryz.checked os 5 .any (fun w args => (Rows.radixAgainSpec.pre enc Tryz.prog Tryz.f5 [] false w args ∧ laidMetH Tryz.prog laidV w) ∧ sizedMet enc Tryz.prog Tryz.f5 (OpenSpec.ofChange Rows.radixAgainSpec) false w args)
      (Rows.radixAgainSpec.post enc Tryz.prog Tryz.f5 false true false false) := by
  refine returnsInHanded_of_change_and (C := Tryz.checked) (X := fun w _ => laidMetH Tryz.prog laidV w) (fun _ _ _ hh h => h.of_heap hh) own started (by kernel_rfl) Tryz.func5
    (ChangeSpec.witness_shaped (enc := enc) (C := Tryz.checked) (os := os) (X := fun w _ => laidMetH Tryz.prog laidV w) false (World.laidAll Tryz.prog os laidV) #[.string ⟨#[]⟩, .int .u8 0, .int .u8 0] 8 (World.laidAll_os _ _ _) (World.shaped_of_ZipB (by kernel_rfl) (by kernel_rfl)) (by kernel_rfl) (by kernel_rfl) (by kernel_rfl) (laid_met os _)) ?_
  intro W base args ds gs before hval0 hW _ _ hL _
  have hval : ∀ (j : Nat) t v, Tryz.f5.params[j]? = some t → args[j]? = some v → Value.okWide Tryz.prog W .any base t v := hval0
  have hW' := hW
  obtain ⟨p, q, hA0, hV, rfl, hfz, hnd⟩ := hW
  have hlt : ∀ x ∈ p ++ q, x.block < W.heap.size := fun x hx => hW'.lt x hx
  have hA : DataW.TrodAll enc Tryz.prog W 0 (fun _ => true) true Tryz.f5.params.toList args.toList ds p := hA0
  rw [Tryz.params5] at hA hval
  clear hA0 hval0
  obtain ⟨v0, vs0, d0, ds0, p0, q0, hargs0, rfl, rfl, h0, r0⟩ := trodAll_cons hA
  obtain ⟨v1, vs1, d1, ds1, p1, q1, hargs1, rfl, rfl, h1, r1⟩ := trodAll_cons r0
  obtain ⟨v2, vs2, d2, ds2, p2, q2, hargs2, rfl, rfl, h2, r2⟩ := trodAll_cons r1
  obtain ⟨hn1, rfl, rfl⟩ := trodAll_nil r2
  subst hn1
  subst hargs2
  subst hargs1
  obtain rfl : args = #[v0, v1, v2] := by cases args; simp_all
  obtain ⟨rfl, rfl⟩ := trodVars_none hV
  obtain ⟨s0, rfl⟩ := okWide_string Tryz.underlying9 (hval 0 9 v0 rfl rfl)
  obtain ⟨z1, rfl, rfl, rfl, hz1⟩ := open_int Tryz.underlying5 (hval 1 5 v1 rfl rfl) h1
  have hb1 := bounds_u8 hz1
  obtain ⟨n1, rfl⟩ := Int.eq_ofNat_of_zero_le (show 0 ≤ z1 by omega)
  obtain ⟨z2, rfl, rfl, rfl, hz2⟩ := open_int Tryz.underlying5 (hval 2 5 v2 rfl rfl) h2
  have hb2 := bounds_u8 hz2
  obtain ⟨n2, rfl⟩ := Int.eq_ofNat_of_zero_le (show 0 ≤ z2 by omega)
  refine (RadixAgain_walk W s0 n1 (by omega) n2 (by omega)).mono fun e W' ⟨he, hB⟩ => ?_
  subst he
  exact ⟨_, rfl, law_post hW' rfl (by rw [Tryz.params5]; decide +kernel) rfl rfl rfl rfl hB⟩

theorem radixAgain_said : Rows.RadixAgainSaid :=
  OpenClaim.holds_of_wide 5 Tryz.f5 rfl rfl rfl rfl rfl rfl rfl ⟨rfl, rfl, rfl, rfl, rfl⟩ rfl rfl rfl rfl rfl (by kernel_rfl) Tryz.func5 (by kernel_rfl)
    (of_decide_eq_true (by kernel_rfl)) (by unfold Func.isWrapper; first | (rw [if_pos (by decide +kernel)]; kernel_rfl) | (rw [if_neg (by decide +kernel)]; exact ⟨rfl, rfl⟩))
    (fun os started H enc _ => lifted_RadixAgain os started H enc)
/-- The statement: the card, tied. -/
theorem radixAgain_holds : Rows.RadixAgainCardSaid :=
  Claim7.holds_tied_plain_at .later [] [.data, .wider, .pinned] true Rows.radixAgainCard.stood.harness false
    radixAgain_said (fun _ h => by cases h) (by kernel_rfl) (fun _ h => by cases h) radixAgain_row_tie rfl ⟨rfl, rfl⟩ (by kernel_rfl) rfl
    (fun f fn hf hfn => by
      obtain rfl : f = 5 := Option.some.inj ((show Tryz.prog.funcNamed "ziggurat/zigguratlaw05.RadixAgain" = some 5 by kernel_rfl).symm.trans hf) |>.symm
      obtain rfl : fn = Tryz.f5 := (Option.some.inj (Tryz.func5.symm.trans hfn)).symm
      exact ⟨by kernel_rfl, fun j t ht => by
        rw [Tryz.params5] at ht
        have hm : t ∈ [9, 5, 5] := by simpa using Array.mem_of_getElem? ht
        have hall : ([9, 5, 5].all fun u => !Tryz.prog.wantsStandIn u) = true := by kernel_rfl
        exact (show Tryz.prog.wantsStandIn t = false by simpa using List.all_eq_true.1 hall t hm)⟩)
    (by kernel_rfl)
end Go.Proofs.YtigdflfhepelaaaGreatDoor
