/- Live questions of the laws of whole numbers, whose answers are fixed. -/
import Derived.Test.YtfkcdmbiihkiiaaGreatDoorBaw
import Derived.Test.YtfkcdmbiihkiiaaGreatDoorBbi
import Derived.Test.YtfkcdmbiihkiiaaGreatDoorBak
import Derived.Test.YtfkcdmbiihkiiaaGreatDoorBbd
import Derived.Test.YtfkcdmbiihkiiaaGreatDoorBbj

namespace Go.Proofs.YtfkcdmbiihkiiaaGreatDoor
open Go.RowKit
set_option linter.unusedVariables false
set_option maxHeartbeats 400000

theorem zl (z : Int) (K : Nat) (h : z.natAbs < 4294967296) (hK : 1 ≤ K) : (limbs z.natAbs).length ≤ K := Nat.le_trans (len_of (k := 1) (by rw [Nat.pow_one]; exact h)) hK
theorem Ri.nil (w : World) : Ri w (.agg #[.bool true, .slice none 0 0]) true [] := ⟨none, 0, rfl, U.nil_ _ _ _⟩
theorem sg_val (n : Nat) (z : Int) (h : sg true n = z) : sg true (val (limbs n)) = z := by rw [val_limbs]; exact h
theorem ahd1 (S : ByteArray) (h : 0 < S.size) (h2 : (S[0]'h).toNat = 45) : ahd S = 1 := by unfold ahd; rw [dif_pos h, if_pos h2]
theorem ahd0 (S : ByteArray) (h : 0 < S.size) (h2 : ¬ (S[0]'h).toNat = 45) : ahd S = 0 := by unfold ahd; rw [dif_pos h, if_neg h2]
theorem zread_lit1 (w : World) : Calls Tryz.prog 36 #[.string ⟨#[45, 48, 48, 55]⟩] w fun e w' => ∃ u, e = .returned (.tuple #[u, .int .i64 0, .int .i64 0]) ∧ Zn w' u (-7) ∧ Ext w w' := by
  have ha := ahd1 ⟨#[45, 48, 48, 55]⟩ (by decide) (by decide)
  have ht := (tell_good ⟨#[48, 48, 55]⟩ 10 (by decide) (by decide) (by decide) (by decide) (by decide)).1
  refine (zread_of w ⟨#[45, 48, 48, 55]⟩ (by decide) (limbs 7) 0 0 (by rw [ha]; exact ht) (by decide) (fun _ => rfl)).mono fun e w' h => ?_
  obtain ⟨hE, ⟨h1, _⟩ | ⟨_, u, he, hz⟩⟩ := h
  · exact absurd rfl h1
  · refine ⟨u, he, ?_, hE⟩
    rw [ha] at hz
    have : sg (decide (1 = 1)) (val (limbs 7)) = -7 := sg_val 7 (-7) rfl
    rwa [this] at hz
theorem zread_lit2 (w : World) : Calls Tryz.prog 36 #[.string ⟨#[45]⟩] w fun e w' => e = .returned (.tuple #[.agg #[.bool false, .slice none 0 0], .int .i64 1, .int .i64 50]) ∧ Ext w w' := by
  have ha := ahd1 ⟨#[45]⟩ (by decide) (by decide)
  have ht := (tell_empty ⟨#[]⟩ 10 (by decide) (by decide) (by decide)).1
  refine (zread_of w ⟨#[45]⟩ (by decide) [] 0 50 (by rw [ha]; exact ht) (by decide) (fun h => by cases h)).mono fun e w' h => ?_
  obtain ⟨hE, ⟨_, he⟩ | ⟨h1, _⟩⟩ := h
  · refine ⟨?_, hE⟩
    rw [he, ha]; rfl
  · cases h1
theorem zread_lit3 (w : World) : Calls Tryz.prog 36 #[.string ⟨#[49, 97]⟩] w fun e w' => e = .returned (.tuple #[.agg #[.bool false, .slice none 0 0], .int .i64 1, .int .i64 50]) ∧ Ext w w' := by
  have ha := ahd0 ⟨#[49, 97]⟩ (by decide) (by decide)
  have ht := (tell_wrong ⟨#[49, 97]⟩ 10 1 (by decide) (by decide) (by decide) (by decide) (by decide) (by decide)).1
  refine (zread_of w ⟨#[49, 97]⟩ (by decide) [] 1 50 (by rw [ha]; exact ht) (by decide) (fun h => by cases h)).mono fun e w' h => ?_
  obtain ⟨hE, ⟨_, he⟩ | ⟨h1, _⟩⟩ := h
  · refine ⟨?_, hE⟩
    rw [he, ha]; rfl
  · cases h1
theorem zpow_lit (w : World) (v : Value) (h : Zn w v (-2)) : Calls Tryz.prog 38 #[v, .int .i64 5] w fun e w' => ∃ u, e = .returned u ∧ Zn w' u (-32) ∧ Ext w w' :=
  zpow w v (-2) 5 h (zl (-2) 398 (by decide) (by decide)) (zl 32 398 (by decide) (by decide)) (by decide) (-32) (by decide)
theorem ztext_lit (w : World) (v : Value) (h : Zn w v (-90)) : Calls Tryz.prog 42 #[v] w fun e w' => e = .returned (.string ⟨#[45, 57, 48]⟩) ∧ Ext w w' := by
  refine (ztext w v (-90) h (zl (-90) 390 (by decide) (by decide))).mono fun e w' ⟨he, hE⟩ => ⟨?_, hE⟩
  rw [he]
  unfold strZ
  rw [if_pos (by decide), show Int.natAbs (-90) = 90 from rfl, dt_lit 10 90 [9, 0] (by decide) (by decide) (by decide) (by decide) (by decide) ⟨#[57, 48]⟩ rfl]
  rfl

theorem en14 (u : Array Value) (X : World) : (callFunc 14 u).run Tryz.prog X = .ok (.enter 14 u) X := Pl.enters Tryz.func14 (by kernel_rfl) rfl u X
theorem en16 (u : Array Value) (X : World) : (callFunc 16 u).run Tryz.prog X = .ok (.enter 16 u) X := Pl.enters Tryz.func16 (by kernel_rfl) rfl u X
theorem en18 (u : Array Value) (X : World) : (callFunc 18 u).run Tryz.prog X = .ok (.enter 18 u) X := Pl.enters Tryz.func18 (by kernel_rfl) rfl u X
theorem en20 (u : Array Value) (X : World) : (callFunc 20 u).run Tryz.prog X = .ok (.enter 20 u) X := Pl.enters Tryz.func20 (by kernel_rfl) rfl u X
theorem en23 (u : Array Value) (X : World) : (callFunc 23 u).run Tryz.prog X = .ok (.enter 23 u) X := Pl.enters Tryz.func23 (by kernel_rfl) rfl u X
theorem en29 (u : Array Value) (X : World) : (callFunc 29 u).run Tryz.prog X = .ok (.enter 29 u) X := Pl.enters Tryz.func29 (by kernel_rfl) rfl u X
theorem en36 (u : Array Value) (X : World) : (callFunc 36 u).run Tryz.prog X = .ok (.enter 36 u) X := Pl.enters Tryz.func36 (by kernel_rfl) rfl u X
theorem en38 (u : Array Value) (X : World) : (callFunc 38 u).run Tryz.prog X = .ok (.enter 38 u) X := Pl.enters Tryz.func38 (by kernel_rfl) rfl u X
theorem en40 (u : Array Value) (X : World) : (callFunc 40 u).run Tryz.prog X = .ok (.enter 40 u) X := Pl.enters Tryz.func40 (by kernel_rfl) rfl u X
theorem en42 (u : Array Value) (X : World) : (callFunc 42 u).run Tryz.prog X = .ok (.enter 42 u) X := Pl.enters Tryz.func42 (by kernel_rfl) rfl u X
theorem en47 (u : Array Value) (X : World) : (callFunc 47 u).run Tryz.prog X = .ok (.enter 47 u) X := Pl.enters Tryz.func47 (by kernel_rfl) rfl u X
set_option maxRecDepth 100000 in
set_option maxHeartbeats 4000000 in
theorem zhead (w : World) : Calls Tryz.prog 12 #[] w fun e w' => e = .returned (.bool true) ∧ Ext w w' := by
  refine Pl.calls_by (vs := []) (n := 173) Tryz.func12 rfl (by kernel_rfl) (by decide) ?_
  refine Pl.V_seq ?_
  refine Pl.V_region (by kernel_rfl) ?_
  refine Pl.qA_assign trivial rfl rfl rfl rfl rfl ?_
  refine Pl.pA_end ?_
  refine Pl.V_seq ?_
  refine Pl.V_region (by kernel_rfl) ?_
  refine Pl.pA_call rfl rfl rfl rfl rfl en47 ?_
  refine Calls.mono (lof _ (-7) (by decide) (by decide)) ?_
  rintro e w1 ⟨v_x1, rfl, h_x1, hB1⟩
  refine ⟨_, rfl, trivial, ?_⟩
  refine Pl.pA_call rfl rfl rfl rfl rfl en47 ?_
  refine Calls.mono (lof _ 2 (by decide) (by decide)) ?_
  rintro e w2 ⟨v_x2, rfl, h_x2, hB2⟩
  refine ⟨_, rfl, trivial, ?_⟩
  have h_x1__2 := Zn.below h_x1 hB2
  refine Pl.pA_call rfl rfl rfl rfl rfl en14 ?_
  refine Calls.mono (zdiv_D _ _ _ (-7) 2 h_x1__2 h_x2 (Sz.lit (by decide) (by decide)) (Sz.lit (by decide) (by decide)) (by decide) (-4) 1 (by decide) (by decide)) ?_
  rintro e w3 ⟨⟨v_x4, v_x5, rfl, h_x4, h_x5⟩, hB3⟩
  refine ⟨_, rfl, trivial, ?_⟩
  refine Pl.qA_move trivial rfl rfl rfl rfl rfl ?_
  refine Pl.qA_extract trivial rfl rfl rfl rfl rfl rfl ?_
  refine Pl.qA_extract trivial rfl rfl rfl rfl rfl rfl ?_
  refine Pl.qA_extract trivial rfl rfl rfl rfl rfl rfl ?_
  obtain ⟨p_x4, A_x4, L_x4, c_x4, rfl⟩ := Zn.sh h_x4
  obtain ⟨p_x5, A_x5, L_x5, c_x5, rfl⟩ := Zn.sh h_x5
  refine boxI2 rfl rfl rfl rfl rfl rfl rfl rfl rfl rfl rfl rfl rfl rfl rfl rfl rfl (fun _ _ => rfl) (fun _ _ => rfl) (fun _ _ => trivial) ?_
  intro N6 N7 w4 hB4 i_6 i_7
  refine Pl.qA_assign trivial rfl rfl rfl rfl rfl ?_
  refine Pl.pA_end ?_
  refine Pl.V_seq ?_
  refine Pl.V_region (by kernel_rfl) ?_
  refine Pl.pA_call rfl rfl rfl rfl rfl en47 ?_
  refine Calls.mono (lof _ (-7) (by decide) (by decide)) ?_
  rintro e w5 ⟨v_x8, rfl, h_x8, hB5⟩
  refine ⟨_, rfl, trivial, ?_⟩
  refine Pl.pA_call rfl rfl rfl rfl rfl en47 ?_
  refine Calls.mono (lof _ (-2) (by decide) (by decide)) ?_
  rintro e w6 ⟨v_x9, rfl, h_x9, hB6⟩
  refine ⟨_, rfl, trivial, ?_⟩
  have h_x8__6 := Zn.below h_x8 hB6
  refine Pl.pA_call rfl rfl rfl rfl rfl en14 ?_
  refine Calls.mono (zdiv_D _ _ _ (-7) (-2) h_x8__6 h_x9 (Sz.lit (by decide) (by decide)) (Sz.lit (by decide) (by decide)) (by decide) 4 1 (by decide) (by decide)) ?_
  rintro e w7 ⟨⟨v_x11, v_x12, rfl, h_x11, h_x12⟩, hB7⟩
  refine ⟨_, rfl, trivial, ?_⟩
  refine Pl.qA_move trivial rfl rfl rfl rfl rfl ?_
  refine Pl.qA_extract trivial rfl rfl rfl rfl rfl rfl ?_
  refine Pl.qA_extract trivial rfl rfl rfl rfl rfl rfl ?_
  refine Pl.qA_extract trivial rfl rfl rfl rfl rfl rfl ?_
  obtain ⟨p_x11, A_x11, L_x11, c_x11, rfl⟩ := Zn.sh h_x11
  obtain ⟨p_x12, A_x12, L_x12, c_x12, rfl⟩ := Zn.sh h_x12
  refine boxI2 rfl rfl rfl rfl rfl rfl rfl rfl rfl rfl rfl rfl rfl rfl rfl rfl rfl (fun _ _ => rfl) (fun _ _ => rfl) (fun _ _ => trivial) ?_
  intro N13 N14 w8 hB8 i_13 i_14
  refine Pl.qA_assign trivial rfl rfl rfl rfl rfl ?_
  refine Pl.pA_end ?_
  refine Pl.V_seq ?_
  refine Pl.V_region (by kernel_rfl) ?_
  refine Pl.pA_call rfl rfl rfl rfl rfl en47 ?_
  refine Calls.mono (lof _ 7 (by decide) (by decide)) ?_
  rintro e w9 ⟨v_x15, rfl, h_x15, hB9⟩
  refine ⟨_, rfl, trivial, ?_⟩
  refine Pl.pA_call rfl rfl rfl rfl rfl en47 ?_
  refine Calls.mono (lof _ 0 (by decide) (by decide)) ?_
  rintro e w10 ⟨v_x16, rfl, h_x16, hB10⟩
  refine ⟨_, rfl, trivial, ?_⟩
  have h_x15__10 := Zn.below h_x15 hB10
  refine Pl.pA_call rfl rfl rfl rfl rfl en14 ?_
  refine Calls.mono (zdiv_Z _ _ _ 7 h_x15__10 h_x16 (Sz.lit (by decide) (by decide))) ?_
  rintro e w11 ⟨rfl, hB11⟩
  refine ⟨_, rfl, trivial, ?_⟩
  refine Pl.qA_move trivial rfl rfl rfl rfl rfl ?_
  refine Pl.qA_extract trivial rfl rfl rfl rfl rfl rfl ?_
  refine Pl.qA_extract trivial rfl rfl rfl rfl rfl rfl ?_
  refine Pl.qA_extract trivial rfl rfl rfl rfl rfl rfl ?_
  refine boxI2 rfl rfl rfl rfl rfl rfl rfl rfl rfl rfl rfl rfl rfl rfl rfl rfl rfl (fun _ _ => rfl) (fun _ _ => rfl) (fun _ _ => trivial) ?_
  intro N19 N20 w12 hB12 i_19 i_20
  refine Pl.qA_assign trivial rfl rfl rfl rfl rfl ?_
  refine Pl.pA_end ?_
  refine Pl.V_seq ?_
  refine Pl.V_region (by kernel_rfl) ?_
  refine Pl.pA_call rfl rfl rfl rfl rfl en47 ?_
  refine Calls.mono (lof _ (-12) (by decide) (by decide)) ?_
  rintro e w13 ⟨v_x21, rfl, h_x21, hB13⟩
  refine ⟨_, rfl, trivial, ?_⟩
  refine Pl.pA_call rfl rfl rfl rfl rfl en47 ?_
  refine Calls.mono (lof _ 4 (by decide) (by decide)) ?_
  rintro e w14 ⟨v_x22, rfl, h_x22, hB14⟩
  refine ⟨_, rfl, trivial, ?_⟩
  have h_x21__14 := Zn.below h_x21 hB14
  refine Pl.pA_call rfl rfl rfl rfl rfl en16 ?_
  refine Calls.mono (zexact_yes _ _ _ (-12) 4 h_x21__14 h_x22 (Sz.lit (by decide) (by decide)) (Sz.lit (by decide) (by decide)) (by decide) (by decide) (-3) (by decide)) ?_
  rintro e w15 ⟨v_x24, rfl, h_x24, hB15⟩
  refine ⟨_, rfl, trivial, ?_⟩
  refine Pl.qA_move trivial rfl rfl rfl rfl rfl ?_
  refine Pl.qA_extract trivial rfl rfl rfl rfl rfl rfl ?_
  refine Pl.qA_extract trivial rfl rfl rfl rfl rfl rfl ?_
  obtain ⟨p_x24, A_x24, L_x24, c_x24, rfl⟩ := Zn.sh h_x24
  refine boxI rfl rfl rfl rfl rfl rfl rfl rfl (fun _ => rfl) (fun _ _ => trivial) ?_
  intro N25 w16 hB16 i_25
  refine Pl.qA_assign trivial rfl rfl rfl rfl rfl ?_
  refine Pl.pA_end ?_
  refine Pl.V_seq ?_
  refine Pl.V_region (by kernel_rfl) ?_
  refine Pl.pA_call rfl rfl rfl rfl rfl en47 ?_
  refine Calls.mono (lof _ 5 (by decide) (by decide)) ?_
  rintro e w17 ⟨v_x26, rfl, h_x26, hB17⟩
  refine ⟨_, rfl, trivial, ?_⟩
  refine Pl.pA_call rfl rfl rfl rfl rfl en47 ?_
  refine Calls.mono (lof _ 2 (by decide) (by decide)) ?_
  rintro e w18 ⟨v_x27, rfl, h_x27, hB18⟩
  refine ⟨_, rfl, trivial, ?_⟩
  have h_x26__18 := Zn.below h_x26 hB18
  refine Pl.pA_call rfl rfl rfl rfl rfl en16 ?_
  refine Calls.mono (zexact_no _ _ _ 5 2 h_x26__18 h_x27 (Sz.lit (by decide) (by decide)) (Sz.lit (by decide) (by decide)) (by decide)) ?_
  rintro e w19 ⟨rfl, hB19⟩
  refine ⟨_, rfl, trivial, ?_⟩
  refine Pl.qA_move trivial rfl rfl rfl rfl rfl ?_
  refine Pl.qA_extract trivial rfl rfl rfl rfl rfl rfl ?_
  refine Pl.qA_extract trivial rfl rfl rfl rfl rfl rfl ?_
  refine boxI rfl rfl rfl rfl rfl rfl rfl rfl (fun _ => rfl) (fun _ _ => trivial) ?_
  intro N29 w20 hB20 i_29
  refine Pl.qA_assign trivial rfl rfl rfl rfl rfl ?_
  refine Pl.pA_end ?_
  refine Pl.V_seq ?_
  refine Pl.V_region (by kernel_rfl) ?_
  refine Pl.pA_call rfl rfl rfl rfl rfl en36 ?_
  refine Calls.mono (zread_lit1 _) ?_
  rintro e w21 ⟨v_x30, rfl, h_x30, hB21⟩
  refine ⟨_, rfl, trivial, ?_⟩
  refine Pl.qA_move trivial rfl rfl rfl rfl rfl ?_
  refine Pl.qA_extract trivial rfl rfl rfl rfl rfl rfl ?_
  refine Pl.qA_extract trivial rfl rfl rfl rfl rfl rfl ?_
  refine Pl.qA_extract trivial rfl rfl rfl rfl rfl rfl ?_
  obtain ⟨p_x30, A_x30, L_x30, c_x30, rfl⟩ := Zn.sh h_x30
  refine boxI rfl rfl rfl rfl rfl rfl rfl rfl (fun _ => rfl) (fun _ _ => trivial) ?_
  intro N31 w22 hB22 i_31
  refine Pl.qA_assign trivial rfl rfl rfl rfl rfl ?_
  refine Pl.qA_assign trivial rfl rfl rfl rfl rfl ?_
  refine Pl.pA_end ?_
  refine Pl.V_seq ?_
  refine Pl.V_region (by kernel_rfl) ?_
  refine Pl.pA_call rfl rfl rfl rfl rfl en36 ?_
  refine Calls.mono (zread_lit2 _) ?_
  rintro e w23 ⟨rfl, hB23⟩
  refine ⟨_, rfl, trivial, ?_⟩
  refine Pl.qA_move trivial rfl rfl rfl rfl rfl ?_
  refine Pl.qA_extract trivial rfl rfl rfl rfl rfl rfl ?_
  refine Pl.qA_extract trivial rfl rfl rfl rfl rfl rfl ?_
  refine Pl.qA_extract trivial rfl rfl rfl rfl rfl rfl ?_
  refine boxI rfl rfl rfl rfl rfl rfl rfl rfl (fun _ => rfl) (fun _ _ => trivial) ?_
  intro N32 w24 hB24 i_32
  refine Pl.qA_assign trivial rfl rfl rfl rfl rfl ?_
  refine Pl.qA_assign trivial rfl rfl rfl rfl rfl ?_
  refine Pl.pA_end ?_
  refine Pl.V_seq ?_
  refine Pl.V_region (by kernel_rfl) ?_
  refine Pl.pA_call rfl rfl rfl rfl rfl en36 ?_
  refine Calls.mono (zread_lit3 _) ?_
  rintro e w25 ⟨rfl, hB25⟩
  refine ⟨_, rfl, trivial, ?_⟩
  refine Pl.qA_move trivial rfl rfl rfl rfl rfl ?_
  refine Pl.qA_extract trivial rfl rfl rfl rfl rfl rfl ?_
  refine Pl.qA_extract trivial rfl rfl rfl rfl rfl rfl ?_
  refine Pl.qA_extract trivial rfl rfl rfl rfl rfl rfl ?_
  refine boxI rfl rfl rfl rfl rfl rfl rfl rfl (fun _ => rfl) (fun _ _ => trivial) ?_
  intro N33 w26 hB26 i_33
  refine Pl.qA_assign trivial rfl rfl rfl rfl rfl ?_
  refine Pl.qA_assign trivial rfl rfl rfl rfl rfl ?_
  refine Pl.pA_end ?_
  refine Pl.V_seq ?_
  refine Pl.V_draw (S := fun X => Ext w26 X) [(true, 0, 0), (false, 1, 1), (false, 2, 3), (true, 3, 7), (true, 4, 15), (false, 5, 31), (false, 6, 63), (true, 7, 127), (true, 8, 255), (true, 9, 511), (true, 10, 1023), (true, 11, 2047), (true, 12, 4095), (true, 13, 8191), (false, 14, 16383), (false, 15, 32767), (true, 16, 65535), (true, 17, 131071), (true, 18, 262143), (false, 19, 524287), (false, 20, 1048575), (true, 21, 2097151), (true, 22, 4194303), (true, 23, 8388607), (true, 24, 16777215), (true, 25, 33554431), (true, 26, 67108863), (true, 27, 134217727), (true, 28, 268435455), (true, 29, 536870911), (true, 30, 1073741823), (true, 31, 2147483647), (false, 32, 4294967295), (false, 33, 8589934591), (true, 34, 17179869183), (true, 35, 34359738367), (true, 36, 68719476735), (true, 37, 137438953471), (true, 38, 274877906943), (true, 39, 549755813887), (true, 40, 1099511627775), (true, 41, 2199023255551), (true, 42, 4398046511103), (true, 43, 8796093022207), (false, 44, 17592186044415), (false, 45, 35184372088831), (true, 46, 70368744177663), (true, 47, 140737488355327), (true, 48, 281474976710655), (true, 49, 562949953421311), (true, 50, 1125899906842623), (true, 51, 2251799813685247), (true, 52, 4503599627370495), (true, 53, 9007199254740991), (true, 54, 18014398509481983), (true, 55, 36028797018963967), (true, 56, 72057594037927935), (true, 57, 144115188075855871), (true, 58, 288230376151711743), (true, 59, 576460752303423487), (true, 60, 1152921504606846975), (true, 61, 2305843009213693951), (true, 62, 4611686018427387903), (true, 63, 9223372036854775807), (true, 64, 18446744073709551615), (true, 65, 36893488147419103231), (true, 66, 73786976294838206463), (true, 67, 147573952589676412927), (false, 68, 295147905179352825855), (false, 69, 590295810358705651711), (false, 70, 1180591620717411303423), (false, 71, 2361183241434822606847), (true, 72, 4722366482869645213695), (true, 73, 9444732965739290427391), (false, 74, 18889465931478580854783), (false, 75, 37778931862957161709567), (false, 76, 75557863725914323419135), (false, 77, 151115727451828646838271), (false, 78, 302231454903657293676543), (true, 79, 604462909807314587353087), (true, 80, 1208925819614629174706175), (false, 81, 2417851639229258349412351), (false, 82, 4835703278458516698824703), (true, 83, 9671406556917033397649407), (true, 84, 19342813113834066795298815), (true, 85, 38685626227668133590597631), (false, 86, 77371252455336267181195263), (false, 87, 154742504910672534362390527), (false, 88, 309485009821345068724781055), (false, 89, 618970019642690137449562111), (true, 90, 1237940039285380274899124223), (true, 91, 2475880078570760549798248447), (false, 92, 4951760157141521099596496895), (false, 93, 9903520314283042199192993791), (false, 94, 19807040628566084398385987583), (true, 95, 39614081257132168796771975167), (true, 96, 79228162514264337593543950335), (true, 97, 158456325028528675187087900671), (true, 98, 316912650057057350374175801343), (false, 99, 633825300114114700748351602687), (true, 100, 1267650600228229401496703205375), (true, 101, 2535301200456458802993406410751), (true, 102, 5070602400912917605986812821503)] fo Pl.post_panic (by kernel_rfl) (Ext.drew (Ext.refl _)) ?_
  generalize w26.drew = w27
  intro hB27
  have hS27 := hB27
  have i_6__26 := Ib.ext i_6 (Ext.below hB5 (Ext.below hB6 (Ext.below hB7 (Ext.below hB8 (Ext.below hB9 (Ext.below hB10 (Ext.below hB11 (Ext.below hB12 (Ext.below hB13 (Ext.below hB14 (Ext.below hB15 (Ext.below hB16 (Ext.below hB17 (Ext.below hB18 (Ext.below hB19 (Ext.below hB20 (Ext.below hB21 (Ext.below hB22 (Ext.below hB23 (Ext.below hB24 (Ext.below hB25 hB26)))))))))))))))))))))
  refine Pl.qA_load hS27 rfl rfl rfl rfl rfl (fun X hX => Ib.load (Ib.ext i_6__26 hX)) ?_
  refine Pl.pA_call rfl rfl rfl rfl rfl en47 ?_
  refine Calls.mono (lof _ (-4) (by decide) (by decide)) ?_
  rintro e w28 ⟨v_x34, rfl, h_x34, hB28⟩
  have hS28 := Ext.below hS27 hB28
  refine ⟨_, rfl, hS28, ?_⟩
  have h_x4__28 := Zn.below h_x4 (Ext.below hB4 (Ext.below hB5 (Ext.below hB6 (Ext.below hB7 (Ext.below hB8 (Ext.below hB9 (Ext.below hB10 (Ext.below hB11 (Ext.below hB12 (Ext.below hB13 (Ext.below hB14 (Ext.below hB15 (Ext.below hB16 (Ext.below hB17 (Ext.below hB18 (Ext.below hB19 (Ext.below hB20 (Ext.below hB21 (Ext.below hB22 (Ext.below hB23 (Ext.below hB24 (Ext.below hB25 (Ext.below hB26 (Ext.below hB27 hB28))))))))))))))))))))))))
  refine Pl.pA_call rfl rfl rfl rfl rfl en20 ?_
  refine Calls.mono (rzsame _ _ _ (-4) (-4) h_x4__28 h_x34 (Sz.lit (by decide) (by decide)) (Sz.lit (by decide) (by decide)) true (by decide)) ?_
  rintro e w29 ⟨rfl, hB29⟩
  have hS29 := Ext.below hS28 hB29
  refine ⟨_, rfl, hS29, ?_⟩
  refine Pl.qA_move hS29 rfl rfl rfl rfl rfl ?_
  have i_7__26 := Ib.ext i_7 (Ext.below hB5 (Ext.below hB6 (Ext.below hB7 (Ext.below hB8 (Ext.below hB9 (Ext.below hB10 (Ext.below hB11 (Ext.below hB12 (Ext.below hB13 (Ext.below hB14 (Ext.below hB15 (Ext.below hB16 (Ext.below hB17 (Ext.below hB18 (Ext.below hB19 (Ext.below hB20 (Ext.below hB21 (Ext.below hB22 (Ext.below hB23 (Ext.below hB24 (Ext.below hB25 hB26)))))))))))))))))))))
  refine Pl.qA_load hS29 rfl rfl rfl rfl rfl (fun X hX => Ib.load (Ib.ext i_7__26 hX)) ?_
  refine Pl.pA_call rfl rfl rfl rfl rfl en47 ?_
  refine Calls.mono (lof _ 1 (by decide) (by decide)) ?_
  rintro e w30 ⟨v_x36, rfl, h_x36, hB30⟩
  have hS30 := Ext.below hS29 hB30
  refine ⟨_, rfl, hS30, ?_⟩
  have h_x5__30 := Zn.below h_x5 (Ext.below hB4 (Ext.below hB5 (Ext.below hB6 (Ext.below hB7 (Ext.below hB8 (Ext.below hB9 (Ext.below hB10 (Ext.below hB11 (Ext.below hB12 (Ext.below hB13 (Ext.below hB14 (Ext.below hB15 (Ext.below hB16 (Ext.below hB17 (Ext.below hB18 (Ext.below hB19 (Ext.below hB20 (Ext.below hB21 (Ext.below hB22 (Ext.below hB23 (Ext.below hB24 (Ext.below hB25 (Ext.below hB26 (Ext.below hB27 (Ext.below hB28 (Ext.below hB29 hB30))))))))))))))))))))))))))
  refine Pl.pA_call rfl rfl rfl rfl rfl en20 ?_
  refine Calls.mono (rzsame _ _ _ 1 1 h_x5__30 h_x36 (Sz.lit (by decide) (by decide)) (Sz.lit (by decide) (by decide)) true (by decide)) ?_
  rintro e w31 ⟨rfl, hB31⟩
  have hS31 := Ext.below hS30 hB31
  refine ⟨_, rfl, hS31, ?_⟩
  refine Pl.qA_pick hS31 rfl rfl rfl rfl rfl rfl ?_
  refine Pl.qA_move hS31 rfl rfl rfl rfl rfl ?_
  refine Pl.qA_move hS31 rfl rfl rfl rfl rfl ?_
  refine Pl.qA_bin (v := (.bool true)) hS31 rfl rfl rfl rfl rfl rfl (fun X => by go_simp) ?_
  refine Pl.qA_pick hS31 rfl rfl rfl rfl rfl rfl ?_
  refine Pl.qA_move hS31 rfl rfl rfl rfl rfl ?_
  have i_13__26 := Ib.ext i_13 (Ext.below hB9 (Ext.below hB10 (Ext.below hB11 (Ext.below hB12 (Ext.below hB13 (Ext.below hB14 (Ext.below hB15 (Ext.below hB16 (Ext.below hB17 (Ext.below hB18 (Ext.below hB19 (Ext.below hB20 (Ext.below hB21 (Ext.below hB22 (Ext.below hB23 (Ext.below hB24 (Ext.below hB25 hB26)))))))))))))))))
  refine Pl.qA_load hS31 rfl rfl rfl rfl rfl (fun X hX => Ib.load (Ib.ext i_13__26 hX)) ?_
  refine Pl.pA_call rfl rfl rfl rfl rfl en47 ?_
  refine Calls.mono (lof _ 4 (by decide) (by decide)) ?_
  rintro e w32 ⟨v_x38, rfl, h_x38, hB32⟩
  have hS32 := Ext.below hS31 hB32
  refine ⟨_, rfl, hS32, ?_⟩
  have h_x11__32 := Zn.below h_x11 (Ext.below hB8 (Ext.below hB9 (Ext.below hB10 (Ext.below hB11 (Ext.below hB12 (Ext.below hB13 (Ext.below hB14 (Ext.below hB15 (Ext.below hB16 (Ext.below hB17 (Ext.below hB18 (Ext.below hB19 (Ext.below hB20 (Ext.below hB21 (Ext.below hB22 (Ext.below hB23 (Ext.below hB24 (Ext.below hB25 (Ext.below hB26 (Ext.below hB27 (Ext.below hB28 (Ext.below hB29 (Ext.below hB30 (Ext.below hB31 hB32))))))))))))))))))))))))
  refine Pl.pA_call rfl rfl rfl rfl rfl en20 ?_
  refine Calls.mono (rzsame _ _ _ 4 4 h_x11__32 h_x38 (Sz.lit (by decide) (by decide)) (Sz.lit (by decide) (by decide)) true (by decide)) ?_
  rintro e w33 ⟨rfl, hB33⟩
  have hS33 := Ext.below hS32 hB33
  refine ⟨_, rfl, hS33, ?_⟩
  refine Pl.qA_pick hS33 rfl rfl rfl rfl rfl rfl ?_
  refine Pl.qA_move hS33 rfl rfl rfl rfl rfl ?_
  have i_14__26 := Ib.ext i_14 (Ext.below hB9 (Ext.below hB10 (Ext.below hB11 (Ext.below hB12 (Ext.below hB13 (Ext.below hB14 (Ext.below hB15 (Ext.below hB16 (Ext.below hB17 (Ext.below hB18 (Ext.below hB19 (Ext.below hB20 (Ext.below hB21 (Ext.below hB22 (Ext.below hB23 (Ext.below hB24 (Ext.below hB25 hB26)))))))))))))))))
  refine Pl.qA_load hS33 rfl rfl rfl rfl rfl (fun X hX => Ib.load (Ib.ext i_14__26 hX)) ?_
  refine Pl.pA_call rfl rfl rfl rfl rfl en47 ?_
  refine Calls.mono (lof _ 1 (by decide) (by decide)) ?_
  rintro e w34 ⟨v_x40, rfl, h_x40, hB34⟩
  have hS34 := Ext.below hS33 hB34
  refine ⟨_, rfl, hS34, ?_⟩
  have h_x12__34 := Zn.below h_x12 (Ext.below hB8 (Ext.below hB9 (Ext.below hB10 (Ext.below hB11 (Ext.below hB12 (Ext.below hB13 (Ext.below hB14 (Ext.below hB15 (Ext.below hB16 (Ext.below hB17 (Ext.below hB18 (Ext.below hB19 (Ext.below hB20 (Ext.below hB21 (Ext.below hB22 (Ext.below hB23 (Ext.below hB24 (Ext.below hB25 (Ext.below hB26 (Ext.below hB27 (Ext.below hB28 (Ext.below hB29 (Ext.below hB30 (Ext.below hB31 (Ext.below hB32 (Ext.below hB33 hB34))))))))))))))))))))))))))
  refine Pl.pA_call rfl rfl rfl rfl rfl en20 ?_
  refine Calls.mono (rzsame _ _ _ 1 1 h_x12__34 h_x40 (Sz.lit (by decide) (by decide)) (Sz.lit (by decide) (by decide)) true (by decide)) ?_
  rintro e w35 ⟨rfl, hB35⟩
  have hS35 := Ext.below hS34 hB35
  refine ⟨_, rfl, hS35, ?_⟩
  refine Pl.qA_pick hS35 rfl rfl rfl rfl rfl rfl ?_
  refine Pl.qA_move hS35 rfl rfl rfl rfl rfl ?_
  refine Pl.qA_move hS35 rfl rfl rfl rfl rfl ?_
  refine Pl.qA_bin (v := (.bool true)) hS35 rfl rfl rfl rfl rfl rfl (fun X => by go_simp) ?_
  refine Pl.qA_pick hS35 rfl rfl rfl rfl rfl rfl ?_
  refine Pl.qA_move hS35 rfl rfl rfl rfl rfl ?_
  refine Pl.qA_move hS35 rfl rfl rfl rfl rfl ?_
  refine Pl.qA_bin (v := (.bool true)) hS35 rfl rfl rfl rfl rfl rfl (fun X => by go_simp) ?_
  refine Pl.qA_pick hS35 rfl rfl rfl rfl rfl rfl ?_
  refine Pl.qA_move hS35 rfl rfl rfl rfl rfl ?_
  have i_25__26 := Ib.ext i_25 (Ext.below hB17 (Ext.below hB18 (Ext.below hB19 (Ext.below hB20 (Ext.below hB21 (Ext.below hB22 (Ext.below hB23 (Ext.below hB24 (Ext.below hB25 hB26)))))))))
  refine Pl.qA_load hS35 rfl rfl rfl rfl rfl (fun X hX => Ib.load (Ib.ext i_25__26 hX)) ?_
  refine Pl.pA_call rfl rfl rfl rfl rfl en47 ?_
  refine Calls.mono (lof _ (-3) (by decide) (by decide)) ?_
  rintro e w36 ⟨v_x42, rfl, h_x42, hB36⟩
  have hS36 := Ext.below hS35 hB36
  refine ⟨_, rfl, hS36, ?_⟩
  have h_x24__36 := Zn.below h_x24 (Ext.below hB16 (Ext.below hB17 (Ext.below hB18 (Ext.below hB19 (Ext.below hB20 (Ext.below hB21 (Ext.below hB22 (Ext.below hB23 (Ext.below hB24 (Ext.below hB25 (Ext.below hB26 (Ext.below hB27 (Ext.below hB28 (Ext.below hB29 (Ext.below hB30 (Ext.below hB31 (Ext.below hB32 (Ext.below hB33 (Ext.below hB34 (Ext.below hB35 hB36))))))))))))))))))))
  refine Pl.pA_call rfl rfl rfl rfl rfl en20 ?_
  refine Calls.mono (rzsame _ _ _ (-3) (-3) h_x24__36 h_x42 (Sz.lit (by decide) (by decide)) (Sz.lit (by decide) (by decide)) true (by decide)) ?_
  rintro e w37 ⟨rfl, hB37⟩
  have hS37 := Ext.below hS36 hB37
  refine ⟨_, rfl, hS37, ?_⟩
  refine Pl.qA_pick hS37 rfl rfl rfl rfl rfl rfl ?_
  refine Pl.qA_move hS37 rfl rfl rfl rfl rfl ?_
  refine Pl.qA_move hS37 rfl rfl rfl rfl rfl ?_
  refine Pl.qA_pick hS37 rfl rfl rfl rfl rfl rfl ?_
  refine Pl.qA_move hS37 rfl rfl rfl rfl rfl ?_
  refine Pl.qA_move hS37 rfl rfl rfl rfl rfl ?_
  refine Pl.qA_un (v := (.bool true)) hS37 rfl rfl rfl rfl rfl (fun X => rfl) ?_
  refine Pl.qA_pick hS37 rfl rfl rfl rfl rfl rfl ?_
  refine Pl.qA_move hS37 rfl rfl rfl rfl rfl ?_
  have i_31__26 := Ib.ext i_31 (Ext.below hB23 (Ext.below hB24 (Ext.below hB25 hB26)))
  refine Pl.qA_load hS37 rfl rfl rfl rfl rfl (fun X hX => Ib.load (Ib.ext i_31__26 hX)) ?_
  refine Pl.pA_call rfl rfl rfl rfl rfl en47 ?_
  refine Calls.mono (lof _ (-7) (by decide) (by decide)) ?_
  rintro e w38 ⟨v_x44, rfl, h_x44, hB38⟩
  have hS38 := Ext.below hS37 hB38
  refine ⟨_, rfl, hS38, ?_⟩
  have h_x30__38 := Zn.below h_x30 (Ext.below hB22 (Ext.below hB23 (Ext.below hB24 (Ext.below hB25 (Ext.below hB26 (Ext.below hB27 (Ext.below hB28 (Ext.below hB29 (Ext.below hB30 (Ext.below hB31 (Ext.below hB32 (Ext.below hB33 (Ext.below hB34 (Ext.below hB35 (Ext.below hB36 (Ext.below hB37 hB38))))))))))))))))
  refine Pl.pA_call rfl rfl rfl rfl rfl en20 ?_
  refine Calls.mono (rzsame _ _ _ (-7) (-7) h_x30__38 h_x44 (Sz.lit (by decide) (by decide)) (Sz.lit (by decide) (by decide)) true (by decide)) ?_
  rintro e w39 ⟨rfl, hB39⟩
  have hS39 := Ext.below hS38 hB39
  refine ⟨_, rfl, hS39, ?_⟩
  refine Pl.qA_pick hS39 rfl rfl rfl rfl rfl rfl ?_
  refine Pl.qA_move hS39 rfl rfl rfl rfl rfl ?_
  refine Pl.qA_move hS39 rfl rfl rfl rfl rfl ?_
  refine Pl.qA_bin (v := (.bool true)) hS39 rfl rfl rfl rfl rfl rfl (fun X => by go_simp) ?_
  refine Pl.qA_pick hS39 rfl rfl rfl rfl rfl rfl ?_
  refine Pl.qA_move hS39 rfl rfl rfl rfl rfl ?_
  refine Pl.qA_move hS39 rfl rfl rfl rfl rfl ?_
  refine Pl.qA_bin (v := (.bool true)) hS39 rfl rfl rfl rfl rfl rfl (fun X => by go_simp) ?_
  refine Pl.qA_pick hS39 rfl rfl rfl rfl rfl rfl ?_
  refine Pl.qA_move hS39 rfl rfl rfl rfl rfl ?_
  refine Pl.qA_move hS39 rfl rfl rfl rfl rfl ?_
  refine Pl.qA_bin (v := (.bool true)) hS39 rfl rfl rfl rfl rfl rfl (fun X => by go_simp) ?_
  refine Pl.qA_pick hS39 rfl rfl rfl rfl rfl rfl ?_
  refine Pl.qA_move hS39 rfl rfl rfl rfl rfl ?_
  refine Pl.qA_move hS39 rfl rfl rfl rfl rfl ?_
  refine Pl.qA_bin (v := (.bool true)) hS39 rfl rfl rfl rfl rfl rfl (fun X => by go_simp) ?_
  refine Pl.qA_pick hS39 rfl rfl rfl rfl rfl rfl ?_
  refine Pl.qA_move hS39 rfl rfl rfl rfl rfl ?_
  refine Pl.qA_move hS39 rfl rfl rfl rfl rfl ?_
  refine Pl.qA_bin (v := (.bool true)) hS39 rfl rfl rfl rfl rfl rfl (fun X => by go_simp) ?_
  refine Pl.qA_pick hS39 rfl rfl rfl rfl rfl rfl ?_
  refine Pl.qA_move hS39 rfl rfl rfl rfl rfl ?_
  refine Pl.pA_call rfl rfl rfl rfl rfl en47 ?_
  refine Calls.mono (lof _ (-1) (by decide) (by decide)) ?_
  rintro e w40 ⟨v_x46, rfl, h_x46, hB40⟩
  have hS40 := Ext.below hS39 hB40
  refine ⟨_, rfl, hS40, ?_⟩
  refine Pl.pA_call rfl rfl rfl rfl rfl en40 ?_
  refine Calls.mono (zshift _ _ (-1) (-5) h_x46 (Sz.lit (by decide) (by decide)) (by decide) (by decide) (-1) (by decide)) ?_
  rintro e w41 ⟨v_x47, rfl, h_x47, hB41⟩
  have hS41 := Ext.below hS40 hB41
  refine ⟨_, rfl, hS41, ?_⟩
  refine Pl.pA_call rfl rfl rfl rfl rfl en47 ?_
  refine Calls.mono (lof _ (-1) (by decide) (by decide)) ?_
  rintro e w42 ⟨v_x48, rfl, h_x48, hB42⟩
  have hS42 := Ext.below hS41 hB42
  refine ⟨_, rfl, hS42, ?_⟩
  have h_x47__42 := Zn.below h_x47 hB42
  refine Pl.pA_call rfl rfl rfl rfl rfl en20 ?_
  refine Calls.mono (rzsame _ _ _ (-1) (-1) h_x47__42 h_x48 (Sz.lit (by decide) (by decide)) (Sz.lit (by decide) (by decide)) true (by decide)) ?_
  rintro e w43 ⟨rfl, hB43⟩
  have hS43 := Ext.below hS42 hB43
  refine ⟨_, rfl, hS43, ?_⟩
  refine Pl.qA_pick hS43 rfl rfl rfl rfl rfl rfl ?_
  refine Pl.qA_move hS43 rfl rfl rfl rfl rfl ?_
  refine Pl.pA_call rfl rfl rfl rfl rfl en47 ?_
  refine Calls.mono (lof _ 5 (by decide) (by decide)) ?_
  rintro e w44 ⟨v_x50, rfl, h_x50, hB44⟩
  have hS44 := Ext.below hS43 hB44
  refine ⟨_, rfl, hS44, ?_⟩
  refine Pl.pA_call rfl rfl rfl rfl rfl en47 ?_
  refine Calls.mono (lof _ (-8) (by decide) (by decide)) ?_
  rintro e w45 ⟨v_x51, rfl, h_x51, hB45⟩
  have hS45 := Ext.below hS44 hB45
  refine ⟨_, rfl, hS45, ?_⟩
  have h_x50__45 := Zn.below h_x50 hB45
  refine Pl.pA_call rfl rfl rfl rfl rfl en29 ?_
  refine Calls.mono (zadd _ _ _ 5 (-8) h_x50__45 h_x51 (Sz.lit (by decide) (by decide)) (Sz.lit (by decide) (by decide)) (-3) (by decide)) ?_
  rintro e w46 ⟨v_x53, rfl, h_x53, hB46⟩
  have hS46 := Ext.below hS45 hB46
  refine ⟨_, rfl, hS46, ?_⟩
  refine Pl.pA_call rfl rfl rfl rfl rfl en47 ?_
  refine Calls.mono (lof _ (-3) (by decide) (by decide)) ?_
  rintro e w47 ⟨v_x54, rfl, h_x54, hB47⟩
  have hS47 := Ext.below hS46 hB47
  refine ⟨_, rfl, hS47, ?_⟩
  have h_x53__47 := Zn.below h_x53 hB47
  refine Pl.pA_call rfl rfl rfl rfl rfl en20 ?_
  refine Calls.mono (rzsame _ _ _ (-3) (-3) h_x53__47 h_x54 (Sz.lit (by decide) (by decide)) (Sz.lit (by decide) (by decide)) true (by decide)) ?_
  rintro e w48 ⟨rfl, hB48⟩
  have hS48 := Ext.below hS47 hB48
  refine ⟨_, rfl, hS48, ?_⟩
  refine Pl.qA_pick hS48 rfl rfl rfl rfl rfl rfl ?_
  refine Pl.qA_move hS48 rfl rfl rfl rfl rfl ?_
  refine Pl.pA_call rfl rfl rfl rfl rfl en47 ?_
  refine Calls.mono (lof _ (-90) (by decide) (by decide)) ?_
  rintro e w49 ⟨v_x56, rfl, h_x56, hB49⟩
  have hS49 := Ext.below hS48 hB49
  refine ⟨_, rfl, hS49, ?_⟩
  refine Pl.pA_call rfl rfl rfl rfl rfl en42 ?_
  refine Calls.mono (ztext_lit _ _ h_x56) ?_
  rintro e w50 ⟨rfl, hB50⟩
  have hS50 := Ext.below hS49 hB50
  refine ⟨_, rfl, hS50, ?_⟩
  refine Pl.qA_bin (v := (.bool true)) hS50 rfl rfl rfl rfl rfl rfl (fun X => by go_simp) ?_
  refine Pl.qA_pick hS50 rfl rfl rfl rfl rfl rfl ?_
  refine Pl.qA_move hS50 rfl rfl rfl rfl rfl ?_
  refine Pl.pA_call rfl rfl rfl rfl rfl en47 ?_
  refine Calls.mono (lof _ (-2) (by decide) (by decide)) ?_
  rintro e w51 ⟨v_x57, rfl, h_x57, hB51⟩
  have hS51 := Ext.below hS50 hB51
  refine ⟨_, rfl, hS51, ?_⟩
  refine Pl.pA_call rfl rfl rfl rfl rfl en38 ?_
  refine Calls.mono (zpow_lit _ _ h_x57) ?_
  rintro e w52 ⟨v_x58, rfl, h_x58, hB52⟩
  have hS52 := Ext.below hS51 hB52
  refine ⟨_, rfl, hS52, ?_⟩
  refine Pl.pA_call rfl rfl rfl rfl rfl en47 ?_
  refine Calls.mono (lof _ (-32) (by decide) (by decide)) ?_
  rintro e w53 ⟨v_x59, rfl, h_x59, hB53⟩
  have hS53 := Ext.below hS52 hB53
  refine ⟨_, rfl, hS53, ?_⟩
  have h_x58__53 := Zn.below h_x58 hB53
  refine Pl.pA_call rfl rfl rfl rfl rfl en20 ?_
  refine Calls.mono (rzsame _ _ _ (-32) (-32) h_x58__53 h_x59 (Sz.lit (by decide) (by decide)) (Sz.lit (by decide) (by decide)) true (by decide)) ?_
  rintro e w54 ⟨rfl, hB54⟩
  have hS54 := Ext.below hS53 hB54
  refine ⟨_, rfl, hS54, ?_⟩
  refine Pl.qA_pick hS54 rfl rfl rfl rfl rfl rfl ?_
  refine Pl.qA_move hS54 rfl rfl rfl rfl rfl ?_
  refine Pl.pA_call rfl rfl rfl rfl rfl en47 ?_
  refine Calls.mono (lof _ (-3) (by decide) (by decide)) ?_
  rintro e w55 ⟨v_x61, rfl, h_x61, hB55⟩
  have hS55 := Ext.below hS54 hB55
  refine ⟨_, rfl, hS55, ?_⟩
  refine Pl.pA_call rfl rfl rfl rfl rfl en47 ?_
  refine Calls.mono (lof _ 2 (by decide) (by decide)) ?_
  rintro e w56 ⟨v_x62, rfl, h_x62, hB56⟩
  have hS56 := Ext.below hS55 hB56
  refine ⟨_, rfl, hS56, ?_⟩
  have h_x61__56 := Zn.below h_x61 hB56
  refine Pl.pA_call rfl rfl rfl rfl rfl en23 ?_
  refine Calls.mono (zcmp _ _ _ (-3) 2 h_x61__56 h_x62 (-1) (by decide)) ?_
  rintro e w57 ⟨rfl, hB57⟩
  have hS57 := Ext.below hS56 hB57
  refine ⟨_, rfl, hS57, ?_⟩
  refine Pl.qA_bin (v := (.bool true)) hS57 rfl rfl rfl rfl rfl rfl (fun X => by go_simp) ?_
  refine Pl.qA_pick hS57 rfl rfl rfl rfl rfl rfl ?_
  refine Pl.qA_move hS57 rfl rfl rfl rfl rfl ?_
  refine Pl.pA_pure (v := .agg #[.bool true, .slice none 0 0]) hS57 rfl rfl rfl (fun ρ hρ X _ => by have e1 := hρ.const; simp [go_sem, e1]) ?_
  refine Pl.pA_call rfl rfl rfl rfl rfl en18 ?_
  refine Calls.mono (zright _ _ true [] (Ri.nil _) false (by decide)) ?_
  rintro e w58 ⟨rfl, hB58⟩
  have hS58 := Ext.below hS57 hB58
  refine ⟨_, rfl, hS58, ?_⟩
  refine Pl.qA_un (v := (.bool true)) hS58 rfl rfl rfl rfl rfl (fun X => rfl) ?_
  refine Pl.qA_pick hS58 rfl rfl rfl rfl rfl rfl ?_
  refine Pl.qA_assign hS58 rfl rfl rfl rfl rfl ?_
  refine Pl.pA_end ?_
  refine Pl.post_ret rfl rfl ?_
  exact ⟨rfl, (Ext.below hB1 (Ext.below hB2 (Ext.below hB3 (Ext.below hB4 (Ext.below hB5 (Ext.below hB6 (Ext.below hB7 (Ext.below hB8 (Ext.below hB9 (Ext.below hB10 (Ext.below hB11 (Ext.below hB12 (Ext.below hB13 (Ext.below hB14 (Ext.below hB15 (Ext.below hB16 (Ext.below hB17 (Ext.below hB18 (Ext.below hB19 (Ext.below hB20 (Ext.below hB21 (Ext.below hB22 (Ext.below hB23 (Ext.below hB24 (Ext.below hB25 (Ext.below hB26 (Ext.below hB27 (Ext.below hB28 (Ext.below hB29 (Ext.below hB30 (Ext.below hB31 (Ext.below hB32 (Ext.below hB33 (Ext.below hB34 (Ext.below hB35 (Ext.below hB36 (Ext.below hB37 (Ext.below hB38 (Ext.below hB39 (Ext.below hB40 (Ext.below hB41 (Ext.below hB42 (Ext.below hB43 (Ext.below hB44 (Ext.below hB45 (Ext.below hB46 (Ext.below hB47 (Ext.below hB48 (Ext.below hB49 (Ext.below hB50 (Ext.below hB51 (Ext.below hB52 (Ext.below hB53 (Ext.below hB54 (Ext.below hB55 (Ext.below hB56 (Ext.below hB57 hB58)))))))))))))))))))))))))))))))))))))))))))))))))))))))))⟩
end Go.Proofs.YtfkcdmbiihkiiaaGreatDoor
