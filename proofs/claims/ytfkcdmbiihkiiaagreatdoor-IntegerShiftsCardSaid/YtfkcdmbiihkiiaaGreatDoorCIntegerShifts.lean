/- Proved: what the statement IntegerShifts does: a shift is a product, or a quotient, by a power of 2; shifts are added, where the first one loses nothing: it tells true. No condition. -/
import Derived.Test.YtfkcdmbiihkiiaaGreatDoorBbe
import Derived.Test.YtfkcdmbiihkiiaaGreatDoorBaj
import Derived.Test.YtfkcdmbiihkiiaaGreatDoorBaw
import Derived.Test.YtfkcdmbiihkiiaaGreatDoorBbk
import Derived.Test.YtfkcdmbiihkiiaaGreatDoorBbi
import Derived.Test.YtfkcdmbiihkiiaaGreatDoorBak
import Derived.Test.YtfkcdmbiihkiiaaGreatDoorBbd
import Derived.Test.YtfkcdmbiihkiiaaGreatDoorBbj
import Derived.Test.YtfkcdmbiihkiiaaGreatDoorBbf
import Derived.Test.YtfkcdmbiihkiiaaGreatDoorBbh
import Derived.Test.YtfkcdmbiihkiiaaGreatDoorBbm
import Derived.Test.YtfkcdmbiihkiiaaGreatDoorBbl
import Derived.Deep.RegionHeld3

namespace Go.Proofs.YtfkcdmbiihkiiaaGreatDoor
open Go.RowKit
set_option linter.unusedVariables false
set_option maxHeartbeats 400000

set_option maxRecDepth 100000 in
set_option maxHeartbeats 8000000 in
theorem zsub (w : World) (va vb : Value) (a b : Int) (ha : Zn w va a) (hb : Zn w vb b) (hl : (limbs a.natAbs).length ≤ 1000000) (hl2 : (limbs b.natAbs).length ≤ 1000000) (y : Int) (hy : a - b = y) :
    Calls Tryz.prog 31 #[va, vb] w fun e w' => ∃ u, e = .returned u ∧ Zn w' u y ∧ Ext w w' := by
  have hN := Lib.hid (fun W h => zneg W vb b h (-b) rfl)
  have hA := Lib.hid (fun W u h (g : Zn W u (-b)) => zadd W va u a (-b) h g hl (by rw [Int.natAbs_neg]; exact hl2) y (by rw [← Int.sub_eq_add_neg]; exact hy))
  have ha' := ha
  have hb' := hb
  obtain ⟨p, A, L, c, n, rfl, hu, hL, hz, -, hza, hzn⟩ := ha.open
  obtain ⟨q, B, K, d, m, rfl, hv, hK, hz2, -, hza2, hzn2⟩ := hb.open
  have hE0 := ((((Ext.refl w).alloc (.cells #[.bool p, .slice A L c] 24)).alloc (.cells #[.bool q, .slice B K d] 24)).alloc (.cells #[.bool false, .slice none 0 0] 24)).drew
  have hI0 := (Ib.new3 w (.cells #[.bool p, .slice A L c] 24) (.cells #[.bool q, .slice B K d] 24) false (.slice none 0 0) 24).ext (Ext.refl _).drew
  have hP0 := (Ib.new w p (.slice A L c) 24).ext ((((Ext.refl _).alloc (.cells #[.bool q, .slice B K d] 24)).alloc (.cells #[.bool false, .slice none 0 0] 24)).drew)
  have hQ0 := (Ib.new2 w (.cells #[.bool p, .slice A L c] 24) q (.slice B K d) 24).ext (((Ext.refl _).alloc (.cells #[.bool false, .slice none 0 0] 24)).drew)
  have hS0 : (w.heap.size + 1 + 1 < (((w.alloc (.cells #[.bool p, .slice A L c] 24)).alloc (.cells #[.bool q, .slice B K d] 24)).alloc (.cells #[.bool false, .slice none 0 0] 24)).drew.heap.size ∧ (((w.alloc (.cells #[.bool p, .slice A L c] 24)).alloc (.cells #[.bool q, .slice B K d] 24)).alloc (.cells #[.bool false, .slice none 0 0] 24)).drew.cell? ⟨w.heap.size, 0, none⟩ = some (.bool p) ∧ (((w.alloc (.cells #[.bool p, .slice A L c] 24)).alloc (.cells #[.bool q, .slice B K d] 24)).alloc (.cells #[.bool false, .slice none 0 0] 24)).drew.cell? ⟨w.heap.size, 1, none⟩ = some (.slice A L c) ∧ (((w.alloc (.cells #[.bool p, .slice A L c] 24)).alloc (.cells #[.bool q, .slice B K d] 24)).alloc (.cells #[.bool false, .slice none 0 0] 24)).drew.cell? ⟨w.heap.size + 1, 0, none⟩ = some (.bool q) ∧ (((w.alloc (.cells #[.bool p, .slice A L c] 24)).alloc (.cells #[.bool q, .slice B K d] 24)).alloc (.cells #[.bool false, .slice none 0 0] 24)).drew.cell? ⟨w.heap.size + 1, 1, none⟩ = some (.slice B K d)) ∧ Ext w (((w.alloc (.cells #[.bool p, .slice A L c] 24)).alloc (.cells #[.bool q, .slice B K d] 24)).alloc (.cells #[.bool false, .slice none 0 0] 24)).drew := ⟨⟨by simp, hP0.2.1, hP0.2.2.1, hQ0.2.1, hQ0.2.2.1⟩, hE0⟩
  have ha0 := ha'.below hE0
  have hb0 := hb'.below hE0
  clear hl hl2 hza hzn hza2 hzn2 hz hz2 hL hK ha hb hy hP0 hQ0 ha' hb'
  go_enter Tryz.func31, Tryz.ntmps31
  go_wp2
  go_region_held3 (fun X => (w.heap.size + 1 + 1 < X.heap.size ∧ X.cell? ⟨w.heap.size, 0, none⟩ = some (.bool p) ∧ X.cell? ⟨w.heap.size, 1, none⟩ = some (.slice A L c) ∧ X.cell? ⟨w.heap.size + 1, 0, none⟩ = some (.bool q) ∧ X.cell? ⟨w.heap.size + 1, 1, none⟩ = some (.slice B K d)) ∧ Ext w X)
    (first
      | exact hS0
      | exact keepI2 (by assumption) (by assumption)
      | exact keepS2 (by assumption))
    (first
      | (go_at_call 27; ((with_reducible refine (hN.out _ hb0).mono ?_); rintro e w2 ⟨u, rfl, hz2, hE2⟩; obtain ⟨b2, A2, L2, c2, rfl⟩ := hz2.sh))
      | (go_at_call 29; ((with_reducible refine (hA.out _ _ (ha0.below hE2) hz2).mono ?_); rintro e w3 ⟨u, rfl, hz3, hE3⟩; obtain ⟨b3, A3, L3, c3, rfl⟩ := hz3.sh; have hI3 := (hI0.ext hE2).ext hE3; obtain ⟨i0, i1, i2, i3, i4⟩ := id hI3)))
  clear hN hA
  clear hI3
  go_wp2
  (try simp only [Exit.inBlock, Exit.then])
  refine bodyPost_ret (v := .agg #[.bool b3, .slice A3 L3 c3]) (show (results _ _).run _ _ = _ from ?_) rfl ⟨_, rfl, hz3.put2 ((hI0.ext hE2).ext hE3) (slice_no_int _ _ _) _ _, ((hE0.below hE2).below hE3).put2 (by omega) _ _⟩
  simp only [results]
  go_simp
end Go.Proofs.YtfkcdmbiihkiiaaGreatDoor
/- Proved: what the statement IntegerShifts does: a shift is a product, or a quotient, by a power of 2; shifts are added, where the first one loses nothing: it tells true. No condition. -/
namespace Go.Proofs.YtfkcdmbiihkiiaaGreatDoor
open Go.RowKit
set_option linter.unusedVariables false
set_option linter.unusedSimpArgs false
set_option maxHeartbeats 400000

namespace Shif6
theorem en12 (u : Array Value) (X : World) : (callFunc 12 u).run Tryz.prog X = .ok (.enter 12 u) X := Pl.enters Tryz.func12 (by kernel_rfl) rfl u X
theorem en13 (u : Array Value) (X : World) : (callFunc 13 u).run Tryz.prog X = .ok (.enter 13 u) X := Pl.enters Tryz.func13 (by kernel_rfl) rfl u X
theorem en14 (u : Array Value) (X : World) : (callFunc 14 u).run Tryz.prog X = .ok (.enter 14 u) X := Pl.enters Tryz.func14 (by kernel_rfl) rfl u X
theorem en20 (u : Array Value) (X : World) : (callFunc 20 u).run Tryz.prog X = .ok (.enter 20 u) X := Pl.enters Tryz.func20 (by kernel_rfl) rfl u X
theorem en33 (u : Array Value) (X : World) : (callFunc 33 u).run Tryz.prog X = .ok (.enter 33 u) X := Pl.enters Tryz.func33 (by kernel_rfl) rfl u X
theorem en38 (u : Array Value) (X : World) : (callFunc 38 u).run Tryz.prog X = .ok (.enter 38 u) X := Pl.enters Tryz.func38 (by kernel_rfl) rfl u X
theorem en40 (u : Array Value) (X : World) : (callFunc 40 u).run Tryz.prog X = .ok (.enter 40 u) X := Pl.enters Tryz.func40 (by kernel_rfl) rfl u X
theorem en47 (u : Array Value) (X : World) : (callFunc 47 u).run Tryz.prog X = .ok (.enter 47 u) X := Pl.enters Tryz.func47 (by kernel_rfl) rfl u X
end Shif6
open Shif6
set_option maxRecDepth 100000 in
set_option maxHeartbeats 4000000 in
theorem IntegerShifts_walk (w : World) (sa : Bool) (Aa : Option Addr) (ca : Nat) (xsa : List Nat) (ua : U w (.slice Aa xsa.length ca) xsa) (k1 : Nat) (hk1 : k1 < 65536) (k2 : Nat) (hk2 : k2 < 65536)  :
    Calls Tryz.prog 8 #[.agg #[.bool sa, .slice Aa xsa.length ca], .int .u16 (k1 : Nat), .int .u16 (k2 : Nat)] w fun e w' => e = .returned (.bool true) ∧ Ext w w' := by
  have r_a : Ri w (.agg #[.bool sa, .slice Aa xsa.length ca]) sa xsa := ⟨_, _, rfl, ua⟩
  obtain ⟨a, e_a⟩ : ∃ z, sg sa (cutN xsa 40) = z := ⟨_, rfl⟩
  have b_a : Sz a 40 := by rw [← e_a]; exact Sz.cut ua sa 40 40 (Nat.le_refl _)
  obtain ⟨i, hi⟩ : ∃ i, k1 % 900 = i := ⟨_, rfl⟩
  obtain ⟨k, hk⟩ : ∃ k, k2 % 900 = k := ⟨_, rfl⟩
  have hi9 : i < 900 := hi ▸ Nat.mod_lt _ (by decide)
  have hk9 : k < 900 := hk ▸ Nat.mod_lt _ (by decide)
  refine Pl.calls_by (n := 103) (vs := [.agg #[.bool sa, .slice Aa xsa.length ca], .int .u16 (k1 : Nat), .int .u16 (k2 : Nat)]) Tryz.func8 rfl (by kernel_rfl) (by simp) ?_
  refine Pl.V_seq ?_
  refine Pl.V_region (by kernel_rfl) ?_
  refine boxS rfl rfl rfl rfl rfl (fun _ _ => trivial) ?_
  intro N1 w1 hB1 i_1
  refine Pl.qA_assign trivial rfl rfl rfl rfl rfl ?_
  refine Pl.pA_end ?_
  refine Pl.V_seq ?_
  refine Pl.V_region (by kernel_rfl) ?_
  refine Pl.pA_call rfl rfl rfl rfl rfl en12 ?_
  refine Calls.mono (zhead _) ?_
  rintro e w2 ⟨rfl, hB2⟩
  refine ⟨_, rfl, trivial, ?_⟩
  refine Pl.qA_assign trivial rfl rfl rfl rfl rfl ?_
  refine Pl.pA_end ?_
  refine Pl.V_seq ?_
  refine Pl.V_region (by kernel_rfl) ?_
  have i_1__2 := Ib.ext i_1 hB2
  refine Pl.qA_loadw trivial rfl rfl rfl rfl rfl (Ib.load i_1__2) ?_
  have r_a__2 := Ri.below r_a (Ext.below hB1 hB2)
  refine Pl.pA_call rfl rfl rfl rfl rfl en13 ?_
  refine Calls.mono (lmade _ _ sa xsa r_a__2 a e_a) ?_
  rintro e w3 ⟨v_x4, rfl, h_x4, hB3⟩
  refine ⟨_, rfl, trivial, ?_⟩
  obtain ⟨p_x4, A_x4, L_x4, c_x4, rfl⟩ := Zn.sh h_x4
  refine boxI rfl rfl rfl rfl rfl rfl rfl rfl (fun _ => rfl) (fun _ _ => trivial) ?_
  intro N5 w4 hB4 i_5
  refine Pl.pA_end ?_
  refine Pl.V_seq ?_
  refine Pl.V_region (by kernel_rfl) ?_
  refine Pl.qA_move trivial rfl rfl rfl rfl rfl ?_
  refine qA_conv (v := (.int .i64 ((k1 : Nat) : Int))) trivial rfl rfl rfl rfl rfl (fun X => cv_u16 hk1 X) ?_
  refine Pl.qA_bin (v := (.int .i64 ((i : Nat) : Int))) trivial rfl rfl rfl rfl rfl rfl (fun X => b_rem (b := 900) rfl hi (by decide) (by omega) (by decide) X) ?_
  refine Pl.qA_assign trivial rfl rfl rfl rfl rfl ?_
  refine Pl.pA_end ?_
  refine Pl.V_seq ?_
  refine Pl.V_region (by kernel_rfl) ?_
  refine Pl.qA_move trivial rfl rfl rfl rfl rfl ?_
  refine qA_conv (v := (.int .i64 ((k2 : Nat) : Int))) trivial rfl rfl rfl rfl rfl (fun X => cv_u16 hk2 X) ?_
  refine Pl.qA_bin (v := (.int .i64 ((k : Nat) : Int))) trivial rfl rfl rfl rfl rfl rfl (fun X => b_rem (b := 900) rfl hk (by decide) (by omega) (by decide) X) ?_
  refine Pl.qA_assign trivial rfl rfl rfl rfl rfl ?_
  refine Pl.pA_end ?_
  refine Pl.V_seq ?_
  refine Pl.V_region (by kernel_rfl) ?_
  refine Pl.pA_call rfl rfl rfl rfl rfl en47 ?_
  refine Calls.mono (lof _ 2 (by decide) (by decide)) ?_
  rintro e w5 ⟨v_x6, rfl, h_x6, hB5⟩
  refine ⟨_, rfl, trivial, ?_⟩
  refine Pl.qA_move trivial rfl rfl rfl rfl rfl ?_
  refine Pl.pA_call rfl rfl rfl rfl rfl en38 ?_
  refine Calls.mono (zpow _ _ 2 (i) h_x6 (Sz.lit (by decide) (by decide)) (two_len (by omega)) (by omega) _ rfl) ?_
  rintro e w6 ⟨v_x7, rfl, h_x7, hB6⟩
  refine ⟨_, rfl, trivial, ?_⟩
  have b_x7 : Sz ((2 : Int) ^ (i)) 29 := Sz.two (by omega)
  obtain ⟨p_x7, A_x7, L_x7, c_x7, rfl⟩ := Zn.sh h_x7
  refine boxI rfl rfl rfl rfl rfl rfl rfl rfl (fun _ => rfl) (fun _ _ => trivial) ?_
  intro N8 w7 hB7 i_8
  refine Pl.pA_end ?_
  refine Pl.V_seq ?_
  refine Pl.V_region (by kernel_rfl) ?_
  have i_5__7 := Ib.ext i_5 (Ext.below hB5 (Ext.below hB6 hB7))
  refine Pl.qA_loadw trivial rfl rfl rfl rfl rfl (Ib.load i_5__7) ?_
  refine Pl.qA_loadw trivial rfl rfl rfl rfl rfl (Ib.load i_8) ?_
  have h_x4__7 := Zn.below h_x4 (Ext.below hB4 (Ext.below hB5 (Ext.below hB6 hB7)))
  have h_x7__7 := Zn.below h_x7 hB7
  refine Pl.pA_call rfl rfl rfl rfl rfl en14 ?_
  refine Calls.mono (zdiv_D _ _ _ a ((2 : Int) ^ (i)) h_x4__7 h_x7__7 (Sz.le b_a (by decide)) (Sz.le b_x7 (by decide)) (two_ne i) _ _ rfl rfl) ?_
  rintro e w8 ⟨⟨v_x12, v_x13, rfl, h_x12, h_x13⟩, hB8⟩
  refine ⟨_, rfl, trivial, ?_⟩
  have b_x12 : Sz (a / ((2 : Int) ^ (i))) 40 := Sz.div b_a
  have b_x13 : Sz (a % ((2 : Int) ^ (i))) 29 := Sz.mod b_x7 (two_ne i)
  refine Pl.qA_move trivial rfl rfl rfl rfl rfl ?_
  refine Pl.qA_extract trivial rfl rfl rfl rfl rfl rfl ?_
  refine Pl.qA_extract trivial rfl rfl rfl rfl rfl rfl ?_
  refine Pl.qA_extract trivial rfl rfl rfl rfl rfl rfl ?_
  obtain ⟨p_x12, A_x12, L_x12, c_x12, rfl⟩ := Zn.sh h_x12
  obtain ⟨p_x13, A_x13, L_x13, c_x13, rfl⟩ := Zn.sh h_x13
  refine boxI2 rfl rfl rfl rfl rfl rfl rfl rfl rfl rfl rfl rfl rfl rfl rfl rfl rfl (fun _ _ => rfl) (fun _ _ => rfl) (fun _ _ => trivial) ?_
  intro N14 N15 w9 hB9 i_14 i_15
  refine Pl.qA_assign trivial rfl rfl rfl rfl rfl ?_
  refine Pl.pA_end ?_
  refine Pl.V_seq ?_
  refine Pl.V_seq ?_
  refine Pl.V_draw (S := fun X => Ext w9 X) [(true, 0, 0), (true, 1, 1), (true, 2, 3), (true, 3, 7), (true, 4, 15), (true, 6, 31), (true, 7, 95), (false, 5, 223), (false, 8, 255), (false, 9, 511), (true, 10, 1023), (true, 11, 2047), (true, 12, 4095), (true, 13, 8191), (true, 14, 16383), (true, 15, 32767), (true, 17, 65535), (false, 16, 196607), (false, 18, 262143), (true, 19, 524287), (true, 20, 1048575), (true, 21, 2097151), (true, 22, 4194303), (true, 23, 8388607), (true, 25, 16777215), (true, 26, 50331647), (true, 28, 117440511), (false, 24, 385875967), (false, 27, 402653183), (false, 29, 536870911), (true, 30, 1073741823), (true, 31, 2147483647)] fo Pl.post_panic (by kernel_rfl) (Ext.drew (Ext.refl _)) ?_
  generalize w9.drew = w10
  intro hB10
  have hS10 := hB10
  refine Pl.qA_move hS10 rfl rfl rfl rfl rfl ?_
  refine Pl.qA_bin (v := (.bool false)) hS10 rfl rfl rfl rfl rfl rfl (fun X => by go_simp) ?_
  refine Pl.qA_move hS10 rfl rfl rfl rfl rfl ?_
  have i_5__9 := Ib.ext i_5__7 (Ext.below hB8 hB9)
  refine Pl.qA_load hS10 rfl rfl rfl rfl rfl (fun X hX => Ib.load (Ib.ext i_5__9 hX)) ?_
  refine Pl.qA_move hS10 rfl rfl rfl rfl rfl ?_
  refine Pl.qA_load hS10 rfl rfl rfl rfl rfl (fun X hX => Ib.load (Ib.ext i_5__9 hX)) ?_
  have i_8__9 := Ib.ext i_8 (Ext.below hB8 hB9)
  refine Pl.qA_load hS10 rfl rfl rfl rfl rfl (fun X hX => Ib.load (Ib.ext i_8__9 hX)) ?_
  have h_x4__10 := Zn.below h_x4__7 (Ext.below hB8 (Ext.below hB9 hB10))
  refine Pl.pA_call rfl rfl rfl rfl rfl en40 ?_
  refine Calls.mono (zshl _ _ a ((i : Nat) : Int) h_x4__10 (Sz.le b_a (by decide)) (by omega) (by omega)) ?_
  rintro e w11 ⟨v_x17, rfl, h_x17, hB11⟩
  have hS11 := Ext.below hS10 hB11
  refine ⟨_, rfl, hS11, ?_⟩
  have b_x17 : Sz (shl a ((i : Nat) : Int)) 69 := Sz.shl b_a (by omega) (by decide)
  have h_x4__11 := Zn.below h_x4__10 hB11
  have h_x7__11 := Zn.below h_x7__7 (Ext.below hB8 (Ext.below hB9 (Ext.below hB10 hB11)))
  refine Pl.pA_call rfl rfl rfl rfl rfl en33 ?_
  refine Calls.mono (zmul _ _ _ a ((2 : Int) ^ (i)) h_x4__11 h_x7__11 (Sz.le b_a (by decide)) (Sz.le b_x7 (by decide)) _ rfl) ?_
  rintro e w12 ⟨v_x20, rfl, h_x20, hB12⟩
  have hS12 := Ext.below hS11 hB12
  refine ⟨_, rfl, hS12, ?_⟩
  have b_x20 : Sz (a * ((2 : Int) ^ (i))) 69 := Sz.mul b_a b_x7 (by decide)
  have h_x17__12 := Zn.below h_x17 hB12
  refine Pl.pA_call rfl rfl rfl rfl rfl en20 ?_
  refine Calls.mono (rzsame _ _ _ (shl a ((i : Nat) : Int)) (a * ((2 : Int) ^ (i))) h_x17__12 h_x20 (Sz.le b_x17 (by decide)) (Sz.le b_x20 (by decide)) true (decide_eq_true (shl_pos a i))) ?_
  rintro e w13 ⟨rfl, hB13⟩
  have hS13 := Ext.below hS12 hB13
  refine ⟨_, rfl, hS13, ?_⟩
  refine Pl.qA_un (v := (.bool false)) hS13 rfl rfl rfl rfl rfl (fun X => rfl) ?_
  refine Pl.qA_pick hS13 rfl rfl rfl rfl rfl rfl ?_
  refine Pl.qA_move hS13 rfl rfl rfl rfl rfl ?_
  refine Pl.qA_load hS13 rfl rfl rfl rfl rfl (fun X hX => Ib.load (Ib.ext i_5__9 hX)) ?_
  refine Pl.qA_move hS13 rfl rfl rfl rfl rfl ?_
  refine Pl.qA_un (v := (.int .i64 (-((i : Nat) : Int)))) hS13 rfl rfl rfl rfl rfl (fun X => u_neg rfl (by omega) (by omega) X) ?_
  refine Pl.qA_load hS13 rfl rfl rfl rfl rfl (fun X hX => Ib.load (Ib.ext i_14 hX)) ?_
  have h_x4__13 := Zn.below h_x4__11 (Ext.below hB12 hB13)
  refine Pl.pA_call rfl rfl rfl rfl rfl en40 ?_
  refine Calls.mono (zshl _ _ a (-((i : Nat) : Int)) h_x4__13 (Sz.le b_a (by decide)) (by omega) (by omega)) ?_
  rintro e w14 ⟨v_x23, rfl, h_x23, hB14⟩
  have hS14 := Ext.below hS13 hB14
  refine ⟨_, rfl, hS14, ?_⟩
  have b_x23 : Sz (shl a (-((i : Nat) : Int))) 69 := Sz.shl b_a (by omega) (by decide)
  have h_x12__14 := Zn.below h_x12 (Ext.below hB9 (Ext.below hB10 (Ext.below hB11 (Ext.below hB12 (Ext.below hB13 hB14)))))
  refine Pl.pA_call rfl rfl rfl rfl rfl en20 ?_
  refine Calls.mono (rzsame _ _ _ (shl a (-((i : Nat) : Int))) (a / ((2 : Int) ^ (i))) h_x23 h_x12__14 (Sz.le b_x23 (by decide)) (Sz.le b_x12 (by decide)) true (decide_eq_true (shl_neg a i))) ?_
  rintro e w15 ⟨rfl, hB15⟩
  have hS15 := Ext.below hS14 hB15
  refine ⟨_, rfl, hS15, ?_⟩
  refine Pl.qA_un (v := (.bool false)) hS15 rfl rfl rfl rfl rfl (fun X => rfl) ?_
  refine Pl.qA_pick hS15 rfl rfl rfl rfl rfl rfl ?_
  refine Pl.qA_move hS15 rfl rfl rfl rfl rfl ?_
  refine Pl.qA_load hS15 rfl rfl rfl rfl rfl (fun X hX => Ib.load (Ib.ext i_5__9 hX)) ?_
  refine Pl.qA_move hS15 rfl rfl rfl rfl rfl ?_
  refine Pl.qA_move hS15 rfl rfl rfl rfl rfl ?_
  refine Pl.qA_un (v := (.int .i64 (-((i : Nat) : Int)))) hS15 rfl rfl rfl rfl rfl (fun X => u_neg rfl (by omega) (by omega) X) ?_
  refine Pl.qA_load hS15 rfl rfl rfl rfl rfl (fun X hX => Ib.load (Ib.ext i_5__9 hX)) ?_
  have h_x4__15 := Zn.below h_x4__13 (Ext.below hB14 hB15)
  refine Pl.pA_call rfl rfl rfl rfl rfl en40 ?_
  refine Calls.mono (zshl _ _ a ((i : Nat) : Int) h_x4__15 (Sz.le b_a (by decide)) (by omega) (by omega)) ?_
  rintro e w16 ⟨v_x26, rfl, h_x26, hB16⟩
  have hS16 := Ext.below hS15 hB16
  refine ⟨_, rfl, hS16, ?_⟩
  have b_x26 : Sz (shl a ((i : Nat) : Int)) 69 := Sz.shl b_a (by omega) (by decide)
  refine Pl.pA_call rfl rfl rfl rfl rfl en40 ?_
  refine Calls.mono (zshl _ _ (shl a ((i : Nat) : Int)) (-((i : Nat) : Int)) h_x26 (Sz.le b_x26 (by decide)) (by omega) (by omega)) ?_
  rintro e w17 ⟨v_x27, rfl, h_x27, hB17⟩
  have hS17 := Ext.below hS16 hB17
  refine ⟨_, rfl, hS17, ?_⟩
  have b_x27 : Sz (shl (shl a ((i : Nat) : Int)) (-((i : Nat) : Int))) 98 := Sz.shl b_x26 (by omega) (by decide)
  have h_x4__17 := Zn.below h_x4__15 (Ext.below hB16 hB17)
  refine Pl.pA_call rfl rfl rfl rfl rfl en20 ?_
  refine Calls.mono (rzsame _ _ _ (shl (shl a ((i : Nat) : Int)) (-((i : Nat) : Int))) a h_x27 h_x4__17 (Sz.le b_x27 (by decide)) (Sz.le b_a (by decide)) true (decide_eq_true (shl_back a i))) ?_
  rintro e w18 ⟨rfl, hB18⟩
  have hS18 := Ext.below hS17 hB18
  refine ⟨_, rfl, hS18, ?_⟩
  refine Pl.qA_un (v := (.bool false)) hS18 rfl rfl rfl rfl rfl (fun X => rfl) ?_
  refine Pl.qA_pick hS18 rfl rfl rfl rfl rfl rfl ?_
  refine Pl.pA_end ?_
  refine Pl.V_false rfl ?_
  refine Pl.V_skip ?_
  refine Pl.V_seq ?_
  refine Pl.V_draw (S := fun X => Ext w18 X) [(true, 0, 0), (true, 1, 1), (true, 2, 3), (true, 3, 7), (true, 5, 15), (true, 6, 47), (true, 8, 111), (true, 9, 367), (true, 10, 879), (true, 11, 1903), (false, 4, 3951), (false, 7, 3967), (false, 12, 4095), (false, 13, 8191), (true, 14, 16383), (true, 15, 32767), (true, 16, 65535), (true, 17, 131071), (true, 18, 262143), (true, 20, 524287), (true, 21, 1572863), (true, 23, 3670015), (true, 24, 12058623), (true, 25, 28835839), (true, 26, 62390271), (true, 27, 129499135), (false, 19, 263716863), (false, 22, 264241151), (false, 28, 268435455), (false, 29, 536870911), (true, 30, 1073741823), (true, 31, 2147483647), (true, 32, 4294967295), (true, 34, 8589934591), (false, 33, 25769803775), (false, 35, 34359738367), (true, 36, 68719476735), (true, 37, 137438953471)] fo Pl.post_panic (by kernel_rfl) (Ext.drew (Ext.refl _)) ?_
  generalize w18.drew = w19
  intro hB19
  have hS19 := hB19
  refine Pl.qA_move hS19 rfl rfl rfl rfl rfl ?_
  refine Pl.qA_move hS19 rfl rfl rfl rfl rfl ?_
  have i_5__18 := Ib.ext i_5__9 (Ext.below hB10 (Ext.below hB11 (Ext.below hB12 (Ext.below hB13 (Ext.below hB14 (Ext.below hB15 (Ext.below hB16 (Ext.below hB17 hB18))))))))
  refine Pl.qA_load hS19 rfl rfl rfl rfl rfl (fun X hX => Ib.load (Ib.ext i_5__18 hX)) ?_
  refine Pl.qA_move hS19 rfl rfl rfl rfl rfl ?_
  refine Pl.qA_move hS19 rfl rfl rfl rfl rfl ?_
  refine Pl.qA_un (v := (.int .i64 (-((k : Nat) : Int)))) hS19 rfl rfl rfl rfl rfl (fun X => u_neg rfl (by omega) (by omega) X) ?_
  refine Pl.qA_load hS19 rfl rfl rfl rfl rfl (fun X hX => Ib.load (Ib.ext i_5__18 hX)) ?_
  refine Pl.qA_move hS19 rfl rfl rfl rfl rfl ?_
  refine Pl.qA_move hS19 rfl rfl rfl rfl rfl ?_
  refine Pl.qA_bin (v := (.int .i64 (((i : Nat) : Int) - ((k : Nat) : Int)))) hS19 rfl rfl rfl rfl rfl rfl (fun X => b_sub rfl (by omega) (by omega) X) ?_
  have h_x4__19 := Zn.below h_x4__17 (Ext.below hB18 hB19)
  refine Pl.pA_call rfl rfl rfl rfl rfl en40 ?_
  refine Calls.mono (zshl _ _ a ((i : Nat) : Int) h_x4__19 (Sz.le b_a (by decide)) (by omega) (by omega)) ?_
  rintro e w20 ⟨v_x30, rfl, h_x30, hB20⟩
  have hS20 := Ext.below hS19 hB20
  refine ⟨_, rfl, hS20, ?_⟩
  have b_x30 : Sz (shl a ((i : Nat) : Int)) 69 := Sz.shl b_a (by omega) (by decide)
  refine Pl.pA_call rfl rfl rfl rfl rfl en40 ?_
  refine Calls.mono (zshl _ _ (shl a ((i : Nat) : Int)) (-((k : Nat) : Int)) h_x30 (Sz.le b_x30 (by decide)) (by omega) (by omega)) ?_
  rintro e w21 ⟨v_x31, rfl, h_x31, hB21⟩
  have hS21 := Ext.below hS20 hB21
  refine ⟨_, rfl, hS21, ?_⟩
  have b_x31 : Sz (shl (shl a ((i : Nat) : Int)) (-((k : Nat) : Int))) 98 := Sz.shl b_x30 (by omega) (by decide)
  have h_x4__21 := Zn.below h_x4__19 (Ext.below hB20 hB21)
  refine Pl.pA_call rfl rfl rfl rfl rfl en40 ?_
  refine Calls.mono (zshl _ _ a (((i : Nat) : Int) - ((k : Nat) : Int)) h_x4__21 (Sz.le b_a (by decide)) (by omega) (by omega)) ?_
  rintro e w22 ⟨v_x33, rfl, h_x33, hB22⟩
  have hS22 := Ext.below hS21 hB22
  refine ⟨_, rfl, hS22, ?_⟩
  have b_x33 : Sz (shl a (((i : Nat) : Int) - ((k : Nat) : Int))) 69 := Sz.shl b_a (by omega) (by decide)
  have h_x31__22 := Zn.below h_x31 hB22
  refine Pl.pA_call rfl rfl rfl rfl rfl en20 ?_
  refine Calls.mono (rzsame _ _ _ (shl (shl a ((i : Nat) : Int)) (-((k : Nat) : Int))) (shl a (((i : Nat) : Int) - ((k : Nat) : Int))) h_x31__22 h_x33 (Sz.le b_x31 (by decide)) (Sz.le b_x33 (by decide)) true (decide_eq_true (shl_two a i k))) ?_
  rintro e w23 ⟨rfl, hB23⟩
  have hS23 := Ext.below hS22 hB23
  refine ⟨_, rfl, hS23, ?_⟩
  refine Pl.qA_pick hS23 rfl rfl rfl rfl rfl rfl ?_
  refine Pl.qA_move hS23 rfl rfl rfl rfl rfl ?_
  refine Pl.qA_load hS23 rfl rfl rfl rfl rfl (fun X hX => Ib.load (Ib.ext i_5__18 hX)) ?_
  refine Pl.qA_move hS23 rfl rfl rfl rfl rfl ?_
  refine Pl.qA_un (v := (.int .i64 (-((i : Nat) : Int)))) hS23 rfl rfl rfl rfl rfl (fun X => u_neg rfl (by omega) (by omega) X) ?_
  refine Pl.qA_move hS23 rfl rfl rfl rfl rfl ?_
  refine Pl.qA_un (v := (.int .i64 (-((k : Nat) : Int)))) hS23 rfl rfl rfl rfl rfl (fun X => u_neg rfl (by omega) (by omega) X) ?_
  refine Pl.qA_load hS23 rfl rfl rfl rfl rfl (fun X hX => Ib.load (Ib.ext i_5__18 hX)) ?_
  refine Pl.qA_move hS23 rfl rfl rfl rfl rfl ?_
  refine Pl.qA_un (v := (.int .i64 (-((i : Nat) : Int)))) hS23 rfl rfl rfl rfl rfl (fun X => u_neg rfl (by omega) (by omega) X) ?_
  refine Pl.qA_move hS23 rfl rfl rfl rfl rfl ?_
  refine Pl.qA_bin (v := (.int .i64 ((-((i : Nat) : Int)) - ((k : Nat) : Int)))) hS23 rfl rfl rfl rfl rfl rfl (fun X => b_sub rfl (by omega) (by omega) X) ?_
  have h_x4__23 := Zn.below h_x4__21 (Ext.below hB22 hB23)
  refine Pl.pA_call rfl rfl rfl rfl rfl en40 ?_
  refine Calls.mono (zshl _ _ a (-((i : Nat) : Int)) h_x4__23 (Sz.le b_a (by decide)) (by omega) (by omega)) ?_
  rintro e w24 ⟨v_x36, rfl, h_x36, hB24⟩
  have hS24 := Ext.below hS23 hB24
  refine ⟨_, rfl, hS24, ?_⟩
  have b_x36 : Sz (shl a (-((i : Nat) : Int))) 69 := Sz.shl b_a (by omega) (by decide)
  refine Pl.pA_call rfl rfl rfl rfl rfl en40 ?_
  refine Calls.mono (zshl _ _ (shl a (-((i : Nat) : Int))) (-((k : Nat) : Int)) h_x36 (Sz.le b_x36 (by decide)) (by omega) (by omega)) ?_
  rintro e w25 ⟨v_x37, rfl, h_x37, hB25⟩
  have hS25 := Ext.below hS24 hB25
  refine ⟨_, rfl, hS25, ?_⟩
  have b_x37 : Sz (shl (shl a (-((i : Nat) : Int))) (-((k : Nat) : Int))) 98 := Sz.shl b_x36 (by omega) (by decide)
  have h_x4__25 := Zn.below h_x4__23 (Ext.below hB24 hB25)
  refine Pl.pA_call rfl rfl rfl rfl rfl en40 ?_
  refine Calls.mono (zshl _ _ a ((-((i : Nat) : Int)) - ((k : Nat) : Int)) h_x4__25 (Sz.le b_a (by decide)) (by omega) (by omega)) ?_
  rintro e w26 ⟨v_x39, rfl, h_x39, hB26⟩
  have hS26 := Ext.below hS25 hB26
  refine ⟨_, rfl, hS26, ?_⟩
  have b_x39 : Sz (shl a ((-((i : Nat) : Int)) - ((k : Nat) : Int))) 69 := Sz.shl b_a (by omega) (by decide)
  have h_x37__26 := Zn.below h_x37 hB26
  refine Pl.pA_call rfl rfl rfl rfl rfl en20 ?_
  refine Calls.mono (rzsame _ _ _ (shl (shl a (-((i : Nat) : Int))) (-((k : Nat) : Int))) (shl a ((-((i : Nat) : Int)) - ((k : Nat) : Int))) h_x37__26 h_x39 (Sz.le b_x37 (by decide)) (Sz.le b_x39 (by decide)) true (decide_eq_true (shl_both a i k))) ?_
  rintro e w27 ⟨rfl, hB27⟩
  have hS27 := Ext.below hS26 hB27
  refine ⟨_, rfl, hS27, ?_⟩
  refine Pl.qA_pick hS27 rfl rfl rfl rfl rfl rfl ?_
  refine Pl.qA_move hS27 rfl rfl rfl rfl rfl ?_
  refine Pl.qA_load hS27 rfl rfl rfl rfl rfl (fun X hX => Ib.load (Ib.ext i_5__18 hX)) ?_
  refine Pl.qA_load hS27 rfl rfl rfl rfl rfl (fun X hX => Ib.load (Ib.ext i_5__18 hX)) ?_
  have h_x4__27 := Zn.below h_x4__25 (Ext.below hB26 hB27)
  refine Pl.pA_call rfl rfl rfl rfl rfl en40 ?_
  refine Calls.mono (zshl _ _ a 0 h_x4__27 (Sz.le b_a (by decide)) (by omega) (by omega)) ?_
  rintro e w28 ⟨v_x42, rfl, h_x42, hB28⟩
  have hS28 := Ext.below hS27 hB28
  refine ⟨_, rfl, hS28, ?_⟩
  have b_x42 : Sz (shl a 0) 69 := Sz.shl b_a (by omega) (by decide)
  have h_x4__28 := Zn.below h_x4__27 hB28
  refine Pl.pA_call rfl rfl rfl rfl rfl en20 ?_
  refine Calls.mono (rzsame _ _ _ (shl a 0) a h_x42 h_x4__28 (Sz.le b_x42 (by decide)) (Sz.le b_a (by decide)) true (decide_eq_true (shl_nought a))) ?_
  rintro e w29 ⟨rfl, hB29⟩
  have hS29 := Ext.below hS28 hB29
  refine ⟨_, rfl, hS29, ?_⟩
  refine Pl.qA_pick hS29 rfl rfl rfl rfl rfl rfl ?_
  refine Pl.qA_assign hS29 rfl rfl rfl rfl rfl ?_
  refine Pl.pA_end ?_
  refine Pl.post_ret rfl rfl ?_
  exact ⟨rfl, (Ext.below hB1 (Ext.below hB2 (Ext.below hB3 (Ext.below hB4 (Ext.below hB5 (Ext.below hB6 (Ext.below hB7 (Ext.below hB8 (Ext.below hB9 (Ext.below hB10 (Ext.below hB11 (Ext.below hB12 (Ext.below hB13 (Ext.below hB14 (Ext.below hB15 (Ext.below hB16 (Ext.below hB17 (Ext.below hB18 (Ext.below hB19 (Ext.below hB20 (Ext.below hB21 (Ext.below hB22 (Ext.below hB23 (Ext.below hB24 (Ext.below hB25 (Ext.below hB26 (Ext.below hB27 (Ext.below hB28 hB29))))))))))))))))))))))))))))⟩
end Go.Proofs.YtfkcdmbiihkiiaaGreatDoor
/- Proved: what the statement IntegerShifts does: a shift is a product, or a quotient, by a power of 2; shifts are added, where the first one loses nothing: it tells true. No condition. -/
namespace Go.Proofs.YtfkcdmbiihkiiaaGreatDoor
open Go.ChangeShapes Go.WideShapes Go.ChangeAt Go.RowKit
set_option linter.unusedVariables false
set_option maxHeartbeats 2000000

set_option maxRecDepth 100000 in
theorem lifted_IntegerShifts (os : Os) (started : os.Started) (H : Type) (enc : TypeId × Value → H) :
    ReturnsInHanded {} Tryz.checked os 8 .any (fun w args => (Rows.integerShiftsSpec.pre enc Tryz.prog Tryz.f8 [] false w args ∧ laidMetH Tryz.prog laidV w) ∧ sizedMet enc Tryz.prog Tryz.f8 (OpenSpec.ofChange Rows.integerShiftsSpec) false w args)
      (Rows.integerShiftsSpec.post enc Tryz.prog Tryz.f8 false true false false) := by
  refine returnsInHanded_of_change_and (C := Tryz.checked) (X := fun w _ => laidMetH Tryz.prog laidV w) (fun _ _ _ hh h => h.of_heap hh) own started (by kernel_rfl) Tryz.func8
    (ChangeSpec.witness_shaped (enc := enc) (C := Tryz.checked) (os := os) (X := fun w _ => laidMetH Tryz.prog laidV w) false (World.laidAll Tryz.prog os laidV) #[.agg #[.bool false, .slice none 0 0], .int .u16 0, .int .u16 0] 8 (World.laidAll_os _ _ _) (World.shaped_of_ZipB (by kernel_rfl) (by kernel_rfl)) (by kernel_rfl) (by kernel_rfl) (by kernel_rfl) (laid_met os _)) ?_
  intro W base args ds gs before hval0 hW _ _ hL _
  have hval : ∀ (j : Nat) t v, Tryz.f8.params[j]? = some t → args[j]? = some v → Value.okWide Tryz.prog W .any base t v := hval0
  have hW' := hW
  obtain ⟨p, q, hA0, hV, rfl, hfz, hnd⟩ := hW
  have hlt : ∀ x ∈ p ++ q, x.block < W.heap.size := fun x hx => hW'.lt x hx
  have hA : DataW.TrodAll enc Tryz.prog W 0 (fun _ => true) true Tryz.f8.params.toList args.toList ds p := hA0
  rw [Tryz.params8] at hA hval
  clear hA0 hval0
  obtain ⟨v0, vs0, d0, ds0, p0, q0, hargs0, rfl, rfl, h0, r0⟩ := trodAll_cons hA
  obtain ⟨v1, vs1, d1, ds1, p1, q1, hargs1, rfl, rfl, h1, r1⟩ := trodAll_cons r0
  obtain ⟨v2, vs2, d2, ds2, p2, q2, hargs2, rfl, rfl, h2, r2⟩ := trodAll_cons r1
  obtain ⟨hn1, rfl, rfl⟩ := trodAll_nil r2
  subst hn1
  subst hargs2
  subst hargs1
  obtain rfl : args = #[v0, v1, v2] := by cases args; simp_all
  obtain ⟨rfl, rfl⟩ := trodVars_none hV
  obtain ⟨s0a, A0a, c0a, x0a, hv0, u0a⟩ := open_I1 (hval 0 24 v0 rfl rfl) h0
  subst hv0
  obtain ⟨z1, rfl, rfl, rfl, hz1⟩ := open_int Tryz.underlying49 (hval 1 49 v1 rfl rfl) h1
  have hb1 := bounds_u16 hz1
  obtain ⟨n1, rfl⟩ := Int.eq_ofNat_of_zero_le (show 0 ≤ z1 by omega)
  obtain ⟨z2, rfl, rfl, rfl, hz2⟩ := open_int Tryz.underlying49 (hval 2 49 v2 rfl rfl) h2
  have hb2 := bounds_u16 hz2
  obtain ⟨n2, rfl⟩ := Int.eq_ofNat_of_zero_le (show 0 ≤ z2 by omega)
  refine (IntegerShifts_walk W s0a A0a c0a x0a u0a n1 (by omega) n2 (by omega)).mono fun e W' ⟨he, hB⟩ => ?_
  subst he
  exact ⟨_, rfl, law_post hW' rfl (by rw [Tryz.params8]; decide +kernel) rfl rfl rfl rfl hB⟩

theorem integerShifts_said : Rows.IntegerShiftsSaid :=
  OpenClaim.holds_of_wide 8 Tryz.f8 rfl rfl rfl rfl rfl rfl rfl ⟨rfl, rfl, rfl, rfl, rfl⟩ rfl rfl rfl rfl rfl (by kernel_rfl) Tryz.func8 (by kernel_rfl)
    (of_decide_eq_true (by kernel_rfl)) (by unfold Func.isWrapper; first | (rw [if_pos (by decide +kernel)]; kernel_rfl) | (rw [if_neg (by decide +kernel)]; exact ⟨rfl, rfl⟩))
    (fun os started H enc _ => lifted_IntegerShifts os started H enc)
/-- The statement: the card, tied. -/
theorem integerShifts_holds : Rows.IntegerShiftsCardSaid :=
  Claim7.holds_tied_plain_at .later [] [.data, .wider, .pinned] true Rows.integerShiftsCard.stood.harness false
    integerShifts_said (fun _ h => by cases h) (by kernel_rfl) (fun _ h => by cases h) integerShifts_row_tie rfl ⟨rfl, rfl⟩ (by kernel_rfl) rfl
    (fun f fn hf hfn => by
      obtain rfl : f = 8 := Option.some.inj ((show Tryz.prog.funcNamed "ziggurat/zigguratlaw06.IntegerShifts" = some 8 by kernel_rfl).symm.trans hf) |>.symm
      obtain rfl : fn = Tryz.f8 := (Option.some.inj (Tryz.func8.symm.trans hfn)).symm
      exact ⟨by kernel_rfl, fun j t ht => by
        rw [Tryz.params8] at ht
        have hm : t ∈ [24, 49, 49] := by simpa using Array.mem_of_getElem? ht
        have hall : ([24, 49, 49].all fun u => !Tryz.prog.wantsStandIn u) = true := by kernel_rfl
        exact (show Tryz.prog.wantsStandIn t = false by simpa using List.all_eq_true.1 hall t hm)⟩)
    (by kernel_rfl)
end Go.Proofs.YtfkcdmbiihkiiaaGreatDoor
