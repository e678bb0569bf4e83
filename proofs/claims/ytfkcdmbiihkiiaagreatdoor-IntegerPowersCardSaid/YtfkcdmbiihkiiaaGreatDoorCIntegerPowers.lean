/- Proved: what the statement IntegerPowers does: powers are added, and multiplied, in their exponents; an even power has no sign, an odd one that of the number: it tells true. No condition. -/
import Derived.Test.YtfkcdmbiihkiiaaGreatDoorBbe
import Derived.Test.YtfkcdmbiihkiiaaGreatDoorBaj
import Derived.Test.YtfkcdmbiihkiiaaGreatDoorBaw
import Derived.Test.YtfkcdmbiihkiiaaGreatDoorBbk
import Derived.Test.YtfkcdmbiihkiiaaGreatDoorBbi
import Derived.Test.YtfkcdmbiihkiiaaGreatDoorBak
import Derived.Test.YtfkcdmbiihkiiaaGreatDoorBbd
import Derived.Test.YtfkcdmbiihkiiaaGreatDoorBbj
import Derived.Test.YtfkcdmbiihkiiaaGreatDoorBbf
import Derived.Test.YtfkcdmbiihkiiaaGreatDoorBbh
import Derived.Test.YtfkcdmbiihkiiaaGreatDoorBbm
import Derived.Test.YtfkcdmbiihkiiaaGreatDoorBbl
import Derived.Deep.RegionHeld3

namespace Go.Proofs.YtfkcdmbiihkiiaaGreatDoor
open Go.RowKit
set_option linter.unusedVariables false
set_option maxHeartbeats 400000

set_option maxRecDepth 100000 in
set_option maxHeartbeats 8000000 in
theorem zsub (w : World) (va vb : Value) (a b : Int) (ha : Zn w va a) (hb : Zn w vb b) (hl : (limbs a.natAbs).length ≤ 1000000) (hl2 : (limbs b.natAbs).length ≤ 1000000) (y : Int) (hy : a - b = y) :
    Calls Tryz.prog 31 #[va, vb] w fun e w' => ∃ u, e = .returned u ∧ Zn w' u y ∧ Ext w w' := by
  have hN := Lib.hid (fun W h => zneg W vb b h (-b) rfl)
  have hA := Lib.hid (fun W u h (g : Zn W u (-b)) => zadd W va u a (-b) h g hl (by rw [Int.natAbs_neg]; exact hl2) y (by rw [← Int.sub_eq_add_neg]; exact hy))
  have ha' := ha
  have hb' := hb
  obtain ⟨p, A, L, c, n, rfl, hu, hL, hz, -, hza, hzn⟩ := ha.open
  obtain ⟨q, B, K, d, m, rfl, hv, hK, hz2, -, hza2, hzn2⟩ := hb.open
  have hE0 := ((((Ext.refl w).alloc (.cells #[.bool p, .slice A L c] 24)).alloc (.cells #[.bool q, .slice B K d] 24)).alloc (.cells #[.bool false, .slice none 0 0] 24)).drew
  have hI0 := (Ib.new3 w (.cells #[.bool p, .slice A L c] 24) (.cells #[.bool q, .slice B K d] 24) false (.slice none 0 0) 24).ext (Ext.refl _).drew
  have hP0 := (Ib.new w p (.slice A L c) 24).ext ((((Ext.refl _).alloc (.cells #[.bool q, .slice B K d] 24)).alloc (.cells #[.bool false, .slice none 0 0] 24)).drew)
  have hQ0 := (Ib.new2 w (.cells #[.bool p, .slice A L c] 24) q (.slice B K d) 24).ext (((Ext.refl _).alloc (.cells #[.bool false, .slice none 0 0] 24)).drew)
  have hS0 : (w.heap.size + 1 + 1 < (((w.alloc (.cells #[.bool p, .slice A L c] 24)).alloc (.cells #[.bool q, .slice B K d] 24)).alloc (.cells #[.bool false, .slice none 0 0] 24)).drew.heap.size ∧ (((w.alloc (.cells #[.bool p, .slice A L c] 24)).alloc (.cells #[.bool q, .slice B K d] 24)).alloc (.cells #[.bool false, .slice none 0 0] 24)).drew.cell? ⟨w.heap.size, 0, none⟩ = some (.bool p) ∧ (((w.alloc (.cells #[.bool p, .slice A L c] 24)).alloc (.cells #[.bool q, .slice B K d] 24)).alloc (.cells #[.bool false, .slice none 0 0] 24)).drew.cell? ⟨w.heap.size, 1, none⟩ = some (.slice A L c) ∧ (((w.alloc (.cells #[.bool p, .slice A L c] 24)).alloc (.cells #[.bool q, .slice B K d] 24)).alloc (.cells #[.bool false, .slice none 0 0] 24)).drew.cell? ⟨w.heap.size + 1, 0, none⟩ = some (.bool q) ∧ (((w.alloc (.cells #[.bool p, .slice A L c] 24)).alloc (.cells #[.bool q, .slice B K d] 24)).alloc (.cells #[.bool false, .slice none 0 0] 24)).drew.cell? ⟨w.heap.size + 1, 1, none⟩ = some (.slice B K d)) ∧ Ext w (((w.alloc (.cells #[.bool p, .slice A L c] 24)).alloc (.cells #[.bool q, .slice B K d] 24)).alloc (.cells #[.bool false, .slice none 0 0] 24)).drew := ⟨⟨by simp, hP0.2.1, hP0.2.2.1, hQ0.2.1, hQ0.2.2.1⟩, hE0⟩
  have ha0 := ha'.below hE0
  have hb0 := hb'.below hE0
  clear hl hl2 hza hzn hza2 hzn2 hz hz2 hL hK ha hb hy hP0 hQ0 ha' hb'
  go_enter Tryz.func31, Tryz.ntmps31
  go_wp2
  go_region_held3 (fun X => (w.heap.size + 1 + 1 < X.heap.size ∧ X.cell? ⟨w.heap.size, 0, none⟩ = some (.bool p) ∧ X.cell? ⟨w.heap.size, 1, none⟩ = some (.slice A L c) ∧ X.cell? ⟨w.heap.size + 1, 0, none⟩ = some (.bool q) ∧ X.cell? ⟨w.heap.size + 1, 1, none⟩ = some (.slice B K d)) ∧ Ext w X)
    (first
      | exact hS0
      | exact keepI2 (by assumption) (by assumption)
      | exact keepS2 (by assumption))
    (first
      | (go_at_call 27; ((with_reducible refine (hN.out _ hb0).mono ?_); rintro e w2 ⟨u, rfl, hz2, hE2⟩; obtain ⟨b2, A2, L2, c2, rfl⟩ := hz2.sh))
      | (go_at_call 29; ((with_reducible refine (hA.out _ _ (ha0.below hE2) hz2).mono ?_); rintro e w3 ⟨u, rfl, hz3, hE3⟩; obtain ⟨b3, A3, L3, c3, rfl⟩ := hz3.sh; have hI3 := (hI0.ext hE2).ext hE3; obtain ⟨i0, i1, i2, i3, i4⟩ := id hI3)))
  clear hN hA
  clear hI3
  go_wp2
  (try simp only [Exit.inBlock, Exit.then])
  refine bodyPost_ret (v := .agg #[.bool b3, .slice A3 L3 c3]) (show (results _ _).run _ _ = _ from ?_) rfl ⟨_, rfl, hz3.put2 ((hI0.ext hE2).ext hE3) (slice_no_int _ _ _) _ _, ((hE0.below hE2).below hE3).put2 (by omega) _ _⟩
  simp only [results]
  go_simp
end Go.Proofs.YtfkcdmbiihkiiaaGreatDoor
/- Proved: what the statement IntegerPowers does: powers are added, and multiplied, in their exponents; an even power has no sign, an odd one that of the number: it tells true. No condition. -/
namespace Go.Proofs.YtfkcdmbiihkiiaaGreatDoor
open Go.RowKit
set_option linter.unusedVariables false
set_option linter.unusedSimpArgs false
set_option maxHeartbeats 400000

namespace Pows6
theorem en12 (u : Array Value) (X : World) : (callFunc 12 u).run Tryz.prog X = .ok (.enter 12 u) X := Pl.enters Tryz.func12 (by kernel_rfl) rfl u X
theorem en20 (u : Array Value) (X : World) : (callFunc 20 u).run Tryz.prog X = .ok (.enter 20 u) X := Pl.enters Tryz.func20 (by kernel_rfl) rfl u X
theorem en25 (u : Array Value) (X : World) : (callFunc 25 u).run Tryz.prog X = .ok (.enter 25 u) X := Pl.enters Tryz.func25 (by kernel_rfl) rfl u X
theorem en33 (u : Array Value) (X : World) : (callFunc 33 u).run Tryz.prog X = .ok (.enter 33 u) X := Pl.enters Tryz.func33 (by kernel_rfl) rfl u X
theorem en35 (u : Array Value) (X : World) : (callFunc 35 u).run Tryz.prog X = .ok (.enter 35 u) X := Pl.enters Tryz.func35 (by kernel_rfl) rfl u X
theorem en38 (u : Array Value) (X : World) : (callFunc 38 u).run Tryz.prog X = .ok (.enter 38 u) X := Pl.enters Tryz.func38 (by kernel_rfl) rfl u X
end Pows6
open Pows6
set_option maxRecDepth 100000 in
set_option maxHeartbeats 4000000 in
theorem IntegerPowers_walkO (w : World) (sa : Bool) (Aa : Option Addr) (ca : Nat) (xsa : List Nat) (ua : U w (.slice Aa xsa.length ca) xsa) (k1 : Nat) (hk1 : k1 < 256) (k2 : Nat) (hk2 : k2 < 256) (ho : k1 % 14 % 2 = 1) :
    Calls Tryz.prog 9 #[.agg #[.bool sa, .slice Aa xsa.length ca], .int .u8 (k1 : Nat), .int .u8 (k2 : Nat)] w fun e w' => e = .returned (.bool true) ∧ Ext w w' := by
  have r_a : Ri w (.agg #[.bool sa, .slice Aa xsa.length ca]) sa xsa := ⟨_, _, rfl, ua⟩
  obtain ⟨a, e_a⟩ : ∃ z, sg sa (cutN xsa 3) = z := ⟨_, rfl⟩
  have b_a : Sz a 3 := by rw [← e_a]; exact Sz.cut ua sa 3 3 (Nat.le_refl _)
  obtain ⟨i, hi⟩ : ∃ i, k1 % 14 = i := ⟨_, rfl⟩
  obtain ⟨k, hk⟩ : ∃ k, k2 % 14 = k := ⟨_, rfl⟩
  obtain ⟨j, hj⟩ : ∃ j, k % 4 = j := ⟨_, rfl⟩
  have hi9 : i < 14 := hi ▸ Nat.mod_lt _ (by decide)
  have hk9 : k < 14 := hk ▸ Nat.mod_lt _ (by decide)
  have hj9 : j < 4 := hj ▸ Nat.mod_lt _ (by decide)
  have hij : i * j ≤ 39 := Nat.mul_le_mul (show i ≤ 13 by omega) (show j ≤ 3 by omega)
  rw [hi] at ho
  refine Pl.calls_by (n := 72) (vs := [.agg #[.bool sa, .slice Aa xsa.length ca], .int .u8 (k1 : Nat), .int .u8 (k2 : Nat)]) Tryz.func9 rfl (by kernel_rfl) (by simp) ?_
  refine Pl.V_seq ?_
  refine Pl.V_region (by kernel_rfl) ?_
  refine boxS rfl rfl rfl rfl rfl (fun _ _ => trivial) ?_
  intro N1 w1 hB1 i_1
  refine Pl.qA_assign trivial rfl rfl rfl rfl rfl ?_
  refine Pl.pA_end ?_
  refine Pl.V_seq ?_
  refine Pl.V_region (by kernel_rfl) ?_
  refine Pl.pA_call rfl rfl rfl rfl rfl en12 ?_
  refine Calls.mono (zhead _) ?_
  rintro e w2 ⟨rfl, hB2⟩
  refine ⟨_, rfl, trivial, ?_⟩
  refine Pl.qA_assign trivial rfl rfl rfl rfl rfl ?_
  refine Pl.pA_end ?_
  refine Pl.V_seq ?_
  refine Pl.V_region (by kernel_rfl) ?_
  have i_1__2 := Ib.ext i_1 hB2
  refine Pl.qA_loadw trivial rfl rfl rfl rfl rfl (Ib.load i_1__2) ?_
  have r_a__2 := Ri.below r_a (Ext.below hB1 hB2)
  refine Pl.pA_call rfl rfl rfl rfl rfl en35 ?_
  refine Calls.mono (rmade_B _ _ sa xsa r_a__2 3 _ rfl (by decide) a e_a) ?_
  rintro e w3 ⟨v_x4, rfl, h_x4, hB3⟩
  refine ⟨_, rfl, trivial, ?_⟩
  obtain ⟨p_x4, A_x4, L_x4, c_x4, rfl⟩ := Zn.sh h_x4
  refine boxI rfl rfl rfl rfl rfl rfl rfl rfl (fun _ => rfl) (fun _ _ => trivial) ?_
  intro N5 w4 hB4 i_5
  refine Pl.pA_end ?_
  refine Pl.V_seq ?_
  refine Pl.V_region (by kernel_rfl) ?_
  refine Pl.qA_move trivial rfl rfl rfl rfl rfl ?_
  refine Pl.qA_bin (v := (.int .u8 ((i : Nat) : Int))) trivial rfl rfl rfl rfl rfl rfl (fun X => b_rem8 (b := 14) rfl hi (by decide) hk1 (by decide) X) ?_
  refine qA_conv (v := (.int .i64 ((i : Nat) : Int))) trivial rfl rfl rfl rfl rfl (fun X => cv_u8 (by omega) X) ?_
  refine Pl.qA_assign trivial rfl rfl rfl rfl rfl ?_
  refine Pl.pA_end ?_
  refine Pl.V_seq ?_
  refine Pl.V_region (by kernel_rfl) ?_
  refine Pl.qA_move trivial rfl rfl rfl rfl rfl ?_
  refine Pl.qA_bin (v := (.int .u8 ((k : Nat) : Int))) trivial rfl rfl rfl rfl rfl rfl (fun X => b_rem8 (b := 14) rfl hk (by decide) hk2 (by decide) X) ?_
  refine qA_conv (v := (.int .i64 ((k : Nat) : Int))) trivial rfl rfl rfl rfl rfl (fun X => cv_u8 (by omega) X) ?_
  refine Pl.qA_assign trivial rfl rfl rfl rfl rfl ?_
  refine Pl.pA_end ?_
  refine Pl.V_seq ?_
  refine Pl.V_region (by kernel_rfl) ?_
  refine Pl.qA_loadw trivial rfl rfl rfl rfl rfl (Ib.load i_5) ?_
  refine Pl.qA_move trivial rfl rfl rfl rfl rfl ?_
  have h_x4__4 := Zn.below h_x4 hB4
  refine Pl.pA_call rfl rfl rfl rfl rfl en38 ?_
  refine Calls.mono (zpow _ _ a (i) h_x4__4 (Sz.le b_a (by decide)) (powN_len b_a (by omega) (by decide)) (by omega) _ rfl) ?_
  rintro e w5 ⟨v_x7, rfl, h_x7, hB5⟩
  refine ⟨_, rfl, trivial, ?_⟩
  have b_x7 : Sz (a ^ (i)) 39 := Sz.pow b_a (by omega) (by decide)
  obtain ⟨p_x7, A_x7, L_x7, c_x7, rfl⟩ := Zn.sh h_x7
  refine boxI rfl rfl rfl rfl rfl rfl rfl rfl (fun _ => rfl) (fun _ _ => trivial) ?_
  intro N8 w6 hB6 i_8
  refine Pl.pA_end ?_
  refine Pl.V_seq ?_
  refine Pl.V_region (by kernel_rfl) ?_
  refine Pl.qA_assign trivial rfl rfl rfl rfl rfl ?_
  refine Pl.pA_end ?_
  refine Pl.V_seq ?_
  refine Pl.V_seq ?_
  refine Pl.V_region (by kernel_rfl) ?_
  refine Pl.qA_move trivial rfl rfl rfl rfl rfl ?_
  refine Pl.qA_bin (v := (.int .i64 ((i % 2 : Nat) : Int))) trivial rfl rfl rfl rfl rfl rfl (fun X => b_rem (b := 2) rfl rfl (by decide) (by omega) (by decide) X) ?_
  refine Pl.qA_bin (v := (.bool true)) trivial rfl rfl rfl rfl rfl rfl (fun X => b_eql (beq_iff_eq.2 (by omega)) X) ?_
  refine Pl.qA_move trivial rfl rfl rfl rfl rfl ?_
  refine Pl.pA_skip rfl rfl rfl ?_
  refine Pl.pA_skip rfl rfl rfl ?_
  refine Pl.pA_skip rfl rfl rfl ?_
  refine Pl.pA_skip rfl rfl rfl ?_
  refine Pl.pA_skip rfl rfl rfl ?_
  refine Pl.pA_skip rfl rfl rfl ?_
  refine Pl.pA_skip rfl rfl rfl ?_
  refine Pl.qA_pick trivial rfl rfl rfl rfl rfl rfl ?_
  refine Pl.pA_end ?_
  refine Pl.V_true rfl ?_
  refine Pl.V_region (by kernel_rfl) ?_
  have i_5__6 := Ib.ext i_5 (Ext.below hB5 hB6)
  refine Pl.qA_loadw trivial rfl rfl rfl rfl rfl (Ib.load i_5__6) ?_
  have h_x4__6 := Zn.below h_x4__4 (Ext.below hB5 hB6)
  refine Pl.pA_call rfl rfl rfl rfl rfl en25 ?_
  refine Calls.mono (zsign _ _ a h_x4__6 (Int.sign a) rfl) ?_
  rintro e w7 ⟨rfl, hB7⟩
  refine ⟨_, rfl, trivial, ?_⟩
  refine Pl.qA_assign trivial rfl rfl rfl rfl rfl ?_
  refine Pl.pA_end ?_
  refine Pl.V_seq ?_
  refine Pl.V_draw (S := fun X => Ext w7 X) [(true, 0, 0), (true, 1, 1), (true, 2, 3), (true, 3, 7), (true, 4, 15), (true, 7, 31), (true, 8, 159), (true, 9, 415), (true, 10, 927), (false, 5, 1951), (false, 6, 1983), (false, 11, 2047), (false, 12, 4095), (true, 13, 8191), (true, 14, 16383), (true, 15, 32767), (true, 16, 65535), (true, 17, 131071), (true, 19, 262143), (true, 20, 786431), (true, 21, 1835007), (true, 22, 3932159), (true, 23, 8126463), (false, 18, 16515071), (false, 24, 16777215), (false, 25, 33554431), (true, 26, 67108863), (true, 27, 134217727), (true, 28, 268435455), (true, 30, 536870911), (false, 29, 1610612735), (true, 31, 2147483647), (true, 32, 4294967295), (true, 33, 8589934591)] fo Pl.post_panic (by kernel_rfl) (Ext.drew (Ext.refl _)) ?_
  generalize w7.drew = w8
  intro hB8
  have hS8 := hB8
  refine Pl.qA_move hS8 rfl rfl rfl rfl rfl ?_
  refine Pl.qA_move hS8 rfl rfl rfl rfl rfl ?_
  have i_8__7 := Ib.ext i_8 hB7
  refine Pl.qA_load hS8 rfl rfl rfl rfl rfl (fun X hX => Ib.load (Ib.ext i_8__7 hX)) ?_
  have i_5__7 := Ib.ext i_5__6 hB7
  refine Pl.qA_load hS8 rfl rfl rfl rfl rfl (fun X hX => Ib.load (Ib.ext i_5__7 hX)) ?_
  refine Pl.qA_move hS8 rfl rfl rfl rfl rfl ?_
  refine Pl.qA_load hS8 rfl rfl rfl rfl rfl (fun X hX => Ib.load (Ib.ext i_5__7 hX)) ?_
  refine Pl.qA_move hS8 rfl rfl rfl rfl rfl ?_
  refine Pl.qA_move hS8 rfl rfl rfl rfl rfl ?_
  refine Pl.qA_bin (v := (.int .i64 ((i + k : Nat) : Int))) hS8 rfl rfl rfl rfl rfl rfl (fun X => b_add (by omega) (by omega) (by omega) X) ?_
  have h_x4__8 := Zn.below h_x4__6 (Ext.below hB7 hB8)
  refine Pl.pA_call rfl rfl rfl rfl rfl en38 ?_
  refine Calls.mono (zpow _ _ a (k) h_x4__8 (Sz.le b_a (by decide)) (powN_len b_a (by omega) (by decide)) (by omega) _ rfl) ?_
  rintro e w9 ⟨v_x12, rfl, h_x12, hB9⟩
  have hS9 := Ext.below hS8 hB9
  refine ⟨_, rfl, hS9, ?_⟩
  have b_x12 : Sz (a ^ (k)) 39 := Sz.pow b_a (by omega) (by decide)
  have h_x7__9 := Zn.below h_x7 (Ext.below hB6 (Ext.below hB7 (Ext.below hB8 hB9)))
  refine Pl.pA_call rfl rfl rfl rfl rfl en33 ?_
  refine Calls.mono (zmul _ _ _ (a ^ (i)) (a ^ (k)) h_x7__9 h_x12 (Sz.le b_x7 (by decide)) (Sz.le b_x12 (by decide)) _ rfl) ?_
  rintro e w10 ⟨v_x14, rfl, h_x14, hB10⟩
  have hS10 := Ext.below hS9 hB10
  refine ⟨_, rfl, hS10, ?_⟩
  have b_x14 : Sz ((a ^ (i)) * (a ^ (k))) 78 := Sz.mul b_x7 b_x12 (by decide)
  have h_x4__10 := Zn.below h_x4__8 (Ext.below hB9 hB10)
  refine Pl.pA_call rfl rfl rfl rfl rfl en38 ?_
  refine Calls.mono (zpow _ _ a (i + k) h_x4__10 (Sz.le b_a (by decide)) (powN_len b_a (by omega) (by decide)) (by omega) _ rfl) ?_
  rintro e w11 ⟨v_x16, rfl, h_x16, hB11⟩
  have hS11 := Ext.below hS10 hB11
  refine ⟨_, rfl, hS11, ?_⟩
  have b_x16 : Sz (a ^ (i + k)) 78 := Sz.pow b_a (by omega) (by decide)
  have h_x14__11 := Zn.below h_x14 hB11
  refine Pl.pA_call rfl rfl rfl rfl rfl en20 ?_
  refine Calls.mono (rzsame _ _ _ ((a ^ (i)) * (a ^ (k))) (a ^ (i + k)) h_x14__11 h_x16 (Sz.le b_x14 (by decide)) (Sz.le b_x16 (by decide)) true (decide_eq_true (Int.pow_add a i k).symm)) ?_
  rintro e w12 ⟨rfl, hB12⟩
  have hS12 := Ext.below hS11 hB12
  refine ⟨_, rfl, hS12, ?_⟩
  refine Pl.qA_pick hS12 rfl rfl rfl rfl rfl rfl ?_
  refine Pl.qA_move hS12 rfl rfl rfl rfl rfl ?_
  refine Pl.qA_load hS12 rfl rfl rfl rfl rfl (fun X hX => Ib.load (Ib.ext i_8__7 hX)) ?_
  refine Pl.qA_move hS12 rfl rfl rfl rfl rfl ?_
  refine Pl.qA_bin (v := (.int .i64 ((j : Nat) : Int))) hS12 rfl rfl rfl rfl rfl rfl (fun X => b_rem (b := 4) rfl hj (by decide) (by omega) (by decide) X) ?_
  refine Pl.qA_load hS12 rfl rfl rfl rfl rfl (fun X hX => Ib.load (Ib.ext i_5__7 hX)) ?_
  refine Pl.qA_move hS12 rfl rfl rfl rfl rfl ?_
  refine Pl.qA_move hS12 rfl rfl rfl rfl rfl ?_
  refine Pl.qA_bin (v := (.int .i64 ((j : Nat) : Int))) hS12 rfl rfl rfl rfl rfl rfl (fun X => b_rem (b := 4) rfl hj (by decide) (by omega) (by decide) X) ?_
  refine Pl.qA_bin (v := (.int .i64 ((i * j : Nat) : Int))) hS12 rfl rfl rfl rfl rfl rfl (fun X => b_mul (Int.natCast_mul i j).symm (by omega) (by omega) X) ?_
  have h_x7__12 := Zn.below h_x7__9 (Ext.below hB10 (Ext.below hB11 hB12))
  refine Pl.pA_call rfl rfl rfl rfl rfl en38 ?_
  refine Calls.mono (zpow _ _ (a ^ (i)) (j) h_x7__12 (Sz.le b_x7 (by decide)) (powN_len b_x7 (by omega) (by decide)) (by omega) _ rfl) ?_
  rintro e w13 ⟨v_x19, rfl, h_x19, hB13⟩
  have hS13 := Ext.below hS12 hB13
  refine ⟨_, rfl, hS13, ?_⟩
  have b_x19 : Sz ((a ^ (i)) ^ (j)) 117 := Sz.pow b_x7 (by omega) (by decide)
  have h_x4__13 := Zn.below h_x4__10 (Ext.below hB11 (Ext.below hB12 hB13))
  refine Pl.pA_call rfl rfl rfl rfl rfl en38 ?_
  refine Calls.mono (zpow _ _ a (i * j) h_x4__13 (Sz.le b_a (by decide)) (powN_len b_a (by omega) (by decide)) (by omega) _ rfl) ?_
  rintro e w14 ⟨v_x21, rfl, h_x21, hB14⟩
  have hS14 := Ext.below hS13 hB14
  refine ⟨_, rfl, hS14, ?_⟩
  have b_x21 : Sz (a ^ (i * j)) 117 := Sz.pow b_a (by omega) (by decide)
  have h_x19__14 := Zn.below h_x19 hB14
  refine Pl.pA_call rfl rfl rfl rfl rfl en20 ?_
  refine Calls.mono (rzsame _ _ _ ((a ^ (i)) ^ (j)) (a ^ (i * j)) h_x19__14 h_x21 (Sz.le b_x19 (by decide)) (Sz.le b_x21 (by decide)) true (decide_eq_true Int.pow_mul.symm)) ?_
  rintro e w15 ⟨rfl, hB15⟩
  have hS15 := Ext.below hS14 hB15
  refine ⟨_, rfl, hS15, ?_⟩
  refine Pl.qA_pick hS15 rfl rfl rfl rfl rfl rfl ?_
  refine Pl.qA_move hS15 rfl rfl rfl rfl rfl ?_
  refine Pl.qA_load hS15 rfl rfl rfl rfl rfl (fun X hX => Ib.load (Ib.ext i_8__7 hX)) ?_
  refine Pl.qA_move hS15 rfl rfl rfl rfl rfl ?_
  have h_x7__15 := Zn.below h_x7__12 (Ext.below hB13 (Ext.below hB14 hB15))
  refine Pl.pA_call rfl rfl rfl rfl rfl en25 ?_
  refine Calls.mono (zsign _ _ (a ^ (i)) h_x7__15 (Int.sign (a ^ (i))) rfl) ?_
  rintro e w16 ⟨rfl, hB16⟩
  have hS16 := Ext.below hS15 hB16
  refine ⟨_, rfl, hS16, ?_⟩
  refine Pl.qA_bin (v := (.bool true)) hS16 rfl rfl rfl rfl rfl rfl (fun X => b_eql (beq_iff_eq.2 (sign_pow_odd a ho)) X) ?_
  refine Pl.qA_pick hS16 rfl rfl rfl rfl rfl rfl ?_
  refine Pl.qA_assign hS16 rfl rfl rfl rfl rfl ?_
  refine Pl.pA_end ?_
  refine Pl.post_ret rfl rfl ?_
  exact ⟨rfl, (Ext.below hB1 (Ext.below hB2 (Ext.below hB3 (Ext.below hB4 (Ext.below hB5 (Ext.below hB6 (Ext.below hB7 (Ext.below hB8 (Ext.below hB9 (Ext.below hB10 (Ext.below hB11 (Ext.below hB12 (Ext.below hB13 (Ext.below hB14 (Ext.below hB15 hB16)))))))))))))))⟩
set_option maxRecDepth 100000 in
set_option maxHeartbeats 4000000 in
theorem IntegerPowers_walkE0 (w : World) (sa : Bool) (Aa : Option Addr) (ca : Nat) (xsa : List Nat) (ua : U w (.slice Aa xsa.length ca) xsa) (k1 : Nat) (hk1 : k1 < 256) (k2 : Nat) (hk2 : k2 < 256) (ho : ¬ k1 % 14 % 2 = 1) (h0 : sg sa (cutN xsa 3) = 0) (hi0 : ¬ k1 % 14 = 0) :
    Calls Tryz.prog 9 #[.agg #[.bool sa, .slice Aa xsa.length ca], .int .u8 (k1 : Nat), .int .u8 (k2 : Nat)] w fun e w' => e = .returned (.bool true) ∧ Ext w w' := by
  have r_a : Ri w (.agg #[.bool sa, .slice Aa xsa.length ca]) sa xsa := ⟨_, _, rfl, ua⟩
  obtain ⟨a, e_a⟩ : ∃ z, sg sa (cutN xsa 3) = z := ⟨_, rfl⟩
  have b_a : Sz a 3 := by rw [← e_a]; exact Sz.cut ua sa 3 3 (Nat.le_refl _)
  obtain ⟨i, hi⟩ : ∃ i, k1 % 14 = i := ⟨_, rfl⟩
  obtain ⟨k, hk⟩ : ∃ k, k2 % 14 = k := ⟨_, rfl⟩
  obtain ⟨j, hj⟩ : ∃ j, k % 4 = j := ⟨_, rfl⟩
  have hi9 : i < 14 := hi ▸ Nat.mod_lt _ (by decide)
  have hk9 : k < 14 := hk ▸ Nat.mod_lt _ (by decide)
  have hj9 : j < 4 := hj ▸ Nat.mod_lt _ (by decide)
  have hij : i * j ≤ 39 := Nat.mul_le_mul (show i ≤ 13 by omega) (show j ≤ 3 by omega)
  rw [hi] at ho hi0
  rw [e_a] at h0
  refine Pl.calls_by (n := 72) (vs := [.agg #[.bool sa, .slice Aa xsa.length ca], .int .u8 (k1 : Nat), .int .u8 (k2 : Nat)]) Tryz.func9 rfl (by kernel_rfl) (by simp) ?_
  refine Pl.V_seq ?_
  refine Pl.V_region (by kernel_rfl) ?_
  refine boxS rfl rfl rfl rfl rfl (fun _ _ => trivial) ?_
  intro N1 w1 hB1 i_1
  refine Pl.qA_assign trivial rfl rfl rfl rfl rfl ?_
  refine Pl.pA_end ?_
  refine Pl.V_seq ?_
  refine Pl.V_region (by kernel_rfl) ?_
  refine Pl.pA_call rfl rfl rfl rfl rfl en12 ?_
  refine Calls.mono (zhead _) ?_
  rintro e w2 ⟨rfl, hB2⟩
  refine ⟨_, rfl, trivial, ?_⟩
  refine Pl.qA_assign trivial rfl rfl rfl rfl rfl ?_
  refine Pl.pA_end ?_
  refine Pl.V_seq ?_
  refine Pl.V_region (by kernel_rfl) ?_
  have i_1__2 := Ib.ext i_1 hB2
  refine Pl.qA_loadw trivial rfl rfl rfl rfl rfl (Ib.load i_1__2) ?_
  have r_a__2 := Ri.below r_a (Ext.below hB1 hB2)
  refine Pl.pA_call rfl rfl rfl rfl rfl en35 ?_
  refine Calls.mono (rmade_B _ _ sa xsa r_a__2 3 _ rfl (by decide) a e_a) ?_
  rintro e w3 ⟨v_x4, rfl, h_x4, hB3⟩
  refine ⟨_, rfl, trivial, ?_⟩
  obtain ⟨p_x4, A_x4, L_x4, c_x4, rfl⟩ := Zn.sh h_x4
  refine boxI rfl rfl rfl rfl rfl rfl rfl rfl (fun _ => rfl) (fun _ _ => trivial) ?_
  intro N5 w4 hB4 i_5
  refine Pl.pA_end ?_
  refine Pl.V_seq ?_
  refine Pl.V_region (by kernel_rfl) ?_
  refine Pl.qA_move trivial rfl rfl rfl rfl rfl ?_
  refine Pl.qA_bin (v := (.int .u8 ((i : Nat) : Int))) trivial rfl rfl rfl rfl rfl rfl (fun X => b_rem8 (b := 14) rfl hi (by decide) hk1 (by decide) X) ?_
  refine qA_conv (v := (.int .i64 ((i : Nat) : Int))) trivial rfl rfl rfl rfl rfl (fun X => cv_u8 (by omega) X) ?_
  refine Pl.qA_assign trivial rfl rfl rfl rfl rfl ?_
  refine Pl.pA_end ?_
  refine Pl.V_seq ?_
  refine Pl.V_region (by kernel_rfl) ?_
  refine Pl.qA_move trivial rfl rfl rfl rfl rfl ?_
  refine Pl.qA_bin (v := (.int .u8 ((k : Nat) : Int))) trivial rfl rfl rfl rfl rfl rfl (fun X => b_rem8 (b := 14) rfl hk (by decide) hk2 (by decide) X) ?_
  refine qA_conv (v := (.int .i64 ((k : Nat) : Int))) trivial rfl rfl rfl rfl rfl (fun X => cv_u8 (by omega) X) ?_
  refine Pl.qA_assign trivial rfl rfl rfl rfl rfl ?_
  refine Pl.pA_end ?_
  refine Pl.V_seq ?_
  refine Pl.V_region (by kernel_rfl) ?_
  refine Pl.qA_loadw trivial rfl rfl rfl rfl rfl (Ib.load i_5) ?_
  refine Pl.qA_move trivial rfl rfl rfl rfl rfl ?_
  have h_x4__4 := Zn.below h_x4 hB4
  refine Pl.pA_call rfl rfl rfl rfl rfl en38 ?_
  refine Calls.mono (zpow _ _ a (i) h_x4__4 (Sz.le b_a (by decide)) (powN_len b_a (by omega) (by decide)) (by omega) _ rfl) ?_
  rintro e w5 ⟨v_x7, rfl, h_x7, hB5⟩
  refine ⟨_, rfl, trivial, ?_⟩
  have b_x7 : Sz (a ^ (i)) 39 := Sz.pow b_a (by omega) (by decide)
  obtain ⟨p_x7, A_x7, L_x7, c_x7, rfl⟩ := Zn.sh h_x7
  refine boxI rfl rfl rfl rfl rfl rfl rfl rfl (fun _ => rfl) (fun _ _ => trivial) ?_
  intro N8 w6 hB6 i_8
  refine Pl.pA_end ?_
  refine Pl.V_seq ?_
  refine Pl.V_region (by kernel_rfl) ?_
  refine Pl.qA_assign trivial rfl rfl rfl rfl rfl ?_
  refine Pl.pA_end ?_
  refine Pl.V_seq ?_
  refine Pl.V_seq ?_
  refine Pl.V_region (by kernel_rfl) ?_
  refine Pl.qA_move trivial rfl rfl rfl rfl rfl ?_
  refine Pl.qA_bin (v := (.int .i64 ((i % 2 : Nat) : Int))) trivial rfl rfl rfl rfl rfl rfl (fun X => b_rem (b := 2) rfl rfl (by decide) (by omega) (by decide) X) ?_
  refine Pl.qA_bin (v := (.bool false)) trivial rfl rfl rfl rfl rfl rfl (fun X => b_eql (beq_eq_false_iff_ne.2 (by omega)) X) ?_
  refine Pl.qA_move trivial rfl rfl rfl rfl rfl ?_
  have i_5__6 := Ib.ext i_5 (Ext.below hB5 hB6)
  refine Pl.qA_loadw trivial rfl rfl rfl rfl rfl (Ib.load i_5__6) ?_
  have h_x4__6 := Zn.below h_x4__4 (Ext.below hB5 hB6)
  refine Pl.pA_call rfl rfl rfl rfl rfl en25 ?_
  refine Calls.mono (zsign _ _ a h_x4__6 (Int.sign a) rfl) ?_
  rintro e w7 ⟨rfl, hB7⟩
  refine ⟨_, rfl, trivial, ?_⟩
  refine Pl.qA_bin (v := (.bool true)) trivial rfl rfl rfl rfl rfl rfl (fun X => b_eql (beq_iff_eq.2 (Int.sign_eq_zero_iff_zero.2 h0)) X) ?_
  refine Pl.qA_move trivial rfl rfl rfl rfl rfl ?_
  refine Pl.qA_move trivial rfl rfl rfl rfl rfl ?_
  refine Pl.qA_bin (v := (.bool true)) trivial rfl rfl rfl rfl rfl rfl (fun X => b_gtr (decide_eq_true (by omega)) X) ?_
  refine Pl.qA_pick trivial rfl rfl rfl rfl rfl rfl ?_
  refine Pl.qA_pick trivial rfl rfl rfl rfl rfl rfl ?_
  refine Pl.pA_end ?_
  refine Pl.V_true rfl ?_
  refine Pl.V_region (by kernel_rfl) ?_
  have i_5__7 := Ib.ext i_5__6 hB7
  refine Pl.qA_loadw trivial rfl rfl rfl rfl rfl (Ib.load i_5__7) ?_
  have h_x4__7 := Zn.below h_x4__6 hB7
  refine Pl.pA_call rfl rfl rfl rfl rfl en25 ?_
  refine Calls.mono (zsign _ _ a h_x4__7 (Int.sign a) rfl) ?_
  rintro e w8 ⟨rfl, hB8⟩
  refine ⟨_, rfl, trivial, ?_⟩
  refine Pl.qA_assign trivial rfl rfl rfl rfl rfl ?_
  refine Pl.pA_end ?_
  refine Pl.V_seq ?_
  refine Pl.V_draw (S := fun X => Ext w8 X) [(true, 0, 0), (true, 1, 1), (true, 2, 3), (true, 3, 7), (true, 4, 15), (true, 7, 31), (true, 8, 159), (true, 9, 415), (true, 10, 927), (false, 5, 1951), (false, 6, 1983), (false, 11, 2047), (false, 12, 4095), (true, 13, 8191), (true, 14, 16383), (true, 15, 32767), (true, 16, 65535), (true, 17, 131071), (true, 19, 262143), (true, 20, 786431), (true, 21, 1835007), (true, 22, 3932159), (true, 23, 8126463), (false, 18, 16515071), (false, 24, 16777215), (false, 25, 33554431), (true, 26, 67108863), (true, 27, 134217727), (true, 28, 268435455), (true, 30, 536870911), (false, 29, 1610612735), (true, 31, 2147483647), (true, 32, 4294967295), (true, 33, 8589934591)] fo Pl.post_panic (by kernel_rfl) (Ext.drew (Ext.refl _)) ?_
  generalize w8.drew = w9
  intro hB9
  have hS9 := hB9
  refine Pl.qA_move hS9 rfl rfl rfl rfl rfl ?_
  refine Pl.qA_move hS9 rfl rfl rfl rfl rfl ?_
  have i_8__8 := Ib.ext i_8 (Ext.below hB7 hB8)
  refine Pl.qA_load hS9 rfl rfl rfl rfl rfl (fun X hX => Ib.load (Ib.ext i_8__8 hX)) ?_
  have i_5__8 := Ib.ext i_5__7 hB8
  refine Pl.qA_load hS9 rfl rfl rfl rfl rfl (fun X hX => Ib.load (Ib.ext i_5__8 hX)) ?_
  refine Pl.qA_move hS9 rfl rfl rfl rfl rfl ?_
  refine Pl.qA_load hS9 rfl rfl rfl rfl rfl (fun X hX => Ib.load (Ib.ext i_5__8 hX)) ?_
  refine Pl.qA_move hS9 rfl rfl rfl rfl rfl ?_
  refine Pl.qA_move hS9 rfl rfl rfl rfl rfl ?_
  refine Pl.qA_bin (v := (.int .i64 ((i + k : Nat) : Int))) hS9 rfl rfl rfl rfl rfl rfl (fun X => b_add (by omega) (by omega) (by omega) X) ?_
  have h_x4__9 := Zn.below h_x4__7 (Ext.below hB8 hB9)
  refine Pl.pA_call rfl rfl rfl rfl rfl en38 ?_
  refine Calls.mono (zpow _ _ a (k) h_x4__9 (Sz.le b_a (by decide)) (powN_len b_a (by omega) (by decide)) (by omega) _ rfl) ?_
  rintro e w10 ⟨v_x14, rfl, h_x14, hB10⟩
  have hS10 := Ext.below hS9 hB10
  refine ⟨_, rfl, hS10, ?_⟩
  have b_x14 : Sz (a ^ (k)) 39 := Sz.pow b_a (by omega) (by decide)
  have h_x7__10 := Zn.below h_x7 (Ext.below hB6 (Ext.below hB7 (Ext.below hB8 (Ext.below hB9 hB10))))
  refine Pl.pA_call rfl rfl rfl rfl rfl en33 ?_
  refine Calls.mono (zmul _ _ _ (a ^ (i)) (a ^ (k)) h_x7__10 h_x14 (Sz.le b_x7 (by decide)) (Sz.le b_x14 (by decide)) _ rfl) ?_
  rintro e w11 ⟨v_x16, rfl, h_x16, hB11⟩
  have hS11 := Ext.below hS10 hB11
  refine ⟨_, rfl, hS11, ?_⟩
  have b_x16 : Sz ((a ^ (i)) * (a ^ (k))) 78 := Sz.mul b_x7 b_x14 (by decide)
  have h_x4__11 := Zn.below h_x4__9 (Ext.below hB10 hB11)
  refine Pl.pA_call rfl rfl rfl rfl rfl en38 ?_
  refine Calls.mono (zpow _ _ a (i + k) h_x4__11 (Sz.le b_a (by decide)) (powN_len b_a (by omega) (by decide)) (by omega) _ rfl) ?_
  rintro e w12 ⟨v_x18, rfl, h_x18, hB12⟩
  have hS12 := Ext.below hS11 hB12
  refine ⟨_, rfl, hS12, ?_⟩
  have b_x18 : Sz (a ^ (i + k)) 78 := Sz.pow b_a (by omega) (by decide)
  have h_x16__12 := Zn.below h_x16 hB12
  refine Pl.pA_call rfl rfl rfl rfl rfl en20 ?_
  refine Calls.mono (rzsame _ _ _ ((a ^ (i)) * (a ^ (k))) (a ^ (i + k)) h_x16__12 h_x18 (Sz.le b_x16 (by decide)) (Sz.le b_x18 (by decide)) true (decide_eq_true (Int.pow_add a i k).symm)) ?_
  rintro e w13 ⟨rfl, hB13⟩
  have hS13 := Ext.below hS12 hB13
  refine ⟨_, rfl, hS13, ?_⟩
  refine Pl.qA_pick hS13 rfl rfl rfl rfl rfl rfl ?_
  refine Pl.qA_move hS13 rfl rfl rfl rfl rfl ?_
  refine Pl.qA_load hS13 rfl rfl rfl rfl rfl (fun X hX => Ib.load (Ib.ext i_8__8 hX)) ?_
  refine Pl.qA_move hS13 rfl rfl rfl rfl rfl ?_
  refine Pl.qA_bin (v := (.int .i64 ((j : Nat) : Int))) hS13 rfl rfl rfl rfl rfl rfl (fun X => b_rem (b := 4) rfl hj (by decide) (by omega) (by decide) X) ?_
  refine Pl.qA_load hS13 rfl rfl rfl rfl rfl (fun X hX => Ib.load (Ib.ext i_5__8 hX)) ?_
  refine Pl.qA_move hS13 rfl rfl rfl rfl rfl ?_
  refine Pl.qA_move hS13 rfl rfl rfl rfl rfl ?_
  refine Pl.qA_bin (v := (.int .i64 ((j : Nat) : Int))) hS13 rfl rfl rfl rfl rfl rfl (fun X => b_rem (b := 4) rfl hj (by decide) (by omega) (by decide) X) ?_
  refine Pl.qA_bin (v := (.int .i64 ((i * j : Nat) : Int))) hS13 rfl rfl rfl rfl rfl rfl (fun X => b_mul (Int.natCast_mul i j).symm (by omega) (by omega) X) ?_
  have h_x7__13 := Zn.below h_x7__10 (Ext.below hB11 (Ext.below hB12 hB13))
  refine Pl.pA_call rfl rfl rfl rfl rfl en38 ?_
  refine Calls.mono (zpow _ _ (a ^ (i)) (j) h_x7__13 (Sz.le b_x7 (by decide)) (powN_len b_x7 (by omega) (by decide)) (by omega) _ rfl) ?_
  rintro e w14 ⟨v_x21, rfl, h_x21, hB14⟩
  have hS14 := Ext.below hS13 hB14
  refine ⟨_, rfl, hS14, ?_⟩
  have b_x21 : Sz ((a ^ (i)) ^ (j)) 117 := Sz.pow b_x7 (by omega) (by decide)
  have h_x4__14 := Zn.below h_x4__11 (Ext.below hB12 (Ext.below hB13 hB14))
  refine Pl.pA_call rfl rfl rfl rfl rfl en38 ?_
  refine Calls.mono (zpow _ _ a (i * j) h_x4__14 (Sz.le b_a (by decide)) (powN_len b_a (by omega) (by decide)) (by omega) _ rfl) ?_
  rintro e w15 ⟨v_x23, rfl, h_x23, hB15⟩
  have hS15 := Ext.below hS14 hB15
  refine ⟨_, rfl, hS15, ?_⟩
  have b_x23 : Sz (a ^ (i * j)) 117 := Sz.pow b_a (by omega) (by decide)
  have h_x21__15 := Zn.below h_x21 hB15
  refine Pl.pA_call rfl rfl rfl rfl rfl en20 ?_
  refine Calls.mono (rzsame _ _ _ ((a ^ (i)) ^ (j)) (a ^ (i * j)) h_x21__15 h_x23 (Sz.le b_x21 (by decide)) (Sz.le b_x23 (by decide)) true (decide_eq_true Int.pow_mul.symm)) ?_
  rintro e w16 ⟨rfl, hB16⟩
  have hS16 := Ext.below hS15 hB16
  refine ⟨_, rfl, hS16, ?_⟩
  refine Pl.qA_pick hS16 rfl rfl rfl rfl rfl rfl ?_
  refine Pl.qA_move hS16 rfl rfl rfl rfl rfl ?_
  refine Pl.qA_load hS16 rfl rfl rfl rfl rfl (fun X hX => Ib.load (Ib.ext i_8__8 hX)) ?_
  refine Pl.qA_move hS16 rfl rfl rfl rfl rfl ?_
  have h_x7__16 := Zn.below h_x7__13 (Ext.below hB14 (Ext.below hB15 hB16))
  refine Pl.pA_call rfl rfl rfl rfl rfl en25 ?_
  refine Calls.mono (zsign _ _ (a ^ (i)) h_x7__16 (Int.sign (a ^ (i))) rfl) ?_
  rintro e w17 ⟨rfl, hB17⟩
  have hS17 := Ext.below hS16 hB17
  refine ⟨_, rfl, hS17, ?_⟩
  refine Pl.qA_bin (v := (.bool true)) hS17 rfl rfl rfl rfl rfl rfl (fun X => b_eql (beq_iff_eq.2 (by rw [h0, Int.zero_pow (by omega)])) X) ?_
  refine Pl.qA_pick hS17 rfl rfl rfl rfl rfl rfl ?_
  refine Pl.qA_assign hS17 rfl rfl rfl rfl rfl ?_
  refine Pl.pA_end ?_
  refine Pl.post_ret rfl rfl ?_
  exact ⟨rfl, (Ext.below hB1 (Ext.below hB2 (Ext.below hB3 (Ext.below hB4 (Ext.below hB5 (Ext.below hB6 (Ext.below hB7 (Ext.below hB8 (Ext.below hB9 (Ext.below hB10 (Ext.below hB11 (Ext.below hB12 (Ext.below hB13 (Ext.below hB14 (Ext.below hB15 (Ext.below hB16 hB17))))))))))))))))⟩
set_option maxRecDepth 100000 in
set_option maxHeartbeats 4000000 in
theorem IntegerPowers_walkE1 (w : World) (sa : Bool) (Aa : Option Addr) (ca : Nat) (xsa : List Nat) (ua : U w (.slice Aa xsa.length ca) xsa) (k1 : Nat) (hk1 : k1 < 256) (k2 : Nat) (hk2 : k2 < 256) (ho : ¬ k1 % 14 % 2 = 1) (h0 : sg sa (cutN xsa 3) = 0) (hi0 : k1 % 14 = 0) :
    Calls Tryz.prog 9 #[.agg #[.bool sa, .slice Aa xsa.length ca], .int .u8 (k1 : Nat), .int .u8 (k2 : Nat)] w fun e w' => e = .returned (.bool true) ∧ Ext w w' := by
  have r_a : Ri w (.agg #[.bool sa, .slice Aa xsa.length ca]) sa xsa := ⟨_, _, rfl, ua⟩
  obtain ⟨a, e_a⟩ : ∃ z, sg sa (cutN xsa 3) = z := ⟨_, rfl⟩
  have b_a : Sz a 3 := by rw [← e_a]; exact Sz.cut ua sa 3 3 (Nat.le_refl _)
  obtain ⟨i, hi⟩ : ∃ i, k1 % 14 = i := ⟨_, rfl⟩
  obtain ⟨k, hk⟩ : ∃ k, k2 % 14 = k := ⟨_, rfl⟩
  obtain ⟨j, hj⟩ : ∃ j, k % 4 = j := ⟨_, rfl⟩
  have hi9 : i < 14 := hi ▸ Nat.mod_lt _ (by decide)
  have hk9 : k < 14 := hk ▸ Nat.mod_lt _ (by decide)
  have hj9 : j < 4 := hj ▸ Nat.mod_lt _ (by decide)
  have hij : i * j ≤ 39 := Nat.mul_le_mul (show i ≤ 13 by omega) (show j ≤ 3 by omega)
  rw [hi] at ho hi0
  rw [e_a] at h0
  refine Pl.calls_by (n := 72) (vs := [.agg #[.bool sa, .slice Aa xsa.length ca], .int .u8 (k1 : Nat), .int .u8 (k2 : Nat)]) Tryz.func9 rfl (by kernel_rfl) (by simp) ?_
  refine Pl.V_seq ?_
  refine Pl.V_region (by kernel_rfl) ?_
  refine boxS rfl rfl rfl rfl rfl (fun _ _ => trivial) ?_
  intro N1 w1 hB1 i_1
  refine Pl.qA_assign trivial rfl rfl rfl rfl rfl ?_
  refine Pl.pA_end ?_
  refine Pl.V_seq ?_
  refine Pl.V_region (by kernel_rfl) ?_
  refine Pl.pA_call rfl rfl rfl rfl rfl en12 ?_
  refine Calls.mono (zhead _) ?_
  rintro e w2 ⟨rfl, hB2⟩
  refine ⟨_, rfl, trivial, ?_⟩
  refine Pl.qA_assign trivial rfl rfl rfl rfl rfl ?_
  refine Pl.pA_end ?_
  refine Pl.V_seq ?_
  refine Pl.V_region (by kernel_rfl) ?_
  have i_1__2 := Ib.ext i_1 hB2
  refine Pl.qA_loadw trivial rfl rfl rfl rfl rfl (Ib.load i_1__2) ?_
  have r_a__2 := Ri.below r_a (Ext.below hB1 hB2)
  refine Pl.pA_call rfl rfl rfl rfl rfl en35 ?_
  refine Calls.mono (rmade_B _ _ sa xsa r_a__2 3 _ rfl (by decide) a e_a) ?_
  rintro e w3 ⟨v_x4, rfl, h_x4, hB3⟩
  refine ⟨_, rfl, trivial, ?_⟩
  obtain ⟨p_x4, A_x4, L_x4, c_x4, rfl⟩ := Zn.sh h_x4
  refine boxI rfl rfl rfl rfl rfl rfl rfl rfl (fun _ => rfl) (fun _ _ => trivial) ?_
  intro N5 w4 hB4 i_5
  refine Pl.pA_end ?_
  refine Pl.V_seq ?_
  refine Pl.V_region (by kernel_rfl) ?_
  refine Pl.qA_move trivial rfl rfl rfl rfl rfl ?_
  refine Pl.qA_bin (v := (.int .u8 ((i : Nat) : Int))) trivial rfl rfl rfl rfl rfl rfl (fun X => b_rem8 (b := 14) rfl hi (by decide) hk1 (by decide) X) ?_
  refine qA_conv (v := (.int .i64 ((i : Nat) : Int))) trivial rfl rfl rfl rfl rfl (fun X => cv_u8 (by omega) X) ?_
  refine Pl.qA_assign trivial rfl rfl rfl rfl rfl ?_
  refine Pl.pA_end ?_
  refine Pl.V_seq ?_
  refine Pl.V_region (by kernel_rfl) ?_
  refine Pl.qA_move trivial rfl rfl rfl rfl rfl ?_
  refine Pl.qA_bin (v := (.int .u8 ((k : Nat) : Int))) trivial rfl rfl rfl rfl rfl rfl (fun X => b_rem8 (b := 14) rfl hk (by decide) hk2 (by decide) X) ?_
  refine qA_conv (v := (.int .i64 ((k : Nat) : Int))) trivial rfl rfl rfl rfl rfl (fun X => cv_u8 (by omega) X) ?_
  refine Pl.qA_assign trivial rfl rfl rfl rfl rfl ?_
  refine Pl.pA_end ?_
  refine Pl.V_seq ?_
  refine Pl.V_region (by kernel_rfl) ?_
  refine Pl.qA_loadw trivial rfl rfl rfl rfl rfl (Ib.load i_5) ?_
  refine Pl.qA_move trivial rfl rfl rfl rfl rfl ?_
  have h_x4__4 := Zn.below h_x4 hB4
  refine Pl.pA_call rfl rfl rfl rfl rfl en38 ?_
  refine Calls.mono (zpow _ _ a (i) h_x4__4 (Sz.le b_a (by decide)) (powN_len b_a (by omega) (by decide)) (by omega) _ rfl) ?_
  rintro e w5 ⟨v_x7, rfl, h_x7, hB5⟩
  refine ⟨_, rfl, trivial, ?_⟩
  have b_x7 : Sz (a ^ (i)) 39 := Sz.pow b_a (by omega) (by decide)
  obtain ⟨p_x7, A_x7, L_x7, c_x7, rfl⟩ := Zn.sh h_x7
  refine boxI rfl rfl rfl rfl rfl rfl rfl rfl (fun _ => rfl) (fun _ _ => trivial) ?_
  intro N8 w6 hB6 i_8
  refine Pl.pA_end ?_
  refine Pl.V_seq ?_
  refine Pl.V_region (by kernel_rfl) ?_
  refine Pl.qA_assign trivial rfl rfl rfl rfl rfl ?_
  refine Pl.pA_end ?_
  refine Pl.V_seq ?_
  refine Pl.V_seq ?_
  refine Pl.V_region (by kernel_rfl) ?_
  refine Pl.qA_move trivial rfl rfl rfl rfl rfl ?_
  refine Pl.qA_bin (v := (.int .i64 ((i % 2 : Nat) : Int))) trivial rfl rfl rfl rfl rfl rfl (fun X => b_rem (b := 2) rfl rfl (by decide) (by omega) (by decide) X) ?_
  refine Pl.qA_bin (v := (.bool false)) trivial rfl rfl rfl rfl rfl rfl (fun X => b_eql (beq_eq_false_iff_ne.2 (by omega)) X) ?_
  refine Pl.qA_move trivial rfl rfl rfl rfl rfl ?_
  have i_5__6 := Ib.ext i_5 (Ext.below hB5 hB6)
  refine Pl.qA_loadw trivial rfl rfl rfl rfl rfl (Ib.load i_5__6) ?_
  have h_x4__6 := Zn.below h_x4__4 (Ext.below hB5 hB6)
  refine Pl.pA_call rfl rfl rfl rfl rfl en25 ?_
  refine Calls.mono (zsign _ _ a h_x4__6 (Int.sign a) rfl) ?_
  rintro e w7 ⟨rfl, hB7⟩
  refine ⟨_, rfl, trivial, ?_⟩
  refine Pl.qA_bin (v := (.bool true)) trivial rfl rfl rfl rfl rfl rfl (fun X => b_eql (beq_iff_eq.2 (Int.sign_eq_zero_iff_zero.2 h0)) X) ?_
  refine Pl.qA_move trivial rfl rfl rfl rfl rfl ?_
  refine Pl.qA_move trivial rfl rfl rfl rfl rfl ?_
  refine Pl.qA_bin (v := (.bool false)) trivial rfl rfl rfl rfl rfl rfl (fun X => b_gtr (decide_eq_false (by omega)) X) ?_
  refine Pl.qA_pick trivial rfl rfl rfl rfl rfl rfl ?_
  refine Pl.qA_pick trivial rfl rfl rfl rfl rfl rfl ?_
  refine Pl.pA_end ?_
  refine Pl.V_false rfl ?_
  refine Pl.V_skip ?_
  refine Pl.V_seq ?_
  refine Pl.V_draw (S := fun X => Ext w7 X) [(true, 0, 0), (true, 1, 1), (true, 2, 3), (true, 3, 7), (true, 4, 15), (true, 7, 31), (true, 8, 159), (true, 9, 415), (true, 10, 927), (false, 5, 1951), (false, 6, 1983), (false, 11, 2047), (false, 12, 4095), (true, 13, 8191), (true, 14, 16383), (true, 15, 32767), (true, 16, 65535), (true, 17, 131071), (true, 19, 262143), (true, 20, 786431), (true, 21, 1835007), (true, 22, 3932159), (true, 23, 8126463), (false, 18, 16515071), (false, 24, 16777215), (false, 25, 33554431), (true, 26, 67108863), (true, 27, 134217727), (true, 28, 268435455), (true, 30, 536870911), (false, 29, 1610612735), (true, 31, 2147483647), (true, 32, 4294967295), (true, 33, 8589934591)] fo Pl.post_panic (by kernel_rfl) (Ext.drew (Ext.refl _)) ?_
  generalize w7.drew = w8
  intro hB8
  have hS8 := hB8
  refine Pl.qA_move hS8 rfl rfl rfl rfl rfl ?_
  refine Pl.qA_move hS8 rfl rfl rfl rfl rfl ?_
  have i_8__7 := Ib.ext i_8 hB7
  refine Pl.qA_load hS8 rfl rfl rfl rfl rfl (fun X hX => Ib.load (Ib.ext i_8__7 hX)) ?_
  have i_5__7 := Ib.ext i_5__6 hB7
  refine Pl.qA_load hS8 rfl rfl rfl rfl rfl (fun X hX => Ib.load (Ib.ext i_5__7 hX)) ?_
  refine Pl.qA_move hS8 rfl rfl rfl rfl rfl ?_
  refine Pl.qA_load hS8 rfl rfl rfl rfl rfl (fun X hX => Ib.load (Ib.ext i_5__7 hX)) ?_
  refine Pl.qA_move hS8 rfl rfl rfl rfl rfl ?_
  refine Pl.qA_move hS8 rfl rfl rfl rfl rfl ?_
  refine Pl.qA_bin (v := (.int .i64 ((i + k : Nat) : Int))) hS8 rfl rfl rfl rfl rfl rfl (fun X => b_add (by omega) (by omega) (by omega) X) ?_
  have h_x4__8 := Zn.below h_x4__6 (Ext.below hB7 hB8)
  refine Pl.pA_call rfl rfl rfl rfl rfl en38 ?_
  refine Calls.mono (zpow _ _ a (k) h_x4__8 (Sz.le b_a (by decide)) (powN_len b_a (by omega) (by decide)) (by omega) _ rfl) ?_
  rintro e w9 ⟨v_x12, rfl, h_x12, hB9⟩
  have hS9 := Ext.below hS8 hB9
  refine ⟨_, rfl, hS9, ?_⟩
  have b_x12 : Sz (a ^ (k)) 39 := Sz.pow b_a (by omega) (by decide)
  have h_x7__9 := Zn.below h_x7 (Ext.below hB6 (Ext.below hB7 (Ext.below hB8 hB9)))
  refine Pl.pA_call rfl rfl rfl rfl rfl en33 ?_
  refine Calls.mono (zmul _ _ _ (a ^ (i)) (a ^ (k)) h_x7__9 h_x12 (Sz.le b_x7 (by decide)) (Sz.le b_x12 (by decide)) _ rfl) ?_
  rintro e w10 ⟨v_x14, rfl, h_x14, hB10⟩
  have hS10 := Ext.below hS9 hB10
  refine ⟨_, rfl, hS10, ?_⟩
  have b_x14 : Sz ((a ^ (i)) * (a ^ (k))) 78 := Sz.mul b_x7 b_x12 (by decide)
  have h_x4__10 := Zn.below h_x4__8 (Ext.below hB9 hB10)
  refine Pl.pA_call rfl rfl rfl rfl rfl en38 ?_
  refine Calls.mono (zpow _ _ a (i + k) h_x4__10 (Sz.le b_a (by decide)) (powN_len b_a (by omega) (by decide)) (by omega) _ rfl) ?_
  rintro e w11 ⟨v_x16, rfl, h_x16, hB11⟩
  have hS11 := Ext.below hS10 hB11
  refine ⟨_, rfl, hS11, ?_⟩
  have b_x16 : Sz (a ^ (i + k)) 78 := Sz.pow b_a (by omega) (by decide)
  have h_x14__11 := Zn.below h_x14 hB11
  refine Pl.pA_call rfl rfl rfl rfl rfl en20 ?_
  refine Calls.mono (rzsame _ _ _ ((a ^ (i)) * (a ^ (k))) (a ^ (i + k)) h_x14__11 h_x16 (Sz.le b_x14 (by decide)) (Sz.le b_x16 (by decide)) true (decide_eq_true (Int.pow_add a i k).symm)) ?_
  rintro e w12 ⟨rfl, hB12⟩
  have hS12 := Ext.below hS11 hB12
  refine ⟨_, rfl, hS12, ?_⟩
  refine Pl.qA_pick hS12 rfl rfl rfl rfl rfl rfl ?_
  refine Pl.qA_move hS12 rfl rfl rfl rfl rfl ?_
  refine Pl.qA_load hS12 rfl rfl rfl rfl rfl (fun X hX => Ib.load (Ib.ext i_8__7 hX)) ?_
  refine Pl.qA_move hS12 rfl rfl rfl rfl rfl ?_
  refine Pl.qA_bin (v := (.int .i64 ((j : Nat) : Int))) hS12 rfl rfl rfl rfl rfl rfl (fun X => b_rem (b := 4) rfl hj (by decide) (by omega) (by decide) X) ?_
  refine Pl.qA_load hS12 rfl rfl rfl rfl rfl (fun X hX => Ib.load (Ib.ext i_5__7 hX)) ?_
  refine Pl.qA_move hS12 rfl rfl rfl rfl rfl ?_
  refine Pl.qA_move hS12 rfl rfl rfl rfl rfl ?_
  refine Pl.qA_bin (v := (.int .i64 ((j : Nat) : Int))) hS12 rfl rfl rfl rfl rfl rfl (fun X => b_rem (b := 4) rfl hj (by decide) (by omega) (by decide) X) ?_
  refine Pl.qA_bin (v := (.int .i64 ((i * j : Nat) : Int))) hS12 rfl rfl rfl rfl rfl rfl (fun X => b_mul (Int.natCast_mul i j).symm (by omega) (by omega) X) ?_
  have h_x7__12 := Zn.below h_x7__9 (Ext.below hB10 (Ext.below hB11 hB12))
  refine Pl.pA_call rfl rfl rfl rfl rfl en38 ?_
  refine Calls.mono (zpow _ _ (a ^ (i)) (j) h_x7__12 (Sz.le b_x7 (by decide)) (powN_len b_x7 (by omega) (by decide)) (by omega) _ rfl) ?_
  rintro e w13 ⟨v_x19, rfl, h_x19, hB13⟩
  have hS13 := Ext.below hS12 hB13
  refine ⟨_, rfl, hS13, ?_⟩
  have b_x19 : Sz ((a ^ (i)) ^ (j)) 117 := Sz.pow b_x7 (by omega) (by decide)
  have h_x4__13 := Zn.below h_x4__10 (Ext.below hB11 (Ext.below hB12 hB13))
  refine Pl.pA_call rfl rfl rfl rfl rfl en38 ?_
  refine Calls.mono (zpow _ _ a (i * j) h_x4__13 (Sz.le b_a (by decide)) (powN_len b_a (by omega) (by decide)) (by omega) _ rfl) ?_
  rintro e w14 ⟨v_x21, rfl, h_x21, hB14⟩
  have hS14 := Ext.below hS13 hB14
  refine ⟨_, rfl, hS14, ?_⟩
  have b_x21 : Sz (a ^ (i * j)) 117 := Sz.pow b_a (by omega) (by decide)
  have h_x19__14 := Zn.below h_x19 hB14
  refine Pl.pA_call rfl rfl rfl rfl rfl en20 ?_
  refine Calls.mono (rzsame _ _ _ ((a ^ (i)) ^ (j)) (a ^ (i * j)) h_x19__14 h_x21 (Sz.le b_x19 (by decide)) (Sz.le b_x21 (by decide)) true (decide_eq_true Int.pow_mul.symm)) ?_
  rintro e w15 ⟨rfl, hB15⟩
  have hS15 := Ext.below hS14 hB15
  refine ⟨_, rfl, hS15, ?_⟩
  refine Pl.qA_pick hS15 rfl rfl rfl rfl rfl rfl ?_
  refine Pl.qA_move hS15 rfl rfl rfl rfl rfl ?_
  refine Pl.qA_load hS15 rfl rfl rfl rfl rfl (fun X hX => Ib.load (Ib.ext i_8__7 hX)) ?_
  refine Pl.qA_move hS15 rfl rfl rfl rfl rfl ?_
  have h_x7__15 := Zn.below h_x7__12 (Ext.below hB13 (Ext.below hB14 hB15))
  refine Pl.pA_call rfl rfl rfl rfl rfl en25 ?_
  refine Calls.mono (zsign _ _ (a ^ (i)) h_x7__15 (Int.sign (a ^ (i))) rfl) ?_
  rintro e w16 ⟨rfl, hB16⟩
  have hS16 := Ext.below hS15 hB16
  refine ⟨_, rfl, hS16, ?_⟩
  refine Pl.qA_bin (v := (.bool true)) hS16 rfl rfl rfl rfl rfl rfl (fun X => b_eql (beq_iff_eq.2 (by rw [hi0, Int.pow_zero]; rfl)) X) ?_
  refine Pl.qA_pick hS16 rfl rfl rfl rfl rfl rfl ?_
  refine Pl.qA_assign hS16 rfl rfl rfl rfl rfl ?_
  refine Pl.pA_end ?_
  refine Pl.post_ret rfl rfl ?_
  exact ⟨rfl, (Ext.below hB1 (Ext.below hB2 (Ext.below hB3 (Ext.below hB4 (Ext.below hB5 (Ext.below hB6 (Ext.below hB7 (Ext.below hB8 (Ext.below hB9 (Ext.below hB10 (Ext.below hB11 (Ext.below hB12 (Ext.below hB13 (Ext.below hB14 (Ext.below hB15 hB16)))))))))))))))⟩
set_option maxRecDepth 100000 in
set_option maxHeartbeats 4000000 in
theorem IntegerPowers_walkE2 (w : World) (sa : Bool) (Aa : Option Addr) (ca : Nat) (xsa : List Nat) (ua : U w (.slice Aa xsa.length ca) xsa) (k1 : Nat) (hk1 : k1 < 256) (k2 : Nat) (hk2 : k2 < 256) (ho : ¬ k1 % 14 % 2 = 1) (h0 : sg sa (cutN xsa 3) ≠ 0) :
    Calls Tryz.prog 9 #[.agg #[.bool sa, .slice Aa xsa.length ca], .int .u8 (k1 : Nat), .int .u8 (k2 : Nat)] w fun e w' => e = .returned (.bool true) ∧ Ext w w' := by
  have r_a : Ri w (.agg #[.bool sa, .slice Aa xsa.length ca]) sa xsa := ⟨_, _, rfl, ua⟩
  obtain ⟨a, e_a⟩ : ∃ z, sg sa (cutN xsa 3) = z := ⟨_, rfl⟩
  have b_a : Sz a 3 := by rw [← e_a]; exact Sz.cut ua sa 3 3 (Nat.le_refl _)
  obtain ⟨i, hi⟩ : ∃ i, k1 % 14 = i := ⟨_, rfl⟩
  obtain ⟨k, hk⟩ : ∃ k, k2 % 14 = k := ⟨_, rfl⟩
  obtain ⟨j, hj⟩ : ∃ j, k % 4 = j := ⟨_, rfl⟩
  have hi9 : i < 14 := hi ▸ Nat.mod_lt _ (by decide)
  have hk9 : k < 14 := hk ▸ Nat.mod_lt _ (by decide)
  have hj9 : j < 4 := hj ▸ Nat.mod_lt _ (by decide)
  have hij : i * j ≤ 39 := Nat.mul_le_mul (show i ≤ 13 by omega) (show j ≤ 3 by omega)
  rw [hi] at ho
  rw [e_a] at h0
  refine Pl.calls_by (n := 72) (vs := [.agg #[.bool sa, .slice Aa xsa.length ca], .int .u8 (k1 : Nat), .int .u8 (k2 : Nat)]) Tryz.func9 rfl (by kernel_rfl) (by simp) ?_
  refine Pl.V_seq ?_
  refine Pl.V_region (by kernel_rfl) ?_
  refine boxS rfl rfl rfl rfl rfl (fun _ _ => trivial) ?_
  intro N1 w1 hB1 i_1
  refine Pl.qA_assign trivial rfl rfl rfl rfl rfl ?_
  refine Pl.pA_end ?_
  refine Pl.V_seq ?_
  refine Pl.V_region (by kernel_rfl) ?_
  refine Pl.pA_call rfl rfl rfl rfl rfl en12 ?_
  refine Calls.mono (zhead _) ?_
  rintro e w2 ⟨rfl, hB2⟩
  refine ⟨_, rfl, trivial, ?_⟩
  refine Pl.qA_assign trivial rfl rfl rfl rfl rfl ?_
  refine Pl.pA_end ?_
  refine Pl.V_seq ?_
  refine Pl.V_region (by kernel_rfl) ?_
  have i_1__2 := Ib.ext i_1 hB2
  refine Pl.qA_loadw trivial rfl rfl rfl rfl rfl (Ib.load i_1__2) ?_
  have r_a__2 := Ri.below r_a (Ext.below hB1 hB2)
  refine Pl.pA_call rfl rfl rfl rfl rfl en35 ?_
  refine Calls.mono (rmade_B _ _ sa xsa r_a__2 3 _ rfl (by decide) a e_a) ?_
  rintro e w3 ⟨v_x4, rfl, h_x4, hB3⟩
  refine ⟨_, rfl, trivial, ?_⟩
  obtain ⟨p_x4, A_x4, L_x4, c_x4, rfl⟩ := Zn.sh h_x4
  refine boxI rfl rfl rfl rfl rfl rfl rfl rfl (fun _ => rfl) (fun _ _ => trivial) ?_
  intro N5 w4 hB4 i_5
  refine Pl.pA_end ?_
  refine Pl.V_seq ?_
  refine Pl.V_region (by kernel_rfl) ?_
  refine Pl.qA_move trivial rfl rfl rfl rfl rfl ?_
  refine Pl.qA_bin (v := (.int .u8 ((i : Nat) : Int))) trivial rfl rfl rfl rfl rfl rfl (fun X => b_rem8 (b := 14) rfl hi (by decide) hk1 (by decide) X) ?_
  refine qA_conv (v := (.int .i64 ((i : Nat) : Int))) trivial rfl rfl rfl rfl rfl (fun X => cv_u8 (by omega) X) ?_
  refine Pl.qA_assign trivial rfl rfl rfl rfl rfl ?_
  refine Pl.pA_end ?_
  refine Pl.V_seq ?_
  refine Pl.V_region (by kernel_rfl) ?_
  refine Pl.qA_move trivial rfl rfl rfl rfl rfl ?_
  refine Pl.qA_bin (v := (.int .u8 ((k : Nat) : Int))) trivial rfl rfl rfl rfl rfl rfl (fun X => b_rem8 (b := 14) rfl hk (by decide) hk2 (by decide) X) ?_
  refine qA_conv (v := (.int .i64 ((k : Nat) : Int))) trivial rfl rfl rfl rfl rfl (fun X => cv_u8 (by omega) X) ?_
  refine Pl.qA_assign trivial rfl rfl rfl rfl rfl ?_
  refine Pl.pA_end ?_
  refine Pl.V_seq ?_
  refine Pl.V_region (by kernel_rfl) ?_
  refine Pl.qA_loadw trivial rfl rfl rfl rfl rfl (Ib.load i_5) ?_
  refine Pl.qA_move trivial rfl rfl rfl rfl rfl ?_
  have h_x4__4 := Zn.below h_x4 hB4
  refine Pl.pA_call rfl rfl rfl rfl rfl en38 ?_
  refine Calls.mono (zpow _ _ a (i) h_x4__4 (Sz.le b_a (by decide)) (powN_len b_a (by omega) (by decide)) (by omega) _ rfl) ?_
  rintro e w5 ⟨v_x7, rfl, h_x7, hB5⟩
  refine ⟨_, rfl, trivial, ?_⟩
  have b_x7 : Sz (a ^ (i)) 39 := Sz.pow b_a (by omega) (by decide)
  obtain ⟨p_x7, A_x7, L_x7, c_x7, rfl⟩ := Zn.sh h_x7
  refine boxI rfl rfl rfl rfl rfl rfl rfl rfl (fun _ => rfl) (fun _ _ => trivial) ?_
  intro N8 w6 hB6 i_8
  refine Pl.pA_end ?_
  refine Pl.V_seq ?_
  refine Pl.V_region (by kernel_rfl) ?_
  refine Pl.qA_assign trivial rfl rfl rfl rfl rfl ?_
  refine Pl.pA_end ?_
  refine Pl.V_seq ?_
  refine Pl.V_seq ?_
  refine Pl.V_region (by kernel_rfl) ?_
  refine Pl.qA_move trivial rfl rfl rfl rfl rfl ?_
  refine Pl.qA_bin (v := (.int .i64 ((i % 2 : Nat) : Int))) trivial rfl rfl rfl rfl rfl rfl (fun X => b_rem (b := 2) rfl rfl (by decide) (by omega) (by decide) X) ?_
  refine Pl.qA_bin (v := (.bool false)) trivial rfl rfl rfl rfl rfl rfl (fun X => b_eql (beq_eq_false_iff_ne.2 (by omega)) X) ?_
  refine Pl.qA_move trivial rfl rfl rfl rfl rfl ?_
  have i_5__6 := Ib.ext i_5 (Ext.below hB5 hB6)
  refine Pl.qA_loadw trivial rfl rfl rfl rfl rfl (Ib.load i_5__6) ?_
  have h_x4__6 := Zn.below h_x4__4 (Ext.below hB5 hB6)
  refine Pl.pA_call rfl rfl rfl rfl rfl en25 ?_
  refine Calls.mono (zsign _ _ a h_x4__6 (Int.sign a) rfl) ?_
  rintro e w7 ⟨rfl, hB7⟩
  refine ⟨_, rfl, trivial, ?_⟩
  refine Pl.qA_bin (v := (.bool false)) trivial rfl rfl rfl rfl rfl rfl (fun X => b_eql (beq_eq_false_iff_ne.2 (sign_ne h0)) X) ?_
  refine Pl.qA_move trivial rfl rfl rfl rfl rfl ?_
  refine Pl.pA_skip rfl rfl rfl ?_
  refine Pl.pA_skip rfl rfl rfl ?_
  refine Pl.qA_pick trivial rfl rfl rfl rfl rfl rfl ?_
  refine Pl.qA_pick trivial rfl rfl rfl rfl rfl rfl ?_
  refine Pl.pA_end ?_
  refine Pl.V_false rfl ?_
  refine Pl.V_skip ?_
  refine Pl.V_seq ?_
  refine Pl.V_draw (S := fun X => Ext w7 X) [(true, 0, 0), (true, 1, 1), (true, 2, 3), (true, 3, 7), (true, 4, 15), (true, 7, 31), (true, 8, 159), (true, 9, 415), (true, 10, 927), (false, 5, 1951), (false, 6, 1983), (false, 11, 2047), (false, 12, 4095), (true, 13, 8191), (true, 14, 16383), (true, 15, 32767), (true, 16, 65535), (true, 17, 131071), (true, 19, 262143), (true, 20, 786431), (true, 21, 1835007), (true, 22, 3932159), (true, 23, 8126463), (false, 18, 16515071), (false, 24, 16777215), (false, 25, 33554431), (true, 26, 67108863), (true, 27, 134217727), (true, 28, 268435455), (true, 30, 536870911), (false, 29, 1610612735), (true, 31, 2147483647), (true, 32, 4294967295), (true, 33, 8589934591)] fo Pl.post_panic (by kernel_rfl) (Ext.drew (Ext.refl _)) ?_
  generalize w7.drew = w8
  intro hB8
  have hS8 := hB8
  refine Pl.qA_move hS8 rfl rfl rfl rfl rfl ?_
  refine Pl.qA_move hS8 rfl rfl rfl rfl rfl ?_
  have i_8__7 := Ib.ext i_8 hB7
  refine Pl.qA_load hS8 rfl rfl rfl rfl rfl (fun X hX => Ib.load (Ib.ext i_8__7 hX)) ?_
  have i_5__7 := Ib.ext i_5__6 hB7
  refine Pl.qA_load hS8 rfl rfl rfl rfl rfl (fun X hX => Ib.load (Ib.ext i_5__7 hX)) ?_
  refine Pl.qA_move hS8 rfl rfl rfl rfl rfl ?_
  refine Pl.qA_load hS8 rfl rfl rfl rfl rfl (fun X hX => Ib.load (Ib.ext i_5__7 hX)) ?_
  refine Pl.qA_move hS8 rfl rfl rfl rfl rfl ?_
  refine Pl.qA_move hS8 rfl rfl rfl rfl rfl ?_
  refine Pl.qA_bin (v := (.int .i64 ((i + k : Nat) : Int))) hS8 rfl rfl rfl rfl rfl rfl (fun X => b_add (by omega) (by omega) (by omega) X) ?_
  have h_x4__8 := Zn.below h_x4__6 (Ext.below hB7 hB8)
  refine Pl.pA_call rfl rfl rfl rfl rfl en38 ?_
  refine Calls.mono (zpow _ _ a (k) h_x4__8 (Sz.le b_a (by decide)) (powN_len b_a (by omega) (by decide)) (by omega) _ rfl) ?_
  rintro e w9 ⟨v_x12, rfl, h_x12, hB9⟩
  have hS9 := Ext.below hS8 hB9
  refine ⟨_, rfl, hS9, ?_⟩
  have b_x12 : Sz (a ^ (k)) 39 := Sz.pow b_a (by omega) (by decide)
  have h_x7__9 := Zn.below h_x7 (Ext.below hB6 (Ext.below hB7 (Ext.below hB8 hB9)))
  refine Pl.pA_call rfl rfl rfl rfl rfl en33 ?_
  refine Calls.mono (zmul _ _ _ (a ^ (i)) (a ^ (k)) h_x7__9 h_x12 (Sz.le b_x7 (by decide)) (Sz.le b_x12 (by decide)) _ rfl) ?_
  rintro e w10 ⟨v_x14, rfl, h_x14, hB10⟩
  have hS10 := Ext.below hS9 hB10
  refine ⟨_, rfl, hS10, ?_⟩
  have b_x14 : Sz ((a ^ (i)) * (a ^ (k))) 78 := Sz.mul b_x7 b_x12 (by decide)
  have h_x4__10 := Zn.below h_x4__8 (Ext.below hB9 hB10)
  refine Pl.pA_call rfl rfl rfl rfl rfl en38 ?_
  refine Calls.mono (zpow _ _ a (i + k) h_x4__10 (Sz.le b_a (by decide)) (powN_len b_a (by omega) (by decide)) (by omega) _ rfl) ?_
  rintro e w11 ⟨v_x16, rfl, h_x16, hB11⟩
  have hS11 := Ext.below hS10 hB11
  refine ⟨_, rfl, hS11, ?_⟩
  have b_x16 : Sz (a ^ (i + k)) 78 := Sz.pow b_a (by omega) (by decide)
  have h_x14__11 := Zn.below h_x14 hB11
  refine Pl.pA_call rfl rfl rfl rfl rfl en20 ?_
  refine Calls.mono (rzsame _ _ _ ((a ^ (i)) * (a ^ (k))) (a ^ (i + k)) h_x14__11 h_x16 (Sz.le b_x14 (by decide)) (Sz.le b_x16 (by decide)) true (decide_eq_true (Int.pow_add a i k).symm)) ?_
  rintro e w12 ⟨rfl, hB12⟩
  have hS12 := Ext.below hS11 hB12
  refine ⟨_, rfl, hS12, ?_⟩
  refine Pl.qA_pick hS12 rfl rfl rfl rfl rfl rfl ?_
  refine Pl.qA_move hS12 rfl rfl rfl rfl rfl ?_
  refine Pl.qA_load hS12 rfl rfl rfl rfl rfl (fun X hX => Ib.load (Ib.ext i_8__7 hX)) ?_
  refine Pl.qA_move hS12 rfl rfl rfl rfl rfl ?_
  refine Pl.qA_bin (v := (.int .i64 ((j : Nat) : Int))) hS12 rfl rfl rfl rfl rfl rfl (fun X => b_rem (b := 4) rfl hj (by decide) (by omega) (by decide) X) ?_
  refine Pl.qA_load hS12 rfl rfl rfl rfl rfl (fun X hX => Ib.load (Ib.ext i_5__7 hX)) ?_
  refine Pl.qA_move hS12 rfl rfl rfl rfl rfl ?_
  refine Pl.qA_move hS12 rfl rfl rfl rfl rfl ?_
  refine Pl.qA_bin (v := (.int .i64 ((j : Nat) : Int))) hS12 rfl rfl rfl rfl rfl rfl (fun X => b_rem (b := 4) rfl hj (by decide) (by omega) (by decide) X) ?_
  refine Pl.qA_bin (v := (.int .i64 ((i * j : Nat) : Int))) hS12 rfl rfl rfl rfl rfl rfl (fun X => b_mul (Int.natCast_mul i j).symm (by omega) (by omega) X) ?_
  have h_x7__12 := Zn.below h_x7__9 (Ext.below hB10 (Ext.below hB11 hB12))
  refine Pl.pA_call rfl rfl rfl rfl rfl en38 ?_
  refine Calls.mono (zpow _ _ (a ^ (i)) (j) h_x7__12 (Sz.le b_x7 (by decide)) (powN_len b_x7 (by omega) (by decide)) (by omega) _ rfl) ?_
  rintro e w13 ⟨v_x19, rfl, h_x19, hB13⟩
  have hS13 := Ext.below hS12 hB13
  refine ⟨_, rfl, hS13, ?_⟩
  have b_x19 : Sz ((a ^ (i)) ^ (j)) 117 := Sz.pow b_x7 (by omega) (by decide)
  have h_x4__13 := Zn.below h_x4__10 (Ext.below hB11 (Ext.below hB12 hB13))
  refine Pl.pA_call rfl rfl rfl rfl rfl en38 ?_
  refine Calls.mono (zpow _ _ a (i * j) h_x4__13 (Sz.le b_a (by decide)) (powN_len b_a (by omega) (by decide)) (by omega) _ rfl) ?_
  rintro e w14 ⟨v_x21, rfl, h_x21, hB14⟩
  have hS14 := Ext.below hS13 hB14
  refine ⟨_, rfl, hS14, ?_⟩
  have b_x21 : Sz (a ^ (i * j)) 117 := Sz.pow b_a (by omega) (by decide)
  have h_x19__14 := Zn.below h_x19 hB14
  refine Pl.pA_call rfl rfl rfl rfl rfl en20 ?_
  refine Calls.mono (rzsame _ _ _ ((a ^ (i)) ^ (j)) (a ^ (i * j)) h_x19__14 h_x21 (Sz.le b_x19 (by decide)) (Sz.le b_x21 (by decide)) true (decide_eq_true Int.pow_mul.symm)) ?_
  rintro e w15 ⟨rfl, hB15⟩
  have hS15 := Ext.below hS14 hB15
  refine ⟨_, rfl, hS15, ?_⟩
  refine Pl.qA_pick hS15 rfl rfl rfl rfl rfl rfl ?_
  refine Pl.qA_move hS15 rfl rfl rfl rfl rfl ?_
  refine Pl.qA_load hS15 rfl rfl rfl rfl rfl (fun X hX => Ib.load (Ib.ext i_8__7 hX)) ?_
  refine Pl.qA_move hS15 rfl rfl rfl rfl rfl ?_
  have h_x7__15 := Zn.below h_x7__12 (Ext.below hB13 (Ext.below hB14 hB15))
  refine Pl.pA_call rfl rfl rfl rfl rfl en25 ?_
  refine Calls.mono (zsign _ _ (a ^ (i)) h_x7__15 (Int.sign (a ^ (i))) rfl) ?_
  rintro e w16 ⟨rfl, hB16⟩
  have hS16 := Ext.below hS15 hB16
  refine ⟨_, rfl, hS16, ?_⟩
  refine Pl.qA_bin (v := (.bool true)) hS16 rfl rfl rfl rfl rfl rfl (fun X => b_eql (beq_iff_eq.2 (sign_pow_even ho h0)) X) ?_
  refine Pl.qA_pick hS16 rfl rfl rfl rfl rfl rfl ?_
  refine Pl.qA_assign hS16 rfl rfl rfl rfl rfl ?_
  refine Pl.pA_end ?_
  refine Pl.post_ret rfl rfl ?_
  exact ⟨rfl, (Ext.below hB1 (Ext.below hB2 (Ext.below hB3 (Ext.below hB4 (Ext.below hB5 (Ext.below hB6 (Ext.below hB7 (Ext.below hB8 (Ext.below hB9 (Ext.below hB10 (Ext.below hB11 (Ext.below hB12 (Ext.below hB13 (Ext.below hB14 (Ext.below hB15 hB16)))))))))))))))⟩
theorem IntegerPowers_walk (w : World) (sa : Bool) (Aa : Option Addr) (ca : Nat) (xsa : List Nat) (ua : U w (.slice Aa xsa.length ca) xsa) (k1 : Nat) (hk1 : k1 < 256) (k2 : Nat) (hk2 : k2 < 256) :
    Calls Tryz.prog 9 #[.agg #[.bool sa, .slice Aa xsa.length ca], .int .u8 (k1 : Nat), .int .u8 (k2 : Nat)] w fun e w' => e = .returned (.bool true) ∧ Ext w w' := by
  by_cases ho : k1 % 14 % 2 = 1
  · exact IntegerPowers_walkO w sa Aa ca xsa ua k1 hk1 k2 hk2 ho
  by_cases h0 : sg sa (cutN xsa 3) = 0
  · by_cases hi0 : k1 % 14 = 0
    · exact IntegerPowers_walkE1 w sa Aa ca xsa ua k1 hk1 k2 hk2 ho h0 hi0
    · exact IntegerPowers_walkE0 w sa Aa ca xsa ua k1 hk1 k2 hk2 ho h0 hi0
  · exact IntegerPowers_walkE2 w sa Aa ca xsa ua k1 hk1 k2 hk2 ho h0
end Go.Proofs.YtfkcdmbiihkiiaaGreatDoor
/- Proved: what the statement IntegerPowers does: powers are added, and multiplied, in their exponents; an even power has no sign, an odd one that of the number: it tells true. No condition. -/
namespace Go.Proofs.YtfkcdmbiihkiiaaGreatDoor
open Go.ChangeShapes Go.WideShapes Go.ChangeAt Go.RowKit
set_option linter.unusedVariables false
set_option maxHeartbeats 2000000

set_option maxRecDepth 100000 in
theorem lifted_IntegerPowers (os : Os) (started : os.Started) (H : Type) (enc : TypeId × Value → H) :
    ReturnsInHanded {} Tryz.checked os 9 .any (fun w args => (Rows.integerPowersSpec.pre enc Tryz.prog Tryz.f9 [] false w args ∧ laidMetH Tryz.prog laidV w) ∧ sizedMet enc Tryz.prog Tryz.f9 (OpenSpec.ofChange Rows.integerPowersSpec) false w args)
      (Rows.integerPowersSpec.post enc Tryz.prog Tryz.f9 false true false false) := by
  refine returnsInHanded_of_change_and (C := Tryz.checked) (X := fun w _ => laidMetH Tryz.prog laidV w) (fun _ _ _ hh h => h.of_heap hh) own started (by kernel_rfl) Tryz.func9
    (ChangeSpec.witness_shaped (enc := enc) (C := Tryz.checked) (os := os) (X := fun w _ => laidMetH Tryz.prog laidV w) false (World.laidAll Tryz.prog os laidV) #[.agg #[.bool false, .slice none 0 0], .int .u8 0, .int .u8 0] 8 (World.laidAll_os _ _ _) (World.shaped_of_ZipB (by kernel_rfl) (by kernel_rfl)) (by kernel_rfl) (by kernel_rfl) (by kernel_rfl) (laid_met os _)) ?_
  intro W base args ds gs before hval0 hW _ _ hL _
  have hval : ∀ (j : Nat) t v, Tryz.f9.params[j]? = some t → args[j]? = some v → Value.okWide Tryz.prog W .any base t v := hval0
  have hW' := hW
  obtain ⟨p, q, hA0, hV, rfl, hfz, hnd⟩ := hW
  have hlt : ∀ x ∈ p ++ q, x.block < W.heap.size := fun x hx => hW'.lt x hx
  have hA : DataW.TrodAll enc Tryz.prog W 0 (fun _ => true) true Tryz.f9.params.toList args.toList ds p := hA0
  rw [Tryz.params9] at hA hval
  clear hA0 hval0
  obtain ⟨v0, vs0, d0, ds0, p0, q0, hargs0, rfl, rfl, h0, r0⟩ := trodAll_cons hA
  obtain ⟨v1, vs1, d1, ds1, p1, q1, hargs1, rfl, rfl, h1, r1⟩ := trodAll_cons r0
  obtain ⟨v2, vs2, d2, ds2, p2, q2, hargs2, rfl, rfl, h2, r2⟩ := trodAll_cons r1
  obtain ⟨hn1, rfl, rfl⟩ := trodAll_nil r2
  subst hn1
  subst hargs2
  subst hargs1
  obtain rfl : args = #[v0, v1, v2] := by cases args; simp_all
  obtain ⟨rfl, rfl⟩ := trodVars_none hV
  obtain ⟨s0a, A0a, c0a, x0a, hv0, u0a⟩ := open_I1 (hval 0 24 v0 rfl rfl) h0
  subst hv0
  obtain ⟨z1, rfl, rfl, rfl, hz1⟩ := open_int Tryz.underlying5 (hval 1 5 v1 rfl rfl) h1
  have hb1 := bounds_u8 hz1
  obtain ⟨n1, rfl⟩ := Int.eq_ofNat_of_zero_le (show 0 ≤ z1 by omega)
  obtain ⟨z2, rfl, rfl, rfl, hz2⟩ := open_int Tryz.underlying5 (hval 2 5 v2 rfl rfl) h2
  have hb2 := bounds_u8 hz2
  obtain ⟨n2, rfl⟩ := Int.eq_ofNat_of_zero_le (show 0 ≤ z2 by omega)
  refine (IntegerPowers_walk W s0a A0a c0a x0a u0a n1 (by omega) n2 (by omega)).mono fun e W' ⟨he, hB⟩ => ?_
  subst he
  exact ⟨_, rfl, law_post hW' rfl (by rw [Tryz.params9]; decide +kernel) rfl rfl rfl rfl hB⟩

theorem integerPowers_said : Rows.IntegerPowersSaid :=
  OpenClaim.holds_of_wide 9 Tryz.f9 rfl rfl rfl rfl rfl rfl rfl ⟨rfl, rfl, rfl, rfl, rfl⟩ rfl rfl rfl rfl rfl (by kernel_rfl) Tryz.func9 (by kernel_rfl)
    (of_decide_eq_true (by kernel_rfl)) (by unfold Func.isWrapper; first | (rw [if_pos (by decide +kernel)]; kernel_rfl) | (rw [if_neg (by decide +kernel)]; exact ⟨rfl, rfl⟩))
    (fun os started H enc _ => lifted_IntegerPowers os started H enc)
/-- The statement: the card, tied. -/
theorem integerPowers_holds : Rows.IntegerPowersCardSaid :=
  Claim7.holds_tied_plain_at .later [] [.data, .wider, .pinned] true Rows.integerPowersCard.stood.harness false
    integerPowers_said (fun _ h => by cases h) (by kernel_rfl) (fun _ h => by cases h) integerPowers_row_tie rfl ⟨rfl, rfl⟩ (by kernel_rfl) rfl
    (fun f fn hf hfn => by
      obtain rfl : f = 9 := Option.some.inj ((show Tryz.prog.funcNamed "ziggurat/zigguratlaw06.IntegerPowers" = some 9 by kernel_rfl).symm.trans hf) |>.symm
      obtain rfl : fn = Tryz.f9 := (Option.some.inj (Tryz.func9.symm.trans hfn)).symm
      exact ⟨by kernel_rfl, fun j t ht => by
        rw [Tryz.params9] at ht
        have hm : t ∈ [24, 5, 5] := by simpa using Array.mem_of_getElem? ht
        have hall : ([24, 5, 5].all fun u => !Tryz.prog.wantsStandIn u) = true := by kernel_rfl
        exact (show Tryz.prog.wantsStandIn t = false by simpa using List.all_eq_true.1 hall t hm)⟩)
    (by kernel_rfl)
end Go.Proofs.YtfkcdmbiihkiiaaGreatDoor
