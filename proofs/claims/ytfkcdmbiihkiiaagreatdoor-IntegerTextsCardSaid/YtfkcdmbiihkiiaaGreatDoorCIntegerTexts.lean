/- Proved: what the statement IntegerTexts does: what is written is read as it was, with noughts ahead, too; the digits are those of the size, in base 10: it tells true. No condition. -/
import Derived.Test.YtfkcdmbiihkiiaaGreatDoorBbe
import Derived.Test.YtfkcdmbiihkiiaaGreatDoorBaj
import Derived.Test.YtfkcdmbiihkiiaaGreatDoorBaw
import Derived.Test.YtfkcdmbiihkiiaaGreatDoorBbk
import Derived.Test.YtfkcdmbiihkiiaaGreatDoorBbi
import Derived.Test.YtfkcdmbiihkiiaaGreatDoorBak
import Derived.Test.YtfkcdmbiihkiiaaGreatDoorBbd
import Derived.Test.YtfkcdmbiihkiiaaGreatDoorBbj
import Derived.Test.YtfkcdmbiihkiiaaGreatDoorBbf
import Derived.Test.YtfkcdmbiihkiiaaGreatDoorBbh
import Derived.Test.YtfkcdmbiihkiiaaGreatDoorBbm
import Derived.Test.YtfkcdmbiihkiiaaGreatDoorBbl
import Derived.Test.YtfkcdmbiihkiiaaGreatDoorBbb
import Derived.Deep.RegionHeld3

namespace Go.Proofs.YtfkcdmbiihkiiaaGreatDoor
open Go.RowKit
set_option linter.unusedVariables false
set_option maxHeartbeats 400000

set_option maxRecDepth 100000 in
set_option maxHeartbeats 8000000 in
theorem zsub (w : World) (va vb : Value) (a b : Int) (ha : Zn w va a) (hb : Zn w vb b) (hl : (limbs a.natAbs).length ≤ 1000000) (hl2 : (limbs b.natAbs).length ≤ 1000000) (y : Int) (hy : a - b = y) :
    Calls Tryz.prog 31 #[va, vb] w fun e w' => ∃ u, e = .returned u ∧ Zn w' u y ∧ Ext w w' := by
  have hN := Lib.hid (fun W h => zneg W vb b h (-b) rfl)
  have hA := Lib.hid (fun W u h (g : Zn W u (-b)) => zadd W va u a (-b) h g hl (by rw [Int.natAbs_neg]; exact hl2) y (by rw [← Int.sub_eq_add_neg]; exact hy))
  have ha' := ha
  have hb' := hb
  obtain ⟨p, A, L, c, n, rfl, hu, hL, hz, -, hza, hzn⟩ := ha.open
  obtain ⟨q, B, K, d, m, rfl, hv, hK, hz2, -, hza2, hzn2⟩ := hb.open
  have hE0 := ((((Ext.refl w).alloc (.cells #[.bool p, .slice A L c] 24)).alloc (.cells #[.bool q, .slice B K d] 24)).alloc (.cells #[.bool false, .slice none 0 0] 24)).drew
  have hI0 := (Ib.new3 w (.cells #[.bool p, .slice A L c] 24) (.cells #[.bool q, .slice B K d] 24) false (.slice none 0 0) 24).ext (Ext.refl _).drew
  have hP0 := (Ib.new w p (.slice A L c) 24).ext ((((Ext.refl _).alloc (.cells #[.bool q, .slice B K d] 24)).alloc (.cells #[.bool false, .slice none 0 0] 24)).drew)
  have hQ0 := (Ib.new2 w (.cells #[.bool p, .slice A L c] 24) q (.slice B K d) 24).ext (((Ext.refl _).alloc (.cells #[.bool false, .slice none 0 0] 24)).drew)
  have hS0 : (w.heap.size + 1 + 1 < (((w.alloc (.cells #[.bool p, .slice A L c] 24)).alloc (.cells #[.bool q, .slice B K d] 24)).alloc (.cells #[.bool false, .slice none 0 0] 24)).drew.heap.size ∧ (((w.alloc (.cells #[.bool p, .slice A L c] 24)).alloc (.cells #[.bool q, .slice B K d] 24)).alloc (.cells #[.bool false, .slice none 0 0] 24)).drew.cell? ⟨w.heap.size, 0, none⟩ = some (.bool p) ∧ (((w.alloc (.cells #[.bool p, .slice A L c] 24)).alloc (.cells #[.bool q, .slice B K d] 24)).alloc (.cells #[.bool false, .slice none 0 0] 24)).drew.cell? ⟨w.heap.size, 1, none⟩ = some (.slice A L c) ∧ (((w.alloc (.cells #[.bool p, .slice A L c] 24)).alloc (.cells #[.bool q, .slice B K d] 24)).alloc (.cells #[.bool false, .slice none 0 0] 24)).drew.cell? ⟨w.heap.size + 1, 0, none⟩ = some (.bool q) ∧ (((w.alloc (.cells #[.bool p, .slice A L c] 24)).alloc (.cells #[.bool q, .slice B K d] 24)).alloc (.cells #[.bool false, .slice none 0 0] 24)).drew.cell? ⟨w.heap.size + 1, 1, none⟩ = some (.slice B K d)) ∧ Ext w (((w.alloc (.cells #[.bool p, .slice A L c] 24)).alloc (.cells #[.bool q, .slice B K d] 24)).alloc (.cells #[.bool false, .slice none 0 0] 24)).drew := ⟨⟨by simp, hP0.2.1, hP0.2.2.1, hQ0.2.1, hQ0.2.2.1⟩, hE0⟩
  have ha0 := ha'.below hE0
  have hb0 := hb'.below hE0
  clear hl hl2 hza hzn hza2 hzn2 hz hz2 hL hK ha hb hy hP0 hQ0 ha' hb'
  go_enter Tryz.func31, Tryz.ntmps31
  go_wp2
  go_region_held3 (fun X => (w.heap.size + 1 + 1 < X.heap.size ∧ X.cell? ⟨w.heap.size, 0, none⟩ = some (.bool p) ∧ X.cell? ⟨w.heap.size, 1, none⟩ = some (.slice A L c) ∧ X.cell? ⟨w.heap.size + 1, 0, none⟩ = some (.bool q) ∧ X.cell? ⟨w.heap.size + 1, 1, none⟩ = some (.slice B K d)) ∧ Ext w X)
    (first
      | exact hS0
      | exact keepI2 (by assumption) (by assumption)
      | exact keepS2 (by assumption))
    (first
      | (go_at_call 27; ((with_reducible refine (hN.out _ hb0).mono ?_); rintro e w2 ⟨u, rfl, hz2, hE2⟩; obtain ⟨b2, A2, L2, c2, rfl⟩ := hz2.sh))
      | (go_at_call 29; ((with_reducible refine (hA.out _ _ (ha0.below hE2) hz2).mono ?_); rintro e w3 ⟨u, rfl, hz3, hE3⟩; obtain ⟨b3, A3, L3, c3, rfl⟩ := hz3.sh; have hI3 := (hI0.ext hE2).ext hE3; obtain ⟨i0, i1, i2, i3, i4⟩ := id hI3)))
  clear hN hA
  clear hI3
  go_wp2
  (try simp only [Exit.inBlock, Exit.then])
  refine bodyPost_ret (v := .agg #[.bool b3, .slice A3 L3 c3]) (show (results _ _).run _ _ = _ from ?_) rfl ⟨_, rfl, hz3.put2 ((hI0.ext hE2).ext hE3) (slice_no_int _ _ _) _ _, ((hE0.below hE2).below hE3).put2 (by omega) _ _⟩
  simp only [results]
  go_simp
end Go.Proofs.YtfkcdmbiihkiiaaGreatDoor
/- Proved: what the statement IntegerTexts does: what is written is read as it was, with noughts ahead, too; the digits are those of the size, in base 10: it tells true. No condition. -/
namespace Go.Proofs.YtfkcdmbiihkiiaaGreatDoor
open Go.RowKit
set_option linter.unusedVariables false
set_option linter.unusedSimpArgs false
set_option maxHeartbeats 400000

namespace Texts6
theorem en12 (u : Array Value) (X : World) : (callFunc 12 u).run Tryz.prog X = .ok (.enter 12 u) X := Pl.enters Tryz.func12 (by kernel_rfl) rfl u X
theorem en13 (u : Array Value) (X : World) : (callFunc 13 u).run Tryz.prog X = .ok (.enter 13 u) X := Pl.enters Tryz.func13 (by kernel_rfl) rfl u X
theorem en20 (u : Array Value) (X : World) : (callFunc 20 u).run Tryz.prog X = .ok (.enter 20 u) X := Pl.enters Tryz.func20 (by kernel_rfl) rfl u X
theorem en36 (u : Array Value) (X : World) : (callFunc 36 u).run Tryz.prog X = .ok (.enter 36 u) X := Pl.enters Tryz.func36 (by kernel_rfl) rfl u X
theorem en42 (u : Array Value) (X : World) : (callFunc 42 u).run Tryz.prog X = .ok (.enter 42 u) X := Pl.enters Tryz.func42 (by kernel_rfl) rfl u X
theorem en48 (u : Array Value) (X : World) : (callFunc 48 u).run Tryz.prog X = .ok (.enter 48 u) X := Pl.enters Tryz.func48 (by kernel_rfl) rfl u X
end Texts6
open Texts6
set_option maxRecDepth 100000 in
set_option maxHeartbeats 4000000 in
theorem IntegerTexts_walkN (w : World) (sa : Bool) (Aa : Option Addr) (ca : Nat) (xsa : List Nat) (ua : U w (.slice Aa xsa.length ca) xsa) (k1 : Nat) (hk1 : k1 < 256) (ha : sg sa (cutN xsa 40) < 0) :
    Calls Tryz.prog 10 #[.agg #[.bool sa, .slice Aa xsa.length ca], .int .u8 (k1 : Nat)] w fun e w' => e = .returned (.bool true) ∧ Ext w w' := by
  have r_a : Ri w (.agg #[.bool sa, .slice Aa xsa.length ca]) sa xsa := ⟨_, _, rfl, ua⟩
  obtain ⟨a, e_a⟩ : ∃ z, sg sa (cutN xsa 40) = z := ⟨_, rfl⟩
  have b_a : Sz a 40 := by rw [← e_a]; exact Sz.cut ua sa 40 40 (Nat.le_refl _)
  obtain ⟨m, hm⟩ : ∃ m, k1 % 9 = m := ⟨_, rfl⟩
  have hm9 : m < 9 := hm ▸ Nat.mod_lt _ (by decide)
  have hlen := zeros_len (i := 0) (by decide) b_a
  have hds := dt_short b_a
  rw [List.replicate_zero, List.nil_append] at hlen
  rw [e_a] at ha
  refine Pl.calls_by (n := 116) (vs := [.agg #[.bool sa, .slice Aa xsa.length ca], .int .u8 (k1 : Nat)]) Tryz.func10 rfl (by kernel_rfl) (by simp) ?_
  refine Pl.V_seq ?_
  refine Pl.V_region (by kernel_rfl) ?_
  refine boxS rfl rfl rfl rfl rfl (fun _ _ => trivial) ?_
  intro N1 w1 hB1 i_1
  refine Pl.qA_assign trivial rfl rfl rfl rfl rfl ?_
  refine Pl.pA_end ?_
  refine Pl.V_seq ?_
  refine Pl.V_region (by kernel_rfl) ?_
  refine Pl.pA_call rfl rfl rfl rfl rfl en12 ?_
  refine Calls.mono (zhead _) ?_
  rintro e w2 ⟨rfl, hB2⟩
  refine ⟨_, rfl, trivial, ?_⟩
  refine Pl.qA_assign trivial rfl rfl rfl rfl rfl ?_
  refine Pl.pA_end ?_
  refine Pl.V_seq ?_
  refine Pl.V_region (by kernel_rfl) ?_
  have i_1__2 := Ib.ext i_1 hB2
  refine Pl.qA_loadw trivial rfl rfl rfl rfl rfl (Ib.load i_1__2) ?_
  have r_a__2 := Ri.below r_a (Ext.below hB1 hB2)
  refine Pl.pA_call rfl rfl rfl rfl rfl en13 ?_
  refine Calls.mono (lmade _ _ sa xsa r_a__2 a e_a) ?_
  rintro e w3 ⟨v_x4, rfl, h_x4, hB3⟩
  refine ⟨_, rfl, trivial, ?_⟩
  obtain ⟨p_x4, A_x4, L_x4, c_x4, rfl⟩ := Zn.sh h_x4
  refine boxI rfl rfl rfl rfl rfl rfl rfl rfl (fun _ => rfl) (fun _ _ => trivial) ?_
  intro N5 w4 hB4 i_5
  refine Pl.pA_end ?_
  refine Pl.V_seq ?_
  refine Pl.V_region (by kernel_rfl) ?_
  refine Pl.qA_loadw trivial rfl rfl rfl rfl rfl (Ib.load i_5) ?_
  have h_x4__4 := Zn.below h_x4 hB4
  refine Pl.pA_call rfl rfl rfl rfl rfl en42 ?_
  refine Calls.mono (ztextN _ _ a h_x4__4 b_a _ (strZ_neg ha)) ?_
  rintro e w5 ⟨rfl, hB5⟩
  refine ⟨_, rfl, trivial, ?_⟩
  refine Pl.qA_assign trivial rfl rfl rfl rfl rfl ?_
  refine Pl.pA_end ?_
  refine Pl.V_seq ?_
  refine Pl.V_region (by kernel_rfl) ?_
  refine Pl.qA_move trivial rfl rfl rfl rfl rfl ?_
  refine Pl.pA_call rfl rfl rfl rfl rfl en36 ?_
  refine Calls.mono (zr_good _ true (dt 10 a.natAbs) a.natAbs (dt_lt 10 (by decide) _) hlen.1 hlen.2 (bval_dt 10 (by decide) _) _ rfl a (sg_abs_neg ha)) ?_
  rintro e w6 ⟨v_x7, rfl, h_x7, hB6⟩
  refine ⟨_, rfl, trivial, ?_⟩
  refine Pl.qA_move trivial rfl rfl rfl rfl rfl ?_
  refine Pl.qA_extract trivial rfl rfl rfl rfl rfl rfl ?_
  refine Pl.qA_extract trivial rfl rfl rfl rfl rfl rfl ?_
  refine Pl.qA_extract trivial rfl rfl rfl rfl rfl rfl ?_
  obtain ⟨p_x7, A_x7, L_x7, c_x7, rfl⟩ := Zn.sh h_x7
  refine boxI rfl rfl rfl rfl rfl rfl rfl rfl (fun _ => rfl) (fun _ _ => trivial) ?_
  intro N8 w7 hB7 i_8
  refine Pl.qA_assign trivial rfl rfl rfl rfl rfl ?_
  refine Pl.qA_assign trivial rfl rfl rfl rfl rfl ?_
  refine Pl.pA_end ?_
  refine Pl.V_seq ?_
  refine Pl.V_region (by kernel_rfl) ?_
  refine qA_field trivial rfl rfl rfl rfl rfl (fa_mag _) ?_
  have i_5__7 := Ib.ext i_5 (Ext.below hB5 (Ext.below hB6 hB7))
  refine Pl.qA_loadw trivial rfl rfl rfl rfl rfl (Ib.mag i_5__7) ?_
  have h_x4__7 := Zn.below h_x4__4 (Ext.below hB5 (Ext.below hB6 hB7))
  have mg_x4_10 := Zn.mag h_x4__7
  refine Pl.pA_call rfl rfl rfl rfl rfl en48 ?_
  refine Calls.mono (text_calls _ _ a.natAbs 10 mg_x4_10 (Nat.le_trans b_a (by decide)) (by decide) (by decide)) ?_
  rintro e w8 ⟨rfl, hB8⟩
  refine ⟨_, rfl, trivial, ?_⟩
  refine Pl.qA_move trivial rfl rfl rfl rfl rfl ?_
  refine Pl.qA_extract trivial rfl rfl rfl rfl rfl rfl ?_
  refine Pl.qA_extract trivial rfl rfl rfl rfl rfl rfl ?_
  refine Pl.qA_assign trivial rfl rfl rfl rfl rfl ?_
  refine Pl.qA_assign trivial rfl rfl rfl rfl rfl ?_
  refine Pl.pA_end ?_
  refine Pl.V_seq ?_
  refine Pl.V_seq ?_
  refine Pl.V_region (by kernel_rfl) ?_
  refine Pl.qA_move trivial rfl rfl rfl rfl rfl ?_
  refine Pl.qA_bin (v := (.bool false)) trivial rfl rfl rfl rfl rfl rfl (fun X => by go_simp) ?_
  refine Pl.qA_move trivial rfl rfl rfl rfl rfl ?_
  refine Pl.qA_move trivial rfl rfl rfl rfl rfl ?_
  refine Pl.qA_bin (v := (.bool false)) trivial rfl rfl rfl rfl rfl rfl (fun X => by go_simp) ?_
  refine Pl.qA_pick trivial rfl rfl rfl rfl rfl rfl ?_
  refine Pl.qA_move trivial rfl rfl rfl rfl rfl ?_
  have i_5__8 := Ib.ext i_5__7 hB8
  refine Pl.qA_loadw trivial rfl rfl rfl rfl rfl (Ib.load i_5__8) ?_
  have i_8__8 := Ib.ext i_8 hB8
  refine Pl.qA_loadw trivial rfl rfl rfl rfl rfl (Ib.load i_8__8) ?_
  have h_x4__8 := Zn.below h_x4__7 hB8
  have h_x7__8 := Zn.below h_x7 (Ext.below hB7 hB8)
  refine Pl.pA_call rfl rfl rfl rfl rfl en20 ?_
  refine Calls.mono (rzsame _ _ _ a a h_x4__8 h_x7__8 (Sz.le b_a (by decide)) (Sz.le b_a (by decide)) true (decide_eq_true rfl)) ?_
  rintro e w9 ⟨rfl, hB9⟩
  refine ⟨_, rfl, trivial, ?_⟩
  refine Pl.qA_un (v := (.bool false)) trivial rfl rfl rfl rfl rfl (fun X => rfl) ?_
  refine Pl.qA_pick trivial rfl rfl rfl rfl rfl rfl ?_
  refine Pl.qA_move trivial rfl rfl rfl rfl rfl ?_
  refine Pl.qA_move trivial rfl rfl rfl rfl rfl ?_
  refine Pl.qA_bin (v := (.bool false)) trivial rfl rfl rfl rfl rfl rfl (fun X => by go_simp) ?_
  refine Pl.qA_pick trivial rfl rfl rfl rfl rfl rfl ?_
  refine Pl.pA_end ?_
  refine Pl.V_false rfl ?_
  refine Pl.V_skip ?_
  refine Pl.V_seq ?_
  refine Pl.V_seq ?_
  refine Pl.V_region (by kernel_rfl) ?_
  refine qA_field trivial rfl rfl rfl rfl rfl (fa_neg _) ?_
  have i_5__9 := Ib.ext i_5__8 hB9
  refine Pl.qA_loadw trivial rfl rfl rfl rfl rfl (Ib.neg i_5__9) ?_
  obtain rfl : p_x4 = true := (Zn.negv h_x4__8).trans (decide_eq_true ha)
  refine Pl.pA_end ?_
  refine Pl.V_true rfl ?_
  refine Pl.V_region (by kernel_rfl) ?_
  refine Pl.qA_move trivial rfl rfl rfl rfl rfl ?_
  refine Pl.qA_bin (v := (.string (⟨#[45]⟩ ++ (strD (dt 10 a.natAbs))))) trivial rfl rfl rfl rfl rfl rfl (fun X => b_adds rfl (by simp only [ByteArray.size_append, strD_size, List.length_replicate, minus_size, show (⟨#[120]⟩ : ByteArray).size = 1 from rfl, show (⟨#[45]⟩ : ByteArray).size = 1 from rfl]; omega) X) ?_
  refine Pl.qA_assign trivial rfl rfl rfl rfl rfl ?_
  refine Pl.pA_end ?_
  refine Pl.V_seq ?_
  refine Pl.V_region (by kernel_rfl) ?_
  refine Pl.qA_assign trivial rfl rfl rfl rfl rfl ?_
  refine Pl.pA_end ?_
  refine Pl.V_seq ?_
  refine Pl.V_seq ?_
  refine Pl.V_region (by kernel_rfl) ?_
  refine Pl.qA_assign trivial rfl rfl rfl rfl rfl ?_
  refine Pl.pA_end ?_
  refine Pl.V_sub [(1, (.int .u8 k1)), (4, (.bool false)), (5, (.bool true)), (6, .pointer (some ⟨N5, 0, none⟩)), (7, (.string (⟨#[45]⟩ ++ (strD (dt 10 a.natAbs))))), (11, (.string (⟨#[45]⟩ ++ (strD (dt 10 a.natAbs))))), (13, .string (strD (List.replicate 0 0))), (14, .int .i64 ((0 : Nat) : Int))] (Pl.subl_cons rfl (Pl.subl_cons rfl (Pl.subl_cons rfl (Pl.subl_cons rfl (Pl.subl_cons rfl (Pl.subl_cons rfl (Pl.subl_cons rfl (Pl.subl_cons rfl Pl.subl_nil)))))))) ?_
  refine Pl.V_block ?_
  refine Pl.V_loop (fun k l' w' => ∃ i : Nat, i + k = m ∧ w' = w9 ∧ l' = [(1, (.int .u8 k1)), (4, (.bool false)), (5, (.bool true)), (6, .pointer (some ⟨N5, 0, none⟩)), (7, (.string (⟨#[45]⟩ ++ (strD (dt 10 a.natAbs))))), (11, (.string (⟨#[45]⟩ ++ (strD (dt 10 a.natAbs))))), (13, .string (strD (List.replicate i 0))), (14, .int .i64 ((i : Nat) : Int))]) m ⟨0, by omega, rfl, rfl⟩ ?_
  rintro k _ _ ⟨i, hi, rfl, rfl⟩
  by_cases him : i < m
  · refine Pl.V_seq ?_
    refine Pl.V_seq ?_
    refine Pl.V_region (by kernel_rfl) ?_
    refine Pl.qA_move trivial rfl rfl rfl rfl rfl ?_
    refine Pl.qA_move trivial rfl rfl rfl rfl rfl ?_
    refine Pl.qA_bin (v := (.int .u8 ((m : Nat) : Int))) trivial rfl rfl rfl rfl rfl rfl (fun X => b_rem8 (b := 9) rfl hm (by decide) hk1 (by decide) X) ?_
    refine qA_conv (v := (.int .i64 ((m : Nat) : Int))) trivial rfl rfl rfl rfl rfl (fun X => cv_u8 (by omega) X) ?_
    refine Pl.qA_bin (v := (.bool true)) trivial rfl rfl rfl rfl rfl rfl (fun X => b_lss (decide_eq_true (by omega)) X) ?_
    refine Pl.pA_end ?_
    refine Pl.V_true rfl ?_
    refine Pl.V_skip ?_
    refine Pl.V_seq ?_
    refine Pl.V_block ?_
    refine Pl.V_region (by kernel_rfl) ?_
    refine Pl.qA_move trivial rfl rfl rfl rfl rfl ?_
    refine Pl.qA_bin (v := (.string (strD (List.replicate (i + 1) 0)))) trivial rfl rfl rfl rfl rfl rfl (fun X => b_adds (zeros_push i) (by rw [strD_size, List.length_replicate]; show i + 1 ≤ _; omega) X) ?_
    refine Pl.qA_assign trivial rfl rfl rfl rfl rfl ?_
    refine Pl.pA_end ?_
    refine Pl.V_endblock ?_
    refine Pl.V_region (by kernel_rfl) ?_
    refine Pl.qA_move trivial rfl rfl rfl rfl rfl ?_
    refine Pl.qA_bin (v := (.int .i64 ((i + 1 : Nat) : Int))) trivial rfl rfl rfl rfl rfl rfl (fun X => b_add (by omega) (by omega) (by omega) X) ?_
    refine Pl.qA_assign trivial rfl rfl rfl rfl rfl ?_
    refine Pl.pA_end ?_
    exact Pl.V_again [(1, (.int .u8 k1)), (4, (.bool false)), (5, (.bool true)), (6, .pointer (some ⟨N5, 0, none⟩)), (7, (.string (⟨#[45]⟩ ++ (strD (dt 10 a.natAbs))))), (11, (.string (⟨#[45]⟩ ++ (strD (dt 10 a.natAbs))))), (13, .string (strD (List.replicate (i + 1) 0))), (14, .int .i64 ((i + 1 : Nat) : Int))] (Pl.subl_cons rfl (Pl.subl_cons rfl (Pl.subl_cons rfl (Pl.subl_cons rfl (Pl.subl_cons rfl (Pl.subl_cons rfl (Pl.subl_cons rfl (Pl.subl_cons rfl Pl.subl_nil)))))))) (show k - 1 < k by omega) ⟨i + 1, by omega, rfl, rfl⟩
  · obtain rfl : m = i := by omega
    refine Pl.V_seq ?_
    refine Pl.V_seq ?_
    refine Pl.V_region (by kernel_rfl) ?_
    refine Pl.qA_move trivial rfl rfl rfl rfl rfl ?_
    refine Pl.qA_move trivial rfl rfl rfl rfl rfl ?_
    refine Pl.qA_bin (v := (.int .u8 ((m : Nat) : Int))) trivial rfl rfl rfl rfl rfl rfl (fun X => b_rem8 (b := 9) rfl hm (by decide) hk1 (by decide) X) ?_
    refine qA_conv (v := (.int .i64 ((m : Nat) : Int))) trivial rfl rfl rfl rfl rfl (fun X => cv_u8 (by omega) X) ?_
    refine Pl.qA_bin (v := (.bool false)) trivial rfl rfl rfl rfl rfl rfl (fun X => b_lss (decide_eq_false (by omega)) X) ?_
    refine Pl.pA_end ?_
    refine Pl.V_false rfl ?_
    refine Pl.V_exit ?_
    refine Pl.V_seq ?_
    refine Pl.V_region (by kernel_rfl) ?_
    refine Pl.qA_move trivial rfl rfl rfl rfl rfl ?_
    refine Pl.qA_move trivial rfl rfl rfl rfl rfl ?_
    refine Pl.qA_bin (v := (.string ((strD (List.replicate m 0)) ++ (⟨#[45]⟩ ++ (strD (dt 10 a.natAbs)))))) trivial rfl rfl rfl rfl rfl rfl (fun X => b_adds rfl (by simp only [ByteArray.size_append, strD_size, List.length_replicate, minus_size, show (⟨#[120]⟩ : ByteArray).size = 1 from rfl, show (⟨#[45]⟩ : ByteArray).size = 1 from rfl]; omega) X) ?_
    refine Pl.qA_assign trivial rfl rfl rfl rfl rfl ?_
    refine Pl.pA_end ?_
    refine Pl.V_seq ?_
    refine Pl.V_seq ?_
    refine Pl.V_region (by kernel_rfl) ?_
    refine qA_field trivial rfl rfl rfl rfl rfl (fa_neg _) ?_
    refine Pl.qA_loadw trivial rfl rfl rfl rfl rfl (Ib.neg i_5__9) ?_
    refine Pl.pA_end ?_
    refine Pl.V_true rfl ?_
    refine Pl.V_region (by kernel_rfl) ?_
    refine Pl.qA_move trivial rfl rfl rfl rfl rfl ?_
    refine Pl.qA_bin (v := (.string (⟨#[45]⟩ ++ (strD (List.replicate m 0))))) trivial rfl rfl rfl rfl rfl rfl (fun X => b_adds rfl (by simp only [ByteArray.size_append, strD_size, List.length_replicate, minus_size, show (⟨#[120]⟩ : ByteArray).size = 1 from rfl, show (⟨#[45]⟩ : ByteArray).size = 1 from rfl]; omega) X) ?_
    refine Pl.qA_move trivial rfl rfl rfl rfl rfl ?_
    refine qA_tail (z := .bool true) (by rw [minus_size]; omega) (minus_tail _) trivial rfl rfl rfl rfl rfl ?_
    refine Pl.qA_bin (v := (.string ((⟨#[45]⟩ ++ (strD (List.replicate m 0))) ++ (strD (dt 10 a.natAbs))))) trivial rfl rfl rfl rfl rfl rfl (fun X => b_adds rfl (by simp only [ByteArray.size_append, strD_size, List.length_replicate, minus_size, show (⟨#[120]⟩ : ByteArray).size = 1 from rfl, show (⟨#[45]⟩ : ByteArray).size = 1 from rfl]; omega) X) ?_
    refine Pl.qA_assign trivial rfl rfl rfl rfl rfl ?_
    refine Pl.pA_end ?_
    refine Pl.V_seq ?_
    refine Pl.V_region (by kernel_rfl) ?_
    refine Pl.qA_move trivial rfl rfl rfl rfl rfl ?_
    refine Pl.pA_call rfl rfl rfl rfl rfl en36 ?_
    refine Calls.mono (zr_good _ true (List.replicate m 0 ++ dt 10 a.natAbs) a.natAbs (zeros_dig m _) (zeros_len hm9 b_a).1 (zeros_len hm9 b_a).2 (zeros_read m _) _ (by show ⟨#[45]⟩ ++ strD _ = _; rw [← strD_app, ByteArray.append_assoc]) a (sg_abs_neg ha)) ?_
    rintro e w10 ⟨v_x17, rfl, h_x17, hB10⟩
    refine ⟨_, rfl, trivial, ?_⟩
    refine Pl.qA_move trivial rfl rfl rfl rfl rfl ?_
    refine Pl.qA_extract trivial rfl rfl rfl rfl rfl rfl ?_
    refine Pl.qA_extract trivial rfl rfl rfl rfl rfl rfl ?_
    refine Pl.qA_extract trivial rfl rfl rfl rfl rfl rfl ?_
    obtain ⟨p_x17, A_x17, L_x17, c_x17, rfl⟩ := Zn.sh h_x17
    refine boxI rfl rfl rfl rfl rfl rfl rfl rfl (fun _ => rfl) (fun _ _ => trivial) ?_
    intro N18 w11 hB11 i_18
    refine Pl.qA_assign trivial rfl rfl rfl rfl rfl ?_
    refine Pl.qA_assign trivial rfl rfl rfl rfl rfl ?_
    refine Pl.pA_end ?_
    refine Pl.V_seq ?_
    refine Pl.V_region (by kernel_rfl) ?_
    refine Pl.qA_move trivial rfl rfl rfl rfl rfl ?_
    refine Pl.qA_bin (v := (.string ((⟨#[45]⟩ ++ (strD (dt 10 a.natAbs))) ++ ⟨#[120]⟩))) trivial rfl rfl rfl rfl rfl rfl (fun X => b_adds rfl (by simp only [ByteArray.size_append, strD_size, List.length_replicate, minus_size, show (⟨#[120]⟩ : ByteArray).size = 1 from rfl, show (⟨#[45]⟩ : ByteArray).size = 1 from rfl]; omega) X) ?_
    refine Pl.pA_call rfl rfl rfl rfl rfl en36 ?_
    refine Calls.mono (zr_x _ true (dt 10 a.natAbs) (dt_lt 10 (by decide) _) hlen.1 hlen.2 _ rfl _ rfl) ?_
    rintro e w12 ⟨rfl, hB12⟩
    refine ⟨_, rfl, trivial, ?_⟩
    refine Pl.qA_move trivial rfl rfl rfl rfl rfl ?_
    refine Pl.qA_extract trivial rfl rfl rfl rfl rfl rfl ?_
    refine Pl.qA_extract trivial rfl rfl rfl rfl rfl rfl ?_
    refine Pl.qA_extract trivial rfl rfl rfl rfl rfl rfl ?_
    refine boxI rfl rfl rfl rfl rfl rfl rfl rfl (fun _ => rfl) (fun _ _ => trivial) ?_
    intro N19 w13 hB13 i_19
    refine Pl.qA_assign trivial rfl rfl rfl rfl rfl ?_
    refine Pl.qA_assign trivial rfl rfl rfl rfl rfl ?_
    refine Pl.pA_end ?_
    refine Pl.V_seq ?_
    refine Pl.V_region (by kernel_rfl) ?_
    refine Pl.qA_move trivial rfl rfl rfl rfl rfl ?_
    refine Pl.qA_move trivial rfl rfl rfl rfl rfl ?_
    refine Pl.qA_move trivial rfl rfl rfl rfl rfl ?_
    refine Pl.qA_move trivial rfl rfl rfl rfl rfl ?_
    refine Pl.qA_bin (v := (.bool true)) trivial rfl rfl rfl rfl rfl rfl (fun X => b_eqs rfl X) ?_
    refine Pl.qA_pick trivial rfl rfl rfl rfl rfl rfl ?_
    refine Pl.qA_move trivial rfl rfl rfl rfl rfl ?_
    refine Pl.qA_move trivial rfl rfl rfl rfl rfl ?_
    refine Pl.qA_bin (v := (.bool true)) trivial rfl rfl rfl rfl rfl rfl (fun X => by go_simp) ?_
    refine Pl.qA_pick trivial rfl rfl rfl rfl rfl rfl ?_
    refine Pl.qA_move trivial rfl rfl rfl rfl rfl ?_
    have i_18__13 := Ib.ext i_18 (Ext.below hB12 hB13)
    refine Pl.qA_loadw trivial rfl rfl rfl rfl rfl (Ib.load i_18__13) ?_
    have i_5__13 := Ib.ext i_5__9 (Ext.below hB10 (Ext.below hB11 (Ext.below hB12 hB13)))
    refine Pl.qA_loadw trivial rfl rfl rfl rfl rfl (Ib.load i_5__13) ?_
    have h_x17__13 := Zn.below h_x17 (Ext.below hB11 (Ext.below hB12 hB13))
    have h_x4__13 := Zn.below h_x4__8 (Ext.below hB9 (Ext.below hB10 (Ext.below hB11 (Ext.below hB12 hB13))))
    refine Pl.pA_call rfl rfl rfl rfl rfl en20 ?_
    refine Calls.mono (rzsame _ _ _ a a h_x17__13 h_x4__13 (Sz.le b_a (by decide)) (Sz.le b_a (by decide)) true (decide_eq_true rfl)) ?_
    rintro e w14 ⟨rfl, hB14⟩
    refine ⟨_, rfl, trivial, ?_⟩
    refine Pl.qA_pick trivial rfl rfl rfl rfl rfl rfl ?_
    refine Pl.qA_move trivial rfl rfl rfl rfl rfl ?_
    refine Pl.qA_move trivial rfl rfl rfl rfl rfl ?_
    refine Pl.qA_bin (v := (.bool true)) trivial rfl rfl rfl rfl rfl rfl (fun X => by go_simp) ?_
    refine Pl.qA_pick trivial rfl rfl rfl rfl rfl rfl ?_
    refine Pl.qA_move trivial rfl rfl rfl rfl rfl ?_
    refine Pl.qA_move trivial rfl rfl rfl rfl rfl ?_
    refine Pl.qA_move trivial rfl rfl rfl rfl rfl ?_
    refine qA_lens trivial rfl rfl rfl rfl rfl ?_
    refine Pl.qA_bin (v := (.bool true)) trivial rfl rfl rfl rfl rfl rfl (fun X => b_eql (beq_self_eq_true _) X) ?_
    refine Pl.qA_pick trivial rfl rfl rfl rfl rfl rfl ?_
    refine Pl.qA_assign trivial rfl rfl rfl rfl rfl ?_
    refine Pl.pA_end ?_
    refine Pl.post_ret rfl rfl ?_
    exact ⟨rfl, (Ext.below hB1 (Ext.below hB2 (Ext.below hB3 (Ext.below hB4 (Ext.below hB5 (Ext.below hB6 (Ext.below hB7 (Ext.below hB8 (Ext.below hB9 (Ext.below hB10 (Ext.below hB11 (Ext.below hB12 (Ext.below hB13 hB14)))))))))))))⟩
set_option maxRecDepth 100000 in
set_option maxHeartbeats 4000000 in
theorem IntegerTexts_walkP (w : World) (sa : Bool) (Aa : Option Addr) (ca : Nat) (xsa : List Nat) (ua : U w (.slice Aa xsa.length ca) xsa) (k1 : Nat) (hk1 : k1 < 256) (ha : ¬ sg sa (cutN xsa 40) < 0) :
    Calls Tryz.prog 10 #[.agg #[.bool sa, .slice Aa xsa.length ca], .int .u8 (k1 : Nat)] w fun e w' => e = .returned (.bool true) ∧ Ext w w' := by
  have r_a : Ri w (.agg #[.bool sa, .slice Aa xsa.length ca]) sa xsa := ⟨_, _, rfl, ua⟩
  obtain ⟨a, e_a⟩ : ∃ z, sg sa (cutN xsa 40) = z := ⟨_, rfl⟩
  have b_a : Sz a 40 := by rw [← e_a]; exact Sz.cut ua sa 40 40 (Nat.le_refl _)
  obtain ⟨m, hm⟩ : ∃ m, k1 % 9 = m := ⟨_, rfl⟩
  have hm9 : m < 9 := hm ▸ Nat.mod_lt _ (by decide)
  have hlen := zeros_len (i := 0) (by decide) b_a
  have hds := dt_short b_a
  rw [List.replicate_zero, List.nil_append] at hlen
  rw [e_a] at ha
  refine Pl.calls_by (n := 116) (vs := [.agg #[.bool sa, .slice Aa xsa.length ca], .int .u8 (k1 : Nat)]) Tryz.func10 rfl (by kernel_rfl) (by simp) ?_
  refine Pl.V_seq ?_
  refine Pl.V_region (by kernel_rfl) ?_
  refine boxS rfl rfl rfl rfl rfl (fun _ _ => trivial) ?_
  intro N1 w1 hB1 i_1
  refine Pl.qA_assign trivial rfl rfl rfl rfl rfl ?_
  refine Pl.pA_end ?_
  refine Pl.V_seq ?_
  refine Pl.V_region (by kernel_rfl) ?_
  refine Pl.pA_call rfl rfl rfl rfl rfl en12 ?_
  refine Calls.mono (zhead _) ?_
  rintro e w2 ⟨rfl, hB2⟩
  refine ⟨_, rfl, trivial, ?_⟩
  refine Pl.qA_assign trivial rfl rfl rfl rfl rfl ?_
  refine Pl.pA_end ?_
  refine Pl.V_seq ?_
  refine Pl.V_region (by kernel_rfl) ?_
  have i_1__2 := Ib.ext i_1 hB2
  refine Pl.qA_loadw trivial rfl rfl rfl rfl rfl (Ib.load i_1__2) ?_
  have r_a__2 := Ri.below r_a (Ext.below hB1 hB2)
  refine Pl.pA_call rfl rfl rfl rfl rfl en13 ?_
  refine Calls.mono (lmade _ _ sa xsa r_a__2 a e_a) ?_
  rintro e w3 ⟨v_x4, rfl, h_x4, hB3⟩
  refine ⟨_, rfl, trivial, ?_⟩
  obtain ⟨p_x4, A_x4, L_x4, c_x4, rfl⟩ := Zn.sh h_x4
  refine boxI rfl rfl rfl rfl rfl rfl rfl rfl (fun _ => rfl) (fun _ _ => trivial) ?_
  intro N5 w4 hB4 i_5
  refine Pl.pA_end ?_
  refine Pl.V_seq ?_
  refine Pl.V_region (by kernel_rfl) ?_
  refine Pl.qA_loadw trivial rfl rfl rfl rfl rfl (Ib.load i_5) ?_
  have h_x4__4 := Zn.below h_x4 hB4
  refine Pl.pA_call rfl rfl rfl rfl rfl en42 ?_
  refine Calls.mono (ztextN _ _ a h_x4__4 b_a _ (strZ_pos ha)) ?_
  rintro e w5 ⟨rfl, hB5⟩
  refine ⟨_, rfl, trivial, ?_⟩
  refine Pl.qA_assign trivial rfl rfl rfl rfl rfl ?_
  refine Pl.pA_end ?_
  refine Pl.V_seq ?_
  refine Pl.V_region (by kernel_rfl) ?_
  refine Pl.qA_move trivial rfl rfl rfl rfl rfl ?_
  refine Pl.pA_call rfl rfl rfl rfl rfl en36 ?_
  refine Calls.mono (zr_good _ false (dt 10 a.natAbs) a.natAbs (dt_lt 10 (by decide) _) hlen.1 hlen.2 (bval_dt 10 (by decide) _) _ rfl a (sg_abs_pos ha)) ?_
  rintro e w6 ⟨v_x7, rfl, h_x7, hB6⟩
  refine ⟨_, rfl, trivial, ?_⟩
  refine Pl.qA_move trivial rfl rfl rfl rfl rfl ?_
  refine Pl.qA_extract trivial rfl rfl rfl rfl rfl rfl ?_
  refine Pl.qA_extract trivial rfl rfl rfl rfl rfl rfl ?_
  refine Pl.qA_extract trivial rfl rfl rfl rfl rfl rfl ?_
  obtain ⟨p_x7, A_x7, L_x7, c_x7, rfl⟩ := Zn.sh h_x7
  refine boxI rfl rfl rfl rfl rfl rfl rfl rfl (fun _ => rfl) (fun _ _ => trivial) ?_
  intro N8 w7 hB7 i_8
  refine Pl.qA_assign trivial rfl rfl rfl rfl rfl ?_
  refine Pl.qA_assign trivial rfl rfl rfl rfl rfl ?_
  refine Pl.pA_end ?_
  refine Pl.V_seq ?_
  refine Pl.V_region (by kernel_rfl) ?_
  refine qA_field trivial rfl rfl rfl rfl rfl (fa_mag _) ?_
  have i_5__7 := Ib.ext i_5 (Ext.below hB5 (Ext.below hB6 hB7))
  refine Pl.qA_loadw trivial rfl rfl rfl rfl rfl (Ib.mag i_5__7) ?_
  have h_x4__7 := Zn.below h_x4__4 (Ext.below hB5 (Ext.below hB6 hB7))
  have mg_x4_10 := Zn.mag h_x4__7
  refine Pl.pA_call rfl rfl rfl rfl rfl en48 ?_
  refine Calls.mono (text_calls _ _ a.natAbs 10 mg_x4_10 (Nat.le_trans b_a (by decide)) (by decide) (by decide)) ?_
  rintro e w8 ⟨rfl, hB8⟩
  refine ⟨_, rfl, trivial, ?_⟩
  refine Pl.qA_move trivial rfl rfl rfl rfl rfl ?_
  refine Pl.qA_extract trivial rfl rfl rfl rfl rfl rfl ?_
  refine Pl.qA_extract trivial rfl rfl rfl rfl rfl rfl ?_
  refine Pl.qA_assign trivial rfl rfl rfl rfl rfl ?_
  refine Pl.qA_assign trivial rfl rfl rfl rfl rfl ?_
  refine Pl.pA_end ?_
  refine Pl.V_seq ?_
  refine Pl.V_seq ?_
  refine Pl.V_region (by kernel_rfl) ?_
  refine Pl.qA_move trivial rfl rfl rfl rfl rfl ?_
  refine Pl.qA_bin (v := (.bool false)) trivial rfl rfl rfl rfl rfl rfl (fun X => by go_simp) ?_
  refine Pl.qA_move trivial rfl rfl rfl rfl rfl ?_
  refine Pl.qA_move trivial rfl rfl rfl rfl rfl ?_
  refine Pl.qA_bin (v := (.bool false)) trivial rfl rfl rfl rfl rfl rfl (fun X => by go_simp) ?_
  refine Pl.qA_pick trivial rfl rfl rfl rfl rfl rfl ?_
  refine Pl.qA_move trivial rfl rfl rfl rfl rfl ?_
  have i_5__8 := Ib.ext i_5__7 hB8
  refine Pl.qA_loadw trivial rfl rfl rfl rfl rfl (Ib.load i_5__8) ?_
  have i_8__8 := Ib.ext i_8 hB8
  refine Pl.qA_loadw trivial rfl rfl rfl rfl rfl (Ib.load i_8__8) ?_
  have h_x4__8 := Zn.below h_x4__7 hB8
  have h_x7__8 := Zn.below h_x7 (Ext.below hB7 hB8)
  refine Pl.pA_call rfl rfl rfl rfl rfl en20 ?_
  refine Calls.mono (rzsame _ _ _ a a h_x4__8 h_x7__8 (Sz.le b_a (by decide)) (Sz.le b_a (by decide)) true (decide_eq_true rfl)) ?_
  rintro e w9 ⟨rfl, hB9⟩
  refine ⟨_, rfl, trivial, ?_⟩
  refine Pl.qA_un (v := (.bool false)) trivial rfl rfl rfl rfl rfl (fun X => rfl) ?_
  refine Pl.qA_pick trivial rfl rfl rfl rfl rfl rfl ?_
  refine Pl.qA_move trivial rfl rfl rfl rfl rfl ?_
  refine Pl.qA_move trivial rfl rfl rfl rfl rfl ?_
  refine Pl.qA_bin (v := (.bool false)) trivial rfl rfl rfl rfl rfl rfl (fun X => by go_simp) ?_
  refine Pl.qA_pick trivial rfl rfl rfl rfl rfl rfl ?_
  refine Pl.pA_end ?_
  refine Pl.V_false rfl ?_
  refine Pl.V_skip ?_
  refine Pl.V_seq ?_
  refine Pl.V_seq ?_
  refine Pl.V_region (by kernel_rfl) ?_
  refine qA_field trivial rfl rfl rfl rfl rfl (fa_neg _) ?_
  have i_5__9 := Ib.ext i_5__8 hB9
  refine Pl.qA_loadw trivial rfl rfl rfl rfl rfl (Ib.neg i_5__9) ?_
  obtain rfl : p_x4 = false := (Zn.negv h_x4__8).trans (decide_eq_false ha)
  refine Pl.pA_end ?_
  refine Pl.V_false rfl ?_
  refine Pl.V_skip ?_
  refine Pl.V_seq ?_
  refine Pl.V_region (by kernel_rfl) ?_
  refine Pl.qA_assign trivial rfl rfl rfl rfl rfl ?_
  refine Pl.pA_end ?_
  refine Pl.V_seq ?_
  refine Pl.V_seq ?_
  refine Pl.V_region (by kernel_rfl) ?_
  refine Pl.qA_assign trivial rfl rfl rfl rfl rfl ?_
  refine Pl.pA_end ?_
  refine Pl.V_sub [(1, (.int .u8 k1)), (4, (.bool false)), (5, (.bool true)), (6, .pointer (some ⟨N5, 0, none⟩)), (7, (.string (strD (dt 10 a.natAbs)))), (11, (.string (strD (dt 10 a.natAbs)))), (13, .string (strD (List.replicate 0 0))), (14, .int .i64 ((0 : Nat) : Int))] (Pl.subl_cons rfl (Pl.subl_cons rfl (Pl.subl_cons rfl (Pl.subl_cons rfl (Pl.subl_cons rfl (Pl.subl_cons rfl (Pl.subl_cons rfl (Pl.subl_cons rfl Pl.subl_nil)))))))) ?_
  refine Pl.V_block ?_
  refine Pl.V_loop (fun k l' w' => ∃ i : Nat, i + k = m ∧ w' = w9 ∧ l' = [(1, (.int .u8 k1)), (4, (.bool false)), (5, (.bool true)), (6, .pointer (some ⟨N5, 0, none⟩)), (7, (.string (strD (dt 10 a.natAbs)))), (11, (.string (strD (dt 10 a.natAbs)))), (13, .string (strD (List.replicate i 0))), (14, .int .i64 ((i : Nat) : Int))]) m ⟨0, by omega, rfl, rfl⟩ ?_
  rintro k _ _ ⟨i, hi, rfl, rfl⟩
  by_cases him : i < m
  · refine Pl.V_seq ?_
    refine Pl.V_seq ?_
    refine Pl.V_region (by kernel_rfl) ?_
    refine Pl.qA_move trivial rfl rfl rfl rfl rfl ?_
    refine Pl.qA_move trivial rfl rfl rfl rfl rfl ?_
    refine Pl.qA_bin (v := (.int .u8 ((m : Nat) : Int))) trivial rfl rfl rfl rfl rfl rfl (fun X => b_rem8 (b := 9) rfl hm (by decide) hk1 (by decide) X) ?_
    refine qA_conv (v := (.int .i64 ((m : Nat) : Int))) trivial rfl rfl rfl rfl rfl (fun X => cv_u8 (by omega) X) ?_
    refine Pl.qA_bin (v := (.bool true)) trivial rfl rfl rfl rfl rfl rfl (fun X => b_lss (decide_eq_true (by omega)) X) ?_
    refine Pl.pA_end ?_
    refine Pl.V_true rfl ?_
    refine Pl.V_skip ?_
    refine Pl.V_seq ?_
    refine Pl.V_block ?_
    refine Pl.V_region (by kernel_rfl) ?_
    refine Pl.qA_move trivial rfl rfl rfl rfl rfl ?_
    refine Pl.qA_bin (v := (.string (strD (List.replicate (i + 1) 0)))) trivial rfl rfl rfl rfl rfl rfl (fun X => b_adds (zeros_push i) (by rw [strD_size, List.length_replicate]; show i + 1 ≤ _; omega) X) ?_
    refine Pl.qA_assign trivial rfl rfl rfl rfl rfl ?_
    refine Pl.pA_end ?_
    refine Pl.V_endblock ?_
    refine Pl.V_region (by kernel_rfl) ?_
    refine Pl.qA_move trivial rfl rfl rfl rfl rfl ?_
    refine Pl.qA_bin (v := (.int .i64 ((i + 1 : Nat) : Int))) trivial rfl rfl rfl rfl rfl rfl (fun X => b_add (by omega) (by omega) (by omega) X) ?_
    refine Pl.qA_assign trivial rfl rfl rfl rfl rfl ?_
    refine Pl.pA_end ?_
    exact Pl.V_again [(1, (.int .u8 k1)), (4, (.bool false)), (5, (.bool true)), (6, .pointer (some ⟨N5, 0, none⟩)), (7, (.string (strD (dt 10 a.natAbs)))), (11, (.string (strD (dt 10 a.natAbs)))), (13, .string (strD (List.replicate (i + 1) 0))), (14, .int .i64 ((i + 1 : Nat) : Int))] (Pl.subl_cons rfl (Pl.subl_cons rfl (Pl.subl_cons rfl (Pl.subl_cons rfl (Pl.subl_cons rfl (Pl.subl_cons rfl (Pl.subl_cons rfl (Pl.subl_cons rfl Pl.subl_nil)))))))) (show k - 1 < k by omega) ⟨i + 1, by omega, rfl, rfl⟩
  · obtain rfl : m = i := by omega
    refine Pl.V_seq ?_
    refine Pl.V_seq ?_
    refine Pl.V_region (by kernel_rfl) ?_
    refine Pl.qA_move trivial rfl rfl rfl rfl rfl ?_
    refine Pl.qA_move trivial rfl rfl rfl rfl rfl ?_
    refine Pl.qA_bin (v := (.int .u8 ((m : Nat) : Int))) trivial rfl rfl rfl rfl rfl rfl (fun X => b_rem8 (b := 9) rfl hm (by decide) hk1 (by decide) X) ?_
    refine qA_conv (v := (.int .i64 ((m : Nat) : Int))) trivial rfl rfl rfl rfl rfl (fun X => cv_u8 (by omega) X) ?_
    refine Pl.qA_bin (v := (.bool false)) trivial rfl rfl rfl rfl rfl rfl (fun X => b_lss (decide_eq_false (by omega)) X) ?_
    refine Pl.pA_end ?_
    refine Pl.V_false rfl ?_
    refine Pl.V_exit ?_
    refine Pl.V_seq ?_
    refine Pl.V_region (by kernel_rfl) ?_
    refine Pl.qA_move trivial rfl rfl rfl rfl rfl ?_
    refine Pl.qA_move trivial rfl rfl rfl rfl rfl ?_
    refine Pl.qA_bin (v := (.string ((strD (List.replicate m 0)) ++ (strD (dt 10 a.natAbs))))) trivial rfl rfl rfl rfl rfl rfl (fun X => b_adds rfl (by simp only [ByteArray.size_append, strD_size, List.length_replicate, minus_size, show (⟨#[120]⟩ : ByteArray).size = 1 from rfl, show (⟨#[45]⟩ : ByteArray).size = 1 from rfl]; omega) X) ?_
    refine Pl.qA_assign trivial rfl rfl rfl rfl rfl ?_
    refine Pl.pA_end ?_
    refine Pl.V_seq ?_
    refine Pl.V_seq ?_
    refine Pl.V_region (by kernel_rfl) ?_
    refine qA_field trivial rfl rfl rfl rfl rfl (fa_neg _) ?_
    refine Pl.qA_loadw trivial rfl rfl rfl rfl rfl (Ib.neg i_5__9) ?_
    refine Pl.pA_end ?_
    refine Pl.V_false rfl ?_
    refine Pl.V_skip ?_
    refine Pl.V_seq ?_
    refine Pl.V_region (by kernel_rfl) ?_
    refine Pl.qA_move trivial rfl rfl rfl rfl rfl ?_
    refine Pl.pA_call rfl rfl rfl rfl rfl en36 ?_
    refine Calls.mono (zr_good _ false (List.replicate m 0 ++ dt 10 a.natAbs) a.natAbs (zeros_dig m _) (zeros_len hm9 b_a).1 (zeros_len hm9 b_a).2 (zeros_read m _) _ (by show strD _ = _; rw [strD_app]) a (sg_abs_pos ha)) ?_
    rintro e w10 ⟨v_x17, rfl, h_x17, hB10⟩
    refine ⟨_, rfl, trivial, ?_⟩
    refine Pl.qA_move trivial rfl rfl rfl rfl rfl ?_
    refine Pl.qA_extract trivial rfl rfl rfl rfl rfl rfl ?_
    refine Pl.qA_extract trivial rfl rfl rfl rfl rfl rfl ?_
    refine Pl.qA_extract trivial rfl rfl rfl rfl rfl rfl ?_
    obtain ⟨p_x17, A_x17, L_x17, c_x17, rfl⟩ := Zn.sh h_x17
    refine boxI rfl rfl rfl rfl rfl rfl rfl rfl (fun _ => rfl) (fun _ _ => trivial) ?_
    intro N18 w11 hB11 i_18
    refine Pl.qA_assign trivial rfl rfl rfl rfl rfl ?_
    refine Pl.qA_assign trivial rfl rfl rfl rfl rfl ?_
    refine Pl.pA_end ?_
    refine Pl.V_seq ?_
    refine Pl.V_region (by kernel_rfl) ?_
    refine Pl.qA_move trivial rfl rfl rfl rfl rfl ?_
    refine Pl.qA_bin (v := (.string ((strD (dt 10 a.natAbs)) ++ ⟨#[120]⟩))) trivial rfl rfl rfl rfl rfl rfl (fun X => b_adds rfl (by simp only [ByteArray.size_append, strD_size, List.length_replicate, minus_size, show (⟨#[120]⟩ : ByteArray).size = 1 from rfl, show (⟨#[45]⟩ : ByteArray).size = 1 from rfl]; omega) X) ?_
    refine Pl.pA_call rfl rfl rfl rfl rfl en36 ?_
    refine Calls.mono (zr_x _ false (dt 10 a.natAbs) (dt_lt 10 (by decide) _) hlen.1 hlen.2 _ rfl _ rfl) ?_
    rintro e w12 ⟨rfl, hB12⟩
    refine ⟨_, rfl, trivial, ?_⟩
    refine Pl.qA_move trivial rfl rfl rfl rfl rfl ?_
    refine Pl.qA_extract trivial rfl rfl rfl rfl rfl rfl ?_
    refine Pl.qA_extract trivial rfl rfl rfl rfl rfl rfl ?_
    refine Pl.qA_extract trivial rfl rfl rfl rfl rfl rfl ?_
    refine boxI rfl rfl rfl rfl rfl rfl rfl rfl (fun _ => rfl) (fun _ _ => trivial) ?_
    intro N19 w13 hB13 i_19
    refine Pl.qA_assign trivial rfl rfl rfl rfl rfl ?_
    refine Pl.qA_assign trivial rfl rfl rfl rfl rfl ?_
    refine Pl.pA_end ?_
    refine Pl.V_seq ?_
    refine Pl.V_region (by kernel_rfl) ?_
    refine Pl.qA_move trivial rfl rfl rfl rfl rfl ?_
    refine Pl.qA_move trivial rfl rfl rfl rfl rfl ?_
    refine Pl.qA_move trivial rfl rfl rfl rfl rfl ?_
    refine Pl.qA_move trivial rfl rfl rfl rfl rfl ?_
    refine Pl.qA_bin (v := (.bool true)) trivial rfl rfl rfl rfl rfl rfl (fun X => b_eqs rfl X) ?_
    refine Pl.qA_pick trivial rfl rfl rfl rfl rfl rfl ?_
    refine Pl.qA_move trivial rfl rfl rfl rfl rfl ?_
    refine Pl.qA_move trivial rfl rfl rfl rfl rfl ?_
    refine Pl.qA_bin (v := (.bool true)) trivial rfl rfl rfl rfl rfl rfl (fun X => by go_simp) ?_
    refine Pl.qA_pick trivial rfl rfl rfl rfl rfl rfl ?_
    refine Pl.qA_move trivial rfl rfl rfl rfl rfl ?_
    have i_18__13 := Ib.ext i_18 (Ext.below hB12 hB13)
    refine Pl.qA_loadw trivial rfl rfl rfl rfl rfl (Ib.load i_18__13) ?_
    have i_5__13 := Ib.ext i_5__9 (Ext.below hB10 (Ext.below hB11 (Ext.below hB12 hB13)))
    refine Pl.qA_loadw trivial rfl rfl rfl rfl rfl (Ib.load i_5__13) ?_
    have h_x17__13 := Zn.below h_x17 (Ext.below hB11 (Ext.below hB12 hB13))
    have h_x4__13 := Zn.below h_x4__8 (Ext.below hB9 (Ext.below hB10 (Ext.below hB11 (Ext.below hB12 hB13))))
    refine Pl.pA_call rfl rfl rfl rfl rfl en20 ?_
    refine Calls.mono (rzsame _ _ _ a a h_x17__13 h_x4__13 (Sz.le b_a (by decide)) (Sz.le b_a (by decide)) true (decide_eq_true rfl)) ?_
    rintro e w14 ⟨rfl, hB14⟩
    refine ⟨_, rfl, trivial, ?_⟩
    refine Pl.qA_pick trivial rfl rfl rfl rfl rfl rfl ?_
    refine Pl.qA_move trivial rfl rfl rfl rfl rfl ?_
    refine Pl.qA_move trivial rfl rfl rfl rfl rfl ?_
    refine Pl.qA_bin (v := (.bool true)) trivial rfl rfl rfl rfl rfl rfl (fun X => by go_simp) ?_
    refine Pl.qA_pick trivial rfl rfl rfl rfl rfl rfl ?_
    refine Pl.qA_move trivial rfl rfl rfl rfl rfl ?_
    refine Pl.qA_move trivial rfl rfl rfl rfl rfl ?_
    refine Pl.qA_move trivial rfl rfl rfl rfl rfl ?_
    refine qA_lens trivial rfl rfl rfl rfl rfl ?_
    refine Pl.qA_bin (v := (.bool true)) trivial rfl rfl rfl rfl rfl rfl (fun X => b_eql (beq_self_eq_true _) X) ?_
    refine Pl.qA_pick trivial rfl rfl rfl rfl rfl rfl ?_
    refine Pl.qA_assign trivial rfl rfl rfl rfl rfl ?_
    refine Pl.pA_end ?_
    refine Pl.post_ret rfl rfl ?_
    exact ⟨rfl, (Ext.below hB1 (Ext.below hB2 (Ext.below hB3 (Ext.below hB4 (Ext.below hB5 (Ext.below hB6 (Ext.below hB7 (Ext.below hB8 (Ext.below hB9 (Ext.below hB10 (Ext.below hB11 (Ext.below hB12 (Ext.below hB13 hB14)))))))))))))⟩
theorem IntegerTexts_walk (w : World) (sa : Bool) (Aa : Option Addr) (ca : Nat) (xsa : List Nat) (ua : U w (.slice Aa xsa.length ca) xsa) (k1 : Nat) (hk1 : k1 < 256) :
    Calls Tryz.prog 10 #[.agg #[.bool sa, .slice Aa xsa.length ca], .int .u8 (k1 : Nat)] w fun e w' => e = .returned (.bool true) ∧ Ext w w' := by
  by_cases ha : sg sa (cutN xsa 40) < 0
  · exact IntegerTexts_walkN w sa Aa ca xsa ua k1 hk1 ha
  · exact IntegerTexts_walkP w sa Aa ca xsa ua k1 hk1 ha
end Go.Proofs.YtfkcdmbiihkiiaaGreatDoor
/- Proved: what the statement IntegerTexts does: what is written is read as it was, with noughts ahead, too; the digits are those of the size, in base 10: it tells true. No condition. -/
namespace Go.Proofs.YtfkcdmbiihkiiaaGreatDoor
open Go.ChangeShapes Go.WideShapes Go.ChangeAt Go.RowKit
set_option linter.unusedVariables false
set_option maxHeartbeats 2000000

set_option maxRecDepth 100000 in
theorem lifted_IntegerTexts (os : Os) (started : os.Started) (H : Type) (enc : TypeId × Value → H) :
    ReturnsInHanded {} Tryz.checked os 10 .any (fun w args => (Rows.integerTextsSpec.pre enc Tryz.prog Tryz.f10 [] false w args ∧ laidMetH Tryz.prog laidV w) ∧ sizedMet enc Tryz.prog Tryz.f10 (OpenSpec.ofChange Rows.integerTextsSpec) false w args)
      (Rows.integerTextsSpec.post enc Tryz.prog Tryz.f10 false true false false) := by
  refine returnsInHanded_of_change_and (C := Tryz.checked) (X := fun w _ => laidMetH Tryz.prog laidV w) (fun _ _ _ hh h => h.of_heap hh) own started (by kernel_rfl) Tryz.func10
    (ChangeSpec.witness_shaped (enc := enc) (C := Tryz.checked) (os := os) (X := fun w _ => laidMetH Tryz.prog laidV w) false (World.laidAll Tryz.prog os laidV) #[.agg #[.bool false, .slice none 0 0], .int .u8 0] 8 (World.laidAll_os _ _ _) (World.shaped_of_ZipB (by kernel_rfl) (by kernel_rfl)) (by kernel_rfl) (by kernel_rfl) (by kernel_rfl) (laid_met os _)) ?_
  intro W base args ds gs before hval0 hW _ _ hL _
  have hval : ∀ (j : Nat) t v, Tryz.f10.params[j]? = some t → args[j]? = some v → Value.okWide Tryz.prog W .any base t v := hval0
  have hW' := hW
  obtain ⟨p, q, hA0, hV, rfl, hfz, hnd⟩ := hW
  have hlt : ∀ x ∈ p ++ q, x.block < W.heap.size := fun x hx => hW'.lt x hx
  have hA : DataW.TrodAll enc Tryz.prog W 0 (fun _ => true) true Tryz.f10.params.toList args.toList ds p := hA0
  rw [Tryz.params10] at hA hval
  clear hA0 hval0
  obtain ⟨v0, vs0, d0, ds0, p0, q0, hargs0, rfl, rfl, h0, r0⟩ := trodAll_cons hA
  obtain ⟨v1, vs1, d1, ds1, p1, q1, hargs1, rfl, rfl, h1, r1⟩ := trodAll_cons r0
  obtain ⟨hn1, rfl, rfl⟩ := trodAll_nil r1
  subst hn1
  subst hargs1
  obtain rfl : args = #[v0, v1] := by cases args; simp_all
  obtain ⟨rfl, rfl⟩ := trodVars_none hV
  obtain ⟨s0a, A0a, c0a, x0a, hv0, u0a⟩ := open_I1 (hval 0 24 v0 rfl rfl) h0
  subst hv0
  obtain ⟨z1, rfl, rfl, rfl, hz1⟩ := open_int Tryz.underlying5 (hval 1 5 v1 rfl rfl) h1
  have hb1 := bounds_u8 hz1
  obtain ⟨n1, rfl⟩ := Int.eq_ofNat_of_zero_le (show 0 ≤ z1 by omega)
  refine (IntegerTexts_walk W s0a A0a c0a x0a u0a n1 (by omega)).mono fun e W' ⟨he, hB⟩ => ?_
  subst he
  exact ⟨_, rfl, law_post hW' rfl (by rw [Tryz.params10]; decide +kernel) rfl rfl rfl rfl hB⟩

theorem integerTexts_said : Rows.IntegerTextsSaid :=
  OpenClaim.holds_of_wide 10 Tryz.f10 rfl rfl rfl rfl rfl rfl rfl ⟨rfl, rfl, rfl, rfl, rfl⟩ rfl rfl rfl rfl rfl (by kernel_rfl) Tryz.func10 (by kernel_rfl)
    (of_decide_eq_true (by kernel_rfl)) (by unfold Func.isWrapper; first | (rw [if_pos (by decide +kernel)]; kernel_rfl) | (rw [if_neg (by decide +kernel)]; exact ⟨rfl, rfl⟩))
    (fun os started H enc _ => lifted_IntegerTexts os started H enc)
/-- The statement: the card, tied. -/
theorem integerTexts_holds : Rows.IntegerTextsCardSaid :=
  Claim7.holds_tied_plain_at .later [] [.data, .wider, .pinned] true Rows.integerTextsCard.stood.harness false
    integerTexts_said (fun _ h => by cases h) (by kernel_rfl) (fun _ h => by cases h) integerTexts_row_tie rfl ⟨rfl, rfl⟩ (by kernel_rfl) rfl
    (fun f fn hf hfn => by
      obtain rfl : f = 10 := Option.some.inj ((show Tryz.prog.funcNamed "ziggurat/zigguratlaw06.IntegerTexts" = some 10 by kernel_rfl).symm.trans hf) |>.symm
      obtain rfl : fn = Tryz.f10 := (Option.some.inj (Tryz.func10.symm.trans hfn)).symm
      exact ⟨by kernel_rfl, fun j t ht => by
        rw [Tryz.params10] at ht
        have hm : t ∈ [24, 5] := by simpa using Array.mem_of_getElem? ht
        have hall : ([24, 5].all fun u => !Tryz.prog.wantsStandIn u) = true := by kernel_rfl
        exact (show Tryz.prog.wantsStandIn t = false by simpa using List.all_eq_true.1 hall t hm)⟩)
    (by kernel_rfl)
end Go.Proofs.YtfkcdmbiihkiiaaGreatDoor
