/- Proved: what the statement IntegerRests does: rests by one limb add and multiply as their numbers do: it tells true. No condition. -/
import Derived.Test.YtfkcdmbiihkiiaaGreatDoorBbe
import Derived.Test.YtfkcdmbiihkiiaaGreatDoorBaj
import Derived.Test.YtfkcdmbiihkiiaaGreatDoorBaw
import Derived.Test.YtfkcdmbiihkiiaaGreatDoorBbk
import Derived.Test.YtfkcdmbiihkiiaaGreatDoorBbi
import Derived.Test.YtfkcdmbiihkiiaaGreatDoorBak
import Derived.Test.YtfkcdmbiihkiiaaGreatDoorBbd
import Derived.Test.YtfkcdmbiihkiiaaGreatDoorBbj
import Derived.Test.YtfkcdmbiihkiiaaGreatDoorBbf
import Derived.Test.YtfkcdmbiihkiiaaGreatDoorBbh
import Derived.Test.YtfkcdmbiihkiiaaGreatDoorBbm
import Derived.Test.YtfkcdmbiihkiiaaGreatDoorBbl
import Derived.Test.YtfkcdmbiihkiiaaGreatDoorBau
import Derived.Deep.RegionHeld3

namespace Go.Proofs.YtfkcdmbiihkiiaaGreatDoor
open Go.RowKit
set_option linter.unusedVariables false
set_option maxHeartbeats 400000

set_option maxRecDepth 100000 in
set_option maxHeartbeats 8000000 in
theorem zsub (w : World) (va vb : Value) (a b : Int) (ha : Zn w va a) (hb : Zn w vb b) (hl : (limbs a.natAbs).length ≤ 1000000) (hl2 : (limbs b.natAbs).length ≤ 1000000) (y : Int) (hy : a - b = y) :
    Calls Tryz.prog 31 #[va, vb] w fun e w' => ∃ u, e = .returned u ∧ Zn w' u y ∧ Ext w w' := by
  have hN := Lib.hid (fun W h => zneg W vb b h (-b) rfl)
  have hA := Lib.hid (fun W u h (g : Zn W u (-b)) => zadd W va u a (-b) h g hl (by rw [Int.natAbs_neg]; exact hl2) y (by rw [← Int.sub_eq_add_neg]; exact hy))
  have ha' := ha
  have hb' := hb
  obtain ⟨p, A, L, c, n, rfl, hu, hL, hz, -, hza, hzn⟩ := ha.open
  obtain ⟨q, B, K, d, m, rfl, hv, hK, hz2, -, hza2, hzn2⟩ := hb.open
  have hE0 := ((((Ext.refl w).alloc (.cells #[.bool p, .slice A L c] 24)).alloc (.cells #[.bool q, .slice B K d] 24)).alloc (.cells #[.bool false, .slice none 0 0] 24)).drew
  have hI0 := (Ib.new3 w (.cells #[.bool p, .slice A L c] 24) (.cells #[.bool q, .slice B K d] 24) false (.slice none 0 0) 24).ext (Ext.refl _).drew
  have hP0 := (Ib.new w p (.slice A L c) 24).ext ((((Ext.refl _).alloc (.cells #[.bool q, .slice B K d] 24)).alloc (.cells #[.bool false, .slice none 0 0] 24)).drew)
  have hQ0 := (Ib.new2 w (.cells #[.bool p, .slice A L c] 24) q (.slice B K d) 24).ext (((Ext.refl _).alloc (.cells #[.bool false, .slice none 0 0] 24)).drew)
  have hS0 : (w.heap.size + 1 + 1 < (((w.alloc (.cells #[.bool p, .slice A L c] 24)).alloc (.cells #[.bool q, .slice B K d] 24)).alloc (.cells #[.bool false, .slice none 0 0] 24)).drew.heap.size ∧ (((w.alloc (.cells #[.bool p, .slice A L c] 24)).alloc (.cells #[.bool q, .slice B K d] 24)).alloc (.cells #[.bool false, .slice none 0 0] 24)).drew.cell? ⟨w.heap.size, 0, none⟩ = some (.bool p) ∧ (((w.alloc (.cells #[.bool p, .slice A L c] 24)).alloc (.cells #[.bool q, .slice B K d] 24)).alloc (.cells #[.bool false, .slice none 0 0] 24)).drew.cell? ⟨w.heap.size, 1, none⟩ = some (.slice A L c) ∧ (((w.alloc (.cells #[.bool p, .slice A L c] 24)).alloc (.cells #[.bool q, .slice B K d] 24)).alloc (.cells #[.bool false, .slice none 0 0] 24)).drew.cell? ⟨w.heap.size + 1, 0, none⟩ = some (.bool q) ∧ (((w.alloc (.cells #[.bool p, .slice A L c] 24)).alloc (.cells #[.bool q, .slice B K d] 24)).alloc (.cells #[.bool false, .slice none 0 0] 24)).drew.cell? ⟨w.heap.size + 1, 1, none⟩ = some (.slice B K d)) ∧ Ext w (((w.alloc (.cells #[.bool p, .slice A L c] 24)).alloc (.cells #[.bool q, .slice B K d] 24)).alloc (.cells #[.bool false, .slice none 0 0] 24)).drew := ⟨⟨by simp, hP0.2.1, hP0.2.2.1, hQ0.2.1, hQ0.2.2.1⟩, hE0⟩
  have ha0 := ha'.below hE0
  have hb0 := hb'.below hE0
  clear hl hl2 hza hzn hza2 hzn2 hz hz2 hL hK ha hb hy hP0 hQ0 ha' hb'
  go_enter Tryz.func31, Tryz.ntmps31
  go_wp2
  go_region_held3 (fun X => (w.heap.size + 1 + 1 < X.heap.size ∧ X.cell? ⟨w.heap.size, 0, none⟩ = some (.bool p) ∧ X.cell? ⟨w.heap.size, 1, none⟩ = some (.slice A L c) ∧ X.cell? ⟨w.heap.size + 1, 0, none⟩ = some (.bool q) ∧ X.cell? ⟨w.heap.size + 1, 1, none⟩ = some (.slice B K d)) ∧ Ext w X)
    (first
      | exact hS0
      | exact keepI2 (by assumption) (by assumption)
      | exact keepS2 (by assumption))
    (first
      | (go_at_call 27; ((with_reducible refine (hN.out _ hb0).mono ?_); rintro e w2 ⟨u, rfl, hz2, hE2⟩; obtain ⟨b2, A2, L2, c2, rfl⟩ := hz2.sh))
      | (go_at_call 29; ((with_reducible refine (hA.out _ _ (ha0.below hE2) hz2).mono ?_); rintro e w3 ⟨u, rfl, hz3, hE3⟩; obtain ⟨b3, A3, L3, c3, rfl⟩ := hz3.sh; have hI3 := (hI0.ext hE2).ext hE3; obtain ⟨i0, i1, i2, i3, i4⟩ := id hI3)))
  clear hN hA
  clear hI3
  go_wp2
  (try simp only [Exit.inBlock, Exit.then])
  refine bodyPost_ret (v := .agg #[.bool b3, .slice A3 L3 c3]) (show (results _ _).run _ _ = _ from ?_) rfl ⟨_, rfl, hz3.put2 ((hI0.ext hE2).ext hE3) (slice_no_int _ _ _) _ _, ((hE0.below hE2).below hE3).put2 (by omega) _ _⟩
  simp only [results]
  go_simp
end Go.Proofs.YtfkcdmbiihkiiaaGreatDoor
/- Proved: what the statement IntegerRests does: rests by one limb add and multiply as their numbers do: it tells true. No condition. -/
namespace Go.Proofs.YtfkcdmbiihkiiaaGreatDoor
open Go.RowKit
set_option linter.unusedVariables false
set_option linter.unusedSimpArgs false
set_option maxHeartbeats 400000

namespace Rest6
theorem en12 (u : Array Value) (X : World) : (callFunc 12 u).run Tryz.prog X = .ok (.enter 12 u) X := Pl.enters Tryz.func12 (by kernel_rfl) rfl u X
theorem en13 (u : Array Value) (X : World) : (callFunc 13 u).run Tryz.prog X = .ok (.enter 13 u) X := Pl.enters Tryz.func13 (by kernel_rfl) rfl u X
theorem en14 (u : Array Value) (X : World) : (callFunc 14 u).run Tryz.prog X = .ok (.enter 14 u) X := Pl.enters Tryz.func14 (by kernel_rfl) rfl u X
theorem en20 (u : Array Value) (X : World) : (callFunc 20 u).run Tryz.prog X = .ok (.enter 20 u) X := Pl.enters Tryz.func20 (by kernel_rfl) rfl u X
theorem en22 (u : Array Value) (X : World) : (callFunc 22 u).run Tryz.prog X = .ok (.enter 22 u) X := Pl.enters Tryz.func22 (by kernel_rfl) rfl u X
theorem en29 (u : Array Value) (X : World) : (callFunc 29 u).run Tryz.prog X = .ok (.enter 29 u) X := Pl.enters Tryz.func29 (by kernel_rfl) rfl u X
theorem en33 (u : Array Value) (X : World) : (callFunc 33 u).run Tryz.prog X = .ok (.enter 33 u) X := Pl.enters Tryz.func33 (by kernel_rfl) rfl u X
theorem en44 (u : Array Value) (X : World) : (callFunc 44 u).run Tryz.prog X = .ok (.enter 44 u) X := Pl.enters Tryz.func44 (by kernel_rfl) rfl u X
theorem en49 (u : Array Value) (X : World) : (callFunc 49 u).run Tryz.prog X = .ok (.enter 49 u) X := Pl.enters Tryz.func49 (by kernel_rfl) rfl u X
end Rest6
open Rest6
set_option maxRecDepth 100000 in
set_option maxHeartbeats 4000000 in
theorem IntegerRests_walkZ (w : World) (sa : Bool) (Aa : Option Addr) (ca : Nat) (xsa : List Nat) (ua : U w (.slice Aa xsa.length ca) xsa) (sb : Bool) (Ab : Option Addr) (cb : Nat) (xsb : List Nat) (ub : U w (.slice Ab xsb.length cb) xsb) (k1 : Nat) (hk1 : k1 < 4294967296) (hz : k1 = 0) :
    Calls Tryz.prog 11 #[.agg #[.bool sa, .slice Aa xsa.length ca, .bool sb, .slice Ab xsb.length cb], .int .u32 (k1 : Nat)] w fun e w' => e = .returned (.bool true) ∧ Ext w w' := by
  have r_a : Ri w (.agg #[.bool sa, .slice Aa xsa.length ca]) sa xsa := ⟨_, _, rfl, ua⟩
  obtain ⟨a, e_a⟩ : ∃ z, sg sa (cutN xsa 40) = z := ⟨_, rfl⟩
  have b_a : Sz a 40 := by rw [← e_a]; exact Sz.cut ua sa 40 40 (Nat.le_refl _)
  have r_b : Ri w (.agg #[.bool sb, .slice Ab xsb.length cb]) sb xsb := ⟨_, _, rfl, ub⟩
  obtain ⟨b, e_b⟩ : ∃ z, sg sb (cutN xsb 40) = z := ⟨_, rfl⟩
  have b_b : Sz b 40 := by rw [← e_b]; exact Sz.cut ub sb 40 40 (Nat.le_refl _)
  refine Pl.calls_by (n := 137) (vs := [.agg #[.bool sa, .slice Aa xsa.length ca, .bool sb, .slice Ab xsb.length cb], .int .u32 (k1 : Nat)]) Tryz.func11 rfl (by kernel_rfl) (by simp) ?_
  refine Pl.V_seq ?_
  refine Pl.V_region (by kernel_rfl) ?_
  refine boxA2 rfl rfl rfl rfl rfl (fun _ _ => trivial) ?_
  intro N1 w1 hB1 j0_1 j1_1
  refine Pl.qA_assign trivial rfl rfl rfl rfl rfl ?_
  refine Pl.pA_end ?_
  refine Pl.V_seq ?_
  refine Pl.V_region (by kernel_rfl) ?_
  refine Pl.pA_call rfl rfl rfl rfl rfl en12 ?_
  refine Calls.mono (zhead _) ?_
  rintro e w2 ⟨rfl, hB2⟩
  refine ⟨_, rfl, trivial, ?_⟩
  refine Pl.qA_assign trivial rfl rfl rfl rfl rfl ?_
  refine Pl.pA_end ?_
  refine Pl.V_seq ?_
  refine Pl.V_region (by kernel_rfl) ?_
  refine idxA trivial rfl rfl rfl rfl rfl rfl (ix20 _) ?_
  have j0_1__2 := Io.ext j0_1 hB2
  refine Pl.qA_loadw trivial rfl rfl rfl rfl rfl (Io.load j0_1__2) ?_
  have r_a__2 := Ri.below r_a (Ext.below hB1 hB2)
  refine Pl.pA_call rfl rfl rfl rfl rfl en13 ?_
  refine Calls.mono (lmade _ _ sa xsa r_a__2 a e_a) ?_
  rintro e w3 ⟨v_x4, rfl, h_x4, hB3⟩
  refine ⟨_, rfl, trivial, ?_⟩
  obtain ⟨p_x4, A_x4, L_x4, c_x4, rfl⟩ := Zn.sh h_x4
  refine boxI rfl rfl rfl rfl rfl rfl rfl rfl (fun _ => rfl) (fun _ _ => trivial) ?_
  intro N5 w4 hB4 i_5
  refine Pl.pA_end ?_
  refine Pl.V_seq ?_
  refine Pl.V_region (by kernel_rfl) ?_
  refine idxA trivial rfl rfl rfl rfl rfl rfl (ix21 _) ?_
  have j1_1__4 := Io.ext j1_1 (Ext.below hB2 (Ext.below hB3 hB4))
  refine Pl.qA_loadw trivial rfl rfl rfl rfl rfl (Io.load j1_1__4) ?_
  have r_b__4 := Ri.below r_b (Ext.below hB1 (Ext.below hB2 (Ext.below hB3 hB4)))
  refine Pl.pA_call rfl rfl rfl rfl rfl en13 ?_
  refine Calls.mono (lmade _ _ sb xsb r_b__4 b e_b) ?_
  rintro e w5 ⟨v_x8, rfl, h_x8, hB5⟩
  refine ⟨_, rfl, trivial, ?_⟩
  obtain ⟨p_x8, A_x8, L_x8, c_x8, rfl⟩ := Zn.sh h_x8
  refine boxI rfl rfl rfl rfl rfl rfl rfl rfl (fun _ => rfl) (fun _ _ => trivial) ?_
  intro N9 w6 hB6 i_9
  refine Pl.pA_end ?_
  refine Pl.V_seq ?_
  refine Pl.V_seq ?_
  refine Pl.V_region (by kernel_rfl) ?_
  refine Pl.qA_move trivial rfl rfl rfl rfl rfl ?_
  refine Pl.qA_bin (v := (.bool true)) trivial rfl rfl rfl rfl rfl rfl (fun X => b_equ (beq_iff_eq.2 (by omega)) X) ?_
  refine Pl.pA_end ?_
  refine Pl.V_true rfl ?_
  refine Pl.V_seq ?_
  refine Pl.V_region (by kernel_rfl) ?_
  refine Pl.qA_move trivial rfl rfl rfl rfl rfl ?_
  refine Pl.qA_assign trivial rfl rfl rfl rfl rfl ?_
  refine Pl.pA_end ?_
  refine Pl.post_ret rfl rfl ?_
  exact ⟨rfl, (Ext.below hB1 (Ext.below hB2 (Ext.below hB3 (Ext.below hB4 (Ext.below hB5 hB6)))))⟩
set_option maxRecDepth 100000 in
set_option maxHeartbeats 4000000 in
theorem IntegerRests_walkA (w : World) (sa : Bool) (Aa : Option Addr) (ca : Nat) (xsa : List Nat) (ua : U w (.slice Aa xsa.length ca) xsa) (sb : Bool) (Ab : Option Addr) (cb : Nat) (xsb : List Nat) (ub : U w (.slice Ab xsb.length cb) xsb) (k1 : Nat) (hk1 : k1 < 4294967296) (hz : ¬ k1 = 0) :
    Calls Tryz.prog 11 #[.agg #[.bool sa, .slice Aa xsa.length ca, .bool sb, .slice Ab xsb.length cb], .int .u32 (k1 : Nat)] w fun e w' => e = .returned (.bool true) ∧ Ext w w' := by
  have r_a : Ri w (.agg #[.bool sa, .slice Aa xsa.length ca]) sa xsa := ⟨_, _, rfl, ua⟩
  obtain ⟨a, e_a⟩ : ∃ z, sg sa (cutN xsa 40) = z := ⟨_, rfl⟩
  have b_a : Sz a 40 := by rw [← e_a]; exact Sz.cut ua sa 40 40 (Nat.le_refl _)
  have r_b : Ri w (.agg #[.bool sb, .slice Ab xsb.length cb]) sb xsb := ⟨_, _, rfl, ub⟩
  obtain ⟨b, e_b⟩ : ∃ z, sg sb (cutN xsb 40) = z := ⟨_, rfl⟩
  have b_b : Sz b 40 := by rw [← e_b]; exact Sz.cut ub sb 40 40 (Nat.le_refl _)
  have hk0 : ((k1 : Nat) : Int) ≠ 0 := by omega
  refine Pl.calls_by (n := 137) (vs := [.agg #[.bool sa, .slice Aa xsa.length ca, .bool sb, .slice Ab xsb.length cb], .int .u32 (k1 : Nat)]) Tryz.func11 rfl (by kernel_rfl) (by simp) ?_
  refine Pl.V_seq ?_
  refine Pl.V_region (by kernel_rfl) ?_
  refine boxA2 rfl rfl rfl rfl rfl (fun _ _ => trivial) ?_
  intro N1 w1 hB1 j0_1 j1_1
  refine Pl.qA_assign trivial rfl rfl rfl rfl rfl ?_
  refine Pl.pA_end ?_
  refine Pl.V_seq ?_
  refine Pl.V_region (by kernel_rfl) ?_
  refine Pl.pA_call rfl rfl rfl rfl rfl en12 ?_
  refine Calls.mono (zhead _) ?_
  rintro e w2 ⟨rfl, hB2⟩
  refine ⟨_, rfl, trivial, ?_⟩
  refine Pl.qA_assign trivial rfl rfl rfl rfl rfl ?_
  refine Pl.pA_end ?_
  refine Pl.V_seq ?_
  refine Pl.V_region (by kernel_rfl) ?_
  refine idxA trivial rfl rfl rfl rfl rfl rfl (ix20 _) ?_
  have j0_1__2 := Io.ext j0_1 hB2
  refine Pl.qA_loadw trivial rfl rfl rfl rfl rfl (Io.load j0_1__2) ?_
  have r_a__2 := Ri.below r_a (Ext.below hB1 hB2)
  refine Pl.pA_call rfl rfl rfl rfl rfl en13 ?_
  refine Calls.mono (lmade _ _ sa xsa r_a__2 a e_a) ?_
  rintro e w3 ⟨v_x4, rfl, h_x4, hB3⟩
  refine ⟨_, rfl, trivial, ?_⟩
  obtain ⟨p_x4, A_x4, L_x4, c_x4, rfl⟩ := Zn.sh h_x4
  refine boxI rfl rfl rfl rfl rfl rfl rfl rfl (fun _ => rfl) (fun _ _ => trivial) ?_
  intro N5 w4 hB4 i_5
  refine Pl.pA_end ?_
  refine Pl.V_seq ?_
  refine Pl.V_region (by kernel_rfl) ?_
  refine idxA trivial rfl rfl rfl rfl rfl rfl (ix21 _) ?_
  have j1_1__4 := Io.ext j1_1 (Ext.below hB2 (Ext.below hB3 hB4))
  refine Pl.qA_loadw trivial rfl rfl rfl rfl rfl (Io.load j1_1__4) ?_
  have r_b__4 := Ri.below r_b (Ext.below hB1 (Ext.below hB2 (Ext.below hB3 hB4)))
  refine Pl.pA_call rfl rfl rfl rfl rfl en13 ?_
  refine Calls.mono (lmade _ _ sb xsb r_b__4 b e_b) ?_
  rintro e w5 ⟨v_x8, rfl, h_x8, hB5⟩
  refine ⟨_, rfl, trivial, ?_⟩
  obtain ⟨p_x8, A_x8, L_x8, c_x8, rfl⟩ := Zn.sh h_x8
  refine boxI rfl rfl rfl rfl rfl rfl rfl rfl (fun _ => rfl) (fun _ _ => trivial) ?_
  intro N9 w6 hB6 i_9
  refine Pl.pA_end ?_
  refine Pl.V_seq ?_
  refine Pl.V_seq ?_
  refine Pl.V_region (by kernel_rfl) ?_
  refine Pl.qA_move trivial rfl rfl rfl rfl rfl ?_
  refine Pl.qA_bin (v := (.bool false)) trivial rfl rfl rfl rfl rfl rfl (fun X => b_equ (beq_eq_false_iff_ne.2 (by omega)) X) ?_
  refine Pl.pA_end ?_
  refine Pl.V_false rfl ?_
  refine Pl.V_skip ?_
  refine Pl.V_seq ?_
  refine Pl.V_region (by kernel_rfl) ?_
  refine Pl.qA_move trivial rfl rfl rfl rfl rfl ?_
  refine qA_conv (v := (.int .i64 ((k1 : Nat) : Int))) trivial rfl rfl rfl rfl rfl (fun X => cv_u32 hk1 X) ?_
  refine Pl.pA_call rfl rfl rfl rfl rfl en44 ?_
  refine Calls.mono (zof _ ((k1 : Nat) : Int) (by omega) (by omega)) ?_
  rintro e w7 ⟨v_x10, rfl, h_x10, hB7⟩
  refine ⟨_, rfl, trivial, ?_⟩
  have b_x10 : Sz ((k1 : Nat) : Int) 1 := Sz.small (by omega)
  obtain ⟨p_x10, A_x10, L_x10, c_x10, rfl⟩ := Zn.sh h_x10
  refine boxI rfl rfl rfl rfl rfl rfl rfl rfl (fun _ => rfl) (fun _ _ => trivial) ?_
  intro N11 w8 hB8 i_11
  refine Pl.pA_end ?_
  refine Pl.V_seq ?_
  refine Pl.V_region (by kernel_rfl) ?_
  have i_5__8 := Ib.ext i_5 (Ext.below hB5 (Ext.below hB6 (Ext.below hB7 hB8)))
  refine Pl.qA_loadw trivial rfl rfl rfl rfl rfl (Ib.load i_5__8) ?_
  refine Pl.qA_loadw trivial rfl rfl rfl rfl rfl (Ib.load i_11) ?_
  have h_x4__8 := Zn.below h_x4 (Ext.below hB4 (Ext.below hB5 (Ext.below hB6 (Ext.below hB7 hB8))))
  have h_x10__8 := Zn.below h_x10 hB8
  refine Pl.pA_call rfl rfl rfl rfl rfl en14 ?_
  refine Calls.mono (zdiv_D _ _ _ a ((k1 : Nat) : Int) h_x4__8 h_x10__8 (Sz.le b_a (by decide)) (Sz.le b_x10 (by decide)) hk0 _ _ rfl rfl) ?_
  rintro e w9 ⟨⟨v_x15, v_x16, rfl, h_x15, h_x16⟩, hB9⟩
  refine ⟨_, rfl, trivial, ?_⟩
  have b_x15 : Sz (a / ((k1 : Nat) : Int)) 40 := Sz.div b_a
  have b_x16 : Sz (a % ((k1 : Nat) : Int)) 1 := Sz.mod b_x10 hk0
  refine Pl.qA_move trivial rfl rfl rfl rfl rfl ?_
  refine Pl.qA_extract trivial rfl rfl rfl rfl rfl rfl ?_
  refine Pl.qA_extract trivial rfl rfl rfl rfl rfl rfl ?_
  refine Pl.qA_extract trivial rfl rfl rfl rfl rfl rfl ?_
  obtain ⟨p_x15, A_x15, L_x15, c_x15, rfl⟩ := Zn.sh h_x15
  obtain ⟨p_x16, A_x16, L_x16, c_x16, rfl⟩ := Zn.sh h_x16
  refine boxI2 rfl rfl rfl rfl rfl rfl rfl rfl rfl rfl rfl rfl rfl rfl rfl rfl rfl (fun _ _ => rfl) (fun _ _ => rfl) (fun _ _ => trivial) ?_
  intro N17 N18 w10 hB10 i_17 i_18
  refine Pl.qA_assign trivial rfl rfl rfl rfl rfl ?_
  refine Pl.pA_end ?_
  refine Pl.V_seq ?_
  refine Pl.V_region (by kernel_rfl) ?_
  have i_9__10 := Ib.ext i_9 (Ext.below hB7 (Ext.below hB8 (Ext.below hB9 hB10)))
  refine Pl.qA_loadw trivial rfl rfl rfl rfl rfl (Ib.load i_9__10) ?_
  have i_11__10 := Ib.ext i_11 (Ext.below hB9 hB10)
  refine Pl.qA_loadw trivial rfl rfl rfl rfl rfl (Ib.load i_11__10) ?_
  have h_x8__10 := Zn.below h_x8 (Ext.below hB6 (Ext.below hB7 (Ext.below hB8 (Ext.below hB9 hB10))))
  have h_x10__10 := Zn.below h_x10__8 (Ext.below hB9 hB10)
  refine Pl.pA_call rfl rfl rfl rfl rfl en14 ?_
  refine Calls.mono (zdiv_D _ _ _ b ((k1 : Nat) : Int) h_x8__10 h_x10__10 (Sz.le b_b (by decide)) (Sz.le b_x10 (by decide)) hk0 _ _ rfl rfl) ?_
  rintro e w11 ⟨⟨v_x23, v_x24, rfl, h_x23, h_x24⟩, hB11⟩
  refine ⟨_, rfl, trivial, ?_⟩
  have b_x23 : Sz (b / ((k1 : Nat) : Int)) 40 := Sz.div b_b
  have b_x24 : Sz (b % ((k1 : Nat) : Int)) 1 := Sz.mod b_x10 hk0
  refine Pl.qA_move trivial rfl rfl rfl rfl rfl ?_
  refine Pl.qA_extract trivial rfl rfl rfl rfl rfl rfl ?_
  refine Pl.qA_extract trivial rfl rfl rfl rfl rfl rfl ?_
  refine Pl.qA_extract trivial rfl rfl rfl rfl rfl rfl ?_
  obtain ⟨p_x23, A_x23, L_x23, c_x23, rfl⟩ := Zn.sh h_x23
  obtain ⟨p_x24, A_x24, L_x24, c_x24, rfl⟩ := Zn.sh h_x24
  refine boxI2 rfl rfl rfl rfl rfl rfl rfl rfl rfl rfl rfl rfl rfl rfl rfl rfl rfl (fun _ _ => rfl) (fun _ _ => rfl) (fun _ _ => trivial) ?_
  intro N25 N26 w12 hB12 i_25 i_26
  refine Pl.qA_assign trivial rfl rfl rfl rfl rfl ?_
  refine Pl.pA_end ?_
  refine Pl.V_seq ?_
  refine Pl.V_drawG (S := fun X => Ext w12 X) fo (Ext.drew (Ext.refl _)) ?_
  generalize w12.drew = w13
  intro hB13
  have hS13 := hB13
  refine Pl.G_cut 3 2047 (fun l' w' => ∃ (N_15 : Nat) (N_16 : Nat) (V_60 : Value) (V_61 : Value), l' = [(1, (.int .u32 k1)), (4, (.bool false)), (5, (.bool true)), (6, .pointer (some ⟨N5, 0, none⟩)), (7, .pointer (some ⟨N9, 0, none⟩)), (8, .pointer (some ⟨N11, 0, none⟩)), (10, .pointer (some ⟨N18, 0, none⟩)), (11, (.int .i64 0)), (13, .pointer (some ⟨N26, 0, none⟩)), (14, (.int .i64 0)), (15, .pointer (some ⟨N_15, 0, none⟩)), (16, .pointer (some ⟨N_16, 0, none⟩)), (60, V_60), (61, V_61), (62, (.int .i64 0))] ∧ Ext w12 w' ∧ w12.heap.size ≤ N_15 ∧ Ib w' N_15 false (.slice none 0 0) ∧ w12.heap.size ≤ N_16 ∧ Ib w' N_16 false (.slice none 0 0) ∧ Zn w' V_60 ((a + b) / ((k1 : Nat) : Int)) ∧ Zn w' V_61 ((a + b) % ((k1 : Nat) : Int)) ∧ N_15 ≠ N_16) ?_ ?_
  rotate_left
  · intro hK
    refine Pl.G_plan [(true, 0, 0), (true, 1, 1), (true, 3, 3)] 11 11 Pl.post_panic (by kernel_rfl) (by kernel_rfl) (by kernel_rfl) ?_
    have i_5__12 := Ib.ext i_5__8 (Ext.below hB9 (Ext.below hB10 (Ext.below hB11 hB12)))
    refine Pl.qA_load hS13 rfl rfl rfl rfl rfl (fun X hX => Ib.load (Ib.ext i_5__12 hX)) ?_
    have i_9__12 := Ib.ext i_9__10 (Ext.below hB11 hB12)
    refine Pl.qA_load hS13 rfl rfl rfl rfl rfl (fun X hX => Ib.load (Ib.ext i_9__12 hX)) ?_
    have i_11__12 := Ib.ext i_11__10 (Ext.below hB11 hB12)
    refine Pl.qA_load hS13 rfl rfl rfl rfl rfl (fun X hX => Ib.load (Ib.ext i_11__12 hX)) ?_
    refine Pl.pA_end ?_
    refine Pl.G_any [2, 9, 10] 10 (by kernel_rfl) (by kernel_rfl) (by kernel_rfl) (Pl.AllG_cons ?_ (Pl.AllG_cons ?_ (Pl.AllG_cons ?_ Pl.AllG_nil)))
    · have h_x4__13 := Zn.below h_x4__8 (Ext.below hB9 (Ext.below hB10 (Ext.below hB11 (Ext.below hB12 hB13))))
      have h_x8__13 := Zn.below h_x8__10 (Ext.below hB11 (Ext.below hB12 hB13))
      refine Pl.pA_call rfl rfl rfl rfl rfl en29 ?_
      refine Calls.mono (zadd _ _ _ a b h_x4__13 h_x8__13 (Sz.le b_a (by decide)) (Sz.le b_b (by decide)) _ rfl) ?_
      rintro e w14 ⟨v_x29, rfl, h_x29, hB14⟩
      have hS14 := Ext.below hS13 hB14
      refine ⟨_, rfl, hS14, ?_⟩
      have b_x29 : Sz (a + b) 41 := Sz.add b_a b_b (by decide) (by decide)
      refine Pl.pA_end ?_
      refine Pl.G_any [4, 9, 10] 9 (by kernel_rfl) (by kernel_rfl) (by kernel_rfl) (Pl.AllG_cons ?_ (Pl.AllG_cons ?_ (Pl.AllG_cons ?_ Pl.AllG_nil)))
      · have h_x10__14 := Zn.below h_x10__10 (Ext.below hB11 (Ext.below hB12 (Ext.below hB13 hB14)))
        refine Pl.pA_call rfl rfl rfl rfl rfl en14 ?_
        refine Calls.mono (zdiv_D _ _ _ (a + b) ((k1 : Nat) : Int) h_x29 h_x10__14 (Sz.le b_x29 (by decide)) (Sz.le b_x10 (by decide)) hk0 _ _ rfl rfl) ?_
        rintro e w15 ⟨⟨v_x31, v_x32, rfl, h_x31, h_x32⟩, hB15⟩
        have hS15 := Ext.below hS14 hB15
        refine ⟨_, rfl, hS15, ?_⟩
        have b_x31 : Sz ((a + b) / ((k1 : Nat) : Int)) 41 := Sz.div b_x29
        have b_x32 : Sz ((a + b) % ((k1 : Nat) : Int)) 1 := Sz.mod b_x10 hk0
        refine Pl.pA_end ?_
        refine Pl.G_plan [(true, 5, 31), (true, 6, 63), (true, 7, 127), (true, 8, 255)] 511 5 Pl.post_panic (by kernel_rfl) (by kernel_rfl) (by kernel_rfl) ?_
        refine Pl.qA_move hS15 rfl rfl rfl rfl rfl ?_
        refine Pl.qA_extract hS15 rfl rfl rfl rfl rfl rfl ?_
        refine Pl.qA_extract hS15 rfl rfl rfl rfl rfl rfl ?_
        refine Pl.qA_extract hS15 rfl rfl rfl rfl rfl rfl ?_
        refine Pl.pA_end ?_
        refine Pl.G_any [9, 10] 4 (by kernel_rfl) (by kernel_rfl) (by kernel_rfl) (Pl.AllG_cons ?_ (Pl.AllG_cons ?_ Pl.AllG_nil))
        · refine allocI rfl rfl rfl rfl (fun _ k => Ext.below hS15 k) ?_
          intro N33 w16 hB16 z_N33 i_33
          have hS16 := Ext.below hS15 hB16
          refine Pl.pA_end ?_
          refine Pl.G_plan [(false, 10, 1023)] 2047 3 Pl.post_panic (by kernel_rfl) (by kernel_rfl) (by kernel_rfl) ?_
          refine allocI rfl rfl rfl rfl (fun _ k => Ext.below hS16 k) ?_
          intro N34 w17 hB17 z_N34 i_34
          have hS17 := Ext.below hS16 hB17
          refine Pl.pA_end ?_
          have i_33__17 := Ib.ext i_33 hB17
          have h_x31__17 := Zn.below h_x31 (Ext.below hB16 hB17)
          have h_x32__17 := Zn.below h_x32 (Ext.below hB16 hB17)
          exact Pl.G_sub [(1, (.int .u32 k1)), (4, (.bool false)), (5, (.bool true)), (6, .pointer (some ⟨N5, 0, none⟩)), (7, .pointer (some ⟨N9, 0, none⟩)), (8, .pointer (some ⟨N11, 0, none⟩)), (10, .pointer (some ⟨N18, 0, none⟩)), (11, (.int .i64 0)), (13, .pointer (some ⟨N26, 0, none⟩)), (14, (.int .i64 0)), (15, .pointer (some ⟨N33, 0, none⟩)), (16, .pointer (some ⟨N34, 0, none⟩)), (60, v_x31), (61, v_x32), (62, (.int .i64 0))] (Pl.subl_cons rfl (Pl.subl_cons rfl (Pl.subl_cons rfl (Pl.subl_cons rfl (Pl.subl_cons rfl (Pl.subl_cons rfl (Pl.subl_cons rfl (Pl.subl_cons rfl (Pl.subl_cons rfl (Pl.subl_cons rfl (Pl.subl_cons rfl (Pl.subl_cons rfl (Pl.subl_cons rfl (Pl.subl_cons rfl (Pl.subl_cons rfl Pl.subl_nil))))))))))))))) (hK _ _ ⟨N33, N34, v_x31, v_x32, rfl, (Ext.below hB13 (Ext.below hB14 (Ext.below hB15 (Ext.below hB16 hB17)))), (Nat.le_trans (Below.size (Ext.below hB13 (Ext.below hB14 hB15))) z_N33), i_33__17, (Nat.le_trans (Below.size (Ext.below hB13 (Ext.below hB14 (Ext.below hB15 hB16)))) z_N34), i_34, h_x31__17, h_x32__17, (Nat.ne_of_lt (Nat.lt_of_lt_of_le (i_33).1 z_N34))⟩)
        · refine allocI rfl rfl rfl rfl (fun _ k => Ext.below hS15 k) ?_
          intro N33 w16 hB16 z_N33 i_33
          have hS16 := Ext.below hS15 hB16
          refine Pl.pA_end ?_
          refine Pl.G_plan [(false, 9, 1535)] 2047 3 Pl.post_panic (by kernel_rfl) (by kernel_rfl) (by kernel_rfl) ?_
          refine allocI rfl rfl rfl rfl (fun _ k => Ext.below hS16 k) ?_
          intro N34 w17 hB17 z_N34 i_34
          have hS17 := Ext.below hS16 hB17
          refine Pl.pA_end ?_
          have i_33__17 := Ib.ext i_33 hB17
          have h_x31__17 := Zn.below h_x31 (Ext.below hB16 hB17)
          have h_x32__17 := Zn.below h_x32 (Ext.below hB16 hB17)
          exact Pl.G_sub [(1, (.int .u32 k1)), (4, (.bool false)), (5, (.bool true)), (6, .pointer (some ⟨N5, 0, none⟩)), (7, .pointer (some ⟨N9, 0, none⟩)), (8, .pointer (some ⟨N11, 0, none⟩)), (10, .pointer (some ⟨N18, 0, none⟩)), (11, (.int .i64 0)), (13, .pointer (some ⟨N26, 0, none⟩)), (14, (.int .i64 0)), (15, .pointer (some ⟨N34, 0, none⟩)), (16, .pointer (some ⟨N33, 0, none⟩)), (60, v_x31), (61, v_x32), (62, (.int .i64 0))] (Pl.subl_cons rfl (Pl.subl_cons rfl (Pl.subl_cons rfl (Pl.subl_cons rfl (Pl.subl_cons rfl (Pl.subl_cons rfl (Pl.subl_cons rfl (Pl.subl_cons rfl (Pl.subl_cons rfl (Pl.subl_cons rfl (Pl.subl_cons rfl (Pl.subl_cons rfl (Pl.subl_cons rfl (Pl.subl_cons rfl (Pl.subl_cons rfl Pl.subl_nil))))))))))))))) (hK _ _ ⟨N34, N33, v_x31, v_x32, rfl, (Ext.below hB13 (Ext.below hB14 (Ext.below hB15 (Ext.below hB16 hB17)))), (Nat.le_trans (Below.size (Ext.below hB13 (Ext.below hB14 (Ext.below hB15 hB16)))) z_N34), i_34, (Nat.le_trans (Below.size (Ext.below hB13 (Ext.below hB14 hB15))) z_N33), i_33__17, h_x31__17, h_x32__17, (Nat.ne_of_gt (Nat.lt_of_lt_of_le (i_33).1 z_N34))⟩)
      · refine allocI rfl rfl rfl rfl (fun _ k => Ext.below hS14 k) ?_
        intro N30 w15 hB15 z_N30 i_30
        have hS15 := Ext.below hS14 hB15
        refine Pl.pA_end ?_
        refine Pl.G_any [4, 10] 8 (by kernel_rfl) (by kernel_rfl) (by kernel_rfl) (Pl.AllG_cons ?_ (Pl.AllG_cons ?_ Pl.AllG_nil))
        · have h_x29__15 := Zn.below h_x29 hB15
          have h_x10__15 := Zn.below h_x10__10 (Ext.below hB11 (Ext.below hB12 (Ext.below hB13 (Ext.below hB14 hB15))))
          refine Pl.pA_call rfl rfl rfl rfl rfl en14 ?_
          refine Calls.mono (zdiv_D _ _ _ (a + b) ((k1 : Nat) : Int) h_x29__15 h_x10__15 (Sz.le b_x29 (by decide)) (Sz.le b_x10 (by decide)) hk0 _ _ rfl rfl) ?_
          rintro e w16 ⟨⟨v_x33, v_x34, rfl, h_x33, h_x34⟩, hB16⟩
          have hS16 := Ext.below hS15 hB16
          refine ⟨_, rfl, hS16, ?_⟩
          have b_x33 : Sz ((a + b) / ((k1 : Nat) : Int)) 41 := Sz.div b_x29
          have b_x34 : Sz ((a + b) % ((k1 : Nat) : Int)) 1 := Sz.mod b_x10 hk0
          refine Pl.pA_end ?_
          refine Pl.G_plan [(true, 5, 543), (true, 6, 575), (true, 7, 639), (true, 8, 767), (false, 10, 1023)] 2047 3 Pl.post_panic (by kernel_rfl) (by kernel_rfl) (by kernel_rfl) ?_
          refine Pl.qA_move hS16 rfl rfl rfl rfl rfl ?_
          refine Pl.qA_extract hS16 rfl rfl rfl rfl rfl rfl ?_
          refine Pl.qA_extract hS16 rfl rfl rfl rfl rfl rfl ?_
          refine Pl.qA_extract hS16 rfl rfl rfl rfl rfl rfl ?_
          refine allocI rfl rfl rfl rfl (fun _ k => Ext.below hS16 k) ?_
          intro N35 w17 hB17 z_N35 i_35
          have hS17 := Ext.below hS16 hB17
          refine Pl.pA_end ?_
          have i_30__17 := Ib.ext i_30 (Ext.below hB16 hB17)
          have h_x33__17 := Zn.below h_x33 hB17
          have h_x34__17 := Zn.below h_x34 hB17
          exact Pl.G_sub [(1, (.int .u32 k1)), (4, (.bool false)), (5, (.bool true)), (6, .pointer (some ⟨N5, 0, none⟩)), (7, .pointer (some ⟨N9, 0, none⟩)), (8, .pointer (some ⟨N11, 0, none⟩)), (10, .pointer (some ⟨N18, 0, none⟩)), (11, (.int .i64 0)), (13, .pointer (some ⟨N26, 0, none⟩)), (14, (.int .i64 0)), (15, .pointer (some ⟨N30, 0, none⟩)), (16, .pointer (some ⟨N35, 0, none⟩)), (60, v_x33), (61, v_x34), (62, (.int .i64 0))] (Pl.subl_cons rfl (Pl.subl_cons rfl (Pl.subl_cons rfl (Pl.subl_cons rfl (Pl.subl_cons rfl (Pl.subl_cons rfl (Pl.subl_cons rfl (Pl.subl_cons rfl (Pl.subl_cons rfl (Pl.subl_cons rfl (Pl.subl_cons rfl (Pl.subl_cons rfl (Pl.subl_cons rfl (Pl.subl_cons rfl (Pl.subl_cons rfl Pl.subl_nil))))))))))))))) (hK _ _ ⟨N30, N35, v_x33, v_x34, rfl, (Ext.below hB13 (Ext.below hB14 (Ext.below hB15 (Ext.below hB16 hB17)))), (Nat.le_trans (Below.size (Ext.below hB13 hB14)) z_N30), i_30__17, (Nat.le_trans (Below.size (Ext.below hB13 (Ext.below hB14 (Ext.below hB15 hB16)))) z_N35), i_35, h_x33__17, h_x34__17, (Nat.ne_of_lt (Nat.lt_of_lt_of_le (Ib.ext i_30 hB16).1 z_N35))⟩)
        · refine allocI rfl rfl rfl rfl (fun _ k => Ext.below hS15 k) ?_
          intro N31 w16 hB16 z_N31 i_31
          have hS16 := Ext.below hS15 hB16
          refine Pl.pA_end ?_
          refine Pl.G_plan [(false, 4, 1551), (true, 5, 1567), (true, 6, 1599), (true, 7, 1663), (true, 8, 1791)] 2047 3 Pl.post_panic (by kernel_rfl) (by kernel_rfl) (by kernel_rfl) ?_
          have h_x29__16 := Zn.below h_x29 (Ext.below hB15 hB16)
          have h_x10__16 := Zn.below h_x10__10 (Ext.below hB11 (Ext.below hB12 (Ext.below hB13 (Ext.below hB14 (Ext.below hB15 hB16)))))
          refine Pl.pA_call rfl rfl rfl rfl rfl en14 ?_
          refine Calls.mono (zdiv_D _ _ _ (a + b) ((k1 : Nat) : Int) h_x29__16 h_x10__16 (Sz.le b_x29 (by decide)) (Sz.le b_x10 (by decide)) hk0 _ _ rfl rfl) ?_
          rintro e w17 ⟨⟨v_x34, v_x35, rfl, h_x34, h_x35⟩, hB17⟩
          have hS17 := Ext.below hS16 hB17
          refine ⟨_, rfl, hS17, ?_⟩
          have b_x34 : Sz ((a + b) / ((k1 : Nat) : Int)) 41 := Sz.div b_x29
          have b_x35 : Sz ((a + b) % ((k1 : Nat) : Int)) 1 := Sz.mod b_x10 hk0
          refine Pl.qA_move hS17 rfl rfl rfl rfl rfl ?_
          refine Pl.qA_extract hS17 rfl rfl rfl rfl rfl rfl ?_
          refine Pl.qA_extract hS17 rfl rfl rfl rfl rfl rfl ?_
          refine Pl.qA_extract hS17 rfl rfl rfl rfl rfl rfl ?_
          refine Pl.pA_end ?_
          have i_30__17 := Ib.ext i_30 (Ext.below hB16 hB17)
          have i_31__17 := Ib.ext i_31 hB17
          exact Pl.G_sub [(1, (.int .u32 k1)), (4, (.bool false)), (5, (.bool true)), (6, .pointer (some ⟨N5, 0, none⟩)), (7, .pointer (some ⟨N9, 0, none⟩)), (8, .pointer (some ⟨N11, 0, none⟩)), (10, .pointer (some ⟨N18, 0, none⟩)), (11, (.int .i64 0)), (13, .pointer (some ⟨N26, 0, none⟩)), (14, (.int .i64 0)), (15, .pointer (some ⟨N30, 0, none⟩)), (16, .pointer (some ⟨N31, 0, none⟩)), (60, v_x34), (61, v_x35), (62, (.int .i64 0))] (Pl.subl_cons rfl (Pl.subl_cons rfl (Pl.subl_cons rfl (Pl.subl_cons rfl (Pl.subl_cons rfl (Pl.subl_cons rfl (Pl.subl_cons rfl (Pl.subl_cons rfl (Pl.subl_cons rfl (Pl.subl_cons rfl (Pl.subl_cons rfl (Pl.subl_cons rfl (Pl.subl_cons rfl (Pl.subl_cons rfl (Pl.subl_cons rfl Pl.subl_nil))))))))))))))) (hK _ _ ⟨N30, N31, v_x34, v_x35, rfl, (Ext.below hB13 (Ext.below hB14 (Ext.below hB15 (Ext.below hB16 hB17)))), (Nat.le_trans (Below.size (Ext.below hB13 hB14)) z_N30), i_30__17, (Nat.le_trans (Below.size (Ext.below hB13 (Ext.below hB14 hB15))) z_N31), i_31__17, h_x34, h_x35, (Nat.ne_of_lt (Nat.lt_of_lt_of_le (i_30).1 z_N31))⟩)
      · refine allocI rfl rfl rfl rfl (fun _ k => Ext.below hS14 k) ?_
        intro N30 w15 hB15 z_N30 i_30
        have hS15 := Ext.below hS14 hB15
        refine Pl.pA_end ?_
        refine Pl.G_any [4, 9] 8 (by kernel_rfl) (by kernel_rfl) (by kernel_rfl) (Pl.AllG_cons ?_ (Pl.AllG_cons ?_ Pl.AllG_nil))
        · have h_x29__15 := Zn.below h_x29 hB15
          have h_x10__15 := Zn.below h_x10__10 (Ext.below hB11 (Ext.below hB12 (Ext.below hB13 (Ext.below hB14 hB15))))
          refine Pl.pA_call rfl rfl rfl rfl rfl en14 ?_
          refine Calls.mono (zdiv_D _ _ _ (a + b) ((k1 : Nat) : Int) h_x29__15 h_x10__15 (Sz.le b_x29 (by decide)) (Sz.le b_x10 (by decide)) hk0 _ _ rfl rfl) ?_
          rintro e w16 ⟨⟨v_x33, v_x34, rfl, h_x33, h_x34⟩, hB16⟩
          have hS16 := Ext.below hS15 hB16
          refine ⟨_, rfl, hS16, ?_⟩
          have b_x33 : Sz ((a + b) / ((k1 : Nat) : Int)) 41 := Sz.div b_x29
          have b_x34 : Sz ((a + b) % ((k1 : Nat) : Int)) 1 := Sz.mod b_x10 hk0
          refine Pl.pA_end ?_
          refine Pl.G_plan [(true, 5, 1055), (true, 6, 1087), (true, 7, 1151), (true, 8, 1279), (false, 9, 1535)] 2047 3 Pl.post_panic (by kernel_rfl) (by kernel_rfl) (by kernel_rfl) ?_
          refine Pl.qA_move hS16 rfl rfl rfl rfl rfl ?_
          refine Pl.qA_extract hS16 rfl rfl rfl rfl rfl rfl ?_
          refine Pl.qA_extract hS16 rfl rfl rfl rfl rfl rfl ?_
          refine Pl.qA_extract hS16 rfl rfl rfl rfl rfl rfl ?_
          refine allocI rfl rfl rfl rfl (fun _ k => Ext.below hS16 k) ?_
          intro N35 w17 hB17 z_N35 i_35
          have hS17 := Ext.below hS16 hB17
          refine Pl.pA_end ?_
          have i_30__17 := Ib.ext i_30 (Ext.below hB16 hB17)
          have h_x33__17 := Zn.below h_x33 hB17
          have h_x34__17 := Zn.below h_x34 hB17
          exact Pl.G_sub [(1, (.int .u32 k1)), (4, (.bool false)), (5, (.bool true)), (6, .pointer (some ⟨N5, 0, none⟩)), (7, .pointer (some ⟨N9, 0, none⟩)), (8, .pointer (some ⟨N11, 0, none⟩)), (10, .pointer (some ⟨N18, 0, none⟩)), (11, (.int .i64 0)), (13, .pointer (some ⟨N26, 0, none⟩)), (14, (.int .i64 0)), (15, .pointer (some ⟨N35, 0, none⟩)), (16, .pointer (some ⟨N30, 0, none⟩)), (60, v_x33), (61, v_x34), (62, (.int .i64 0))] (Pl.subl_cons rfl (Pl.subl_cons rfl (Pl.subl_cons rfl (Pl.subl_cons rfl (Pl.subl_cons rfl (Pl.subl_cons rfl (Pl.subl_cons rfl (Pl.subl_cons rfl (Pl.subl_cons rfl (Pl.subl_cons rfl (Pl.subl_cons rfl (Pl.subl_cons rfl (Pl.subl_cons rfl (Pl.subl_cons rfl (Pl.subl_cons rfl Pl.subl_nil))))))))))))))) (hK _ _ ⟨N35, N30, v_x33, v_x34, rfl, (Ext.below hB13 (Ext.below hB14 (Ext.below hB15 (Ext.below hB16 hB17)))), (Nat.le_trans (Below.size (Ext.below hB13 (Ext.below hB14 (Ext.below hB15 hB16)))) z_N35), i_35, (Nat.le_trans (Below.size (Ext.below hB13 hB14)) z_N30), i_30__17, h_x33__17, h_x34__17, (Nat.ne_of_gt (Nat.lt_of_lt_of_le (Ib.ext i_30 hB16).1 z_N35))⟩)
        · refine allocI rfl rfl rfl rfl (fun _ k => Ext.below hS15 k) ?_
          intro N31 w16 hB16 z_N31 i_31
          have hS16 := Ext.below hS15 hB16
          refine Pl.pA_end ?_
          refine Pl.G_plan [(false, 4, 1551), (true, 5, 1567), (true, 6, 1599), (true, 7, 1663), (true, 8, 1791)] 2047 3 Pl.post_panic (by kernel_rfl) (by kernel_rfl) (by kernel_rfl) ?_
          have h_x29__16 := Zn.below h_x29 (Ext.below hB15 hB16)
          have h_x10__16 := Zn.below h_x10__10 (Ext.below hB11 (Ext.below hB12 (Ext.below hB13 (Ext.below hB14 (Ext.below hB15 hB16)))))
          refine Pl.pA_call rfl rfl rfl rfl rfl en14 ?_
          refine Calls.mono (zdiv_D _ _ _ (a + b) ((k1 : Nat) : Int) h_x29__16 h_x10__16 (Sz.le b_x29 (by decide)) (Sz.le b_x10 (by decide)) hk0 _ _ rfl rfl) ?_
          rintro e w17 ⟨⟨v_x34, v_x35, rfl, h_x34, h_x35⟩, hB17⟩
          have hS17 := Ext.below hS16 hB17
          refine ⟨_, rfl, hS17, ?_⟩
          have b_x34 : Sz ((a + b) / ((k1 : Nat) : Int)) 41 := Sz.div b_x29
          have b_x35 : Sz ((a + b) % ((k1 : Nat) : Int)) 1 := Sz.mod b_x10 hk0
          refine Pl.qA_move hS17 rfl rfl rfl rfl rfl ?_
          refine Pl.qA_extract hS17 rfl rfl rfl rfl rfl rfl ?_
          refine Pl.qA_extract hS17 rfl rfl rfl rfl rfl rfl ?_
          refine Pl.qA_extract hS17 rfl rfl rfl rfl rfl rfl ?_
          refine Pl.pA_end ?_
          have i_31__17 := Ib.ext i_31 hB17
          have i_30__17 := Ib.ext i_30 (Ext.below hB16 hB17)
          exact Pl.G_sub [(1, (.int .u32 k1)), (4, (.bool false)), (5, (.bool true)), (6, .pointer (some ⟨N5, 0, none⟩)), (7, .pointer (some ⟨N9, 0, none⟩)), (8, .pointer (some ⟨N11, 0, none⟩)), (10, .pointer (some ⟨N18, 0, none⟩)), (11, (.int .i64 0)), (13, .pointer (some ⟨N26, 0, none⟩)), (14, (.int .i64 0)), (15, .pointer (some ⟨N31, 0, none⟩)), (16, .pointer (some ⟨N30, 0, none⟩)), (60, v_x34), (61, v_x35), (62, (.int .i64 0))] (Pl.subl_cons rfl (Pl.subl_cons rfl (Pl.subl_cons rfl (Pl.subl_cons rfl (Pl.subl_cons rfl (Pl.subl_cons rfl (Pl.subl_cons rfl (Pl.subl_cons rfl (Pl.subl_cons rfl (Pl.subl_cons rfl (Pl.subl_cons rfl (Pl.subl_cons rfl (Pl.subl_cons rfl (Pl.subl_cons rfl (Pl.subl_cons rfl Pl.subl_nil))))))))))))))) (hK _ _ ⟨N31, N30, v_x34, v_x35, rfl, (Ext.below hB13 (Ext.below hB14 (Ext.below hB15 (Ext.below hB16 hB17)))), (Nat.le_trans (Below.size (Ext.below hB13 (Ext.below hB14 hB15))) z_N31), i_31__17, (Nat.le_trans (Below.size (Ext.below hB13 hB14)) z_N30), i_30__17, h_x34, h_x35, (Nat.ne_of_gt (Nat.lt_of_lt_of_le (i_30).1 z_N31))⟩)
    · refine allocI rfl rfl rfl rfl (fun _ k => Ext.below hS13 k) ?_
      intro N27 w14 hB14 z_N27 i_27
      have hS14 := Ext.below hS13 hB14
      refine Pl.pA_end ?_
      refine Pl.G_any [2, 10] 9 (by kernel_rfl) (by kernel_rfl) (by kernel_rfl) (Pl.AllG_cons ?_ (Pl.AllG_cons ?_ Pl.AllG_nil))
      · have h_x4__14 := Zn.below h_x4__8 (Ext.below hB9 (Ext.below hB10 (Ext.below hB11 (Ext.below hB12 (Ext.below hB13 hB14)))))
        have h_x8__14 := Zn.below h_x8__10 (Ext.below hB11 (Ext.below hB12 (Ext.below hB13 hB14)))
        refine Pl.pA_call rfl rfl rfl rfl rfl en29 ?_
        refine Calls.mono (zadd _ _ _ a b h_x4__14 h_x8__14 (Sz.le b_a (by decide)) (Sz.le b_b (by decide)) _ rfl) ?_
        rintro e w15 ⟨v_x30, rfl, h_x30, hB15⟩
        have hS15 := Ext.below hS14 hB15
        refine ⟨_, rfl, hS15, ?_⟩
        have b_x30 : Sz (a + b) 41 := Sz.add b_a b_b (by decide) (by decide)
        refine Pl.pA_end ?_
        refine Pl.G_any [4, 10] 8 (by kernel_rfl) (by kernel_rfl) (by kernel_rfl) (Pl.AllG_cons ?_ (Pl.AllG_cons ?_ Pl.AllG_nil))
        · have h_x10__15 := Zn.below h_x10__10 (Ext.below hB11 (Ext.below hB12 (Ext.below hB13 (Ext.below hB14 hB15))))
          refine Pl.pA_call rfl rfl rfl rfl rfl en14 ?_
          refine Calls.mono (zdiv_D _ _ _ (a + b) ((k1 : Nat) : Int) h_x30 h_x10__15 (Sz.le b_x30 (by decide)) (Sz.le b_x10 (by decide)) hk0 _ _ rfl rfl) ?_
          rintro e w16 ⟨⟨v_x32, v_x33, rfl, h_x32, h_x33⟩, hB16⟩
          have hS16 := Ext.below hS15 hB16
          refine ⟨_, rfl, hS16, ?_⟩
          have b_x32 : Sz ((a + b) / ((k1 : Nat) : Int)) 41 := Sz.div b_x30
          have b_x33 : Sz ((a + b) % ((k1 : Nat) : Int)) 1 := Sz.mod b_x10 hk0
          refine Pl.pA_end ?_
          refine Pl.G_plan [(true, 5, 543), (true, 6, 575), (true, 7, 639), (true, 8, 767), (false, 10, 1023)] 2047 3 Pl.post_panic (by kernel_rfl) (by kernel_rfl) (by kernel_rfl) ?_
          refine Pl.qA_move hS16 rfl rfl rfl rfl rfl ?_
          refine Pl.qA_extract hS16 rfl rfl rfl rfl rfl rfl ?_
          refine Pl.qA_extract hS16 rfl rfl rfl rfl rfl rfl ?_
          refine Pl.qA_extract hS16 rfl rfl rfl rfl rfl rfl ?_
          refine allocI rfl rfl rfl rfl (fun _ k => Ext.below hS16 k) ?_
          intro N34 w17 hB17 z_N34 i_34
          have hS17 := Ext.below hS16 hB17
          refine Pl.pA_end ?_
          have i_27__17 := Ib.ext i_27 (Ext.below hB15 (Ext.below hB16 hB17))
          have h_x32__17 := Zn.below h_x32 hB17
          have h_x33__17 := Zn.below h_x33 hB17
          exact Pl.G_sub [(1, (.int .u32 k1)), (4, (.bool false)), (5, (.bool true)), (6, .pointer (some ⟨N5, 0, none⟩)), (7, .pointer (some ⟨N9, 0, none⟩)), (8, .pointer (some ⟨N11, 0, none⟩)), (10, .pointer (some ⟨N18, 0, none⟩)), (11, (.int .i64 0)), (13, .pointer (some ⟨N26, 0, none⟩)), (14, (.int .i64 0)), (15, .pointer (some ⟨N27, 0, none⟩)), (16, .pointer (some ⟨N34, 0, none⟩)), (60, v_x32), (61, v_x33), (62, (.int .i64 0))] (Pl.subl_cons rfl (Pl.subl_cons rfl (Pl.subl_cons rfl (Pl.subl_cons rfl (Pl.subl_cons rfl (Pl.subl_cons rfl (Pl.subl_cons rfl (Pl.subl_cons rfl (Pl.subl_cons rfl (Pl.subl_cons rfl (Pl.subl_cons rfl (Pl.subl_cons rfl (Pl.subl_cons rfl (Pl.subl_cons rfl (Pl.subl_cons rfl Pl.subl_nil))))))))))))))) (hK _ _ ⟨N27, N34, v_x32, v_x33, rfl, (Ext.below hB13 (Ext.below hB14 (Ext.below hB15 (Ext.below hB16 hB17)))), (Nat.le_trans (Below.size hB13) z_N27), i_27__17, (Nat.le_trans (Below.size (Ext.below hB13 (Ext.below hB14 (Ext.below hB15 hB16)))) z_N34), i_34, h_x32__17, h_x33__17, (Nat.ne_of_lt (Nat.lt_of_lt_of_le (Ib.ext i_27 (Ext.below hB15 hB16)).1 z_N34))⟩)
        · refine allocI rfl rfl rfl rfl (fun _ k => Ext.below hS15 k) ?_
          intro N31 w16 hB16 z_N31 i_31
          have hS16 := Ext.below hS15 hB16
          refine Pl.pA_end ?_
          refine Pl.G_plan [(false, 4, 1551), (true, 5, 1567), (true, 6, 1599), (true, 7, 1663), (true, 8, 1791)] 2047 3 Pl.post_panic (by kernel_rfl) (by kernel_rfl) (by kernel_rfl) ?_
          have h_x30__16 := Zn.below h_x30 hB16
          have h_x10__16 := Zn.below h_x10__10 (Ext.below hB11 (Ext.below hB12 (Ext.below hB13 (Ext.below hB14 (Ext.below hB15 hB16)))))
          refine Pl.pA_call rfl rfl rfl rfl rfl en14 ?_
          refine Calls.mono (zdiv_D _ _ _ (a + b) ((k1 : Nat) : Int) h_x30__16 h_x10__16 (Sz.le b_x30 (by decide)) (Sz.le b_x10 (by decide)) hk0 _ _ rfl rfl) ?_
          rintro e w17 ⟨⟨v_x34, v_x35, rfl, h_x34, h_x35⟩, hB17⟩
          have hS17 := Ext.below hS16 hB17
          refine ⟨_, rfl, hS17, ?_⟩
          have b_x34 : Sz ((a + b) / ((k1 : Nat) : Int)) 41 := Sz.div b_x30
          have b_x35 : Sz ((a + b) % ((k1 : Nat) : Int)) 1 := Sz.mod b_x10 hk0
          refine Pl.qA_move hS17 rfl rfl rfl rfl rfl ?_
          refine Pl.qA_extract hS17 rfl rfl rfl rfl rfl rfl ?_
          refine Pl.qA_extract hS17 rfl rfl rfl rfl rfl rfl ?_
          refine Pl.qA_extract hS17 rfl rfl rfl rfl rfl rfl ?_
          refine Pl.pA_end ?_
          have i_27__17 := Ib.ext i_27 (Ext.below hB15 (Ext.below hB16 hB17))
          have i_31__17 := Ib.ext i_31 hB17
          exact Pl.G_sub [(1, (.int .u32 k1)), (4, (.bool false)), (5, (.bool true)), (6, .pointer (some ⟨N5, 0, none⟩)), (7, .pointer (some ⟨N9, 0, none⟩)), (8, .pointer (some ⟨N11, 0, none⟩)), (10, .pointer (some ⟨N18, 0, none⟩)), (11, (.int .i64 0)), (13, .pointer (some ⟨N26, 0, none⟩)), (14, (.int .i64 0)), (15, .pointer (some ⟨N27, 0, none⟩)), (16, .pointer (some ⟨N31, 0, none⟩)), (60, v_x34), (61, v_x35), (62, (.int .i64 0))] (Pl.subl_cons rfl (Pl.subl_cons rfl (Pl.subl_cons rfl (Pl.subl_cons rfl (Pl.subl_cons rfl (Pl.subl_cons rfl (Pl.subl_cons rfl (Pl.subl_cons rfl (Pl.subl_cons rfl (Pl.subl_cons rfl (Pl.subl_cons rfl (Pl.subl_cons rfl (Pl.subl_cons rfl (Pl.subl_cons rfl (Pl.subl_cons rfl Pl.subl_nil))))))))))))))) (hK _ _ ⟨N27, N31, v_x34, v_x35, rfl, (Ext.below hB13 (Ext.below hB14 (Ext.below hB15 (Ext.below hB16 hB17)))), (Nat.le_trans (Below.size hB13) z_N27), i_27__17, (Nat.le_trans (Below.size (Ext.below hB13 (Ext.below hB14 hB15))) z_N31), i_31__17, h_x34, h_x35, (Nat.ne_of_lt (Nat.lt_of_lt_of_le (Ib.ext i_27 hB15).1 z_N31))⟩)
      · refine allocI rfl rfl rfl rfl (fun _ k => Ext.below hS14 k) ?_
        intro N28 w15 hB15 z_N28 i_28
        have hS15 := Ext.below hS14 hB15
        refine Pl.pA_end ?_
        refine Pl.G_plan [(false, 2, 1547), (false, 4, 1551), (true, 5, 1567), (true, 6, 1599), (true, 7, 1663), (true, 8, 1791)] 2047 3 Pl.post_panic (by kernel_rfl) (by kernel_rfl) (by kernel_rfl) ?_
        have h_x4__15 := Zn.below h_x4__8 (Ext.below hB9 (Ext.below hB10 (Ext.below hB11 (Ext.below hB12 (Ext.below hB13 (Ext.below hB14 hB15))))))
        have h_x8__15 := Zn.below h_x8__10 (Ext.below hB11 (Ext.below hB12 (Ext.below hB13 (Ext.below hB14 hB15))))
        refine Pl.pA_call rfl rfl rfl rfl rfl en29 ?_
        refine Calls.mono (zadd _ _ _ a b h_x4__15 h_x8__15 (Sz.le b_a (by decide)) (Sz.le b_b (by decide)) _ rfl) ?_
        rintro e w16 ⟨v_x31, rfl, h_x31, hB16⟩
        have hS16 := Ext.below hS15 hB16
        refine ⟨_, rfl, hS16, ?_⟩
        have b_x31 : Sz (a + b) 41 := Sz.add b_a b_b (by decide) (by decide)
        have h_x10__16 := Zn.below h_x10__10 (Ext.below hB11 (Ext.below hB12 (Ext.below hB13 (Ext.below hB14 (Ext.below hB15 hB16)))))
        refine Pl.pA_call rfl rfl rfl rfl rfl en14 ?_
        refine Calls.mono (zdiv_D _ _ _ (a + b) ((k1 : Nat) : Int) h_x31 h_x10__16 (Sz.le b_x31 (by decide)) (Sz.le b_x10 (by decide)) hk0 _ _ rfl rfl) ?_
        rintro e w17 ⟨⟨v_x33, v_x34, rfl, h_x33, h_x34⟩, hB17⟩
        have hS17 := Ext.below hS16 hB17
        refine ⟨_, rfl, hS17, ?_⟩
        have b_x33 : Sz ((a + b) / ((k1 : Nat) : Int)) 41 := Sz.div b_x31
        have b_x34 : Sz ((a + b) % ((k1 : Nat) : Int)) 1 := Sz.mod b_x10 hk0
        refine Pl.qA_move hS17 rfl rfl rfl rfl rfl ?_
        refine Pl.qA_extract hS17 rfl rfl rfl rfl rfl rfl ?_
        refine Pl.qA_extract hS17 rfl rfl rfl rfl rfl rfl ?_
        refine Pl.qA_extract hS17 rfl rfl rfl rfl rfl rfl ?_
        refine Pl.pA_end ?_
        have i_27__17 := Ib.ext i_27 (Ext.below hB15 (Ext.below hB16 hB17))
        have i_28__17 := Ib.ext i_28 (Ext.below hB16 hB17)
        exact Pl.G_sub [(1, (.int .u32 k1)), (4, (.bool false)), (5, (.bool true)), (6, .pointer (some ⟨N5, 0, none⟩)), (7, .pointer (some ⟨N9, 0, none⟩)), (8, .pointer (some ⟨N11, 0, none⟩)), (10, .pointer (some ⟨N18, 0, none⟩)), (11, (.int .i64 0)), (13, .pointer (some ⟨N26, 0, none⟩)), (14, (.int .i64 0)), (15, .pointer (some ⟨N27, 0, none⟩)), (16, .pointer (some ⟨N28, 0, none⟩)), (60, v_x33), (61, v_x34), (62, (.int .i64 0))] (Pl.subl_cons rfl (Pl.subl_cons rfl (Pl.subl_cons rfl (Pl.subl_cons rfl (Pl.subl_cons rfl (Pl.subl_cons rfl (Pl.subl_cons rfl (Pl.subl_cons rfl (Pl.subl_cons rfl (Pl.subl_cons rfl (Pl.subl_cons rfl (Pl.subl_cons rfl (Pl.subl_cons rfl (Pl.subl_cons rfl (Pl.subl_cons rfl Pl.subl_nil))))))))))))))) (hK _ _ ⟨N27, N28, v_x33, v_x34, rfl, (Ext.below hB13 (Ext.below hB14 (Ext.below hB15 (Ext.below hB16 hB17)))), (Nat.le_trans (Below.size hB13) z_N27), i_27__17, (Nat.le_trans (Below.size (Ext.below hB13 hB14)) z_N28), i_28__17, h_x33, h_x34, (Nat.ne_of_lt (Nat.lt_of_lt_of_le (i_27).1 z_N28))⟩)
    · refine allocI rfl rfl rfl rfl (fun _ k => Ext.below hS13 k) ?_
      intro N27 w14 hB14 z_N27 i_27
      have hS14 := Ext.below hS13 hB14
      refine Pl.pA_end ?_
      refine Pl.G_any [2, 9] 9 (by kernel_rfl) (by kernel_rfl) (by kernel_rfl) (Pl.AllG_cons ?_ (Pl.AllG_cons ?_ Pl.AllG_nil))
      · have h_x4__14 := Zn.below h_x4__8 (Ext.below hB9 (Ext.below hB10 (Ext.below hB11 (Ext.below hB12 (Ext.below hB13 hB14)))))
        have h_x8__14 := Zn.below h_x8__10 (Ext.below hB11 (Ext.below hB12 (Ext.below hB13 hB14)))
        refine Pl.pA_call rfl rfl rfl rfl rfl en29 ?_
        refine Calls.mono (zadd _ _ _ a b h_x4__14 h_x8__14 (Sz.le b_a (by decide)) (Sz.le b_b (by decide)) _ rfl) ?_
        rintro e w15 ⟨v_x30, rfl, h_x30, hB15⟩
        have hS15 := Ext.below hS14 hB15
        refine ⟨_, rfl, hS15, ?_⟩
        have b_x30 : Sz (a + b) 41 := Sz.add b_a b_b (by decide) (by decide)
        refine Pl.pA_end ?_
        refine Pl.G_any [4, 9] 8 (by kernel_rfl) (by kernel_rfl) (by kernel_rfl) (Pl.AllG_cons ?_ (Pl.AllG_cons ?_ Pl.AllG_nil))
        · have h_x10__15 := Zn.below h_x10__10 (Ext.below hB11 (Ext.below hB12 (Ext.below hB13 (Ext.below hB14 hB15))))
          refine Pl.pA_call rfl rfl rfl rfl rfl en14 ?_
          refine Calls.mono (zdiv_D _ _ _ (a + b) ((k1 : Nat) : Int) h_x30 h_x10__15 (Sz.le b_x30 (by decide)) (Sz.le b_x10 (by decide)) hk0 _ _ rfl rfl) ?_
          rintro e w16 ⟨⟨v_x32, v_x33, rfl, h_x32, h_x33⟩, hB16⟩
          have hS16 := Ext.below hS15 hB16
          refine ⟨_, rfl, hS16, ?_⟩
          have b_x32 : Sz ((a + b) / ((k1 : Nat) : Int)) 41 := Sz.div b_x30
          have b_x33 : Sz ((a + b) % ((k1 : Nat) : Int)) 1 := Sz.mod b_x10 hk0
          refine Pl.pA_end ?_
          refine Pl.G_plan [(true, 5, 1055), (true, 6, 1087), (true, 7, 1151), (true, 8, 1279), (false, 9, 1535)] 2047 3 Pl.post_panic (by kernel_rfl) (by kernel_rfl) (by kernel_rfl) ?_
          refine Pl.qA_move hS16 rfl rfl rfl rfl rfl ?_
          refine Pl.qA_extract hS16 rfl rfl rfl rfl rfl rfl ?_
          refine Pl.qA_extract hS16 rfl rfl rfl rfl rfl rfl ?_
          refine Pl.qA_extract hS16 rfl rfl rfl rfl rfl rfl ?_
          refine allocI rfl rfl rfl rfl (fun _ k => Ext.below hS16 k) ?_
          intro N34 w17 hB17 z_N34 i_34
          have hS17 := Ext.below hS16 hB17
          refine Pl.pA_end ?_
          have i_27__17 := Ib.ext i_27 (Ext.below hB15 (Ext.below hB16 hB17))
          have h_x32__17 := Zn.below h_x32 hB17
          have h_x33__17 := Zn.below h_x33 hB17
          exact Pl.G_sub [(1, (.int .u32 k1)), (4, (.bool false)), (5, (.bool true)), (6, .pointer (some ⟨N5, 0, none⟩)), (7, .pointer (some ⟨N9, 0, none⟩)), (8, .pointer (some ⟨N11, 0, none⟩)), (10, .pointer (some ⟨N18, 0, none⟩)), (11, (.int .i64 0)), (13, .pointer (some ⟨N26, 0, none⟩)), (14, (.int .i64 0)), (15, .pointer (some ⟨N34, 0, none⟩)), (16, .pointer (some ⟨N27, 0, none⟩)), (60, v_x32), (61, v_x33), (62, (.int .i64 0))] (Pl.subl_cons rfl (Pl.subl_cons rfl (Pl.subl_cons rfl (Pl.subl_cons rfl (Pl.subl_cons rfl (Pl.subl_cons rfl (Pl.subl_cons rfl (Pl.subl_cons rfl (Pl.subl_cons rfl (Pl.subl_cons rfl (Pl.subl_cons rfl (Pl.subl_cons rfl (Pl.subl_cons rfl (Pl.subl_cons rfl (Pl.subl_cons rfl Pl.subl_nil))))))))))))))) (hK _ _ ⟨N34, N27, v_x32, v_x33, rfl, (Ext.below hB13 (Ext.below hB14 (Ext.below hB15 (Ext.below hB16 hB17)))), (Nat.le_trans (Below.size (Ext.below hB13 (Ext.below hB14 (Ext.below hB15 hB16)))) z_N34), i_34, (Nat.le_trans (Below.size hB13) z_N27), i_27__17, h_x32__17, h_x33__17, (Nat.ne_of_gt (Nat.lt_of_lt_of_le (Ib.ext i_27 (Ext.below hB15 hB16)).1 z_N34))⟩)
        · refine allocI rfl rfl rfl rfl (fun _ k => Ext.below hS15 k) ?_
          intro N31 w16 hB16 z_N31 i_31
          have hS16 := Ext.below hS15 hB16
          refine Pl.pA_end ?_
          refine Pl.G_plan [(false, 4, 1551), (true, 5, 1567), (true, 6, 1599), (true, 7, 1663), (true, 8, 1791)] 2047 3 Pl.post_panic (by kernel_rfl) (by kernel_rfl) (by kernel_rfl) ?_
          have h_x30__16 := Zn.below h_x30 hB16
          have h_x10__16 := Zn.below h_x10__10 (Ext.below hB11 (Ext.below hB12 (Ext.below hB13 (Ext.below hB14 (Ext.below hB15 hB16)))))
          refine Pl.pA_call rfl rfl rfl rfl rfl en14 ?_
          refine Calls.mono (zdiv_D _ _ _ (a + b) ((k1 : Nat) : Int) h_x30__16 h_x10__16 (Sz.le b_x30 (by decide)) (Sz.le b_x10 (by decide)) hk0 _ _ rfl rfl) ?_
          rintro e w17 ⟨⟨v_x34, v_x35, rfl, h_x34, h_x35⟩, hB17⟩
          have hS17 := Ext.below hS16 hB17
          refine ⟨_, rfl, hS17, ?_⟩
          have b_x34 : Sz ((a + b) / ((k1 : Nat) : Int)) 41 := Sz.div b_x30
          have b_x35 : Sz ((a + b) % ((k1 : Nat) : Int)) 1 := Sz.mod b_x10 hk0
          refine Pl.qA_move hS17 rfl rfl rfl rfl rfl ?_
          refine Pl.qA_extract hS17 rfl rfl rfl rfl rfl rfl ?_
          refine Pl.qA_extract hS17 rfl rfl rfl rfl rfl rfl ?_
          refine Pl.qA_extract hS17 rfl rfl rfl rfl rfl rfl ?_
          refine Pl.pA_end ?_
          have i_31__17 := Ib.ext i_31 hB17
          have i_27__17 := Ib.ext i_27 (Ext.below hB15 (Ext.below hB16 hB17))
          exact Pl.G_sub [(1, (.int .u32 k1)), (4, (.bool false)), (5, (.bool true)), (6, .pointer (some ⟨N5, 0, none⟩)), (7, .pointer (some ⟨N9, 0, none⟩)), (8, .pointer (some ⟨N11, 0, none⟩)), (10, .pointer (some ⟨N18, 0, none⟩)), (11, (.int .i64 0)), (13, .pointer (some ⟨N26, 0, none⟩)), (14, (.int .i64 0)), (15, .pointer (some ⟨N31, 0, none⟩)), (16, .pointer (some ⟨N27, 0, none⟩)), (60, v_x34), (61, v_x35), (62, (.int .i64 0))] (Pl.subl_cons rfl (Pl.subl_cons rfl (Pl.subl_cons rfl (Pl.subl_cons rfl (Pl.subl_cons rfl (Pl.subl_cons rfl (Pl.subl_cons rfl (Pl.subl_cons rfl (Pl.subl_cons rfl (Pl.subl_cons rfl (Pl.subl_cons rfl (Pl.subl_cons rfl (Pl.subl_cons rfl (Pl.subl_cons rfl (Pl.subl_cons rfl Pl.subl_nil))))))))))))))) (hK _ _ ⟨N31, N27, v_x34, v_x35, rfl, (Ext.below hB13 (Ext.below hB14 (Ext.below hB15 (Ext.below hB16 hB17)))), (Nat.le_trans (Below.size (Ext.below hB13 (Ext.below hB14 hB15))) z_N31), i_31__17, (Nat.le_trans (Below.size hB13) z_N27), i_27__17, h_x34, h_x35, (Nat.ne_of_gt (Nat.lt_of_lt_of_le (Ib.ext i_27 hB15).1 z_N31))⟩)
      · refine allocI rfl rfl rfl rfl (fun _ k => Ext.below hS14 k) ?_
        intro N28 w15 hB15 z_N28 i_28
        have hS15 := Ext.below hS14 hB15
        refine Pl.pA_end ?_
        refine Pl.G_plan [(false, 2, 1547), (false, 4, 1551), (true, 5, 1567), (true, 6, 1599), (true, 7, 1663), (true, 8, 1791)] 2047 3 Pl.post_panic (by kernel_rfl) (by kernel_rfl) (by kernel_rfl) ?_
        have h_x4__15 := Zn.below h_x4__8 (Ext.below hB9 (Ext.below hB10 (Ext.below hB11 (Ext.below hB12 (Ext.below hB13 (Ext.below hB14 hB15))))))
        have h_x8__15 := Zn.below h_x8__10 (Ext.below hB11 (Ext.below hB12 (Ext.below hB13 (Ext.below hB14 hB15))))
        refine Pl.pA_call rfl rfl rfl rfl rfl en29 ?_
        refine Calls.mono (zadd _ _ _ a b h_x4__15 h_x8__15 (Sz.le b_a (by decide)) (Sz.le b_b (by decide)) _ rfl) ?_
        rintro e w16 ⟨v_x31, rfl, h_x31, hB16⟩
        have hS16 := Ext.below hS15 hB16
        refine ⟨_, rfl, hS16, ?_⟩
        have b_x31 : Sz (a + b) 41 := Sz.add b_a b_b (by decide) (by decide)
        have h_x10__16 := Zn.below h_x10__10 (Ext.below hB11 (Ext.below hB12 (Ext.below hB13 (Ext.below hB14 (Ext.below hB15 hB16)))))
        refine Pl.pA_call rfl rfl rfl rfl rfl en14 ?_
        refine Calls.mono (zdiv_D _ _ _ (a + b) ((k1 : Nat) : Int) h_x31 h_x10__16 (Sz.le b_x31 (by decide)) (Sz.le b_x10 (by decide)) hk0 _ _ rfl rfl) ?_
        rintro e w17 ⟨⟨v_x33, v_x34, rfl, h_x33, h_x34⟩, hB17⟩
        have hS17 := Ext.below hS16 hB17
        refine ⟨_, rfl, hS17, ?_⟩
        have b_x33 : Sz ((a + b) / ((k1 : Nat) : Int)) 41 := Sz.div b_x31
        have b_x34 : Sz ((a + b) % ((k1 : Nat) : Int)) 1 := Sz.mod b_x10 hk0
        refine Pl.qA_move hS17 rfl rfl rfl rfl rfl ?_
        refine Pl.qA_extract hS17 rfl rfl rfl rfl rfl rfl ?_
        refine Pl.qA_extract hS17 rfl rfl rfl rfl rfl rfl ?_
        refine Pl.qA_extract hS17 rfl rfl rfl rfl rfl rfl ?_
        refine Pl.pA_end ?_
        have i_28__17 := Ib.ext i_28 (Ext.below hB16 hB17)
        have i_27__17 := Ib.ext i_27 (Ext.below hB15 (Ext.below hB16 hB17))
        exact Pl.G_sub [(1, (.int .u32 k1)), (4, (.bool false)), (5, (.bool true)), (6, .pointer (some ⟨N5, 0, none⟩)), (7, .pointer (some ⟨N9, 0, none⟩)), (8, .pointer (some ⟨N11, 0, none⟩)), (10, .pointer (some ⟨N18, 0, none⟩)), (11, (.int .i64 0)), (13, .pointer (some ⟨N26, 0, none⟩)), (14, (.int .i64 0)), (15, .pointer (some ⟨N28, 0, none⟩)), (16, .pointer (some ⟨N27, 0, none⟩)), (60, v_x33), (61, v_x34), (62, (.int .i64 0))] (Pl.subl_cons rfl (Pl.subl_cons rfl (Pl.subl_cons rfl (Pl.subl_cons rfl (Pl.subl_cons rfl (Pl.subl_cons rfl (Pl.subl_cons rfl (Pl.subl_cons rfl (Pl.subl_cons rfl (Pl.subl_cons rfl (Pl.subl_cons rfl (Pl.subl_cons rfl (Pl.subl_cons rfl (Pl.subl_cons rfl (Pl.subl_cons rfl Pl.subl_nil))))))))))))))) (hK _ _ ⟨N28, N27, v_x33, v_x34, rfl, (Ext.below hB13 (Ext.below hB14 (Ext.below hB15 (Ext.below hB16 hB17)))), (Nat.le_trans (Below.size (Ext.below hB13 hB14)) z_N28), i_28__17, (Nat.le_trans (Below.size hB13) z_N27), i_27__17, h_x33, h_x34, (Nat.ne_of_gt (Nat.lt_of_lt_of_le (i_27).1 z_N28))⟩)
  rintro _ w113 ⟨N15_113, N16_113, v_y60_113, v_y61_113, rfl, hB113, z_N15_113, i_N15_113, z_N16_113, i_N16_113, h_y60_113, h_y61_113, ne_N15_113_N16_113⟩
  have hS113 := hB113
  have b_x29 : Sz (a + b) 41 := Sz.add b_a b_b (by decide) (by decide)
  have b_x31 : Sz ((a + b) / ((k1 : Nat) : Int)) 41 := Sz.div b_x29
  have b_x32 : Sz ((a + b) % ((k1 : Nat) : Int)) 1 := Sz.mod b_x10 hk0
  refine Pl.G_plan [(false, 11, 2047), (false, 12, 4095), (true, 13, 8191)] 16383 0 Pl.post_panic (by kernel_rfl) (by kernel_rfl) (by kernel_rfl) ?_
  obtain ⟨p_y60_113, A_y60_113, L_y60_113, c_y60_113, rfl⟩ := Zn.sh h_y60_113
  refine storeI rfl rfl rfl rfl rfl rfl i_N15_113 (fun _ T => T _ hS113 (Nat.le_trans (Below.size (Ext.refl w12)) z_N15_113)) ?_
  intro w114 T1_114 T2_114 T3_114 I_114
  have hB114 := T1_114 _ hB113 (Nat.le_trans (Below.size (Ext.refl w12)) z_N15_113)
  have hS114 := T1_114 _ hS113 (Nat.le_trans (Below.size (Ext.refl w12)) z_N15_113)
  have i_N16_113__114 := T3_114 _ _ _ (Ne.symm ne_N15_113_N16_113) i_N16_113
  have h_y60_113__114 := T2_114 _ _ h_y60_113
  have h_y61_113__114 := T2_114 _ _ h_y61_113
  obtain ⟨p_y61_113, A_y61_113, L_y61_113, c_y61_113, rfl⟩ := Zn.sh h_y61_113__114
  refine storeI rfl rfl rfl rfl rfl rfl i_N16_113__114 (fun _ T => T _ hS114 (Nat.le_trans (Below.size (Ext.refl w12)) z_N16_113)) ?_
  intro w115 T1_115 T2_115 T3_115 I_115
  have hB115 := T1_115 _ hB114 (Nat.le_trans (Below.size (Ext.refl w12)) z_N16_113)
  have hS115 := T1_115 _ hS114 (Nat.le_trans (Below.size (Ext.refl w12)) z_N16_113)
  have h_y60_113__115 := T2_115 _ _ h_y60_113__114
  have I_114__115 := T3_115 _ _ _ ne_N15_113_N16_113 I_114
  have h_y61_113__115 := T2_115 _ _ h_y61_113__114
  refine Pl.qA_assign hS115 rfl rfl rfl rfl rfl ?_
  refine Pl.pA_end ?_
  refine Pl.G_V (by kernel_rfl) ?_
  refine Pl.V_seq ?_
  refine Pl.V_drawG (S := fun X => Ext w115 X) fo (Ext.drew (Ext.refl _)) ?_
  generalize w115.drew = w116
  intro hB116
  have hS116 := hB116
  refine Pl.G_cut 3 2047 (fun l' w' => ∃ (N_18 : Nat) (N_19 : Nat) (V_69 : Value) (V_70 : Value), l' = [(1, (.int .u32 k1)), (4, (.bool false)), (5, (.bool true)), (6, .pointer (some ⟨N5, 0, none⟩)), (8, .pointer (some ⟨N11, 0, none⟩)), (10, .pointer (some ⟨N18, 0, none⟩)), (11, (.int .i64 0)), (13, .pointer (some ⟨N26, 0, none⟩)), (14, (.int .i64 0)), (16, .pointer (some ⟨N16_113, 0, none⟩)), (17, (.int .i64 0)), (18, .pointer (some ⟨N_18, 0, none⟩)), (19, .pointer (some ⟨N_19, 0, none⟩)), (69, V_69), (70, V_70), (71, (.int .i64 0))] ∧ Ext w115 w' ∧ w115.heap.size ≤ N_18 ∧ Ib w' N_18 false (.slice none 0 0) ∧ w115.heap.size ≤ N_19 ∧ Ib w' N_19 false (.slice none 0 0) ∧ Zn w' V_69 ((a * b) / ((k1 : Nat) : Int)) ∧ Zn w' V_70 ((a * b) % ((k1 : Nat) : Int)) ∧ N_18 ≠ N_19) ?_ ?_
  rotate_left
  · intro hK
    refine Pl.G_plan [(true, 0, 0), (true, 1, 1), (true, 3, 3)] 11 11 Pl.post_panic (by kernel_rfl) (by kernel_rfl) (by kernel_rfl) ?_
    have i_5__115 := Ib.ext i_5__8 (Ext.below hB9 (Ext.below hB10 (Ext.below hB11 (Ext.below hB12 hB115))))
    refine Pl.qA_load hS116 rfl rfl rfl rfl rfl (fun X hX => Ib.load (Ib.ext i_5__115 hX)) ?_
    have i_9__115 := Ib.ext i_9__10 (Ext.below hB11 (Ext.below hB12 hB115))
    refine Pl.qA_load hS116 rfl rfl rfl rfl rfl (fun X hX => Ib.load (Ib.ext i_9__115 hX)) ?_
    have i_11__115 := Ib.ext i_11__10 (Ext.below hB11 (Ext.below hB12 hB115))
    refine Pl.qA_load hS116 rfl rfl rfl rfl rfl (fun X hX => Ib.load (Ib.ext i_11__115 hX)) ?_
    refine Pl.pA_end ?_
    refine Pl.G_any [2, 9, 10] 10 (by kernel_rfl) (by kernel_rfl) (by kernel_rfl) (Pl.AllG_cons ?_ (Pl.AllG_cons ?_ (Pl.AllG_cons ?_ Pl.AllG_nil)))
    · have h_x4__116 := Zn.below h_x4__8 (Ext.below hB9 (Ext.below hB10 (Ext.below hB11 (Ext.below hB12 (Ext.below hB115 hB116)))))
      have h_x8__116 := Zn.below h_x8__10 (Ext.below hB11 (Ext.below hB12 (Ext.below hB115 hB116)))
      refine Pl.pA_call rfl rfl rfl rfl rfl en33 ?_
      refine Calls.mono (zmul _ _ _ a b h_x4__116 h_x8__116 (Sz.le b_a (by decide)) (Sz.le b_b (by decide)) _ rfl) ?_
      rintro e w117 ⟨v_x90, rfl, h_x90, hB117⟩
      have hS117 := Ext.below hS116 hB117
      refine ⟨_, rfl, hS117, ?_⟩
      have b_x90 : Sz (a * b) 80 := Sz.mul b_a b_b (by decide)
      refine Pl.pA_end ?_
      refine Pl.G_any [4, 9, 10] 9 (by kernel_rfl) (by kernel_rfl) (by kernel_rfl) (Pl.AllG_cons ?_ (Pl.AllG_cons ?_ (Pl.AllG_cons ?_ Pl.AllG_nil)))
      · have h_x10__117 := Zn.below h_x10__10 (Ext.below hB11 (Ext.below hB12 (Ext.below hB115 (Ext.below hB116 hB117))))
        refine Pl.pA_call rfl rfl rfl rfl rfl en14 ?_
        refine Calls.mono (zdiv_D _ _ _ (a * b) ((k1 : Nat) : Int) h_x90 h_x10__117 (Sz.le b_x90 (by decide)) (Sz.le b_x10 (by decide)) hk0 _ _ rfl rfl) ?_
        rintro e w118 ⟨⟨v_x92, v_x93, rfl, h_x92, h_x93⟩, hB118⟩
        have hS118 := Ext.below hS117 hB118
        refine ⟨_, rfl, hS118, ?_⟩
        have b_x92 : Sz ((a * b) / ((k1 : Nat) : Int)) 80 := Sz.div b_x90
        have b_x93 : Sz ((a * b) % ((k1 : Nat) : Int)) 1 := Sz.mod b_x10 hk0
        refine Pl.pA_end ?_
        refine Pl.G_plan [(true, 5, 31), (true, 6, 63), (true, 7, 127), (true, 8, 255)] 511 5 Pl.post_panic (by kernel_rfl) (by kernel_rfl) (by kernel_rfl) ?_
        refine Pl.qA_move hS118 rfl rfl rfl rfl rfl ?_
        refine Pl.qA_extract hS118 rfl rfl rfl rfl rfl rfl ?_
        refine Pl.qA_extract hS118 rfl rfl rfl rfl rfl rfl ?_
        refine Pl.qA_extract hS118 rfl rfl rfl rfl rfl rfl ?_
        refine Pl.pA_end ?_
        refine Pl.G_any [9, 10] 4 (by kernel_rfl) (by kernel_rfl) (by kernel_rfl) (Pl.AllG_cons ?_ (Pl.AllG_cons ?_ Pl.AllG_nil))
        · refine allocI rfl rfl rfl rfl (fun _ k => Ext.below hS118 k) ?_
          intro N94 w119 hB119 z_N94 i_94
          have hS119 := Ext.below hS118 hB119
          refine Pl.pA_end ?_
          refine Pl.G_plan [(false, 10, 1023)] 2047 3 Pl.post_panic (by kernel_rfl) (by kernel_rfl) (by kernel_rfl) ?_
          refine allocI rfl rfl rfl rfl (fun _ k => Ext.below hS119 k) ?_
          intro N95 w120 hB120 z_N95 i_95
          have hS120 := Ext.below hS119 hB120
          refine Pl.pA_end ?_
          have i_94__120 := Ib.ext i_94 hB120
          have h_x92__120 := Zn.below h_x92 (Ext.below hB119 hB120)
          have h_x93__120 := Zn.below h_x93 (Ext.below hB119 hB120)
          exact Pl.G_sub [(1, (.int .u32 k1)), (4, (.bool false)), (5, (.bool true)), (6, .pointer (some ⟨N5, 0, none⟩)), (8, .pointer (some ⟨N11, 0, none⟩)), (10, .pointer (some ⟨N18, 0, none⟩)), (11, (.int .i64 0)), (13, .pointer (some ⟨N26, 0, none⟩)), (14, (.int .i64 0)), (16, .pointer (some ⟨N16_113, 0, none⟩)), (17, (.int .i64 0)), (18, .pointer (some ⟨N94, 0, none⟩)), (19, .pointer (some ⟨N95, 0, none⟩)), (69, v_x92), (70, v_x93), (71, (.int .i64 0))] (Pl.subl_cons rfl (Pl.subl_cons rfl (Pl.subl_cons rfl (Pl.subl_cons rfl (Pl.subl_cons rfl (Pl.subl_cons rfl (Pl.subl_cons rfl (Pl.subl_cons rfl (Pl.subl_cons rfl (Pl.subl_cons rfl (Pl.subl_cons rfl (Pl.subl_cons rfl (Pl.subl_cons rfl (Pl.subl_cons rfl (Pl.subl_cons rfl (Pl.subl_cons rfl Pl.subl_nil)))))))))))))))) (hK _ _ ⟨N94, N95, v_x92, v_x93, rfl, (Ext.below hB116 (Ext.below hB117 (Ext.below hB118 (Ext.below hB119 hB120)))), (Nat.le_trans (Below.size (Ext.below hB116 (Ext.below hB117 hB118))) z_N94), i_94__120, (Nat.le_trans (Below.size (Ext.below hB116 (Ext.below hB117 (Ext.below hB118 hB119)))) z_N95), i_95, h_x92__120, h_x93__120, (Nat.ne_of_lt (Nat.lt_of_lt_of_le (i_94).1 z_N95))⟩)
        · refine allocI rfl rfl rfl rfl (fun _ k => Ext.below hS118 k) ?_
          intro N94 w119 hB119 z_N94 i_94
          have hS119 := Ext.below hS118 hB119
          refine Pl.pA_end ?_
          refine Pl.G_plan [(false, 9, 1535)] 2047 3 Pl.post_panic (by kernel_rfl) (by kernel_rfl) (by kernel_rfl) ?_
          refine allocI rfl rfl rfl rfl (fun _ k => Ext.below hS119 k) ?_
          intro N95 w120 hB120 z_N95 i_95
          have hS120 := Ext.below hS119 hB120
          refine Pl.pA_end ?_
          have i_94__120 := Ib.ext i_94 hB120
          have h_x92__120 := Zn.below h_x92 (Ext.below hB119 hB120)
          have h_x93__120 := Zn.below h_x93 (Ext.below hB119 hB120)
          exact Pl.G_sub [(1, (.int .u32 k1)), (4, (.bool false)), (5, (.bool true)), (6, .pointer (some ⟨N5, 0, none⟩)), (8, .pointer (some ⟨N11, 0, none⟩)), (10, .pointer (some ⟨N18, 0, none⟩)), (11, (.int .i64 0)), (13, .pointer (some ⟨N26, 0, none⟩)), (14, (.int .i64 0)), (16, .pointer (some ⟨N16_113, 0, none⟩)), (17, (.int .i64 0)), (18, .pointer (some ⟨N95, 0, none⟩)), (19, .pointer (some ⟨N94, 0, none⟩)), (69, v_x92), (70, v_x93), (71, (.int .i64 0))] (Pl.subl_cons rfl (Pl.subl_cons rfl (Pl.subl_cons rfl (Pl.subl_cons rfl (Pl.subl_cons rfl (Pl.subl_cons rfl (Pl.subl_cons rfl (Pl.subl_cons rfl (Pl.subl_cons rfl (Pl.subl_cons rfl (Pl.subl_cons rfl (Pl.subl_cons rfl (Pl.subl_cons rfl (Pl.subl_cons rfl (Pl.subl_cons rfl (Pl.subl_cons rfl Pl.subl_nil)))))))))))))))) (hK _ _ ⟨N95, N94, v_x92, v_x93, rfl, (Ext.below hB116 (Ext.below hB117 (Ext.below hB118 (Ext.below hB119 hB120)))), (Nat.le_trans (Below.size (Ext.below hB116 (Ext.below hB117 (Ext.below hB118 hB119)))) z_N95), i_95, (Nat.le_trans (Below.size (Ext.below hB116 (Ext.below hB117 hB118))) z_N94), i_94__120, h_x92__120, h_x93__120, (Nat.ne_of_gt (Nat.lt_of_lt_of_le (i_94).1 z_N95))⟩)
      · refine allocI rfl rfl rfl rfl (fun _ k => Ext.below hS117 k) ?_
        intro N91 w118 hB118 z_N91 i_91
        have hS118 := Ext.below hS117 hB118
        refine Pl.pA_end ?_
        refine Pl.G_any [4, 10] 8 (by kernel_rfl) (by kernel_rfl) (by kernel_rfl) (Pl.AllG_cons ?_ (Pl.AllG_cons ?_ Pl.AllG_nil))
        · have h_x90__118 := Zn.below h_x90 hB118
          have h_x10__118 := Zn.below h_x10__10 (Ext.below hB11 (Ext.below hB12 (Ext.below hB115 (Ext.below hB116 (Ext.below hB117 hB118)))))
          refine Pl.pA_call rfl rfl rfl rfl rfl en14 ?_
          refine Calls.mono (zdiv_D _ _ _ (a * b) ((k1 : Nat) : Int) h_x90__118 h_x10__118 (Sz.le b_x90 (by decide)) (Sz.le b_x10 (by decide)) hk0 _ _ rfl rfl) ?_
          rintro e w119 ⟨⟨v_x94, v_x95, rfl, h_x94, h_x95⟩, hB119⟩
          have hS119 := Ext.below hS118 hB119
          refine ⟨_, rfl, hS119, ?_⟩
          have b_x94 : Sz ((a * b) / ((k1 : Nat) : Int)) 80 := Sz.div b_x90
          have b_x95 : Sz ((a * b) % ((k1 : Nat) : Int)) 1 := Sz.mod b_x10 hk0
          refine Pl.pA_end ?_
          refine Pl.G_plan [(true, 5, 543), (true, 6, 575), (true, 7, 639), (true, 8, 767), (false, 10, 1023)] 2047 3 Pl.post_panic (by kernel_rfl) (by kernel_rfl) (by kernel_rfl) ?_
          refine Pl.qA_move hS119 rfl rfl rfl rfl rfl ?_
          refine Pl.qA_extract hS119 rfl rfl rfl rfl rfl rfl ?_
          refine Pl.qA_extract hS119 rfl rfl rfl rfl rfl rfl ?_
          refine Pl.qA_extract hS119 rfl rfl rfl rfl rfl rfl ?_
          refine allocI rfl rfl rfl rfl (fun _ k => Ext.below hS119 k) ?_
          intro N96 w120 hB120 z_N96 i_96
          have hS120 := Ext.below hS119 hB120
          refine Pl.pA_end ?_
          have i_91__120 := Ib.ext i_91 (Ext.below hB119 hB120)
          have h_x94__120 := Zn.below h_x94 hB120
          have h_x95__120 := Zn.below h_x95 hB120
          exact Pl.G_sub [(1, (.int .u32 k1)), (4, (.bool false)), (5, (.bool true)), (6, .pointer (some ⟨N5, 0, none⟩)), (8, .pointer (some ⟨N11, 0, none⟩)), (10, .pointer (some ⟨N18, 0, none⟩)), (11, (.int .i64 0)), (13, .pointer (some ⟨N26, 0, none⟩)), (14, (.int .i64 0)), (16, .pointer (some ⟨N16_113, 0, none⟩)), (17, (.int .i64 0)), (18, .pointer (some ⟨N91, 0, none⟩)), (19, .pointer (some ⟨N96, 0, none⟩)), (69, v_x94), (70, v_x95), (71, (.int .i64 0))] (Pl.subl_cons rfl (Pl.subl_cons rfl (Pl.subl_cons rfl (Pl.subl_cons rfl (Pl.subl_cons rfl (Pl.subl_cons rfl (Pl.subl_cons rfl (Pl.subl_cons rfl (Pl.subl_cons rfl (Pl.subl_cons rfl (Pl.subl_cons rfl (Pl.subl_cons rfl (Pl.subl_cons rfl (Pl.subl_cons rfl (Pl.subl_cons rfl (Pl.subl_cons rfl Pl.subl_nil)))))))))))))))) (hK _ _ ⟨N91, N96, v_x94, v_x95, rfl, (Ext.below hB116 (Ext.below hB117 (Ext.below hB118 (Ext.below hB119 hB120)))), (Nat.le_trans (Below.size (Ext.below hB116 hB117)) z_N91), i_91__120, (Nat.le_trans (Below.size (Ext.below hB116 (Ext.below hB117 (Ext.below hB118 hB119)))) z_N96), i_96, h_x94__120, h_x95__120, (Nat.ne_of_lt (Nat.lt_of_lt_of_le (Ib.ext i_91 hB119).1 z_N96))⟩)
        · refine allocI rfl rfl rfl rfl (fun _ k => Ext.below hS118 k) ?_
          intro N92 w119 hB119 z_N92 i_92
          have hS119 := Ext.below hS118 hB119
          refine Pl.pA_end ?_
          refine Pl.G_plan [(false, 4, 1551), (true, 5, 1567), (true, 6, 1599), (true, 7, 1663), (true, 8, 1791)] 2047 3 Pl.post_panic (by kernel_rfl) (by kernel_rfl) (by kernel_rfl) ?_
          have h_x90__119 := Zn.below h_x90 (Ext.below hB118 hB119)
          have h_x10__119 := Zn.below h_x10__10 (Ext.below hB11 (Ext.below hB12 (Ext.below hB115 (Ext.below hB116 (Ext.below hB117 (Ext.below hB118 hB119))))))
          refine Pl.pA_call rfl rfl rfl rfl rfl en14 ?_
          refine Calls.mono (zdiv_D _ _ _ (a * b) ((k1 : Nat) : Int) h_x90__119 h_x10__119 (Sz.le b_x90 (by decide)) (Sz.le b_x10 (by decide)) hk0 _ _ rfl rfl) ?_
          rintro e w120 ⟨⟨v_x95, v_x96, rfl, h_x95, h_x96⟩, hB120⟩
          have hS120 := Ext.below hS119 hB120
          refine ⟨_, rfl, hS120, ?_⟩
          have b_x95 : Sz ((a * b) / ((k1 : Nat) : Int)) 80 := Sz.div b_x90
          have b_x96 : Sz ((a * b) % ((k1 : Nat) : Int)) 1 := Sz.mod b_x10 hk0
          refine Pl.qA_move hS120 rfl rfl rfl rfl rfl ?_
          refine Pl.qA_extract hS120 rfl rfl rfl rfl rfl rfl ?_
          refine Pl.qA_extract hS120 rfl rfl rfl rfl rfl rfl ?_
          refine Pl.qA_extract hS120 rfl rfl rfl rfl rfl rfl ?_
          refine Pl.pA_end ?_
          have i_91__120 := Ib.ext i_91 (Ext.below hB119 hB120)
          have i_92__120 := Ib.ext i_92 hB120
          exact Pl.G_sub [(1, (.int .u32 k1)), (4, (.bool false)), (5, (.bool true)), (6, .pointer (some ⟨N5, 0, none⟩)), (8, .pointer (some ⟨N11, 0, none⟩)), (10, .pointer (some ⟨N18, 0, none⟩)), (11, (.int .i64 0)), (13, .pointer (some ⟨N26, 0, none⟩)), (14, (.int .i64 0)), (16, .pointer (some ⟨N16_113, 0, none⟩)), (17, (.int .i64 0)), (18, .pointer (some ⟨N91, 0, none⟩)), (19, .pointer (some ⟨N92, 0, none⟩)), (69, v_x95), (70, v_x96), (71, (.int .i64 0))] (Pl.subl_cons rfl (Pl.subl_cons rfl (Pl.subl_cons rfl (Pl.subl_cons rfl (Pl.subl_cons rfl (Pl.subl_cons rfl (Pl.subl_cons rfl (Pl.subl_cons rfl (Pl.subl_cons rfl (Pl.subl_cons rfl (Pl.subl_cons rfl (Pl.subl_cons rfl (Pl.subl_cons rfl (Pl.subl_cons rfl (Pl.subl_cons rfl (Pl.subl_cons rfl Pl.subl_nil)))))))))))))))) (hK _ _ ⟨N91, N92, v_x95, v_x96, rfl, (Ext.below hB116 (Ext.below hB117 (Ext.below hB118 (Ext.below hB119 hB120)))), (Nat.le_trans (Below.size (Ext.below hB116 hB117)) z_N91), i_91__120, (Nat.le_trans (Below.size (Ext.below hB116 (Ext.below hB117 hB118))) z_N92), i_92__120, h_x95, h_x96, (Nat.ne_of_lt (Nat.lt_of_lt_of_le (i_91).1 z_N92))⟩)
      · refine allocI rfl rfl rfl rfl (fun _ k => Ext.below hS117 k) ?_
        intro N91 w118 hB118 z_N91 i_91
        have hS118 := Ext.below hS117 hB118
        refine Pl.pA_end ?_
        refine Pl.G_any [4, 9] 8 (by kernel_rfl) (by kernel_rfl) (by kernel_rfl) (Pl.AllG_cons ?_ (Pl.AllG_cons ?_ Pl.AllG_nil))
        · have h_x90__118 := Zn.below h_x90 hB118
          have h_x10__118 := Zn.below h_x10__10 (Ext.below hB11 (Ext.below hB12 (Ext.below hB115 (Ext.below hB116 (Ext.below hB117 hB118)))))
          refine Pl.pA_call rfl rfl rfl rfl rfl en14 ?_
          refine Calls.mono (zdiv_D _ _ _ (a * b) ((k1 : Nat) : Int) h_x90__118 h_x10__118 (Sz.le b_x90 (by decide)) (Sz.le b_x10 (by decide)) hk0 _ _ rfl rfl) ?_
          rintro e w119 ⟨⟨v_x94, v_x95, rfl, h_x94, h_x95⟩, hB119⟩
          have hS119 := Ext.below hS118 hB119
          refine ⟨_, rfl, hS119, ?_⟩
          have b_x94 : Sz ((a * b) / ((k1 : Nat) : Int)) 80 := Sz.div b_x90
          have b_x95 : Sz ((a * b) % ((k1 : Nat) : Int)) 1 := Sz.mod b_x10 hk0
          refine Pl.pA_end ?_
          refine Pl.G_plan [(true, 5, 1055), (true, 6, 1087), (true, 7, 1151), (true, 8, 1279), (false, 9, 1535)] 2047 3 Pl.post_panic (by kernel_rfl) (by kernel_rfl) (by kernel_rfl) ?_
          refine Pl.qA_move hS119 rfl rfl rfl rfl rfl ?_
          refine Pl.qA_extract hS119 rfl rfl rfl rfl rfl rfl ?_
          refine Pl.qA_extract hS119 rfl rfl rfl rfl rfl rfl ?_
          refine Pl.qA_extract hS119 rfl rfl rfl rfl rfl rfl ?_
          refine allocI rfl rfl rfl rfl (fun _ k => Ext.below hS119 k) ?_
          intro N96 w120 hB120 z_N96 i_96
          have hS120 := Ext.below hS119 hB120
          refine Pl.pA_end ?_
          have i_91__120 := Ib.ext i_91 (Ext.below hB119 hB120)
          have h_x94__120 := Zn.below h_x94 hB120
          have h_x95__120 := Zn.below h_x95 hB120
          exact Pl.G_sub [(1, (.int .u32 k1)), (4, (.bool false)), (5, (.bool true)), (6, .pointer (some ⟨N5, 0, none⟩)), (8, .pointer (some ⟨N11, 0, none⟩)), (10, .pointer (some ⟨N18, 0, none⟩)), (11, (.int .i64 0)), (13, .pointer (some ⟨N26, 0, none⟩)), (14, (.int .i64 0)), (16, .pointer (some ⟨N16_113, 0, none⟩)), (17, (.int .i64 0)), (18, .pointer (some ⟨N96, 0, none⟩)), (19, .pointer (some ⟨N91, 0, none⟩)), (69, v_x94), (70, v_x95), (71, (.int .i64 0))] (Pl.subl_cons rfl (Pl.subl_cons rfl (Pl.subl_cons rfl (Pl.subl_cons rfl (Pl.subl_cons rfl (Pl.subl_cons rfl (Pl.subl_cons rfl (Pl.subl_cons rfl (Pl.subl_cons rfl (Pl.subl_cons rfl (Pl.subl_cons rfl (Pl.subl_cons rfl (Pl.subl_cons rfl (Pl.subl_cons rfl (Pl.subl_cons rfl (Pl.subl_cons rfl Pl.subl_nil)))))))))))))))) (hK _ _ ⟨N96, N91, v_x94, v_x95, rfl, (Ext.below hB116 (Ext.below hB117 (Ext.below hB118 (Ext.below hB119 hB120)))), (Nat.le_trans (Below.size (Ext.below hB116 (Ext.below hB117 (Ext.below hB118 hB119)))) z_N96), i_96, (Nat.le_trans (Below.size (Ext.below hB116 hB117)) z_N91), i_91__120, h_x94__120, h_x95__120, (Nat.ne_of_gt (Nat.lt_of_lt_of_le (Ib.ext i_91 hB119).1 z_N96))⟩)
        · refine allocI rfl rfl rfl rfl (fun _ k => Ext.below hS118 k) ?_
          intro N92 w119 hB119 z_N92 i_92
          have hS119 := Ext.below hS118 hB119
          refine Pl.pA_end ?_
          refine Pl.G_plan [(false, 4, 1551), (true, 5, 1567), (true, 6, 1599), (true, 7, 1663), (true, 8, 1791)] 2047 3 Pl.post_panic (by kernel_rfl) (by kernel_rfl) (by kernel_rfl) ?_
          have h_x90__119 := Zn.below h_x90 (Ext.below hB118 hB119)
          have h_x10__119 := Zn.below h_x10__10 (Ext.below hB11 (Ext.below hB12 (Ext.below hB115 (Ext.below hB116 (Ext.below hB117 (Ext.below hB118 hB119))))))
          refine Pl.pA_call rfl rfl rfl rfl rfl en14 ?_
          refine Calls.mono (zdiv_D _ _ _ (a * b) ((k1 : Nat) : Int) h_x90__119 h_x10__119 (Sz.le b_x90 (by decide)) (Sz.le b_x10 (by decide)) hk0 _ _ rfl rfl) ?_
          rintro e w120 ⟨⟨v_x95, v_x96, rfl, h_x95, h_x96⟩, hB120⟩
          have hS120 := Ext.below hS119 hB120
          refine ⟨_, rfl, hS120, ?_⟩
          have b_x95 : Sz ((a * b) / ((k1 : Nat) : Int)) 80 := Sz.div b_x90
          have b_x96 : Sz ((a * b) % ((k1 : Nat) : Int)) 1 := Sz.mod b_x10 hk0
          refine Pl.qA_move hS120 rfl rfl rfl rfl rfl ?_
          refine Pl.qA_extract hS120 rfl rfl rfl rfl rfl rfl ?_
          refine Pl.qA_extract hS120 rfl rfl rfl rfl rfl rfl ?_
          refine Pl.qA_extract hS120 rfl rfl rfl rfl rfl rfl ?_
          refine Pl.pA_end ?_
          have i_92__120 := Ib.ext i_92 hB120
          have i_91__120 := Ib.ext i_91 (Ext.below hB119 hB120)
          exact Pl.G_sub [(1, (.int .u32 k1)), (4, (.bool false)), (5, (.bool true)), (6, .pointer (some ⟨N5, 0, none⟩)), (8, .pointer (some ⟨N11, 0, none⟩)), (10, .pointer (some ⟨N18, 0, none⟩)), (11, (.int .i64 0)), (13, .pointer (some ⟨N26, 0, none⟩)), (14, (.int .i64 0)), (16, .pointer (some ⟨N16_113, 0, none⟩)), (17, (.int .i64 0)), (18, .pointer (some ⟨N92, 0, none⟩)), (19, .pointer (some ⟨N91, 0, none⟩)), (69, v_x95), (70, v_x96), (71, (.int .i64 0))] (Pl.subl_cons rfl (Pl.subl_cons rfl (Pl.subl_cons rfl (Pl.subl_cons rfl (Pl.subl_cons rfl (Pl.subl_cons rfl (Pl.subl_cons rfl (Pl.subl_cons rfl (Pl.subl_cons rfl (Pl.subl_cons rfl (Pl.subl_cons rfl (Pl.subl_cons rfl (Pl.subl_cons rfl (Pl.subl_cons rfl (Pl.subl_cons rfl (Pl.subl_cons rfl Pl.subl_nil)))))))))))))))) (hK _ _ ⟨N92, N91, v_x95, v_x96, rfl, (Ext.below hB116 (Ext.below hB117 (Ext.below hB118 (Ext.below hB119 hB120)))), (Nat.le_trans (Below.size (Ext.below hB116 (Ext.below hB117 hB118))) z_N92), i_92__120, (Nat.le_trans (Below.size (Ext.below hB116 hB117)) z_N91), i_91__120, h_x95, h_x96, (Nat.ne_of_gt (Nat.lt_of_lt_of_le (i_91).1 z_N92))⟩)
    · refine allocI rfl rfl rfl rfl (fun _ k => Ext.below hS116 k) ?_
      intro N88 w117 hB117 z_N88 i_88
      have hS117 := Ext.below hS116 hB117
      refine Pl.pA_end ?_
      refine Pl.G_any [2, 10] 9 (by kernel_rfl) (by kernel_rfl) (by kernel_rfl) (Pl.AllG_cons ?_ (Pl.AllG_cons ?_ Pl.AllG_nil))
      · have h_x4__117 := Zn.below h_x4__8 (Ext.below hB9 (Ext.below hB10 (Ext.below hB11 (Ext.below hB12 (Ext.below hB115 (Ext.below hB116 hB117))))))
        have h_x8__117 := Zn.below h_x8__10 (Ext.below hB11 (Ext.below hB12 (Ext.below hB115 (Ext.below hB116 hB117))))
        refine Pl.pA_call rfl rfl rfl rfl rfl en33 ?_
        refine Calls.mono (zmul _ _ _ a b h_x4__117 h_x8__117 (Sz.le b_a (by decide)) (Sz.le b_b (by decide)) _ rfl) ?_
        rintro e w118 ⟨v_x91, rfl, h_x91, hB118⟩
        have hS118 := Ext.below hS117 hB118
        refine ⟨_, rfl, hS118, ?_⟩
        have b_x91 : Sz (a * b) 80 := Sz.mul b_a b_b (by decide)
        refine Pl.pA_end ?_
        refine Pl.G_any [4, 10] 8 (by kernel_rfl) (by kernel_rfl) (by kernel_rfl) (Pl.AllG_cons ?_ (Pl.AllG_cons ?_ Pl.AllG_nil))
        · have h_x10__118 := Zn.below h_x10__10 (Ext.below hB11 (Ext.below hB12 (Ext.below hB115 (Ext.below hB116 (Ext.below hB117 hB118)))))
          refine Pl.pA_call rfl rfl rfl rfl rfl en14 ?_
          refine Calls.mono (zdiv_D _ _ _ (a * b) ((k1 : Nat) : Int) h_x91 h_x10__118 (Sz.le b_x91 (by decide)) (Sz.le b_x10 (by decide)) hk0 _ _ rfl rfl) ?_
          rintro e w119 ⟨⟨v_x93, v_x94, rfl, h_x93, h_x94⟩, hB119⟩
          have hS119 := Ext.below hS118 hB119
          refine ⟨_, rfl, hS119, ?_⟩
          have b_x93 : Sz ((a * b) / ((k1 : Nat) : Int)) 80 := Sz.div b_x91
          have b_x94 : Sz ((a * b) % ((k1 : Nat) : Int)) 1 := Sz.mod b_x10 hk0
          refine Pl.pA_end ?_
          refine Pl.G_plan [(true, 5, 543), (true, 6, 575), (true, 7, 639), (true, 8, 767), (false, 10, 1023)] 2047 3 Pl.post_panic (by kernel_rfl) (by kernel_rfl) (by kernel_rfl) ?_
          refine Pl.qA_move hS119 rfl rfl rfl rfl rfl ?_
          refine Pl.qA_extract hS119 rfl rfl rfl rfl rfl rfl ?_
          refine Pl.qA_extract hS119 rfl rfl rfl rfl rfl rfl ?_
          refine Pl.qA_extract hS119 rfl rfl rfl rfl rfl rfl ?_
          refine allocI rfl rfl rfl rfl (fun _ k => Ext.below hS119 k) ?_
          intro N95 w120 hB120 z_N95 i_95
          have hS120 := Ext.below hS119 hB120
          refine Pl.pA_end ?_
          have i_88__120 := Ib.ext i_88 (Ext.below hB118 (Ext.below hB119 hB120))
          have h_x93__120 := Zn.below h_x93 hB120
          have h_x94__120 := Zn.below h_x94 hB120
          exact Pl.G_sub [(1, (.int .u32 k1)), (4, (.bool false)), (5, (.bool true)), (6, .pointer (some ⟨N5, 0, none⟩)), (8, .pointer (some ⟨N11, 0, none⟩)), (10, .pointer (some ⟨N18, 0, none⟩)), (11, (.int .i64 0)), (13, .pointer (some ⟨N26, 0, none⟩)), (14, (.int .i64 0)), (16, .pointer (some ⟨N16_113, 0, none⟩)), (17, (.int .i64 0)), (18, .pointer (some ⟨N88, 0, none⟩)), (19, .pointer (some ⟨N95, 0, none⟩)), (69, v_x93), (70, v_x94), (71, (.int .i64 0))] (Pl.subl_cons rfl (Pl.subl_cons rfl (Pl.subl_cons rfl (Pl.subl_cons rfl (Pl.subl_cons rfl (Pl.subl_cons rfl (Pl.subl_cons rfl (Pl.subl_cons rfl (Pl.subl_cons rfl (Pl.subl_cons rfl (Pl.subl_cons rfl (Pl.subl_cons rfl (Pl.subl_cons rfl (Pl.subl_cons rfl (Pl.subl_cons rfl (Pl.subl_cons rfl Pl.subl_nil)))))))))))))))) (hK _ _ ⟨N88, N95, v_x93, v_x94, rfl, (Ext.below hB116 (Ext.below hB117 (Ext.below hB118 (Ext.below hB119 hB120)))), (Nat.le_trans (Below.size hB116) z_N88), i_88__120, (Nat.le_trans (Below.size (Ext.below hB116 (Ext.below hB117 (Ext.below hB118 hB119)))) z_N95), i_95, h_x93__120, h_x94__120, (Nat.ne_of_lt (Nat.lt_of_lt_of_le (Ib.ext i_88 (Ext.below hB118 hB119)).1 z_N95))⟩)
        · refine allocI rfl rfl rfl rfl (fun _ k => Ext.below hS118 k) ?_
          intro N92 w119 hB119 z_N92 i_92
          have hS119 := Ext.below hS118 hB119
          refine Pl.pA_end ?_
          refine Pl.G_plan [(false, 4, 1551), (true, 5, 1567), (true, 6, 1599), (true, 7, 1663), (true, 8, 1791)] 2047 3 Pl.post_panic (by kernel_rfl) (by kernel_rfl) (by kernel_rfl) ?_
          have h_x91__119 := Zn.below h_x91 hB119
          have h_x10__119 := Zn.below h_x10__10 (Ext.below hB11 (Ext.below hB12 (Ext.below hB115 (Ext.below hB116 (Ext.below hB117 (Ext.below hB118 hB119))))))
          refine Pl.pA_call rfl rfl rfl rfl rfl en14 ?_
          refine Calls.mono (zdiv_D _ _ _ (a * b) ((k1 : Nat) : Int) h_x91__119 h_x10__119 (Sz.le b_x91 (by decide)) (Sz.le b_x10 (by decide)) hk0 _ _ rfl rfl) ?_
          rintro e w120 ⟨⟨v_x95, v_x96, rfl, h_x95, h_x96⟩, hB120⟩
          have hS120 := Ext.below hS119 hB120
          refine ⟨_, rfl, hS120, ?_⟩
          have b_x95 : Sz ((a * b) / ((k1 : Nat) : Int)) 80 := Sz.div b_x91
          have b_x96 : Sz ((a * b) % ((k1 : Nat) : Int)) 1 := Sz.mod b_x10 hk0
          refine Pl.qA_move hS120 rfl rfl rfl rfl rfl ?_
          refine Pl.qA_extract hS120 rfl rfl rfl rfl rfl rfl ?_
          refine Pl.qA_extract hS120 rfl rfl rfl rfl rfl rfl ?_
          refine Pl.qA_extract hS120 rfl rfl rfl rfl rfl rfl ?_
          refine Pl.pA_end ?_
          have i_88__120 := Ib.ext i_88 (Ext.below hB118 (Ext.below hB119 hB120))
          have i_92__120 := Ib.ext i_92 hB120
          exact Pl.G_sub [(1, (.int .u32 k1)), (4, (.bool false)), (5, (.bool true)), (6, .pointer (some ⟨N5, 0, none⟩)), (8, .pointer (some ⟨N11, 0, none⟩)), (10, .pointer (some ⟨N18, 0, none⟩)), (11, (.int .i64 0)), (13, .pointer (some ⟨N26, 0, none⟩)), (14, (.int .i64 0)), (16, .pointer (some ⟨N16_113, 0, none⟩)), (17, (.int .i64 0)), (18, .pointer (some ⟨N88, 0, none⟩)), (19, .pointer (some ⟨N92, 0, none⟩)), (69, v_x95), (70, v_x96), (71, (.int .i64 0))] (Pl.subl_cons rfl (Pl.subl_cons rfl (Pl.subl_cons rfl (Pl.subl_cons rfl (Pl.subl_cons rfl (Pl.subl_cons rfl (Pl.subl_cons rfl (Pl.subl_cons rfl (Pl.subl_cons rfl (Pl.subl_cons rfl (Pl.subl_cons rfl (Pl.subl_cons rfl (Pl.subl_cons rfl (Pl.subl_cons rfl (Pl.subl_cons rfl (Pl.subl_cons rfl Pl.subl_nil)))))))))))))))) (hK _ _ ⟨N88, N92, v_x95, v_x96, rfl, (Ext.below hB116 (Ext.below hB117 (Ext.below hB118 (Ext.below hB119 hB120)))), (Nat.le_trans (Below.size hB116) z_N88), i_88__120, (Nat.le_trans (Below.size (Ext.below hB116 (Ext.below hB117 hB118))) z_N92), i_92__120, h_x95, h_x96, (Nat.ne_of_lt (Nat.lt_of_lt_of_le (Ib.ext i_88 hB118).1 z_N92))⟩)
      · refine allocI rfl rfl rfl rfl (fun _ k => Ext.below hS117 k) ?_
        intro N89 w118 hB118 z_N89 i_89
        have hS118 := Ext.below hS117 hB118
        refine Pl.pA_end ?_
        refine Pl.G_plan [(false, 2, 1547), (false, 4, 1551), (true, 5, 1567), (true, 6, 1599), (true, 7, 1663), (true, 8, 1791)] 2047 3 Pl.post_panic (by kernel_rfl) (by kernel_rfl) (by kernel_rfl) ?_
        have h_x4__118 := Zn.below h_x4__8 (Ext.below hB9 (Ext.below hB10 (Ext.below hB11 (Ext.below hB12 (Ext.below hB115 (Ext.below hB116 (Ext.below hB117 hB118)))))))
        have h_x8__118 := Zn.below h_x8__10 (Ext.below hB11 (Ext.below hB12 (Ext.below hB115 (Ext.below hB116 (Ext.below hB117 hB118)))))
        refine Pl.pA_call rfl rfl rfl rfl rfl en33 ?_
        refine Calls.mono (zmul _ _ _ a b h_x4__118 h_x8__118 (Sz.le b_a (by decide)) (Sz.le b_b (by decide)) _ rfl) ?_
        rintro e w119 ⟨v_x92, rfl, h_x92, hB119⟩
        have hS119 := Ext.below hS118 hB119
        refine ⟨_, rfl, hS119, ?_⟩
        have b_x92 : Sz (a * b) 80 := Sz.mul b_a b_b (by decide)
        have h_x10__119 := Zn.below h_x10__10 (Ext.below hB11 (Ext.below hB12 (Ext.below hB115 (Ext.below hB116 (Ext.below hB117 (Ext.below hB118 hB119))))))
        refine Pl.pA_call rfl rfl rfl rfl rfl en14 ?_
        refine Calls.mono (zdiv_D _ _ _ (a * b) ((k1 : Nat) : Int) h_x92 h_x10__119 (Sz.le b_x92 (by decide)) (Sz.le b_x10 (by decide)) hk0 _ _ rfl rfl) ?_
        rintro e w120 ⟨⟨v_x94, v_x95, rfl, h_x94, h_x95⟩, hB120⟩
        have hS120 := Ext.below hS119 hB120
        refine ⟨_, rfl, hS120, ?_⟩
        have b_x94 : Sz ((a * b) / ((k1 : Nat) : Int)) 80 := Sz.div b_x92
        have b_x95 : Sz ((a * b) % ((k1 : Nat) : Int)) 1 := Sz.mod b_x10 hk0
        refine Pl.qA_move hS120 rfl rfl rfl rfl rfl ?_
        refine Pl.qA_extract hS120 rfl rfl rfl rfl rfl rfl ?_
        refine Pl.qA_extract hS120 rfl rfl rfl rfl rfl rfl ?_
        refine Pl.qA_extract hS120 rfl rfl rfl rfl rfl rfl ?_
        refine Pl.pA_end ?_
        have i_88__120 := Ib.ext i_88 (Ext.below hB118 (Ext.below hB119 hB120))
        have i_89__120 := Ib.ext i_89 (Ext.below hB119 hB120)
        exact Pl.G_sub [(1, (.int .u32 k1)), (4, (.bool false)), (5, (.bool true)), (6, .pointer (some ⟨N5, 0, none⟩)), (8, .pointer (some ⟨N11, 0, none⟩)), (10, .pointer (some ⟨N18, 0, none⟩)), (11, (.int .i64 0)), (13, .pointer (some ⟨N26, 0, none⟩)), (14, (.int .i64 0)), (16, .pointer (some ⟨N16_113, 0, none⟩)), (17, (.int .i64 0)), (18, .pointer (some ⟨N88, 0, none⟩)), (19, .pointer (some ⟨N89, 0, none⟩)), (69, v_x94), (70, v_x95), (71, (.int .i64 0))] (Pl.subl_cons rfl (Pl.subl_cons rfl (Pl.subl_cons rfl (Pl.subl_cons rfl (Pl.subl_cons rfl (Pl.subl_cons rfl (Pl.subl_cons rfl (Pl.subl_cons rfl (Pl.subl_cons rfl (Pl.subl_cons rfl (Pl.subl_cons rfl (Pl.subl_cons rfl (Pl.subl_cons rfl (Pl.subl_cons rfl (Pl.subl_cons rfl (Pl.subl_cons rfl Pl.subl_nil)))))))))))))))) (hK _ _ ⟨N88, N89, v_x94, v_x95, rfl, (Ext.below hB116 (Ext.below hB117 (Ext.below hB118 (Ext.below hB119 hB120)))), (Nat.le_trans (Below.size hB116) z_N88), i_88__120, (Nat.le_trans (Below.size (Ext.below hB116 hB117)) z_N89), i_89__120, h_x94, h_x95, (Nat.ne_of_lt (Nat.lt_of_lt_of_le (i_88).1 z_N89))⟩)
    · refine allocI rfl rfl rfl rfl (fun _ k => Ext.below hS116 k) ?_
      intro N88 w117 hB117 z_N88 i_88
      have hS117 := Ext.below hS116 hB117
      refine Pl.pA_end ?_
      refine Pl.G_any [2, 9] 9 (by kernel_rfl) (by kernel_rfl) (by kernel_rfl) (Pl.AllG_cons ?_ (Pl.AllG_cons ?_ Pl.AllG_nil))
      · have h_x4__117 := Zn.below h_x4__8 (Ext.below hB9 (Ext.below hB10 (Ext.below hB11 (Ext.below hB12 (Ext.below hB115 (Ext.below hB116 hB117))))))
        have h_x8__117 := Zn.below h_x8__10 (Ext.below hB11 (Ext.below hB12 (Ext.below hB115 (Ext.below hB116 hB117))))
        refine Pl.pA_call rfl rfl rfl rfl rfl en33 ?_
        refine Calls.mono (zmul _ _ _ a b h_x4__117 h_x8__117 (Sz.le b_a (by decide)) (Sz.le b_b (by decide)) _ rfl) ?_
        rintro e w118 ⟨v_x91, rfl, h_x91, hB118⟩
        have hS118 := Ext.below hS117 hB118
        refine ⟨_, rfl, hS118, ?_⟩
        have b_x91 : Sz (a * b) 80 := Sz.mul b_a b_b (by decide)
        refine Pl.pA_end ?_
        refine Pl.G_any [4, 9] 8 (by kernel_rfl) (by kernel_rfl) (by kernel_rfl) (Pl.AllG_cons ?_ (Pl.AllG_cons ?_ Pl.AllG_nil))
        · have h_x10__118 := Zn.below h_x10__10 (Ext.below hB11 (Ext.below hB12 (Ext.below hB115 (Ext.below hB116 (Ext.below hB117 hB118)))))
          refine Pl.pA_call rfl rfl rfl rfl rfl en14 ?_
          refine Calls.mono (zdiv_D _ _ _ (a * b) ((k1 : Nat) : Int) h_x91 h_x10__118 (Sz.le b_x91 (by decide)) (Sz.le b_x10 (by decide)) hk0 _ _ rfl rfl) ?_
          rintro e w119 ⟨⟨v_x93, v_x94, rfl, h_x93, h_x94⟩, hB119⟩
          have hS119 := Ext.below hS118 hB119
          refine ⟨_, rfl, hS119, ?_⟩
          have b_x93 : Sz ((a * b) / ((k1 : Nat) : Int)) 80 := Sz.div b_x91
          have b_x94 : Sz ((a * b) % ((k1 : Nat) : Int)) 1 := Sz.mod b_x10 hk0
          refine Pl.pA_end ?_
          refine Pl.G_plan [(true, 5, 1055), (true, 6, 1087), (true, 7, 1151), (true, 8, 1279), (false, 9, 1535)] 2047 3 Pl.post_panic (by kernel_rfl) (by kernel_rfl) (by kernel_rfl) ?_
          refine Pl.qA_move hS119 rfl rfl rfl rfl rfl ?_
          refine Pl.qA_extract hS119 rfl rfl rfl rfl rfl rfl ?_
          refine Pl.qA_extract hS119 rfl rfl rfl rfl rfl rfl ?_
          refine Pl.qA_extract hS119 rfl rfl rfl rfl rfl rfl ?_
          refine allocI rfl rfl rfl rfl (fun _ k => Ext.below hS119 k) ?_
          intro N95 w120 hB120 z_N95 i_95
          have hS120 := Ext.below hS119 hB120
          refine Pl.pA_end ?_
          have i_88__120 := Ib.ext i_88 (Ext.below hB118 (Ext.below hB119 hB120))
          have h_x93__120 := Zn.below h_x93 hB120
          have h_x94__120 := Zn.below h_x94 hB120
          exact Pl.G_sub [(1, (.int .u32 k1)), (4, (.bool false)), (5, (.bool true)), (6, .pointer (some ⟨N5, 0, none⟩)), (8, .pointer (some ⟨N11, 0, none⟩)), (10, .pointer (some ⟨N18, 0, none⟩)), (11, (.int .i64 0)), (13, .pointer (some ⟨N26, 0, none⟩)), (14, (.int .i64 0)), (16, .pointer (some ⟨N16_113, 0, none⟩)), (17, (.int .i64 0)), (18, .pointer (some ⟨N95, 0, none⟩)), (19, .pointer (some ⟨N88, 0, none⟩)), (69, v_x93), (70, v_x94), (71, (.int .i64 0))] (Pl.subl_cons rfl (Pl.subl_cons rfl (Pl.subl_cons rfl (Pl.subl_cons rfl (Pl.subl_cons rfl (Pl.subl_cons rfl (Pl.subl_cons rfl (Pl.subl_cons rfl (Pl.subl_cons rfl (Pl.subl_cons rfl (Pl.subl_cons rfl (Pl.subl_cons rfl (Pl.subl_cons rfl (Pl.subl_cons rfl (Pl.subl_cons rfl (Pl.subl_cons rfl Pl.subl_nil)))))))))))))))) (hK _ _ ⟨N95, N88, v_x93, v_x94, rfl, (Ext.below hB116 (Ext.below hB117 (Ext.below hB118 (Ext.below hB119 hB120)))), (Nat.le_trans (Below.size (Ext.below hB116 (Ext.below hB117 (Ext.below hB118 hB119)))) z_N95), i_95, (Nat.le_trans (Below.size hB116) z_N88), i_88__120, h_x93__120, h_x94__120, (Nat.ne_of_gt (Nat.lt_of_lt_of_le (Ib.ext i_88 (Ext.below hB118 hB119)).1 z_N95))⟩)
        · refine allocI rfl rfl rfl rfl (fun _ k => Ext.below hS118 k) ?_
          intro N92 w119 hB119 z_N92 i_92
          have hS119 := Ext.below hS118 hB119
          refine Pl.pA_end ?_
          refine Pl.G_plan [(false, 4, 1551), (true, 5, 1567), (true, 6, 1599), (true, 7, 1663), (true, 8, 1791)] 2047 3 Pl.post_panic (by kernel_rfl) (by kernel_rfl) (by kernel_rfl) ?_
          have h_x91__119 := Zn.below h_x91 hB119
          have h_x10__119 := Zn.below h_x10__10 (Ext.below hB11 (Ext.below hB12 (Ext.below hB115 (Ext.below hB116 (Ext.below hB117 (Ext.below hB118 hB119))))))
          refine Pl.pA_call rfl rfl rfl rfl rfl en14 ?_
          refine Calls.mono (zdiv_D _ _ _ (a * b) ((k1 : Nat) : Int) h_x91__119 h_x10__119 (Sz.le b_x91 (by decide)) (Sz.le b_x10 (by decide)) hk0 _ _ rfl rfl) ?_
          rintro e w120 ⟨⟨v_x95, v_x96, rfl, h_x95, h_x96⟩, hB120⟩
          have hS120 := Ext.below hS119 hB120
          refine ⟨_, rfl, hS120, ?_⟩
          have b_x95 : Sz ((a * b) / ((k1 : Nat) : Int)) 80 := Sz.div b_x91
          have b_x96 : Sz ((a * b) % ((k1 : Nat) : Int)) 1 := Sz.mod b_x10 hk0
          refine Pl.qA_move hS120 rfl rfl rfl rfl rfl ?_
          refine Pl.qA_extract hS120 rfl rfl rfl rfl rfl rfl ?_
          refine Pl.qA_extract hS120 rfl rfl rfl rfl rfl rfl ?_
          refine Pl.qA_extract hS120 rfl rfl rfl rfl rfl rfl ?_
          refine Pl.pA_end ?_
          have i_92__120 := Ib.ext i_92 hB120
          have i_88__120 := Ib.ext i_88 (Ext.below hB118 (Ext.below hB119 hB120))
          exact Pl.G_sub [(1, (.int .u32 k1)), (4, (.bool false)), (5, (.bool true)), (6, .pointer (some ⟨N5, 0, none⟩)), (8, .pointer (some ⟨N11, 0, none⟩)), (10, .pointer (some ⟨N18, 0, none⟩)), (11, (.int .i64 0)), (13, .pointer (some ⟨N26, 0, none⟩)), (14, (.int .i64 0)), (16, .pointer (some ⟨N16_113, 0, none⟩)), (17, (.int .i64 0)), (18, .pointer (some ⟨N92, 0, none⟩)), (19, .pointer (some ⟨N88, 0, none⟩)), (69, v_x95), (70, v_x96), (71, (.int .i64 0))] (Pl.subl_cons rfl (Pl.subl_cons rfl (Pl.subl_cons rfl (Pl.subl_cons rfl (Pl.subl_cons rfl (Pl.subl_cons rfl (Pl.subl_cons rfl (Pl.subl_cons rfl (Pl.subl_cons rfl (Pl.subl_cons rfl (Pl.subl_cons rfl (Pl.subl_cons rfl (Pl.subl_cons rfl (Pl.subl_cons rfl (Pl.subl_cons rfl (Pl.subl_cons rfl Pl.subl_nil)))))))))))))))) (hK _ _ ⟨N92, N88, v_x95, v_x96, rfl, (Ext.below hB116 (Ext.below hB117 (Ext.below hB118 (Ext.below hB119 hB120)))), (Nat.le_trans (Below.size (Ext.below hB116 (Ext.below hB117 hB118))) z_N92), i_92__120, (Nat.le_trans (Below.size hB116) z_N88), i_88__120, h_x95, h_x96, (Nat.ne_of_gt (Nat.lt_of_lt_of_le (Ib.ext i_88 hB118).1 z_N92))⟩)
      · refine allocI rfl rfl rfl rfl (fun _ k => Ext.below hS117 k) ?_
        intro N89 w118 hB118 z_N89 i_89
        have hS118 := Ext.below hS117 hB118
        refine Pl.pA_end ?_
        refine Pl.G_plan [(false, 2, 1547), (false, 4, 1551), (true, 5, 1567), (true, 6, 1599), (true, 7, 1663), (true, 8, 1791)] 2047 3 Pl.post_panic (by kernel_rfl) (by kernel_rfl) (by kernel_rfl) ?_
        have h_x4__118 := Zn.below h_x4__8 (Ext.below hB9 (Ext.below hB10 (Ext.below hB11 (Ext.below hB12 (Ext.below hB115 (Ext.below hB116 (Ext.below hB117 hB118)))))))
        have h_x8__118 := Zn.below h_x8__10 (Ext.below hB11 (Ext.below hB12 (Ext.below hB115 (Ext.below hB116 (Ext.below hB117 hB118)))))
        refine Pl.pA_call rfl rfl rfl rfl rfl en33 ?_
        refine Calls.mono (zmul _ _ _ a b h_x4__118 h_x8__118 (Sz.le b_a (by decide)) (Sz.le b_b (by decide)) _ rfl) ?_
        rintro e w119 ⟨v_x92, rfl, h_x92, hB119⟩
        have hS119 := Ext.below hS118 hB119
        refine ⟨_, rfl, hS119, ?_⟩
        have b_x92 : Sz (a * b) 80 := Sz.mul b_a b_b (by decide)
        have h_x10__119 := Zn.below h_x10__10 (Ext.below hB11 (Ext.below hB12 (Ext.below hB115 (Ext.below hB116 (Ext.below hB117 (Ext.below hB118 hB119))))))
        refine Pl.pA_call rfl rfl rfl rfl rfl en14 ?_
        refine Calls.mono (zdiv_D _ _ _ (a * b) ((k1 : Nat) : Int) h_x92 h_x10__119 (Sz.le b_x92 (by decide)) (Sz.le b_x10 (by decide)) hk0 _ _ rfl rfl) ?_
        rintro e w120 ⟨⟨v_x94, v_x95, rfl, h_x94, h_x95⟩, hB120⟩
        have hS120 := Ext.below hS119 hB120
        refine ⟨_, rfl, hS120, ?_⟩
        have b_x94 : Sz ((a * b) / ((k1 : Nat) : Int)) 80 := Sz.div b_x92
        have b_x95 : Sz ((a * b) % ((k1 : Nat) : Int)) 1 := Sz.mod b_x10 hk0
        refine Pl.qA_move hS120 rfl rfl rfl rfl rfl ?_
        refine Pl.qA_extract hS120 rfl rfl rfl rfl rfl rfl ?_
        refine Pl.qA_extract hS120 rfl rfl rfl rfl rfl rfl ?_
        refine Pl.qA_extract hS120 rfl rfl rfl rfl rfl rfl ?_
        refine Pl.pA_end ?_
        have i_89__120 := Ib.ext i_89 (Ext.below hB119 hB120)
        have i_88__120 := Ib.ext i_88 (Ext.below hB118 (Ext.below hB119 hB120))
        exact Pl.G_sub [(1, (.int .u32 k1)), (4, (.bool false)), (5, (.bool true)), (6, .pointer (some ⟨N5, 0, none⟩)), (8, .pointer (some ⟨N11, 0, none⟩)), (10, .pointer (some ⟨N18, 0, none⟩)), (11, (.int .i64 0)), (13, .pointer (some ⟨N26, 0, none⟩)), (14, (.int .i64 0)), (16, .pointer (some ⟨N16_113, 0, none⟩)), (17, (.int .i64 0)), (18, .pointer (some ⟨N89, 0, none⟩)), (19, .pointer (some ⟨N88, 0, none⟩)), (69, v_x94), (70, v_x95), (71, (.int .i64 0))] (Pl.subl_cons rfl (Pl.subl_cons rfl (Pl.subl_cons rfl (Pl.subl_cons rfl (Pl.subl_cons rfl (Pl.subl_cons rfl (Pl.subl_cons rfl (Pl.subl_cons rfl (Pl.subl_cons rfl (Pl.subl_cons rfl (Pl.subl_cons rfl (Pl.subl_cons rfl (Pl.subl_cons rfl (Pl.subl_cons rfl (Pl.subl_cons rfl (Pl.subl_cons rfl Pl.subl_nil)))))))))))))))) (hK _ _ ⟨N89, N88, v_x94, v_x95, rfl, (Ext.below hB116 (Ext.below hB117 (Ext.below hB118 (Ext.below hB119 hB120)))), (Nat.le_trans (Below.size (Ext.below hB116 hB117)) z_N89), i_89__120, (Nat.le_trans (Below.size hB116) z_N88), i_88__120, h_x94, h_x95, (Nat.ne_of_gt (Nat.lt_of_lt_of_le (i_88).1 z_N89))⟩)
  rintro _ w216 ⟨N18_216, N19_216, v_y69_216, v_y70_216, rfl, hB216, z_N18_216, i_N18_216, z_N19_216, i_N19_216, h_y69_216, h_y70_216, ne_N18_216_N19_216⟩
  have hS216 := hB216
  have b_x90 : Sz (a * b) 80 := Sz.mul b_a b_b (by decide)
  have b_x92 : Sz ((a * b) / ((k1 : Nat) : Int)) 80 := Sz.div b_x90
  have b_x93 : Sz ((a * b) % ((k1 : Nat) : Int)) 1 := Sz.mod b_x10 hk0
  refine Pl.G_plan [(false, 11, 2047), (false, 12, 4095), (true, 13, 8191)] 16383 0 Pl.post_panic (by kernel_rfl) (by kernel_rfl) (by kernel_rfl) ?_
  obtain ⟨p_y69_216, A_y69_216, L_y69_216, c_y69_216, rfl⟩ := Zn.sh h_y69_216
  refine storeI rfl rfl rfl rfl rfl rfl i_N18_216 (fun _ T => T _ hS216 (Nat.le_trans (Below.size (Ext.refl w115)) z_N18_216)) ?_
  intro w217 T1_217 T2_217 T3_217 I_217
  have hB217 := T1_217 _ hB216 (Nat.le_trans (Below.size (Ext.refl w115)) z_N18_216)
  have hS217 := T1_217 _ hS216 (Nat.le_trans (Below.size (Ext.refl w115)) z_N18_216)
  have i_N19_216__217 := T3_217 _ _ _ (Ne.symm ne_N18_216_N19_216) i_N19_216
  have h_y69_216__217 := T2_217 _ _ h_y69_216
  have h_y70_216__217 := T2_217 _ _ h_y70_216
  obtain ⟨p_y70_216, A_y70_216, L_y70_216, c_y70_216, rfl⟩ := Zn.sh h_y70_216__217
  refine storeI rfl rfl rfl rfl rfl rfl i_N19_216__217 (fun _ T => T _ hS217 (Nat.le_trans (Below.size (Ext.refl w115)) z_N19_216)) ?_
  intro w218 T1_218 T2_218 T3_218 I_218
  have hB218 := T1_218 _ hB217 (Nat.le_trans (Below.size (Ext.refl w115)) z_N19_216)
  have hS218 := T1_218 _ hS217 (Nat.le_trans (Below.size (Ext.refl w115)) z_N19_216)
  have h_y69_216__218 := T2_218 _ _ h_y69_216__217
  have I_217__218 := T3_218 _ _ _ ne_N18_216_N19_216 I_217
  have h_y70_216__218 := T2_218 _ _ h_y70_216__217
  refine Pl.qA_assign hS218 rfl rfl rfl rfl rfl ?_
  refine Pl.pA_end ?_
  refine Pl.G_V (by kernel_rfl) ?_
  refine Pl.V_seq ?_
  refine Pl.V_drawG (S := fun X => Ext w218 X) fo (Ext.drew (Ext.refl _)) ?_
  generalize w218.drew = w219
  intro hB219
  have hS219 := hB219
  refine Pl.G_cut 3 2047 (fun l' w' => ∃ (N_21 : Nat) (N_22 : Nat) (V_78 : Value) (V_79 : Value), l' = [(1, (.int .u32 k1)), (4, (.bool false)), (5, (.bool true)), (6, .pointer (some ⟨N5, 0, none⟩)), (8, .pointer (some ⟨N11, 0, none⟩)), (10, .pointer (some ⟨N18, 0, none⟩)), (11, (.int .i64 0)), (13, .pointer (some ⟨N26, 0, none⟩)), (14, (.int .i64 0)), (16, .pointer (some ⟨N16_113, 0, none⟩)), (17, (.int .i64 0)), (19, .pointer (some ⟨N19_216, 0, none⟩)), (20, (.int .i64 0)), (21, .pointer (some ⟨N_21, 0, none⟩)), (22, .pointer (some ⟨N_22, 0, none⟩)), (78, V_78), (79, V_79), (80, (.int .i64 0))] ∧ Ext w218 w' ∧ w218.heap.size ≤ N_21 ∧ Ib w' N_21 false (.slice none 0 0) ∧ w218.heap.size ≤ N_22 ∧ Ib w' N_22 false (.slice none 0 0) ∧ Zn w' V_78 (((a % ((k1 : Nat) : Int)) + (b % ((k1 : Nat) : Int))) / ((k1 : Nat) : Int)) ∧ Zn w' V_79 (((a % ((k1 : Nat) : Int)) + (b % ((k1 : Nat) : Int))) % ((k1 : Nat) : Int)) ∧ N_21 ≠ N_22) ?_ ?_
  rotate_left
  · intro hK
    refine Pl.G_plan [(true, 0, 0), (true, 1, 1), (true, 3, 3)] 11 11 Pl.post_panic (by kernel_rfl) (by kernel_rfl) (by kernel_rfl) ?_
    have i_18__218 := Ib.ext i_18 (Ext.below hB11 (Ext.below hB12 (Ext.below hB115 hB218)))
    refine Pl.qA_load hS219 rfl rfl rfl rfl rfl (fun X hX => Ib.load (Ib.ext i_18__218 hX)) ?_
    have i_26__218 := Ib.ext i_26 (Ext.below hB115 hB218)
    refine Pl.qA_load hS219 rfl rfl rfl rfl rfl (fun X hX => Ib.load (Ib.ext i_26__218 hX)) ?_
    have i_11__218 := Ib.ext i_11__10 (Ext.below hB11 (Ext.below hB12 (Ext.below hB115 hB218)))
    refine Pl.qA_load hS219 rfl rfl rfl rfl rfl (fun X hX => Ib.load (Ib.ext i_11__218 hX)) ?_
    refine Pl.pA_end ?_
    refine Pl.G_any [2, 9, 10] 10 (by kernel_rfl) (by kernel_rfl) (by kernel_rfl) (Pl.AllG_cons ?_ (Pl.AllG_cons ?_ (Pl.AllG_cons ?_ Pl.AllG_nil)))
    · have h_x16__219 := Zn.below h_x16 (Ext.below hB10 (Ext.below hB11 (Ext.below hB12 (Ext.below hB115 (Ext.below hB218 hB219)))))
      have h_x24__219 := Zn.below h_x24 (Ext.below hB12 (Ext.below hB115 (Ext.below hB218 hB219)))
      refine Pl.pA_call rfl rfl rfl rfl rfl en29 ?_
      refine Calls.mono (zadd _ _ _ (a % ((k1 : Nat) : Int)) (b % ((k1 : Nat) : Int)) h_x16__219 h_x24__219 (Sz.le b_x16 (by decide)) (Sz.le b_x24 (by decide)) _ rfl) ?_
      rintro e w220 ⟨v_x151, rfl, h_x151, hB220⟩
      have hS220 := Ext.below hS219 hB220
      refine ⟨_, rfl, hS220, ?_⟩
      have b_x151 : Sz ((a % ((k1 : Nat) : Int)) + (b % ((k1 : Nat) : Int))) 2 := Sz.add b_x16 b_x24 (by decide) (by decide)
      refine Pl.pA_end ?_
      refine Pl.G_any [4, 9, 10] 9 (by kernel_rfl) (by kernel_rfl) (by kernel_rfl) (Pl.AllG_cons ?_ (Pl.AllG_cons ?_ (Pl.AllG_cons ?_ Pl.AllG_nil)))
      · have h_x10__220 := Zn.below h_x10__10 (Ext.below hB11 (Ext.below hB12 (Ext.below hB115 (Ext.below hB218 (Ext.below hB219 hB220)))))
        refine Pl.pA_call rfl rfl rfl rfl rfl en14 ?_
        refine Calls.mono (zdiv_D _ _ _ ((a % ((k1 : Nat) : Int)) + (b % ((k1 : Nat) : Int))) ((k1 : Nat) : Int) h_x151 h_x10__220 (Sz.le b_x151 (by decide)) (Sz.le b_x10 (by decide)) hk0 _ _ rfl rfl) ?_
        rintro e w221 ⟨⟨v_x153, v_x154, rfl, h_x153, h_x154⟩, hB221⟩
        have hS221 := Ext.below hS220 hB221
        refine ⟨_, rfl, hS221, ?_⟩
        have b_x153 : Sz (((a % ((k1 : Nat) : Int)) + (b % ((k1 : Nat) : Int))) / ((k1 : Nat) : Int)) 2 := Sz.div b_x151
        have b_x154 : Sz (((a % ((k1 : Nat) : Int)) + (b % ((k1 : Nat) : Int))) % ((k1 : Nat) : Int)) 1 := Sz.mod b_x10 hk0
        refine Pl.pA_end ?_
        refine Pl.G_plan [(true, 5, 31), (true, 6, 63), (true, 7, 127), (true, 8, 255)] 511 5 Pl.post_panic (by kernel_rfl) (by kernel_rfl) (by kernel_rfl) ?_
        refine Pl.qA_move hS221 rfl rfl rfl rfl rfl ?_
        refine Pl.qA_extract hS221 rfl rfl rfl rfl rfl rfl ?_
        refine Pl.qA_extract hS221 rfl rfl rfl rfl rfl rfl ?_
        refine Pl.qA_extract hS221 rfl rfl rfl rfl rfl rfl ?_
        refine Pl.pA_end ?_
        refine Pl.G_any [9, 10] 4 (by kernel_rfl) (by kernel_rfl) (by kernel_rfl) (Pl.AllG_cons ?_ (Pl.AllG_cons ?_ Pl.AllG_nil))
        · refine allocI rfl rfl rfl rfl (fun _ k => Ext.below hS221 k) ?_
          intro N155 w222 hB222 z_N155 i_155
          have hS222 := Ext.below hS221 hB222
          refine Pl.pA_end ?_
          refine Pl.G_plan [(false, 10, 1023)] 2047 3 Pl.post_panic (by kernel_rfl) (by kernel_rfl) (by kernel_rfl) ?_
          refine allocI rfl rfl rfl rfl (fun _ k => Ext.below hS222 k) ?_
          intro N156 w223 hB223 z_N156 i_156
          have hS223 := Ext.below hS222 hB223
          refine Pl.pA_end ?_
          have i_155__223 := Ib.ext i_155 hB223
          have h_x153__223 := Zn.below h_x153 (Ext.below hB222 hB223)
          have h_x154__223 := Zn.below h_x154 (Ext.below hB222 hB223)
          exact Pl.G_sub [(1, (.int .u32 k1)), (4, (.bool false)), (5, (.bool true)), (6, .pointer (some ⟨N5, 0, none⟩)), (8, .pointer (some ⟨N11, 0, none⟩)), (10, .pointer (some ⟨N18, 0, none⟩)), (11, (.int .i64 0)), (13, .pointer (some ⟨N26, 0, none⟩)), (14, (.int .i64 0)), (16, .pointer (some ⟨N16_113, 0, none⟩)), (17, (.int .i64 0)), (19, .pointer (some ⟨N19_216, 0, none⟩)), (20, (.int .i64 0)), (21, .pointer (some ⟨N155, 0, none⟩)), (22, .pointer (some ⟨N156, 0, none⟩)), (78, v_x153), (79, v_x154), (80, (.int .i64 0))] (Pl.subl_cons rfl (Pl.subl_cons rfl (Pl.subl_cons rfl (Pl.subl_cons rfl (Pl.subl_cons rfl (Pl.subl_cons rfl (Pl.subl_cons rfl (Pl.subl_cons rfl (Pl.subl_cons rfl (Pl.subl_cons rfl (Pl.subl_cons rfl (Pl.subl_cons rfl (Pl.subl_cons rfl (Pl.subl_cons rfl (Pl.subl_cons rfl (Pl.subl_cons rfl (Pl.subl_cons rfl (Pl.subl_cons rfl Pl.subl_nil)))))))))))))))))) (hK _ _ ⟨N155, N156, v_x153, v_x154, rfl, (Ext.below hB219 (Ext.below hB220 (Ext.below hB221 (Ext.below hB222 hB223)))), (Nat.le_trans (Below.size (Ext.below hB219 (Ext.below hB220 hB221))) z_N155), i_155__223, (Nat.le_trans (Below.size (Ext.below hB219 (Ext.below hB220 (Ext.below hB221 hB222)))) z_N156), i_156, h_x153__223, h_x154__223, (Nat.ne_of_lt (Nat.lt_of_lt_of_le (i_155).1 z_N156))⟩)
        · refine allocI rfl rfl rfl rfl (fun _ k => Ext.below hS221 k) ?_
          intro N155 w222 hB222 z_N155 i_155
          have hS222 := Ext.below hS221 hB222
          refine Pl.pA_end ?_
          refine Pl.G_plan [(false, 9, 1535)] 2047 3 Pl.post_panic (by kernel_rfl) (by kernel_rfl) (by kernel_rfl) ?_
          refine allocI rfl rfl rfl rfl (fun _ k => Ext.below hS222 k) ?_
          intro N156 w223 hB223 z_N156 i_156
          have hS223 := Ext.below hS222 hB223
          refine Pl.pA_end ?_
          have i_155__223 := Ib.ext i_155 hB223
          have h_x153__223 := Zn.below h_x153 (Ext.below hB222 hB223)
          have h_x154__223 := Zn.below h_x154 (Ext.below hB222 hB223)
          exact Pl.G_sub [(1, (.int .u32 k1)), (4, (.bool false)), (5, (.bool true)), (6, .pointer (some ⟨N5, 0, none⟩)), (8, .pointer (some ⟨N11, 0, none⟩)), (10, .pointer (some ⟨N18, 0, none⟩)), (11, (.int .i64 0)), (13, .pointer (some ⟨N26, 0, none⟩)), (14, (.int .i64 0)), (16, .pointer (some ⟨N16_113, 0, none⟩)), (17, (.int .i64 0)), (19, .pointer (some ⟨N19_216, 0, none⟩)), (20, (.int .i64 0)), (21, .pointer (some ⟨N156, 0, none⟩)), (22, .pointer (some ⟨N155, 0, none⟩)), (78, v_x153), (79, v_x154), (80, (.int .i64 0))] (Pl.subl_cons rfl (Pl.subl_cons rfl (Pl.subl_cons rfl (Pl.subl_cons rfl (Pl.subl_cons rfl (Pl.subl_cons rfl (Pl.subl_cons rfl (Pl.subl_cons rfl (Pl.subl_cons rfl (Pl.subl_cons rfl (Pl.subl_cons rfl (Pl.subl_cons rfl (Pl.subl_cons rfl (Pl.subl_cons rfl (Pl.subl_cons rfl (Pl.subl_cons rfl (Pl.subl_cons rfl (Pl.subl_cons rfl Pl.subl_nil)))))))))))))))))) (hK _ _ ⟨N156, N155, v_x153, v_x154, rfl, (Ext.below hB219 (Ext.below hB220 (Ext.below hB221 (Ext.below hB222 hB223)))), (Nat.le_trans (Below.size (Ext.below hB219 (Ext.below hB220 (Ext.below hB221 hB222)))) z_N156), i_156, (Nat.le_trans (Below.size (Ext.below hB219 (Ext.below hB220 hB221))) z_N155), i_155__223, h_x153__223, h_x154__223, (Nat.ne_of_gt (Nat.lt_of_lt_of_le (i_155).1 z_N156))⟩)
      · refine allocI rfl rfl rfl rfl (fun _ k => Ext.below hS220 k) ?_
        intro N152 w221 hB221 z_N152 i_152
        have hS221 := Ext.below hS220 hB221
        refine Pl.pA_end ?_
        refine Pl.G_any [4, 10] 8 (by kernel_rfl) (by kernel_rfl) (by kernel_rfl) (Pl.AllG_cons ?_ (Pl.AllG_cons ?_ Pl.AllG_nil))
        · have h_x151__221 := Zn.below h_x151 hB221
          have h_x10__221 := Zn.below h_x10__10 (Ext.below hB11 (Ext.below hB12 (Ext.below hB115 (Ext.below hB218 (Ext.below hB219 (Ext.below hB220 hB221))))))
          refine Pl.pA_call rfl rfl rfl rfl rfl en14 ?_
          refine Calls.mono (zdiv_D _ _ _ ((a % ((k1 : Nat) : Int)) + (b % ((k1 : Nat) : Int))) ((k1 : Nat) : Int) h_x151__221 h_x10__221 (Sz.le b_x151 (by decide)) (Sz.le b_x10 (by decide)) hk0 _ _ rfl rfl) ?_
          rintro e w222 ⟨⟨v_x155, v_x156, rfl, h_x155, h_x156⟩, hB222⟩
          have hS222 := Ext.below hS221 hB222
          refine ⟨_, rfl, hS222, ?_⟩
          have b_x155 : Sz (((a % ((k1 : Nat) : Int)) + (b % ((k1 : Nat) : Int))) / ((k1 : Nat) : Int)) 2 := Sz.div b_x151
          have b_x156 : Sz (((a % ((k1 : Nat) : Int)) + (b % ((k1 : Nat) : Int))) % ((k1 : Nat) : Int)) 1 := Sz.mod b_x10 hk0
          refine Pl.pA_end ?_
          refine Pl.G_plan [(true, 5, 543), (true, 6, 575), (true, 7, 639), (true, 8, 767), (false, 10, 1023)] 2047 3 Pl.post_panic (by kernel_rfl) (by kernel_rfl) (by kernel_rfl) ?_
          refine Pl.qA_move hS222 rfl rfl rfl rfl rfl ?_
          refine Pl.qA_extract hS222 rfl rfl rfl rfl rfl rfl ?_
          refine Pl.qA_extract hS222 rfl rfl rfl rfl rfl rfl ?_
          refine Pl.qA_extract hS222 rfl rfl rfl rfl rfl rfl ?_
          refine allocI rfl rfl rfl rfl (fun _ k => Ext.below hS222 k) ?_
          intro N157 w223 hB223 z_N157 i_157
          have hS223 := Ext.below hS222 hB223
          refine Pl.pA_end ?_
          have i_152__223 := Ib.ext i_152 (Ext.below hB222 hB223)
          have h_x155__223 := Zn.below h_x155 hB223
          have h_x156__223 := Zn.below h_x156 hB223
          exact Pl.G_sub [(1, (.int .u32 k1)), (4, (.bool false)), (5, (.bool true)), (6, .pointer (some ⟨N5, 0, none⟩)), (8, .pointer (some ⟨N11, 0, none⟩)), (10, .pointer (some ⟨N18, 0, none⟩)), (11, (.int .i64 0)), (13, .pointer (some ⟨N26, 0, none⟩)), (14, (.int .i64 0)), (16, .pointer (some ⟨N16_113, 0, none⟩)), (17, (.int .i64 0)), (19, .pointer (some ⟨N19_216, 0, none⟩)), (20, (.int .i64 0)), (21, .pointer (some ⟨N152, 0, none⟩)), (22, .pointer (some ⟨N157, 0, none⟩)), (78, v_x155), (79, v_x156), (80, (.int .i64 0))] (Pl.subl_cons rfl (Pl.subl_cons rfl (Pl.subl_cons rfl (Pl.subl_cons rfl (Pl.subl_cons rfl (Pl.subl_cons rfl (Pl.subl_cons rfl (Pl.subl_cons rfl (Pl.subl_cons rfl (Pl.subl_cons rfl (Pl.subl_cons rfl (Pl.subl_cons rfl (Pl.subl_cons rfl (Pl.subl_cons rfl (Pl.subl_cons rfl (Pl.subl_cons rfl (Pl.subl_cons rfl (Pl.subl_cons rfl Pl.subl_nil)))))))))))))))))) (hK _ _ ⟨N152, N157, v_x155, v_x156, rfl, (Ext.below hB219 (Ext.below hB220 (Ext.below hB221 (Ext.below hB222 hB223)))), (Nat.le_trans (Below.size (Ext.below hB219 hB220)) z_N152), i_152__223, (Nat.le_trans (Below.size (Ext.below hB219 (Ext.below hB220 (Ext.below hB221 hB222)))) z_N157), i_157, h_x155__223, h_x156__223, (Nat.ne_of_lt (Nat.lt_of_lt_of_le (Ib.ext i_152 hB222).1 z_N157))⟩)
        · refine allocI rfl rfl rfl rfl (fun _ k => Ext.below hS221 k) ?_
          intro N153 w222 hB222 z_N153 i_153
          have hS222 := Ext.below hS221 hB222
          refine Pl.pA_end ?_
          refine Pl.G_plan [(false, 4, 1551), (true, 5, 1567), (true, 6, 1599), (true, 7, 1663), (true, 8, 1791)] 2047 3 Pl.post_panic (by kernel_rfl) (by kernel_rfl) (by kernel_rfl) ?_
          have h_x151__222 := Zn.below h_x151 (Ext.below hB221 hB222)
          have h_x10__222 := Zn.below h_x10__10 (Ext.below hB11 (Ext.below hB12 (Ext.below hB115 (Ext.below hB218 (Ext.below hB219 (Ext.below hB220 (Ext.below hB221 hB222)))))))
          refine Pl.pA_call rfl rfl rfl rfl rfl en14 ?_
          refine Calls.mono (zdiv_D _ _ _ ((a % ((k1 : Nat) : Int)) + (b % ((k1 : Nat) : Int))) ((k1 : Nat) : Int) h_x151__222 h_x10__222 (Sz.le b_x151 (by decide)) (Sz.le b_x10 (by decide)) hk0 _ _ rfl rfl) ?_
          rintro e w223 ⟨⟨v_x156, v_x157, rfl, h_x156, h_x157⟩, hB223⟩
          have hS223 := Ext.below hS222 hB223
          refine ⟨_, rfl, hS223, ?_⟩
          have b_x156 : Sz (((a % ((k1 : Nat) : Int)) + (b % ((k1 : Nat) : Int))) / ((k1 : Nat) : Int)) 2 := Sz.div b_x151
          have b_x157 : Sz (((a % ((k1 : Nat) : Int)) + (b % ((k1 : Nat) : Int))) % ((k1 : Nat) : Int)) 1 := Sz.mod b_x10 hk0
          refine Pl.qA_move hS223 rfl rfl rfl rfl rfl ?_
          refine Pl.qA_extract hS223 rfl rfl rfl rfl rfl rfl ?_
          refine Pl.qA_extract hS223 rfl rfl rfl rfl rfl rfl ?_
          refine Pl.qA_extract hS223 rfl rfl rfl rfl rfl rfl ?_
          refine Pl.pA_end ?_
          have i_152__223 := Ib.ext i_152 (Ext.below hB222 hB223)
          have i_153__223 := Ib.ext i_153 hB223
          exact Pl.G_sub [(1, (.int .u32 k1)), (4, (.bool false)), (5, (.bool true)), (6, .pointer (some ⟨N5, 0, none⟩)), (8, .pointer (some ⟨N11, 0, none⟩)), (10, .pointer (some ⟨N18, 0, none⟩)), (11, (.int .i64 0)), (13, .pointer (some ⟨N26, 0, none⟩)), (14, (.int .i64 0)), (16, .pointer (some ⟨N16_113, 0, none⟩)), (17, (.int .i64 0)), (19, .pointer (some ⟨N19_216, 0, none⟩)), (20, (.int .i64 0)), (21, .pointer (some ⟨N152, 0, none⟩)), (22, .pointer (some ⟨N153, 0, none⟩)), (78, v_x156), (79, v_x157), (80, (.int .i64 0))] (Pl.subl_cons rfl (Pl.subl_cons rfl (Pl.subl_cons rfl (Pl.subl_cons rfl (Pl.subl_cons rfl (Pl.subl_cons rfl (Pl.subl_cons rfl (Pl.subl_cons rfl (Pl.subl_cons rfl (Pl.subl_cons rfl (Pl.subl_cons rfl (Pl.subl_cons rfl (Pl.subl_cons rfl (Pl.subl_cons rfl (Pl.subl_cons rfl (Pl.subl_cons rfl (Pl.subl_cons rfl (Pl.subl_cons rfl Pl.subl_nil)))))))))))))))))) (hK _ _ ⟨N152, N153, v_x156, v_x157, rfl, (Ext.below hB219 (Ext.below hB220 (Ext.below hB221 (Ext.below hB222 hB223)))), (Nat.le_trans (Below.size (Ext.below hB219 hB220)) z_N152), i_152__223, (Nat.le_trans (Below.size (Ext.below hB219 (Ext.below hB220 hB221))) z_N153), i_153__223, h_x156, h_x157, (Nat.ne_of_lt (Nat.lt_of_lt_of_le (i_152).1 z_N153))⟩)
      · refine allocI rfl rfl rfl rfl (fun _ k => Ext.below hS220 k) ?_
        intro N152 w221 hB221 z_N152 i_152
        have hS221 := Ext.below hS220 hB221
        refine Pl.pA_end ?_
        refine Pl.G_any [4, 9] 8 (by kernel_rfl) (by kernel_rfl) (by kernel_rfl) (Pl.AllG_cons ?_ (Pl.AllG_cons ?_ Pl.AllG_nil))
        · have h_x151__221 := Zn.below h_x151 hB221
          have h_x10__221 := Zn.below h_x10__10 (Ext.below hB11 (Ext.below hB12 (Ext.below hB115 (Ext.below hB218 (Ext.below hB219 (Ext.below hB220 hB221))))))
          refine Pl.pA_call rfl rfl rfl rfl rfl en14 ?_
          refine Calls.mono (zdiv_D _ _ _ ((a % ((k1 : Nat) : Int)) + (b % ((k1 : Nat) : Int))) ((k1 : Nat) : Int) h_x151__221 h_x10__221 (Sz.le b_x151 (by decide)) (Sz.le b_x10 (by decide)) hk0 _ _ rfl rfl) ?_
          rintro e w222 ⟨⟨v_x155, v_x156, rfl, h_x155, h_x156⟩, hB222⟩
          have hS222 := Ext.below hS221 hB222
          refine ⟨_, rfl, hS222, ?_⟩
          have b_x155 : Sz (((a % ((k1 : Nat) : Int)) + (b % ((k1 : Nat) : Int))) / ((k1 : Nat) : Int)) 2 := Sz.div b_x151
          have b_x156 : Sz (((a % ((k1 : Nat) : Int)) + (b % ((k1 : Nat) : Int))) % ((k1 : Nat) : Int)) 1 := Sz.mod b_x10 hk0
          refine Pl.pA_end ?_
          refine Pl.G_plan [(true, 5, 1055), (true, 6, 1087), (true, 7, 1151), (true, 8, 1279), (false, 9, 1535)] 2047 3 Pl.post_panic (by kernel_rfl) (by kernel_rfl) (by kernel_rfl) ?_
          refine Pl.qA_move hS222 rfl rfl rfl rfl rfl ?_
          refine Pl.qA_extract hS222 rfl rfl rfl rfl rfl rfl ?_
          refine Pl.qA_extract hS222 rfl rfl rfl rfl rfl rfl ?_
          refine Pl.qA_extract hS222 rfl rfl rfl rfl rfl rfl ?_
          refine allocI rfl rfl rfl rfl (fun _ k => Ext.below hS222 k) ?_
          intro N157 w223 hB223 z_N157 i_157
          have hS223 := Ext.below hS222 hB223
          refine Pl.pA_end ?_
          have i_152__223 := Ib.ext i_152 (Ext.below hB222 hB223)
          have h_x155__223 := Zn.below h_x155 hB223
          have h_x156__223 := Zn.below h_x156 hB223
          exact Pl.G_sub [(1, (.int .u32 k1)), (4, (.bool false)), (5, (.bool true)), (6, .pointer (some ⟨N5, 0, none⟩)), (8, .pointer (some ⟨N11, 0, none⟩)), (10, .pointer (some ⟨N18, 0, none⟩)), (11, (.int .i64 0)), (13, .pointer (some ⟨N26, 0, none⟩)), (14, (.int .i64 0)), (16, .pointer (some ⟨N16_113, 0, none⟩)), (17, (.int .i64 0)), (19, .pointer (some ⟨N19_216, 0, none⟩)), (20, (.int .i64 0)), (21, .pointer (some ⟨N157, 0, none⟩)), (22, .pointer (some ⟨N152, 0, none⟩)), (78, v_x155), (79, v_x156), (80, (.int .i64 0))] (Pl.subl_cons rfl (Pl.subl_cons rfl (Pl.subl_cons rfl (Pl.subl_cons rfl (Pl.subl_cons rfl (Pl.subl_cons rfl (Pl.subl_cons rfl (Pl.subl_cons rfl (Pl.subl_cons rfl (Pl.subl_cons rfl (Pl.subl_cons rfl (Pl.subl_cons rfl (Pl.subl_cons rfl (Pl.subl_cons rfl (Pl.subl_cons rfl (Pl.subl_cons rfl (Pl.subl_cons rfl (Pl.subl_cons rfl Pl.subl_nil)))))))))))))))))) (hK _ _ ⟨N157, N152, v_x155, v_x156, rfl, (Ext.below hB219 (Ext.below hB220 (Ext.below hB221 (Ext.below hB222 hB223)))), (Nat.le_trans (Below.size (Ext.below hB219 (Ext.below hB220 (Ext.below hB221 hB222)))) z_N157), i_157, (Nat.le_trans (Below.size (Ext.below hB219 hB220)) z_N152), i_152__223, h_x155__223, h_x156__223, (Nat.ne_of_gt (Nat.lt_of_lt_of_le (Ib.ext i_152 hB222).1 z_N157))⟩)
        · refine allocI rfl rfl rfl rfl (fun _ k => Ext.below hS221 k) ?_
          intro N153 w222 hB222 z_N153 i_153
          have hS222 := Ext.below hS221 hB222
          refine Pl.pA_end ?_
          refine Pl.G_plan [(false, 4, 1551), (true, 5, 1567), (true, 6, 1599), (true, 7, 1663), (true, 8, 1791)] 2047 3 Pl.post_panic (by kernel_rfl) (by kernel_rfl) (by kernel_rfl) ?_
          have h_x151__222 := Zn.below h_x151 (Ext.below hB221 hB222)
          have h_x10__222 := Zn.below h_x10__10 (Ext.below hB11 (Ext.below hB12 (Ext.below hB115 (Ext.below hB218 (Ext.below hB219 (Ext.below hB220 (Ext.below hB221 hB222)))))))
          refine Pl.pA_call rfl rfl rfl rfl rfl en14 ?_
          refine Calls.mono (zdiv_D _ _ _ ((a % ((k1 : Nat) : Int)) + (b % ((k1 : Nat) : Int))) ((k1 : Nat) : Int) h_x151__222 h_x10__222 (Sz.le b_x151 (by decide)) (Sz.le b_x10 (by decide)) hk0 _ _ rfl rfl) ?_
          rintro e w223 ⟨⟨v_x156, v_x157, rfl, h_x156, h_x157⟩, hB223⟩
          have hS223 := Ext.below hS222 hB223
          refine ⟨_, rfl, hS223, ?_⟩
          have b_x156 : Sz (((a % ((k1 : Nat) : Int)) + (b % ((k1 : Nat) : Int))) / ((k1 : Nat) : Int)) 2 := Sz.div b_x151
          have b_x157 : Sz (((a % ((k1 : Nat) : Int)) + (b % ((k1 : Nat) : Int))) % ((k1 : Nat) : Int)) 1 := Sz.mod b_x10 hk0
          refine Pl.qA_move hS223 rfl rfl rfl rfl rfl ?_
          refine Pl.qA_extract hS223 rfl rfl rfl rfl rfl rfl ?_
          refine Pl.qA_extract hS223 rfl rfl rfl rfl rfl rfl ?_
          refine Pl.qA_extract hS223 rfl rfl rfl rfl rfl rfl ?_
          refine Pl.pA_end ?_
          have i_153__223 := Ib.ext i_153 hB223
          have i_152__223 := Ib.ext i_152 (Ext.below hB222 hB223)
          exact Pl.G_sub [(1, (.int .u32 k1)), (4, (.bool false)), (5, (.bool true)), (6, .pointer (some ⟨N5, 0, none⟩)), (8, .pointer (some ⟨N11, 0, none⟩)), (10, .pointer (some ⟨N18, 0, none⟩)), (11, (.int .i64 0)), (13, .pointer (some ⟨N26, 0, none⟩)), (14, (.int .i64 0)), (16, .pointer (some ⟨N16_113, 0, none⟩)), (17, (.int .i64 0)), (19, .pointer (some ⟨N19_216, 0, none⟩)), (20, (.int .i64 0)), (21, .pointer (some ⟨N153, 0, none⟩)), (22, .pointer (some ⟨N152, 0, none⟩)), (78, v_x156), (79, v_x157), (80, (.int .i64 0))] (Pl.subl_cons rfl (Pl.subl_cons rfl (Pl.subl_cons rfl (Pl.subl_cons rfl (Pl.subl_cons rfl (Pl.subl_cons rfl (Pl.subl_cons rfl (Pl.subl_cons rfl (Pl.subl_cons rfl (Pl.subl_cons rfl (Pl.subl_cons rfl (Pl.subl_cons rfl (Pl.subl_cons rfl (Pl.subl_cons rfl (Pl.subl_cons rfl (Pl.subl_cons rfl (Pl.subl_cons rfl (Pl.subl_cons rfl Pl.subl_nil)))))))))))))))))) (hK _ _ ⟨N153, N152, v_x156, v_x157, rfl, (Ext.below hB219 (Ext.below hB220 (Ext.below hB221 (Ext.below hB222 hB223)))), (Nat.le_trans (Below.size (Ext.below hB219 (Ext.below hB220 hB221))) z_N153), i_153__223, (Nat.le_trans (Below.size (Ext.below hB219 hB220)) z_N152), i_152__223, h_x156, h_x157, (Nat.ne_of_gt (Nat.lt_of_lt_of_le (i_152).1 z_N153))⟩)
    · refine allocI rfl rfl rfl rfl (fun _ k => Ext.below hS219 k) ?_
      intro N149 w220 hB220 z_N149 i_149
      have hS220 := Ext.below hS219 hB220
      refine Pl.pA_end ?_
      refine Pl.G_any [2, 10] 9 (by kernel_rfl) (by kernel_rfl) (by kernel_rfl) (Pl.AllG_cons ?_ (Pl.AllG_cons ?_ Pl.AllG_nil))
      · have h_x16__220 := Zn.below h_x16 (Ext.below hB10 (Ext.below hB11 (Ext.below hB12 (Ext.below hB115 (Ext.below hB218 (Ext.below hB219 hB220))))))
        have h_x24__220 := Zn.below h_x24 (Ext.below hB12 (Ext.below hB115 (Ext.below hB218 (Ext.below hB219 hB220))))
        refine Pl.pA_call rfl rfl rfl rfl rfl en29 ?_
        refine Calls.mono (zadd _ _ _ (a % ((k1 : Nat) : Int)) (b % ((k1 : Nat) : Int)) h_x16__220 h_x24__220 (Sz.le b_x16 (by decide)) (Sz.le b_x24 (by decide)) _ rfl) ?_
        rintro e w221 ⟨v_x152, rfl, h_x152, hB221⟩
        have hS221 := Ext.below hS220 hB221
        refine ⟨_, rfl, hS221, ?_⟩
        have b_x152 : Sz ((a % ((k1 : Nat) : Int)) + (b % ((k1 : Nat) : Int))) 2 := Sz.add b_x16 b_x24 (by decide) (by decide)
        refine Pl.pA_end ?_
        refine Pl.G_any [4, 10] 8 (by kernel_rfl) (by kernel_rfl) (by kernel_rfl) (Pl.AllG_cons ?_ (Pl.AllG_cons ?_ Pl.AllG_nil))
        · have h_x10__221 := Zn.below h_x10__10 (Ext.below hB11 (Ext.below hB12 (Ext.below hB115 (Ext.below hB218 (Ext.below hB219 (Ext.below hB220 hB221))))))
          refine Pl.pA_call rfl rfl rfl rfl rfl en14 ?_
          refine Calls.mono (zdiv_D _ _ _ ((a % ((k1 : Nat) : Int)) + (b % ((k1 : Nat) : Int))) ((k1 : Nat) : Int) h_x152 h_x10__221 (Sz.le b_x152 (by decide)) (Sz.le b_x10 (by decide)) hk0 _ _ rfl rfl) ?_
          rintro e w222 ⟨⟨v_x154, v_x155, rfl, h_x154, h_x155⟩, hB222⟩
          have hS222 := Ext.below hS221 hB222
          refine ⟨_, rfl, hS222, ?_⟩
          have b_x154 : Sz (((a % ((k1 : Nat) : Int)) + (b % ((k1 : Nat) : Int))) / ((k1 : Nat) : Int)) 2 := Sz.div b_x152
          have b_x155 : Sz (((a % ((k1 : Nat) : Int)) + (b % ((k1 : Nat) : Int))) % ((k1 : Nat) : Int)) 1 := Sz.mod b_x10 hk0
          refine Pl.pA_end ?_
          refine Pl.G_plan [(true, 5, 543), (true, 6, 575), (true, 7, 639), (true, 8, 767), (false, 10, 1023)] 2047 3 Pl.post_panic (by kernel_rfl) (by kernel_rfl) (by kernel_rfl) ?_
          refine Pl.qA_move hS222 rfl rfl rfl rfl rfl ?_
          refine Pl.qA_extract hS222 rfl rfl rfl rfl rfl rfl ?_
          refine Pl.qA_extract hS222 rfl rfl rfl rfl rfl rfl ?_
          refine Pl.qA_extract hS222 rfl rfl rfl rfl rfl rfl ?_
          refine allocI rfl rfl rfl rfl (fun _ k => Ext.below hS222 k) ?_
          intro N156 w223 hB223 z_N156 i_156
          have hS223 := Ext.below hS222 hB223
          refine Pl.pA_end ?_
          have i_149__223 := Ib.ext i_149 (Ext.below hB221 (Ext.below hB222 hB223))
          have h_x154__223 := Zn.below h_x154 hB223
          have h_x155__223 := Zn.below h_x155 hB223
          exact Pl.G_sub [(1, (.int .u32 k1)), (4, (.bool false)), (5, (.bool true)), (6, .pointer (some ⟨N5, 0, none⟩)), (8, .pointer (some ⟨N11, 0, none⟩)), (10, .pointer (some ⟨N18, 0, none⟩)), (11, (.int .i64 0)), (13, .pointer (some ⟨N26, 0, none⟩)), (14, (.int .i64 0)), (16, .pointer (some ⟨N16_113, 0, none⟩)), (17, (.int .i64 0)), (19, .pointer (some ⟨N19_216, 0, none⟩)), (20, (.int .i64 0)), (21, .pointer (some ⟨N149, 0, none⟩)), (22, .pointer (some ⟨N156, 0, none⟩)), (78, v_x154), (79, v_x155), (80, (.int .i64 0))] (Pl.subl_cons rfl (Pl.subl_cons rfl (Pl.subl_cons rfl (Pl.subl_cons rfl (Pl.subl_cons rfl (Pl.subl_cons rfl (Pl.subl_cons rfl (Pl.subl_cons rfl (Pl.subl_cons rfl (Pl.subl_cons rfl (Pl.subl_cons rfl (Pl.subl_cons rfl (Pl.subl_cons rfl (Pl.subl_cons rfl (Pl.subl_cons rfl (Pl.subl_cons rfl (Pl.subl_cons rfl (Pl.subl_cons rfl Pl.subl_nil)))))))))))))))))) (hK _ _ ⟨N149, N156, v_x154, v_x155, rfl, (Ext.below hB219 (Ext.below hB220 (Ext.below hB221 (Ext.below hB222 hB223)))), (Nat.le_trans (Below.size hB219) z_N149), i_149__223, (Nat.le_trans (Below.size (Ext.below hB219 (Ext.below hB220 (Ext.below hB221 hB222)))) z_N156), i_156, h_x154__223, h_x155__223, (Nat.ne_of_lt (Nat.lt_of_lt_of_le (Ib.ext i_149 (Ext.below hB221 hB222)).1 z_N156))⟩)
        · refine allocI rfl rfl rfl rfl (fun _ k => Ext.below hS221 k) ?_
          intro N153 w222 hB222 z_N153 i_153
          have hS222 := Ext.below hS221 hB222
          refine Pl.pA_end ?_
          refine Pl.G_plan [(false, 4, 1551), (true, 5, 1567), (true, 6, 1599), (true, 7, 1663), (true, 8, 1791)] 2047 3 Pl.post_panic (by kernel_rfl) (by kernel_rfl) (by kernel_rfl) ?_
          have h_x152__222 := Zn.below h_x152 hB222
          have h_x10__222 := Zn.below h_x10__10 (Ext.below hB11 (Ext.below hB12 (Ext.below hB115 (Ext.below hB218 (Ext.below hB219 (Ext.below hB220 (Ext.below hB221 hB222)))))))
          refine Pl.pA_call rfl rfl rfl rfl rfl en14 ?_
          refine Calls.mono (zdiv_D _ _ _ ((a % ((k1 : Nat) : Int)) + (b % ((k1 : Nat) : Int))) ((k1 : Nat) : Int) h_x152__222 h_x10__222 (Sz.le b_x152 (by decide)) (Sz.le b_x10 (by decide)) hk0 _ _ rfl rfl) ?_
          rintro e w223 ⟨⟨v_x156, v_x157, rfl, h_x156, h_x157⟩, hB223⟩
          have hS223 := Ext.below hS222 hB223
          refine ⟨_, rfl, hS223, ?_⟩
          have b_x156 : Sz (((a % ((k1 : Nat) : Int)) + (b % ((k1 : Nat) : Int))) / ((k1 : Nat) : Int)) 2 := Sz.div b_x152
          have b_x157 : Sz (((a % ((k1 : Nat) : Int)) + (b % ((k1 : Nat) : Int))) % ((k1 : Nat) : Int)) 1 := Sz.mod b_x10 hk0
          refine Pl.qA_move hS223 rfl rfl rfl rfl rfl ?_
          refine Pl.qA_extract hS223 rfl rfl rfl rfl rfl rfl ?_
          refine Pl.qA_extract hS223 rfl rfl rfl rfl rfl rfl ?_
          refine Pl.qA_extract hS223 rfl rfl rfl rfl rfl rfl ?_
          refine Pl.pA_end ?_
          have i_149__223 := Ib.ext i_149 (Ext.below hB221 (Ext.below hB222 hB223))
          have i_153__223 := Ib.ext i_153 hB223
          exact Pl.G_sub [(1, (.int .u32 k1)), (4, (.bool false)), (5, (.bool true)), (6, .pointer (some ⟨N5, 0, none⟩)), (8, .pointer (some ⟨N11, 0, none⟩)), (10, .pointer (some ⟨N18, 0, none⟩)), (11, (.int .i64 0)), (13, .pointer (some ⟨N26, 0, none⟩)), (14, (.int .i64 0)), (16, .pointer (some ⟨N16_113, 0, none⟩)), (17, (.int .i64 0)), (19, .pointer (some ⟨N19_216, 0, none⟩)), (20, (.int .i64 0)), (21, .pointer (some ⟨N149, 0, none⟩)), (22, .pointer (some ⟨N153, 0, none⟩)), (78, v_x156), (79, v_x157), (80, (.int .i64 0))] (Pl.subl_cons rfl (Pl.subl_cons rfl (Pl.subl_cons rfl (Pl.subl_cons rfl (Pl.subl_cons rfl (Pl.subl_cons rfl (Pl.subl_cons rfl (Pl.subl_cons rfl (Pl.subl_cons rfl (Pl.subl_cons rfl (Pl.subl_cons rfl (Pl.subl_cons rfl (Pl.subl_cons rfl (Pl.subl_cons rfl (Pl.subl_cons rfl (Pl.subl_cons rfl (Pl.subl_cons rfl (Pl.subl_cons rfl Pl.subl_nil)))))))))))))))))) (hK _ _ ⟨N149, N153, v_x156, v_x157, rfl, (Ext.below hB219 (Ext.below hB220 (Ext.below hB221 (Ext.below hB222 hB223)))), (Nat.le_trans (Below.size hB219) z_N149), i_149__223, (Nat.le_trans (Below.size (Ext.below hB219 (Ext.below hB220 hB221))) z_N153), i_153__223, h_x156, h_x157, (Nat.ne_of_lt (Nat.lt_of_lt_of_le (Ib.ext i_149 hB221).1 z_N153))⟩)
      · refine allocI rfl rfl rfl rfl (fun _ k => Ext.below hS220 k) ?_
        intro N150 w221 hB221 z_N150 i_150
        have hS221 := Ext.below hS220 hB221
        refine Pl.pA_end ?_
        refine Pl.G_plan [(false, 2, 1547), (false, 4, 1551), (true, 5, 1567), (true, 6, 1599), (true, 7, 1663), (true, 8, 1791)] 2047 3 Pl.post_panic (by kernel_rfl) (by kernel_rfl) (by kernel_rfl) ?_
        have h_x16__221 := Zn.below h_x16 (Ext.below hB10 (Ext.below hB11 (Ext.below hB12 (Ext.below hB115 (Ext.below hB218 (Ext.below hB219 (Ext.below hB220 hB221)))))))
        have h_x24__221 := Zn.below h_x24 (Ext.below hB12 (Ext.below hB115 (Ext.below hB218 (Ext.below hB219 (Ext.below hB220 hB221)))))
        refine Pl.pA_call rfl rfl rfl rfl rfl en29 ?_
        refine Calls.mono (zadd _ _ _ (a % ((k1 : Nat) : Int)) (b % ((k1 : Nat) : Int)) h_x16__221 h_x24__221 (Sz.le b_x16 (by decide)) (Sz.le b_x24 (by decide)) _ rfl) ?_
        rintro e w222 ⟨v_x153, rfl, h_x153, hB222⟩
        have hS222 := Ext.below hS221 hB222
        refine ⟨_, rfl, hS222, ?_⟩
        have b_x153 : Sz ((a % ((k1 : Nat) : Int)) + (b % ((k1 : Nat) : Int))) 2 := Sz.add b_x16 b_x24 (by decide) (by decide)
        have h_x10__222 := Zn.below h_x10__10 (Ext.below hB11 (Ext.below hB12 (Ext.below hB115 (Ext.below hB218 (Ext.below hB219 (Ext.below hB220 (Ext.below hB221 hB222)))))))
        refine Pl.pA_call rfl rfl rfl rfl rfl en14 ?_
        refine Calls.mono (zdiv_D _ _ _ ((a % ((k1 : Nat) : Int)) + (b % ((k1 : Nat) : Int))) ((k1 : Nat) : Int) h_x153 h_x10__222 (Sz.le b_x153 (by decide)) (Sz.le b_x10 (by decide)) hk0 _ _ rfl rfl) ?_
        rintro e w223 ⟨⟨v_x155, v_x156, rfl, h_x155, h_x156⟩, hB223⟩
        have hS223 := Ext.below hS222 hB223
        refine ⟨_, rfl, hS223, ?_⟩
        have b_x155 : Sz (((a % ((k1 : Nat) : Int)) + (b % ((k1 : Nat) : Int))) / ((k1 : Nat) : Int)) 2 := Sz.div b_x153
        have b_x156 : Sz (((a % ((k1 : Nat) : Int)) + (b % ((k1 : Nat) : Int))) % ((k1 : Nat) : Int)) 1 := Sz.mod b_x10 hk0
        refine Pl.qA_move hS223 rfl rfl rfl rfl rfl ?_
        refine Pl.qA_extract hS223 rfl rfl rfl rfl rfl rfl ?_
        refine Pl.qA_extract hS223 rfl rfl rfl rfl rfl rfl ?_
        refine Pl.qA_extract hS223 rfl rfl rfl rfl rfl rfl ?_
        refine Pl.pA_end ?_
        have i_149__223 := Ib.ext i_149 (Ext.below hB221 (Ext.below hB222 hB223))
        have i_150__223 := Ib.ext i_150 (Ext.below hB222 hB223)
        exact Pl.G_sub [(1, (.int .u32 k1)), (4, (.bool false)), (5, (.bool true)), (6, .pointer (some ⟨N5, 0, none⟩)), (8, .pointer (some ⟨N11, 0, none⟩)), (10, .pointer (some ⟨N18, 0, none⟩)), (11, (.int .i64 0)), (13, .pointer (some ⟨N26, 0, none⟩)), (14, (.int .i64 0)), (16, .pointer (some ⟨N16_113, 0, none⟩)), (17, (.int .i64 0)), (19, .pointer (some ⟨N19_216, 0, none⟩)), (20, (.int .i64 0)), (21, .pointer (some ⟨N149, 0, none⟩)), (22, .pointer (some ⟨N150, 0, none⟩)), (78, v_x155), (79, v_x156), (80, (.int .i64 0))] (Pl.subl_cons rfl (Pl.subl_cons rfl (Pl.subl_cons rfl (Pl.subl_cons rfl (Pl.subl_cons rfl (Pl.subl_cons rfl (Pl.subl_cons rfl (Pl.subl_cons rfl (Pl.subl_cons rfl (Pl.subl_cons rfl (Pl.subl_cons rfl (Pl.subl_cons rfl (Pl.subl_cons rfl (Pl.subl_cons rfl (Pl.subl_cons rfl (Pl.subl_cons rfl (Pl.subl_cons rfl (Pl.subl_cons rfl Pl.subl_nil)))))))))))))))))) (hK _ _ ⟨N149, N150, v_x155, v_x156, rfl, (Ext.below hB219 (Ext.below hB220 (Ext.below hB221 (Ext.below hB222 hB223)))), (Nat.le_trans (Below.size hB219) z_N149), i_149__223, (Nat.le_trans (Below.size (Ext.below hB219 hB220)) z_N150), i_150__223, h_x155, h_x156, (Nat.ne_of_lt (Nat.lt_of_lt_of_le (i_149).1 z_N150))⟩)
    · refine allocI rfl rfl rfl rfl (fun _ k => Ext.below hS219 k) ?_
      intro N149 w220 hB220 z_N149 i_149
      have hS220 := Ext.below hS219 hB220
      refine Pl.pA_end ?_
      refine Pl.G_any [2, 9] 9 (by kernel_rfl) (by kernel_rfl) (by kernel_rfl) (Pl.AllG_cons ?_ (Pl.AllG_cons ?_ Pl.AllG_nil))
      · have h_x16__220 := Zn.below h_x16 (Ext.below hB10 (Ext.below hB11 (Ext.below hB12 (Ext.below hB115 (Ext.below hB218 (Ext.below hB219 hB220))))))
        have h_x24__220 := Zn.below h_x24 (Ext.below hB12 (Ext.below hB115 (Ext.below hB218 (Ext.below hB219 hB220))))
        refine Pl.pA_call rfl rfl rfl rfl rfl en29 ?_
        refine Calls.mono (zadd _ _ _ (a % ((k1 : Nat) : Int)) (b % ((k1 : Nat) : Int)) h_x16__220 h_x24__220 (Sz.le b_x16 (by decide)) (Sz.le b_x24 (by decide)) _ rfl) ?_
        rintro e w221 ⟨v_x152, rfl, h_x152, hB221⟩
        have hS221 := Ext.below hS220 hB221
        refine ⟨_, rfl, hS221, ?_⟩
        have b_x152 : Sz ((a % ((k1 : Nat) : Int)) + (b % ((k1 : Nat) : Int))) 2 := Sz.add b_x16 b_x24 (by decide) (by decide)
        refine Pl.pA_end ?_
        refine Pl.G_any [4, 9] 8 (by kernel_rfl) (by kernel_rfl) (by kernel_rfl) (Pl.AllG_cons ?_ (Pl.AllG_cons ?_ Pl.AllG_nil))
        · have h_x10__221 := Zn.below h_x10__10 (Ext.below hB11 (Ext.below hB12 (Ext.below hB115 (Ext.below hB218 (Ext.below hB219 (Ext.below hB220 hB221))))))
          refine Pl.pA_call rfl rfl rfl rfl rfl en14 ?_
          refine Calls.mono (zdiv_D _ _ _ ((a % ((k1 : Nat) : Int)) + (b % ((k1 : Nat) : Int))) ((k1 : Nat) : Int) h_x152 h_x10__221 (Sz.le b_x152 (by decide)) (Sz.le b_x10 (by decide)) hk0 _ _ rfl rfl) ?_
          rintro e w222 ⟨⟨v_x154, v_x155, rfl, h_x154, h_x155⟩, hB222⟩
          have hS222 := Ext.below hS221 hB222
          refine ⟨_, rfl, hS222, ?_⟩
          have b_x154 : Sz (((a % ((k1 : Nat) : Int)) + (b % ((k1 : Nat) : Int))) / ((k1 : Nat) : Int)) 2 := Sz.div b_x152
          have b_x155 : Sz (((a % ((k1 : Nat) : Int)) + (b % ((k1 : Nat) : Int))) % ((k1 : Nat) : Int)) 1 := Sz.mod b_x10 hk0
          refine Pl.pA_end ?_
          refine Pl.G_plan [(true, 5, 1055), (true, 6, 1087), (true, 7, 1151), (true, 8, 1279), (false, 9, 1535)] 2047 3 Pl.post_panic (by kernel_rfl) (by kernel_rfl) (by kernel_rfl) ?_
          refine Pl.qA_move hS222 rfl rfl rfl rfl rfl ?_
          refine Pl.qA_extract hS222 rfl rfl rfl rfl rfl rfl ?_
          refine Pl.qA_extract hS222 rfl rfl rfl rfl rfl rfl ?_
          refine Pl.qA_extract hS222 rfl rfl rfl rfl rfl rfl ?_
          refine allocI rfl rfl rfl rfl (fun _ k => Ext.below hS222 k) ?_
          intro N156 w223 hB223 z_N156 i_156
          have hS223 := Ext.below hS222 hB223
          refine Pl.pA_end ?_
          have i_149__223 := Ib.ext i_149 (Ext.below hB221 (Ext.below hB222 hB223))
          have h_x154__223 := Zn.below h_x154 hB223
          have h_x155__223 := Zn.below h_x155 hB223
          exact Pl.G_sub [(1, (.int .u32 k1)), (4, (.bool false)), (5, (.bool true)), (6, .pointer (some ⟨N5, 0, none⟩)), (8, .pointer (some ⟨N11, 0, none⟩)), (10, .pointer (some ⟨N18, 0, none⟩)), (11, (.int .i64 0)), (13, .pointer (some ⟨N26, 0, none⟩)), (14, (.int .i64 0)), (16, .pointer (some ⟨N16_113, 0, none⟩)), (17, (.int .i64 0)), (19, .pointer (some ⟨N19_216, 0, none⟩)), (20, (.int .i64 0)), (21, .pointer (some ⟨N156, 0, none⟩)), (22, .pointer (some ⟨N149, 0, none⟩)), (78, v_x154), (79, v_x155), (80, (.int .i64 0))] (Pl.subl_cons rfl (Pl.subl_cons rfl (Pl.subl_cons rfl (Pl.subl_cons rfl (Pl.subl_cons rfl (Pl.subl_cons rfl (Pl.subl_cons rfl (Pl.subl_cons rfl (Pl.subl_cons rfl (Pl.subl_cons rfl (Pl.subl_cons rfl (Pl.subl_cons rfl (Pl.subl_cons rfl (Pl.subl_cons rfl (Pl.subl_cons rfl (Pl.subl_cons rfl (Pl.subl_cons rfl (Pl.subl_cons rfl Pl.subl_nil)))))))))))))))))) (hK _ _ ⟨N156, N149, v_x154, v_x155, rfl, (Ext.below hB219 (Ext.below hB220 (Ext.below hB221 (Ext.below hB222 hB223)))), (Nat.le_trans (Below.size (Ext.below hB219 (Ext.below hB220 (Ext.below hB221 hB222)))) z_N156), i_156, (Nat.le_trans (Below.size hB219) z_N149), i_149__223, h_x154__223, h_x155__223, (Nat.ne_of_gt (Nat.lt_of_lt_of_le (Ib.ext i_149 (Ext.below hB221 hB222)).1 z_N156))⟩)
        · refine allocI rfl rfl rfl rfl (fun _ k => Ext.below hS221 k) ?_
          intro N153 w222 hB222 z_N153 i_153
          have hS222 := Ext.below hS221 hB222
          refine Pl.pA_end ?_
          refine Pl.G_plan [(false, 4, 1551), (true, 5, 1567), (true, 6, 1599), (true, 7, 1663), (true, 8, 1791)] 2047 3 Pl.post_panic (by kernel_rfl) (by kernel_rfl) (by kernel_rfl) ?_
          have h_x152__222 := Zn.below h_x152 hB222
          have h_x10__222 := Zn.below h_x10__10 (Ext.below hB11 (Ext.below hB12 (Ext.below hB115 (Ext.below hB218 (Ext.below hB219 (Ext.below hB220 (Ext.below hB221 hB222)))))))
          refine Pl.pA_call rfl rfl rfl rfl rfl en14 ?_
          refine Calls.mono (zdiv_D _ _ _ ((a % ((k1 : Nat) : Int)) + (b % ((k1 : Nat) : Int))) ((k1 : Nat) : Int) h_x152__222 h_x10__222 (Sz.le b_x152 (by decide)) (Sz.le b_x10 (by decide)) hk0 _ _ rfl rfl) ?_
          rintro e w223 ⟨⟨v_x156, v_x157, rfl, h_x156, h_x157⟩, hB223⟩
          have hS223 := Ext.below hS222 hB223
          refine ⟨_, rfl, hS223, ?_⟩
          have b_x156 : Sz (((a % ((k1 : Nat) : Int)) + (b % ((k1 : Nat) : Int))) / ((k1 : Nat) : Int)) 2 := Sz.div b_x152
          have b_x157 : Sz (((a % ((k1 : Nat) : Int)) + (b % ((k1 : Nat) : Int))) % ((k1 : Nat) : Int)) 1 := Sz.mod b_x10 hk0
          refine Pl.qA_move hS223 rfl rfl rfl rfl rfl ?_
          refine Pl.qA_extract hS223 rfl rfl rfl rfl rfl rfl ?_
          refine Pl.qA_extract hS223 rfl rfl rfl rfl rfl rfl ?_
          refine Pl.qA_extract hS223 rfl rfl rfl rfl rfl rfl ?_
          refine Pl.pA_end ?_
          have i_153__223 := Ib.ext i_153 hB223
          have i_149__223 := Ib.ext i_149 (Ext.below hB221 (Ext.below hB222 hB223))
          exact Pl.G_sub [(1, (.int .u32 k1)), (4, (.bool false)), (5, (.bool true)), (6, .pointer (some ⟨N5, 0, none⟩)), (8, .pointer (some ⟨N11, 0, none⟩)), (10, .pointer (some ⟨N18, 0, none⟩)), (11, (.int .i64 0)), (13, .pointer (some ⟨N26, 0, none⟩)), (14, (.int .i64 0)), (16, .pointer (some ⟨N16_113, 0, none⟩)), (17, (.int .i64 0)), (19, .pointer (some ⟨N19_216, 0, none⟩)), (20, (.int .i64 0)), (21, .pointer (some ⟨N153, 0, none⟩)), (22, .pointer (some ⟨N149, 0, none⟩)), (78, v_x156), (79, v_x157), (80, (.int .i64 0))] (Pl.subl_cons rfl (Pl.subl_cons rfl (Pl.subl_cons rfl (Pl.subl_cons rfl (Pl.subl_cons rfl (Pl.subl_cons rfl (Pl.subl_cons rfl (Pl.subl_cons rfl (Pl.subl_cons rfl (Pl.subl_cons rfl (Pl.subl_cons rfl (Pl.subl_cons rfl (Pl.subl_cons rfl (Pl.subl_cons rfl (Pl.subl_cons rfl (Pl.subl_cons rfl (Pl.subl_cons rfl (Pl.subl_cons rfl Pl.subl_nil)))))))))))))))))) (hK _ _ ⟨N153, N149, v_x156, v_x157, rfl, (Ext.below hB219 (Ext.below hB220 (Ext.below hB221 (Ext.below hB222 hB223)))), (Nat.le_trans (Below.size (Ext.below hB219 (Ext.below hB220 hB221))) z_N153), i_153__223, (Nat.le_trans (Below.size hB219) z_N149), i_149__223, h_x156, h_x157, (Nat.ne_of_gt (Nat.lt_of_lt_of_le (Ib.ext i_149 hB221).1 z_N153))⟩)
      · refine allocI rfl rfl rfl rfl (fun _ k => Ext.below hS220 k) ?_
        intro N150 w221 hB221 z_N150 i_150
        have hS221 := Ext.below hS220 hB221
        refine Pl.pA_end ?_
        refine Pl.G_plan [(false, 2, 1547), (false, 4, 1551), (true, 5, 1567), (true, 6, 1599), (true, 7, 1663), (true, 8, 1791)] 2047 3 Pl.post_panic (by kernel_rfl) (by kernel_rfl) (by kernel_rfl) ?_
        have h_x16__221 := Zn.below h_x16 (Ext.below hB10 (Ext.below hB11 (Ext.below hB12 (Ext.below hB115 (Ext.below hB218 (Ext.below hB219 (Ext.below hB220 hB221)))))))
        have h_x24__221 := Zn.below h_x24 (Ext.below hB12 (Ext.below hB115 (Ext.below hB218 (Ext.below hB219 (Ext.below hB220 hB221)))))
        refine Pl.pA_call rfl rfl rfl rfl rfl en29 ?_
        refine Calls.mono (zadd _ _ _ (a % ((k1 : Nat) : Int)) (b % ((k1 : Nat) : Int)) h_x16__221 h_x24__221 (Sz.le b_x16 (by decide)) (Sz.le b_x24 (by decide)) _ rfl) ?_
        rintro e w222 ⟨v_x153, rfl, h_x153, hB222⟩
        have hS222 := Ext.below hS221 hB222
        refine ⟨_, rfl, hS222, ?_⟩
        have b_x153 : Sz ((a % ((k1 : Nat) : Int)) + (b % ((k1 : Nat) : Int))) 2 := Sz.add b_x16 b_x24 (by decide) (by decide)
        have h_x10__222 := Zn.below h_x10__10 (Ext.below hB11 (Ext.below hB12 (Ext.below hB115 (Ext.below hB218 (Ext.below hB219 (Ext.below hB220 (Ext.below hB221 hB222)))))))
        refine Pl.pA_call rfl rfl rfl rfl rfl en14 ?_
        refine Calls.mono (zdiv_D _ _ _ ((a % ((k1 : Nat) : Int)) + (b % ((k1 : Nat) : Int))) ((k1 : Nat) : Int) h_x153 h_x10__222 (Sz.le b_x153 (by decide)) (Sz.le b_x10 (by decide)) hk0 _ _ rfl rfl) ?_
        rintro e w223 ⟨⟨v_x155, v_x156, rfl, h_x155, h_x156⟩, hB223⟩
        have hS223 := Ext.below hS222 hB223
        refine ⟨_, rfl, hS223, ?_⟩
        have b_x155 : Sz (((a % ((k1 : Nat) : Int)) + (b % ((k1 : Nat) : Int))) / ((k1 : Nat) : Int)) 2 := Sz.div b_x153
        have b_x156 : Sz (((a % ((k1 : Nat) : Int)) + (b % ((k1 : Nat) : Int))) % ((k1 : Nat) : Int)) 1 := Sz.mod b_x10 hk0
        refine Pl.qA_move hS223 rfl rfl rfl rfl rfl ?_
        refine Pl.qA_extract hS223 rfl rfl rfl rfl rfl rfl ?_
        refine Pl.qA_extract hS223 rfl rfl rfl rfl rfl rfl ?_
        refine Pl.qA_extract hS223 rfl rfl rfl rfl rfl rfl ?_
        refine Pl.pA_end ?_
        have i_150__223 := Ib.ext i_150 (Ext.below hB222 hB223)
        have i_149__223 := Ib.ext i_149 (Ext.below hB221 (Ext.below hB222 hB223))
        exact Pl.G_sub [(1, (.int .u32 k1)), (4, (.bool false)), (5, (.bool true)), (6, .pointer (some ⟨N5, 0, none⟩)), (8, .pointer (some ⟨N11, 0, none⟩)), (10, .pointer (some ⟨N18, 0, none⟩)), (11, (.int .i64 0)), (13, .pointer (some ⟨N26, 0, none⟩)), (14, (.int .i64 0)), (16, .pointer (some ⟨N16_113, 0, none⟩)), (17, (.int .i64 0)), (19, .pointer (some ⟨N19_216, 0, none⟩)), (20, (.int .i64 0)), (21, .pointer (some ⟨N150, 0, none⟩)), (22, .pointer (some ⟨N149, 0, none⟩)), (78, v_x155), (79, v_x156), (80, (.int .i64 0))] (Pl.subl_cons rfl (Pl.subl_cons rfl (Pl.subl_cons rfl (Pl.subl_cons rfl (Pl.subl_cons rfl (Pl.subl_cons rfl (Pl.subl_cons rfl (Pl.subl_cons rfl (Pl.subl_cons rfl (Pl.subl_cons rfl (Pl.subl_cons rfl (Pl.subl_cons rfl (Pl.subl_cons rfl (Pl.subl_cons rfl (Pl.subl_cons rfl (Pl.subl_cons rfl (Pl.subl_cons rfl (Pl.subl_cons rfl Pl.subl_nil)))))))))))))))))) (hK _ _ ⟨N150, N149, v_x155, v_x156, rfl, (Ext.below hB219 (Ext.below hB220 (Ext.below hB221 (Ext.below hB222 hB223)))), (Nat.le_trans (Below.size (Ext.below hB219 hB220)) z_N150), i_150__223, (Nat.le_trans (Below.size hB219) z_N149), i_149__223, h_x155, h_x156, (Nat.ne_of_gt (Nat.lt_of_lt_of_le (i_149).1 z_N150))⟩)
  rintro _ w319 ⟨N21_319, N22_319, v_y78_319, v_y79_319, rfl, hB319, z_N21_319, i_N21_319, z_N22_319, i_N22_319, h_y78_319, h_y79_319, ne_N21_319_N22_319⟩
  have hS319 := hB319
  have b_x151 : Sz ((a % ((k1 : Nat) : Int)) + (b % ((k1 : Nat) : Int))) 2 := Sz.add b_x16 b_x24 (by decide) (by decide)
  have b_x153 : Sz (((a % ((k1 : Nat) : Int)) + (b % ((k1 : Nat) : Int))) / ((k1 : Nat) : Int)) 2 := Sz.div b_x151
  have b_x154 : Sz (((a % ((k1 : Nat) : Int)) + (b % ((k1 : Nat) : Int))) % ((k1 : Nat) : Int)) 1 := Sz.mod b_x10 hk0
  refine Pl.G_plan [(false, 11, 2047), (false, 12, 4095), (true, 13, 8191)] 16383 0 Pl.post_panic (by kernel_rfl) (by kernel_rfl) (by kernel_rfl) ?_
  obtain ⟨p_y78_319, A_y78_319, L_y78_319, c_y78_319, rfl⟩ := Zn.sh h_y78_319
  refine storeI rfl rfl rfl rfl rfl rfl i_N21_319 (fun _ T => T _ hS319 (Nat.le_trans (Below.size (Ext.refl w218)) z_N21_319)) ?_
  intro w320 T1_320 T2_320 T3_320 I_320
  have hB320 := T1_320 _ hB319 (Nat.le_trans (Below.size (Ext.refl w218)) z_N21_319)
  have hS320 := T1_320 _ hS319 (Nat.le_trans (Below.size (Ext.refl w218)) z_N21_319)
  have i_N22_319__320 := T3_320 _ _ _ (Ne.symm ne_N21_319_N22_319) i_N22_319
  have h_y78_319__320 := T2_320 _ _ h_y78_319
  have h_y79_319__320 := T2_320 _ _ h_y79_319
  obtain ⟨p_y79_319, A_y79_319, L_y79_319, c_y79_319, rfl⟩ := Zn.sh h_y79_319__320
  refine storeI rfl rfl rfl rfl rfl rfl i_N22_319__320 (fun _ T => T _ hS320 (Nat.le_trans (Below.size (Ext.refl w218)) z_N22_319)) ?_
  intro w321 T1_321 T2_321 T3_321 I_321
  have hB321 := T1_321 _ hB320 (Nat.le_trans (Below.size (Ext.refl w218)) z_N22_319)
  have hS321 := T1_321 _ hS320 (Nat.le_trans (Below.size (Ext.refl w218)) z_N22_319)
  have h_y78_319__321 := T2_321 _ _ h_y78_319__320
  have I_320__321 := T3_321 _ _ _ ne_N21_319_N22_319 I_320
  have h_y79_319__321 := T2_321 _ _ h_y79_319__320
  refine Pl.qA_assign hS321 rfl rfl rfl rfl rfl ?_
  refine Pl.pA_end ?_
  refine Pl.G_V (by kernel_rfl) ?_
  refine Pl.V_seq ?_
  refine Pl.V_drawG (S := fun X => Ext w321 X) fo (Ext.drew (Ext.refl _)) ?_
  generalize w321.drew = w322
  intro hB322
  have hS322 := hB322
  refine Pl.G_cut 3 2047 (fun l' w' => ∃ (N_24 : Nat) (N_25 : Nat) (V_87 : Value) (V_88 : Value), l' = [(1, (.int .u32 k1)), (4, (.bool false)), (5, (.bool true)), (6, .pointer (some ⟨N5, 0, none⟩)), (10, .pointer (some ⟨N18, 0, none⟩)), (11, (.int .i64 0)), (14, (.int .i64 0)), (16, .pointer (some ⟨N16_113, 0, none⟩)), (17, (.int .i64 0)), (19, .pointer (some ⟨N19_216, 0, none⟩)), (20, (.int .i64 0)), (22, .pointer (some ⟨N22_319, 0, none⟩)), (23, (.int .i64 0)), (24, .pointer (some ⟨N_24, 0, none⟩)), (25, .pointer (some ⟨N_25, 0, none⟩)), (87, V_87), (88, V_88), (89, (.int .i64 0))] ∧ Ext w321 w' ∧ w321.heap.size ≤ N_24 ∧ Ib w' N_24 false (.slice none 0 0) ∧ w321.heap.size ≤ N_25 ∧ Ib w' N_25 false (.slice none 0 0) ∧ Zn w' V_87 (((a % ((k1 : Nat) : Int)) * (b % ((k1 : Nat) : Int))) / ((k1 : Nat) : Int)) ∧ Zn w' V_88 (((a % ((k1 : Nat) : Int)) * (b % ((k1 : Nat) : Int))) % ((k1 : Nat) : Int)) ∧ N_24 ≠ N_25) ?_ ?_
  rotate_left
  · intro hK
    refine Pl.G_plan [(true, 0, 0), (true, 1, 1), (true, 3, 3)] 11 11 Pl.post_panic (by kernel_rfl) (by kernel_rfl) (by kernel_rfl) ?_
    have i_18__321 := Ib.ext i_18 (Ext.below hB11 (Ext.below hB12 (Ext.below hB115 (Ext.below hB218 hB321))))
    refine Pl.qA_load hS322 rfl rfl rfl rfl rfl (fun X hX => Ib.load (Ib.ext i_18__321 hX)) ?_
    have i_26__321 := Ib.ext i_26 (Ext.below hB115 (Ext.below hB218 hB321))
    refine Pl.qA_load hS322 rfl rfl rfl rfl rfl (fun X hX => Ib.load (Ib.ext i_26__321 hX)) ?_
    have i_11__321 := Ib.ext i_11__10 (Ext.below hB11 (Ext.below hB12 (Ext.below hB115 (Ext.below hB218 hB321))))
    refine Pl.qA_load hS322 rfl rfl rfl rfl rfl (fun X hX => Ib.load (Ib.ext i_11__321 hX)) ?_
    refine Pl.pA_end ?_
    refine Pl.G_any [2, 9, 10] 10 (by kernel_rfl) (by kernel_rfl) (by kernel_rfl) (Pl.AllG_cons ?_ (Pl.AllG_cons ?_ (Pl.AllG_cons ?_ Pl.AllG_nil)))
    · have h_x16__322 := Zn.below h_x16 (Ext.below hB10 (Ext.below hB11 (Ext.below hB12 (Ext.below hB115 (Ext.below hB218 (Ext.below hB321 hB322))))))
      have h_x24__322 := Zn.below h_x24 (Ext.below hB12 (Ext.below hB115 (Ext.below hB218 (Ext.below hB321 hB322))))
      refine Pl.pA_call rfl rfl rfl rfl rfl en33 ?_
      refine Calls.mono (zmul _ _ _ (a % ((k1 : Nat) : Int)) (b % ((k1 : Nat) : Int)) h_x16__322 h_x24__322 (Sz.le b_x16 (by decide)) (Sz.le b_x24 (by decide)) _ rfl) ?_
      rintro e w323 ⟨v_x212, rfl, h_x212, hB323⟩
      have hS323 := Ext.below hS322 hB323
      refine ⟨_, rfl, hS323, ?_⟩
      have b_x212 : Sz ((a % ((k1 : Nat) : Int)) * (b % ((k1 : Nat) : Int))) 2 := Sz.mul b_x16 b_x24 (by decide)
      refine Pl.pA_end ?_
      refine Pl.G_any [4, 9, 10] 9 (by kernel_rfl) (by kernel_rfl) (by kernel_rfl) (Pl.AllG_cons ?_ (Pl.AllG_cons ?_ (Pl.AllG_cons ?_ Pl.AllG_nil)))
      · have h_x10__323 := Zn.below h_x10__10 (Ext.below hB11 (Ext.below hB12 (Ext.below hB115 (Ext.below hB218 (Ext.below hB321 (Ext.below hB322 hB323))))))
        refine Pl.pA_call rfl rfl rfl rfl rfl en14 ?_
        refine Calls.mono (zdiv_D _ _ _ ((a % ((k1 : Nat) : Int)) * (b % ((k1 : Nat) : Int))) ((k1 : Nat) : Int) h_x212 h_x10__323 (Sz.le b_x212 (by decide)) (Sz.le b_x10 (by decide)) hk0 _ _ rfl rfl) ?_
        rintro e w324 ⟨⟨v_x214, v_x215, rfl, h_x214, h_x215⟩, hB324⟩
        have hS324 := Ext.below hS323 hB324
        refine ⟨_, rfl, hS324, ?_⟩
        have b_x214 : Sz (((a % ((k1 : Nat) : Int)) * (b % ((k1 : Nat) : Int))) / ((k1 : Nat) : Int)) 2 := Sz.div b_x212
        have b_x215 : Sz (((a % ((k1 : Nat) : Int)) * (b % ((k1 : Nat) : Int))) % ((k1 : Nat) : Int)) 1 := Sz.mod b_x10 hk0
        refine Pl.pA_end ?_
        refine Pl.G_plan [(true, 5, 31), (true, 6, 63), (true, 7, 127), (true, 8, 255)] 511 5 Pl.post_panic (by kernel_rfl) (by kernel_rfl) (by kernel_rfl) ?_
        refine Pl.qA_move hS324 rfl rfl rfl rfl rfl ?_
        refine Pl.qA_extract hS324 rfl rfl rfl rfl rfl rfl ?_
        refine Pl.qA_extract hS324 rfl rfl rfl rfl rfl rfl ?_
        refine Pl.qA_extract hS324 rfl rfl rfl rfl rfl rfl ?_
        refine Pl.pA_end ?_
        refine Pl.G_any [9, 10] 4 (by kernel_rfl) (by kernel_rfl) (by kernel_rfl) (Pl.AllG_cons ?_ (Pl.AllG_cons ?_ Pl.AllG_nil))
        · refine allocI rfl rfl rfl rfl (fun _ k => Ext.below hS324 k) ?_
          intro N216 w325 hB325 z_N216 i_216
          have hS325 := Ext.below hS324 hB325
          refine Pl.pA_end ?_
          refine Pl.G_plan [(false, 10, 1023)] 2047 3 Pl.post_panic (by kernel_rfl) (by kernel_rfl) (by kernel_rfl) ?_
          refine allocI rfl rfl rfl rfl (fun _ k => Ext.below hS325 k) ?_
          intro N217 w326 hB326 z_N217 i_217
          have hS326 := Ext.below hS325 hB326
          refine Pl.pA_end ?_
          have i_216__326 := Ib.ext i_216 hB326
          have h_x214__326 := Zn.below h_x214 (Ext.below hB325 hB326)
          have h_x215__326 := Zn.below h_x215 (Ext.below hB325 hB326)
          exact Pl.G_sub [(1, (.int .u32 k1)), (4, (.bool false)), (5, (.bool true)), (6, .pointer (some ⟨N5, 0, none⟩)), (10, .pointer (some ⟨N18, 0, none⟩)), (11, (.int .i64 0)), (14, (.int .i64 0)), (16, .pointer (some ⟨N16_113, 0, none⟩)), (17, (.int .i64 0)), (19, .pointer (some ⟨N19_216, 0, none⟩)), (20, (.int .i64 0)), (22, .pointer (some ⟨N22_319, 0, none⟩)), (23, (.int .i64 0)), (24, .pointer (some ⟨N216, 0, none⟩)), (25, .pointer (some ⟨N217, 0, none⟩)), (87, v_x214), (88, v_x215), (89, (.int .i64 0))] (Pl.subl_cons rfl (Pl.subl_cons rfl (Pl.subl_cons rfl (Pl.subl_cons rfl (Pl.subl_cons rfl (Pl.subl_cons rfl (Pl.subl_cons rfl (Pl.subl_cons rfl (Pl.subl_cons rfl (Pl.subl_cons rfl (Pl.subl_cons rfl (Pl.subl_cons rfl (Pl.subl_cons rfl (Pl.subl_cons rfl (Pl.subl_cons rfl (Pl.subl_cons rfl (Pl.subl_cons rfl (Pl.subl_cons rfl Pl.subl_nil)))))))))))))))))) (hK _ _ ⟨N216, N217, v_x214, v_x215, rfl, (Ext.below hB322 (Ext.below hB323 (Ext.below hB324 (Ext.below hB325 hB326)))), (Nat.le_trans (Below.size (Ext.below hB322 (Ext.below hB323 hB324))) z_N216), i_216__326, (Nat.le_trans (Below.size (Ext.below hB322 (Ext.below hB323 (Ext.below hB324 hB325)))) z_N217), i_217, h_x214__326, h_x215__326, (Nat.ne_of_lt (Nat.lt_of_lt_of_le (i_216).1 z_N217))⟩)
        · refine allocI rfl rfl rfl rfl (fun _ k => Ext.below hS324 k) ?_
          intro N216 w325 hB325 z_N216 i_216
          have hS325 := Ext.below hS324 hB325
          refine Pl.pA_end ?_
          refine Pl.G_plan [(false, 9, 1535)] 2047 3 Pl.post_panic (by kernel_rfl) (by kernel_rfl) (by kernel_rfl) ?_
          refine allocI rfl rfl rfl rfl (fun _ k => Ext.below hS325 k) ?_
          intro N217 w326 hB326 z_N217 i_217
          have hS326 := Ext.below hS325 hB326
          refine Pl.pA_end ?_
          have i_216__326 := Ib.ext i_216 hB326
          have h_x214__326 := Zn.below h_x214 (Ext.below hB325 hB326)
          have h_x215__326 := Zn.below h_x215 (Ext.below hB325 hB326)
          exact Pl.G_sub [(1, (.int .u32 k1)), (4, (.bool false)), (5, (.bool true)), (6, .pointer (some ⟨N5, 0, none⟩)), (10, .pointer (some ⟨N18, 0, none⟩)), (11, (.int .i64 0)), (14, (.int .i64 0)), (16, .pointer (some ⟨N16_113, 0, none⟩)), (17, (.int .i64 0)), (19, .pointer (some ⟨N19_216, 0, none⟩)), (20, (.int .i64 0)), (22, .pointer (some ⟨N22_319, 0, none⟩)), (23, (.int .i64 0)), (24, .pointer (some ⟨N217, 0, none⟩)), (25, .pointer (some ⟨N216, 0, none⟩)), (87, v_x214), (88, v_x215), (89, (.int .i64 0))] (Pl.subl_cons rfl (Pl.subl_cons rfl (Pl.subl_cons rfl (Pl.subl_cons rfl (Pl.subl_cons rfl (Pl.subl_cons rfl (Pl.subl_cons rfl (Pl.subl_cons rfl (Pl.subl_cons rfl (Pl.subl_cons rfl (Pl.subl_cons rfl (Pl.subl_cons rfl (Pl.subl_cons rfl (Pl.subl_cons rfl (Pl.subl_cons rfl (Pl.subl_cons rfl (Pl.subl_cons rfl (Pl.subl_cons rfl Pl.subl_nil)))))))))))))))))) (hK _ _ ⟨N217, N216, v_x214, v_x215, rfl, (Ext.below hB322 (Ext.below hB323 (Ext.below hB324 (Ext.below hB325 hB326)))), (Nat.le_trans (Below.size (Ext.below hB322 (Ext.below hB323 (Ext.below hB324 hB325)))) z_N217), i_217, (Nat.le_trans (Below.size (Ext.below hB322 (Ext.below hB323 hB324))) z_N216), i_216__326, h_x214__326, h_x215__326, (Nat.ne_of_gt (Nat.lt_of_lt_of_le (i_216).1 z_N217))⟩)
      · refine allocI rfl rfl rfl rfl (fun _ k => Ext.below hS323 k) ?_
        intro N213 w324 hB324 z_N213 i_213
        have hS324 := Ext.below hS323 hB324
        refine Pl.pA_end ?_
        refine Pl.G_any [4, 10] 8 (by kernel_rfl) (by kernel_rfl) (by kernel_rfl) (Pl.AllG_cons ?_ (Pl.AllG_cons ?_ Pl.AllG_nil))
        · have h_x212__324 := Zn.below h_x212 hB324
          have h_x10__324 := Zn.below h_x10__10 (Ext.below hB11 (Ext.below hB12 (Ext.below hB115 (Ext.below hB218 (Ext.below hB321 (Ext.below hB322 (Ext.below hB323 hB324)))))))
          refine Pl.pA_call rfl rfl rfl rfl rfl en14 ?_
          refine Calls.mono (zdiv_D _ _ _ ((a % ((k1 : Nat) : Int)) * (b % ((k1 : Nat) : Int))) ((k1 : Nat) : Int) h_x212__324 h_x10__324 (Sz.le b_x212 (by decide)) (Sz.le b_x10 (by decide)) hk0 _ _ rfl rfl) ?_
          rintro e w325 ⟨⟨v_x216, v_x217, rfl, h_x216, h_x217⟩, hB325⟩
          have hS325 := Ext.below hS324 hB325
          refine ⟨_, rfl, hS325, ?_⟩
          have b_x216 : Sz (((a % ((k1 : Nat) : Int)) * (b % ((k1 : Nat) : Int))) / ((k1 : Nat) : Int)) 2 := Sz.div b_x212
          have b_x217 : Sz (((a % ((k1 : Nat) : Int)) * (b % ((k1 : Nat) : Int))) % ((k1 : Nat) : Int)) 1 := Sz.mod b_x10 hk0
          refine Pl.pA_end ?_
          refine Pl.G_plan [(true, 5, 543), (true, 6, 575), (true, 7, 639), (true, 8, 767), (false, 10, 1023)] 2047 3 Pl.post_panic (by kernel_rfl) (by kernel_rfl) (by kernel_rfl) ?_
          refine Pl.qA_move hS325 rfl rfl rfl rfl rfl ?_
          refine Pl.qA_extract hS325 rfl rfl rfl rfl rfl rfl ?_
          refine Pl.qA_extract hS325 rfl rfl rfl rfl rfl rfl ?_
          refine Pl.qA_extract hS325 rfl rfl rfl rfl rfl rfl ?_
          refine allocI rfl rfl rfl rfl (fun _ k => Ext.below hS325 k) ?_
          intro N218 w326 hB326 z_N218 i_218
          have hS326 := Ext.below hS325 hB326
          refine Pl.pA_end ?_
          have i_213__326 := Ib.ext i_213 (Ext.below hB325 hB326)
          have h_x216__326 := Zn.below h_x216 hB326
          have h_x217__326 := Zn.below h_x217 hB326
          exact Pl.G_sub [(1, (.int .u32 k1)), (4, (.bool false)), (5, (.bool true)), (6, .pointer (some ⟨N5, 0, none⟩)), (10, .pointer (some ⟨N18, 0, none⟩)), (11, (.int .i64 0)), (14, (.int .i64 0)), (16, .pointer (some ⟨N16_113, 0, none⟩)), (17, (.int .i64 0)), (19, .pointer (some ⟨N19_216, 0, none⟩)), (20, (.int .i64 0)), (22, .pointer (some ⟨N22_319, 0, none⟩)), (23, (.int .i64 0)), (24, .pointer (some ⟨N213, 0, none⟩)), (25, .pointer (some ⟨N218, 0, none⟩)), (87, v_x216), (88, v_x217), (89, (.int .i64 0))] (Pl.subl_cons rfl (Pl.subl_cons rfl (Pl.subl_cons rfl (Pl.subl_cons rfl (Pl.subl_cons rfl (Pl.subl_cons rfl (Pl.subl_cons rfl (Pl.subl_cons rfl (Pl.subl_cons rfl (Pl.subl_cons rfl (Pl.subl_cons rfl (Pl.subl_cons rfl (Pl.subl_cons rfl (Pl.subl_cons rfl (Pl.subl_cons rfl (Pl.subl_cons rfl (Pl.subl_cons rfl (Pl.subl_cons rfl Pl.subl_nil)))))))))))))))))) (hK _ _ ⟨N213, N218, v_x216, v_x217, rfl, (Ext.below hB322 (Ext.below hB323 (Ext.below hB324 (Ext.below hB325 hB326)))), (Nat.le_trans (Below.size (Ext.below hB322 hB323)) z_N213), i_213__326, (Nat.le_trans (Below.size (Ext.below hB322 (Ext.below hB323 (Ext.below hB324 hB325)))) z_N218), i_218, h_x216__326, h_x217__326, (Nat.ne_of_lt (Nat.lt_of_lt_of_le (Ib.ext i_213 hB325).1 z_N218))⟩)
        · refine allocI rfl rfl rfl rfl (fun _ k => Ext.below hS324 k) ?_
          intro N214 w325 hB325 z_N214 i_214
          have hS325 := Ext.below hS324 hB325
          refine Pl.pA_end ?_
          refine Pl.G_plan [(false, 4, 1551), (true, 5, 1567), (true, 6, 1599), (true, 7, 1663), (true, 8, 1791)] 2047 3 Pl.post_panic (by kernel_rfl) (by kernel_rfl) (by kernel_rfl) ?_
          have h_x212__325 := Zn.below h_x212 (Ext.below hB324 hB325)
          have h_x10__325 := Zn.below h_x10__10 (Ext.below hB11 (Ext.below hB12 (Ext.below hB115 (Ext.below hB218 (Ext.below hB321 (Ext.below hB322 (Ext.below hB323 (Ext.below hB324 hB325))))))))
          refine Pl.pA_call rfl rfl rfl rfl rfl en14 ?_
          refine Calls.mono (zdiv_D _ _ _ ((a % ((k1 : Nat) : Int)) * (b % ((k1 : Nat) : Int))) ((k1 : Nat) : Int) h_x212__325 h_x10__325 (Sz.le b_x212 (by decide)) (Sz.le b_x10 (by decide)) hk0 _ _ rfl rfl) ?_
          rintro e w326 ⟨⟨v_x217, v_x218, rfl, h_x217, h_x218⟩, hB326⟩
          have hS326 := Ext.below hS325 hB326
          refine ⟨_, rfl, hS326, ?_⟩
          have b_x217 : Sz (((a % ((k1 : Nat) : Int)) * (b % ((k1 : Nat) : Int))) / ((k1 : Nat) : Int)) 2 := Sz.div b_x212
          have b_x218 : Sz (((a % ((k1 : Nat) : Int)) * (b % ((k1 : Nat) : Int))) % ((k1 : Nat) : Int)) 1 := Sz.mod b_x10 hk0
          refine Pl.qA_move hS326 rfl rfl rfl rfl rfl ?_
          refine Pl.qA_extract hS326 rfl rfl rfl rfl rfl rfl ?_
          refine Pl.qA_extract hS326 rfl rfl rfl rfl rfl rfl ?_
          refine Pl.qA_extract hS326 rfl rfl rfl rfl rfl rfl ?_
          refine Pl.pA_end ?_
          have i_213__326 := Ib.ext i_213 (Ext.below hB325 hB326)
          have i_214__326 := Ib.ext i_214 hB326
          exact Pl.G_sub [(1, (.int .u32 k1)), (4, (.bool false)), (5, (.bool true)), (6, .pointer (some ⟨N5, 0, none⟩)), (10, .pointer (some ⟨N18, 0, none⟩)), (11, (.int .i64 0)), (14, (.int .i64 0)), (16, .pointer (some ⟨N16_113, 0, none⟩)), (17, (.int .i64 0)), (19, .pointer (some ⟨N19_216, 0, none⟩)), (20, (.int .i64 0)), (22, .pointer (some ⟨N22_319, 0, none⟩)), (23, (.int .i64 0)), (24, .pointer (some ⟨N213, 0, none⟩)), (25, .pointer (some ⟨N214, 0, none⟩)), (87, v_x217), (88, v_x218), (89, (.int .i64 0))] (Pl.subl_cons rfl (Pl.subl_cons rfl (Pl.subl_cons rfl (Pl.subl_cons rfl (Pl.subl_cons rfl (Pl.subl_cons rfl (Pl.subl_cons rfl (Pl.subl_cons rfl (Pl.subl_cons rfl (Pl.subl_cons rfl (Pl.subl_cons rfl (Pl.subl_cons rfl (Pl.subl_cons rfl (Pl.subl_cons rfl (Pl.subl_cons rfl (Pl.subl_cons rfl (Pl.subl_cons rfl (Pl.subl_cons rfl Pl.subl_nil)))))))))))))))))) (hK _ _ ⟨N213, N214, v_x217, v_x218, rfl, (Ext.below hB322 (Ext.below hB323 (Ext.below hB324 (Ext.below hB325 hB326)))), (Nat.le_trans (Below.size (Ext.below hB322 hB323)) z_N213), i_213__326, (Nat.le_trans (Below.size (Ext.below hB322 (Ext.below hB323 hB324))) z_N214), i_214__326, h_x217, h_x218, (Nat.ne_of_lt (Nat.lt_of_lt_of_le (i_213).1 z_N214))⟩)
      · refine allocI rfl rfl rfl rfl (fun _ k => Ext.below hS323 k) ?_
        intro N213 w324 hB324 z_N213 i_213
        have hS324 := Ext.below hS323 hB324
        refine Pl.pA_end ?_
        refine Pl.G_any [4, 9] 8 (by kernel_rfl) (by kernel_rfl) (by kernel_rfl) (Pl.AllG_cons ?_ (Pl.AllG_cons ?_ Pl.AllG_nil))
        · have h_x212__324 := Zn.below h_x212 hB324
          have h_x10__324 := Zn.below h_x10__10 (Ext.below hB11 (Ext.below hB12 (Ext.below hB115 (Ext.below hB218 (Ext.below hB321 (Ext.below hB322 (Ext.below hB323 hB324)))))))
          refine Pl.pA_call rfl rfl rfl rfl rfl en14 ?_
          refine Calls.mono (zdiv_D _ _ _ ((a % ((k1 : Nat) : Int)) * (b % ((k1 : Nat) : Int))) ((k1 : Nat) : Int) h_x212__324 h_x10__324 (Sz.le b_x212 (by decide)) (Sz.le b_x10 (by decide)) hk0 _ _ rfl rfl) ?_
          rintro e w325 ⟨⟨v_x216, v_x217, rfl, h_x216, h_x217⟩, hB325⟩
          have hS325 := Ext.below hS324 hB325
          refine ⟨_, rfl, hS325, ?_⟩
          have b_x216 : Sz (((a % ((k1 : Nat) : Int)) * (b % ((k1 : Nat) : Int))) / ((k1 : Nat) : Int)) 2 := Sz.div b_x212
          have b_x217 : Sz (((a % ((k1 : Nat) : Int)) * (b % ((k1 : Nat) : Int))) % ((k1 : Nat) : Int)) 1 := Sz.mod b_x10 hk0
          refine Pl.pA_end ?_
          refine Pl.G_plan [(true, 5, 1055), (true, 6, 1087), (true, 7, 1151), (true, 8, 1279), (false, 9, 1535)] 2047 3 Pl.post_panic (by kernel_rfl) (by kernel_rfl) (by kernel_rfl) ?_
          refine Pl.qA_move hS325 rfl rfl rfl rfl rfl ?_
          refine Pl.qA_extract hS325 rfl rfl rfl rfl rfl rfl ?_
          refine Pl.qA_extract hS325 rfl rfl rfl rfl rfl rfl ?_
          refine Pl.qA_extract hS325 rfl rfl rfl rfl rfl rfl ?_
          refine allocI rfl rfl rfl rfl (fun _ k => Ext.below hS325 k) ?_
          intro N218 w326 hB326 z_N218 i_218
          have hS326 := Ext.below hS325 hB326
          refine Pl.pA_end ?_
          have i_213__326 := Ib.ext i_213 (Ext.below hB325 hB326)
          have h_x216__326 := Zn.below h_x216 hB326
          have h_x217__326 := Zn.below h_x217 hB326
          exact Pl.G_sub [(1, (.int .u32 k1)), (4, (.bool false)), (5, (.bool true)), (6, .pointer (some ⟨N5, 0, none⟩)), (10, .pointer (some ⟨N18, 0, none⟩)), (11, (.int .i64 0)), (14, (.int .i64 0)), (16, .pointer (some ⟨N16_113, 0, none⟩)), (17, (.int .i64 0)), (19, .pointer (some ⟨N19_216, 0, none⟩)), (20, (.int .i64 0)), (22, .pointer (some ⟨N22_319, 0, none⟩)), (23, (.int .i64 0)), (24, .pointer (some ⟨N218, 0, none⟩)), (25, .pointer (some ⟨N213, 0, none⟩)), (87, v_x216), (88, v_x217), (89, (.int .i64 0))] (Pl.subl_cons rfl (Pl.subl_cons rfl (Pl.subl_cons rfl (Pl.subl_cons rfl (Pl.subl_cons rfl (Pl.subl_cons rfl (Pl.subl_cons rfl (Pl.subl_cons rfl (Pl.subl_cons rfl (Pl.subl_cons rfl (Pl.subl_cons rfl (Pl.subl_cons rfl (Pl.subl_cons rfl (Pl.subl_cons rfl (Pl.subl_cons rfl (Pl.subl_cons rfl (Pl.subl_cons rfl (Pl.subl_cons rfl Pl.subl_nil)))))))))))))))))) (hK _ _ ⟨N218, N213, v_x216, v_x217, rfl, (Ext.below hB322 (Ext.below hB323 (Ext.below hB324 (Ext.below hB325 hB326)))), (Nat.le_trans (Below.size (Ext.below hB322 (Ext.below hB323 (Ext.below hB324 hB325)))) z_N218), i_218, (Nat.le_trans (Below.size (Ext.below hB322 hB323)) z_N213), i_213__326, h_x216__326, h_x217__326, (Nat.ne_of_gt (Nat.lt_of_lt_of_le (Ib.ext i_213 hB325).1 z_N218))⟩)
        · refine allocI rfl rfl rfl rfl (fun _ k => Ext.below hS324 k) ?_
          intro N214 w325 hB325 z_N214 i_214
          have hS325 := Ext.below hS324 hB325
          refine Pl.pA_end ?_
          refine Pl.G_plan [(false, 4, 1551), (true, 5, 1567), (true, 6, 1599), (true, 7, 1663), (true, 8, 1791)] 2047 3 Pl.post_panic (by kernel_rfl) (by kernel_rfl) (by kernel_rfl) ?_
          have h_x212__325 := Zn.below h_x212 (Ext.below hB324 hB325)
          have h_x10__325 := Zn.below h_x10__10 (Ext.below hB11 (Ext.below hB12 (Ext.below hB115 (Ext.below hB218 (Ext.below hB321 (Ext.below hB322 (Ext.below hB323 (Ext.below hB324 hB325))))))))
          refine Pl.pA_call rfl rfl rfl rfl rfl en14 ?_
          refine Calls.mono (zdiv_D _ _ _ ((a % ((k1 : Nat) : Int)) * (b % ((k1 : Nat) : Int))) ((k1 : Nat) : Int) h_x212__325 h_x10__325 (Sz.le b_x212 (by decide)) (Sz.le b_x10 (by decide)) hk0 _ _ rfl rfl) ?_
          rintro e w326 ⟨⟨v_x217, v_x218, rfl, h_x217, h_x218⟩, hB326⟩
          have hS326 := Ext.below hS325 hB326
          refine ⟨_, rfl, hS326, ?_⟩
          have b_x217 : Sz (((a % ((k1 : Nat) : Int)) * (b % ((k1 : Nat) : Int))) / ((k1 : Nat) : Int)) 2 := Sz.div b_x212
          have b_x218 : Sz (((a % ((k1 : Nat) : Int)) * (b % ((k1 : Nat) : Int))) % ((k1 : Nat) : Int)) 1 := Sz.mod b_x10 hk0
          refine Pl.qA_move hS326 rfl rfl rfl rfl rfl ?_
          refine Pl.qA_extract hS326 rfl rfl rfl rfl rfl rfl ?_
          refine Pl.qA_extract hS326 rfl rfl rfl rfl rfl rfl ?_
          refine Pl.qA_extract hS326 rfl rfl rfl rfl rfl rfl ?_
          refine Pl.pA_end ?_
          have i_214__326 := Ib.ext i_214 hB326
          have i_213__326 := Ib.ext i_213 (Ext.below hB325 hB326)
          exact Pl.G_sub [(1, (.int .u32 k1)), (4, (.bool false)), (5, (.bool true)), (6, .pointer (some ⟨N5, 0, none⟩)), (10, .pointer (some ⟨N18, 0, none⟩)), (11, (.int .i64 0)), (14, (.int .i64 0)), (16, .pointer (some ⟨N16_113, 0, none⟩)), (17, (.int .i64 0)), (19, .pointer (some ⟨N19_216, 0, none⟩)), (20, (.int .i64 0)), (22, .pointer (some ⟨N22_319, 0, none⟩)), (23, (.int .i64 0)), (24, .pointer (some ⟨N214, 0, none⟩)), (25, .pointer (some ⟨N213, 0, none⟩)), (87, v_x217), (88, v_x218), (89, (.int .i64 0))] (Pl.subl_cons rfl (Pl.subl_cons rfl (Pl.subl_cons rfl (Pl.subl_cons rfl (Pl.subl_cons rfl (Pl.subl_cons rfl (Pl.subl_cons rfl (Pl.subl_cons rfl (Pl.subl_cons rfl (Pl.subl_cons rfl (Pl.subl_cons rfl (Pl.subl_cons rfl (Pl.subl_cons rfl (Pl.subl_cons rfl (Pl.subl_cons rfl (Pl.subl_cons rfl (Pl.subl_cons rfl (Pl.subl_cons rfl Pl.subl_nil)))))))))))))))))) (hK _ _ ⟨N214, N213, v_x217, v_x218, rfl, (Ext.below hB322 (Ext.below hB323 (Ext.below hB324 (Ext.below hB325 hB326)))), (Nat.le_trans (Below.size (Ext.below hB322 (Ext.below hB323 hB324))) z_N214), i_214__326, (Nat.le_trans (Below.size (Ext.below hB322 hB323)) z_N213), i_213__326, h_x217, h_x218, (Nat.ne_of_gt (Nat.lt_of_lt_of_le (i_213).1 z_N214))⟩)
    · refine allocI rfl rfl rfl rfl (fun _ k => Ext.below hS322 k) ?_
      intro N210 w323 hB323 z_N210 i_210
      have hS323 := Ext.below hS322 hB323
      refine Pl.pA_end ?_
      refine Pl.G_any [2, 10] 9 (by kernel_rfl) (by kernel_rfl) (by kernel_rfl) (Pl.AllG_cons ?_ (Pl.AllG_cons ?_ Pl.AllG_nil))
      · have h_x16__323 := Zn.below h_x16 (Ext.below hB10 (Ext.below hB11 (Ext.below hB12 (Ext.below hB115 (Ext.below hB218 (Ext.below hB321 (Ext.below hB322 hB323)))))))
        have h_x24__323 := Zn.below h_x24 (Ext.below hB12 (Ext.below hB115 (Ext.below hB218 (Ext.below hB321 (Ext.below hB322 hB323)))))
        refine Pl.pA_call rfl rfl rfl rfl rfl en33 ?_
        refine Calls.mono (zmul _ _ _ (a % ((k1 : Nat) : Int)) (b % ((k1 : Nat) : Int)) h_x16__323 h_x24__323 (Sz.le b_x16 (by decide)) (Sz.le b_x24 (by decide)) _ rfl) ?_
        rintro e w324 ⟨v_x213, rfl, h_x213, hB324⟩
        have hS324 := Ext.below hS323 hB324
        refine ⟨_, rfl, hS324, ?_⟩
        have b_x213 : Sz ((a % ((k1 : Nat) : Int)) * (b % ((k1 : Nat) : Int))) 2 := Sz.mul b_x16 b_x24 (by decide)
        refine Pl.pA_end ?_
        refine Pl.G_any [4, 10] 8 (by kernel_rfl) (by kernel_rfl) (by kernel_rfl) (Pl.AllG_cons ?_ (Pl.AllG_cons ?_ Pl.AllG_nil))
        · have h_x10__324 := Zn.below h_x10__10 (Ext.below hB11 (Ext.below hB12 (Ext.below hB115 (Ext.below hB218 (Ext.below hB321 (Ext.below hB322 (Ext.below hB323 hB324)))))))
          refine Pl.pA_call rfl rfl rfl rfl rfl en14 ?_
          refine Calls.mono (zdiv_D _ _ _ ((a % ((k1 : Nat) : Int)) * (b % ((k1 : Nat) : Int))) ((k1 : Nat) : Int) h_x213 h_x10__324 (Sz.le b_x213 (by decide)) (Sz.le b_x10 (by decide)) hk0 _ _ rfl rfl) ?_
          rintro e w325 ⟨⟨v_x215, v_x216, rfl, h_x215, h_x216⟩, hB325⟩
          have hS325 := Ext.below hS324 hB325
          refine ⟨_, rfl, hS325, ?_⟩
          have b_x215 : Sz (((a % ((k1 : Nat) : Int)) * (b % ((k1 : Nat) : Int))) / ((k1 : Nat) : Int)) 2 := Sz.div b_x213
          have b_x216 : Sz (((a % ((k1 : Nat) : Int)) * (b % ((k1 : Nat) : Int))) % ((k1 : Nat) : Int)) 1 := Sz.mod b_x10 hk0
          refine Pl.pA_end ?_
          refine Pl.G_plan [(true, 5, 543), (true, 6, 575), (true, 7, 639), (true, 8, 767), (false, 10, 1023)] 2047 3 Pl.post_panic (by kernel_rfl) (by kernel_rfl) (by kernel_rfl) ?_
          refine Pl.qA_move hS325 rfl rfl rfl rfl rfl ?_
          refine Pl.qA_extract hS325 rfl rfl rfl rfl rfl rfl ?_
          refine Pl.qA_extract hS325 rfl rfl rfl rfl rfl rfl ?_
          refine Pl.qA_extract hS325 rfl rfl rfl rfl rfl rfl ?_
          refine allocI rfl rfl rfl rfl (fun _ k => Ext.below hS325 k) ?_
          intro N217 w326 hB326 z_N217 i_217
          have hS326 := Ext.below hS325 hB326
          refine Pl.pA_end ?_
          have i_210__326 := Ib.ext i_210 (Ext.below hB324 (Ext.below hB325 hB326))
          have h_x215__326 := Zn.below h_x215 hB326
          have h_x216__326 := Zn.below h_x216 hB326
          exact Pl.G_sub [(1, (.int .u32 k1)), (4, (.bool false)), (5, (.bool true)), (6, .pointer (some ⟨N5, 0, none⟩)), (10, .pointer (some ⟨N18, 0, none⟩)), (11, (.int .i64 0)), (14, (.int .i64 0)), (16, .pointer (some ⟨N16_113, 0, none⟩)), (17, (.int .i64 0)), (19, .pointer (some ⟨N19_216, 0, none⟩)), (20, (.int .i64 0)), (22, .pointer (some ⟨N22_319, 0, none⟩)), (23, (.int .i64 0)), (24, .pointer (some ⟨N210, 0, none⟩)), (25, .pointer (some ⟨N217, 0, none⟩)), (87, v_x215), (88, v_x216), (89, (.int .i64 0))] (Pl.subl_cons rfl (Pl.subl_cons rfl (Pl.subl_cons rfl (Pl.subl_cons rfl (Pl.subl_cons rfl (Pl.subl_cons rfl (Pl.subl_cons rfl (Pl.subl_cons rfl (Pl.subl_cons rfl (Pl.subl_cons rfl (Pl.subl_cons rfl (Pl.subl_cons rfl (Pl.subl_cons rfl (Pl.subl_cons rfl (Pl.subl_cons rfl (Pl.subl_cons rfl (Pl.subl_cons rfl (Pl.subl_cons rfl Pl.subl_nil)))))))))))))))))) (hK _ _ ⟨N210, N217, v_x215, v_x216, rfl, (Ext.below hB322 (Ext.below hB323 (Ext.below hB324 (Ext.below hB325 hB326)))), (Nat.le_trans (Below.size hB322) z_N210), i_210__326, (Nat.le_trans (Below.size (Ext.below hB322 (Ext.below hB323 (Ext.below hB324 hB325)))) z_N217), i_217, h_x215__326, h_x216__326, (Nat.ne_of_lt (Nat.lt_of_lt_of_le (Ib.ext i_210 (Ext.below hB324 hB325)).1 z_N217))⟩)
        · refine allocI rfl rfl rfl rfl (fun _ k => Ext.below hS324 k) ?_
          intro N214 w325 hB325 z_N214 i_214
          have hS325 := Ext.below hS324 hB325
          refine Pl.pA_end ?_
          refine Pl.G_plan [(false, 4, 1551), (true, 5, 1567), (true, 6, 1599), (true, 7, 1663), (true, 8, 1791)] 2047 3 Pl.post_panic (by kernel_rfl) (by kernel_rfl) (by kernel_rfl) ?_
          have h_x213__325 := Zn.below h_x213 hB325
          have h_x10__325 := Zn.below h_x10__10 (Ext.below hB11 (Ext.below hB12 (Ext.below hB115 (Ext.below hB218 (Ext.below hB321 (Ext.below hB322 (Ext.below hB323 (Ext.below hB324 hB325))))))))
          refine Pl.pA_call rfl rfl rfl rfl rfl en14 ?_
          refine Calls.mono (zdiv_D _ _ _ ((a % ((k1 : Nat) : Int)) * (b % ((k1 : Nat) : Int))) ((k1 : Nat) : Int) h_x213__325 h_x10__325 (Sz.le b_x213 (by decide)) (Sz.le b_x10 (by decide)) hk0 _ _ rfl rfl) ?_
          rintro e w326 ⟨⟨v_x217, v_x218, rfl, h_x217, h_x218⟩, hB326⟩
          have hS326 := Ext.below hS325 hB326
          refine ⟨_, rfl, hS326, ?_⟩
          have b_x217 : Sz (((a % ((k1 : Nat) : Int)) * (b % ((k1 : Nat) : Int))) / ((k1 : Nat) : Int)) 2 := Sz.div b_x213
          have b_x218 : Sz (((a % ((k1 : Nat) : Int)) * (b % ((k1 : Nat) : Int))) % ((k1 : Nat) : Int)) 1 := Sz.mod b_x10 hk0
          refine Pl.qA_move hS326 rfl rfl rfl rfl rfl ?_
          refine Pl.qA_extract hS326 rfl rfl rfl rfl rfl rfl ?_
          refine Pl.qA_extract hS326 rfl rfl rfl rfl rfl rfl ?_
          refine Pl.qA_extract hS326 rfl rfl rfl rfl rfl rfl ?_
          refine Pl.pA_end ?_
          have i_210__326 := Ib.ext i_210 (Ext.below hB324 (Ext.below hB325 hB326))
          have i_214__326 := Ib.ext i_214 hB326
          exact Pl.G_sub [(1, (.int .u32 k1)), (4, (.bool false)), (5, (.bool true)), (6, .pointer (some ⟨N5, 0, none⟩)), (10, .pointer (some ⟨N18, 0, none⟩)), (11, (.int .i64 0)), (14, (.int .i64 0)), (16, .pointer (some ⟨N16_113, 0, none⟩)), (17, (.int .i64 0)), (19, .pointer (some ⟨N19_216, 0, none⟩)), (20, (.int .i64 0)), (22, .pointer (some ⟨N22_319, 0, none⟩)), (23, (.int .i64 0)), (24, .pointer (some ⟨N210, 0, none⟩)), (25, .pointer (some ⟨N214, 0, none⟩)), (87, v_x217), (88, v_x218), (89, (.int .i64 0))] (Pl.subl_cons rfl (Pl.subl_cons rfl (Pl.subl_cons rfl (Pl.subl_cons rfl (Pl.subl_cons rfl (Pl.subl_cons rfl (Pl.subl_cons rfl (Pl.subl_cons rfl (Pl.subl_cons rfl (Pl.subl_cons rfl (Pl.subl_cons rfl (Pl.subl_cons rfl (Pl.subl_cons rfl (Pl.subl_cons rfl (Pl.subl_cons rfl (Pl.subl_cons rfl (Pl.subl_cons rfl (Pl.subl_cons rfl Pl.subl_nil)))))))))))))))))) (hK _ _ ⟨N210, N214, v_x217, v_x218, rfl, (Ext.below hB322 (Ext.below hB323 (Ext.below hB324 (Ext.below hB325 hB326)))), (Nat.le_trans (Below.size hB322) z_N210), i_210__326, (Nat.le_trans (Below.size (Ext.below hB322 (Ext.below hB323 hB324))) z_N214), i_214__326, h_x217, h_x218, (Nat.ne_of_lt (Nat.lt_of_lt_of_le (Ib.ext i_210 hB324).1 z_N214))⟩)
      · refine allocI rfl rfl rfl rfl (fun _ k => Ext.below hS323 k) ?_
        intro N211 w324 hB324 z_N211 i_211
        have hS324 := Ext.below hS323 hB324
        refine Pl.pA_end ?_
        refine Pl.G_plan [(false, 2, 1547), (false, 4, 1551), (true, 5, 1567), (true, 6, 1599), (true, 7, 1663), (true, 8, 1791)] 2047 3 Pl.post_panic (by kernel_rfl) (by kernel_rfl) (by kernel_rfl) ?_
        have h_x16__324 := Zn.below h_x16 (Ext.below hB10 (Ext.below hB11 (Ext.below hB12 (Ext.below hB115 (Ext.below hB218 (Ext.below hB321 (Ext.below hB322 (Ext.below hB323 hB324))))))))
        have h_x24__324 := Zn.below h_x24 (Ext.below hB12 (Ext.below hB115 (Ext.below hB218 (Ext.below hB321 (Ext.below hB322 (Ext.below hB323 hB324))))))
        refine Pl.pA_call rfl rfl rfl rfl rfl en33 ?_
        refine Calls.mono (zmul _ _ _ (a % ((k1 : Nat) : Int)) (b % ((k1 : Nat) : Int)) h_x16__324 h_x24__324 (Sz.le b_x16 (by decide)) (Sz.le b_x24 (by decide)) _ rfl) ?_
        rintro e w325 ⟨v_x214, rfl, h_x214, hB325⟩
        have hS325 := Ext.below hS324 hB325
        refine ⟨_, rfl, hS325, ?_⟩
        have b_x214 : Sz ((a % ((k1 : Nat) : Int)) * (b % ((k1 : Nat) : Int))) 2 := Sz.mul b_x16 b_x24 (by decide)
        have h_x10__325 := Zn.below h_x10__10 (Ext.below hB11 (Ext.below hB12 (Ext.below hB115 (Ext.below hB218 (Ext.below hB321 (Ext.below hB322 (Ext.below hB323 (Ext.below hB324 hB325))))))))
        refine Pl.pA_call rfl rfl rfl rfl rfl en14 ?_
        refine Calls.mono (zdiv_D _ _ _ ((a % ((k1 : Nat) : Int)) * (b % ((k1 : Nat) : Int))) ((k1 : Nat) : Int) h_x214 h_x10__325 (Sz.le b_x214 (by decide)) (Sz.le b_x10 (by decide)) hk0 _ _ rfl rfl) ?_
        rintro e w326 ⟨⟨v_x216, v_x217, rfl, h_x216, h_x217⟩, hB326⟩
        have hS326 := Ext.below hS325 hB326
        refine ⟨_, rfl, hS326, ?_⟩
        have b_x216 : Sz (((a % ((k1 : Nat) : Int)) * (b % ((k1 : Nat) : Int))) / ((k1 : Nat) : Int)) 2 := Sz.div b_x214
        have b_x217 : Sz (((a % ((k1 : Nat) : Int)) * (b % ((k1 : Nat) : Int))) % ((k1 : Nat) : Int)) 1 := Sz.mod b_x10 hk0
        refine Pl.qA_move hS326 rfl rfl rfl rfl rfl ?_
        refine Pl.qA_extract hS326 rfl rfl rfl rfl rfl rfl ?_
        refine Pl.qA_extract hS326 rfl rfl rfl rfl rfl rfl ?_
        refine Pl.qA_extract hS326 rfl rfl rfl rfl rfl rfl ?_
        refine Pl.pA_end ?_
        have i_210__326 := Ib.ext i_210 (Ext.below hB324 (Ext.below hB325 hB326))
        have i_211__326 := Ib.ext i_211 (Ext.below hB325 hB326)
        exact Pl.G_sub [(1, (.int .u32 k1)), (4, (.bool false)), (5, (.bool true)), (6, .pointer (some ⟨N5, 0, none⟩)), (10, .pointer (some ⟨N18, 0, none⟩)), (11, (.int .i64 0)), (14, (.int .i64 0)), (16, .pointer (some ⟨N16_113, 0, none⟩)), (17, (.int .i64 0)), (19, .pointer (some ⟨N19_216, 0, none⟩)), (20, (.int .i64 0)), (22, .pointer (some ⟨N22_319, 0, none⟩)), (23, (.int .i64 0)), (24, .pointer (some ⟨N210, 0, none⟩)), (25, .pointer (some ⟨N211, 0, none⟩)), (87, v_x216), (88, v_x217), (89, (.int .i64 0))] (Pl.subl_cons rfl (Pl.subl_cons rfl (Pl.subl_cons rfl (Pl.subl_cons rfl (Pl.subl_cons rfl (Pl.subl_cons rfl (Pl.subl_cons rfl (Pl.subl_cons rfl (Pl.subl_cons rfl (Pl.subl_cons rfl (Pl.subl_cons rfl (Pl.subl_cons rfl (Pl.subl_cons rfl (Pl.subl_cons rfl (Pl.subl_cons rfl (Pl.subl_cons rfl (Pl.subl_cons rfl (Pl.subl_cons rfl Pl.subl_nil)))))))))))))))))) (hK _ _ ⟨N210, N211, v_x216, v_x217, rfl, (Ext.below hB322 (Ext.below hB323 (Ext.below hB324 (Ext.below hB325 hB326)))), (Nat.le_trans (Below.size hB322) z_N210), i_210__326, (Nat.le_trans (Below.size (Ext.below hB322 hB323)) z_N211), i_211__326, h_x216, h_x217, (Nat.ne_of_lt (Nat.lt_of_lt_of_le (i_210).1 z_N211))⟩)
    · refine allocI rfl rfl rfl rfl (fun _ k => Ext.below hS322 k) ?_
      intro N210 w323 hB323 z_N210 i_210
      have hS323 := Ext.below hS322 hB323
      refine Pl.pA_end ?_
      refine Pl.G_any [2, 9] 9 (by kernel_rfl) (by kernel_rfl) (by kernel_rfl) (Pl.AllG_cons ?_ (Pl.AllG_cons ?_ Pl.AllG_nil))
      · have h_x16__323 := Zn.below h_x16 (Ext.below hB10 (Ext.below hB11 (Ext.below hB12 (Ext.below hB115 (Ext.below hB218 (Ext.below hB321 (Ext.below hB322 hB323)))))))
        have h_x24__323 := Zn.below h_x24 (Ext.below hB12 (Ext.below hB115 (Ext.below hB218 (Ext.below hB321 (Ext.below hB322 hB323)))))
        refine Pl.pA_call rfl rfl rfl rfl rfl en33 ?_
        refine Calls.mono (zmul _ _ _ (a % ((k1 : Nat) : Int)) (b % ((k1 : Nat) : Int)) h_x16__323 h_x24__323 (Sz.le b_x16 (by decide)) (Sz.le b_x24 (by decide)) _ rfl) ?_
        rintro e w324 ⟨v_x213, rfl, h_x213, hB324⟩
        have hS324 := Ext.below hS323 hB324
        refine ⟨_, rfl, hS324, ?_⟩
        have b_x213 : Sz ((a % ((k1 : Nat) : Int)) * (b % ((k1 : Nat) : Int))) 2 := Sz.mul b_x16 b_x24 (by decide)
        refine Pl.pA_end ?_
        refine Pl.G_any [4, 9] 8 (by kernel_rfl) (by kernel_rfl) (by kernel_rfl) (Pl.AllG_cons ?_ (Pl.AllG_cons ?_ Pl.AllG_nil))
        · have h_x10__324 := Zn.below h_x10__10 (Ext.below hB11 (Ext.below hB12 (Ext.below hB115 (Ext.below hB218 (Ext.below hB321 (Ext.below hB322 (Ext.below hB323 hB324)))))))
          refine Pl.pA_call rfl rfl rfl rfl rfl en14 ?_
          refine Calls.mono (zdiv_D _ _ _ ((a % ((k1 : Nat) : Int)) * (b % ((k1 : Nat) : Int))) ((k1 : Nat) : Int) h_x213 h_x10__324 (Sz.le b_x213 (by decide)) (Sz.le b_x10 (by decide)) hk0 _ _ rfl rfl) ?_
          rintro e w325 ⟨⟨v_x215, v_x216, rfl, h_x215, h_x216⟩, hB325⟩
          have hS325 := Ext.below hS324 hB325
          refine ⟨_, rfl, hS325, ?_⟩
          have b_x215 : Sz (((a % ((k1 : Nat) : Int)) * (b % ((k1 : Nat) : Int))) / ((k1 : Nat) : Int)) 2 := Sz.div b_x213
          have b_x216 : Sz (((a % ((k1 : Nat) : Int)) * (b % ((k1 : Nat) : Int))) % ((k1 : Nat) : Int)) 1 := Sz.mod b_x10 hk0
          refine Pl.pA_end ?_
          refine Pl.G_plan [(true, 5, 1055), (true, 6, 1087), (true, 7, 1151), (true, 8, 1279), (false, 9, 1535)] 2047 3 Pl.post_panic (by kernel_rfl) (by kernel_rfl) (by kernel_rfl) ?_
          refine Pl.qA_move hS325 rfl rfl rfl rfl rfl ?_
          refine Pl.qA_extract hS325 rfl rfl rfl rfl rfl rfl ?_
          refine Pl.qA_extract hS325 rfl rfl rfl rfl rfl rfl ?_
          refine Pl.qA_extract hS325 rfl rfl rfl rfl rfl rfl ?_
          refine allocI rfl rfl rfl rfl (fun _ k => Ext.below hS325 k) ?_
          intro N217 w326 hB326 z_N217 i_217
          have hS326 := Ext.below hS325 hB326
          refine Pl.pA_end ?_
          have i_210__326 := Ib.ext i_210 (Ext.below hB324 (Ext.below hB325 hB326))
          have h_x215__326 := Zn.below h_x215 hB326
          have h_x216__326 := Zn.below h_x216 hB326
          exact Pl.G_sub [(1, (.int .u32 k1)), (4, (.bool false)), (5, (.bool true)), (6, .pointer (some ⟨N5, 0, none⟩)), (10, .pointer (some ⟨N18, 0, none⟩)), (11, (.int .i64 0)), (14, (.int .i64 0)), (16, .pointer (some ⟨N16_113, 0, none⟩)), (17, (.int .i64 0)), (19, .pointer (some ⟨N19_216, 0, none⟩)), (20, (.int .i64 0)), (22, .pointer (some ⟨N22_319, 0, none⟩)), (23, (.int .i64 0)), (24, .pointer (some ⟨N217, 0, none⟩)), (25, .pointer (some ⟨N210, 0, none⟩)), (87, v_x215), (88, v_x216), (89, (.int .i64 0))] (Pl.subl_cons rfl (Pl.subl_cons rfl (Pl.subl_cons rfl (Pl.subl_cons rfl (Pl.subl_cons rfl (Pl.subl_cons rfl (Pl.subl_cons rfl (Pl.subl_cons rfl (Pl.subl_cons rfl (Pl.subl_cons rfl (Pl.subl_cons rfl (Pl.subl_cons rfl (Pl.subl_cons rfl (Pl.subl_cons rfl (Pl.subl_cons rfl (Pl.subl_cons rfl (Pl.subl_cons rfl (Pl.subl_cons rfl Pl.subl_nil)))))))))))))))))) (hK _ _ ⟨N217, N210, v_x215, v_x216, rfl, (Ext.below hB322 (Ext.below hB323 (Ext.below hB324 (Ext.below hB325 hB326)))), (Nat.le_trans (Below.size (Ext.below hB322 (Ext.below hB323 (Ext.below hB324 hB325)))) z_N217), i_217, (Nat.le_trans (Below.size hB322) z_N210), i_210__326, h_x215__326, h_x216__326, (Nat.ne_of_gt (Nat.lt_of_lt_of_le (Ib.ext i_210 (Ext.below hB324 hB325)).1 z_N217))⟩)
        · refine allocI rfl rfl rfl rfl (fun _ k => Ext.below hS324 k) ?_
          intro N214 w325 hB325 z_N214 i_214
          have hS325 := Ext.below hS324 hB325
          refine Pl.pA_end ?_
          refine Pl.G_plan [(false, 4, 1551), (true, 5, 1567), (true, 6, 1599), (true, 7, 1663), (true, 8, 1791)] 2047 3 Pl.post_panic (by kernel_rfl) (by kernel_rfl) (by kernel_rfl) ?_
          have h_x213__325 := Zn.below h_x213 hB325
          have h_x10__325 := Zn.below h_x10__10 (Ext.below hB11 (Ext.below hB12 (Ext.below hB115 (Ext.below hB218 (Ext.below hB321 (Ext.below hB322 (Ext.below hB323 (Ext.below hB324 hB325))))))))
          refine Pl.pA_call rfl rfl rfl rfl rfl en14 ?_
          refine Calls.mono (zdiv_D _ _ _ ((a % ((k1 : Nat) : Int)) * (b % ((k1 : Nat) : Int))) ((k1 : Nat) : Int) h_x213__325 h_x10__325 (Sz.le b_x213 (by decide)) (Sz.le b_x10 (by decide)) hk0 _ _ rfl rfl) ?_
          rintro e w326 ⟨⟨v_x217, v_x218, rfl, h_x217, h_x218⟩, hB326⟩
          have hS326 := Ext.below hS325 hB326
          refine ⟨_, rfl, hS326, ?_⟩
          have b_x217 : Sz (((a % ((k1 : Nat) : Int)) * (b % ((k1 : Nat) : Int))) / ((k1 : Nat) : Int)) 2 := Sz.div b_x213
          have b_x218 : Sz (((a % ((k1 : Nat) : Int)) * (b % ((k1 : Nat) : Int))) % ((k1 : Nat) : Int)) 1 := Sz.mod b_x10 hk0
          refine Pl.qA_move hS326 rfl rfl rfl rfl rfl ?_
          refine Pl.qA_extract hS326 rfl rfl rfl rfl rfl rfl ?_
          refine Pl.qA_extract hS326 rfl rfl rfl rfl rfl rfl ?_
          refine Pl.qA_extract hS326 rfl rfl rfl rfl rfl rfl ?_
          refine Pl.pA_end ?_
          have i_214__326 := Ib.ext i_214 hB326
          have i_210__326 := Ib.ext i_210 (Ext.below hB324 (Ext.below hB325 hB326))
          exact Pl.G_sub [(1, (.int .u32 k1)), (4, (.bool false)), (5, (.bool true)), (6, .pointer (some ⟨N5, 0, none⟩)), (10, .pointer (some ⟨N18, 0, none⟩)), (11, (.int .i64 0)), (14, (.int .i64 0)), (16, .pointer (some ⟨N16_113, 0, none⟩)), (17, (.int .i64 0)), (19, .pointer (some ⟨N19_216, 0, none⟩)), (20, (.int .i64 0)), (22, .pointer (some ⟨N22_319, 0, none⟩)), (23, (.int .i64 0)), (24, .pointer (some ⟨N214, 0, none⟩)), (25, .pointer (some ⟨N210, 0, none⟩)), (87, v_x217), (88, v_x218), (89, (.int .i64 0))] (Pl.subl_cons rfl (Pl.subl_cons rfl (Pl.subl_cons rfl (Pl.subl_cons rfl (Pl.subl_cons rfl (Pl.subl_cons rfl (Pl.subl_cons rfl (Pl.subl_cons rfl (Pl.subl_cons rfl (Pl.subl_cons rfl (Pl.subl_cons rfl (Pl.subl_cons rfl (Pl.subl_cons rfl (Pl.subl_cons rfl (Pl.subl_cons rfl (Pl.subl_cons rfl (Pl.subl_cons rfl (Pl.subl_cons rfl Pl.subl_nil)))))))))))))))))) (hK _ _ ⟨N214, N210, v_x217, v_x218, rfl, (Ext.below hB322 (Ext.below hB323 (Ext.below hB324 (Ext.below hB325 hB326)))), (Nat.le_trans (Below.size (Ext.below hB322 (Ext.below hB323 hB324))) z_N214), i_214__326, (Nat.le_trans (Below.size hB322) z_N210), i_210__326, h_x217, h_x218, (Nat.ne_of_gt (Nat.lt_of_lt_of_le (Ib.ext i_210 hB324).1 z_N214))⟩)
      · refine allocI rfl rfl rfl rfl (fun _ k => Ext.below hS323 k) ?_
        intro N211 w324 hB324 z_N211 i_211
        have hS324 := Ext.below hS323 hB324
        refine Pl.pA_end ?_
        refine Pl.G_plan [(false, 2, 1547), (false, 4, 1551), (true, 5, 1567), (true, 6, 1599), (true, 7, 1663), (true, 8, 1791)] 2047 3 Pl.post_panic (by kernel_rfl) (by kernel_rfl) (by kernel_rfl) ?_
        have h_x16__324 := Zn.below h_x16 (Ext.below hB10 (Ext.below hB11 (Ext.below hB12 (Ext.below hB115 (Ext.below hB218 (Ext.below hB321 (Ext.below hB322 (Ext.below hB323 hB324))))))))
        have h_x24__324 := Zn.below h_x24 (Ext.below hB12 (Ext.below hB115 (Ext.below hB218 (Ext.below hB321 (Ext.below hB322 (Ext.below hB323 hB324))))))
        refine Pl.pA_call rfl rfl rfl rfl rfl en33 ?_
        refine Calls.mono (zmul _ _ _ (a % ((k1 : Nat) : Int)) (b % ((k1 : Nat) : Int)) h_x16__324 h_x24__324 (Sz.le b_x16 (by decide)) (Sz.le b_x24 (by decide)) _ rfl) ?_
        rintro e w325 ⟨v_x214, rfl, h_x214, hB325⟩
        have hS325 := Ext.below hS324 hB325
        refine ⟨_, rfl, hS325, ?_⟩
        have b_x214 : Sz ((a % ((k1 : Nat) : Int)) * (b % ((k1 : Nat) : Int))) 2 := Sz.mul b_x16 b_x24 (by decide)
        have h_x10__325 := Zn.below h_x10__10 (Ext.below hB11 (Ext.below hB12 (Ext.below hB115 (Ext.below hB218 (Ext.below hB321 (Ext.below hB322 (Ext.below hB323 (Ext.below hB324 hB325))))))))
        refine Pl.pA_call rfl rfl rfl rfl rfl en14 ?_
        refine Calls.mono (zdiv_D _ _ _ ((a % ((k1 : Nat) : Int)) * (b % ((k1 : Nat) : Int))) ((k1 : Nat) : Int) h_x214 h_x10__325 (Sz.le b_x214 (by decide)) (Sz.le b_x10 (by decide)) hk0 _ _ rfl rfl) ?_
        rintro e w326 ⟨⟨v_x216, v_x217, rfl, h_x216, h_x217⟩, hB326⟩
        have hS326 := Ext.below hS325 hB326
        refine ⟨_, rfl, hS326, ?_⟩
        have b_x216 : Sz (((a % ((k1 : Nat) : Int)) * (b % ((k1 : Nat) : Int))) / ((k1 : Nat) : Int)) 2 := Sz.div b_x214
        have b_x217 : Sz (((a % ((k1 : Nat) : Int)) * (b % ((k1 : Nat) : Int))) % ((k1 : Nat) : Int)) 1 := Sz.mod b_x10 hk0
        refine Pl.qA_move hS326 rfl rfl rfl rfl rfl ?_
        refine Pl.qA_extract hS326 rfl rfl rfl rfl rfl rfl ?_
        refine Pl.qA_extract hS326 rfl rfl rfl rfl rfl rfl ?_
        refine Pl.qA_extract hS326 rfl rfl rfl rfl rfl rfl ?_
        refine Pl.pA_end ?_
        have i_211__326 := Ib.ext i_211 (Ext.below hB325 hB326)
        have i_210__326 := Ib.ext i_210 (Ext.below hB324 (Ext.below hB325 hB326))
        exact Pl.G_sub [(1, (.int .u32 k1)), (4, (.bool false)), (5, (.bool true)), (6, .pointer (some ⟨N5, 0, none⟩)), (10, .pointer (some ⟨N18, 0, none⟩)), (11, (.int .i64 0)), (14, (.int .i64 0)), (16, .pointer (some ⟨N16_113, 0, none⟩)), (17, (.int .i64 0)), (19, .pointer (some ⟨N19_216, 0, none⟩)), (20, (.int .i64 0)), (22, .pointer (some ⟨N22_319, 0, none⟩)), (23, (.int .i64 0)), (24, .pointer (some ⟨N211, 0, none⟩)), (25, .pointer (some ⟨N210, 0, none⟩)), (87, v_x216), (88, v_x217), (89, (.int .i64 0))] (Pl.subl_cons rfl (Pl.subl_cons rfl (Pl.subl_cons rfl (Pl.subl_cons rfl (Pl.subl_cons rfl (Pl.subl_cons rfl (Pl.subl_cons rfl (Pl.subl_cons rfl (Pl.subl_cons rfl (Pl.subl_cons rfl (Pl.subl_cons rfl (Pl.subl_cons rfl (Pl.subl_cons rfl (Pl.subl_cons rfl (Pl.subl_cons rfl (Pl.subl_cons rfl (Pl.subl_cons rfl (Pl.subl_cons rfl Pl.subl_nil)))))))))))))))))) (hK _ _ ⟨N211, N210, v_x216, v_x217, rfl, (Ext.below hB322 (Ext.below hB323 (Ext.below hB324 (Ext.below hB325 hB326)))), (Nat.le_trans (Below.size (Ext.below hB322 hB323)) z_N211), i_211__326, (Nat.le_trans (Below.size hB322) z_N210), i_210__326, h_x216, h_x217, (Nat.ne_of_gt (Nat.lt_of_lt_of_le (i_210).1 z_N211))⟩)
  rintro _ w422 ⟨N24_422, N25_422, v_y87_422, v_y88_422, rfl, hB422, z_N24_422, i_N24_422, z_N25_422, i_N25_422, h_y87_422, h_y88_422, ne_N24_422_N25_422⟩
  have hS422 := hB422
  have b_x212 : Sz ((a % ((k1 : Nat) : Int)) * (b % ((k1 : Nat) : Int))) 2 := Sz.mul b_x16 b_x24 (by decide)
  have b_x214 : Sz (((a % ((k1 : Nat) : Int)) * (b % ((k1 : Nat) : Int))) / ((k1 : Nat) : Int)) 2 := Sz.div b_x212
  have b_x215 : Sz (((a % ((k1 : Nat) : Int)) * (b % ((k1 : Nat) : Int))) % ((k1 : Nat) : Int)) 1 := Sz.mod b_x10 hk0
  refine Pl.G_plan [(false, 11, 2047), (false, 12, 4095), (true, 13, 8191)] 16383 0 Pl.post_panic (by kernel_rfl) (by kernel_rfl) (by kernel_rfl) ?_
  obtain ⟨p_y87_422, A_y87_422, L_y87_422, c_y87_422, rfl⟩ := Zn.sh h_y87_422
  refine storeI rfl rfl rfl rfl rfl rfl i_N24_422 (fun _ T => T _ hS422 (Nat.le_trans (Below.size (Ext.refl w321)) z_N24_422)) ?_
  intro w423 T1_423 T2_423 T3_423 I_423
  have hB423 := T1_423 _ hB422 (Nat.le_trans (Below.size (Ext.refl w321)) z_N24_422)
  have hS423 := T1_423 _ hS422 (Nat.le_trans (Below.size (Ext.refl w321)) z_N24_422)
  have i_N25_422__423 := T3_423 _ _ _ (Ne.symm ne_N24_422_N25_422) i_N25_422
  have h_y87_422__423 := T2_423 _ _ h_y87_422
  have h_y88_422__423 := T2_423 _ _ h_y88_422
  obtain ⟨p_y88_422, A_y88_422, L_y88_422, c_y88_422, rfl⟩ := Zn.sh h_y88_422__423
  refine storeI rfl rfl rfl rfl rfl rfl i_N25_422__423 (fun _ T => T _ hS423 (Nat.le_trans (Below.size (Ext.refl w321)) z_N25_422)) ?_
  intro w424 T1_424 T2_424 T3_424 I_424
  have hB424 := T1_424 _ hB423 (Nat.le_trans (Below.size (Ext.refl w321)) z_N25_422)
  have hS424 := T1_424 _ hS423 (Nat.le_trans (Below.size (Ext.refl w321)) z_N25_422)
  have h_y87_422__424 := T2_424 _ _ h_y87_422__423
  have I_423__424 := T3_424 _ _ _ ne_N24_422_N25_422 I_423
  have h_y88_422__424 := T2_424 _ _ h_y88_422__423
  refine Pl.qA_assign hS424 rfl rfl rfl rfl rfl ?_
  refine Pl.pA_end ?_
  refine Pl.G_V (by kernel_rfl) ?_
  refine Pl.V_seq ?_
  refine Pl.V_seq ?_
  refine Pl.V_region (by kernel_rfl) ?_
  refine Pl.qA_move trivial rfl rfl rfl rfl rfl ?_
  refine Pl.qA_bin (v := (.bool false)) trivial rfl rfl rfl rfl rfl rfl (fun X => by go_simp) ?_
  refine Pl.qA_move trivial rfl rfl rfl rfl rfl ?_
  refine Pl.qA_move trivial rfl rfl rfl rfl rfl ?_
  refine Pl.qA_bin (v := (.bool false)) trivial rfl rfl rfl rfl rfl rfl (fun X => by go_simp) ?_
  refine Pl.qA_pick trivial rfl rfl rfl rfl rfl rfl ?_
  refine Pl.qA_move trivial rfl rfl rfl rfl rfl ?_
  refine Pl.qA_move trivial rfl rfl rfl rfl rfl ?_
  refine Pl.qA_bin (v := (.bool false)) trivial rfl rfl rfl rfl rfl rfl (fun X => by go_simp) ?_
  refine Pl.qA_pick trivial rfl rfl rfl rfl rfl rfl ?_
  refine Pl.qA_move trivial rfl rfl rfl rfl rfl ?_
  refine Pl.qA_move trivial rfl rfl rfl rfl rfl ?_
  refine Pl.qA_bin (v := (.bool false)) trivial rfl rfl rfl rfl rfl rfl (fun X => by go_simp) ?_
  refine Pl.qA_pick trivial rfl rfl rfl rfl rfl rfl ?_
  refine Pl.qA_move trivial rfl rfl rfl rfl rfl ?_
  refine Pl.qA_move trivial rfl rfl rfl rfl rfl ?_
  refine Pl.qA_bin (v := (.bool false)) trivial rfl rfl rfl rfl rfl rfl (fun X => by go_simp) ?_
  refine Pl.qA_pick trivial rfl rfl rfl rfl rfl rfl ?_
  refine Pl.qA_move trivial rfl rfl rfl rfl rfl ?_
  refine Pl.qA_move trivial rfl rfl rfl rfl rfl ?_
  refine Pl.qA_bin (v := (.bool false)) trivial rfl rfl rfl rfl rfl rfl (fun X => by go_simp) ?_
  refine Pl.qA_pick trivial rfl rfl rfl rfl rfl rfl ?_
  refine Pl.pA_end ?_
  refine Pl.V_false rfl ?_
  refine Pl.V_skip ?_
  refine Pl.V_seq ?_
  by_cases ha : a < 0
  · refine Pl.V_draw (S := fun X => Ext w424 X) [(true, 0, 0), (true, 1, 1), (true, 2, 3), (true, 3, 7), (false, 4, 15), (true, 5, 31), (true, 6, 63), (true, 7, 127), (true, 8, 255), (false, 9, 511), (true, 10, 1023), (true, 11, 2047), (true, 12, 4095), (true, 13, 8191), (true, 14, 16383), (true, 15, 32767), (true, 16, 65535), (true, 17, 131071), (true, 18, 262143), (false, 19, 524287), (false, 20, 1048575), (false, 21, 2097151), (false, 22, 4194303), (true, 23, 8388607), (true, 24, 16777215), (true, 25, 33554431)] fo Pl.post_panic (by kernel_rfl) (Ext.drew (Ext.refl _)) ?_
    generalize w424.drew = w425
    intro hB425
    have hS425 := hB425
    refine Pl.qA_move hS425 rfl rfl rfl rfl rfl ?_
    refine Pl.qA_move hS425 rfl rfl rfl rfl rfl ?_
    have I_115__424 := Ib.ext I_115 (Ext.below hB218 (Ext.below hB321 hB424))
    refine Pl.qA_load hS425 rfl rfl rfl rfl rfl (fun X hX => Ib.load (Ib.ext I_115__424 hX)) ?_
    have I_321__424 := Ib.ext I_321 hB424
    refine Pl.qA_load hS425 rfl rfl rfl rfl rfl (fun X hX => Ib.load (Ib.ext I_321__424 hX)) ?_
    have h_y61_113__425 := Zn.below h_y61_113__115 (Ext.below hB218 (Ext.below hB321 (Ext.below hB424 hB425)))
    have h_y79_319__425 := Zn.below h_y79_319__321 (Ext.below hB424 hB425)
    refine Pl.pA_call rfl rfl rfl rfl rfl en20 ?_
    refine Calls.mono (rzsame _ _ _ ((a + b) % ((k1 : Nat) : Int)) (((a % ((k1 : Nat) : Int)) + (b % ((k1 : Nat) : Int))) % ((k1 : Nat) : Int)) h_y61_113__425 h_y79_319__425 (Sz.le b_x32 (by decide)) (Sz.le b_x154 (by decide)) true (decide_eq_true (Int.add_emod a b _))) ?_
    rintro e w426 ⟨rfl, hB426⟩
    have hS426 := Ext.below hS425 hB426
    refine ⟨_, rfl, hS426, ?_⟩
    refine Pl.qA_pick hS426 rfl rfl rfl rfl rfl rfl ?_
    refine Pl.qA_move hS426 rfl rfl rfl rfl rfl ?_
    have I_218__424 := Ib.ext I_218 (Ext.below hB321 hB424)
    refine Pl.qA_load hS426 rfl rfl rfl rfl rfl (fun X hX => Ib.load (Ib.ext I_218__424 hX)) ?_
    refine Pl.qA_load hS426 rfl rfl rfl rfl rfl (fun X hX => Ib.load (Ib.ext I_424 hX)) ?_
    have h_y70_216__426 := Zn.below h_y70_216__218 (Ext.below hB321 (Ext.below hB424 (Ext.below hB425 hB426)))
    have h_y88_422__426 := Zn.below h_y88_422__424 (Ext.below hB425 hB426)
    refine Pl.pA_call rfl rfl rfl rfl rfl en20 ?_
    refine Calls.mono (rzsame _ _ _ ((a * b) % ((k1 : Nat) : Int)) (((a % ((k1 : Nat) : Int)) * (b % ((k1 : Nat) : Int))) % ((k1 : Nat) : Int)) h_y70_216__426 h_y88_422__426 (Sz.le b_x93 (by decide)) (Sz.le b_x215 (by decide)) true (decide_eq_true (Int.mul_emod a b _))) ?_
    rintro e w427 ⟨rfl, hB427⟩
    have hS427 := Ext.below hS426 hB427
    refine ⟨_, rfl, hS427, ?_⟩
    refine Pl.qA_pick hS427 rfl rfl rfl rfl rfl rfl ?_
    refine Pl.qA_move hS427 rfl rfl rfl rfl rfl ?_
    refine qA_field hS427 rfl rfl rfl rfl rfl (fa_neg _) ?_
    have i_5__424 := Ib.ext i_5__8 (Ext.below hB9 (Ext.below hB10 (Ext.below hB11 (Ext.below hB12 (Ext.below hB115 (Ext.below hB218 (Ext.below hB321 hB424)))))))
    refine Pl.qA_load hS427 rfl rfl rfl rfl rfl (fun X hX => Ib.neg (Ib.ext i_5__424 hX)) ?_
    obtain rfl : p_x4 = true := (Zn.negv h_x4__8).trans (decide_eq_true ha)
    refine Pl.qA_move hS427 rfl rfl rfl rfl rfl ?_
    refine Pl.pA_skip rfl rfl rfl ?_
    refine Pl.pA_skip rfl rfl rfl ?_
    refine Pl.pA_skip rfl rfl rfl ?_
    refine Pl.pA_skip rfl rfl rfl ?_
    refine Pl.pA_skip rfl rfl rfl ?_
    refine Pl.pA_skip rfl rfl rfl ?_
    refine Pl.pA_skip rfl rfl rfl ?_
    refine Pl.pA_skip rfl rfl rfl ?_
    refine Pl.qA_pick hS427 rfl rfl rfl rfl rfl rfl ?_
    refine Pl.qA_pick hS427 rfl rfl rfl rfl rfl rfl ?_
    refine Pl.qA_assign hS427 rfl rfl rfl rfl rfl ?_
    refine Pl.pA_end ?_
    refine Pl.post_ret rfl rfl ?_
    exact ⟨rfl, (Ext.below hB1 (Ext.below hB2 (Ext.below hB3 (Ext.below hB4 (Ext.below hB5 (Ext.below hB6 (Ext.below hB7 (Ext.below hB8 (Ext.below hB9 (Ext.below hB10 (Ext.below hB11 (Ext.below hB12 (Ext.below hB115 (Ext.below hB218 (Ext.below hB321 (Ext.below hB424 (Ext.below hB425 (Ext.below hB426 hB427))))))))))))))))))⟩
  · refine Pl.V_draw (S := fun X => Ext w424 X) [(true, 0, 0), (true, 1, 1), (true, 2, 3), (true, 3, 7), (false, 4, 15), (true, 5, 31), (true, 6, 63), (true, 7, 127), (true, 8, 255), (false, 9, 511), (true, 10, 1023), (true, 11, 2047), (true, 12, 4095), (true, 13, 8191), (true, 14, 16383), (true, 15, 32767), (true, 16, 65535), (true, 17, 131071), (true, 18, 262143), (false, 19, 524287), (false, 20, 1048575), (false, 21, 2097151), (false, 22, 4194303), (true, 23, 8388607), (true, 24, 16777215), (true, 25, 33554431)] fo Pl.post_panic (by kernel_rfl) (Ext.drew (Ext.refl _)) ?_
    generalize w424.drew = w425
    intro hB425
    have hS425 := hB425
    refine Pl.qA_move hS425 rfl rfl rfl rfl rfl ?_
    refine Pl.qA_move hS425 rfl rfl rfl rfl rfl ?_
    have I_115__424 := Ib.ext I_115 (Ext.below hB218 (Ext.below hB321 hB424))
    refine Pl.qA_load hS425 rfl rfl rfl rfl rfl (fun X hX => Ib.load (Ib.ext I_115__424 hX)) ?_
    have I_321__424 := Ib.ext I_321 hB424
    refine Pl.qA_load hS425 rfl rfl rfl rfl rfl (fun X hX => Ib.load (Ib.ext I_321__424 hX)) ?_
    have h_y61_113__425 := Zn.below h_y61_113__115 (Ext.below hB218 (Ext.below hB321 (Ext.below hB424 hB425)))
    have h_y79_319__425 := Zn.below h_y79_319__321 (Ext.below hB424 hB425)
    refine Pl.pA_call rfl rfl rfl rfl rfl en20 ?_
    refine Calls.mono (rzsame _ _ _ ((a + b) % ((k1 : Nat) : Int)) (((a % ((k1 : Nat) : Int)) + (b % ((k1 : Nat) : Int))) % ((k1 : Nat) : Int)) h_y61_113__425 h_y79_319__425 (Sz.le b_x32 (by decide)) (Sz.le b_x154 (by decide)) true (decide_eq_true (Int.add_emod a b _))) ?_
    rintro e w426 ⟨rfl, hB426⟩
    have hS426 := Ext.below hS425 hB426
    refine ⟨_, rfl, hS426, ?_⟩
    refine Pl.qA_pick hS426 rfl rfl rfl rfl rfl rfl ?_
    refine Pl.qA_move hS426 rfl rfl rfl rfl rfl ?_
    have I_218__424 := Ib.ext I_218 (Ext.below hB321 hB424)
    refine Pl.qA_load hS426 rfl rfl rfl rfl rfl (fun X hX => Ib.load (Ib.ext I_218__424 hX)) ?_
    refine Pl.qA_load hS426 rfl rfl rfl rfl rfl (fun X hX => Ib.load (Ib.ext I_424 hX)) ?_
    have h_y70_216__426 := Zn.below h_y70_216__218 (Ext.below hB321 (Ext.below hB424 (Ext.below hB425 hB426)))
    have h_y88_422__426 := Zn.below h_y88_422__424 (Ext.below hB425 hB426)
    refine Pl.pA_call rfl rfl rfl rfl rfl en20 ?_
    refine Calls.mono (rzsame _ _ _ ((a * b) % ((k1 : Nat) : Int)) (((a % ((k1 : Nat) : Int)) * (b % ((k1 : Nat) : Int))) % ((k1 : Nat) : Int)) h_y70_216__426 h_y88_422__426 (Sz.le b_x93 (by decide)) (Sz.le b_x215 (by decide)) true (decide_eq_true (Int.mul_emod a b _))) ?_
    rintro e w427 ⟨rfl, hB427⟩
    have hS427 := Ext.below hS426 hB427
    refine ⟨_, rfl, hS427, ?_⟩
    refine Pl.qA_pick hS427 rfl rfl rfl rfl rfl rfl ?_
    refine Pl.qA_move hS427 rfl rfl rfl rfl rfl ?_
    refine qA_field hS427 rfl rfl rfl rfl rfl (fa_neg _) ?_
    have i_5__424 := Ib.ext i_5__8 (Ext.below hB9 (Ext.below hB10 (Ext.below hB11 (Ext.below hB12 (Ext.below hB115 (Ext.below hB218 (Ext.below hB321 hB424)))))))
    refine Pl.qA_load hS427 rfl rfl rfl rfl rfl (fun X hX => Ib.neg (Ib.ext i_5__424 hX)) ?_
    obtain rfl : p_x4 = false := (Zn.negv h_x4__8).trans (decide_eq_false ha)
    refine Pl.qA_move hS427 rfl rfl rfl rfl rfl ?_
    have i_18__424 := Ib.ext i_18 (Ext.below hB11 (Ext.below hB12 (Ext.below hB115 (Ext.below hB218 (Ext.below hB321 hB424)))))
    refine Pl.qA_load hS427 rfl rfl rfl rfl rfl (fun X hX => Ib.load (Ib.ext i_18__424 hX)) ?_
    refine qA_field hS427 rfl rfl rfl rfl rfl (fa_mag _) ?_
    refine Pl.qA_load hS427 rfl rfl rfl rfl rfl (fun X hX => Ib.mag (Ib.ext i_5__424 hX)) ?_
    have h_x4__427 := Zn.below h_x4__8 (Ext.below hB9 (Ext.below hB10 (Ext.below hB11 (Ext.below hB12 (Ext.below hB115 (Ext.below hB218 (Ext.below hB321 (Ext.below hB424 (Ext.below hB425 (Ext.below hB426 hB427))))))))))
    have mg_x4_275 := Zn.mag h_x4__427
    refine Pl.qA_move hS427 rfl rfl rfl rfl rfl ?_
    refine Pl.pA_call rfl rfl rfl rfl rfl en49 ?_
    refine Calls.mono (rest_B _ _ a.natAbs k1 _ mg_x4_275 (by omega) hk1 (Nat.le_trans b_a (by decide)) rfl) ?_
    rintro e w428 ⟨rfl, hB428⟩
    have hS428 := Ext.below hS427 hB428
    refine ⟨_, rfl, hS428, ?_⟩
    refine buildS1 (Nat.lt_trans (Nat.mod_lt _ (by omega)) hk1) rfl rfl rfl rfl rfl (fun _ k => Ext.below hS428 k) ?_
    intro A277 w429 hB429 us_277
    have hS429 := Ext.below hS428 hB429
    refine Pl.pA_call rfl rfl rfl rfl rfl en22 ?_
    refine Calls.mono (rzmake _ false _ [a.natAbs % k1] us_277 (Nat.le_trans (Nat.le_refl 1) (by decide)) _ rfl _ rfl) ?_
    rintro e w430 ⟨v_x278, rfl, h_x278, hB430⟩
    have hS430 := Ext.below hS429 hB430
    refine ⟨_, rfl, hS430, ?_⟩
    have b_x278 : Sz (sg false (val [a.natAbs % k1])) 1 := Sz.mag us_277 false 1 (Nat.le_refl 1)
    have h_x16__430 := Zn.below h_x16 (Ext.below hB10 (Ext.below hB11 (Ext.below hB12 (Ext.below hB115 (Ext.below hB218 (Ext.below hB321 (Ext.below hB424 (Ext.below hB425 (Ext.below hB426 (Ext.below hB427 (Ext.below hB428 (Ext.below hB429 hB430))))))))))))
    refine Pl.pA_call rfl rfl rfl rfl rfl en20 ?_
    refine Calls.mono (rzsame _ _ _ (a % ((k1 : Nat) : Int)) (sg false (val [a.natAbs % k1])) h_x16__430 h_x278 (Sz.le b_x16 (by decide)) (Sz.le b_x278 (by decide)) true (decide_eq_true (rest_val a k1 ha))) ?_
    rintro e w431 ⟨rfl, hB431⟩
    have hS431 := Ext.below hS430 hB431
    refine ⟨_, rfl, hS431, ?_⟩
    refine Pl.qA_pick hS431 rfl rfl rfl rfl rfl rfl ?_
    refine Pl.qA_pick hS431 rfl rfl rfl rfl rfl rfl ?_
    refine Pl.qA_assign hS431 rfl rfl rfl rfl rfl ?_
    refine Pl.pA_end ?_
    refine Pl.post_ret rfl rfl ?_
    exact ⟨rfl, (Ext.below hB1 (Ext.below hB2 (Ext.below hB3 (Ext.below hB4 (Ext.below hB5 (Ext.below hB6 (Ext.below hB7 (Ext.below hB8 (Ext.below hB9 (Ext.below hB10 (Ext.below hB11 (Ext.below hB12 (Ext.below hB115 (Ext.below hB218 (Ext.below hB321 (Ext.below hB424 (Ext.below hB425 (Ext.below hB426 (Ext.below hB427 (Ext.below hB428 (Ext.below hB429 (Ext.below hB430 hB431))))))))))))))))))))))⟩
theorem IntegerRests_walk (w : World) (sa : Bool) (Aa : Option Addr) (ca : Nat) (xsa : List Nat) (ua : U w (.slice Aa xsa.length ca) xsa) (sb : Bool) (Ab : Option Addr) (cb : Nat) (xsb : List Nat) (ub : U w (.slice Ab xsb.length cb) xsb) (k1 : Nat) (hk1 : k1 < 4294967296) :
    Calls Tryz.prog 11 #[.agg #[.bool sa, .slice Aa xsa.length ca, .bool sb, .slice Ab xsb.length cb], .int .u32 (k1 : Nat)] w fun e w' => e = .returned (.bool true) ∧ Ext w w' := by
  by_cases hz : k1 = 0
  · exact IntegerRests_walkZ w sa Aa ca xsa ua sb Ab cb xsb ub k1 hk1 hz
  · exact IntegerRests_walkA w sa Aa ca xsa ua sb Ab cb xsb ub k1 hk1 hz
end Go.Proofs.YtfkcdmbiihkiiaaGreatDoor
/- Proved: what the statement IntegerRests does: rests by one limb add and multiply as their numbers do: it tells true. No condition. -/
namespace Go.Proofs.YtfkcdmbiihkiiaaGreatDoor
open Go.ChangeShapes Go.WideShapes Go.ChangeAt Go.RowKit
set_option linter.unusedVariables false
set_option maxHeartbeats 2000000

set_option maxRecDepth 100000 in
theorem lifted_IntegerRests (os : Os) (started : os.Started) (H : Type) (enc : TypeId × Value → H) :
    ReturnsInHanded {} Tryz.checked os 11 .any (fun w args => (Rows.integerRestsSpec.pre enc Tryz.prog Tryz.f11 [] false w args ∧ laidMetH Tryz.prog laidV w) ∧ sizedMet enc Tryz.prog Tryz.f11 (OpenSpec.ofChange Rows.integerRestsSpec) false w args)
      (Rows.integerRestsSpec.post enc Tryz.prog Tryz.f11 false true false false) := by
  refine returnsInHanded_of_change_and (C := Tryz.checked) (X := fun w _ => laidMetH Tryz.prog laidV w) (fun _ _ _ hh h => h.of_heap hh) own started (by kernel_rfl) Tryz.func11
    (ChangeSpec.witness_shaped (enc := enc) (C := Tryz.checked) (os := os) (X := fun w _ => laidMetH Tryz.prog laidV w) false (World.laidAll Tryz.prog os laidV) #[.agg #[.bool false, .slice none 0 0, .bool false, .slice none 0 0], .int .u32 0] 8 (World.laidAll_os _ _ _) (World.shaped_of_ZipB (by kernel_rfl) (by kernel_rfl)) (by kernel_rfl) (by kernel_rfl) (by kernel_rfl) (laid_met os _)) ?_
  intro W base args ds gs before hval0 hW _ _ hL _
  have hval : ∀ (j : Nat) t v, Tryz.f11.params[j]? = some t → args[j]? = some v → Value.okWide Tryz.prog W .any base t v := hval0
  have hW' := hW
  obtain ⟨p, q, hA0, hV, rfl, hfz, hnd⟩ := hW
  have hlt : ∀ x ∈ p ++ q, x.block < W.heap.size := fun x hx => hW'.lt x hx
  have hA : DataW.TrodAll enc Tryz.prog W 0 (fun _ => true) true Tryz.f11.params.toList args.toList ds p := hA0
  rw [Tryz.params11] at hA hval
  clear hA0 hval0
  obtain ⟨v0, vs0, d0, ds0, p0, q0, hargs0, rfl, rfl, h0, r0⟩ := trodAll_cons hA
  obtain ⟨v1, vs1, d1, ds1, p1, q1, hargs1, rfl, rfl, h1, r1⟩ := trodAll_cons r0
  obtain ⟨hn1, rfl, rfl⟩ := trodAll_nil r1
  subst hn1
  subst hargs1
  obtain rfl : args = #[v0, v1] := by cases args; simp_all
  obtain ⟨rfl, rfl⟩ := trodVars_none hV
  obtain ⟨s0a, s0b, A0a, A0b, c0a, c0b, x0a, x0b, hv0, u0a, u0b⟩ := open_I2 (hval 0 55 v0 rfl rfl) h0
  subst hv0
  obtain ⟨z1, rfl, rfl, rfl, hz1⟩ := open_int Tryz.underlying56 (hval 1 56 v1 rfl rfl) h1
  have hb1 := bounds_u32 hz1
  obtain ⟨n1, rfl⟩ := Int.eq_ofNat_of_zero_le (show 0 ≤ z1 by omega)
  refine (IntegerRests_walk W s0a A0a c0a x0a u0a s0b A0b c0b x0b u0b n1 (by omega)).mono fun e W' ⟨he, hB⟩ => ?_
  subst he
  exact ⟨_, rfl, law_post hW' rfl (by rw [Tryz.params11]; decide +kernel) rfl rfl rfl rfl hB⟩

theorem integerRests_said : Rows.IntegerRestsSaid :=
  OpenClaim.holds_of_wide 11 Tryz.f11 rfl rfl rfl rfl rfl rfl rfl ⟨rfl, rfl, rfl, rfl, rfl⟩ rfl rfl rfl rfl rfl (by kernel_rfl) Tryz.func11 (by kernel_rfl)
    (of_decide_eq_true (by kernel_rfl)) (by unfold Func.isWrapper; first | (rw [if_pos (by decide +kernel)]; kernel_rfl) | (rw [if_neg (by decide +kernel)]; exact ⟨rfl, rfl⟩))
    (fun os started H enc _ => lifted_IntegerRests os started H enc)
/-- The statement: the card, tied. -/
theorem integerRests_holds : Rows.IntegerRestsCardSaid :=
  Claim7.holds_tied_plain_at .later [] [.data, .wider, .pinned] true Rows.integerRestsCard.stood.harness false
    integerRests_said (fun _ h => by cases h) (by kernel_rfl) (fun _ h => by cases h) integerRests_row_tie rfl ⟨rfl, rfl⟩ (by kernel_rfl) rfl
    (fun f fn hf hfn => by
      obtain rfl : f = 11 := Option.some.inj ((show Tryz.prog.funcNamed "ziggurat/zigguratlaw06.IntegerRests" = some 11 by kernel_rfl).symm.trans hf) |>.symm
      obtain rfl : fn = Tryz.f11 := (Option.some.inj (Tryz.func11.symm.trans hfn)).symm
      exact ⟨by kernel_rfl, fun j t ht => by
        rw [Tryz.params11] at ht
        have hm : t ∈ [55, 56] := by simpa using Array.mem_of_getElem? ht
        have hall : ([55, 56].all fun u => !Tryz.prog.wantsStandIn u) = true := by kernel_rfl
        exact (show Tryz.prog.wantsStandIn t = false by simpa using List.all_eq_true.1 hall t hm)⟩)
    (by kernel_rfl)
end Go.Proofs.YtfkcdmbiihkiiaaGreatDoor
