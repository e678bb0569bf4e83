/- Proved: what the statement IntegerTells does: whether any number is right, and how two right ones stand to each other, their sum, difference, product, quotient and rest, are the document's: it tells true. No condition. -/
import Derived.Test.YtfkcdmbiihkiiaaGreatDoorBbe
import Derived.Test.YtfkcdmbiihkiiaaGreatDoorBaj
import Derived.Test.YtfkcdmbiihkiiaaGreatDoorBaw
import Derived.Test.YtfkcdmbiihkiiaaGreatDoorBbk
import Derived.Test.YtfkcdmbiihkiiaaGreatDoorBbi
import Derived.Test.YtfkcdmbiihkiiaaGreatDoorBak
import Derived.Test.YtfkcdmbiihkiiaaGreatDoorBbd
import Derived.Test.YtfkcdmbiihkiiaaGreatDoorBbj
import Derived.Test.YtfkcdmbiihkiiaaGreatDoorBbf
import Derived.Test.YtfkcdmbiihkiiaaGreatDoorBbh
import Derived.Test.YtfkcdmbiihkiiaaGreatDoorBbm
import Derived.Test.YtfkcdmbiihkiiaaGreatDoorBbl
import Derived.Deep.RegionHeld3

namespace Go.Proofs.YtfkcdmbiihkiiaaGreatDoor
open Go.RowKit
set_option linter.unusedVariables false
set_option maxHeartbeats 400000

set_option maxRecDepth 100000 in
set_option maxHeartbeats 8000000 in
theorem zsub (w : World) (va vb : Value) (a b : Int) (ha : Zn w va a) (hb : Zn w vb b) (hl : (limbs a.natAbs).length ≤ 1000000) (hl2 : (limbs b.natAbs).length ≤ 1000000) (y : Int) (hy : a - b = y) :
    Calls Tryz.prog 31 #[va, vb] w fun e w' => ∃ u, e = .returned u ∧ Zn w' u y ∧ Ext w w' := by
  have hN := Lib.hid (fun W h => zneg W vb b h (-b) rfl)
  have hA := Lib.hid (fun W u h (g : Zn W u (-b)) => zadd W va u a (-b) h g hl (by rw [Int.natAbs_neg]; exact hl2) y (by rw [← Int.sub_eq_add_neg]; exact hy))
  have ha' := ha
  have hb' := hb
  obtain ⟨p, A, L, c, n, rfl, hu, hL, hz, -, hza, hzn⟩ := ha.open
  obtain ⟨q, B, K, d, m, rfl, hv, hK, hz2, -, hza2, hzn2⟩ := hb.open
  have hE0 := ((((Ext.refl w).alloc (.cells #[.bool p, .slice A L c] 24)).alloc (.cells #[.bool q, .slice B K d] 24)).alloc (.cells #[.bool false, .slice none 0 0] 24)).drew
  have hI0 := (Ib.new3 w (.cells #[.bool p, .slice A L c] 24) (.cells #[.bool q, .slice B K d] 24) false (.slice none 0 0) 24).ext (Ext.refl _).drew
  have hP0 := (Ib.new w p (.slice A L c) 24).ext ((((Ext.refl _).alloc (.cells #[.bool q, .slice B K d] 24)).alloc (.cells #[.bool false, .slice none 0 0] 24)).drew)
  have hQ0 := (Ib.new2 w (.cells #[.bool p, .slice A L c] 24) q (.slice B K d) 24).ext (((Ext.refl _).alloc (.cells #[.bool false, .slice none 0 0] 24)).drew)
  have hS0 : (w.heap.size + 1 + 1 < (((w.alloc (.cells #[.bool p, .slice A L c] 24)).alloc (.cells #[.bool q, .slice B K d] 24)).alloc (.cells #[.bool false, .slice none 0 0] 24)).drew.heap.size ∧ (((w.alloc (.cells #[.bool p, .slice A L c] 24)).alloc (.cells #[.bool q, .slice B K d] 24)).alloc (.cells #[.bool false, .slice none 0 0] 24)).drew.cell? ⟨w.heap.size, 0, none⟩ = some (.bool p) ∧ (((w.alloc (.cells #[.bool p, .slice A L c] 24)).alloc (.cells #[.bool q, .slice B K d] 24)).alloc (.cells #[.bool false, .slice none 0 0] 24)).drew.cell? ⟨w.heap.size, 1, none⟩ = some (.slice A L c) ∧ (((w.alloc (.cells #[.bool p, .slice A L c] 24)).alloc (.cells #[.bool q, .slice B K d] 24)).alloc (.cells #[.bool false, .slice none 0 0] 24)).drew.cell? ⟨w.heap.size + 1, 0, none⟩ = some (.bool q) ∧ (((w.alloc (.cells #[.bool p, .slice A L c] 24)).alloc (.cells #[.bool q, .slice B K d] 24)).alloc (.cells #[.bool false, .slice none 0 0] 24)).drew.cell? ⟨w.heap.size + 1, 1, none⟩ = some (.slice B K d)) ∧ Ext w (((w.alloc (.cells #[.bool p, .slice A L c] 24)).alloc (.cells #[.bool q, .slice B K d] 24)).alloc (.cells #[.bool false, .slice none 0 0] 24)).drew := ⟨⟨by simp, hP0.2.1, hP0.2.2.1, hQ0.2.1, hQ0.2.2.1⟩, hE0⟩
  have ha0 := ha'.below hE0
  have hb0 := hb'.below hE0
  clear hl hl2 hza hzn hza2 hzn2 hz hz2 hL hK ha hb hy hP0 hQ0 ha' hb'
  go_enter Tryz.func31, Tryz.ntmps31
  go_wp2
  go_region_held3 (fun X => (w.heap.size + 1 + 1 < X.heap.size ∧ X.cell? ⟨w.heap.size, 0, none⟩ = some (.bool p) ∧ X.cell? ⟨w.heap.size, 1, none⟩ = some (.slice A L c) ∧ X.cell? ⟨w.heap.size + 1, 0, none⟩ = some (.bool q) ∧ X.cell? ⟨w.heap.size + 1, 1, none⟩ = some (.slice B K d)) ∧ Ext w X)
    (first
      | exact hS0
      | exact keepI2 (by assumption) (by assumption)
      | exact keepS2 (by assumption))
    (first
      | (go_at_call 27; ((with_reducible refine (hN.out _ hb0).mono ?_); rintro e w2 ⟨u, rfl, hz2, hE2⟩; obtain ⟨b2, A2, L2, c2, rfl⟩ := hz2.sh))
      | (go_at_call 29; ((with_reducible refine (hA.out _ _ (ha0.below hE2) hz2).mono ?_); rintro e w3 ⟨u, rfl, hz3, hE3⟩; obtain ⟨b3, A3, L3, c3, rfl⟩ := hz3.sh; have hI3 := (hI0.ext hE2).ext hE3; obtain ⟨i0, i1, i2, i3, i4⟩ := id hI3)))
  clear hN hA
  clear hI3
  go_wp2
  (try simp only [Exit.inBlock, Exit.then])
  refine bodyPost_ret (v := .agg #[.bool b3, .slice A3 L3 c3]) (show (results _ _).run _ _ = _ from ?_) rfl ⟨_, rfl, hz3.put2 ((hI0.ext hE2).ext hE3) (slice_no_int _ _ _) _ _, ((hE0.below hE2).below hE3).put2 (by omega) _ _⟩
  simp only [results]
  go_simp
end Go.Proofs.YtfkcdmbiihkiiaaGreatDoor
/- Proved: what the statement IntegerTells does: whether any number is right, and how two right ones stand to each other, their sum, difference, product, quotient and rest, are the document's: it tells true. No condition. -/
namespace Go.Proofs.YtfkcdmbiihkiiaaGreatDoor
open Go.RowKit
set_option linter.unusedVariables false
set_option linter.unusedSimpArgs false
set_option maxHeartbeats 400000

namespace Tells6
theorem en12 (u : Array Value) (X : World) : (callFunc 12 u).run Tryz.prog X = .ok (.enter 12 u) X := Pl.enters Tryz.func12 (by kernel_rfl) rfl u X
theorem en13 (u : Array Value) (X : World) : (callFunc 13 u).run Tryz.prog X = .ok (.enter 13 u) X := Pl.enters Tryz.func13 (by kernel_rfl) rfl u X
theorem en14 (u : Array Value) (X : World) : (callFunc 14 u).run Tryz.prog X = .ok (.enter 14 u) X := Pl.enters Tryz.func14 (by kernel_rfl) rfl u X
theorem en15 (u : Array Value) (X : World) : (callFunc 15 u).run Tryz.prog X = .ok (.enter 15 u) X := Pl.enters Tryz.func15 (by kernel_rfl) rfl u X
theorem en16 (u : Array Value) (X : World) : (callFunc 16 u).run Tryz.prog X = .ok (.enter 16 u) X := Pl.enters Tryz.func16 (by kernel_rfl) rfl u X
theorem en17 (u : Array Value) (X : World) : (callFunc 17 u).run Tryz.prog X = .ok (.enter 17 u) X := Pl.enters Tryz.func17 (by kernel_rfl) rfl u X
theorem en18 (u : Array Value) (X : World) : (callFunc 18 u).run Tryz.prog X = .ok (.enter 18 u) X := Pl.enters Tryz.func18 (by kernel_rfl) rfl u X
theorem en19 (u : Array Value) (X : World) : (callFunc 19 u).run Tryz.prog X = .ok (.enter 19 u) X := Pl.enters Tryz.func19 (by kernel_rfl) rfl u X
theorem en20 (u : Array Value) (X : World) : (callFunc 20 u).run Tryz.prog X = .ok (.enter 20 u) X := Pl.enters Tryz.func20 (by kernel_rfl) rfl u X
theorem en21 (u : Array Value) (X : World) : (callFunc 21 u).run Tryz.prog X = .ok (.enter 21 u) X := Pl.enters Tryz.func21 (by kernel_rfl) rfl u X
theorem en22 (u : Array Value) (X : World) : (callFunc 22 u).run Tryz.prog X = .ok (.enter 22 u) X := Pl.enters Tryz.func22 (by kernel_rfl) rfl u X
theorem en23 (u : Array Value) (X : World) : (callFunc 23 u).run Tryz.prog X = .ok (.enter 23 u) X := Pl.enters Tryz.func23 (by kernel_rfl) rfl u X
theorem en24 (u : Array Value) (X : World) : (callFunc 24 u).run Tryz.prog X = .ok (.enter 24 u) X := Pl.enters Tryz.func24 (by kernel_rfl) rfl u X
theorem en25 (u : Array Value) (X : World) : (callFunc 25 u).run Tryz.prog X = .ok (.enter 25 u) X := Pl.enters Tryz.func25 (by kernel_rfl) rfl u X
theorem en26 (u : Array Value) (X : World) : (callFunc 26 u).run Tryz.prog X = .ok (.enter 26 u) X := Pl.enters Tryz.func26 (by kernel_rfl) rfl u X
theorem en27 (u : Array Value) (X : World) : (callFunc 27 u).run Tryz.prog X = .ok (.enter 27 u) X := Pl.enters Tryz.func27 (by kernel_rfl) rfl u X
theorem en28 (u : Array Value) (X : World) : (callFunc 28 u).run Tryz.prog X = .ok (.enter 28 u) X := Pl.enters Tryz.func28 (by kernel_rfl) rfl u X
theorem en29 (u : Array Value) (X : World) : (callFunc 29 u).run Tryz.prog X = .ok (.enter 29 u) X := Pl.enters Tryz.func29 (by kernel_rfl) rfl u X
theorem en30 (u : Array Value) (X : World) : (callFunc 30 u).run Tryz.prog X = .ok (.enter 30 u) X := Pl.enters Tryz.func30 (by kernel_rfl) rfl u X
theorem en31 (u : Array Value) (X : World) : (callFunc 31 u).run Tryz.prog X = .ok (.enter 31 u) X := Pl.enters Tryz.func31 (by kernel_rfl) rfl u X
theorem en32 (u : Array Value) (X : World) : (callFunc 32 u).run Tryz.prog X = .ok (.enter 32 u) X := Pl.enters Tryz.func32 (by kernel_rfl) rfl u X
theorem en33 (u : Array Value) (X : World) : (callFunc 33 u).run Tryz.prog X = .ok (.enter 33 u) X := Pl.enters Tryz.func33 (by kernel_rfl) rfl u X
theorem en34 (u : Array Value) (X : World) : (callFunc 34 u).run Tryz.prog X = .ok (.enter 34 u) X := Pl.enters Tryz.func34 (by kernel_rfl) rfl u X
end Tells6
open Tells6
set_option maxRecDepth 100000 in
set_option maxHeartbeats 4000000 in
theorem IntegerTells_walkL (w : World) (sa : Bool) (Aa : Option Addr) (ca : Nat) (xsa : List Nat) (ua : U w (.slice Aa xsa.length ca) xsa) (sb : Bool) (Ab : Option Addr) (cb : Nat) (xsb : List Nat) (ub : U w (.slice Ab xsb.length cb) xsb) (t2 : Bool) (hx : (200 : Int) < (xsa.length : Nat)) :
    Calls Tryz.prog 3 #[.agg #[.bool sa, .slice Aa xsa.length ca], .agg #[.bool sb, .slice Ab xsb.length cb], .bool t2] w fun e w' => e = .returned (.bool true) ∧ Ext w w' := by
  have r_a : Ri w (.agg #[.bool sa, .slice Aa xsa.length ca]) sa xsa := ⟨_, _, rfl, ua⟩
  obtain ⟨a, e_a⟩ : ∃ z, sg sa (cutN xsa 40) = z := ⟨_, rfl⟩
  have b_a : Sz a 40 := by rw [← e_a]; exact Sz.cut ua sa 40 40 (Nat.le_refl _)
  have r_b : Ri w (.agg #[.bool sb, .slice Ab xsb.length cb]) sb xsb := ⟨_, _, rfl, ub⟩
  obtain ⟨b, e_b⟩ : ∃ z, sg sb (cutN xsb 40) = z := ⟨_, rfl⟩
  have b_b : Sz b 40 := by rw [← e_b]; exact Sz.cut ub sb 40 40 (Nat.le_refl _)
  refine Pl.calls_by (n := 151) (vs := [.agg #[.bool sa, .slice Aa xsa.length ca], .agg #[.bool sb, .slice Ab xsb.length cb], .bool t2]) Tryz.func3 rfl (by kernel_rfl) (by simp) ?_
  refine Pl.V_seq ?_
  refine Pl.V_region (by kernel_rfl) ?_
  refine boxS rfl rfl rfl rfl rfl (fun _ _ => trivial) ?_
  intro N1 w1 hB1 i_1
  refine boxS rfl rfl rfl rfl rfl (fun _ _ => trivial) ?_
  intro N2 w2 hB2 i_2
  refine Pl.qA_assign trivial rfl rfl rfl rfl rfl ?_
  refine Pl.pA_end ?_
  refine Pl.V_seq ?_
  refine Pl.V_region (by kernel_rfl) ?_
  refine Pl.pA_call rfl rfl rfl rfl rfl en12 ?_
  refine Calls.mono (zhead _) ?_
  rintro e w3 ⟨rfl, hB3⟩
  refine ⟨_, rfl, trivial, ?_⟩
  refine Pl.qA_assign trivial rfl rfl rfl rfl rfl ?_
  refine Pl.pA_end ?_
  refine Pl.V_seq ?_
  refine Pl.V_seq ?_
  refine Pl.V_region (by kernel_rfl) ?_
  refine qA_field trivial rfl rfl rfl rfl rfl (fa_mag _) ?_
  have i_1__3 := Ib.ext i_1 (Ext.below hB2 hB3)
  refine Pl.qA_loadw trivial rfl rfl rfl rfl rfl (Ib.mag i_1__3) ?_
  refine qA_len trivial rfl rfl rfl rfl rfl ?_
  refine Pl.qA_bin (v := (.bool true)) trivial rfl rfl rfl rfl rfl rfl (fun X => b_gtr (decide_eq_true hx) X) ?_
  refine Pl.pA_end ?_
  refine Pl.V_true rfl ?_
  refine Pl.V_seq ?_
  refine Pl.V_region (by kernel_rfl) ?_
  refine Pl.qA_move trivial rfl rfl rfl rfl rfl ?_
  refine Pl.qA_assign trivial rfl rfl rfl rfl rfl ?_
  refine Pl.pA_end ?_
  refine Pl.post_ret rfl rfl ?_
  exact ⟨rfl, (Ext.below hB1 (Ext.below hB2 hB3))⟩
set_option maxRecDepth 100000 in
set_option maxHeartbeats 4000000 in
theorem IntegerTells_walkZ (w : World) (sa : Bool) (Aa : Option Addr) (ca : Nat) (xsa : List Nat) (ua : U w (.slice Aa xsa.length ca) xsa) (sb : Bool) (Ab : Option Addr) (cb : Nat) (xsb : List Nat) (ub : U w (.slice Ab xsb.length cb) xsb) (t2 : Bool) (hx : ¬ (200 : Int) < (xsa.length : Nat)) (h0 : sg sb (cutN xsb 40) = 0) :
    Calls Tryz.prog 3 #[.agg #[.bool sa, .slice Aa xsa.length ca], .agg #[.bool sb, .slice Ab xsb.length cb], .bool t2] w fun e w' => e = .returned (.bool true) ∧ Ext w w' := by
  have r_a : Ri w (.agg #[.bool sa, .slice Aa xsa.length ca]) sa xsa := ⟨_, _, rfl, ua⟩
  obtain ⟨a, e_a⟩ : ∃ z, sg sa (cutN xsa 40) = z := ⟨_, rfl⟩
  have b_a : Sz a 40 := by rw [← e_a]; exact Sz.cut ua sa 40 40 (Nat.le_refl _)
  have r_b : Ri w (.agg #[.bool sb, .slice Ab xsb.length cb]) sb xsb := ⟨_, _, rfl, ub⟩
  obtain ⟨b, e_b⟩ : ∃ z, sg sb (cutN xsb 40) = z := ⟨_, rfl⟩
  have b_b : Sz b 40 := by rw [← e_b]; exact Sz.cut ub sb 40 40 (Nat.le_refl _)
  have hx0 : ¬ 200 < xsa.length := fun h => hx (by omega)
  rw [e_b] at h0
  subst h0
  refine Pl.calls_by (n := 151) (vs := [.agg #[.bool sa, .slice Aa xsa.length ca], .agg #[.bool sb, .slice Ab xsb.length cb], .bool t2]) Tryz.func3 rfl (by kernel_rfl) (by simp) ?_
  refine Pl.V_seq ?_
  refine Pl.V_region (by kernel_rfl) ?_
  refine boxS rfl rfl rfl rfl rfl (fun _ _ => trivial) ?_
  intro N1 w1 hB1 i_1
  refine boxS rfl rfl rfl rfl rfl (fun _ _ => trivial) ?_
  intro N2 w2 hB2 i_2
  refine Pl.qA_assign trivial rfl rfl rfl rfl rfl ?_
  refine Pl.pA_end ?_
  refine Pl.V_seq ?_
  refine Pl.V_region (by kernel_rfl) ?_
  refine Pl.pA_call rfl rfl rfl rfl rfl en12 ?_
  refine Calls.mono (zhead _) ?_
  rintro e w3 ⟨rfl, hB3⟩
  refine ⟨_, rfl, trivial, ?_⟩
  refine Pl.qA_assign trivial rfl rfl rfl rfl rfl ?_
  refine Pl.pA_end ?_
  refine Pl.V_seq ?_
  refine Pl.V_seq ?_
  refine Pl.V_region (by kernel_rfl) ?_
  refine qA_field trivial rfl rfl rfl rfl rfl (fa_mag _) ?_
  have i_1__3 := Ib.ext i_1 (Ext.below hB2 hB3)
  refine Pl.qA_loadw trivial rfl rfl rfl rfl rfl (Ib.mag i_1__3) ?_
  refine qA_len trivial rfl rfl rfl rfl rfl ?_
  refine Pl.qA_bin (v := (.bool false)) trivial rfl rfl rfl rfl rfl rfl (fun X => b_gtr (decide_eq_false hx) X) ?_
  refine Pl.pA_end ?_
  refine Pl.V_false rfl ?_
  refine Pl.V_skip ?_
  refine Pl.V_seq ?_
  refine Pl.V_region (by kernel_rfl) ?_
  refine Pl.qA_loadw trivial rfl rfl rfl rfl rfl (Ib.load i_1__3) ?_
  have r_a__3 := Ri.below r_a (Ext.below hB1 (Ext.below hB2 hB3))
  refine Pl.pA_call rfl rfl rfl rfl rfl en13 ?_
  refine Calls.mono (lmade _ _ sa xsa r_a__3 a e_a) ?_
  rintro e w4 ⟨v_x5, rfl, h_x5, hB4⟩
  refine ⟨_, rfl, trivial, ?_⟩
  obtain ⟨p_x5, A_x5, L_x5, c_x5, rfl⟩ := Zn.sh h_x5
  refine boxI rfl rfl rfl rfl rfl rfl rfl rfl (fun _ => rfl) (fun _ _ => trivial) ?_
  intro N6 w5 hB5 i_6
  refine Pl.pA_end ?_
  refine Pl.V_seq ?_
  refine Pl.V_region (by kernel_rfl) ?_
  have i_2__5 := Ib.ext i_2 (Ext.below hB3 (Ext.below hB4 hB5))
  refine Pl.qA_loadw trivial rfl rfl rfl rfl rfl (Ib.load i_2__5) ?_
  have r_b__5 := Ri.below r_b (Ext.below hB1 (Ext.below hB2 (Ext.below hB3 (Ext.below hB4 hB5))))
  refine Pl.pA_call rfl rfl rfl rfl rfl en13 ?_
  refine Calls.mono (lmade _ _ sb xsb r_b__5 0 e_b) ?_
  rintro e w6 ⟨v_x9, rfl, h_x9, hB6⟩
  refine ⟨_, rfl, trivial, ?_⟩
  obtain ⟨p_x9, A_x9, L_x9, c_x9, rfl⟩ := Zn.sh h_x9
  refine boxI rfl rfl rfl rfl rfl rfl rfl rfl (fun _ => rfl) (fun _ _ => trivial) ?_
  intro N10 w7 hB7 i_10
  refine Pl.pA_end ?_
  refine Pl.V_seq ?_
  refine Pl.V_region (by kernel_rfl) ?_
  have i_6__7 := Ib.ext i_6 (Ext.below hB6 hB7)
  refine Pl.qA_loadw trivial rfl rfl rfl rfl rfl (Ib.load i_6__7) ?_
  refine Pl.qA_loadw trivial rfl rfl rfl rfl rfl (Ib.load i_10) ?_
  have h_x5__7 := Zn.below h_x5 (Ext.below hB5 (Ext.below hB6 hB7))
  have h_x9__7 := Zn.below h_x9 hB7
  refine Pl.pA_call rfl rfl rfl rfl rfl en14 ?_
  refine Calls.mono (zdiv_Z _ _ _ a h_x5__7 h_x9__7 (Sz.le b_a (by decide))) ?_
  rintro e w8 ⟨rfl, hB8⟩
  refine ⟨_, rfl, trivial, ?_⟩
  refine Pl.qA_move trivial rfl rfl rfl rfl rfl ?_
  refine Pl.qA_extract trivial rfl rfl rfl rfl rfl rfl ?_
  refine Pl.qA_extract trivial rfl rfl rfl rfl rfl rfl ?_
  refine Pl.qA_extract trivial rfl rfl rfl rfl rfl rfl ?_
  refine boxI2 rfl rfl rfl rfl rfl rfl rfl rfl rfl rfl rfl rfl rfl rfl rfl rfl rfl (fun _ _ => rfl) (fun _ _ => rfl) (fun _ _ => trivial) ?_
  intro N15 N16 w9 hB9 i_15 i_16
  refine Pl.qA_assign trivial rfl rfl rfl rfl rfl ?_
  refine Pl.pA_end ?_
  refine Pl.V_seq ?_
  refine Pl.V_region (by kernel_rfl) ?_
  have i_6__9 := Ib.ext i_6__7 (Ext.below hB8 hB9)
  refine Pl.qA_loadw trivial rfl rfl rfl rfl rfl (Ib.load i_6__9) ?_
  have i_10__9 := Ib.ext i_10 (Ext.below hB8 hB9)
  refine Pl.qA_loadw trivial rfl rfl rfl rfl rfl (Ib.load i_10__9) ?_
  have h_x5__9 := Zn.below h_x5__7 (Ext.below hB8 hB9)
  have h_x9__9 := Zn.below h_x9__7 (Ext.below hB8 hB9)
  refine Pl.pA_call rfl rfl rfl rfl rfl en15 ?_
  refine Calls.mono (rzdiv_Z _ _ _ a h_x5__9 h_x9__9) ?_
  rintro e w10 ⟨rfl, hB10⟩
  refine ⟨_, rfl, trivial, ?_⟩
  refine Pl.qA_move trivial rfl rfl rfl rfl rfl ?_
  refine Pl.qA_extract trivial rfl rfl rfl rfl rfl rfl ?_
  refine Pl.qA_extract trivial rfl rfl rfl rfl rfl rfl ?_
  refine Pl.qA_extract trivial rfl rfl rfl rfl rfl rfl ?_
  refine boxI2 rfl rfl rfl rfl rfl rfl rfl rfl rfl rfl rfl rfl rfl rfl rfl rfl rfl (fun _ _ => rfl) (fun _ _ => rfl) (fun _ _ => trivial) ?_
  intro N22 N23 w11 hB11 i_22 i_23
  refine Pl.qA_assign trivial rfl rfl rfl rfl rfl ?_
  refine Pl.pA_end ?_
  refine Pl.V_seq ?_
  refine Pl.V_region (by kernel_rfl) ?_
  have i_6__11 := Ib.ext i_6__9 (Ext.below hB10 hB11)
  refine Pl.qA_loadw trivial rfl rfl rfl rfl rfl (Ib.load i_6__11) ?_
  have i_10__11 := Ib.ext i_10__9 (Ext.below hB10 hB11)
  refine Pl.qA_loadw trivial rfl rfl rfl rfl rfl (Ib.load i_10__11) ?_
  have h_x5__11 := Zn.below h_x5__9 (Ext.below hB10 hB11)
  have h_x9__11 := Zn.below h_x9__9 (Ext.below hB10 hB11)
  refine Pl.pA_call rfl rfl rfl rfl rfl en16 ?_
  refine Calls.mono (zexact_no _ _ _ a 0 h_x5__11 h_x9__11 (Sz.le b_a (by decide)) Sz.zero (Or.inl rfl)) ?_
  rintro e w12 ⟨rfl, hB12⟩
  refine ⟨_, rfl, trivial, ?_⟩
  refine Pl.qA_move trivial rfl rfl rfl rfl rfl ?_
  refine Pl.qA_extract trivial rfl rfl rfl rfl rfl rfl ?_
  refine Pl.qA_extract trivial rfl rfl rfl rfl rfl rfl ?_
  refine boxI rfl rfl rfl rfl rfl rfl rfl rfl (fun _ => rfl) (fun _ _ => trivial) ?_
  intro N28 w13 hB13 i_28
  refine Pl.qA_assign trivial rfl rfl rfl rfl rfl ?_
  refine Pl.pA_end ?_
  refine Pl.V_seq ?_
  refine Pl.V_region (by kernel_rfl) ?_
  have i_6__13 := Ib.ext i_6__11 (Ext.below hB12 hB13)
  refine Pl.qA_loadw trivial rfl rfl rfl rfl rfl (Ib.load i_6__13) ?_
  have i_10__13 := Ib.ext i_10__11 (Ext.below hB12 hB13)
  refine Pl.qA_loadw trivial rfl rfl rfl rfl rfl (Ib.load i_10__13) ?_
  have h_x5__13 := Zn.below h_x5__11 (Ext.below hB12 hB13)
  have h_x9__13 := Zn.below h_x9__11 (Ext.below hB12 hB13)
  refine Pl.pA_call rfl rfl rfl rfl rfl en17 ?_
  refine Calls.mono (rzexact_no _ _ _ a 0 h_x5__13 h_x9__13 (Sz.le b_a (by decide)) Sz.zero (Or.inl rfl)) ?_
  rintro e w14 ⟨rfl, hB14⟩
  refine ⟨_, rfl, trivial, ?_⟩
  refine Pl.qA_move trivial rfl rfl rfl rfl rfl ?_
  refine Pl.qA_extract trivial rfl rfl rfl rfl rfl rfl ?_
  refine Pl.qA_extract trivial rfl rfl rfl rfl rfl rfl ?_
  refine boxI rfl rfl rfl rfl rfl rfl rfl rfl (fun _ => rfl) (fun _ _ => trivial) ?_
  intro N33 w15 hB15 i_33
  refine Pl.qA_assign trivial rfl rfl rfl rfl rfl ?_
  refine Pl.pA_end ?_
  refine Pl.V_seq ?_
  refine Pl.V_seq ?_
  refine Pl.V_draw (S := fun X => Ext w15 X) [(true, 0, 0), (true, 2, 1), (false, 1, 5), (false, 3, 7), (true, 4, 15), (true, 5, 31), (true, 6, 63), (true, 7, 127), (true, 8, 255), (true, 10, 511), (true, 11, 1535), (true, 12, 3583), (false, 9, 7679), (false, 13, 8191), (false, 14, 16383), (true, 15, 32767), (true, 16, 65535), (true, 17, 131071), (true, 18, 262143), (true, 19, 524287), (true, 21, 1048575), (true, 22, 3145727), (false, 20, 7340031), (false, 23, 8388607), (true, 24, 16777215), (true, 25, 33554431), (true, 26, 67108863), (true, 27, 134217727), (true, 29, 268435455), (false, 28, 805306367), (false, 30, 1073741823), (true, 31, 2147483647), (true, 32, 4294967295), (true, 33, 8589934591), (true, 34, 17179869183), (true, 36, 34359738367), (false, 35, 103079215103), (false, 37, 137438953471), (false, 38, 274877906943), (true, 39, 549755813887), (true, 40, 1099511627775)] fo Pl.post_panic (by kernel_rfl) (Ext.drew (Ext.refl _)) ?_
  generalize w15.drew = w16
  intro hB16
  have hS16 := hB16
  have i_1__15 := Ib.ext i_1__3 (Ext.below hB4 (Ext.below hB5 (Ext.below hB6 (Ext.below hB7 (Ext.below hB8 (Ext.below hB9 (Ext.below hB10 (Ext.below hB11 (Ext.below hB12 (Ext.below hB13 (Ext.below hB14 hB15)))))))))))
  refine Pl.qA_load hS16 rfl rfl rfl rfl rfl (fun X hX => Ib.load (Ib.ext i_1__15 hX)) ?_
  refine Pl.qA_load hS16 rfl rfl rfl rfl rfl (fun X hX => Ib.load (Ib.ext i_1__15 hX)) ?_
  have r_a__16 := Ri.below r_a__3 (Ext.below hB4 (Ext.below hB5 (Ext.below hB6 (Ext.below hB7 (Ext.below hB8 (Ext.below hB9 (Ext.below hB10 (Ext.below hB11 (Ext.below hB12 (Ext.below hB13 (Ext.below hB14 (Ext.below hB15 hB16))))))))))))
  refine Pl.pA_call rfl rfl rfl rfl rfl en18 ?_
  refine Calls.mono (zright _ _ sa xsa r_a__16 _ rfl) ?_
  rintro e w17 ⟨rfl, hB17⟩
  have hS17 := Ext.below hS16 hB17
  refine ⟨_, rfl, hS17, ?_⟩
  have r_a__17 := Ri.below r_a__16 hB17
  refine Pl.pA_call rfl rfl rfl rfl rfl en19 ?_
  refine Calls.mono (rzright _ _ sa xsa r_a__17 _ rfl) ?_
  rintro e w18 ⟨rfl, hB18⟩
  have hS18 := Ext.below hS17 hB18
  refine ⟨_, rfl, hS18, ?_⟩
  refine Pl.qA_bin (v := (.bool false)) hS18 rfl rfl rfl rfl rfl rfl (fun X => b_neb (bne_self_eq_false _) X) ?_
  refine Pl.qA_move hS18 rfl rfl rfl rfl rfl ?_
  refine Pl.qA_move hS18 rfl rfl rfl rfl rfl ?_
  refine qA_field hS18 rfl rfl rfl rfl rfl (fa_mag _) ?_
  refine Pl.qA_load hS18 rfl rfl rfl rfl rfl (fun X hX => Ib.mag (Ib.ext i_1__15 hX)) ?_
  refine Pl.qA_move hS18 rfl rfl rfl rfl rfl ?_
  refine qA_field hS18 rfl rfl rfl rfl rfl (fa_mag _) ?_
  refine Pl.qA_load hS18 rfl rfl rfl rfl rfl (fun X hX => Ib.mag (Ib.ext i_1__15 hX)) ?_
  have ua__18 := U.below ua (Ext.below hB1 (Ext.below hB2 (Ext.below hB3 (Ext.below hB4 (Ext.below hB5 (Ext.below hB6 (Ext.below hB7 (Ext.below hB8 (Ext.below hB9 (Ext.below hB10 (Ext.below hB11 (Ext.below hB12 (Ext.below hB13 (Ext.below hB14 (Ext.below hB15 (Ext.below hB16 (Ext.below hB17 hB18)))))))))))))))))
  refine Pl.pA_call rfl rfl rfl rfl rfl en21 ?_
  refine Calls.mono (zmake _ t2 _ xsa ua__18 _ rfl _ rfl) ?_
  rintro e w19 ⟨v_x37, rfl, h_x37, hB19⟩
  have hS19 := Ext.below hS18 hB19
  refine ⟨_, rfl, hS19, ?_⟩
  have b_x37 : Sz (sg t2 (val xsa)) 200 := Sz.mag ua__18 t2 200 (Nat.le_of_not_lt hx0)
  have ua__19 := U.below ua__18 hB19
  refine Pl.pA_call rfl rfl rfl rfl rfl en22 ?_
  refine Calls.mono (rzmake _ t2 _ xsa ua__19 (Nat.le_trans (Nat.le_of_not_lt hx0) (by decide)) _ rfl _ rfl) ?_
  rintro e w20 ⟨v_x39, rfl, h_x39, hB20⟩
  have hS20 := Ext.below hS19 hB20
  refine ⟨_, rfl, hS20, ?_⟩
  have b_x39 : Sz (sg t2 (val xsa)) 200 := Sz.mag ua__19 t2 200 (Nat.le_of_not_lt hx0)
  have h_x37__20 := Zn.below h_x37 hB20
  refine Pl.pA_call rfl rfl rfl rfl rfl en20 ?_
  refine Calls.mono (rzsame _ _ _ (sg t2 (val xsa)) (sg t2 (val xsa)) h_x37__20 h_x39 (Sz.le b_x37 (by decide)) (Sz.le b_x39 (by decide)) true (decide_eq_true rfl)) ?_
  rintro e w21 ⟨rfl, hB21⟩
  have hS21 := Ext.below hS20 hB21
  refine ⟨_, rfl, hS21, ?_⟩
  refine Pl.qA_un (v := (.bool false)) hS21 rfl rfl rfl rfl rfl (fun X => rfl) ?_
  refine Pl.qA_pick hS21 rfl rfl rfl rfl rfl rfl ?_
  refine Pl.qA_move hS21 rfl rfl rfl rfl rfl ?_
  have i_6__15 := Ib.ext i_6__13 (Ext.below hB14 hB15)
  refine Pl.qA_load hS21 rfl rfl rfl rfl rfl (fun X hX => Ib.load (Ib.ext i_6__15 hX)) ?_
  have i_10__15 := Ib.ext i_10__13 (Ext.below hB14 hB15)
  refine Pl.qA_load hS21 rfl rfl rfl rfl rfl (fun X hX => Ib.load (Ib.ext i_10__15 hX)) ?_
  refine Pl.qA_load hS21 rfl rfl rfl rfl rfl (fun X hX => Ib.load (Ib.ext i_6__15 hX)) ?_
  refine Pl.qA_load hS21 rfl rfl rfl rfl rfl (fun X hX => Ib.load (Ib.ext i_10__15 hX)) ?_
  have h_x5__21 := Zn.below h_x5__13 (Ext.below hB14 (Ext.below hB15 (Ext.below hB16 (Ext.below hB17 (Ext.below hB18 (Ext.below hB19 (Ext.below hB20 hB21)))))))
  have h_x9__21 := Zn.below h_x9__13 (Ext.below hB14 (Ext.below hB15 (Ext.below hB16 (Ext.below hB17 (Ext.below hB18 (Ext.below hB19 (Ext.below hB20 hB21)))))))
  refine Pl.pA_call rfl rfl rfl rfl rfl en23 ?_
  refine Calls.mono (zcmp _ _ _ a 0 h_x5__21 h_x9__21 (cmpI a 0) rfl) ?_
  rintro e w22 ⟨rfl, hB22⟩
  have hS22 := Ext.below hS21 hB22
  refine ⟨_, rfl, hS22, ?_⟩
  have h_x5__22 := Zn.below h_x5__21 hB22
  have h_x9__22 := Zn.below h_x9__21 hB22
  refine Pl.pA_call rfl rfl rfl rfl rfl en24 ?_
  refine Calls.mono (rzcmp _ _ _ a 0 h_x5__22 h_x9__22 (Sz.le b_a (by decide)) Sz.zero (cmpI a 0) rfl) ?_
  rintro e w23 ⟨rfl, hB23⟩
  have hS23 := Ext.below hS22 hB23
  refine ⟨_, rfl, hS23, ?_⟩
  refine Pl.qA_bin (v := (.bool false)) hS23 rfl rfl rfl rfl rfl rfl (fun X => b_neq (bne_self_eq_false _) X) ?_
  refine Pl.qA_pick hS23 rfl rfl rfl rfl rfl rfl ?_
  refine Pl.qA_move hS23 rfl rfl rfl rfl rfl ?_
  refine Pl.qA_load hS23 rfl rfl rfl rfl rfl (fun X hX => Ib.load (Ib.ext i_6__15 hX)) ?_
  refine Pl.qA_load hS23 rfl rfl rfl rfl rfl (fun X hX => Ib.load (Ib.ext i_6__15 hX)) ?_
  have h_x5__23 := Zn.below h_x5__22 hB23
  refine Pl.pA_call rfl rfl rfl rfl rfl en25 ?_
  refine Calls.mono (zsign _ _ a h_x5__23 (Int.sign a) rfl) ?_
  rintro e w24 ⟨rfl, hB24⟩
  have hS24 := Ext.below hS23 hB24
  refine ⟨_, rfl, hS24, ?_⟩
  have h_x5__24 := Zn.below h_x5__23 hB24
  refine Pl.pA_call rfl rfl rfl rfl rfl en26 ?_
  refine Calls.mono (rzsign _ _ a h_x5__24 (Sz.le b_a (by decide)) (Int.sign a) rfl) ?_
  rintro e w25 ⟨rfl, hB25⟩
  have hS25 := Ext.below hS24 hB25
  refine ⟨_, rfl, hS25, ?_⟩
  refine Pl.qA_bin (v := (.bool false)) hS25 rfl rfl rfl rfl rfl rfl (fun X => b_neq (bne_self_eq_false _) X) ?_
  refine Pl.qA_pick hS25 rfl rfl rfl rfl rfl rfl ?_
  refine Pl.qA_move hS25 rfl rfl rfl rfl rfl ?_
  refine Pl.qA_load hS25 rfl rfl rfl rfl rfl (fun X hX => Ib.load (Ib.ext i_6__15 hX)) ?_
  refine Pl.qA_load hS25 rfl rfl rfl rfl rfl (fun X hX => Ib.load (Ib.ext i_6__15 hX)) ?_
  have h_x5__25 := Zn.below h_x5__24 hB25
  refine Pl.pA_call rfl rfl rfl rfl rfl en27 ?_
  refine Calls.mono (zneg _ _ a h_x5__25 _ rfl) ?_
  rintro e w26 ⟨v_x48, rfl, h_x48, hB26⟩
  have hS26 := Ext.below hS25 hB26
  refine ⟨_, rfl, hS26, ?_⟩
  have b_x48 : Sz (-a) 40 := Sz.neg b_a
  have h_x5__26 := Zn.below h_x5__25 hB26
  refine Pl.pA_call rfl rfl rfl rfl rfl en28 ?_
  refine Calls.mono (rzneg _ _ a h_x5__26 (Sz.le b_a (by decide)) _ rfl) ?_
  rintro e w27 ⟨v_x50, rfl, h_x50, hB27⟩
  have hS27 := Ext.below hS26 hB27
  refine ⟨_, rfl, hS27, ?_⟩
  have b_x50 : Sz (-a) 40 := Sz.neg b_a
  have h_x48__27 := Zn.below h_x48 hB27
  refine Pl.pA_call rfl rfl rfl rfl rfl en20 ?_
  refine Calls.mono (rzsame _ _ _ (-a) (-a) h_x48__27 h_x50 (Sz.le b_x48 (by decide)) (Sz.le b_x50 (by decide)) true (decide_eq_true rfl)) ?_
  rintro e w28 ⟨rfl, hB28⟩
  have hS28 := Ext.below hS27 hB28
  refine ⟨_, rfl, hS28, ?_⟩
  refine Pl.qA_un (v := (.bool false)) hS28 rfl rfl rfl rfl rfl (fun X => rfl) ?_
  refine Pl.qA_pick hS28 rfl rfl rfl rfl rfl rfl ?_
  refine Pl.pA_end ?_
  refine Pl.V_false rfl ?_
  refine Pl.V_skip ?_
  refine Pl.V_seq ?_
  refine Pl.V_seq ?_
  refine Pl.V_region (by kernel_rfl) ?_
  have i_15__28 := Ib.ext i_15 (Ext.below hB10 (Ext.below hB11 (Ext.below hB12 (Ext.below hB13 (Ext.below hB14 (Ext.below hB15 (Ext.below hB16 (Ext.below hB17 (Ext.below hB18 (Ext.below hB19 (Ext.below hB20 (Ext.below hB21 (Ext.below hB22 (Ext.below hB23 (Ext.below hB24 (Ext.below hB25 (Ext.below hB26 (Ext.below hB27 hB28))))))))))))))))))
  refine Pl.qA_loadw trivial rfl rfl rfl rfl rfl (Ib.load i_15__28) ?_
  have i_22__28 := Ib.ext i_22 (Ext.below hB12 (Ext.below hB13 (Ext.below hB14 (Ext.below hB15 (Ext.below hB16 (Ext.below hB17 (Ext.below hB18 (Ext.below hB19 (Ext.below hB20 (Ext.below hB21 (Ext.below hB22 (Ext.below hB23 (Ext.below hB24 (Ext.below hB25 (Ext.below hB26 (Ext.below hB27 hB28))))))))))))))))
  refine Pl.qA_loadw trivial rfl rfl rfl rfl rfl (Ib.load i_22__28) ?_
  refine Pl.pA_call rfl rfl rfl rfl rfl en20 ?_
  refine Calls.mono (rzsame _ _ _ 0 0 (Zn.zero _ _ _) (Zn.zero _ _ _) (Sz.zero) (Sz.zero) true (by decide)) ?_
  rintro e w29 ⟨rfl, hB29⟩
  refine ⟨_, rfl, trivial, ?_⟩
  refine Pl.qA_un (v := (.bool false)) trivial rfl rfl rfl rfl rfl (fun X => rfl) ?_
  refine Pl.qA_move trivial rfl rfl rfl rfl rfl ?_
  have i_16__29 := Ib.ext i_16 (Ext.below hB10 (Ext.below hB11 (Ext.below hB12 (Ext.below hB13 (Ext.below hB14 (Ext.below hB15 (Ext.below hB16 (Ext.below hB17 (Ext.below hB18 (Ext.below hB19 (Ext.below hB20 (Ext.below hB21 (Ext.below hB22 (Ext.below hB23 (Ext.below hB24 (Ext.below hB25 (Ext.below hB26 (Ext.below hB27 (Ext.below hB28 hB29)))))))))))))))))))
  refine Pl.qA_loadw trivial rfl rfl rfl rfl rfl (Ib.load i_16__29) ?_
  have i_23__29 := Ib.ext i_23 (Ext.below hB12 (Ext.below hB13 (Ext.below hB14 (Ext.below hB15 (Ext.below hB16 (Ext.below hB17 (Ext.below hB18 (Ext.below hB19 (Ext.below hB20 (Ext.below hB21 (Ext.below hB22 (Ext.below hB23 (Ext.below hB24 (Ext.below hB25 (Ext.below hB26 (Ext.below hB27 (Ext.below hB28 hB29)))))))))))))))))
  refine Pl.qA_loadw trivial rfl rfl rfl rfl rfl (Ib.load i_23__29) ?_
  refine Pl.pA_call rfl rfl rfl rfl rfl en20 ?_
  refine Calls.mono (rzsame _ _ _ 0 0 (Zn.zero _ _ _) (Zn.zero _ _ _) (Sz.zero) (Sz.zero) true (by decide)) ?_
  rintro e w30 ⟨rfl, hB30⟩
  refine ⟨_, rfl, trivial, ?_⟩
  refine Pl.qA_un (v := (.bool false)) trivial rfl rfl rfl rfl rfl (fun X => rfl) ?_
  refine Pl.qA_pick trivial rfl rfl rfl rfl rfl rfl ?_
  refine Pl.qA_move trivial rfl rfl rfl rfl rfl ?_
  refine Pl.qA_move trivial rfl rfl rfl rfl rfl ?_
  refine Pl.qA_move trivial rfl rfl rfl rfl rfl ?_
  refine Pl.qA_bin (v := (.bool false)) trivial rfl rfl rfl rfl rfl rfl (fun X => by go_simp) ?_
  refine Pl.qA_pick trivial rfl rfl rfl rfl rfl rfl ?_
  refine Pl.qA_move trivial rfl rfl rfl rfl rfl ?_
  have i_28__30 := Ib.ext i_28 (Ext.below hB14 (Ext.below hB15 (Ext.below hB16 (Ext.below hB17 (Ext.below hB18 (Ext.below hB19 (Ext.below hB20 (Ext.below hB21 (Ext.below hB22 (Ext.below hB23 (Ext.below hB24 (Ext.below hB25 (Ext.below hB26 (Ext.below hB27 (Ext.below hB28 (Ext.below hB29 hB30))))))))))))))))
  refine Pl.qA_loadw trivial rfl rfl rfl rfl rfl (Ib.load i_28__30) ?_
  have i_33__30 := Ib.ext i_33 (Ext.below hB16 (Ext.below hB17 (Ext.below hB18 (Ext.below hB19 (Ext.below hB20 (Ext.below hB21 (Ext.below hB22 (Ext.below hB23 (Ext.below hB24 (Ext.below hB25 (Ext.below hB26 (Ext.below hB27 (Ext.below hB28 (Ext.below hB29 hB30))))))))))))))
  refine Pl.qA_loadw trivial rfl rfl rfl rfl rfl (Ib.load i_33__30) ?_
  refine Pl.pA_call rfl rfl rfl rfl rfl en20 ?_
  refine Calls.mono (rzsame _ _ _ 0 0 (Zn.zero _ _ _) (Zn.zero _ _ _) (Sz.zero) (Sz.zero) true (by decide)) ?_
  rintro e w31 ⟨rfl, hB31⟩
  refine ⟨_, rfl, trivial, ?_⟩
  refine Pl.qA_un (v := (.bool false)) trivial rfl rfl rfl rfl rfl (fun X => rfl) ?_
  refine Pl.qA_pick trivial rfl rfl rfl rfl rfl rfl ?_
  refine Pl.qA_move trivial rfl rfl rfl rfl rfl ?_
  refine Pl.qA_move trivial rfl rfl rfl rfl rfl ?_
  refine Pl.qA_move trivial rfl rfl rfl rfl rfl ?_
  refine Pl.qA_bin (v := (.bool false)) trivial rfl rfl rfl rfl rfl rfl (fun X => by go_simp) ?_
  refine Pl.qA_pick trivial rfl rfl rfl rfl rfl rfl ?_
  refine Pl.pA_end ?_
  refine Pl.V_false rfl ?_
  refine Pl.V_skip ?_
  refine Pl.V_seq ?_
  refine Pl.V_draw (S := fun X => Ext w31 X) [(true, 0, 0), (true, 1, 1), (true, 2, 3), (true, 3, 7), (true, 5, 15), (true, 6, 47), (false, 4, 111), (false, 7, 127), (false, 8, 255), (true, 9, 511), (true, 10, 1023), (true, 11, 2047), (true, 12, 4095), (true, 14, 8191), (true, 15, 24575), (false, 13, 57343), (false, 16, 65535), (false, 17, 131071), (true, 18, 262143), (true, 19, 524287), (true, 20, 1048575), (true, 21, 2097151), (true, 23, 4194303), (true, 24, 12582911), (false, 22, 29360127), (false, 25, 33554431), (false, 26, 67108863), (true, 27, 134217727), (true, 28, 268435455)] fo Pl.post_panic (by kernel_rfl) (Ext.drew (Ext.refl _)) ?_
  generalize w31.drew = w32
  intro hB32
  have hS32 := hB32
  refine Pl.qA_move hS32 rfl rfl rfl rfl rfl ?_
  refine Pl.qA_move hS32 rfl rfl rfl rfl rfl ?_
  have i_6__31 := Ib.ext i_6__15 (Ext.below hB16 (Ext.below hB17 (Ext.below hB18 (Ext.below hB19 (Ext.below hB20 (Ext.below hB21 (Ext.below hB22 (Ext.below hB23 (Ext.below hB24 (Ext.below hB25 (Ext.below hB26 (Ext.below hB27 (Ext.below hB28 (Ext.below hB29 (Ext.below hB30 hB31)))))))))))))))
  refine Pl.qA_load hS32 rfl rfl rfl rfl rfl (fun X hX => Ib.load (Ib.ext i_6__31 hX)) ?_
  have i_10__31 := Ib.ext i_10__15 (Ext.below hB16 (Ext.below hB17 (Ext.below hB18 (Ext.below hB19 (Ext.below hB20 (Ext.below hB21 (Ext.below hB22 (Ext.below hB23 (Ext.below hB24 (Ext.below hB25 (Ext.below hB26 (Ext.below hB27 (Ext.below hB28 (Ext.below hB29 (Ext.below hB30 hB31)))))))))))))))
  refine Pl.qA_load hS32 rfl rfl rfl rfl rfl (fun X hX => Ib.load (Ib.ext i_10__31 hX)) ?_
  refine Pl.qA_load hS32 rfl rfl rfl rfl rfl (fun X hX => Ib.load (Ib.ext i_6__31 hX)) ?_
  refine Pl.qA_load hS32 rfl rfl rfl rfl rfl (fun X hX => Ib.load (Ib.ext i_10__31 hX)) ?_
  have h_x5__32 := Zn.below h_x5__26 (Ext.below hB27 (Ext.below hB28 (Ext.below hB29 (Ext.below hB30 (Ext.below hB31 hB32)))))
  have h_x9__32 := Zn.below h_x9__22 (Ext.below hB23 (Ext.below hB24 (Ext.below hB25 (Ext.below hB26 (Ext.below hB27 (Ext.below hB28 (Ext.below hB29 (Ext.below hB30 (Ext.below hB31 hB32)))))))))
  refine Pl.pA_call rfl rfl rfl rfl rfl en29 ?_
  refine Calls.mono (zadd _ _ _ a 0 h_x5__32 h_x9__32 (Sz.le b_a (by decide)) Sz.zero _ rfl) ?_
  rintro e w33 ⟨v_x60, rfl, h_x60, hB33⟩
  have hS33 := Ext.below hS32 hB33
  refine ⟨_, rfl, hS33, ?_⟩
  have b_x60 : Sz (a + 0) 41 := Sz.add b_a (Sz.lit (z := 0) (K := 1) (by decide) (by decide)) (by decide) (by decide)
  have h_x5__33 := Zn.below h_x5__32 hB33
  have h_x9__33 := Zn.below h_x9__32 hB33
  refine Pl.pA_call rfl rfl rfl rfl rfl en30 ?_
  refine Calls.mono (rzadd _ _ _ a 0 h_x5__33 h_x9__33 (Sz.le b_a (by decide)) Sz.zero _ rfl) ?_
  rintro e w34 ⟨v_x63, rfl, h_x63, hB34⟩
  have hS34 := Ext.below hS33 hB34
  refine ⟨_, rfl, hS34, ?_⟩
  have b_x63 : Sz (a + 0) 41 := Sz.add b_a (Sz.lit (z := 0) (K := 1) (by decide) (by decide)) (by decide) (by decide)
  have h_x60__34 := Zn.below h_x60 hB34
  refine Pl.pA_call rfl rfl rfl rfl rfl en20 ?_
  refine Calls.mono (rzsame _ _ _ (a + 0) (a + 0) h_x60__34 h_x63 (Sz.le b_x60 (by decide)) (Sz.le b_x63 (by decide)) true (decide_eq_true rfl)) ?_
  rintro e w35 ⟨rfl, hB35⟩
  have hS35 := Ext.below hS34 hB35
  refine ⟨_, rfl, hS35, ?_⟩
  refine Pl.qA_pick hS35 rfl rfl rfl rfl rfl rfl ?_
  refine Pl.qA_move hS35 rfl rfl rfl rfl rfl ?_
  refine Pl.qA_load hS35 rfl rfl rfl rfl rfl (fun X hX => Ib.load (Ib.ext i_6__31 hX)) ?_
  refine Pl.qA_load hS35 rfl rfl rfl rfl rfl (fun X hX => Ib.load (Ib.ext i_10__31 hX)) ?_
  refine Pl.qA_load hS35 rfl rfl rfl rfl rfl (fun X hX => Ib.load (Ib.ext i_6__31 hX)) ?_
  refine Pl.qA_load hS35 rfl rfl rfl rfl rfl (fun X hX => Ib.load (Ib.ext i_10__31 hX)) ?_
  have h_x5__35 := Zn.below h_x5__33 (Ext.below hB34 hB35)
  have h_x9__35 := Zn.below h_x9__33 (Ext.below hB34 hB35)
  refine Pl.pA_call rfl rfl rfl rfl rfl en31 ?_
  refine Calls.mono (zsub _ _ _ a 0 h_x5__35 h_x9__35 (Sz.le b_a (by decide)) Sz.zero _ rfl) ?_
  rintro e w36 ⟨v_x67, rfl, h_x67, hB36⟩
  have hS36 := Ext.below hS35 hB36
  refine ⟨_, rfl, hS36, ?_⟩
  have b_x67 : Sz (a - 0) 41 := Sz.sub b_a (Sz.lit (z := 0) (K := 1) (by decide) (by decide)) (by decide) (by decide)
  have h_x5__36 := Zn.below h_x5__35 hB36
  have h_x9__36 := Zn.below h_x9__35 hB36
  refine Pl.pA_call rfl rfl rfl rfl rfl en32 ?_
  refine Calls.mono (rzsub _ _ _ a 0 h_x5__36 h_x9__36 (Sz.le b_a (by decide)) Sz.zero _ rfl) ?_
  rintro e w37 ⟨v_x70, rfl, h_x70, hB37⟩
  have hS37 := Ext.below hS36 hB37
  refine ⟨_, rfl, hS37, ?_⟩
  have b_x70 : Sz (a - 0) 41 := Sz.sub b_a (Sz.lit (z := 0) (K := 1) (by decide) (by decide)) (by decide) (by decide)
  have h_x67__37 := Zn.below h_x67 hB37
  refine Pl.pA_call rfl rfl rfl rfl rfl en20 ?_
  refine Calls.mono (rzsame _ _ _ (a - 0) (a - 0) h_x67__37 h_x70 (Sz.le b_x67 (by decide)) (Sz.le b_x70 (by decide)) true (decide_eq_true rfl)) ?_
  rintro e w38 ⟨rfl, hB38⟩
  have hS38 := Ext.below hS37 hB38
  refine ⟨_, rfl, hS38, ?_⟩
  refine Pl.qA_pick hS38 rfl rfl rfl rfl rfl rfl ?_
  refine Pl.qA_move hS38 rfl rfl rfl rfl rfl ?_
  refine Pl.qA_load hS38 rfl rfl rfl rfl rfl (fun X hX => Ib.load (Ib.ext i_6__31 hX)) ?_
  refine Pl.qA_load hS38 rfl rfl rfl rfl rfl (fun X hX => Ib.load (Ib.ext i_10__31 hX)) ?_
  refine Pl.qA_load hS38 rfl rfl rfl rfl rfl (fun X hX => Ib.load (Ib.ext i_6__31 hX)) ?_
  refine Pl.qA_load hS38 rfl rfl rfl rfl rfl (fun X hX => Ib.load (Ib.ext i_10__31 hX)) ?_
  have h_x5__38 := Zn.below h_x5__36 (Ext.below hB37 hB38)
  have h_x9__38 := Zn.below h_x9__36 (Ext.below hB37 hB38)
  refine Pl.pA_call rfl rfl rfl rfl rfl en33 ?_
  refine Calls.mono (zmul _ _ _ a 0 h_x5__38 h_x9__38 (Sz.le b_a (by decide)) Sz.zero _ rfl) ?_
  rintro e w39 ⟨v_x74, rfl, h_x74, hB39⟩
  have hS39 := Ext.below hS38 hB39
  refine ⟨_, rfl, hS39, ?_⟩
  have b_x74 : Sz (a * 0) 41 := Sz.mul b_a (Sz.lit (z := 0) (K := 1) (by decide) (by decide)) (by decide)
  have h_x5__39 := Zn.below h_x5__38 hB39
  have h_x9__39 := Zn.below h_x9__38 hB39
  refine Pl.pA_call rfl rfl rfl rfl rfl en34 ?_
  refine Calls.mono (rzmul _ _ _ a 0 h_x5__39 h_x9__39 (Sz.le b_a (by decide)) Sz.zero _ rfl) ?_
  rintro e w40 ⟨v_x77, rfl, h_x77, hB40⟩
  have hS40 := Ext.below hS39 hB40
  refine ⟨_, rfl, hS40, ?_⟩
  have b_x77 : Sz (a * 0) 41 := Sz.mul b_a (Sz.lit (z := 0) (K := 1) (by decide) (by decide)) (by decide)
  have h_x74__40 := Zn.below h_x74 hB40
  refine Pl.pA_call rfl rfl rfl rfl rfl en20 ?_
  refine Calls.mono (rzsame _ _ _ (a * 0) (a * 0) h_x74__40 h_x77 (Sz.le b_x74 (by decide)) (Sz.le b_x77 (by decide)) true (decide_eq_true rfl)) ?_
  rintro e w41 ⟨rfl, hB41⟩
  have hS41 := Ext.below hS40 hB41
  refine ⟨_, rfl, hS41, ?_⟩
  refine Pl.qA_pick hS41 rfl rfl rfl rfl rfl rfl ?_
  refine Pl.qA_assign hS41 rfl rfl rfl rfl rfl ?_
  refine Pl.pA_end ?_
  refine Pl.post_ret rfl rfl ?_
  exact ⟨rfl, (Ext.below hB1 (Ext.below hB2 (Ext.below hB3 (Ext.below hB4 (Ext.below hB5 (Ext.below hB6 (Ext.below hB7 (Ext.below hB8 (Ext.below hB9 (Ext.below hB10 (Ext.below hB11 (Ext.below hB12 (Ext.below hB13 (Ext.below hB14 (Ext.below hB15 (Ext.below hB16 (Ext.below hB17 (Ext.below hB18 (Ext.below hB19 (Ext.below hB20 (Ext.below hB21 (Ext.below hB22 (Ext.below hB23 (Ext.below hB24 (Ext.below hB25 (Ext.below hB26 (Ext.below hB27 (Ext.below hB28 (Ext.below hB29 (Ext.below hB30 (Ext.below hB31 (Ext.below hB32 (Ext.below hB33 (Ext.below hB34 (Ext.below hB35 (Ext.below hB36 (Ext.below hB37 (Ext.below hB38 (Ext.below hB39 (Ext.below hB40 hB41))))))))))))))))))))))))))))))))))))))))⟩
set_option maxRecDepth 100000 in
set_option maxHeartbeats 4000000 in
theorem IntegerTells_walkY (w : World) (sa : Bool) (Aa : Option Addr) (ca : Nat) (xsa : List Nat) (ua : U w (.slice Aa xsa.length ca) xsa) (sb : Bool) (Ab : Option Addr) (cb : Nat) (xsb : List Nat) (ub : U w (.slice Ab xsb.length cb) xsb) (t2 : Bool) (hx : ¬ (200 : Int) < (xsa.length : Nat)) (h0 : sg sb (cutN xsb 40) ≠ 0) (hr : sg sa (cutN xsa 40) % sg sb (cutN xsb 40) = 0) :
    Calls Tryz.prog 3 #[.agg #[.bool sa, .slice Aa xsa.length ca], .agg #[.bool sb, .slice Ab xsb.length cb], .bool t2] w fun e w' => e = .returned (.bool true) ∧ Ext w w' := by
  have r_a : Ri w (.agg #[.bool sa, .slice Aa xsa.length ca]) sa xsa := ⟨_, _, rfl, ua⟩
  obtain ⟨a, e_a⟩ : ∃ z, sg sa (cutN xsa 40) = z := ⟨_, rfl⟩
  have b_a : Sz a 40 := by rw [← e_a]; exact Sz.cut ua sa 40 40 (Nat.le_refl _)
  have r_b : Ri w (.agg #[.bool sb, .slice Ab xsb.length cb]) sb xsb := ⟨_, _, rfl, ub⟩
  obtain ⟨b, e_b⟩ : ∃ z, sg sb (cutN xsb 40) = z := ⟨_, rfl⟩
  have b_b : Sz b 40 := by rw [← e_b]; exact Sz.cut ub sb 40 40 (Nat.le_refl _)
  have hx0 : ¬ 200 < xsa.length := fun h => hx (by omega)
  rw [e_b] at h0
  rw [e_a, e_b] at hr
  refine Pl.calls_by (n := 151) (vs := [.agg #[.bool sa, .slice Aa xsa.length ca], .agg #[.bool sb, .slice Ab xsb.length cb], .bool t2]) Tryz.func3 rfl (by kernel_rfl) (by simp) ?_
  refine Pl.V_seq ?_
  refine Pl.V_region (by kernel_rfl) ?_
  refine boxS rfl rfl rfl rfl rfl (fun _ _ => trivial) ?_
  intro N1 w1 hB1 i_1
  refine boxS rfl rfl rfl rfl rfl (fun _ _ => trivial) ?_
  intro N2 w2 hB2 i_2
  refine Pl.qA_assign trivial rfl rfl rfl rfl rfl ?_
  refine Pl.pA_end ?_
  refine Pl.V_seq ?_
  refine Pl.V_region (by kernel_rfl) ?_
  refine Pl.pA_call rfl rfl rfl rfl rfl en12 ?_
  refine Calls.mono (zhead _) ?_
  rintro e w3 ⟨rfl, hB3⟩
  refine ⟨_, rfl, trivial, ?_⟩
  refine Pl.qA_assign trivial rfl rfl rfl rfl rfl ?_
  refine Pl.pA_end ?_
  refine Pl.V_seq ?_
  refine Pl.V_seq ?_
  refine Pl.V_region (by kernel_rfl) ?_
  refine qA_field trivial rfl rfl rfl rfl rfl (fa_mag _) ?_
  have i_1__3 := Ib.ext i_1 (Ext.below hB2 hB3)
  refine Pl.qA_loadw trivial rfl rfl rfl rfl rfl (Ib.mag i_1__3) ?_
  refine qA_len trivial rfl rfl rfl rfl rfl ?_
  refine Pl.qA_bin (v := (.bool false)) trivial rfl rfl rfl rfl rfl rfl (fun X => b_gtr (decide_eq_false hx) X) ?_
  refine Pl.pA_end ?_
  refine Pl.V_false rfl ?_
  refine Pl.V_skip ?_
  refine Pl.V_seq ?_
  refine Pl.V_region (by kernel_rfl) ?_
  refine Pl.qA_loadw trivial rfl rfl rfl rfl rfl (Ib.load i_1__3) ?_
  have r_a__3 := Ri.below r_a (Ext.below hB1 (Ext.below hB2 hB3))
  refine Pl.pA_call rfl rfl rfl rfl rfl en13 ?_
  refine Calls.mono (lmade _ _ sa xsa r_a__3 a e_a) ?_
  rintro e w4 ⟨v_x5, rfl, h_x5, hB4⟩
  refine ⟨_, rfl, trivial, ?_⟩
  obtain ⟨p_x5, A_x5, L_x5, c_x5, rfl⟩ := Zn.sh h_x5
  refine boxI rfl rfl rfl rfl rfl rfl rfl rfl (fun _ => rfl) (fun _ _ => trivial) ?_
  intro N6 w5 hB5 i_6
  refine Pl.pA_end ?_
  refine Pl.V_seq ?_
  refine Pl.V_region (by kernel_rfl) ?_
  have i_2__5 := Ib.ext i_2 (Ext.below hB3 (Ext.below hB4 hB5))
  refine Pl.qA_loadw trivial rfl rfl rfl rfl rfl (Ib.load i_2__5) ?_
  have r_b__5 := Ri.below r_b (Ext.below hB1 (Ext.below hB2 (Ext.below hB3 (Ext.below hB4 hB5))))
  refine Pl.pA_call rfl rfl rfl rfl rfl en13 ?_
  refine Calls.mono (lmade _ _ sb xsb r_b__5 b e_b) ?_
  rintro e w6 ⟨v_x9, rfl, h_x9, hB6⟩
  refine ⟨_, rfl, trivial, ?_⟩
  obtain ⟨p_x9, A_x9, L_x9, c_x9, rfl⟩ := Zn.sh h_x9
  refine boxI rfl rfl rfl rfl rfl rfl rfl rfl (fun _ => rfl) (fun _ _ => trivial) ?_
  intro N10 w7 hB7 i_10
  refine Pl.pA_end ?_
  refine Pl.V_seq ?_
  refine Pl.V_region (by kernel_rfl) ?_
  have i_6__7 := Ib.ext i_6 (Ext.below hB6 hB7)
  refine Pl.qA_loadw trivial rfl rfl rfl rfl rfl (Ib.load i_6__7) ?_
  refine Pl.qA_loadw trivial rfl rfl rfl rfl rfl (Ib.load i_10) ?_
  have h_x5__7 := Zn.below h_x5 (Ext.below hB5 (Ext.below hB6 hB7))
  have h_x9__7 := Zn.below h_x9 hB7
  refine Pl.pA_call rfl rfl rfl rfl rfl en14 ?_
  refine Calls.mono (zdiv_D _ _ _ a b h_x5__7 h_x9__7 (Sz.le b_a (by decide)) (Sz.le b_b (by decide)) h0 _ _ rfl rfl) ?_
  rintro e w8 ⟨⟨v_x14, v_x15, rfl, h_x14, h_x15⟩, hB8⟩
  refine ⟨_, rfl, trivial, ?_⟩
  have b_x14 : Sz (a / b) 40 := Sz.div b_a
  have b_x15 : Sz (a % b) 40 := Sz.mod b_b h0
  refine Pl.qA_move trivial rfl rfl rfl rfl rfl ?_
  refine Pl.qA_extract trivial rfl rfl rfl rfl rfl rfl ?_
  refine Pl.qA_extract trivial rfl rfl rfl rfl rfl rfl ?_
  refine Pl.qA_extract trivial rfl rfl rfl rfl rfl rfl ?_
  obtain ⟨p_x14, A_x14, L_x14, c_x14, rfl⟩ := Zn.sh h_x14
  obtain ⟨p_x15, A_x15, L_x15, c_x15, rfl⟩ := Zn.sh h_x15
  refine boxI2 rfl rfl rfl rfl rfl rfl rfl rfl rfl rfl rfl rfl rfl rfl rfl rfl rfl (fun _ _ => rfl) (fun _ _ => rfl) (fun _ _ => trivial) ?_
  intro N16 N17 w9 hB9 i_16 i_17
  refine Pl.qA_assign trivial rfl rfl rfl rfl rfl ?_
  refine Pl.pA_end ?_
  refine Pl.V_seq ?_
  refine Pl.V_region (by kernel_rfl) ?_
  have i_6__9 := Ib.ext i_6__7 (Ext.below hB8 hB9)
  refine Pl.qA_loadw trivial rfl rfl rfl rfl rfl (Ib.load i_6__9) ?_
  have i_10__9 := Ib.ext i_10 (Ext.below hB8 hB9)
  refine Pl.qA_loadw trivial rfl rfl rfl rfl rfl (Ib.load i_10__9) ?_
  have h_x5__9 := Zn.below h_x5__7 (Ext.below hB8 hB9)
  have h_x9__9 := Zn.below h_x9__7 (Ext.below hB8 hB9)
  refine Pl.pA_call rfl rfl rfl rfl rfl en15 ?_
  refine Calls.mono (rzdiv_D _ _ _ a b h_x5__9 h_x9__9 (Sz.le b_a (by decide)) (Sz.le b_b (by decide)) h0 _ _ rfl rfl) ?_
  rintro e w10 ⟨⟨v_x22, v_x23, rfl, h_x22, h_x23⟩, hB10⟩
  refine ⟨_, rfl, trivial, ?_⟩
  have b_x22 : Sz (a / b) 40 := Sz.div b_a
  have b_x23 : Sz (a % b) 40 := Sz.mod b_b h0
  refine Pl.qA_move trivial rfl rfl rfl rfl rfl ?_
  refine Pl.qA_extract trivial rfl rfl rfl rfl rfl rfl ?_
  refine Pl.qA_extract trivial rfl rfl rfl rfl rfl rfl ?_
  refine Pl.qA_extract trivial rfl rfl rfl rfl rfl rfl ?_
  obtain ⟨p_x22, A_x22, L_x22, c_x22, rfl⟩ := Zn.sh h_x22
  obtain ⟨p_x23, A_x23, L_x23, c_x23, rfl⟩ := Zn.sh h_x23
  refine boxI2 rfl rfl rfl rfl rfl rfl rfl rfl rfl rfl rfl rfl rfl rfl rfl rfl rfl (fun _ _ => rfl) (fun _ _ => rfl) (fun _ _ => trivial) ?_
  intro N24 N25 w11 hB11 i_24 i_25
  refine Pl.qA_assign trivial rfl rfl rfl rfl rfl ?_
  refine Pl.pA_end ?_
  refine Pl.V_seq ?_
  refine Pl.V_region (by kernel_rfl) ?_
  have i_6__11 := Ib.ext i_6__9 (Ext.below hB10 hB11)
  refine Pl.qA_loadw trivial rfl rfl rfl rfl rfl (Ib.load i_6__11) ?_
  have i_10__11 := Ib.ext i_10__9 (Ext.below hB10 hB11)
  refine Pl.qA_loadw trivial rfl rfl rfl rfl rfl (Ib.load i_10__11) ?_
  have h_x5__11 := Zn.below h_x5__9 (Ext.below hB10 hB11)
  have h_x9__11 := Zn.below h_x9__9 (Ext.below hB10 hB11)
  refine Pl.pA_call rfl rfl rfl rfl rfl en16 ?_
  refine Calls.mono (zexact_yes _ _ _ a b h_x5__11 h_x9__11 (Sz.le b_a (by decide)) (Sz.le b_b (by decide)) h0 hr _ rfl) ?_
  rintro e w12 ⟨v_x30, rfl, h_x30, hB12⟩
  refine ⟨_, rfl, trivial, ?_⟩
  have b_x30 : Sz (a / b) 40 := Sz.div b_a
  refine Pl.qA_move trivial rfl rfl rfl rfl rfl ?_
  refine Pl.qA_extract trivial rfl rfl rfl rfl rfl rfl ?_
  refine Pl.qA_extract trivial rfl rfl rfl rfl rfl rfl ?_
  obtain ⟨p_x30, A_x30, L_x30, c_x30, rfl⟩ := Zn.sh h_x30
  refine boxI rfl rfl rfl rfl rfl rfl rfl rfl (fun _ => rfl) (fun _ _ => trivial) ?_
  intro N31 w13 hB13 i_31
  refine Pl.qA_assign trivial rfl rfl rfl rfl rfl ?_
  refine Pl.pA_end ?_
  refine Pl.V_seq ?_
  refine Pl.V_region (by kernel_rfl) ?_
  have i_6__13 := Ib.ext i_6__11 (Ext.below hB12 hB13)
  refine Pl.qA_loadw trivial rfl rfl rfl rfl rfl (Ib.load i_6__13) ?_
  have i_10__13 := Ib.ext i_10__11 (Ext.below hB12 hB13)
  refine Pl.qA_loadw trivial rfl rfl rfl rfl rfl (Ib.load i_10__13) ?_
  have h_x5__13 := Zn.below h_x5__11 (Ext.below hB12 hB13)
  have h_x9__13 := Zn.below h_x9__11 (Ext.below hB12 hB13)
  refine Pl.pA_call rfl rfl rfl rfl rfl en17 ?_
  refine Calls.mono (rzexact_yes _ _ _ a b h_x5__13 h_x9__13 (Sz.le b_a (by decide)) (Sz.le b_b (by decide)) h0 hr _ rfl) ?_
  rintro e w14 ⟨v_x36, rfl, h_x36, hB14⟩
  refine ⟨_, rfl, trivial, ?_⟩
  have b_x36 : Sz (a / b) 40 := Sz.div b_a
  refine Pl.qA_move trivial rfl rfl rfl rfl rfl ?_
  refine Pl.qA_extract trivial rfl rfl rfl rfl rfl rfl ?_
  refine Pl.qA_extract trivial rfl rfl rfl rfl rfl rfl ?_
  obtain ⟨p_x36, A_x36, L_x36, c_x36, rfl⟩ := Zn.sh h_x36
  refine boxI rfl rfl rfl rfl rfl rfl rfl rfl (fun _ => rfl) (fun _ _ => trivial) ?_
  intro N37 w15 hB15 i_37
  refine Pl.qA_assign trivial rfl rfl rfl rfl rfl ?_
  refine Pl.pA_end ?_
  refine Pl.V_seq ?_
  refine Pl.V_seq ?_
  refine Pl.V_draw (S := fun X => Ext w15 X) [(true, 0, 0), (true, 2, 1), (false, 1, 5), (false, 3, 7), (true, 4, 15), (true, 5, 31), (true, 6, 63), (true, 7, 127), (true, 8, 255), (true, 10, 511), (true, 11, 1535), (true, 12, 3583), (false, 9, 7679), (false, 13, 8191), (false, 14, 16383), (true, 15, 32767), (true, 16, 65535), (true, 17, 131071), (true, 18, 262143), (true, 19, 524287), (true, 21, 1048575), (true, 22, 3145727), (false, 20, 7340031), (false, 23, 8388607), (true, 24, 16777215), (true, 25, 33554431), (true, 26, 67108863), (true, 27, 134217727), (true, 29, 268435455), (false, 28, 805306367), (false, 30, 1073741823), (true, 31, 2147483647), (true, 32, 4294967295), (true, 33, 8589934591), (true, 34, 17179869183), (true, 36, 34359738367), (false, 35, 103079215103), (false, 37, 137438953471), (false, 38, 274877906943), (true, 39, 549755813887), (true, 40, 1099511627775)] fo Pl.post_panic (by kernel_rfl) (Ext.drew (Ext.refl _)) ?_
  generalize w15.drew = w16
  intro hB16
  have hS16 := hB16
  have i_1__15 := Ib.ext i_1__3 (Ext.below hB4 (Ext.below hB5 (Ext.below hB6 (Ext.below hB7 (Ext.below hB8 (Ext.below hB9 (Ext.below hB10 (Ext.below hB11 (Ext.below hB12 (Ext.below hB13 (Ext.below hB14 hB15)))))))))))
  refine Pl.qA_load hS16 rfl rfl rfl rfl rfl (fun X hX => Ib.load (Ib.ext i_1__15 hX)) ?_
  refine Pl.qA_load hS16 rfl rfl rfl rfl rfl (fun X hX => Ib.load (Ib.ext i_1__15 hX)) ?_
  have r_a__16 := Ri.below r_a__3 (Ext.below hB4 (Ext.below hB5 (Ext.below hB6 (Ext.below hB7 (Ext.below hB8 (Ext.below hB9 (Ext.below hB10 (Ext.below hB11 (Ext.below hB12 (Ext.below hB13 (Ext.below hB14 (Ext.below hB15 hB16))))))))))))
  refine Pl.pA_call rfl rfl rfl rfl rfl en18 ?_
  refine Calls.mono (zright _ _ sa xsa r_a__16 _ rfl) ?_
  rintro e w17 ⟨rfl, hB17⟩
  have hS17 := Ext.below hS16 hB17
  refine ⟨_, rfl, hS17, ?_⟩
  have r_a__17 := Ri.below r_a__16 hB17
  refine Pl.pA_call rfl rfl rfl rfl rfl en19 ?_
  refine Calls.mono (rzright _ _ sa xsa r_a__17 _ rfl) ?_
  rintro e w18 ⟨rfl, hB18⟩
  have hS18 := Ext.below hS17 hB18
  refine ⟨_, rfl, hS18, ?_⟩
  refine Pl.qA_bin (v := (.bool false)) hS18 rfl rfl rfl rfl rfl rfl (fun X => b_neb (bne_self_eq_false _) X) ?_
  refine Pl.qA_move hS18 rfl rfl rfl rfl rfl ?_
  refine Pl.qA_move hS18 rfl rfl rfl rfl rfl ?_
  refine qA_field hS18 rfl rfl rfl rfl rfl (fa_mag _) ?_
  refine Pl.qA_load hS18 rfl rfl rfl rfl rfl (fun X hX => Ib.mag (Ib.ext i_1__15 hX)) ?_
  refine Pl.qA_move hS18 rfl rfl rfl rfl rfl ?_
  refine qA_field hS18 rfl rfl rfl rfl rfl (fa_mag _) ?_
  refine Pl.qA_load hS18 rfl rfl rfl rfl rfl (fun X hX => Ib.mag (Ib.ext i_1__15 hX)) ?_
  have ua__18 := U.below ua (Ext.below hB1 (Ext.below hB2 (Ext.below hB3 (Ext.below hB4 (Ext.below hB5 (Ext.below hB6 (Ext.below hB7 (Ext.below hB8 (Ext.below hB9 (Ext.below hB10 (Ext.below hB11 (Ext.below hB12 (Ext.below hB13 (Ext.below hB14 (Ext.below hB15 (Ext.below hB16 (Ext.below hB17 hB18)))))))))))))))))
  refine Pl.pA_call rfl rfl rfl rfl rfl en21 ?_
  refine Calls.mono (zmake _ t2 _ xsa ua__18 _ rfl _ rfl) ?_
  rintro e w19 ⟨v_x41, rfl, h_x41, hB19⟩
  have hS19 := Ext.below hS18 hB19
  refine ⟨_, rfl, hS19, ?_⟩
  have b_x41 : Sz (sg t2 (val xsa)) 200 := Sz.mag ua__18 t2 200 (Nat.le_of_not_lt hx0)
  have ua__19 := U.below ua__18 hB19
  refine Pl.pA_call rfl rfl rfl rfl rfl en22 ?_
  refine Calls.mono (rzmake _ t2 _ xsa ua__19 (Nat.le_trans (Nat.le_of_not_lt hx0) (by decide)) _ rfl _ rfl) ?_
  rintro e w20 ⟨v_x43, rfl, h_x43, hB20⟩
  have hS20 := Ext.below hS19 hB20
  refine ⟨_, rfl, hS20, ?_⟩
  have b_x43 : Sz (sg t2 (val xsa)) 200 := Sz.mag ua__19 t2 200 (Nat.le_of_not_lt hx0)
  have h_x41__20 := Zn.below h_x41 hB20
  refine Pl.pA_call rfl rfl rfl rfl rfl en20 ?_
  refine Calls.mono (rzsame _ _ _ (sg t2 (val xsa)) (sg t2 (val xsa)) h_x41__20 h_x43 (Sz.le b_x41 (by decide)) (Sz.le b_x43 (by decide)) true (decide_eq_true rfl)) ?_
  rintro e w21 ⟨rfl, hB21⟩
  have hS21 := Ext.below hS20 hB21
  refine ⟨_, rfl, hS21, ?_⟩
  refine Pl.qA_un (v := (.bool false)) hS21 rfl rfl rfl rfl rfl (fun X => rfl) ?_
  refine Pl.qA_pick hS21 rfl rfl rfl rfl rfl rfl ?_
  refine Pl.qA_move hS21 rfl rfl rfl rfl rfl ?_
  have i_6__15 := Ib.ext i_6__13 (Ext.below hB14 hB15)
  refine Pl.qA_load hS21 rfl rfl rfl rfl rfl (fun X hX => Ib.load (Ib.ext i_6__15 hX)) ?_
  have i_10__15 := Ib.ext i_10__13 (Ext.below hB14 hB15)
  refine Pl.qA_load hS21 rfl rfl rfl rfl rfl (fun X hX => Ib.load (Ib.ext i_10__15 hX)) ?_
  refine Pl.qA_load hS21 rfl rfl rfl rfl rfl (fun X hX => Ib.load (Ib.ext i_6__15 hX)) ?_
  refine Pl.qA_load hS21 rfl rfl rfl rfl rfl (fun X hX => Ib.load (Ib.ext i_10__15 hX)) ?_
  have h_x5__21 := Zn.below h_x5__13 (Ext.below hB14 (Ext.below hB15 (Ext.below hB16 (Ext.below hB17 (Ext.below hB18 (Ext.below hB19 (Ext.below hB20 hB21)))))))
  have h_x9__21 := Zn.below h_x9__13 (Ext.below hB14 (Ext.below hB15 (Ext.below hB16 (Ext.below hB17 (Ext.below hB18 (Ext.below hB19 (Ext.below hB20 hB21)))))))
  refine Pl.pA_call rfl rfl rfl rfl rfl en23 ?_
  refine Calls.mono (zcmp _ _ _ a b h_x5__21 h_x9__21 (cmpI a b) rfl) ?_
  rintro e w22 ⟨rfl, hB22⟩
  have hS22 := Ext.below hS21 hB22
  refine ⟨_, rfl, hS22, ?_⟩
  have h_x5__22 := Zn.below h_x5__21 hB22
  have h_x9__22 := Zn.below h_x9__21 hB22
  refine Pl.pA_call rfl rfl rfl rfl rfl en24 ?_
  refine Calls.mono (rzcmp _ _ _ a b h_x5__22 h_x9__22 (Sz.le b_a (by decide)) (Sz.le b_b (by decide)) (cmpI a b) rfl) ?_
  rintro e w23 ⟨rfl, hB23⟩
  have hS23 := Ext.below hS22 hB23
  refine ⟨_, rfl, hS23, ?_⟩
  refine Pl.qA_bin (v := (.bool false)) hS23 rfl rfl rfl rfl rfl rfl (fun X => b_neq (bne_self_eq_false _) X) ?_
  refine Pl.qA_pick hS23 rfl rfl rfl rfl rfl rfl ?_
  refine Pl.qA_move hS23 rfl rfl rfl rfl rfl ?_
  refine Pl.qA_load hS23 rfl rfl rfl rfl rfl (fun X hX => Ib.load (Ib.ext i_6__15 hX)) ?_
  refine Pl.qA_load hS23 rfl rfl rfl rfl rfl (fun X hX => Ib.load (Ib.ext i_6__15 hX)) ?_
  have h_x5__23 := Zn.below h_x5__22 hB23
  refine Pl.pA_call rfl rfl rfl rfl rfl en25 ?_
  refine Calls.mono (zsign _ _ a h_x5__23 (Int.sign a) rfl) ?_
  rintro e w24 ⟨rfl, hB24⟩
  have hS24 := Ext.below hS23 hB24
  refine ⟨_, rfl, hS24, ?_⟩
  have h_x5__24 := Zn.below h_x5__23 hB24
  refine Pl.pA_call rfl rfl rfl rfl rfl en26 ?_
  refine Calls.mono (rzsign _ _ a h_x5__24 (Sz.le b_a (by decide)) (Int.sign a) rfl) ?_
  rintro e w25 ⟨rfl, hB25⟩
  have hS25 := Ext.below hS24 hB25
  refine ⟨_, rfl, hS25, ?_⟩
  refine Pl.qA_bin (v := (.bool false)) hS25 rfl rfl rfl rfl rfl rfl (fun X => b_neq (bne_self_eq_false _) X) ?_
  refine Pl.qA_pick hS25 rfl rfl rfl rfl rfl rfl ?_
  refine Pl.qA_move hS25 rfl rfl rfl rfl rfl ?_
  refine Pl.qA_load hS25 rfl rfl rfl rfl rfl (fun X hX => Ib.load (Ib.ext i_6__15 hX)) ?_
  refine Pl.qA_load hS25 rfl rfl rfl rfl rfl (fun X hX => Ib.load (Ib.ext i_6__15 hX)) ?_
  have h_x5__25 := Zn.below h_x5__24 hB25
  refine Pl.pA_call rfl rfl rfl rfl rfl en27 ?_
  refine Calls.mono (zneg _ _ a h_x5__25 _ rfl) ?_
  rintro e w26 ⟨v_x52, rfl, h_x52, hB26⟩
  have hS26 := Ext.below hS25 hB26
  refine ⟨_, rfl, hS26, ?_⟩
  have b_x52 : Sz (-a) 40 := Sz.neg b_a
  have h_x5__26 := Zn.below h_x5__25 hB26
  refine Pl.pA_call rfl rfl rfl rfl rfl en28 ?_
  refine Calls.mono (rzneg _ _ a h_x5__26 (Sz.le b_a (by decide)) _ rfl) ?_
  rintro e w27 ⟨v_x54, rfl, h_x54, hB27⟩
  have hS27 := Ext.below hS26 hB27
  refine ⟨_, rfl, hS27, ?_⟩
  have b_x54 : Sz (-a) 40 := Sz.neg b_a
  have h_x52__27 := Zn.below h_x52 hB27
  refine Pl.pA_call rfl rfl rfl rfl rfl en20 ?_
  refine Calls.mono (rzsame _ _ _ (-a) (-a) h_x52__27 h_x54 (Sz.le b_x52 (by decide)) (Sz.le b_x54 (by decide)) true (decide_eq_true rfl)) ?_
  rintro e w28 ⟨rfl, hB28⟩
  have hS28 := Ext.below hS27 hB28
  refine ⟨_, rfl, hS28, ?_⟩
  refine Pl.qA_un (v := (.bool false)) hS28 rfl rfl rfl rfl rfl (fun X => rfl) ?_
  refine Pl.qA_pick hS28 rfl rfl rfl rfl rfl rfl ?_
  refine Pl.pA_end ?_
  refine Pl.V_false rfl ?_
  refine Pl.V_skip ?_
  refine Pl.V_seq ?_
  refine Pl.V_seq ?_
  refine Pl.V_region (by kernel_rfl) ?_
  have i_16__28 := Ib.ext i_16 (Ext.below hB10 (Ext.below hB11 (Ext.below hB12 (Ext.below hB13 (Ext.below hB14 (Ext.below hB15 (Ext.below hB16 (Ext.below hB17 (Ext.below hB18 (Ext.below hB19 (Ext.below hB20 (Ext.below hB21 (Ext.below hB22 (Ext.below hB23 (Ext.below hB24 (Ext.below hB25 (Ext.below hB26 (Ext.below hB27 hB28))))))))))))))))))
  refine Pl.qA_loadw trivial rfl rfl rfl rfl rfl (Ib.load i_16__28) ?_
  have i_24__28 := Ib.ext i_24 (Ext.below hB12 (Ext.below hB13 (Ext.below hB14 (Ext.below hB15 (Ext.below hB16 (Ext.below hB17 (Ext.below hB18 (Ext.below hB19 (Ext.below hB20 (Ext.below hB21 (Ext.below hB22 (Ext.below hB23 (Ext.below hB24 (Ext.below hB25 (Ext.below hB26 (Ext.below hB27 hB28))))))))))))))))
  refine Pl.qA_loadw trivial rfl rfl rfl rfl rfl (Ib.load i_24__28) ?_
  have h_x14__28 := Zn.below h_x14 (Ext.below hB9 (Ext.below hB10 (Ext.below hB11 (Ext.below hB12 (Ext.below hB13 (Ext.below hB14 (Ext.below hB15 (Ext.below hB16 (Ext.below hB17 (Ext.below hB18 (Ext.below hB19 (Ext.below hB20 (Ext.below hB21 (Ext.below hB22 (Ext.below hB23 (Ext.below hB24 (Ext.below hB25 (Ext.below hB26 (Ext.below hB27 hB28)))))))))))))))))))
  have h_x22__28 := Zn.below h_x22 (Ext.below hB11 (Ext.below hB12 (Ext.below hB13 (Ext.below hB14 (Ext.below hB15 (Ext.below hB16 (Ext.below hB17 (Ext.below hB18 (Ext.below hB19 (Ext.below hB20 (Ext.below hB21 (Ext.below hB22 (Ext.below hB23 (Ext.below hB24 (Ext.below hB25 (Ext.below hB26 (Ext.below hB27 hB28)))))))))))))))))
  refine Pl.pA_call rfl rfl rfl rfl rfl en20 ?_
  refine Calls.mono (rzsame _ _ _ (a / b) (a / b) h_x14__28 h_x22__28 (Sz.le b_x14 (by decide)) (Sz.le b_x22 (by decide)) true (decide_eq_true rfl)) ?_
  rintro e w29 ⟨rfl, hB29⟩
  refine ⟨_, rfl, trivial, ?_⟩
  refine Pl.qA_un (v := (.bool false)) trivial rfl rfl rfl rfl rfl (fun X => rfl) ?_
  refine Pl.qA_move trivial rfl rfl rfl rfl rfl ?_
  have i_17__29 := Ib.ext i_17 (Ext.below hB10 (Ext.below hB11 (Ext.below hB12 (Ext.below hB13 (Ext.below hB14 (Ext.below hB15 (Ext.below hB16 (Ext.below hB17 (Ext.below hB18 (Ext.below hB19 (Ext.below hB20 (Ext.below hB21 (Ext.below hB22 (Ext.below hB23 (Ext.below hB24 (Ext.below hB25 (Ext.below hB26 (Ext.below hB27 (Ext.below hB28 hB29)))))))))))))))))))
  refine Pl.qA_loadw trivial rfl rfl rfl rfl rfl (Ib.load i_17__29) ?_
  have i_25__29 := Ib.ext i_25 (Ext.below hB12 (Ext.below hB13 (Ext.below hB14 (Ext.below hB15 (Ext.below hB16 (Ext.below hB17 (Ext.below hB18 (Ext.below hB19 (Ext.below hB20 (Ext.below hB21 (Ext.below hB22 (Ext.below hB23 (Ext.below hB24 (Ext.below hB25 (Ext.below hB26 (Ext.below hB27 (Ext.below hB28 hB29)))))))))))))))))
  refine Pl.qA_loadw trivial rfl rfl rfl rfl rfl (Ib.load i_25__29) ?_
  have h_x15__29 := Zn.below h_x15 (Ext.below hB9 (Ext.below hB10 (Ext.below hB11 (Ext.below hB12 (Ext.below hB13 (Ext.below hB14 (Ext.below hB15 (Ext.below hB16 (Ext.below hB17 (Ext.below hB18 (Ext.below hB19 (Ext.below hB20 (Ext.below hB21 (Ext.below hB22 (Ext.below hB23 (Ext.below hB24 (Ext.below hB25 (Ext.below hB26 (Ext.below hB27 (Ext.below hB28 hB29))))))))))))))))))))
  have h_x23__29 := Zn.below h_x23 (Ext.below hB11 (Ext.below hB12 (Ext.below hB13 (Ext.below hB14 (Ext.below hB15 (Ext.below hB16 (Ext.below hB17 (Ext.below hB18 (Ext.below hB19 (Ext.below hB20 (Ext.below hB21 (Ext.below hB22 (Ext.below hB23 (Ext.below hB24 (Ext.below hB25 (Ext.below hB26 (Ext.below hB27 (Ext.below hB28 hB29))))))))))))))))))
  refine Pl.pA_call rfl rfl rfl rfl rfl en20 ?_
  refine Calls.mono (rzsame _ _ _ (a % b) (a % b) h_x15__29 h_x23__29 (Sz.le b_x15 (by decide)) (Sz.le b_x23 (by decide)) true (decide_eq_true rfl)) ?_
  rintro e w30 ⟨rfl, hB30⟩
  refine ⟨_, rfl, trivial, ?_⟩
  refine Pl.qA_un (v := (.bool false)) trivial rfl rfl rfl rfl rfl (fun X => rfl) ?_
  refine Pl.qA_pick trivial rfl rfl rfl rfl rfl rfl ?_
  refine Pl.qA_move trivial rfl rfl rfl rfl rfl ?_
  refine Pl.qA_move trivial rfl rfl rfl rfl rfl ?_
  refine Pl.qA_move trivial rfl rfl rfl rfl rfl ?_
  refine Pl.qA_bin (v := (.bool false)) trivial rfl rfl rfl rfl rfl rfl (fun X => by go_simp) ?_
  refine Pl.qA_pick trivial rfl rfl rfl rfl rfl rfl ?_
  refine Pl.qA_move trivial rfl rfl rfl rfl rfl ?_
  have i_31__30 := Ib.ext i_31 (Ext.below hB14 (Ext.below hB15 (Ext.below hB16 (Ext.below hB17 (Ext.below hB18 (Ext.below hB19 (Ext.below hB20 (Ext.below hB21 (Ext.below hB22 (Ext.below hB23 (Ext.below hB24 (Ext.below hB25 (Ext.below hB26 (Ext.below hB27 (Ext.below hB28 (Ext.below hB29 hB30))))))))))))))))
  refine Pl.qA_loadw trivial rfl rfl rfl rfl rfl (Ib.load i_31__30) ?_
  have i_37__30 := Ib.ext i_37 (Ext.below hB16 (Ext.below hB17 (Ext.below hB18 (Ext.below hB19 (Ext.below hB20 (Ext.below hB21 (Ext.below hB22 (Ext.below hB23 (Ext.below hB24 (Ext.below hB25 (Ext.below hB26 (Ext.below hB27 (Ext.below hB28 (Ext.below hB29 hB30))))))))))))))
  refine Pl.qA_loadw trivial rfl rfl rfl rfl rfl (Ib.load i_37__30) ?_
  have h_x30__30 := Zn.below h_x30 (Ext.below hB13 (Ext.below hB14 (Ext.below hB15 (Ext.below hB16 (Ext.below hB17 (Ext.below hB18 (Ext.below hB19 (Ext.below hB20 (Ext.below hB21 (Ext.below hB22 (Ext.below hB23 (Ext.below hB24 (Ext.below hB25 (Ext.below hB26 (Ext.below hB27 (Ext.below hB28 (Ext.below hB29 hB30)))))))))))))))))
  have h_x36__30 := Zn.below h_x36 (Ext.below hB15 (Ext.below hB16 (Ext.below hB17 (Ext.below hB18 (Ext.below hB19 (Ext.below hB20 (Ext.below hB21 (Ext.below hB22 (Ext.below hB23 (Ext.below hB24 (Ext.below hB25 (Ext.below hB26 (Ext.below hB27 (Ext.below hB28 (Ext.below hB29 hB30)))))))))))))))
  refine Pl.pA_call rfl rfl rfl rfl rfl en20 ?_
  refine Calls.mono (rzsame _ _ _ (a / b) (a / b) h_x30__30 h_x36__30 (Sz.le b_x30 (by decide)) (Sz.le b_x36 (by decide)) true (decide_eq_true rfl)) ?_
  rintro e w31 ⟨rfl, hB31⟩
  refine ⟨_, rfl, trivial, ?_⟩
  refine Pl.qA_un (v := (.bool false)) trivial rfl rfl rfl rfl rfl (fun X => rfl) ?_
  refine Pl.qA_pick trivial rfl rfl rfl rfl rfl rfl ?_
  refine Pl.qA_move trivial rfl rfl rfl rfl rfl ?_
  refine Pl.qA_move trivial rfl rfl rfl rfl rfl ?_
  refine Pl.qA_move trivial rfl rfl rfl rfl rfl ?_
  refine Pl.qA_bin (v := (.bool false)) trivial rfl rfl rfl rfl rfl rfl (fun X => by go_simp) ?_
  refine Pl.qA_pick trivial rfl rfl rfl rfl rfl rfl ?_
  refine Pl.pA_end ?_
  refine Pl.V_false rfl ?_
  refine Pl.V_skip ?_
  refine Pl.V_seq ?_
  refine Pl.V_draw (S := fun X => Ext w31 X) [(true, 0, 0), (true, 1, 1), (true, 2, 3), (true, 3, 7), (true, 5, 15), (true, 6, 47), (false, 4, 111), (false, 7, 127), (false, 8, 255), (true, 9, 511), (true, 10, 1023), (true, 11, 2047), (true, 12, 4095), (true, 14, 8191), (true, 15, 24575), (false, 13, 57343), (false, 16, 65535), (false, 17, 131071), (true, 18, 262143), (true, 19, 524287), (true, 20, 1048575), (true, 21, 2097151), (true, 23, 4194303), (true, 24, 12582911), (false, 22, 29360127), (false, 25, 33554431), (false, 26, 67108863), (true, 27, 134217727), (true, 28, 268435455)] fo Pl.post_panic (by kernel_rfl) (Ext.drew (Ext.refl _)) ?_
  generalize w31.drew = w32
  intro hB32
  have hS32 := hB32
  refine Pl.qA_move hS32 rfl rfl rfl rfl rfl ?_
  refine Pl.qA_move hS32 rfl rfl rfl rfl rfl ?_
  have i_6__31 := Ib.ext i_6__15 (Ext.below hB16 (Ext.below hB17 (Ext.below hB18 (Ext.below hB19 (Ext.below hB20 (Ext.below hB21 (Ext.below hB22 (Ext.below hB23 (Ext.below hB24 (Ext.below hB25 (Ext.below hB26 (Ext.below hB27 (Ext.below hB28 (Ext.below hB29 (Ext.below hB30 hB31)))))))))))))))
  refine Pl.qA_load hS32 rfl rfl rfl rfl rfl (fun X hX => Ib.load (Ib.ext i_6__31 hX)) ?_
  have i_10__31 := Ib.ext i_10__15 (Ext.below hB16 (Ext.below hB17 (Ext.below hB18 (Ext.below hB19 (Ext.below hB20 (Ext.below hB21 (Ext.below hB22 (Ext.below hB23 (Ext.below hB24 (Ext.below hB25 (Ext.below hB26 (Ext.below hB27 (Ext.below hB28 (Ext.below hB29 (Ext.below hB30 hB31)))))))))))))))
  refine Pl.qA_load hS32 rfl rfl rfl rfl rfl (fun X hX => Ib.load (Ib.ext i_10__31 hX)) ?_
  refine Pl.qA_load hS32 rfl rfl rfl rfl rfl (fun X hX => Ib.load (Ib.ext i_6__31 hX)) ?_
  refine Pl.qA_load hS32 rfl rfl rfl rfl rfl (fun X hX => Ib.load (Ib.ext i_10__31 hX)) ?_
  have h_x5__32 := Zn.below h_x5__26 (Ext.below hB27 (Ext.below hB28 (Ext.below hB29 (Ext.below hB30 (Ext.below hB31 hB32)))))
  have h_x9__32 := Zn.below h_x9__22 (Ext.below hB23 (Ext.below hB24 (Ext.below hB25 (Ext.below hB26 (Ext.below hB27 (Ext.below hB28 (Ext.below hB29 (Ext.below hB30 (Ext.below hB31 hB32)))))))))
  refine Pl.pA_call rfl rfl rfl rfl rfl en29 ?_
  refine Calls.mono (zadd _ _ _ a b h_x5__32 h_x9__32 (Sz.le b_a (by decide)) (Sz.le b_b (by decide)) _ rfl) ?_
  rintro e w33 ⟨v_x70, rfl, h_x70, hB33⟩
  have hS33 := Ext.below hS32 hB33
  refine ⟨_, rfl, hS33, ?_⟩
  have b_x70 : Sz (a + b) 41 := Sz.add b_a b_b (by decide) (by decide)
  have h_x5__33 := Zn.below h_x5__32 hB33
  have h_x9__33 := Zn.below h_x9__32 hB33
  refine Pl.pA_call rfl rfl rfl rfl rfl en30 ?_
  refine Calls.mono (rzadd _ _ _ a b h_x5__33 h_x9__33 (Sz.le b_a (by decide)) (Sz.le b_b (by decide)) _ rfl) ?_
  rintro e w34 ⟨v_x73, rfl, h_x73, hB34⟩
  have hS34 := Ext.below hS33 hB34
  refine ⟨_, rfl, hS34, ?_⟩
  have b_x73 : Sz (a + b) 41 := Sz.add b_a b_b (by decide) (by decide)
  have h_x70__34 := Zn.below h_x70 hB34
  refine Pl.pA_call rfl rfl rfl rfl rfl en20 ?_
  refine Calls.mono (rzsame _ _ _ (a + b) (a + b) h_x70__34 h_x73 (Sz.le b_x70 (by decide)) (Sz.le b_x73 (by decide)) true (decide_eq_true rfl)) ?_
  rintro e w35 ⟨rfl, hB35⟩
  have hS35 := Ext.below hS34 hB35
  refine ⟨_, rfl, hS35, ?_⟩
  refine Pl.qA_pick hS35 rfl rfl rfl rfl rfl rfl ?_
  refine Pl.qA_move hS35 rfl rfl rfl rfl rfl ?_
  refine Pl.qA_load hS35 rfl rfl rfl rfl rfl (fun X hX => Ib.load (Ib.ext i_6__31 hX)) ?_
  refine Pl.qA_load hS35 rfl rfl rfl rfl rfl (fun X hX => Ib.load (Ib.ext i_10__31 hX)) ?_
  refine Pl.qA_load hS35 rfl rfl rfl rfl rfl (fun X hX => Ib.load (Ib.ext i_6__31 hX)) ?_
  refine Pl.qA_load hS35 rfl rfl rfl rfl rfl (fun X hX => Ib.load (Ib.ext i_10__31 hX)) ?_
  have h_x5__35 := Zn.below h_x5__33 (Ext.below hB34 hB35)
  have h_x9__35 := Zn.below h_x9__33 (Ext.below hB34 hB35)
  refine Pl.pA_call rfl rfl rfl rfl rfl en31 ?_
  refine Calls.mono (zsub _ _ _ a b h_x5__35 h_x9__35 (Sz.le b_a (by decide)) (Sz.le b_b (by decide)) _ rfl) ?_
  rintro e w36 ⟨v_x77, rfl, h_x77, hB36⟩
  have hS36 := Ext.below hS35 hB36
  refine ⟨_, rfl, hS36, ?_⟩
  have b_x77 : Sz (a - b) 41 := Sz.sub b_a b_b (by decide) (by decide)
  have h_x5__36 := Zn.below h_x5__35 hB36
  have h_x9__36 := Zn.below h_x9__35 hB36
  refine Pl.pA_call rfl rfl rfl rfl rfl en32 ?_
  refine Calls.mono (rzsub _ _ _ a b h_x5__36 h_x9__36 (Sz.le b_a (by decide)) (Sz.le b_b (by decide)) _ rfl) ?_
  rintro e w37 ⟨v_x80, rfl, h_x80, hB37⟩
  have hS37 := Ext.below hS36 hB37
  refine ⟨_, rfl, hS37, ?_⟩
  have b_x80 : Sz (a - b) 41 := Sz.sub b_a b_b (by decide) (by decide)
  have h_x77__37 := Zn.below h_x77 hB37
  refine Pl.pA_call rfl rfl rfl rfl rfl en20 ?_
  refine Calls.mono (rzsame _ _ _ (a - b) (a - b) h_x77__37 h_x80 (Sz.le b_x77 (by decide)) (Sz.le b_x80 (by decide)) true (decide_eq_true rfl)) ?_
  rintro e w38 ⟨rfl, hB38⟩
  have hS38 := Ext.below hS37 hB38
  refine ⟨_, rfl, hS38, ?_⟩
  refine Pl.qA_pick hS38 rfl rfl rfl rfl rfl rfl ?_
  refine Pl.qA_move hS38 rfl rfl rfl rfl rfl ?_
  refine Pl.qA_load hS38 rfl rfl rfl rfl rfl (fun X hX => Ib.load (Ib.ext i_6__31 hX)) ?_
  refine Pl.qA_load hS38 rfl rfl rfl rfl rfl (fun X hX => Ib.load (Ib.ext i_10__31 hX)) ?_
  refine Pl.qA_load hS38 rfl rfl rfl rfl rfl (fun X hX => Ib.load (Ib.ext i_6__31 hX)) ?_
  refine Pl.qA_load hS38 rfl rfl rfl rfl rfl (fun X hX => Ib.load (Ib.ext i_10__31 hX)) ?_
  have h_x5__38 := Zn.below h_x5__36 (Ext.below hB37 hB38)
  have h_x9__38 := Zn.below h_x9__36 (Ext.below hB37 hB38)
  refine Pl.pA_call rfl rfl rfl rfl rfl en33 ?_
  refine Calls.mono (zmul _ _ _ a b h_x5__38 h_x9__38 (Sz.le b_a (by decide)) (Sz.le b_b (by decide)) _ rfl) ?_
  rintro e w39 ⟨v_x84, rfl, h_x84, hB39⟩
  have hS39 := Ext.below hS38 hB39
  refine ⟨_, rfl, hS39, ?_⟩
  have b_x84 : Sz (a * b) 80 := Sz.mul b_a b_b (by decide)
  have h_x5__39 := Zn.below h_x5__38 hB39
  have h_x9__39 := Zn.below h_x9__38 hB39
  refine Pl.pA_call rfl rfl rfl rfl rfl en34 ?_
  refine Calls.mono (rzmul _ _ _ a b h_x5__39 h_x9__39 (Sz.le b_a (by decide)) (Sz.le b_b (by decide)) _ rfl) ?_
  rintro e w40 ⟨v_x87, rfl, h_x87, hB40⟩
  have hS40 := Ext.below hS39 hB40
  refine ⟨_, rfl, hS40, ?_⟩
  have b_x87 : Sz (a * b) 80 := Sz.mul b_a b_b (by decide)
  have h_x84__40 := Zn.below h_x84 hB40
  refine Pl.pA_call rfl rfl rfl rfl rfl en20 ?_
  refine Calls.mono (rzsame _ _ _ (a * b) (a * b) h_x84__40 h_x87 (Sz.le b_x84 (by decide)) (Sz.le b_x87 (by decide)) true (decide_eq_true rfl)) ?_
  rintro e w41 ⟨rfl, hB41⟩
  have hS41 := Ext.below hS40 hB41
  refine ⟨_, rfl, hS41, ?_⟩
  refine Pl.qA_pick hS41 rfl rfl rfl rfl rfl rfl ?_
  refine Pl.qA_assign hS41 rfl rfl rfl rfl rfl ?_
  refine Pl.pA_end ?_
  refine Pl.post_ret rfl rfl ?_
  exact ⟨rfl, (Ext.below hB1 (Ext.below hB2 (Ext.below hB3 (Ext.below hB4 (Ext.below hB5 (Ext.below hB6 (Ext.below hB7 (Ext.below hB8 (Ext.below hB9 (Ext.below hB10 (Ext.below hB11 (Ext.below hB12 (Ext.below hB13 (Ext.below hB14 (Ext.below hB15 (Ext.below hB16 (Ext.below hB17 (Ext.below hB18 (Ext.below hB19 (Ext.below hB20 (Ext.below hB21 (Ext.below hB22 (Ext.below hB23 (Ext.below hB24 (Ext.below hB25 (Ext.below hB26 (Ext.below hB27 (Ext.below hB28 (Ext.below hB29 (Ext.below hB30 (Ext.below hB31 (Ext.below hB32 (Ext.below hB33 (Ext.below hB34 (Ext.below hB35 (Ext.below hB36 (Ext.below hB37 (Ext.below hB38 (Ext.below hB39 (Ext.below hB40 hB41))))))))))))))))))))))))))))))))))))))))⟩
set_option maxRecDepth 100000 in
set_option maxHeartbeats 4000000 in
theorem IntegerTells_walkN (w : World) (sa : Bool) (Aa : Option Addr) (ca : Nat) (xsa : List Nat) (ua : U w (.slice Aa xsa.length ca) xsa) (sb : Bool) (Ab : Option Addr) (cb : Nat) (xsb : List Nat) (ub : U w (.slice Ab xsb.length cb) xsb) (t2 : Bool) (hx : ¬ (200 : Int) < (xsa.length : Nat)) (h0 : sg sb (cutN xsb 40) ≠ 0) (hr : sg sa (cutN xsa 40) % sg sb (cutN xsb 40) ≠ 0) :
    Calls Tryz.prog 3 #[.agg #[.bool sa, .slice Aa xsa.length ca], .agg #[.bool sb, .slice Ab xsb.length cb], .bool t2] w fun e w' => e = .returned (.bool true) ∧ Ext w w' := by
  have r_a : Ri w (.agg #[.bool sa, .slice Aa xsa.length ca]) sa xsa := ⟨_, _, rfl, ua⟩
  obtain ⟨a, e_a⟩ : ∃ z, sg sa (cutN xsa 40) = z := ⟨_, rfl⟩
  have b_a : Sz a 40 := by rw [← e_a]; exact Sz.cut ua sa 40 40 (Nat.le_refl _)
  have r_b : Ri w (.agg #[.bool sb, .slice Ab xsb.length cb]) sb xsb := ⟨_, _, rfl, ub⟩
  obtain ⟨b, e_b⟩ : ∃ z, sg sb (cutN xsb 40) = z := ⟨_, rfl⟩
  have b_b : Sz b 40 := by rw [← e_b]; exact Sz.cut ub sb 40 40 (Nat.le_refl _)
  have hx0 : ¬ 200 < xsa.length := fun h => hx (by omega)
  rw [e_b] at h0
  rw [e_a, e_b] at hr
  refine Pl.calls_by (n := 151) (vs := [.agg #[.bool sa, .slice Aa xsa.length ca], .agg #[.bool sb, .slice Ab xsb.length cb], .bool t2]) Tryz.func3 rfl (by kernel_rfl) (by simp) ?_
  refine Pl.V_seq ?_
  refine Pl.V_region (by kernel_rfl) ?_
  refine boxS rfl rfl rfl rfl rfl (fun _ _ => trivial) ?_
  intro N1 w1 hB1 i_1
  refine boxS rfl rfl rfl rfl rfl (fun _ _ => trivial) ?_
  intro N2 w2 hB2 i_2
  refine Pl.qA_assign trivial rfl rfl rfl rfl rfl ?_
  refine Pl.pA_end ?_
  refine Pl.V_seq ?_
  refine Pl.V_region (by kernel_rfl) ?_
  refine Pl.pA_call rfl rfl rfl rfl rfl en12 ?_
  refine Calls.mono (zhead _) ?_
  rintro e w3 ⟨rfl, hB3⟩
  refine ⟨_, rfl, trivial, ?_⟩
  refine Pl.qA_assign trivial rfl rfl rfl rfl rfl ?_
  refine Pl.pA_end ?_
  refine Pl.V_seq ?_
  refine Pl.V_seq ?_
  refine Pl.V_region (by kernel_rfl) ?_
  refine qA_field trivial rfl rfl rfl rfl rfl (fa_mag _) ?_
  have i_1__3 := Ib.ext i_1 (Ext.below hB2 hB3)
  refine Pl.qA_loadw trivial rfl rfl rfl rfl rfl (Ib.mag i_1__3) ?_
  refine qA_len trivial rfl rfl rfl rfl rfl ?_
  refine Pl.qA_bin (v := (.bool false)) trivial rfl rfl rfl rfl rfl rfl (fun X => b_gtr (decide_eq_false hx) X) ?_
  refine Pl.pA_end ?_
  refine Pl.V_false rfl ?_
  refine Pl.V_skip ?_
  refine Pl.V_seq ?_
  refine Pl.V_region (by kernel_rfl) ?_
  refine Pl.qA_loadw trivial rfl rfl rfl rfl rfl (Ib.load i_1__3) ?_
  have r_a__3 := Ri.below r_a (Ext.below hB1 (Ext.below hB2 hB3))
  refine Pl.pA_call rfl rfl rfl rfl rfl en13 ?_
  refine Calls.mono (lmade _ _ sa xsa r_a__3 a e_a) ?_
  rintro e w4 ⟨v_x5, rfl, h_x5, hB4⟩
  refine ⟨_, rfl, trivial, ?_⟩
  obtain ⟨p_x5, A_x5, L_x5, c_x5, rfl⟩ := Zn.sh h_x5
  refine boxI rfl rfl rfl rfl rfl rfl rfl rfl (fun _ => rfl) (fun _ _ => trivial) ?_
  intro N6 w5 hB5 i_6
  refine Pl.pA_end ?_
  refine Pl.V_seq ?_
  refine Pl.V_region (by kernel_rfl) ?_
  have i_2__5 := Ib.ext i_2 (Ext.below hB3 (Ext.below hB4 hB5))
  refine Pl.qA_loadw trivial rfl rfl rfl rfl rfl (Ib.load i_2__5) ?_
  have r_b__5 := Ri.below r_b (Ext.below hB1 (Ext.below hB2 (Ext.below hB3 (Ext.below hB4 hB5))))
  refine Pl.pA_call rfl rfl rfl rfl rfl en13 ?_
  refine Calls.mono (lmade _ _ sb xsb r_b__5 b e_b) ?_
  rintro e w6 ⟨v_x9, rfl, h_x9, hB6⟩
  refine ⟨_, rfl, trivial, ?_⟩
  obtain ⟨p_x9, A_x9, L_x9, c_x9, rfl⟩ := Zn.sh h_x9
  refine boxI rfl rfl rfl rfl rfl rfl rfl rfl (fun _ => rfl) (fun _ _ => trivial) ?_
  intro N10 w7 hB7 i_10
  refine Pl.pA_end ?_
  refine Pl.V_seq ?_
  refine Pl.V_region (by kernel_rfl) ?_
  have i_6__7 := Ib.ext i_6 (Ext.below hB6 hB7)
  refine Pl.qA_loadw trivial rfl rfl rfl rfl rfl (Ib.load i_6__7) ?_
  refine Pl.qA_loadw trivial rfl rfl rfl rfl rfl (Ib.load i_10) ?_
  have h_x5__7 := Zn.below h_x5 (Ext.below hB5 (Ext.below hB6 hB7))
  have h_x9__7 := Zn.below h_x9 hB7
  refine Pl.pA_call rfl rfl rfl rfl rfl en14 ?_
  refine Calls.mono (zdiv_D _ _ _ a b h_x5__7 h_x9__7 (Sz.le b_a (by decide)) (Sz.le b_b (by decide)) h0 _ _ rfl rfl) ?_
  rintro e w8 ⟨⟨v_x14, v_x15, rfl, h_x14, h_x15⟩, hB8⟩
  refine ⟨_, rfl, trivial, ?_⟩
  have b_x14 : Sz (a / b) 40 := Sz.div b_a
  have b_x15 : Sz (a % b) 40 := Sz.mod b_b h0
  refine Pl.qA_move trivial rfl rfl rfl rfl rfl ?_
  refine Pl.qA_extract trivial rfl rfl rfl rfl rfl rfl ?_
  refine Pl.qA_extract trivial rfl rfl rfl rfl rfl rfl ?_
  refine Pl.qA_extract trivial rfl rfl rfl rfl rfl rfl ?_
  obtain ⟨p_x14, A_x14, L_x14, c_x14, rfl⟩ := Zn.sh h_x14
  obtain ⟨p_x15, A_x15, L_x15, c_x15, rfl⟩ := Zn.sh h_x15
  refine boxI2 rfl rfl rfl rfl rfl rfl rfl rfl rfl rfl rfl rfl rfl rfl rfl rfl rfl (fun _ _ => rfl) (fun _ _ => rfl) (fun _ _ => trivial) ?_
  intro N16 N17 w9 hB9 i_16 i_17
  refine Pl.qA_assign trivial rfl rfl rfl rfl rfl ?_
  refine Pl.pA_end ?_
  refine Pl.V_seq ?_
  refine Pl.V_region (by kernel_rfl) ?_
  have i_6__9 := Ib.ext i_6__7 (Ext.below hB8 hB9)
  refine Pl.qA_loadw trivial rfl rfl rfl rfl rfl (Ib.load i_6__9) ?_
  have i_10__9 := Ib.ext i_10 (Ext.below hB8 hB9)
  refine Pl.qA_loadw trivial rfl rfl rfl rfl rfl (Ib.load i_10__9) ?_
  have h_x5__9 := Zn.below h_x5__7 (Ext.below hB8 hB9)
  have h_x9__9 := Zn.below h_x9__7 (Ext.below hB8 hB9)
  refine Pl.pA_call rfl rfl rfl rfl rfl en15 ?_
  refine Calls.mono (rzdiv_D _ _ _ a b h_x5__9 h_x9__9 (Sz.le b_a (by decide)) (Sz.le b_b (by decide)) h0 _ _ rfl rfl) ?_
  rintro e w10 ⟨⟨v_x22, v_x23, rfl, h_x22, h_x23⟩, hB10⟩
  refine ⟨_, rfl, trivial, ?_⟩
  have b_x22 : Sz (a / b) 40 := Sz.div b_a
  have b_x23 : Sz (a % b) 40 := Sz.mod b_b h0
  refine Pl.qA_move trivial rfl rfl rfl rfl rfl ?_
  refine Pl.qA_extract trivial rfl rfl rfl rfl rfl rfl ?_
  refine Pl.qA_extract trivial rfl rfl rfl rfl rfl rfl ?_
  refine Pl.qA_extract trivial rfl rfl rfl rfl rfl rfl ?_
  obtain ⟨p_x22, A_x22, L_x22, c_x22, rfl⟩ := Zn.sh h_x22
  obtain ⟨p_x23, A_x23, L_x23, c_x23, rfl⟩ := Zn.sh h_x23
  refine boxI2 rfl rfl rfl rfl rfl rfl rfl rfl rfl rfl rfl rfl rfl rfl rfl rfl rfl (fun _ _ => rfl) (fun _ _ => rfl) (fun _ _ => trivial) ?_
  intro N24 N25 w11 hB11 i_24 i_25
  refine Pl.qA_assign trivial rfl rfl rfl rfl rfl ?_
  refine Pl.pA_end ?_
  refine Pl.V_seq ?_
  refine Pl.V_region (by kernel_rfl) ?_
  have i_6__11 := Ib.ext i_6__9 (Ext.below hB10 hB11)
  refine Pl.qA_loadw trivial rfl rfl rfl rfl rfl (Ib.load i_6__11) ?_
  have i_10__11 := Ib.ext i_10__9 (Ext.below hB10 hB11)
  refine Pl.qA_loadw trivial rfl rfl rfl rfl rfl (Ib.load i_10__11) ?_
  have h_x5__11 := Zn.below h_x5__9 (Ext.below hB10 hB11)
  have h_x9__11 := Zn.below h_x9__9 (Ext.below hB10 hB11)
  refine Pl.pA_call rfl rfl rfl rfl rfl en16 ?_
  refine Calls.mono (zexact_no _ _ _ a b h_x5__11 h_x9__11 (Sz.le b_a (by decide)) (Sz.le b_b (by decide)) (Or.inr hr)) ?_
  rintro e w12 ⟨rfl, hB12⟩
  refine ⟨_, rfl, trivial, ?_⟩
  refine Pl.qA_move trivial rfl rfl rfl rfl rfl ?_
  refine Pl.qA_extract trivial rfl rfl rfl rfl rfl rfl ?_
  refine Pl.qA_extract trivial rfl rfl rfl rfl rfl rfl ?_
  refine boxI rfl rfl rfl rfl rfl rfl rfl rfl (fun _ => rfl) (fun _ _ => trivial) ?_
  intro N30 w13 hB13 i_30
  refine Pl.qA_assign trivial rfl rfl rfl rfl rfl ?_
  refine Pl.pA_end ?_
  refine Pl.V_seq ?_
  refine Pl.V_region (by kernel_rfl) ?_
  have i_6__13 := Ib.ext i_6__11 (Ext.below hB12 hB13)
  refine Pl.qA_loadw trivial rfl rfl rfl rfl rfl (Ib.load i_6__13) ?_
  have i_10__13 := Ib.ext i_10__11 (Ext.below hB12 hB13)
  refine Pl.qA_loadw trivial rfl rfl rfl rfl rfl (Ib.load i_10__13) ?_
  have h_x5__13 := Zn.below h_x5__11 (Ext.below hB12 hB13)
  have h_x9__13 := Zn.below h_x9__11 (Ext.below hB12 hB13)
  refine Pl.pA_call rfl rfl rfl rfl rfl en17 ?_
  refine Calls.mono (rzexact_no _ _ _ a b h_x5__13 h_x9__13 (Sz.le b_a (by decide)) (Sz.le b_b (by decide)) (Or.inr hr)) ?_
  rintro e w14 ⟨rfl, hB14⟩
  refine ⟨_, rfl, trivial, ?_⟩
  refine Pl.qA_move trivial rfl rfl rfl rfl rfl ?_
  refine Pl.qA_extract trivial rfl rfl rfl rfl rfl rfl ?_
  refine Pl.qA_extract trivial rfl rfl rfl rfl rfl rfl ?_
  refine boxI rfl rfl rfl rfl rfl rfl rfl rfl (fun _ => rfl) (fun _ _ => trivial) ?_
  intro N35 w15 hB15 i_35
  refine Pl.qA_assign trivial rfl rfl rfl rfl rfl ?_
  refine Pl.pA_end ?_
  refine Pl.V_seq ?_
  refine Pl.V_seq ?_
  refine Pl.V_draw (S := fun X => Ext w15 X) [(true, 0, 0), (true, 2, 1), (false, 1, 5), (false, 3, 7), (true, 4, 15), (true, 5, 31), (true, 6, 63), (true, 7, 127), (true, 8, 255), (true, 10, 511), (true, 11, 1535), (true, 12, 3583), (false, 9, 7679), (false, 13, 8191), (false, 14, 16383), (true, 15, 32767), (true, 16, 65535), (true, 17, 131071), (true, 18, 262143), (true, 19, 524287), (true, 21, 1048575), (true, 22, 3145727), (false, 20, 7340031), (false, 23, 8388607), (true, 24, 16777215), (true, 25, 33554431), (true, 26, 67108863), (true, 27, 134217727), (true, 29, 268435455), (false, 28, 805306367), (false, 30, 1073741823), (true, 31, 2147483647), (true, 32, 4294967295), (true, 33, 8589934591), (true, 34, 17179869183), (true, 36, 34359738367), (false, 35, 103079215103), (false, 37, 137438953471), (false, 38, 274877906943), (true, 39, 549755813887), (true, 40, 1099511627775)] fo Pl.post_panic (by kernel_rfl) (Ext.drew (Ext.refl _)) ?_
  generalize w15.drew = w16
  intro hB16
  have hS16 := hB16
  have i_1__15 := Ib.ext i_1__3 (Ext.below hB4 (Ext.below hB5 (Ext.below hB6 (Ext.below hB7 (Ext.below hB8 (Ext.below hB9 (Ext.below hB10 (Ext.below hB11 (Ext.below hB12 (Ext.below hB13 (Ext.below hB14 hB15)))))))))))
  refine Pl.qA_load hS16 rfl rfl rfl rfl rfl (fun X hX => Ib.load (Ib.ext i_1__15 hX)) ?_
  refine Pl.qA_load hS16 rfl rfl rfl rfl rfl (fun X hX => Ib.load (Ib.ext i_1__15 hX)) ?_
  have r_a__16 := Ri.below r_a__3 (Ext.below hB4 (Ext.below hB5 (Ext.below hB6 (Ext.below hB7 (Ext.below hB8 (Ext.below hB9 (Ext.below hB10 (Ext.below hB11 (Ext.below hB12 (Ext.below hB13 (Ext.below hB14 (Ext.below hB15 hB16))))))))))))
  refine Pl.pA_call rfl rfl rfl rfl rfl en18 ?_
  refine Calls.mono (zright _ _ sa xsa r_a__16 _ rfl) ?_
  rintro e w17 ⟨rfl, hB17⟩
  have hS17 := Ext.below hS16 hB17
  refine ⟨_, rfl, hS17, ?_⟩
  have r_a__17 := Ri.below r_a__16 hB17
  refine Pl.pA_call rfl rfl rfl rfl rfl en19 ?_
  refine Calls.mono (rzright _ _ sa xsa r_a__17 _ rfl) ?_
  rintro e w18 ⟨rfl, hB18⟩
  have hS18 := Ext.below hS17 hB18
  refine ⟨_, rfl, hS18, ?_⟩
  refine Pl.qA_bin (v := (.bool false)) hS18 rfl rfl rfl rfl rfl rfl (fun X => b_neb (bne_self_eq_false _) X) ?_
  refine Pl.qA_move hS18 rfl rfl rfl rfl rfl ?_
  refine Pl.qA_move hS18 rfl rfl rfl rfl rfl ?_
  refine qA_field hS18 rfl rfl rfl rfl rfl (fa_mag _) ?_
  refine Pl.qA_load hS18 rfl rfl rfl rfl rfl (fun X hX => Ib.mag (Ib.ext i_1__15 hX)) ?_
  refine Pl.qA_move hS18 rfl rfl rfl rfl rfl ?_
  refine qA_field hS18 rfl rfl rfl rfl rfl (fa_mag _) ?_
  refine Pl.qA_load hS18 rfl rfl rfl rfl rfl (fun X hX => Ib.mag (Ib.ext i_1__15 hX)) ?_
  have ua__18 := U.below ua (Ext.below hB1 (Ext.below hB2 (Ext.below hB3 (Ext.below hB4 (Ext.below hB5 (Ext.below hB6 (Ext.below hB7 (Ext.below hB8 (Ext.below hB9 (Ext.below hB10 (Ext.below hB11 (Ext.below hB12 (Ext.below hB13 (Ext.below hB14 (Ext.below hB15 (Ext.below hB16 (Ext.below hB17 hB18)))))))))))))))))
  refine Pl.pA_call rfl rfl rfl rfl rfl en21 ?_
  refine Calls.mono (zmake _ t2 _ xsa ua__18 _ rfl _ rfl) ?_
  rintro e w19 ⟨v_x39, rfl, h_x39, hB19⟩
  have hS19 := Ext.below hS18 hB19
  refine ⟨_, rfl, hS19, ?_⟩
  have b_x39 : Sz (sg t2 (val xsa)) 200 := Sz.mag ua__18 t2 200 (Nat.le_of_not_lt hx0)
  have ua__19 := U.below ua__18 hB19
  refine Pl.pA_call rfl rfl rfl rfl rfl en22 ?_
  refine Calls.mono (rzmake _ t2 _ xsa ua__19 (Nat.le_trans (Nat.le_of_not_lt hx0) (by decide)) _ rfl _ rfl) ?_
  rintro e w20 ⟨v_x41, rfl, h_x41, hB20⟩
  have hS20 := Ext.below hS19 hB20
  refine ⟨_, rfl, hS20, ?_⟩
  have b_x41 : Sz (sg t2 (val xsa)) 200 := Sz.mag ua__19 t2 200 (Nat.le_of_not_lt hx0)
  have h_x39__20 := Zn.below h_x39 hB20
  refine Pl.pA_call rfl rfl rfl rfl rfl en20 ?_
  refine Calls.mono (rzsame _ _ _ (sg t2 (val xsa)) (sg t2 (val xsa)) h_x39__20 h_x41 (Sz.le b_x39 (by decide)) (Sz.le b_x41 (by decide)) true (decide_eq_true rfl)) ?_
  rintro e w21 ⟨rfl, hB21⟩
  have hS21 := Ext.below hS20 hB21
  refine ⟨_, rfl, hS21, ?_⟩
  refine Pl.qA_un (v := (.bool false)) hS21 rfl rfl rfl rfl rfl (fun X => rfl) ?_
  refine Pl.qA_pick hS21 rfl rfl rfl rfl rfl rfl ?_
  refine Pl.qA_move hS21 rfl rfl rfl rfl rfl ?_
  have i_6__15 := Ib.ext i_6__13 (Ext.below hB14 hB15)
  refine Pl.qA_load hS21 rfl rfl rfl rfl rfl (fun X hX => Ib.load (Ib.ext i_6__15 hX)) ?_
  have i_10__15 := Ib.ext i_10__13 (Ext.below hB14 hB15)
  refine Pl.qA_load hS21 rfl rfl rfl rfl rfl (fun X hX => Ib.load (Ib.ext i_10__15 hX)) ?_
  refine Pl.qA_load hS21 rfl rfl rfl rfl rfl (fun X hX => Ib.load (Ib.ext i_6__15 hX)) ?_
  refine Pl.qA_load hS21 rfl rfl rfl rfl rfl (fun X hX => Ib.load (Ib.ext i_10__15 hX)) ?_
  have h_x5__21 := Zn.below h_x5__13 (Ext.below hB14 (Ext.below hB15 (Ext.below hB16 (Ext.below hB17 (Ext.below hB18 (Ext.below hB19 (Ext.below hB20 hB21)))))))
  have h_x9__21 := Zn.below h_x9__13 (Ext.below hB14 (Ext.below hB15 (Ext.below hB16 (Ext.below hB17 (Ext.below hB18 (Ext.below hB19 (Ext.below hB20 hB21)))))))
  refine Pl.pA_call rfl rfl rfl rfl rfl en23 ?_
  refine Calls.mono (zcmp _ _ _ a b h_x5__21 h_x9__21 (cmpI a b) rfl) ?_
  rintro e w22 ⟨rfl, hB22⟩
  have hS22 := Ext.below hS21 hB22
  refine ⟨_, rfl, hS22, ?_⟩
  have h_x5__22 := Zn.below h_x5__21 hB22
  have h_x9__22 := Zn.below h_x9__21 hB22
  refine Pl.pA_call rfl rfl rfl rfl rfl en24 ?_
  refine Calls.mono (rzcmp _ _ _ a b h_x5__22 h_x9__22 (Sz.le b_a (by decide)) (Sz.le b_b (by decide)) (cmpI a b) rfl) ?_
  rintro e w23 ⟨rfl, hB23⟩
  have hS23 := Ext.below hS22 hB23
  refine ⟨_, rfl, hS23, ?_⟩
  refine Pl.qA_bin (v := (.bool false)) hS23 rfl rfl rfl rfl rfl rfl (fun X => b_neq (bne_self_eq_false _) X) ?_
  refine Pl.qA_pick hS23 rfl rfl rfl rfl rfl rfl ?_
  refine Pl.qA_move hS23 rfl rfl rfl rfl rfl ?_
  refine Pl.qA_load hS23 rfl rfl rfl rfl rfl (fun X hX => Ib.load (Ib.ext i_6__15 hX)) ?_
  refine Pl.qA_load hS23 rfl rfl rfl rfl rfl (fun X hX => Ib.load (Ib.ext i_6__15 hX)) ?_
  have h_x5__23 := Zn.below h_x5__22 hB23
  refine Pl.pA_call rfl rfl rfl rfl rfl en25 ?_
  refine Calls.mono (zsign _ _ a h_x5__23 (Int.sign a) rfl) ?_
  rintro e w24 ⟨rfl, hB24⟩
  have hS24 := Ext.below hS23 hB24
  refine ⟨_, rfl, hS24, ?_⟩
  have h_x5__24 := Zn.below h_x5__23 hB24
  refine Pl.pA_call rfl rfl rfl rfl rfl en26 ?_
  refine Calls.mono (rzsign _ _ a h_x5__24 (Sz.le b_a (by decide)) (Int.sign a) rfl) ?_
  rintro e w25 ⟨rfl, hB25⟩
  have hS25 := Ext.below hS24 hB25
  refine ⟨_, rfl, hS25, ?_⟩
  refine Pl.qA_bin (v := (.bool false)) hS25 rfl rfl rfl rfl rfl rfl (fun X => b_neq (bne_self_eq_false _) X) ?_
  refine Pl.qA_pick hS25 rfl rfl rfl rfl rfl rfl ?_
  refine Pl.qA_move hS25 rfl rfl rfl rfl rfl ?_
  refine Pl.qA_load hS25 rfl rfl rfl rfl rfl (fun X hX => Ib.load (Ib.ext i_6__15 hX)) ?_
  refine Pl.qA_load hS25 rfl rfl rfl rfl rfl (fun X hX => Ib.load (Ib.ext i_6__15 hX)) ?_
  have h_x5__25 := Zn.below h_x5__24 hB25
  refine Pl.pA_call rfl rfl rfl rfl rfl en27 ?_
  refine Calls.mono (zneg _ _ a h_x5__25 _ rfl) ?_
  rintro e w26 ⟨v_x50, rfl, h_x50, hB26⟩
  have hS26 := Ext.below hS25 hB26
  refine ⟨_, rfl, hS26, ?_⟩
  have b_x50 : Sz (-a) 40 := Sz.neg b_a
  have h_x5__26 := Zn.below h_x5__25 hB26
  refine Pl.pA_call rfl rfl rfl rfl rfl en28 ?_
  refine Calls.mono (rzneg _ _ a h_x5__26 (Sz.le b_a (by decide)) _ rfl) ?_
  rintro e w27 ⟨v_x52, rfl, h_x52, hB27⟩
  have hS27 := Ext.below hS26 hB27
  refine ⟨_, rfl, hS27, ?_⟩
  have b_x52 : Sz (-a) 40 := Sz.neg b_a
  have h_x50__27 := Zn.below h_x50 hB27
  refine Pl.pA_call rfl rfl rfl rfl rfl en20 ?_
  refine Calls.mono (rzsame _ _ _ (-a) (-a) h_x50__27 h_x52 (Sz.le b_x50 (by decide)) (Sz.le b_x52 (by decide)) true (decide_eq_true rfl)) ?_
  rintro e w28 ⟨rfl, hB28⟩
  have hS28 := Ext.below hS27 hB28
  refine ⟨_, rfl, hS28, ?_⟩
  refine Pl.qA_un (v := (.bool false)) hS28 rfl rfl rfl rfl rfl (fun X => rfl) ?_
  refine Pl.qA_pick hS28 rfl rfl rfl rfl rfl rfl ?_
  refine Pl.pA_end ?_
  refine Pl.V_false rfl ?_
  refine Pl.V_skip ?_
  refine Pl.V_seq ?_
  refine Pl.V_seq ?_
  refine Pl.V_region (by kernel_rfl) ?_
  have i_16__28 := Ib.ext i_16 (Ext.below hB10 (Ext.below hB11 (Ext.below hB12 (Ext.below hB13 (Ext.below hB14 (Ext.below hB15 (Ext.below hB16 (Ext.below hB17 (Ext.below hB18 (Ext.below hB19 (Ext.below hB20 (Ext.below hB21 (Ext.below hB22 (Ext.below hB23 (Ext.below hB24 (Ext.below hB25 (Ext.below hB26 (Ext.below hB27 hB28))))))))))))))))))
  refine Pl.qA_loadw trivial rfl rfl rfl rfl rfl (Ib.load i_16__28) ?_
  have i_24__28 := Ib.ext i_24 (Ext.below hB12 (Ext.below hB13 (Ext.below hB14 (Ext.below hB15 (Ext.below hB16 (Ext.below hB17 (Ext.below hB18 (Ext.below hB19 (Ext.below hB20 (Ext.below hB21 (Ext.below hB22 (Ext.below hB23 (Ext.below hB24 (Ext.below hB25 (Ext.below hB26 (Ext.below hB27 hB28))))))))))))))))
  refine Pl.qA_loadw trivial rfl rfl rfl rfl rfl (Ib.load i_24__28) ?_
  have h_x14__28 := Zn.below h_x14 (Ext.below hB9 (Ext.below hB10 (Ext.below hB11 (Ext.below hB12 (Ext.below hB13 (Ext.below hB14 (Ext.below hB15 (Ext.below hB16 (Ext.below hB17 (Ext.below hB18 (Ext.below hB19 (Ext.below hB20 (Ext.below hB21 (Ext.below hB22 (Ext.below hB23 (Ext.below hB24 (Ext.below hB25 (Ext.below hB26 (Ext.below hB27 hB28)))))))))))))))))))
  have h_x22__28 := Zn.below h_x22 (Ext.below hB11 (Ext.below hB12 (Ext.below hB13 (Ext.below hB14 (Ext.below hB15 (Ext.below hB16 (Ext.below hB17 (Ext.below hB18 (Ext.below hB19 (Ext.below hB20 (Ext.below hB21 (Ext.below hB22 (Ext.below hB23 (Ext.below hB24 (Ext.below hB25 (Ext.below hB26 (Ext.below hB27 hB28)))))))))))))))))
  refine Pl.pA_call rfl rfl rfl rfl rfl en20 ?_
  refine Calls.mono (rzsame _ _ _ (a / b) (a / b) h_x14__28 h_x22__28 (Sz.le b_x14 (by decide)) (Sz.le b_x22 (by decide)) true (decide_eq_true rfl)) ?_
  rintro e w29 ⟨rfl, hB29⟩
  refine ⟨_, rfl, trivial, ?_⟩
  refine Pl.qA_un (v := (.bool false)) trivial rfl rfl rfl rfl rfl (fun X => rfl) ?_
  refine Pl.qA_move trivial rfl rfl rfl rfl rfl ?_
  have i_17__29 := Ib.ext i_17 (Ext.below hB10 (Ext.below hB11 (Ext.below hB12 (Ext.below hB13 (Ext.below hB14 (Ext.below hB15 (Ext.below hB16 (Ext.below hB17 (Ext.below hB18 (Ext.below hB19 (Ext.below hB20 (Ext.below hB21 (Ext.below hB22 (Ext.below hB23 (Ext.below hB24 (Ext.below hB25 (Ext.below hB26 (Ext.below hB27 (Ext.below hB28 hB29)))))))))))))))))))
  refine Pl.qA_loadw trivial rfl rfl rfl rfl rfl (Ib.load i_17__29) ?_
  have i_25__29 := Ib.ext i_25 (Ext.below hB12 (Ext.below hB13 (Ext.below hB14 (Ext.below hB15 (Ext.below hB16 (Ext.below hB17 (Ext.below hB18 (Ext.below hB19 (Ext.below hB20 (Ext.below hB21 (Ext.below hB22 (Ext.below hB23 (Ext.below hB24 (Ext.below hB25 (Ext.below hB26 (Ext.below hB27 (Ext.below hB28 hB29)))))))))))))))))
  refine Pl.qA_loadw trivial rfl rfl rfl rfl rfl (Ib.load i_25__29) ?_
  have h_x15__29 := Zn.below h_x15 (Ext.below hB9 (Ext.below hB10 (Ext.below hB11 (Ext.below hB12 (Ext.below hB13 (Ext.below hB14 (Ext.below hB15 (Ext.below hB16 (Ext.below hB17 (Ext.below hB18 (Ext.below hB19 (Ext.below hB20 (Ext.below hB21 (Ext.below hB22 (Ext.below hB23 (Ext.below hB24 (Ext.below hB25 (Ext.below hB26 (Ext.below hB27 (Ext.below hB28 hB29))))))))))))))))))))
  have h_x23__29 := Zn.below h_x23 (Ext.below hB11 (Ext.below hB12 (Ext.below hB13 (Ext.below hB14 (Ext.below hB15 (Ext.below hB16 (Ext.below hB17 (Ext.below hB18 (Ext.below hB19 (Ext.below hB20 (Ext.below hB21 (Ext.below hB22 (Ext.below hB23 (Ext.below hB24 (Ext.below hB25 (Ext.below hB26 (Ext.below hB27 (Ext.below hB28 hB29))))))))))))))))))
  refine Pl.pA_call rfl rfl rfl rfl rfl en20 ?_
  refine Calls.mono (rzsame _ _ _ (a % b) (a % b) h_x15__29 h_x23__29 (Sz.le b_x15 (by decide)) (Sz.le b_x23 (by decide)) true (decide_eq_true rfl)) ?_
  rintro e w30 ⟨rfl, hB30⟩
  refine ⟨_, rfl, trivial, ?_⟩
  refine Pl.qA_un (v := (.bool false)) trivial rfl rfl rfl rfl rfl (fun X => rfl) ?_
  refine Pl.qA_pick trivial rfl rfl rfl rfl rfl rfl ?_
  refine Pl.qA_move trivial rfl rfl rfl rfl rfl ?_
  refine Pl.qA_move trivial rfl rfl rfl rfl rfl ?_
  refine Pl.qA_move trivial rfl rfl rfl rfl rfl ?_
  refine Pl.qA_bin (v := (.bool false)) trivial rfl rfl rfl rfl rfl rfl (fun X => by go_simp) ?_
  refine Pl.qA_pick trivial rfl rfl rfl rfl rfl rfl ?_
  refine Pl.qA_move trivial rfl rfl rfl rfl rfl ?_
  have i_30__30 := Ib.ext i_30 (Ext.below hB14 (Ext.below hB15 (Ext.below hB16 (Ext.below hB17 (Ext.below hB18 (Ext.below hB19 (Ext.below hB20 (Ext.below hB21 (Ext.below hB22 (Ext.below hB23 (Ext.below hB24 (Ext.below hB25 (Ext.below hB26 (Ext.below hB27 (Ext.below hB28 (Ext.below hB29 hB30))))))))))))))))
  refine Pl.qA_loadw trivial rfl rfl rfl rfl rfl (Ib.load i_30__30) ?_
  have i_35__30 := Ib.ext i_35 (Ext.below hB16 (Ext.below hB17 (Ext.below hB18 (Ext.below hB19 (Ext.below hB20 (Ext.below hB21 (Ext.below hB22 (Ext.below hB23 (Ext.below hB24 (Ext.below hB25 (Ext.below hB26 (Ext.below hB27 (Ext.below hB28 (Ext.below hB29 hB30))))))))))))))
  refine Pl.qA_loadw trivial rfl rfl rfl rfl rfl (Ib.load i_35__30) ?_
  refine Pl.pA_call rfl rfl rfl rfl rfl en20 ?_
  refine Calls.mono (rzsame _ _ _ 0 0 (Zn.zero _ _ _) (Zn.zero _ _ _) (Sz.zero) (Sz.zero) true (by decide)) ?_
  rintro e w31 ⟨rfl, hB31⟩
  refine ⟨_, rfl, trivial, ?_⟩
  refine Pl.qA_un (v := (.bool false)) trivial rfl rfl rfl rfl rfl (fun X => rfl) ?_
  refine Pl.qA_pick trivial rfl rfl rfl rfl rfl rfl ?_
  refine Pl.qA_move trivial rfl rfl rfl rfl rfl ?_
  refine Pl.qA_move trivial rfl rfl rfl rfl rfl ?_
  refine Pl.qA_move trivial rfl rfl rfl rfl rfl ?_
  refine Pl.qA_bin (v := (.bool false)) trivial rfl rfl rfl rfl rfl rfl (fun X => by go_simp) ?_
  refine Pl.qA_pick trivial rfl rfl rfl rfl rfl rfl ?_
  refine Pl.pA_end ?_
  refine Pl.V_false rfl ?_
  refine Pl.V_skip ?_
  refine Pl.V_seq ?_
  refine Pl.V_draw (S := fun X => Ext w31 X) [(true, 0, 0), (true, 1, 1), (true, 2, 3), (true, 3, 7), (true, 5, 15), (true, 6, 47), (false, 4, 111), (false, 7, 127), (false, 8, 255), (true, 9, 511), (true, 10, 1023), (true, 11, 2047), (true, 12, 4095), (true, 14, 8191), (true, 15, 24575), (false, 13, 57343), (false, 16, 65535), (false, 17, 131071), (true, 18, 262143), (true, 19, 524287), (true, 20, 1048575), (true, 21, 2097151), (true, 23, 4194303), (true, 24, 12582911), (false, 22, 29360127), (false, 25, 33554431), (false, 26, 67108863), (true, 27, 134217727), (true, 28, 268435455)] fo Pl.post_panic (by kernel_rfl) (Ext.drew (Ext.refl _)) ?_
  generalize w31.drew = w32
  intro hB32
  have hS32 := hB32
  refine Pl.qA_move hS32 rfl rfl rfl rfl rfl ?_
  refine Pl.qA_move hS32 rfl rfl rfl rfl rfl ?_
  have i_6__31 := Ib.ext i_6__15 (Ext.below hB16 (Ext.below hB17 (Ext.below hB18 (Ext.below hB19 (Ext.below hB20 (Ext.below hB21 (Ext.below hB22 (Ext.below hB23 (Ext.below hB24 (Ext.below hB25 (Ext.below hB26 (Ext.below hB27 (Ext.below hB28 (Ext.below hB29 (Ext.below hB30 hB31)))))))))))))))
  refine Pl.qA_load hS32 rfl rfl rfl rfl rfl (fun X hX => Ib.load (Ib.ext i_6__31 hX)) ?_
  have i_10__31 := Ib.ext i_10__15 (Ext.below hB16 (Ext.below hB17 (Ext.below hB18 (Ext.below hB19 (Ext.below hB20 (Ext.below hB21 (Ext.below hB22 (Ext.below hB23 (Ext.below hB24 (Ext.below hB25 (Ext.below hB26 (Ext.below hB27 (Ext.below hB28 (Ext.below hB29 (Ext.below hB30 hB31)))))))))))))))
  refine Pl.qA_load hS32 rfl rfl rfl rfl rfl (fun X hX => Ib.load (Ib.ext i_10__31 hX)) ?_
  refine Pl.qA_load hS32 rfl rfl rfl rfl rfl (fun X hX => Ib.load (Ib.ext i_6__31 hX)) ?_
  refine Pl.qA_load hS32 rfl rfl rfl rfl rfl (fun X hX => Ib.load (Ib.ext i_10__31 hX)) ?_
  have h_x5__32 := Zn.below h_x5__26 (Ext.below hB27 (Ext.below hB28 (Ext.below hB29 (Ext.below hB30 (Ext.below hB31 hB32)))))
  have h_x9__32 := Zn.below h_x9__22 (Ext.below hB23 (Ext.below hB24 (Ext.below hB25 (Ext.below hB26 (Ext.below hB27 (Ext.below hB28 (Ext.below hB29 (Ext.below hB30 (Ext.below hB31 hB32)))))))))
  refine Pl.pA_call rfl rfl rfl rfl rfl en29 ?_
  refine Calls.mono (zadd _ _ _ a b h_x5__32 h_x9__32 (Sz.le b_a (by decide)) (Sz.le b_b (by decide)) _ rfl) ?_
  rintro e w33 ⟨v_x66, rfl, h_x66, hB33⟩
  have hS33 := Ext.below hS32 hB33
  refine ⟨_, rfl, hS33, ?_⟩
  have b_x66 : Sz (a + b) 41 := Sz.add b_a b_b (by decide) (by decide)
  have h_x5__33 := Zn.below h_x5__32 hB33
  have h_x9__33 := Zn.below h_x9__32 hB33
  refine Pl.pA_call rfl rfl rfl rfl rfl en30 ?_
  refine Calls.mono (rzadd _ _ _ a b h_x5__33 h_x9__33 (Sz.le b_a (by decide)) (Sz.le b_b (by decide)) _ rfl) ?_
  rintro e w34 ⟨v_x69, rfl, h_x69, hB34⟩
  have hS34 := Ext.below hS33 hB34
  refine ⟨_, rfl, hS34, ?_⟩
  have b_x69 : Sz (a + b) 41 := Sz.add b_a b_b (by decide) (by decide)
  have h_x66__34 := Zn.below h_x66 hB34
  refine Pl.pA_call rfl rfl rfl rfl rfl en20 ?_
  refine Calls.mono (rzsame _ _ _ (a + b) (a + b) h_x66__34 h_x69 (Sz.le b_x66 (by decide)) (Sz.le b_x69 (by decide)) true (decide_eq_true rfl)) ?_
  rintro e w35 ⟨rfl, hB35⟩
  have hS35 := Ext.below hS34 hB35
  refine ⟨_, rfl, hS35, ?_⟩
  refine Pl.qA_pick hS35 rfl rfl rfl rfl rfl rfl ?_
  refine Pl.qA_move hS35 rfl rfl rfl rfl rfl ?_
  refine Pl.qA_load hS35 rfl rfl rfl rfl rfl (fun X hX => Ib.load (Ib.ext i_6__31 hX)) ?_
  refine Pl.qA_load hS35 rfl rfl rfl rfl rfl (fun X hX => Ib.load (Ib.ext i_10__31 hX)) ?_
  refine Pl.qA_load hS35 rfl rfl rfl rfl rfl (fun X hX => Ib.load (Ib.ext i_6__31 hX)) ?_
  refine Pl.qA_load hS35 rfl rfl rfl rfl rfl (fun X hX => Ib.load (Ib.ext i_10__31 hX)) ?_
  have h_x5__35 := Zn.below h_x5__33 (Ext.below hB34 hB35)
  have h_x9__35 := Zn.below h_x9__33 (Ext.below hB34 hB35)
  refine Pl.pA_call rfl rfl rfl rfl rfl en31 ?_
  refine Calls.mono (zsub _ _ _ a b h_x5__35 h_x9__35 (Sz.le b_a (by decide)) (Sz.le b_b (by decide)) _ rfl) ?_
  rintro e w36 ⟨v_x73, rfl, h_x73, hB36⟩
  have hS36 := Ext.below hS35 hB36
  refine ⟨_, rfl, hS36, ?_⟩
  have b_x73 : Sz (a - b) 41 := Sz.sub b_a b_b (by decide) (by decide)
  have h_x5__36 := Zn.below h_x5__35 hB36
  have h_x9__36 := Zn.below h_x9__35 hB36
  refine Pl.pA_call rfl rfl rfl rfl rfl en32 ?_
  refine Calls.mono (rzsub _ _ _ a b h_x5__36 h_x9__36 (Sz.le b_a (by decide)) (Sz.le b_b (by decide)) _ rfl) ?_
  rintro e w37 ⟨v_x76, rfl, h_x76, hB37⟩
  have hS37 := Ext.below hS36 hB37
  refine ⟨_, rfl, hS37, ?_⟩
  have b_x76 : Sz (a - b) 41 := Sz.sub b_a b_b (by decide) (by decide)
  have h_x73__37 := Zn.below h_x73 hB37
  refine Pl.pA_call rfl rfl rfl rfl rfl en20 ?_
  refine Calls.mono (rzsame _ _ _ (a - b) (a - b) h_x73__37 h_x76 (Sz.le b_x73 (by decide)) (Sz.le b_x76 (by decide)) true (decide_eq_true rfl)) ?_
  rintro e w38 ⟨rfl, hB38⟩
  have hS38 := Ext.below hS37 hB38
  refine ⟨_, rfl, hS38, ?_⟩
  refine Pl.qA_pick hS38 rfl rfl rfl rfl rfl rfl ?_
  refine Pl.qA_move hS38 rfl rfl rfl rfl rfl ?_
  refine Pl.qA_load hS38 rfl rfl rfl rfl rfl (fun X hX => Ib.load (Ib.ext i_6__31 hX)) ?_
  refine Pl.qA_load hS38 rfl rfl rfl rfl rfl (fun X hX => Ib.load (Ib.ext i_10__31 hX)) ?_
  refine Pl.qA_load hS38 rfl rfl rfl rfl rfl (fun X hX => Ib.load (Ib.ext i_6__31 hX)) ?_
  refine Pl.qA_load hS38 rfl rfl rfl rfl rfl (fun X hX => Ib.load (Ib.ext i_10__31 hX)) ?_
  have h_x5__38 := Zn.below h_x5__36 (Ext.below hB37 hB38)
  have h_x9__38 := Zn.below h_x9__36 (Ext.below hB37 hB38)
  refine Pl.pA_call rfl rfl rfl rfl rfl en33 ?_
  refine Calls.mono (zmul _ _ _ a b h_x5__38 h_x9__38 (Sz.le b_a (by decide)) (Sz.le b_b (by decide)) _ rfl) ?_
  rintro e w39 ⟨v_x80, rfl, h_x80, hB39⟩
  have hS39 := Ext.below hS38 hB39
  refine ⟨_, rfl, hS39, ?_⟩
  have b_x80 : Sz (a * b) 80 := Sz.mul b_a b_b (by decide)
  have h_x5__39 := Zn.below h_x5__38 hB39
  have h_x9__39 := Zn.below h_x9__38 hB39
  refine Pl.pA_call rfl rfl rfl rfl rfl en34 ?_
  refine Calls.mono (rzmul _ _ _ a b h_x5__39 h_x9__39 (Sz.le b_a (by decide)) (Sz.le b_b (by decide)) _ rfl) ?_
  rintro e w40 ⟨v_x83, rfl, h_x83, hB40⟩
  have hS40 := Ext.below hS39 hB40
  refine ⟨_, rfl, hS40, ?_⟩
  have b_x83 : Sz (a * b) 80 := Sz.mul b_a b_b (by decide)
  have h_x80__40 := Zn.below h_x80 hB40
  refine Pl.pA_call rfl rfl rfl rfl rfl en20 ?_
  refine Calls.mono (rzsame _ _ _ (a * b) (a * b) h_x80__40 h_x83 (Sz.le b_x80 (by decide)) (Sz.le b_x83 (by decide)) true (decide_eq_true rfl)) ?_
  rintro e w41 ⟨rfl, hB41⟩
  have hS41 := Ext.below hS40 hB41
  refine ⟨_, rfl, hS41, ?_⟩
  refine Pl.qA_pick hS41 rfl rfl rfl rfl rfl rfl ?_
  refine Pl.qA_assign hS41 rfl rfl rfl rfl rfl ?_
  refine Pl.pA_end ?_
  refine Pl.post_ret rfl rfl ?_
  exact ⟨rfl, (Ext.below hB1 (Ext.below hB2 (Ext.below hB3 (Ext.below hB4 (Ext.below hB5 (Ext.below hB6 (Ext.below hB7 (Ext.below hB8 (Ext.below hB9 (Ext.below hB10 (Ext.below hB11 (Ext.below hB12 (Ext.below hB13 (Ext.below hB14 (Ext.below hB15 (Ext.below hB16 (Ext.below hB17 (Ext.below hB18 (Ext.below hB19 (Ext.below hB20 (Ext.below hB21 (Ext.below hB22 (Ext.below hB23 (Ext.below hB24 (Ext.below hB25 (Ext.below hB26 (Ext.below hB27 (Ext.below hB28 (Ext.below hB29 (Ext.below hB30 (Ext.below hB31 (Ext.below hB32 (Ext.below hB33 (Ext.below hB34 (Ext.below hB35 (Ext.below hB36 (Ext.below hB37 (Ext.below hB38 (Ext.below hB39 (Ext.below hB40 hB41))))))))))))))))))))))))))))))))))))))))⟩
theorem IntegerTells_walk (w : World) (sa : Bool) (Aa : Option Addr) (ca : Nat) (xsa : List Nat) (ua : U w (.slice Aa xsa.length ca) xsa) (sb : Bool) (Ab : Option Addr) (cb : Nat) (xsb : List Nat) (ub : U w (.slice Ab xsb.length cb) xsb) (t2 : Bool) :
    Calls Tryz.prog 3 #[.agg #[.bool sa, .slice Aa xsa.length ca], .agg #[.bool sb, .slice Ab xsb.length cb], .bool t2] w fun e w' => e = .returned (.bool true) ∧ Ext w w' := by
  by_cases hx : (200 : Int) < (xsa.length : Nat)
  · exact IntegerTells_walkL w sa Aa ca xsa ua sb Ab cb xsb ub t2 hx
  by_cases h0 : sg sb (cutN xsb 40) = 0
  · exact IntegerTells_walkZ w sa Aa ca xsa ua sb Ab cb xsb ub t2 hx h0
  by_cases hr : sg sa (cutN xsa 40) % sg sb (cutN xsb 40) = 0
  · exact IntegerTells_walkY w sa Aa ca xsa ua sb Ab cb xsb ub t2 hx h0 hr
  · exact IntegerTells_walkN w sa Aa ca xsa ua sb Ab cb xsb ub t2 hx h0 hr
end Go.Proofs.YtfkcdmbiihkiiaaGreatDoor
/- Proved: what the statement IntegerTells does: whether any number is right, and how two right ones stand to each other, their sum, difference, product, quotient and rest, are the document's: it tells true. No condition. -/
namespace Go.Proofs.YtfkcdmbiihkiiaaGreatDoor
open Go.ChangeShapes Go.WideShapes Go.ChangeAt Go.RowKit
set_option linter.unusedVariables false
set_option maxHeartbeats 2000000

set_option maxRecDepth 100000 in
theorem lifted_IntegerTells (os : Os) (started : os.Started) (H : Type) (enc : TypeId × Value → H) :
    ReturnsInHanded {} Tryz.checked os 3 .any (fun w args => (Rows.integerTellsSpec.pre enc Tryz.prog Tryz.f3 [] false w args ∧ laidMetH Tryz.prog laidV w) ∧ sizedMet enc Tryz.prog Tryz.f3 (OpenSpec.ofChange Rows.integerTellsSpec) false w args)
      (Rows.integerTellsSpec.post enc Tryz.prog Tryz.f3 false true false false) := by
  refine returnsInHanded_of_change_and (C := Tryz.checked) (X := fun w _ => laidMetH Tryz.prog laidV w) (fun _ _ _ hh h => h.of_heap hh) own started (by kernel_rfl) Tryz.func3
    (ChangeSpec.witness_shaped (enc := enc) (C := Tryz.checked) (os := os) (X := fun w _ => laidMetH Tryz.prog laidV w) false (World.laidAll Tryz.prog os laidV) #[.agg #[.bool false, .slice none 0 0], .agg #[.bool false, .slice none 0 0], .bool false] 8 (World.laidAll_os _ _ _) (World.shaped_of_ZipB (by kernel_rfl) (by kernel_rfl)) (by kernel_rfl) (by kernel_rfl) (by kernel_rfl) (laid_met os _)) ?_
  intro W base args ds gs before hval0 hW _ _ hL _
  have hval : ∀ (j : Nat) t v, Tryz.f3.params[j]? = some t → args[j]? = some v → Value.okWide Tryz.prog W .any base t v := hval0
  have hW' := hW
  obtain ⟨p, q, hA0, hV, rfl, hfz, hnd⟩ := hW
  have hlt : ∀ x ∈ p ++ q, x.block < W.heap.size := fun x hx => hW'.lt x hx
  have hA : DataW.TrodAll enc Tryz.prog W 0 (fun _ => true) true Tryz.f3.params.toList args.toList ds p := hA0
  rw [Tryz.params3] at hA hval
  clear hA0 hval0
  obtain ⟨v0, vs0, d0, ds0, p0, q0, hargs0, rfl, rfl, h0, r0⟩ := trodAll_cons hA
  obtain ⟨v1, vs1, d1, ds1, p1, q1, hargs1, rfl, rfl, h1, r1⟩ := trodAll_cons r0
  obtain ⟨v2, vs2, d2, ds2, p2, q2, hargs2, rfl, rfl, h2, r2⟩ := trodAll_cons r1
  obtain ⟨hn1, rfl, rfl⟩ := trodAll_nil r2
  subst hn1
  subst hargs2
  subst hargs1
  obtain rfl : args = #[v0, v1, v2] := by cases args; simp_all
  obtain ⟨rfl, rfl⟩ := trodVars_none hV
  obtain ⟨s0a, A0a, c0a, x0a, hv0, u0a⟩ := open_I1 (hval 0 24 v0 rfl rfl) h0
  subst hv0
  obtain ⟨s1a, A1a, c1a, x1a, hv1, u1a⟩ := open_I1 (hval 1 24 v1 rfl rfl) h1
  subst hv1
  obtain ⟨s2, rfl⟩ := okWide_bool Tryz.underlying4 (hval 2 4 v2 rfl rfl)
  refine (IntegerTells_walk W s0a A0a c0a x0a u0a s1a A1a c1a x1a u1a s2).mono fun e W' ⟨he, hB⟩ => ?_
  subst he
  exact ⟨_, rfl, law_post hW' rfl (by rw [Tryz.params3]; decide +kernel) rfl rfl rfl rfl hB⟩

theorem integerTells_said : Rows.IntegerTellsSaid :=
  OpenClaim.holds_of_wide 3 Tryz.f3 rfl rfl rfl rfl rfl rfl rfl ⟨rfl, rfl, rfl, rfl, rfl⟩ rfl rfl rfl rfl rfl (by kernel_rfl) Tryz.func3 (by kernel_rfl)
    (of_decide_eq_true (by kernel_rfl)) (by unfold Func.isWrapper; first | (rw [if_pos (by decide +kernel)]; kernel_rfl) | (rw [if_neg (by decide +kernel)]; exact ⟨rfl, rfl⟩))
    (fun os started H enc _ => lifted_IntegerTells os started H enc)
/-- The statement: the card, tied. -/
theorem integerTells_holds : Rows.IntegerTellsCardSaid :=
  Claim7.holds_tied_plain_at .later [] [.data, .wider, .pinned] true Rows.integerTellsCard.stood.harness false
    integerTells_said (fun _ h => by cases h) (by kernel_rfl) (fun _ h => by cases h) integerTells_row_tie rfl ⟨rfl, rfl⟩ (by kernel_rfl) rfl
    (fun f fn hf hfn => by
      obtain rfl : f = 3 := Option.some.inj ((show Tryz.prog.funcNamed "ziggurat/zigguratlaw06.IntegerTells" = some 3 by kernel_rfl).symm.trans hf) |>.symm
      obtain rfl : fn = Tryz.f3 := (Option.some.inj (Tryz.func3.symm.trans hfn)).symm
      exact ⟨by kernel_rfl, fun j t ht => by
        rw [Tryz.params3] at ht
        have hm : t ∈ [24, 24, 4] := by simpa using Array.mem_of_getElem? ht
        have hall : ([24, 24, 4].all fun u => !Tryz.prog.wantsStandIn u) = true := by kernel_rfl
        exact (show Tryz.prog.wantsStandIn t = false by simpa using List.all_eq_true.1 hall t hm)⟩)
    (by kernel_rfl)
end Go.Proofs.YtfkcdmbiihkiiaaGreatDoor
