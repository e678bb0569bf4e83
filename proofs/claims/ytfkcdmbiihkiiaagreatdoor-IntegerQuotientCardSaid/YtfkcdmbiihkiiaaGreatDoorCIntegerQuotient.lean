/- Proved: what the statement IntegerQuotient does: a quotient times its divisor, and the rest, are the number; the rest is not below 0, and less than the size of the divisor; of a product and a small rest they come back: it tells true. No condition. -/
import Derived.Test.YtfkcdmbiihkiiaaGreatDoorBbe
import Derived.Test.YtfkcdmbiihkiiaaGreatDoorBaj
import Derived.Test.YtfkcdmbiihkiiaaGreatDoorBaw
import Derived.Test.YtfkcdmbiihkiiaaGreatDoorBbk
import Derived.Test.YtfkcdmbiihkiiaaGreatDoorBbi
import Derived.Test.YtfkcdmbiihkiiaaGreatDoorBak
import Derived.Test.YtfkcdmbiihkiiaaGreatDoorBbd
import Derived.Test.YtfkcdmbiihkiiaaGreatDoorBbj
import Derived.Test.YtfkcdmbiihkiiaaGreatDoorBbf
import Derived.Test.YtfkcdmbiihkiiaaGreatDoorBbh
import Derived.Test.YtfkcdmbiihkiiaaGreatDoorBbm
import Derived.Test.YtfkcdmbiihkiiaaGreatDoorBbl
import Derived.Deep.RegionHeld3

namespace Go.Proofs.YtfkcdmbiihkiiaaGreatDoor
open Go.RowKit
set_option linter.unusedVariables false
set_option maxHeartbeats 400000

set_option maxRecDepth 100000 in
set_option maxHeartbeats 8000000 in
theorem zsub (w : World) (va vb : Value) (a b : Int) (ha : Zn w va a) (hb : Zn w vb b) (hl : (limbs a.natAbs).length ≤ 1000000) (hl2 : (limbs b.natAbs).length ≤ 1000000) (y : Int) (hy : a - b = y) :
    Calls Tryz.prog 31 #[va, vb] w fun e w' => ∃ u, e = .returned u ∧ Zn w' u y ∧ Ext w w' := by
  have hN := Lib.hid (fun W h => zneg W vb b h (-b) rfl)
  have hA := Lib.hid (fun W u h (g : Zn W u (-b)) => zadd W va u a (-b) h g hl (by rw [Int.natAbs_neg]; exact hl2) y (by rw [← Int.sub_eq_add_neg]; exact hy))
  have ha' := ha
  have hb' := hb
  obtain ⟨p, A, L, c, n, rfl, hu, hL, hz, -, hza, hzn⟩ := ha.open
  obtain ⟨q, B, K, d, m, rfl, hv, hK, hz2, -, hza2, hzn2⟩ := hb.open
  have hE0 := ((((Ext.refl w).alloc (.cells #[.bool p, .slice A L c] 24)).alloc (.cells #[.bool q, .slice B K d] 24)).alloc (.cells #[.bool false, .slice none 0 0] 24)).drew
  have hI0 := (Ib.new3 w (.cells #[.bool p, .slice A L c] 24) (.cells #[.bool q, .slice B K d] 24) false (.slice none 0 0) 24).ext (Ext.refl _).drew
  have hP0 := (Ib.new w p (.slice A L c) 24).ext ((((Ext.refl _).alloc (.cells #[.bool q, .slice B K d] 24)).alloc (.cells #[.bool false, .slice none 0 0] 24)).drew)
  have hQ0 := (Ib.new2 w (.cells #[.bool p, .slice A L c] 24) q (.slice B K d) 24).ext (((Ext.refl _).alloc (.cells #[.bool false, .slice none 0 0] 24)).drew)
  have hS0 : (w.heap.size + 1 + 1 < (((w.alloc (.cells #[.bool p, .slice A L c] 24)).alloc (.cells #[.bool q, .slice B K d] 24)).alloc (.cells #[.bool false, .slice none 0 0] 24)).drew.heap.size ∧ (((w.alloc (.cells #[.bool p, .slice A L c] 24)).alloc (.cells #[.bool q, .slice B K d] 24)).alloc (.cells #[.bool false, .slice none 0 0] 24)).drew.cell? ⟨w.heap.size, 0, none⟩ = some (.bool p) ∧ (((w.alloc (.cells #[.bool p, .slice A L c] 24)).alloc (.cells #[.bool q, .slice B K d] 24)).alloc (.cells #[.bool false, .slice none 0 0] 24)).drew.cell? ⟨w.heap.size, 1, none⟩ = some (.slice A L c) ∧ (((w.alloc (.cells #[.bool p, .slice A L c] 24)).alloc (.cells #[.bool q, .slice B K d] 24)).alloc (.cells #[.bool false, .slice none 0 0] 24)).drew.cell? ⟨w.heap.size + 1, 0, none⟩ = some (.bool q) ∧ (((w.alloc (.cells #[.bool p, .slice A L c] 24)).alloc (.cells #[.bool q, .slice B K d] 24)).alloc (.cells #[.bool false, .slice none 0 0] 24)).drew.cell? ⟨w.heap.size + 1, 1, none⟩ = some (.slice B K d)) ∧ Ext w (((w.alloc (.cells #[.bool p, .slice A L c] 24)).alloc (.cells #[.bool q, .slice B K d] 24)).alloc (.cells #[.bool false, .slice none 0 0] 24)).drew := ⟨⟨by simp, hP0.2.1, hP0.2.2.1, hQ0.2.1, hQ0.2.2.1⟩, hE0⟩
  have ha0 := ha'.below hE0
  have hb0 := hb'.below hE0
  clear hl hl2 hza hzn hza2 hzn2 hz hz2 hL hK ha hb hy hP0 hQ0 ha' hb'
  go_enter Tryz.func31, Tryz.ntmps31
  go_wp2
  go_region_held3 (fun X => (w.heap.size + 1 + 1 < X.heap.size ∧ X.cell? ⟨w.heap.size, 0, none⟩ = some (.bool p) ∧ X.cell? ⟨w.heap.size, 1, none⟩ = some (.slice A L c) ∧ X.cell? ⟨w.heap.size + 1, 0, none⟩ = some (.bool q) ∧ X.cell? ⟨w.heap.size + 1, 1, none⟩ = some (.slice B K d)) ∧ Ext w X)
    (first
      | exact hS0
      | exact keepI2 (by assumption) (by assumption)
      | exact keepS2 (by assumption))
    (first
      | (go_at_call 27; ((with_reducible refine (hN.out _ hb0).mono ?_); rintro e w2 ⟨u, rfl, hz2, hE2⟩; obtain ⟨b2, A2, L2, c2, rfl⟩ := hz2.sh))
      | (go_at_call 29; ((with_reducible refine (hA.out _ _ (ha0.below hE2) hz2).mono ?_); rintro e w3 ⟨u, rfl, hz3, hE3⟩; obtain ⟨b3, A3, L3, c3, rfl⟩ := hz3.sh; have hI3 := (hI0.ext hE2).ext hE3; obtain ⟨i0, i1, i2, i3, i4⟩ := id hI3)))
  clear hN hA
  clear hI3
  go_wp2
  (try simp only [Exit.inBlock, Exit.then])
  refine bodyPost_ret (v := .agg #[.bool b3, .slice A3 L3 c3]) (show (results _ _).run _ _ = _ from ?_) rfl ⟨_, rfl, hz3.put2 ((hI0.ext hE2).ext hE3) (slice_no_int _ _ _) _ _, ((hE0.below hE2).below hE3).put2 (by omega) _ _⟩
  simp only [results]
  go_simp
end Go.Proofs.YtfkcdmbiihkiiaaGreatDoor
/- Proved: what the statement IntegerQuotient does: a quotient times its divisor, and the rest, are the number; the rest is not below 0, and less than the size of the divisor; of a product and a small rest they come back: it tells true. No condition. -/
namespace Go.Proofs.YtfkcdmbiihkiiaaGreatDoor
open Go.RowKit
set_option linter.unusedVariables false
set_option linter.unusedSimpArgs false
set_option maxHeartbeats 400000

namespace Quot6
theorem en12 (u : Array Value) (X : World) : (callFunc 12 u).run Tryz.prog X = .ok (.enter 12 u) X := Pl.enters Tryz.func12 (by kernel_rfl) rfl u X
theorem en13 (u : Array Value) (X : World) : (callFunc 13 u).run Tryz.prog X = .ok (.enter 13 u) X := Pl.enters Tryz.func13 (by kernel_rfl) rfl u X
theorem en14 (u : Array Value) (X : World) : (callFunc 14 u).run Tryz.prog X = .ok (.enter 14 u) X := Pl.enters Tryz.func14 (by kernel_rfl) rfl u X
theorem en16 (u : Array Value) (X : World) : (callFunc 16 u).run Tryz.prog X = .ok (.enter 16 u) X := Pl.enters Tryz.func16 (by kernel_rfl) rfl u X
theorem en20 (u : Array Value) (X : World) : (callFunc 20 u).run Tryz.prog X = .ok (.enter 20 u) X := Pl.enters Tryz.func20 (by kernel_rfl) rfl u X
theorem en25 (u : Array Value) (X : World) : (callFunc 25 u).run Tryz.prog X = .ok (.enter 25 u) X := Pl.enters Tryz.func25 (by kernel_rfl) rfl u X
theorem en29 (u : Array Value) (X : World) : (callFunc 29 u).run Tryz.prog X = .ok (.enter 29 u) X := Pl.enters Tryz.func29 (by kernel_rfl) rfl u X
theorem en33 (u : Array Value) (X : World) : (callFunc 33 u).run Tryz.prog X = .ok (.enter 33 u) X := Pl.enters Tryz.func33 (by kernel_rfl) rfl u X
theorem en46 (u : Array Value) (X : World) : (callFunc 46 u).run Tryz.prog X = .ok (.enter 46 u) X := Pl.enters Tryz.func46 (by kernel_rfl) rfl u X
end Quot6
open Quot6
set_option maxRecDepth 100000 in
set_option maxHeartbeats 4000000 in
theorem IntegerQuotient_walkZ (w : World) (sa : Bool) (Aa : Option Addr) (ca : Nat) (xsa : List Nat) (ua : U w (.slice Aa xsa.length ca) xsa) (sb : Bool) (Ab : Option Addr) (cb : Nat) (xsb : List Nat) (ub : U w (.slice Ab xsb.length cb) xsb) (sc : Bool) (Ac : Option Addr) (cc : Nat) (xsc : List Nat) (uc : U w (.slice Ac xsc.length cc) xsc) (h0 : sg sb (cutN xsb 40) = 0) :
    Calls Tryz.prog 7 #[.agg #[.bool sa, .slice Aa xsa.length ca, .bool sb, .slice Ab xsb.length cb, .bool sc, .slice Ac xsc.length cc]] w fun e w' => e = .returned (.bool true) ∧ Ext w w' := by
  have r_a : Ri w (.agg #[.bool sa, .slice Aa xsa.length ca]) sa xsa := ⟨_, _, rfl, ua⟩
  obtain ⟨a, e_a⟩ : ∃ z, sg sa (cutN xsa 40) = z := ⟨_, rfl⟩
  have b_a : Sz a 40 := by rw [← e_a]; exact Sz.cut ua sa 40 40 (Nat.le_refl _)
  have r_b : Ri w (.agg #[.bool sb, .slice Ab xsb.length cb]) sb xsb := ⟨_, _, rfl, ub⟩
  obtain ⟨b, e_b⟩ : ∃ z, sg sb (cutN xsb 40) = z := ⟨_, rfl⟩
  have b_b : Sz b 40 := by rw [← e_b]; exact Sz.cut ub sb 40 40 (Nat.le_refl _)
  have r_c : Ri w (.agg #[.bool sc, .slice Ac xsc.length cc]) sc xsc := ⟨_, _, rfl, uc⟩
  obtain ⟨c, e_c⟩ : ∃ z, sg sc (cutN xsc 40) = z := ⟨_, rfl⟩
  have b_c : Sz c 40 := by rw [← e_c]; exact Sz.cut uc sc 40 40 (Nat.le_refl _)
  rw [e_b] at h0
  subst h0
  refine Pl.calls_by (n := 134) (vs := [.agg #[.bool sa, .slice Aa xsa.length ca, .bool sb, .slice Ab xsb.length cb, .bool sc, .slice Ac xsc.length cc]]) Tryz.func7 rfl (by kernel_rfl) (by simp) ?_
  refine Pl.V_seq ?_
  refine Pl.V_region (by kernel_rfl) ?_
  refine boxA3 rfl rfl rfl rfl rfl (fun _ _ => trivial) ?_
  intro N1 w1 hB1 j0_1 j1_1 j2_1
  refine Pl.qA_assign trivial rfl rfl rfl rfl rfl ?_
  refine Pl.pA_end ?_
  refine Pl.V_seq ?_
  refine Pl.V_region (by kernel_rfl) ?_
  refine Pl.pA_call rfl rfl rfl rfl rfl en12 ?_
  refine Calls.mono (zhead _) ?_
  rintro e w2 ⟨rfl, hB2⟩
  refine ⟨_, rfl, trivial, ?_⟩
  refine Pl.qA_assign trivial rfl rfl rfl rfl rfl ?_
  refine Pl.pA_end ?_
  refine Pl.V_seq ?_
  refine Pl.V_region (by kernel_rfl) ?_
  refine idxA trivial rfl rfl rfl rfl rfl rfl (ix30 _) ?_
  have j0_1__2 := Io.ext j0_1 hB2
  refine Pl.qA_loadw trivial rfl rfl rfl rfl rfl (Io.load j0_1__2) ?_
  have r_a__2 := Ri.below r_a (Ext.below hB1 hB2)
  refine Pl.pA_call rfl rfl rfl rfl rfl en13 ?_
  refine Calls.mono (lmade _ _ sa xsa r_a__2 a e_a) ?_
  rintro e w3 ⟨v_x4, rfl, h_x4, hB3⟩
  refine ⟨_, rfl, trivial, ?_⟩
  obtain ⟨p_x4, A_x4, L_x4, c_x4, rfl⟩ := Zn.sh h_x4
  refine boxI rfl rfl rfl rfl rfl rfl rfl rfl (fun _ => rfl) (fun _ _ => trivial) ?_
  intro N5 w4 hB4 i_5
  refine Pl.pA_end ?_
  refine Pl.V_seq ?_
  refine Pl.V_region (by kernel_rfl) ?_
  refine idxA trivial rfl rfl rfl rfl rfl rfl (ix31 _) ?_
  have j1_1__4 := Io.ext j1_1 (Ext.below hB2 (Ext.below hB3 hB4))
  refine Pl.qA_loadw trivial rfl rfl rfl rfl rfl (Io.load j1_1__4) ?_
  have r_b__4 := Ri.below r_b (Ext.below hB1 (Ext.below hB2 (Ext.below hB3 hB4)))
  refine Pl.pA_call rfl rfl rfl rfl rfl en13 ?_
  refine Calls.mono (lmade _ _ sb xsb r_b__4 0 e_b) ?_
  rintro e w5 ⟨v_x8, rfl, h_x8, hB5⟩
  refine ⟨_, rfl, trivial, ?_⟩
  obtain ⟨p_x8, A_x8, L_x8, c_x8, rfl⟩ := Zn.sh h_x8
  refine boxI rfl rfl rfl rfl rfl rfl rfl rfl (fun _ => rfl) (fun _ _ => trivial) ?_
  intro N9 w6 hB6 i_9
  refine Pl.pA_end ?_
  refine Pl.V_seq ?_
  refine Pl.V_region (by kernel_rfl) ?_
  refine idxA trivial rfl rfl rfl rfl rfl rfl (ix32 _) ?_
  have j2_1__6 := Io.ext j2_1 (Ext.below hB2 (Ext.below hB3 (Ext.below hB4 (Ext.below hB5 hB6))))
  refine Pl.qA_loadw trivial rfl rfl rfl rfl rfl (Io.load j2_1__6) ?_
  have r_c__6 := Ri.below r_c (Ext.below hB1 (Ext.below hB2 (Ext.below hB3 (Ext.below hB4 (Ext.below hB5 hB6)))))
  refine Pl.pA_call rfl rfl rfl rfl rfl en13 ?_
  refine Calls.mono (lmade _ _ sc xsc r_c__6 c e_c) ?_
  rintro e w7 ⟨v_x12, rfl, h_x12, hB7⟩
  refine ⟨_, rfl, trivial, ?_⟩
  obtain ⟨p_x12, A_x12, L_x12, c_x12, rfl⟩ := Zn.sh h_x12
  refine boxI rfl rfl rfl rfl rfl rfl rfl rfl (fun _ => rfl) (fun _ _ => trivial) ?_
  intro N13 w8 hB8 i_13
  refine Pl.pA_end ?_
  refine Pl.V_seq ?_
  refine Pl.V_region (by kernel_rfl) ?_
  have i_5__8 := Ib.ext i_5 (Ext.below hB5 (Ext.below hB6 (Ext.below hB7 hB8)))
  refine Pl.qA_loadw trivial rfl rfl rfl rfl rfl (Ib.load i_5__8) ?_
  have i_9__8 := Ib.ext i_9 (Ext.below hB7 hB8)
  refine Pl.qA_loadw trivial rfl rfl rfl rfl rfl (Ib.load i_9__8) ?_
  have h_x4__8 := Zn.below h_x4 (Ext.below hB4 (Ext.below hB5 (Ext.below hB6 (Ext.below hB7 hB8))))
  have h_x8__8 := Zn.below h_x8 (Ext.below hB6 (Ext.below hB7 hB8))
  refine Pl.pA_call rfl rfl rfl rfl rfl en14 ?_
  refine Calls.mono (zdiv_Z _ _ _ a h_x4__8 h_x8__8 (Sz.le b_a (by decide))) ?_
  rintro e w9 ⟨rfl, hB9⟩
  refine ⟨_, rfl, trivial, ?_⟩
  refine Pl.qA_move trivial rfl rfl rfl rfl rfl ?_
  refine Pl.qA_extract trivial rfl rfl rfl rfl rfl rfl ?_
  refine Pl.qA_extract trivial rfl rfl rfl rfl rfl rfl ?_
  refine Pl.qA_extract trivial rfl rfl rfl rfl rfl rfl ?_
  refine boxI2 rfl rfl rfl rfl rfl rfl rfl rfl rfl rfl rfl rfl rfl rfl rfl rfl rfl (fun _ _ => rfl) (fun _ _ => rfl) (fun _ _ => trivial) ?_
  intro N19 N20 w10 hB10 i_19 i_20
  refine Pl.qA_assign trivial rfl rfl rfl rfl rfl ?_
  refine Pl.pA_end ?_
  refine Pl.V_seq ?_
  refine Pl.V_seq ?_
  refine Pl.V_region (by kernel_rfl) ?_
  have i_9__10 := Ib.ext i_9__8 (Ext.below hB9 hB10)
  refine Pl.qA_loadw trivial rfl rfl rfl rfl rfl (Ib.load i_9__10) ?_
  have h_x8__10 := Zn.below h_x8__8 (Ext.below hB9 hB10)
  refine Pl.pA_call rfl rfl rfl rfl rfl en25 ?_
  refine Calls.mono (zsign _ _ 0 h_x8__10 0 (by decide)) ?_
  rintro e w11 ⟨rfl, hB11⟩
  refine ⟨_, rfl, trivial, ?_⟩
  refine Pl.qA_bin (v := (.bool true)) trivial rfl rfl rfl rfl rfl rfl (fun X => by go_simp) ?_
  refine Pl.pA_end ?_
  refine Pl.V_true rfl ?_
  refine Pl.V_seq ?_
  refine Pl.V_region (by kernel_rfl) ?_
  refine Pl.qA_move trivial rfl rfl rfl rfl rfl ?_
  refine Pl.qA_move trivial rfl rfl rfl rfl rfl ?_
  refine Pl.qA_move trivial rfl rfl rfl rfl rfl ?_
  refine Pl.qA_bin (v := (.bool true)) trivial rfl rfl rfl rfl rfl rfl (fun X => by go_simp) ?_
  refine Pl.qA_pick trivial rfl rfl rfl rfl rfl rfl ?_
  refine Pl.qA_move trivial rfl rfl rfl rfl rfl ?_
  have i_19__11 := Ib.ext i_19 hB11
  refine Pl.qA_loadw trivial rfl rfl rfl rfl rfl (Ib.load i_19__11) ?_
  refine Pl.pA_call rfl rfl rfl rfl rfl en25 ?_
  refine Calls.mono (zsign _ _ 0 (Zn.zero _ _ _) 0 (by decide)) ?_
  rintro e w12 ⟨rfl, hB12⟩
  refine ⟨_, rfl, trivial, ?_⟩
  refine Pl.qA_bin (v := (.bool true)) trivial rfl rfl rfl rfl rfl rfl (fun X => by go_simp) ?_
  refine Pl.qA_pick trivial rfl rfl rfl rfl rfl rfl ?_
  refine Pl.qA_move trivial rfl rfl rfl rfl rfl ?_
  have i_20__12 := Ib.ext i_20 (Ext.below hB11 hB12)
  refine Pl.qA_loadw trivial rfl rfl rfl rfl rfl (Ib.load i_20__12) ?_
  refine Pl.pA_call rfl rfl rfl rfl rfl en25 ?_
  refine Calls.mono (zsign _ _ 0 (Zn.zero _ _ _) 0 (by decide)) ?_
  rintro e w13 ⟨rfl, hB13⟩
  refine ⟨_, rfl, trivial, ?_⟩
  refine Pl.qA_bin (v := (.bool true)) trivial rfl rfl rfl rfl rfl rfl (fun X => by go_simp) ?_
  refine Pl.qA_pick trivial rfl rfl rfl rfl rfl rfl ?_
  refine Pl.qA_assign trivial rfl rfl rfl rfl rfl ?_
  refine Pl.pA_end ?_
  refine Pl.post_ret rfl rfl ?_
  exact ⟨rfl, (Ext.below hB1 (Ext.below hB2 (Ext.below hB3 (Ext.below hB4 (Ext.below hB5 (Ext.below hB6 (Ext.below hB7 (Ext.below hB8 (Ext.below hB9 (Ext.below hB10 (Ext.below hB11 (Ext.below hB12 hB13))))))))))))⟩
set_option maxRecDepth 100000 in
set_option maxHeartbeats 4000000 in
theorem IntegerQuotient_walkY (w : World) (sa : Bool) (Aa : Option Addr) (ca : Nat) (xsa : List Nat) (ua : U w (.slice Aa xsa.length ca) xsa) (sb : Bool) (Ab : Option Addr) (cb : Nat) (xsb : List Nat) (ub : U w (.slice Ab xsb.length cb) xsb) (sc : Bool) (Ac : Option Addr) (cc : Nat) (xsc : List Nat) (uc : U w (.slice Ac xsc.length cc) xsc) (h0 : sg sb (cutN xsb 40) ≠ 0) (hr : sg sa (cutN xsa 40) % sg sb (cutN xsb 40) = 0) :
    Calls Tryz.prog 7 #[.agg #[.bool sa, .slice Aa xsa.length ca, .bool sb, .slice Ab xsb.length cb, .bool sc, .slice Ac xsc.length cc]] w fun e w' => e = .returned (.bool true) ∧ Ext w w' := by
  have r_a : Ri w (.agg #[.bool sa, .slice Aa xsa.length ca]) sa xsa := ⟨_, _, rfl, ua⟩
  obtain ⟨a, e_a⟩ : ∃ z, sg sa (cutN xsa 40) = z := ⟨_, rfl⟩
  have b_a : Sz a 40 := by rw [← e_a]; exact Sz.cut ua sa 40 40 (Nat.le_refl _)
  have r_b : Ri w (.agg #[.bool sb, .slice Ab xsb.length cb]) sb xsb := ⟨_, _, rfl, ub⟩
  obtain ⟨b, e_b⟩ : ∃ z, sg sb (cutN xsb 40) = z := ⟨_, rfl⟩
  have b_b : Sz b 40 := by rw [← e_b]; exact Sz.cut ub sb 40 40 (Nat.le_refl _)
  have r_c : Ri w (.agg #[.bool sc, .slice Ac xsc.length cc]) sc xsc := ⟨_, _, rfl, uc⟩
  obtain ⟨c, e_c⟩ : ∃ z, sg sc (cutN xsc 40) = z := ⟨_, rfl⟩
  have b_c : Sz c 40 := by rw [← e_c]; exact Sz.cut uc sc 40 40 (Nat.le_refl _)
  rw [e_b] at h0
  rw [e_a, e_b] at hr
  refine Pl.calls_by (n := 134) (vs := [.agg #[.bool sa, .slice Aa xsa.length ca, .bool sb, .slice Ab xsb.length cb, .bool sc, .slice Ac xsc.length cc]]) Tryz.func7 rfl (by kernel_rfl) (by simp) ?_
  refine Pl.V_seq ?_
  refine Pl.V_region (by kernel_rfl) ?_
  refine boxA3 rfl rfl rfl rfl rfl (fun _ _ => trivial) ?_
  intro N1 w1 hB1 j0_1 j1_1 j2_1
  refine Pl.qA_assign trivial rfl rfl rfl rfl rfl ?_
  refine Pl.pA_end ?_
  refine Pl.V_seq ?_
  refine Pl.V_region (by kernel_rfl) ?_
  refine Pl.pA_call rfl rfl rfl rfl rfl en12 ?_
  refine Calls.mono (zhead _) ?_
  rintro e w2 ⟨rfl, hB2⟩
  refine ⟨_, rfl, trivial, ?_⟩
  refine Pl.qA_assign trivial rfl rfl rfl rfl rfl ?_
  refine Pl.pA_end ?_
  refine Pl.V_seq ?_
  refine Pl.V_region (by kernel_rfl) ?_
  refine idxA trivial rfl rfl rfl rfl rfl rfl (ix30 _) ?_
  have j0_1__2 := Io.ext j0_1 hB2
  refine Pl.qA_loadw trivial rfl rfl rfl rfl rfl (Io.load j0_1__2) ?_
  have r_a__2 := Ri.below r_a (Ext.below hB1 hB2)
  refine Pl.pA_call rfl rfl rfl rfl rfl en13 ?_
  refine Calls.mono (lmade _ _ sa xsa r_a__2 a e_a) ?_
  rintro e w3 ⟨v_x4, rfl, h_x4, hB3⟩
  refine ⟨_, rfl, trivial, ?_⟩
  obtain ⟨p_x4, A_x4, L_x4, c_x4, rfl⟩ := Zn.sh h_x4
  refine boxI rfl rfl rfl rfl rfl rfl rfl rfl (fun _ => rfl) (fun _ _ => trivial) ?_
  intro N5 w4 hB4 i_5
  refine Pl.pA_end ?_
  refine Pl.V_seq ?_
  refine Pl.V_region (by kernel_rfl) ?_
  refine idxA trivial rfl rfl rfl rfl rfl rfl (ix31 _) ?_
  have j1_1__4 := Io.ext j1_1 (Ext.below hB2 (Ext.below hB3 hB4))
  refine Pl.qA_loadw trivial rfl rfl rfl rfl rfl (Io.load j1_1__4) ?_
  have r_b__4 := Ri.below r_b (Ext.below hB1 (Ext.below hB2 (Ext.below hB3 hB4)))
  refine Pl.pA_call rfl rfl rfl rfl rfl en13 ?_
  refine Calls.mono (lmade _ _ sb xsb r_b__4 b e_b) ?_
  rintro e w5 ⟨v_x8, rfl, h_x8, hB5⟩
  refine ⟨_, rfl, trivial, ?_⟩
  obtain ⟨p_x8, A_x8, L_x8, c_x8, rfl⟩ := Zn.sh h_x8
  refine boxI rfl rfl rfl rfl rfl rfl rfl rfl (fun _ => rfl) (fun _ _ => trivial) ?_
  intro N9 w6 hB6 i_9
  refine Pl.pA_end ?_
  refine Pl.V_seq ?_
  refine Pl.V_region (by kernel_rfl) ?_
  refine idxA trivial rfl rfl rfl rfl rfl rfl (ix32 _) ?_
  have j2_1__6 := Io.ext j2_1 (Ext.below hB2 (Ext.below hB3 (Ext.below hB4 (Ext.below hB5 hB6))))
  refine Pl.qA_loadw trivial rfl rfl rfl rfl rfl (Io.load j2_1__6) ?_
  have r_c__6 := Ri.below r_c (Ext.below hB1 (Ext.below hB2 (Ext.below hB3 (Ext.below hB4 (Ext.below hB5 hB6)))))
  refine Pl.pA_call rfl rfl rfl rfl rfl en13 ?_
  refine Calls.mono (lmade _ _ sc xsc r_c__6 c e_c) ?_
  rintro e w7 ⟨v_x12, rfl, h_x12, hB7⟩
  refine ⟨_, rfl, trivial, ?_⟩
  obtain ⟨p_x12, A_x12, L_x12, c_x12, rfl⟩ := Zn.sh h_x12
  refine boxI rfl rfl rfl rfl rfl rfl rfl rfl (fun _ => rfl) (fun _ _ => trivial) ?_
  intro N13 w8 hB8 i_13
  refine Pl.pA_end ?_
  refine Pl.V_seq ?_
  refine Pl.V_region (by kernel_rfl) ?_
  have i_5__8 := Ib.ext i_5 (Ext.below hB5 (Ext.below hB6 (Ext.below hB7 hB8)))
  refine Pl.qA_loadw trivial rfl rfl rfl rfl rfl (Ib.load i_5__8) ?_
  have i_9__8 := Ib.ext i_9 (Ext.below hB7 hB8)
  refine Pl.qA_loadw trivial rfl rfl rfl rfl rfl (Ib.load i_9__8) ?_
  have h_x4__8 := Zn.below h_x4 (Ext.below hB4 (Ext.below hB5 (Ext.below hB6 (Ext.below hB7 hB8))))
  have h_x8__8 := Zn.below h_x8 (Ext.below hB6 (Ext.below hB7 hB8))
  refine Pl.pA_call rfl rfl rfl rfl rfl en14 ?_
  refine Calls.mono (zdiv_D _ _ _ a b h_x4__8 h_x8__8 (Sz.le b_a (by decide)) (Sz.le b_b (by decide)) h0 _ _ rfl rfl) ?_
  rintro e w9 ⟨⟨v_x18, v_x19, rfl, h_x18, h_x19⟩, hB9⟩
  refine ⟨_, rfl, trivial, ?_⟩
  have b_x18 : Sz (a / b) 40 := Sz.div b_a
  have b_x19 : Sz (a % b) 40 := Sz.mod b_b h0
  refine Pl.qA_move trivial rfl rfl rfl rfl rfl ?_
  refine Pl.qA_extract trivial rfl rfl rfl rfl rfl rfl ?_
  refine Pl.qA_extract trivial rfl rfl rfl rfl rfl rfl ?_
  refine Pl.qA_extract trivial rfl rfl rfl rfl rfl rfl ?_
  obtain ⟨p_x18, A_x18, L_x18, c_x18, rfl⟩ := Zn.sh h_x18
  obtain ⟨p_x19, A_x19, L_x19, c_x19, rfl⟩ := Zn.sh h_x19
  refine boxI2 rfl rfl rfl rfl rfl rfl rfl rfl rfl rfl rfl rfl rfl rfl rfl rfl rfl (fun _ _ => rfl) (fun _ _ => rfl) (fun _ _ => trivial) ?_
  intro N20 N21 w10 hB10 i_20 i_21
  refine Pl.qA_assign trivial rfl rfl rfl rfl rfl ?_
  refine Pl.pA_end ?_
  refine Pl.V_seq ?_
  refine Pl.V_seq ?_
  refine Pl.V_region (by kernel_rfl) ?_
  have i_9__10 := Ib.ext i_9__8 (Ext.below hB9 hB10)
  refine Pl.qA_loadw trivial rfl rfl rfl rfl rfl (Ib.load i_9__10) ?_
  have h_x8__10 := Zn.below h_x8__8 (Ext.below hB9 hB10)
  refine Pl.pA_call rfl rfl rfl rfl rfl en25 ?_
  refine Calls.mono (zsign _ _ b h_x8__10 (Int.sign b) rfl) ?_
  rintro e w11 ⟨rfl, hB11⟩
  refine ⟨_, rfl, trivial, ?_⟩
  refine Pl.qA_bin (v := (.bool false)) trivial rfl rfl rfl rfl rfl rfl (fun X => b_eql (beq_eq_false_iff_ne.2 (sign_ne h0)) X) ?_
  refine Pl.pA_end ?_
  refine Pl.V_false rfl ?_
  refine Pl.V_skip ?_
  refine Pl.V_seq ?_
  refine Pl.V_seq ?_
  refine Pl.V_draw (S := fun X => Ext w11 X) [(true, 0, 0), (true, 1, 1), (true, 2, 3), (true, 3, 7), (true, 4, 15), (true, 6, 31), (true, 8, 95), (false, 5, 351), (false, 7, 383), (false, 9, 511), (true, 10, 1023), (true, 11, 2047), (true, 12, 4095), (true, 13, 8191), (false, 14, 16383), (true, 15, 32767), (true, 16, 65535), (true, 17, 131071), (true, 18, 262143), (true, 19, 524287), (true, 20, 1048575), (true, 21, 2097151), (false, 22, 4194303), (true, 23, 8388607), (true, 24, 16777215)] fo Pl.post_panic (by kernel_rfl) (Ext.drew (Ext.refl _)) ?_
  generalize w11.drew = w12
  intro hB12
  have hS12 := hB12
  refine Pl.qA_move hS12 rfl rfl rfl rfl rfl ?_
  refine Pl.qA_bin (v := (.bool false)) hS12 rfl rfl rfl rfl rfl rfl (fun X => by go_simp) ?_
  refine Pl.qA_move hS12 rfl rfl rfl rfl rfl ?_
  have i_20__11 := Ib.ext i_20 hB11
  refine Pl.qA_load hS12 rfl rfl rfl rfl rfl (fun X hX => Ib.load (Ib.ext i_20__11 hX)) ?_
  have i_9__11 := Ib.ext i_9__10 hB11
  refine Pl.qA_load hS12 rfl rfl rfl rfl rfl (fun X hX => Ib.load (Ib.ext i_9__11 hX)) ?_
  have i_21__11 := Ib.ext i_21 hB11
  refine Pl.qA_load hS12 rfl rfl rfl rfl rfl (fun X hX => Ib.load (Ib.ext i_21__11 hX)) ?_
  have i_5__11 := Ib.ext i_5__8 (Ext.below hB9 (Ext.below hB10 hB11))
  refine Pl.qA_load hS12 rfl rfl rfl rfl rfl (fun X hX => Ib.load (Ib.ext i_5__11 hX)) ?_
  have h_x18__12 := Zn.below h_x18 (Ext.below hB10 (Ext.below hB11 hB12))
  have h_x8__12 := Zn.below h_x8__10 (Ext.below hB11 hB12)
  refine Pl.pA_call rfl rfl rfl rfl rfl en33 ?_
  refine Calls.mono (zmul _ _ _ (a / b) b h_x18__12 h_x8__12 (Sz.le b_x18 (by decide)) (Sz.le b_b (by decide)) _ rfl) ?_
  rintro e w13 ⟨v_x26, rfl, h_x26, hB13⟩
  have hS13 := Ext.below hS12 hB13
  refine ⟨_, rfl, hS13, ?_⟩
  have b_x26 : Sz ((a / b) * b) 80 := Sz.mul b_x18 b_b (by decide)
  have h_x19__13 := Zn.below h_x19 (Ext.below hB10 (Ext.below hB11 (Ext.below hB12 hB13)))
  refine Pl.pA_call rfl rfl rfl rfl rfl en29 ?_
  refine Calls.mono (zadd _ _ _ ((a / b) * b) (a % b) h_x26 h_x19__13 (Sz.le b_x26 (by decide)) (Sz.le b_x19 (by decide)) _ rfl) ?_
  rintro e w14 ⟨v_x28, rfl, h_x28, hB14⟩
  have hS14 := Ext.below hS13 hB14
  refine ⟨_, rfl, hS14, ?_⟩
  have b_x28 : Sz (((a / b) * b) + (a % b)) 81 := Sz.add b_x26 b_x19 (by decide) (by decide)
  have h_x4__14 := Zn.below h_x4__8 (Ext.below hB9 (Ext.below hB10 (Ext.below hB11 (Ext.below hB12 (Ext.below hB13 hB14)))))
  refine Pl.pA_call rfl rfl rfl rfl rfl en20 ?_
  refine Calls.mono (rzsame _ _ _ (((a / b) * b) + (a % b)) a h_x28 h_x4__14 (Sz.le b_x28 (by decide)) (Sz.le b_a (by decide)) true (decide_eq_true (qr_back a b))) ?_
  rintro e w15 ⟨rfl, hB15⟩
  have hS15 := Ext.below hS14 hB15
  refine ⟨_, rfl, hS15, ?_⟩
  refine Pl.qA_un (v := (.bool false)) hS15 rfl rfl rfl rfl rfl (fun X => rfl) ?_
  refine Pl.qA_pick hS15 rfl rfl rfl rfl rfl rfl ?_
  refine Pl.qA_move hS15 rfl rfl rfl rfl rfl ?_
  refine Pl.qA_load hS15 rfl rfl rfl rfl rfl (fun X hX => Ib.load (Ib.ext i_21__11 hX)) ?_
  have h_x19__15 := Zn.below h_x19__13 (Ext.below hB14 hB15)
  refine Pl.pA_call rfl rfl rfl rfl rfl en25 ?_
  refine Calls.mono (zsign _ _ (a % b) h_x19__15 (Int.sign (a % b)) rfl) ?_
  rintro e w16 ⟨rfl, hB16⟩
  have hS16 := Ext.below hS15 hB16
  refine ⟨_, rfl, hS16, ?_⟩
  refine Pl.qA_bin (v := (.bool false)) hS16 rfl rfl rfl rfl rfl rfl (fun X => b_lss (decide_eq_false (sign_nn (Int.emod_nonneg a h0))) X) ?_
  refine Pl.qA_pick hS16 rfl rfl rfl rfl rfl rfl ?_
  refine Pl.qA_move hS16 rfl rfl rfl rfl rfl ?_
  refine qA_field hS16 rfl rfl rfl rfl rfl (fa_mag _) ?_
  refine Pl.qA_load hS16 rfl rfl rfl rfl rfl (fun X hX => Ib.mag (Ib.ext i_21__11 hX)) ?_
  have h_x19__16 := Zn.below h_x19__15 hB16
  have mg_x19_31 := Zn.mag h_x19__16
  refine qA_field hS16 rfl rfl rfl rfl rfl (fa_mag _) ?_
  refine Pl.qA_load hS16 rfl rfl rfl rfl rfl (fun X hX => Ib.mag (Ib.ext i_9__11 hX)) ?_
  have h_x8__16 := Zn.below h_x8__12 (Ext.below hB13 (Ext.below hB14 (Ext.below hB15 hB16)))
  have mg_x8_33 := Zn.mag h_x8__16
  refine Pl.pA_call rfl rfl rfl rfl rfl en46 ?_
  refine Calls.mono (cmp_B _ _ _ _ _ mg_x19_31 mg_x8_33 (-1) (rest_less a h0)) ?_
  rintro e w17 ⟨rfl, hB17⟩
  have hS17 := Ext.below hS16 hB17
  refine ⟨_, rfl, hS17, ?_⟩
  refine Pl.qA_bin (v := (.bool false)) hS17 rfl rfl rfl rfl rfl rfl (fun X => by go_simp) ?_
  refine Pl.qA_pick hS17 rfl rfl rfl rfl rfl rfl ?_
  refine Pl.pA_end ?_
  refine Pl.V_false rfl ?_
  refine Pl.V_skip ?_
  refine Pl.V_seq ?_
  refine Pl.V_region (by kernel_rfl) ?_
  have i_13__17 := Ib.ext i_13 (Ext.below hB9 (Ext.below hB10 (Ext.below hB11 (Ext.below hB12 (Ext.below hB13 (Ext.below hB14 (Ext.below hB15 (Ext.below hB16 hB17))))))))
  refine Pl.qA_loadw trivial rfl rfl rfl rfl rfl (Ib.load i_13__17) ?_
  have i_9__17 := Ib.ext i_9__11 (Ext.below hB12 (Ext.below hB13 (Ext.below hB14 (Ext.below hB15 (Ext.below hB16 hB17)))))
  refine Pl.qA_loadw trivial rfl rfl rfl rfl rfl (Ib.load i_9__17) ?_
  have h_x12__17 := Zn.below h_x12 (Ext.below hB8 (Ext.below hB9 (Ext.below hB10 (Ext.below hB11 (Ext.below hB12 (Ext.below hB13 (Ext.below hB14 (Ext.below hB15 (Ext.below hB16 hB17)))))))))
  have h_x8__17 := Zn.below h_x8__16 hB17
  refine Pl.pA_call rfl rfl rfl rfl rfl en33 ?_
  refine Calls.mono (zmul _ _ _ c b h_x12__17 h_x8__17 (Sz.le b_c (by decide)) (Sz.le b_b (by decide)) _ rfl) ?_
  rintro e w18 ⟨v_x39, rfl, h_x39, hB18⟩
  refine ⟨_, rfl, trivial, ?_⟩
  have b_x39 : Sz (c * b) 80 := Sz.mul b_c b_b (by decide)
  obtain ⟨p_x39, A_x39, L_x39, c_x39, rfl⟩ := Zn.sh h_x39
  refine boxI rfl rfl rfl rfl rfl rfl rfl rfl (fun _ => rfl) (fun _ _ => trivial) ?_
  intro N40 w19 hB19 i_40
  refine Pl.pA_end ?_
  refine Pl.V_seq ?_
  refine Pl.V_drawG (S := fun X => Ext w19 X) fo (Ext.drew (Ext.refl _)) ?_
  generalize w19.drew = w20
  intro hB20
  have hS20 := hB20
  refine Pl.G_cut 3 2047 (fun l' w' => ∃ (N_11 : Nat) (N_12 : Nat) (V_87 : Value) (V_88 : Value), l' = [(2, (.bool false)), (3, (.bool true)), (5, .pointer (some ⟨N9, 0, none⟩)), (6, .pointer (some ⟨N13, 0, none⟩)), (8, .pointer (some ⟨N21, 0, none⟩)), (10, .pointer (some ⟨N40, 0, none⟩)), (11, .pointer (some ⟨N_11, 0, none⟩)), (12, .pointer (some ⟨N_12, 0, none⟩)), (87, V_87), (88, V_88), (89, (.int .i64 0))] ∧ Ext w19 w' ∧ w19.heap.size ≤ N_11 ∧ Ib w' N_11 false (.slice none 0 0) ∧ w19.heap.size ≤ N_12 ∧ Ib w' N_12 false (.slice none 0 0) ∧ Zn w' V_87 (((c * b) + (a % b)) / b) ∧ Zn w' V_88 (((c * b) + (a % b)) % b) ∧ N_11 ≠ N_12) ?_ ?_
  rotate_left
  · intro hK
    refine Pl.G_plan [(true, 0, 0), (true, 1, 1), (true, 3, 3)] 11 11 Pl.post_panic (by kernel_rfl) (by kernel_rfl) (by kernel_rfl) ?_
    refine Pl.qA_load hS20 rfl rfl rfl rfl rfl (fun X hX => Ib.load (Ib.ext i_40 hX)) ?_
    have i_21__19 := Ib.ext i_21__11 (Ext.below hB12 (Ext.below hB13 (Ext.below hB14 (Ext.below hB15 (Ext.below hB16 (Ext.below hB17 (Ext.below hB18 hB19)))))))
    refine Pl.qA_load hS20 rfl rfl rfl rfl rfl (fun X hX => Ib.load (Ib.ext i_21__19 hX)) ?_
    have i_9__19 := Ib.ext i_9__17 (Ext.below hB18 hB19)
    refine Pl.qA_load hS20 rfl rfl rfl rfl rfl (fun X hX => Ib.load (Ib.ext i_9__19 hX)) ?_
    refine Pl.pA_end ?_
    refine Pl.G_any [2, 9, 10] 10 (by kernel_rfl) (by kernel_rfl) (by kernel_rfl) (Pl.AllG_cons ?_ (Pl.AllG_cons ?_ (Pl.AllG_cons ?_ Pl.AllG_nil)))
    · have h_x39__20 := Zn.below h_x39 (Ext.below hB19 hB20)
      have h_x19__20 := Zn.below h_x19__16 (Ext.below hB17 (Ext.below hB18 (Ext.below hB19 hB20)))
      refine Pl.pA_call rfl rfl rfl rfl rfl en29 ?_
      refine Calls.mono (zadd _ _ _ (c * b) (a % b) h_x39__20 h_x19__20 (Sz.le b_x39 (by decide)) (Sz.le b_x19 (by decide)) _ rfl) ?_
      rintro e w21 ⟨v_x43, rfl, h_x43, hB21⟩
      have hS21 := Ext.below hS20 hB21
      refine ⟨_, rfl, hS21, ?_⟩
      have b_x43 : Sz ((c * b) + (a % b)) 81 := Sz.add b_x39 b_x19 (by decide) (by decide)
      refine Pl.pA_end ?_
      refine Pl.G_any [4, 9, 10] 9 (by kernel_rfl) (by kernel_rfl) (by kernel_rfl) (Pl.AllG_cons ?_ (Pl.AllG_cons ?_ (Pl.AllG_cons ?_ Pl.AllG_nil)))
      · have h_x8__21 := Zn.below h_x8__17 (Ext.below hB18 (Ext.below hB19 (Ext.below hB20 hB21)))
        refine Pl.pA_call rfl rfl rfl rfl rfl en14 ?_
        refine Calls.mono (zdiv_D _ _ _ ((c * b) + (a % b)) b h_x43 h_x8__21 (Sz.le b_x43 (by decide)) (Sz.le b_b (by decide)) h0 _ _ rfl rfl) ?_
        rintro e w22 ⟨⟨v_x45, v_x46, rfl, h_x45, h_x46⟩, hB22⟩
        have hS22 := Ext.below hS21 hB22
        refine ⟨_, rfl, hS22, ?_⟩
        have b_x45 : Sz (((c * b) + (a % b)) / b) 81 := Sz.div b_x43
        have b_x46 : Sz (((c * b) + (a % b)) % b) 40 := Sz.mod b_b h0
        refine Pl.pA_end ?_
        refine Pl.G_plan [(true, 5, 31), (true, 6, 63), (true, 7, 127), (true, 8, 255)] 511 5 Pl.post_panic (by kernel_rfl) (by kernel_rfl) (by kernel_rfl) ?_
        refine Pl.qA_move hS22 rfl rfl rfl rfl rfl ?_
        refine Pl.qA_extract hS22 rfl rfl rfl rfl rfl rfl ?_
        refine Pl.qA_extract hS22 rfl rfl rfl rfl rfl rfl ?_
        refine Pl.qA_extract hS22 rfl rfl rfl rfl rfl rfl ?_
        refine Pl.pA_end ?_
        refine Pl.G_any [9, 10] 4 (by kernel_rfl) (by kernel_rfl) (by kernel_rfl) (Pl.AllG_cons ?_ (Pl.AllG_cons ?_ Pl.AllG_nil))
        · refine allocI rfl rfl rfl rfl (fun _ k => Ext.below hS22 k) ?_
          intro N47 w23 hB23 z_N47 i_47
          have hS23 := Ext.below hS22 hB23
          refine Pl.pA_end ?_
          refine Pl.G_plan [(false, 10, 1023)] 2047 3 Pl.post_panic (by kernel_rfl) (by kernel_rfl) (by kernel_rfl) ?_
          refine allocI rfl rfl rfl rfl (fun _ k => Ext.below hS23 k) ?_
          intro N48 w24 hB24 z_N48 i_48
          have hS24 := Ext.below hS23 hB24
          refine Pl.pA_end ?_
          have i_47__24 := Ib.ext i_47 hB24
          have h_x45__24 := Zn.below h_x45 (Ext.below hB23 hB24)
          have h_x46__24 := Zn.below h_x46 (Ext.below hB23 hB24)
          exact Pl.G_sub [(2, (.bool false)), (3, (.bool true)), (5, .pointer (some ⟨N9, 0, none⟩)), (6, .pointer (some ⟨N13, 0, none⟩)), (8, .pointer (some ⟨N21, 0, none⟩)), (10, .pointer (some ⟨N40, 0, none⟩)), (11, .pointer (some ⟨N47, 0, none⟩)), (12, .pointer (some ⟨N48, 0, none⟩)), (87, v_x45), (88, v_x46), (89, (.int .i64 0))] (Pl.subl_cons rfl (Pl.subl_cons rfl (Pl.subl_cons rfl (Pl.subl_cons rfl (Pl.subl_cons rfl (Pl.subl_cons rfl (Pl.subl_cons rfl (Pl.subl_cons rfl (Pl.subl_cons rfl (Pl.subl_cons rfl (Pl.subl_cons rfl Pl.subl_nil))))))))))) (hK _ _ ⟨N47, N48, v_x45, v_x46, rfl, (Ext.below hB20 (Ext.below hB21 (Ext.below hB22 (Ext.below hB23 hB24)))), (Nat.le_trans (Below.size (Ext.below hB20 (Ext.below hB21 hB22))) z_N47), i_47__24, (Nat.le_trans (Below.size (Ext.below hB20 (Ext.below hB21 (Ext.below hB22 hB23)))) z_N48), i_48, h_x45__24, h_x46__24, (Nat.ne_of_lt (Nat.lt_of_lt_of_le (i_47).1 z_N48))⟩)
        · refine allocI rfl rfl rfl rfl (fun _ k => Ext.below hS22 k) ?_
          intro N47 w23 hB23 z_N47 i_47
          have hS23 := Ext.below hS22 hB23
          refine Pl.pA_end ?_
          refine Pl.G_plan [(false, 9, 1535)] 2047 3 Pl.post_panic (by kernel_rfl) (by kernel_rfl) (by kernel_rfl) ?_
          refine allocI rfl rfl rfl rfl (fun _ k => Ext.below hS23 k) ?_
          intro N48 w24 hB24 z_N48 i_48
          have hS24 := Ext.below hS23 hB24
          refine Pl.pA_end ?_
          have i_47__24 := Ib.ext i_47 hB24
          have h_x45__24 := Zn.below h_x45 (Ext.below hB23 hB24)
          have h_x46__24 := Zn.below h_x46 (Ext.below hB23 hB24)
          exact Pl.G_sub [(2, (.bool false)), (3, (.bool true)), (5, .pointer (some ⟨N9, 0, none⟩)), (6, .pointer (some ⟨N13, 0, none⟩)), (8, .pointer (some ⟨N21, 0, none⟩)), (10, .pointer (some ⟨N40, 0, none⟩)), (11, .pointer (some ⟨N48, 0, none⟩)), (12, .pointer (some ⟨N47, 0, none⟩)), (87, v_x45), (88, v_x46), (89, (.int .i64 0))] (Pl.subl_cons rfl (Pl.subl_cons rfl (Pl.subl_cons rfl (Pl.subl_cons rfl (Pl.subl_cons rfl (Pl.subl_cons rfl (Pl.subl_cons rfl (Pl.subl_cons rfl (Pl.subl_cons rfl (Pl.subl_cons rfl (Pl.subl_cons rfl Pl.subl_nil))))))))))) (hK _ _ ⟨N48, N47, v_x45, v_x46, rfl, (Ext.below hB20 (Ext.below hB21 (Ext.below hB22 (Ext.below hB23 hB24)))), (Nat.le_trans (Below.size (Ext.below hB20 (Ext.below hB21 (Ext.below hB22 hB23)))) z_N48), i_48, (Nat.le_trans (Below.size (Ext.below hB20 (Ext.below hB21 hB22))) z_N47), i_47__24, h_x45__24, h_x46__24, (Nat.ne_of_gt (Nat.lt_of_lt_of_le (i_47).1 z_N48))⟩)
      · refine allocI rfl rfl rfl rfl (fun _ k => Ext.below hS21 k) ?_
        intro N44 w22 hB22 z_N44 i_44
        have hS22 := Ext.below hS21 hB22
        refine Pl.pA_end ?_
        refine Pl.G_any [4, 10] 8 (by kernel_rfl) (by kernel_rfl) (by kernel_rfl) (Pl.AllG_cons ?_ (Pl.AllG_cons ?_ Pl.AllG_nil))
        · have h_x43__22 := Zn.below h_x43 hB22
          have h_x8__22 := Zn.below h_x8__17 (Ext.below hB18 (Ext.below hB19 (Ext.below hB20 (Ext.below hB21 hB22))))
          refine Pl.pA_call rfl rfl rfl rfl rfl en14 ?_
          refine Calls.mono (zdiv_D _ _ _ ((c * b) + (a % b)) b h_x43__22 h_x8__22 (Sz.le b_x43 (by decide)) (Sz.le b_b (by decide)) h0 _ _ rfl rfl) ?_
          rintro e w23 ⟨⟨v_x47, v_x48, rfl, h_x47, h_x48⟩, hB23⟩
          have hS23 := Ext.below hS22 hB23
          refine ⟨_, rfl, hS23, ?_⟩
          have b_x47 : Sz (((c * b) + (a % b)) / b) 81 := Sz.div b_x43
          have b_x48 : Sz (((c * b) + (a % b)) % b) 40 := Sz.mod b_b h0
          refine Pl.pA_end ?_
          refine Pl.G_plan [(true, 5, 543), (true, 6, 575), (true, 7, 639), (true, 8, 767), (false, 10, 1023)] 2047 3 Pl.post_panic (by kernel_rfl) (by kernel_rfl) (by kernel_rfl) ?_
          refine Pl.qA_move hS23 rfl rfl rfl rfl rfl ?_
          refine Pl.qA_extract hS23 rfl rfl rfl rfl rfl rfl ?_
          refine Pl.qA_extract hS23 rfl rfl rfl rfl rfl rfl ?_
          refine Pl.qA_extract hS23 rfl rfl rfl rfl rfl rfl ?_
          refine allocI rfl rfl rfl rfl (fun _ k => Ext.below hS23 k) ?_
          intro N49 w24 hB24 z_N49 i_49
          have hS24 := Ext.below hS23 hB24
          refine Pl.pA_end ?_
          have i_44__24 := Ib.ext i_44 (Ext.below hB23 hB24)
          have h_x47__24 := Zn.below h_x47 hB24
          have h_x48__24 := Zn.below h_x48 hB24
          exact Pl.G_sub [(2, (.bool false)), (3, (.bool true)), (5, .pointer (some ⟨N9, 0, none⟩)), (6, .pointer (some ⟨N13, 0, none⟩)), (8, .pointer (some ⟨N21, 0, none⟩)), (10, .pointer (some ⟨N40, 0, none⟩)), (11, .pointer (some ⟨N44, 0, none⟩)), (12, .pointer (some ⟨N49, 0, none⟩)), (87, v_x47), (88, v_x48), (89, (.int .i64 0))] (Pl.subl_cons rfl (Pl.subl_cons rfl (Pl.subl_cons rfl (Pl.subl_cons rfl (Pl.subl_cons rfl (Pl.subl_cons rfl (Pl.subl_cons rfl (Pl.subl_cons rfl (Pl.subl_cons rfl (Pl.subl_cons rfl (Pl.subl_cons rfl Pl.subl_nil))))))))))) (hK _ _ ⟨N44, N49, v_x47, v_x48, rfl, (Ext.below hB20 (Ext.below hB21 (Ext.below hB22 (Ext.below hB23 hB24)))), (Nat.le_trans (Below.size (Ext.below hB20 hB21)) z_N44), i_44__24, (Nat.le_trans (Below.size (Ext.below hB20 (Ext.below hB21 (Ext.below hB22 hB23)))) z_N49), i_49, h_x47__24, h_x48__24, (Nat.ne_of_lt (Nat.lt_of_lt_of_le (Ib.ext i_44 hB23).1 z_N49))⟩)
        · refine allocI rfl rfl rfl rfl (fun _ k => Ext.below hS22 k) ?_
          intro N45 w23 hB23 z_N45 i_45
          have hS23 := Ext.below hS22 hB23
          refine Pl.pA_end ?_
          refine Pl.G_plan [(false, 4, 1551), (true, 5, 1567), (true, 6, 1599), (true, 7, 1663), (true, 8, 1791)] 2047 3 Pl.post_panic (by kernel_rfl) (by kernel_rfl) (by kernel_rfl) ?_
          have h_x43__23 := Zn.below h_x43 (Ext.below hB22 hB23)
          have h_x8__23 := Zn.below h_x8__17 (Ext.below hB18 (Ext.below hB19 (Ext.below hB20 (Ext.below hB21 (Ext.below hB22 hB23)))))
          refine Pl.pA_call rfl rfl rfl rfl rfl en14 ?_
          refine Calls.mono (zdiv_D _ _ _ ((c * b) + (a % b)) b h_x43__23 h_x8__23 (Sz.le b_x43 (by decide)) (Sz.le b_b (by decide)) h0 _ _ rfl rfl) ?_
          rintro e w24 ⟨⟨v_x48, v_x49, rfl, h_x48, h_x49⟩, hB24⟩
          have hS24 := Ext.below hS23 hB24
          refine ⟨_, rfl, hS24, ?_⟩
          have b_x48 : Sz (((c * b) + (a % b)) / b) 81 := Sz.div b_x43
          have b_x49 : Sz (((c * b) + (a % b)) % b) 40 := Sz.mod b_b h0
          refine Pl.qA_move hS24 rfl rfl rfl rfl rfl ?_
          refine Pl.qA_extract hS24 rfl rfl rfl rfl rfl rfl ?_
          refine Pl.qA_extract hS24 rfl rfl rfl rfl rfl rfl ?_
          refine Pl.qA_extract hS24 rfl rfl rfl rfl rfl rfl ?_
          refine Pl.pA_end ?_
          have i_44__24 := Ib.ext i_44 (Ext.below hB23 hB24)
          have i_45__24 := Ib.ext i_45 hB24
          exact Pl.G_sub [(2, (.bool false)), (3, (.bool true)), (5, .pointer (some ⟨N9, 0, none⟩)), (6, .pointer (some ⟨N13, 0, none⟩)), (8, .pointer (some ⟨N21, 0, none⟩)), (10, .pointer (some ⟨N40, 0, none⟩)), (11, .pointer (some ⟨N44, 0, none⟩)), (12, .pointer (some ⟨N45, 0, none⟩)), (87, v_x48), (88, v_x49), (89, (.int .i64 0))] (Pl.subl_cons rfl (Pl.subl_cons rfl (Pl.subl_cons rfl (Pl.subl_cons rfl (Pl.subl_cons rfl (Pl.subl_cons rfl (Pl.subl_cons rfl (Pl.subl_cons rfl (Pl.subl_cons rfl (Pl.subl_cons rfl (Pl.subl_cons rfl Pl.subl_nil))))))))))) (hK _ _ ⟨N44, N45, v_x48, v_x49, rfl, (Ext.below hB20 (Ext.below hB21 (Ext.below hB22 (Ext.below hB23 hB24)))), (Nat.le_trans (Below.size (Ext.below hB20 hB21)) z_N44), i_44__24, (Nat.le_trans (Below.size (Ext.below hB20 (Ext.below hB21 hB22))) z_N45), i_45__24, h_x48, h_x49, (Nat.ne_of_lt (Nat.lt_of_lt_of_le (i_44).1 z_N45))⟩)
      · refine allocI rfl rfl rfl rfl (fun _ k => Ext.below hS21 k) ?_
        intro N44 w22 hB22 z_N44 i_44
        have hS22 := Ext.below hS21 hB22
        refine Pl.pA_end ?_
        refine Pl.G_any [4, 9] 8 (by kernel_rfl) (by kernel_rfl) (by kernel_rfl) (Pl.AllG_cons ?_ (Pl.AllG_cons ?_ Pl.AllG_nil))
        · have h_x43__22 := Zn.below h_x43 hB22
          have h_x8__22 := Zn.below h_x8__17 (Ext.below hB18 (Ext.below hB19 (Ext.below hB20 (Ext.below hB21 hB22))))
          refine Pl.pA_call rfl rfl rfl rfl rfl en14 ?_
          refine Calls.mono (zdiv_D _ _ _ ((c * b) + (a % b)) b h_x43__22 h_x8__22 (Sz.le b_x43 (by decide)) (Sz.le b_b (by decide)) h0 _ _ rfl rfl) ?_
          rintro e w23 ⟨⟨v_x47, v_x48, rfl, h_x47, h_x48⟩, hB23⟩
          have hS23 := Ext.below hS22 hB23
          refine ⟨_, rfl, hS23, ?_⟩
          have b_x47 : Sz (((c * b) + (a % b)) / b) 81 := Sz.div b_x43
          have b_x48 : Sz (((c * b) + (a % b)) % b) 40 := Sz.mod b_b h0
          refine Pl.pA_end ?_
          refine Pl.G_plan [(true, 5, 1055), (true, 6, 1087), (true, 7, 1151), (true, 8, 1279), (false, 9, 1535)] 2047 3 Pl.post_panic (by kernel_rfl) (by kernel_rfl) (by kernel_rfl) ?_
          refine Pl.qA_move hS23 rfl rfl rfl rfl rfl ?_
          refine Pl.qA_extract hS23 rfl rfl rfl rfl rfl rfl ?_
          refine Pl.qA_extract hS23 rfl rfl rfl rfl rfl rfl ?_
          refine Pl.qA_extract hS23 rfl rfl rfl rfl rfl rfl ?_
          refine allocI rfl rfl rfl rfl (fun _ k => Ext.below hS23 k) ?_
          intro N49 w24 hB24 z_N49 i_49
          have hS24 := Ext.below hS23 hB24
          refine Pl.pA_end ?_
          have i_44__24 := Ib.ext i_44 (Ext.below hB23 hB24)
          have h_x47__24 := Zn.below h_x47 hB24
          have h_x48__24 := Zn.below h_x48 hB24
          exact Pl.G_sub [(2, (.bool false)), (3, (.bool true)), (5, .pointer (some ⟨N9, 0, none⟩)), (6, .pointer (some ⟨N13, 0, none⟩)), (8, .pointer (some ⟨N21, 0, none⟩)), (10, .pointer (some ⟨N40, 0, none⟩)), (11, .pointer (some ⟨N49, 0, none⟩)), (12, .pointer (some ⟨N44, 0, none⟩)), (87, v_x47), (88, v_x48), (89, (.int .i64 0))] (Pl.subl_cons rfl (Pl.subl_cons rfl (Pl.subl_cons rfl (Pl.subl_cons rfl (Pl.subl_cons rfl (Pl.subl_cons rfl (Pl.subl_cons rfl (Pl.subl_cons rfl (Pl.subl_cons rfl (Pl.subl_cons rfl (Pl.subl_cons rfl Pl.subl_nil))))))))))) (hK _ _ ⟨N49, N44, v_x47, v_x48, rfl, (Ext.below hB20 (Ext.below hB21 (Ext.below hB22 (Ext.below hB23 hB24)))), (Nat.le_trans (Below.size (Ext.below hB20 (Ext.below hB21 (Ext.below hB22 hB23)))) z_N49), i_49, (Nat.le_trans (Below.size (Ext.below hB20 hB21)) z_N44), i_44__24, h_x47__24, h_x48__24, (Nat.ne_of_gt (Nat.lt_of_lt_of_le (Ib.ext i_44 hB23).1 z_N49))⟩)
        · refine allocI rfl rfl rfl rfl (fun _ k => Ext.below hS22 k) ?_
          intro N45 w23 hB23 z_N45 i_45
          have hS23 := Ext.below hS22 hB23
          refine Pl.pA_end ?_
          refine Pl.G_plan [(false, 4, 1551), (true, 5, 1567), (true, 6, 1599), (true, 7, 1663), (true, 8, 1791)] 2047 3 Pl.post_panic (by kernel_rfl) (by kernel_rfl) (by kernel_rfl) ?_
          have h_x43__23 := Zn.below h_x43 (Ext.below hB22 hB23)
          have h_x8__23 := Zn.below h_x8__17 (Ext.below hB18 (Ext.below hB19 (Ext.below hB20 (Ext.below hB21 (Ext.below hB22 hB23)))))
          refine Pl.pA_call rfl rfl rfl rfl rfl en14 ?_
          refine Calls.mono (zdiv_D _ _ _ ((c * b) + (a % b)) b h_x43__23 h_x8__23 (Sz.le b_x43 (by decide)) (Sz.le b_b (by decide)) h0 _ _ rfl rfl) ?_
          rintro e w24 ⟨⟨v_x48, v_x49, rfl, h_x48, h_x49⟩, hB24⟩
          have hS24 := Ext.below hS23 hB24
          refine ⟨_, rfl, hS24, ?_⟩
          have b_x48 : Sz (((c * b) + (a % b)) / b) 81 := Sz.div b_x43
          have b_x49 : Sz (((c * b) + (a % b)) % b) 40 := Sz.mod b_b h0
          refine Pl.qA_move hS24 rfl rfl rfl rfl rfl ?_
          refine Pl.qA_extract hS24 rfl rfl rfl rfl rfl rfl ?_
          refine Pl.qA_extract hS24 rfl rfl rfl rfl rfl rfl ?_
          refine Pl.qA_extract hS24 rfl rfl rfl rfl rfl rfl ?_
          refine Pl.pA_end ?_
          have i_45__24 := Ib.ext i_45 hB24
          have i_44__24 := Ib.ext i_44 (Ext.below hB23 hB24)
          exact Pl.G_sub [(2, (.bool false)), (3, (.bool true)), (5, .pointer (some ⟨N9, 0, none⟩)), (6, .pointer (some ⟨N13, 0, none⟩)), (8, .pointer (some ⟨N21, 0, none⟩)), (10, .pointer (some ⟨N40, 0, none⟩)), (11, .pointer (some ⟨N45, 0, none⟩)), (12, .pointer (some ⟨N44, 0, none⟩)), (87, v_x48), (88, v_x49), (89, (.int .i64 0))] (Pl.subl_cons rfl (Pl.subl_cons rfl (Pl.subl_cons rfl (Pl.subl_cons rfl (Pl.subl_cons rfl (Pl.subl_cons rfl (Pl.subl_cons rfl (Pl.subl_cons rfl (Pl.subl_cons rfl (Pl.subl_cons rfl (Pl.subl_cons rfl Pl.subl_nil))))))))))) (hK _ _ ⟨N45, N44, v_x48, v_x49, rfl, (Ext.below hB20 (Ext.below hB21 (Ext.below hB22 (Ext.below hB23 hB24)))), (Nat.le_trans (Below.size (Ext.below hB20 (Ext.below hB21 hB22))) z_N45), i_45__24, (Nat.le_trans (Below.size (Ext.below hB20 hB21)) z_N44), i_44__24, h_x48, h_x49, (Nat.ne_of_gt (Nat.lt_of_lt_of_le (i_44).1 z_N45))⟩)
    · refine allocI rfl rfl rfl rfl (fun _ k => Ext.below hS20 k) ?_
      intro N41 w21 hB21 z_N41 i_41
      have hS21 := Ext.below hS20 hB21
      refine Pl.pA_end ?_
      refine Pl.G_any [2, 10] 9 (by kernel_rfl) (by kernel_rfl) (by kernel_rfl) (Pl.AllG_cons ?_ (Pl.AllG_cons ?_ Pl.AllG_nil))
      · have h_x39__21 := Zn.below h_x39 (Ext.below hB19 (Ext.below hB20 hB21))
        have h_x19__21 := Zn.below h_x19__16 (Ext.below hB17 (Ext.below hB18 (Ext.below hB19 (Ext.below hB20 hB21))))
        refine Pl.pA_call rfl rfl rfl rfl rfl en29 ?_
        refine Calls.mono (zadd _ _ _ (c * b) (a % b) h_x39__21 h_x19__21 (Sz.le b_x39 (by decide)) (Sz.le b_x19 (by decide)) _ rfl) ?_
        rintro e w22 ⟨v_x44, rfl, h_x44, hB22⟩
        have hS22 := Ext.below hS21 hB22
        refine ⟨_, rfl, hS22, ?_⟩
        have b_x44 : Sz ((c * b) + (a % b)) 81 := Sz.add b_x39 b_x19 (by decide) (by decide)
        refine Pl.pA_end ?_
        refine Pl.G_any [4, 10] 8 (by kernel_rfl) (by kernel_rfl) (by kernel_rfl) (Pl.AllG_cons ?_ (Pl.AllG_cons ?_ Pl.AllG_nil))
        · have h_x8__22 := Zn.below h_x8__17 (Ext.below hB18 (Ext.below hB19 (Ext.below hB20 (Ext.below hB21 hB22))))
          refine Pl.pA_call rfl rfl rfl rfl rfl en14 ?_
          refine Calls.mono (zdiv_D _ _ _ ((c * b) + (a % b)) b h_x44 h_x8__22 (Sz.le b_x44 (by decide)) (Sz.le b_b (by decide)) h0 _ _ rfl rfl) ?_
          rintro e w23 ⟨⟨v_x46, v_x47, rfl, h_x46, h_x47⟩, hB23⟩
          have hS23 := Ext.below hS22 hB23
          refine ⟨_, rfl, hS23, ?_⟩
          have b_x46 : Sz (((c * b) + (a % b)) / b) 81 := Sz.div b_x44
          have b_x47 : Sz (((c * b) + (a % b)) % b) 40 := Sz.mod b_b h0
          refine Pl.pA_end ?_
          refine Pl.G_plan [(true, 5, 543), (true, 6, 575), (true, 7, 639), (true, 8, 767), (false, 10, 1023)] 2047 3 Pl.post_panic (by kernel_rfl) (by kernel_rfl) (by kernel_rfl) ?_
          refine Pl.qA_move hS23 rfl rfl rfl rfl rfl ?_
          refine Pl.qA_extract hS23 rfl rfl rfl rfl rfl rfl ?_
          refine Pl.qA_extract hS23 rfl rfl rfl rfl rfl rfl ?_
          refine Pl.qA_extract hS23 rfl rfl rfl rfl rfl rfl ?_
          refine allocI rfl rfl rfl rfl (fun _ k => Ext.below hS23 k) ?_
          intro N48 w24 hB24 z_N48 i_48
          have hS24 := Ext.below hS23 hB24
          refine Pl.pA_end ?_
          have i_41__24 := Ib.ext i_41 (Ext.below hB22 (Ext.below hB23 hB24))
          have h_x46__24 := Zn.below h_x46 hB24
          have h_x47__24 := Zn.below h_x47 hB24
          exact Pl.G_sub [(2, (.bool false)), (3, (.bool true)), (5, .pointer (some ⟨N9, 0, none⟩)), (6, .pointer (some ⟨N13, 0, none⟩)), (8, .pointer (some ⟨N21, 0, none⟩)), (10, .pointer (some ⟨N40, 0, none⟩)), (11, .pointer (some ⟨N41, 0, none⟩)), (12, .pointer (some ⟨N48, 0, none⟩)), (87, v_x46), (88, v_x47), (89, (.int .i64 0))] (Pl.subl_cons rfl (Pl.subl_cons rfl (Pl.subl_cons rfl (Pl.subl_cons rfl (Pl.subl_cons rfl (Pl.subl_cons rfl (Pl.subl_cons rfl (Pl.subl_cons rfl (Pl.subl_cons rfl (Pl.subl_cons rfl (Pl.subl_cons rfl Pl.subl_nil))))))))))) (hK _ _ ⟨N41, N48, v_x46, v_x47, rfl, (Ext.below hB20 (Ext.below hB21 (Ext.below hB22 (Ext.below hB23 hB24)))), (Nat.le_trans (Below.size hB20) z_N41), i_41__24, (Nat.le_trans (Below.size (Ext.below hB20 (Ext.below hB21 (Ext.below hB22 hB23)))) z_N48), i_48, h_x46__24, h_x47__24, (Nat.ne_of_lt (Nat.lt_of_lt_of_le (Ib.ext i_41 (Ext.below hB22 hB23)).1 z_N48))⟩)
        · refine allocI rfl rfl rfl rfl (fun _ k => Ext.below hS22 k) ?_
          intro N45 w23 hB23 z_N45 i_45
          have hS23 := Ext.below hS22 hB23
          refine Pl.pA_end ?_
          refine Pl.G_plan [(false, 4, 1551), (true, 5, 1567), (true, 6, 1599), (true, 7, 1663), (true, 8, 1791)] 2047 3 Pl.post_panic (by kernel_rfl) (by kernel_rfl) (by kernel_rfl) ?_
          have h_x44__23 := Zn.below h_x44 hB23
          have h_x8__23 := Zn.below h_x8__17 (Ext.below hB18 (Ext.below hB19 (Ext.below hB20 (Ext.below hB21 (Ext.below hB22 hB23)))))
          refine Pl.pA_call rfl rfl rfl rfl rfl en14 ?_
          refine Calls.mono (zdiv_D _ _ _ ((c * b) + (a % b)) b h_x44__23 h_x8__23 (Sz.le b_x44 (by decide)) (Sz.le b_b (by decide)) h0 _ _ rfl rfl) ?_
          rintro e w24 ⟨⟨v_x48, v_x49, rfl, h_x48, h_x49⟩, hB24⟩
          have hS24 := Ext.below hS23 hB24
          refine ⟨_, rfl, hS24, ?_⟩
          have b_x48 : Sz (((c * b) + (a % b)) / b) 81 := Sz.div b_x44
          have b_x49 : Sz (((c * b) + (a % b)) % b) 40 := Sz.mod b_b h0
          refine Pl.qA_move hS24 rfl rfl rfl rfl rfl ?_
          refine Pl.qA_extract hS24 rfl rfl rfl rfl rfl rfl ?_
          refine Pl.qA_extract hS24 rfl rfl rfl rfl rfl rfl ?_
          refine Pl.qA_extract hS24 rfl rfl rfl rfl rfl rfl ?_
          refine Pl.pA_end ?_
          have i_41__24 := Ib.ext i_41 (Ext.below hB22 (Ext.below hB23 hB24))
          have i_45__24 := Ib.ext i_45 hB24
          exact Pl.G_sub [(2, (.bool false)), (3, (.bool true)), (5, .pointer (some ⟨N9, 0, none⟩)), (6, .pointer (some ⟨N13, 0, none⟩)), (8, .pointer (some ⟨N21, 0, none⟩)), (10, .pointer (some ⟨N40, 0, none⟩)), (11, .pointer (some ⟨N41, 0, none⟩)), (12, .pointer (some ⟨N45, 0, none⟩)), (87, v_x48), (88, v_x49), (89, (.int .i64 0))] (Pl.subl_cons rfl (Pl.subl_cons rfl (Pl.subl_cons rfl (Pl.subl_cons rfl (Pl.subl_cons rfl (Pl.subl_cons rfl (Pl.subl_cons rfl (Pl.subl_cons rfl (Pl.subl_cons rfl (Pl.subl_cons rfl (Pl.subl_cons rfl Pl.subl_nil))))))))))) (hK _ _ ⟨N41, N45, v_x48, v_x49, rfl, (Ext.below hB20 (Ext.below hB21 (Ext.below hB22 (Ext.below hB23 hB24)))), (Nat.le_trans (Below.size hB20) z_N41), i_41__24, (Nat.le_trans (Below.size (Ext.below hB20 (Ext.below hB21 hB22))) z_N45), i_45__24, h_x48, h_x49, (Nat.ne_of_lt (Nat.lt_of_lt_of_le (Ib.ext i_41 hB22).1 z_N45))⟩)
      · refine allocI rfl rfl rfl rfl (fun _ k => Ext.below hS21 k) ?_
        intro N42 w22 hB22 z_N42 i_42
        have hS22 := Ext.below hS21 hB22
        refine Pl.pA_end ?_
        refine Pl.G_plan [(false, 2, 1547), (false, 4, 1551), (true, 5, 1567), (true, 6, 1599), (true, 7, 1663), (true, 8, 1791)] 2047 3 Pl.post_panic (by kernel_rfl) (by kernel_rfl) (by kernel_rfl) ?_
        have h_x39__22 := Zn.below h_x39 (Ext.below hB19 (Ext.below hB20 (Ext.below hB21 hB22)))
        have h_x19__22 := Zn.below h_x19__16 (Ext.below hB17 (Ext.below hB18 (Ext.below hB19 (Ext.below hB20 (Ext.below hB21 hB22)))))
        refine Pl.pA_call rfl rfl rfl rfl rfl en29 ?_
        refine Calls.mono (zadd _ _ _ (c * b) (a % b) h_x39__22 h_x19__22 (Sz.le b_x39 (by decide)) (Sz.le b_x19 (by decide)) _ rfl) ?_
        rintro e w23 ⟨v_x45, rfl, h_x45, hB23⟩
        have hS23 := Ext.below hS22 hB23
        refine ⟨_, rfl, hS23, ?_⟩
        have b_x45 : Sz ((c * b) + (a % b)) 81 := Sz.add b_x39 b_x19 (by decide) (by decide)
        have h_x8__23 := Zn.below h_x8__17 (Ext.below hB18 (Ext.below hB19 (Ext.below hB20 (Ext.below hB21 (Ext.below hB22 hB23)))))
        refine Pl.pA_call rfl rfl rfl rfl rfl en14 ?_
        refine Calls.mono (zdiv_D _ _ _ ((c * b) + (a % b)) b h_x45 h_x8__23 (Sz.le b_x45 (by decide)) (Sz.le b_b (by decide)) h0 _ _ rfl rfl) ?_
        rintro e w24 ⟨⟨v_x47, v_x48, rfl, h_x47, h_x48⟩, hB24⟩
        have hS24 := Ext.below hS23 hB24
        refine ⟨_, rfl, hS24, ?_⟩
        have b_x47 : Sz (((c * b) + (a % b)) / b) 81 := Sz.div b_x45
        have b_x48 : Sz (((c * b) + (a % b)) % b) 40 := Sz.mod b_b h0
        refine Pl.qA_move hS24 rfl rfl rfl rfl rfl ?_
        refine Pl.qA_extract hS24 rfl rfl rfl rfl rfl rfl ?_
        refine Pl.qA_extract hS24 rfl rfl rfl rfl rfl rfl ?_
        refine Pl.qA_extract hS24 rfl rfl rfl rfl rfl rfl ?_
        refine Pl.pA_end ?_
        have i_41__24 := Ib.ext i_41 (Ext.below hB22 (Ext.below hB23 hB24))
        have i_42__24 := Ib.ext i_42 (Ext.below hB23 hB24)
        exact Pl.G_sub [(2, (.bool false)), (3, (.bool true)), (5, .pointer (some ⟨N9, 0, none⟩)), (6, .pointer (some ⟨N13, 0, none⟩)), (8, .pointer (some ⟨N21, 0, none⟩)), (10, .pointer (some ⟨N40, 0, none⟩)), (11, .pointer (some ⟨N41, 0, none⟩)), (12, .pointer (some ⟨N42, 0, none⟩)), (87, v_x47), (88, v_x48), (89, (.int .i64 0))] (Pl.subl_cons rfl (Pl.subl_cons rfl (Pl.subl_cons rfl (Pl.subl_cons rfl (Pl.subl_cons rfl (Pl.subl_cons rfl (Pl.subl_cons rfl (Pl.subl_cons rfl (Pl.subl_cons rfl (Pl.subl_cons rfl (Pl.subl_cons rfl Pl.subl_nil))))))))))) (hK _ _ ⟨N41, N42, v_x47, v_x48, rfl, (Ext.below hB20 (Ext.below hB21 (Ext.below hB22 (Ext.below hB23 hB24)))), (Nat.le_trans (Below.size hB20) z_N41), i_41__24, (Nat.le_trans (Below.size (Ext.below hB20 hB21)) z_N42), i_42__24, h_x47, h_x48, (Nat.ne_of_lt (Nat.lt_of_lt_of_le (i_41).1 z_N42))⟩)
    · refine allocI rfl rfl rfl rfl (fun _ k => Ext.below hS20 k) ?_
      intro N41 w21 hB21 z_N41 i_41
      have hS21 := Ext.below hS20 hB21
      refine Pl.pA_end ?_
      refine Pl.G_any [2, 9] 9 (by kernel_rfl) (by kernel_rfl) (by kernel_rfl) (Pl.AllG_cons ?_ (Pl.AllG_cons ?_ Pl.AllG_nil))
      · have h_x39__21 := Zn.below h_x39 (Ext.below hB19 (Ext.below hB20 hB21))
        have h_x19__21 := Zn.below h_x19__16 (Ext.below hB17 (Ext.below hB18 (Ext.below hB19 (Ext.below hB20 hB21))))
        refine Pl.pA_call rfl rfl rfl rfl rfl en29 ?_
        refine Calls.mono (zadd _ _ _ (c * b) (a % b) h_x39__21 h_x19__21 (Sz.le b_x39 (by decide)) (Sz.le b_x19 (by decide)) _ rfl) ?_
        rintro e w22 ⟨v_x44, rfl, h_x44, hB22⟩
        have hS22 := Ext.below hS21 hB22
        refine ⟨_, rfl, hS22, ?_⟩
        have b_x44 : Sz ((c * b) + (a % b)) 81 := Sz.add b_x39 b_x19 (by decide) (by decide)
        refine Pl.pA_end ?_
        refine Pl.G_any [4, 9] 8 (by kernel_rfl) (by kernel_rfl) (by kernel_rfl) (Pl.AllG_cons ?_ (Pl.AllG_cons ?_ Pl.AllG_nil))
        · have h_x8__22 := Zn.below h_x8__17 (Ext.below hB18 (Ext.below hB19 (Ext.below hB20 (Ext.below hB21 hB22))))
          refine Pl.pA_call rfl rfl rfl rfl rfl en14 ?_
          refine Calls.mono (zdiv_D _ _ _ ((c * b) + (a % b)) b h_x44 h_x8__22 (Sz.le b_x44 (by decide)) (Sz.le b_b (by decide)) h0 _ _ rfl rfl) ?_
          rintro e w23 ⟨⟨v_x46, v_x47, rfl, h_x46, h_x47⟩, hB23⟩
          have hS23 := Ext.below hS22 hB23
          refine ⟨_, rfl, hS23, ?_⟩
          have b_x46 : Sz (((c * b) + (a % b)) / b) 81 := Sz.div b_x44
          have b_x47 : Sz (((c * b) + (a % b)) % b) 40 := Sz.mod b_b h0
          refine Pl.pA_end ?_
          refine Pl.G_plan [(true, 5, 1055), (true, 6, 1087), (true, 7, 1151), (true, 8, 1279), (false, 9, 1535)] 2047 3 Pl.post_panic (by kernel_rfl) (by kernel_rfl) (by kernel_rfl) ?_
          refine Pl.qA_move hS23 rfl rfl rfl rfl rfl ?_
          refine Pl.qA_extract hS23 rfl rfl rfl rfl rfl rfl ?_
          refine Pl.qA_extract hS23 rfl rfl rfl rfl rfl rfl ?_
          refine Pl.qA_extract hS23 rfl rfl rfl rfl rfl rfl ?_
          refine allocI rfl rfl rfl rfl (fun _ k => Ext.below hS23 k) ?_
          intro N48 w24 hB24 z_N48 i_48
          have hS24 := Ext.below hS23 hB24
          refine Pl.pA_end ?_
          have i_41__24 := Ib.ext i_41 (Ext.below hB22 (Ext.below hB23 hB24))
          have h_x46__24 := Zn.below h_x46 hB24
          have h_x47__24 := Zn.below h_x47 hB24
          exact Pl.G_sub [(2, (.bool false)), (3, (.bool true)), (5, .pointer (some ⟨N9, 0, none⟩)), (6, .pointer (some ⟨N13, 0, none⟩)), (8, .pointer (some ⟨N21, 0, none⟩)), (10, .pointer (some ⟨N40, 0, none⟩)), (11, .pointer (some ⟨N48, 0, none⟩)), (12, .pointer (some ⟨N41, 0, none⟩)), (87, v_x46), (88, v_x47), (89, (.int .i64 0))] (Pl.subl_cons rfl (Pl.subl_cons rfl (Pl.subl_cons rfl (Pl.subl_cons rfl (Pl.subl_cons rfl (Pl.subl_cons rfl (Pl.subl_cons rfl (Pl.subl_cons rfl (Pl.subl_cons rfl (Pl.subl_cons rfl (Pl.subl_cons rfl Pl.subl_nil))))))))))) (hK _ _ ⟨N48, N41, v_x46, v_x47, rfl, (Ext.below hB20 (Ext.below hB21 (Ext.below hB22 (Ext.below hB23 hB24)))), (Nat.le_trans (Below.size (Ext.below hB20 (Ext.below hB21 (Ext.below hB22 hB23)))) z_N48), i_48, (Nat.le_trans (Below.size hB20) z_N41), i_41__24, h_x46__24, h_x47__24, (Nat.ne_of_gt (Nat.lt_of_lt_of_le (Ib.ext i_41 (Ext.below hB22 hB23)).1 z_N48))⟩)
        · refine allocI rfl rfl rfl rfl (fun _ k => Ext.below hS22 k) ?_
          intro N45 w23 hB23 z_N45 i_45
          have hS23 := Ext.below hS22 hB23
          refine Pl.pA_end ?_
          refine Pl.G_plan [(false, 4, 1551), (true, 5, 1567), (true, 6, 1599), (true, 7, 1663), (true, 8, 1791)] 2047 3 Pl.post_panic (by kernel_rfl) (by kernel_rfl) (by kernel_rfl) ?_
          have h_x44__23 := Zn.below h_x44 hB23
          have h_x8__23 := Zn.below h_x8__17 (Ext.below hB18 (Ext.below hB19 (Ext.below hB20 (Ext.below hB21 (Ext.below hB22 hB23)))))
          refine Pl.pA_call rfl rfl rfl rfl rfl en14 ?_
          refine Calls.mono (zdiv_D _ _ _ ((c * b) + (a % b)) b h_x44__23 h_x8__23 (Sz.le b_x44 (by decide)) (Sz.le b_b (by decide)) h0 _ _ rfl rfl) ?_
          rintro e w24 ⟨⟨v_x48, v_x49, rfl, h_x48, h_x49⟩, hB24⟩
          have hS24 := Ext.below hS23 hB24
          refine ⟨_, rfl, hS24, ?_⟩
          have b_x48 : Sz (((c * b) + (a % b)) / b) 81 := Sz.div b_x44
          have b_x49 : Sz (((c * b) + (a % b)) % b) 40 := Sz.mod b_b h0
          refine Pl.qA_move hS24 rfl rfl rfl rfl rfl ?_
          refine Pl.qA_extract hS24 rfl rfl rfl rfl rfl rfl ?_
          refine Pl.qA_extract hS24 rfl rfl rfl rfl rfl rfl ?_
          refine Pl.qA_extract hS24 rfl rfl rfl rfl rfl rfl ?_
          refine Pl.pA_end ?_
          have i_45__24 := Ib.ext i_45 hB24
          have i_41__24 := Ib.ext i_41 (Ext.below hB22 (Ext.below hB23 hB24))
          exact Pl.G_sub [(2, (.bool false)), (3, (.bool true)), (5, .pointer (some ⟨N9, 0, none⟩)), (6, .pointer (some ⟨N13, 0, none⟩)), (8, .pointer (some ⟨N21, 0, none⟩)), (10, .pointer (some ⟨N40, 0, none⟩)), (11, .pointer (some ⟨N45, 0, none⟩)), (12, .pointer (some ⟨N41, 0, none⟩)), (87, v_x48), (88, v_x49), (89, (.int .i64 0))] (Pl.subl_cons rfl (Pl.subl_cons rfl (Pl.subl_cons rfl (Pl.subl_cons rfl (Pl.subl_cons rfl (Pl.subl_cons rfl (Pl.subl_cons rfl (Pl.subl_cons rfl (Pl.subl_cons rfl (Pl.subl_cons rfl (Pl.subl_cons rfl Pl.subl_nil))))))))))) (hK _ _ ⟨N45, N41, v_x48, v_x49, rfl, (Ext.below hB20 (Ext.below hB21 (Ext.below hB22 (Ext.below hB23 hB24)))), (Nat.le_trans (Below.size (Ext.below hB20 (Ext.below hB21 hB22))) z_N45), i_45__24, (Nat.le_trans (Below.size hB20) z_N41), i_41__24, h_x48, h_x49, (Nat.ne_of_gt (Nat.lt_of_lt_of_le (Ib.ext i_41 hB22).1 z_N45))⟩)
      · refine allocI rfl rfl rfl rfl (fun _ k => Ext.below hS21 k) ?_
        intro N42 w22 hB22 z_N42 i_42
        have hS22 := Ext.below hS21 hB22
        refine Pl.pA_end ?_
        refine Pl.G_plan [(false, 2, 1547), (false, 4, 1551), (true, 5, 1567), (true, 6, 1599), (true, 7, 1663), (true, 8, 1791)] 2047 3 Pl.post_panic (by kernel_rfl) (by kernel_rfl) (by kernel_rfl) ?_
        have h_x39__22 := Zn.below h_x39 (Ext.below hB19 (Ext.below hB20 (Ext.below hB21 hB22)))
        have h_x19__22 := Zn.below h_x19__16 (Ext.below hB17 (Ext.below hB18 (Ext.below hB19 (Ext.below hB20 (Ext.below hB21 hB22)))))
        refine Pl.pA_call rfl rfl rfl rfl rfl en29 ?_
        refine Calls.mono (zadd _ _ _ (c * b) (a % b) h_x39__22 h_x19__22 (Sz.le b_x39 (by decide)) (Sz.le b_x19 (by decide)) _ rfl) ?_
        rintro e w23 ⟨v_x45, rfl, h_x45, hB23⟩
        have hS23 := Ext.below hS22 hB23
        refine ⟨_, rfl, hS23, ?_⟩
        have b_x45 : Sz ((c * b) + (a % b)) 81 := Sz.add b_x39 b_x19 (by decide) (by decide)
        have h_x8__23 := Zn.below h_x8__17 (Ext.below hB18 (Ext.below hB19 (Ext.below hB20 (Ext.below hB21 (Ext.below hB22 hB23)))))
        refine Pl.pA_call rfl rfl rfl rfl rfl en14 ?_
        refine Calls.mono (zdiv_D _ _ _ ((c * b) + (a % b)) b h_x45 h_x8__23 (Sz.le b_x45 (by decide)) (Sz.le b_b (by decide)) h0 _ _ rfl rfl) ?_
        rintro e w24 ⟨⟨v_x47, v_x48, rfl, h_x47, h_x48⟩, hB24⟩
        have hS24 := Ext.below hS23 hB24
        refine ⟨_, rfl, hS24, ?_⟩
        have b_x47 : Sz (((c * b) + (a % b)) / b) 81 := Sz.div b_x45
        have b_x48 : Sz (((c * b) + (a % b)) % b) 40 := Sz.mod b_b h0
        refine Pl.qA_move hS24 rfl rfl rfl rfl rfl ?_
        refine Pl.qA_extract hS24 rfl rfl rfl rfl rfl rfl ?_
        refine Pl.qA_extract hS24 rfl rfl rfl rfl rfl rfl ?_
        refine Pl.qA_extract hS24 rfl rfl rfl rfl rfl rfl ?_
        refine Pl.pA_end ?_
        have i_42__24 := Ib.ext i_42 (Ext.below hB23 hB24)
        have i_41__24 := Ib.ext i_41 (Ext.below hB22 (Ext.below hB23 hB24))
        exact Pl.G_sub [(2, (.bool false)), (3, (.bool true)), (5, .pointer (some ⟨N9, 0, none⟩)), (6, .pointer (some ⟨N13, 0, none⟩)), (8, .pointer (some ⟨N21, 0, none⟩)), (10, .pointer (some ⟨N40, 0, none⟩)), (11, .pointer (some ⟨N42, 0, none⟩)), (12, .pointer (some ⟨N41, 0, none⟩)), (87, v_x47), (88, v_x48), (89, (.int .i64 0))] (Pl.subl_cons rfl (Pl.subl_cons rfl (Pl.subl_cons rfl (Pl.subl_cons rfl (Pl.subl_cons rfl (Pl.subl_cons rfl (Pl.subl_cons rfl (Pl.subl_cons rfl (Pl.subl_cons rfl (Pl.subl_cons rfl (Pl.subl_cons rfl Pl.subl_nil))))))))))) (hK _ _ ⟨N42, N41, v_x47, v_x48, rfl, (Ext.below hB20 (Ext.below hB21 (Ext.below hB22 (Ext.below hB23 hB24)))), (Nat.le_trans (Below.size (Ext.below hB20 hB21)) z_N42), i_42__24, (Nat.le_trans (Below.size hB20) z_N41), i_41__24, h_x47, h_x48, (Nat.ne_of_gt (Nat.lt_of_lt_of_le (i_41).1 z_N42))⟩)
  rintro _ w120 ⟨N11_120, N12_120, v_y87_120, v_y88_120, rfl, hB120, z_N11_120, i_N11_120, z_N12_120, i_N12_120, h_y87_120, h_y88_120, ne_N11_120_N12_120⟩
  have hS120 := hB120
  have b_x43 : Sz ((c * b) + (a % b)) 81 := Sz.add b_x39 b_x19 (by decide) (by decide)
  have b_x45 : Sz (((c * b) + (a % b)) / b) 81 := Sz.div b_x43
  have b_x46 : Sz (((c * b) + (a % b)) % b) 40 := Sz.mod b_b h0
  refine Pl.G_plan [(false, 11, 2047), (false, 12, 4095), (true, 13, 8191)] 16383 0 Pl.post_panic (by kernel_rfl) (by kernel_rfl) (by kernel_rfl) ?_
  obtain ⟨p_y87_120, A_y87_120, L_y87_120, c_y87_120, rfl⟩ := Zn.sh h_y87_120
  refine storeI rfl rfl rfl rfl rfl rfl i_N11_120 (fun _ T => T _ hS120 (Nat.le_trans (Below.size (Ext.refl w19)) z_N11_120)) ?_
  intro w121 T1_121 T2_121 T3_121 I_121
  have hB121 := T1_121 _ hB120 (Nat.le_trans (Below.size (Ext.refl w19)) z_N11_120)
  have hS121 := T1_121 _ hS120 (Nat.le_trans (Below.size (Ext.refl w19)) z_N11_120)
  have i_N12_120__121 := T3_121 _ _ _ (Ne.symm ne_N11_120_N12_120) i_N12_120
  have h_y87_120__121 := T2_121 _ _ h_y87_120
  have h_y88_120__121 := T2_121 _ _ h_y88_120
  obtain ⟨p_y88_120, A_y88_120, L_y88_120, c_y88_120, rfl⟩ := Zn.sh h_y88_120__121
  refine storeI rfl rfl rfl rfl rfl rfl i_N12_120__121 (fun _ T => T _ hS121 (Nat.le_trans (Below.size (Ext.refl w19)) z_N12_120)) ?_
  intro w122 T1_122 T2_122 T3_122 I_122
  have hB122 := T1_122 _ hB121 (Nat.le_trans (Below.size (Ext.refl w19)) z_N12_120)
  have hS122 := T1_122 _ hS121 (Nat.le_trans (Below.size (Ext.refl w19)) z_N12_120)
  have h_y87_120__122 := T2_122 _ _ h_y87_120__121
  have I_121__122 := T3_122 _ _ _ ne_N11_120_N12_120 I_121
  have h_y88_120__122 := T2_122 _ _ h_y88_120__121
  refine Pl.qA_assign hS122 rfl rfl rfl rfl rfl ?_
  refine Pl.pA_end ?_
  refine Pl.G_V (by kernel_rfl) ?_
  refine Pl.V_seq ?_
  refine Pl.V_region (by kernel_rfl) ?_
  have i_40__122 := Ib.ext i_40 hB122
  refine Pl.qA_loadw trivial rfl rfl rfl rfl rfl (Ib.load i_40__122) ?_
  have i_9__122 := Ib.ext i_9__17 (Ext.below hB18 (Ext.below hB19 hB122))
  refine Pl.qA_loadw trivial rfl rfl rfl rfl rfl (Ib.load i_9__122) ?_
  have h_x39__122 := Zn.below h_x39 (Ext.below hB19 hB122)
  have h_x8__122 := Zn.below h_x8__17 (Ext.below hB18 (Ext.below hB19 hB122))
  refine Pl.pA_call rfl rfl rfl rfl rfl en16 ?_
  refine Calls.mono (zexact_yes _ _ _ (c * b) b h_x39__122 h_x8__122 (Sz.le b_x39 (by decide)) (Sz.le b_b (by decide)) h0 (Int.mul_emod_left c b) _ rfl) ?_
  rintro e w123 ⟨v_x106, rfl, h_x106, hB123⟩
  refine ⟨_, rfl, trivial, ?_⟩
  have b_x106 : Sz ((c * b) / b) 80 := Sz.div b_x39
  refine Pl.qA_move trivial rfl rfl rfl rfl rfl ?_
  refine Pl.qA_extract trivial rfl rfl rfl rfl rfl rfl ?_
  refine Pl.qA_extract trivial rfl rfl rfl rfl rfl rfl ?_
  obtain ⟨p_x106, A_x106, L_x106, c_x106, rfl⟩ := Zn.sh h_x106
  refine boxI rfl rfl rfl rfl rfl rfl rfl rfl (fun _ => rfl) (fun _ _ => trivial) ?_
  intro N107 w124 hB124 i_107
  refine Pl.qA_assign trivial rfl rfl rfl rfl rfl ?_
  refine Pl.pA_end ?_
  refine Pl.V_seq ?_
  refine Pl.V_drawG (S := fun X => Ext w124 X) fo (Ext.drew (Ext.refl _)) ?_
  generalize w124.drew = w125
  intro hB125
  have hS125 := hB125
  refine Pl.G_cut 2 511 (fun l' w' => ∃ (N_16 : Nat) (V_102 : Value), l' = [(2, (.bool false)), (3, (.bool true)), (6, .pointer (some ⟨N13, 0, none⟩)), (8, .pointer (some ⟨N21, 0, none⟩)), (11, .pointer (some ⟨N11_120, 0, none⟩)), (12, .pointer (some ⟨N12_120, 0, none⟩)), (13, (.int .i64 0)), (14, .pointer (some ⟨N107, 0, none⟩)), (15, (.bool true)), (16, .pointer (some ⟨N_16, 0, none⟩)), (102, V_102), (103, (.bool true))] ∧ Ext w124 w' ∧ w124.heap.size ≤ N_16 ∧ Ib w' N_16 false (.slice none 0 0) ∧ Zn w' V_102 (((c * b) + (a % b)) / b)) ?_ ?_
  rotate_left
  · intro hK
    refine Pl.G_plan [(true, 0, 0), (true, 1, 1), (true, 3, 3)] 11 8 Pl.post_panic (by kernel_rfl) (by kernel_rfl) (by kernel_rfl) ?_
    have i_40__124 := Ib.ext i_40__122 (Ext.below hB123 hB124)
    refine Pl.qA_load hS125 rfl rfl rfl rfl rfl (fun X hX => Ib.load (Ib.ext i_40__124 hX)) ?_
    have i_21__124 := Ib.ext i_21__11 (Ext.below hB12 (Ext.below hB13 (Ext.below hB14 (Ext.below hB15 (Ext.below hB16 (Ext.below hB17 (Ext.below hB18 (Ext.below hB19 (Ext.below hB122 (Ext.below hB123 hB124))))))))))
    refine Pl.qA_load hS125 rfl rfl rfl rfl rfl (fun X hX => Ib.load (Ib.ext i_21__124 hX)) ?_
    have i_9__124 := Ib.ext i_9__122 (Ext.below hB123 hB124)
    refine Pl.qA_load hS125 rfl rfl rfl rfl rfl (fun X hX => Ib.load (Ib.ext i_9__124 hX)) ?_
    refine Pl.pA_end ?_
    refine Pl.G_any [2, 8] 7 (by kernel_rfl) (by kernel_rfl) (by kernel_rfl) (Pl.AllG_cons ?_ (Pl.AllG_cons ?_ Pl.AllG_nil))
    · have h_x39__125 := Zn.below h_x39__122 (Ext.below hB123 (Ext.below hB124 hB125))
      have h_x19__125 := Zn.below h_x19__16 (Ext.below hB17 (Ext.below hB18 (Ext.below hB19 (Ext.below hB122 (Ext.below hB123 (Ext.below hB124 hB125))))))
      refine Pl.pA_call rfl rfl rfl rfl rfl en29 ?_
      refine Calls.mono (zadd _ _ _ (c * b) (a % b) h_x39__125 h_x19__125 (Sz.le b_x39 (by decide)) (Sz.le b_x19 (by decide)) _ rfl) ?_
      rintro e w126 ⟨v_x110, rfl, h_x110, hB126⟩
      have hS126 := Ext.below hS125 hB126
      refine ⟨_, rfl, hS126, ?_⟩
      have b_x110 : Sz ((c * b) + (a % b)) 81 := Sz.add b_x39 b_x19 (by decide) (by decide)
      refine Pl.pA_end ?_
      refine Pl.G_any [4, 8] 6 (by kernel_rfl) (by kernel_rfl) (by kernel_rfl) (Pl.AllG_cons ?_ (Pl.AllG_cons ?_ Pl.AllG_nil))
      · have h_x8__126 := Zn.below h_x8__122 (Ext.below hB123 (Ext.below hB124 (Ext.below hB125 hB126)))
        refine Pl.pA_call rfl rfl rfl rfl rfl en16 ?_
        refine Calls.mono (zexact_yes _ _ _ ((c * b) + (a % b)) b h_x110 h_x8__126 (Sz.le b_x110 (by decide)) (Sz.le b_b (by decide)) h0 ((rest_of c a b).trans hr) _ rfl) ?_
        rintro e w127 ⟨v_x112, rfl, h_x112, hB127⟩
        have hS127 := Ext.below hS126 hB127
        refine ⟨_, rfl, hS127, ?_⟩
        have b_x112 : Sz (((c * b) + (a % b)) / b) 81 := Sz.div b_x110
        refine Pl.pA_end ?_
        refine Pl.G_plan [(true, 5, 31), (true, 6, 63), (true, 7, 127), (false, 8, 255)] 511 2 Pl.post_panic (by kernel_rfl) (by kernel_rfl) (by kernel_rfl) ?_
        refine Pl.qA_move hS127 rfl rfl rfl rfl rfl ?_
        refine Pl.qA_extract hS127 rfl rfl rfl rfl rfl rfl ?_
        refine Pl.qA_extract hS127 rfl rfl rfl rfl rfl rfl ?_
        refine allocI rfl rfl rfl rfl (fun _ k => Ext.below hS127 k) ?_
        intro N113 w128 hB128 z_N113 i_113
        have hS128 := Ext.below hS127 hB128
        refine Pl.pA_end ?_
        have h_x112__128 := Zn.below h_x112 hB128
        exact Pl.G_sub [(2, (.bool false)), (3, (.bool true)), (6, .pointer (some ⟨N13, 0, none⟩)), (8, .pointer (some ⟨N21, 0, none⟩)), (11, .pointer (some ⟨N11_120, 0, none⟩)), (12, .pointer (some ⟨N12_120, 0, none⟩)), (13, (.int .i64 0)), (14, .pointer (some ⟨N107, 0, none⟩)), (15, (.bool true)), (16, .pointer (some ⟨N113, 0, none⟩)), (102, v_x112), (103, (.bool true))] (Pl.subl_cons rfl (Pl.subl_cons rfl (Pl.subl_cons rfl (Pl.subl_cons rfl (Pl.subl_cons rfl (Pl.subl_cons rfl (Pl.subl_cons rfl (Pl.subl_cons rfl (Pl.subl_cons rfl (Pl.subl_cons rfl (Pl.subl_cons rfl (Pl.subl_cons rfl Pl.subl_nil)))))))))))) (hK _ _ ⟨N113, v_x112, rfl, (Ext.below hB125 (Ext.below hB126 (Ext.below hB127 hB128))), (Nat.le_trans (Below.size (Ext.below hB125 (Ext.below hB126 hB127))) z_N113), i_113, h_x112__128⟩)
      · refine allocI rfl rfl rfl rfl (fun _ k => Ext.below hS126 k) ?_
        intro N111 w127 hB127 z_N111 i_111
        have hS127 := Ext.below hS126 hB127
        refine Pl.pA_end ?_
        refine Pl.G_plan [(false, 4, 271), (true, 5, 287), (true, 6, 319), (true, 7, 383)] 511 2 Pl.post_panic (by kernel_rfl) (by kernel_rfl) (by kernel_rfl) ?_
        have h_x110__127 := Zn.below h_x110 hB127
        have h_x8__127 := Zn.below h_x8__122 (Ext.below hB123 (Ext.below hB124 (Ext.below hB125 (Ext.below hB126 hB127))))
        refine Pl.pA_call rfl rfl rfl rfl rfl en16 ?_
        refine Calls.mono (zexact_yes _ _ _ ((c * b) + (a % b)) b h_x110__127 h_x8__127 (Sz.le b_x110 (by decide)) (Sz.le b_b (by decide)) h0 ((rest_of c a b).trans hr) _ rfl) ?_
        rintro e w128 ⟨v_x114, rfl, h_x114, hB128⟩
        have hS128 := Ext.below hS127 hB128
        refine ⟨_, rfl, hS128, ?_⟩
        have b_x114 : Sz (((c * b) + (a % b)) / b) 81 := Sz.div b_x110
        refine Pl.qA_move hS128 rfl rfl rfl rfl rfl ?_
        refine Pl.qA_extract hS128 rfl rfl rfl rfl rfl rfl ?_
        refine Pl.qA_extract hS128 rfl rfl rfl rfl rfl rfl ?_
        refine Pl.pA_end ?_
        have i_111__128 := Ib.ext i_111 hB128
        exact Pl.G_sub [(2, (.bool false)), (3, (.bool true)), (6, .pointer (some ⟨N13, 0, none⟩)), (8, .pointer (some ⟨N21, 0, none⟩)), (11, .pointer (some ⟨N11_120, 0, none⟩)), (12, .pointer (some ⟨N12_120, 0, none⟩)), (13, (.int .i64 0)), (14, .pointer (some ⟨N107, 0, none⟩)), (15, (.bool true)), (16, .pointer (some ⟨N111, 0, none⟩)), (102, v_x114), (103, (.bool true))] (Pl.subl_cons rfl (Pl.subl_cons rfl (Pl.subl_cons rfl (Pl.subl_cons rfl (Pl.subl_cons rfl (Pl.subl_cons rfl (Pl.subl_cons rfl (Pl.subl_cons rfl (Pl.subl_cons rfl (Pl.subl_cons rfl (Pl.subl_cons rfl (Pl.subl_cons rfl Pl.subl_nil)))))))))))) (hK _ _ ⟨N111, v_x114, rfl, (Ext.below hB125 (Ext.below hB126 (Ext.below hB127 hB128))), (Nat.le_trans (Below.size (Ext.below hB125 hB126)) z_N111), i_111__128, h_x114⟩)
    · refine allocI rfl rfl rfl rfl (fun _ k => Ext.below hS125 k) ?_
      intro N108 w126 hB126 z_N108 i_108
      have hS126 := Ext.below hS125 hB126
      refine Pl.pA_end ?_
      refine Pl.G_plan [(false, 2, 267), (false, 4, 271), (true, 5, 287), (true, 6, 319), (true, 7, 383)] 511 2 Pl.post_panic (by kernel_rfl) (by kernel_rfl) (by kernel_rfl) ?_
      have h_x39__126 := Zn.below h_x39__122 (Ext.below hB123 (Ext.below hB124 (Ext.below hB125 hB126)))
      have h_x19__126 := Zn.below h_x19__16 (Ext.below hB17 (Ext.below hB18 (Ext.below hB19 (Ext.below hB122 (Ext.below hB123 (Ext.below hB124 (Ext.below hB125 hB126)))))))
      refine Pl.pA_call rfl rfl rfl rfl rfl en29 ?_
      refine Calls.mono (zadd _ _ _ (c * b) (a % b) h_x39__126 h_x19__126 (Sz.le b_x39 (by decide)) (Sz.le b_x19 (by decide)) _ rfl) ?_
      rintro e w127 ⟨v_x111, rfl, h_x111, hB127⟩
      have hS127 := Ext.below hS126 hB127
      refine ⟨_, rfl, hS127, ?_⟩
      have b_x111 : Sz ((c * b) + (a % b)) 81 := Sz.add b_x39 b_x19 (by decide) (by decide)
      have h_x8__127 := Zn.below h_x8__122 (Ext.below hB123 (Ext.below hB124 (Ext.below hB125 (Ext.below hB126 hB127))))
      refine Pl.pA_call rfl rfl rfl rfl rfl en16 ?_
      refine Calls.mono (zexact_yes _ _ _ ((c * b) + (a % b)) b h_x111 h_x8__127 (Sz.le b_x111 (by decide)) (Sz.le b_b (by decide)) h0 ((rest_of c a b).trans hr) _ rfl) ?_
      rintro e w128 ⟨v_x113, rfl, h_x113, hB128⟩
      have hS128 := Ext.below hS127 hB128
      refine ⟨_, rfl, hS128, ?_⟩
      have b_x113 : Sz (((c * b) + (a % b)) / b) 81 := Sz.div b_x111
      refine Pl.qA_move hS128 rfl rfl rfl rfl rfl ?_
      refine Pl.qA_extract hS128 rfl rfl rfl rfl rfl rfl ?_
      refine Pl.qA_extract hS128 rfl rfl rfl rfl rfl rfl ?_
      refine Pl.pA_end ?_
      have i_108__128 := Ib.ext i_108 (Ext.below hB127 hB128)
      exact Pl.G_sub [(2, (.bool false)), (3, (.bool true)), (6, .pointer (some ⟨N13, 0, none⟩)), (8, .pointer (some ⟨N21, 0, none⟩)), (11, .pointer (some ⟨N11_120, 0, none⟩)), (12, .pointer (some ⟨N12_120, 0, none⟩)), (13, (.int .i64 0)), (14, .pointer (some ⟨N107, 0, none⟩)), (15, (.bool true)), (16, .pointer (some ⟨N108, 0, none⟩)), (102, v_x113), (103, (.bool true))] (Pl.subl_cons rfl (Pl.subl_cons rfl (Pl.subl_cons rfl (Pl.subl_cons rfl (Pl.subl_cons rfl (Pl.subl_cons rfl (Pl.subl_cons rfl (Pl.subl_cons rfl (Pl.subl_cons rfl (Pl.subl_cons rfl (Pl.subl_cons rfl (Pl.subl_cons rfl Pl.subl_nil)))))))))))) (hK _ _ ⟨N108, v_x113, rfl, (Ext.below hB125 (Ext.below hB126 (Ext.below hB127 hB128))), (Nat.le_trans (Below.size hB125) z_N108), i_108__128, h_x113⟩)
  rintro _ w225 ⟨N16_225, v_y102_225, rfl, hB225, z_N16_225, i_N16_225, h_y102_225⟩
  have hS225 := hB225
  have b_x110 : Sz ((c * b) + (a % b)) 81 := Sz.add b_x39 b_x19 (by decide) (by decide)
  have b_x112 : Sz (((c * b) + (a % b)) / b) 81 := Sz.div b_x110
  refine Pl.G_plan [(false, 9, 511), (true, 10, 1023)] 2047 0 Pl.post_panic (by kernel_rfl) (by kernel_rfl) (by kernel_rfl) ?_
  obtain ⟨p_y102_225, A_y102_225, L_y102_225, c_y102_225, rfl⟩ := Zn.sh h_y102_225
  refine storeI rfl rfl rfl rfl rfl rfl i_N16_225 (fun _ T => T _ hS225 (Nat.le_trans (Below.size (Ext.refl w124)) z_N16_225)) ?_
  intro w226 T1_226 T2_226 T3_226 I_226
  have hB226 := T1_226 _ hB225 (Nat.le_trans (Below.size (Ext.refl w124)) z_N16_225)
  have hS226 := T1_226 _ hS225 (Nat.le_trans (Below.size (Ext.refl w124)) z_N16_225)
  have h_y102_225__226 := T2_226 _ _ h_y102_225
  refine Pl.qA_assign hS226 rfl rfl rfl rfl rfl ?_
  refine Pl.pA_end ?_
  refine Pl.G_V (by kernel_rfl) ?_
  refine Pl.V_seq ?_
  refine Pl.V_region (by kernel_rfl) ?_
  refine Pl.qA_move trivial rfl rfl rfl rfl rfl ?_
  refine Pl.qA_move trivial rfl rfl rfl rfl rfl ?_
  refine Pl.qA_move trivial rfl rfl rfl rfl rfl ?_
  refine Pl.qA_bin (v := (.bool true)) trivial rfl rfl rfl rfl rfl rfl (fun X => by go_simp) ?_
  refine Pl.qA_pick trivial rfl rfl rfl rfl rfl rfl ?_
  refine Pl.qA_move trivial rfl rfl rfl rfl rfl ?_
  have I_121__226 := Ib.ext I_121__122 (Ext.below hB123 (Ext.below hB124 hB226))
  refine Pl.qA_loadw trivial rfl rfl rfl rfl rfl (Ib.load I_121__226) ?_
  have i_13__226 := Ib.ext i_13__17 (Ext.below hB18 (Ext.below hB19 (Ext.below hB122 (Ext.below hB123 (Ext.below hB124 hB226)))))
  refine Pl.qA_loadw trivial rfl rfl rfl rfl rfl (Ib.load i_13__226) ?_
  have h_y87_120__226 := Zn.below h_y87_120__122 (Ext.below hB123 (Ext.below hB124 hB226))
  have h_x12__226 := Zn.below h_x12__17 (Ext.below hB18 (Ext.below hB19 (Ext.below hB122 (Ext.below hB123 (Ext.below hB124 hB226)))))
  refine Pl.pA_call rfl rfl rfl rfl rfl en20 ?_
  refine Calls.mono (rzsame _ _ _ (((c * b) + (a % b)) / b) c h_y87_120__226 h_x12__226 (Sz.le b_x45 (by decide)) (Sz.le b_c (by decide)) true (decide_eq_true (quo_of c a h0))) ?_
  rintro e w227 ⟨rfl, hB227⟩
  refine ⟨_, rfl, trivial, ?_⟩
  refine Pl.qA_pick trivial rfl rfl rfl rfl rfl rfl ?_
  refine Pl.qA_move trivial rfl rfl rfl rfl rfl ?_
  have I_122__227 := Ib.ext I_122 (Ext.below hB123 (Ext.below hB124 (Ext.below hB226 hB227)))
  refine Pl.qA_loadw trivial rfl rfl rfl rfl rfl (Ib.load I_122__227) ?_
  have i_21__227 := Ib.ext i_21__11 (Ext.below hB12 (Ext.below hB13 (Ext.below hB14 (Ext.below hB15 (Ext.below hB16 (Ext.below hB17 (Ext.below hB18 (Ext.below hB19 (Ext.below hB122 (Ext.below hB123 (Ext.below hB124 (Ext.below hB226 hB227))))))))))))
  refine Pl.qA_loadw trivial rfl rfl rfl rfl rfl (Ib.load i_21__227) ?_
  have h_y88_120__227 := Zn.below h_y88_120__122 (Ext.below hB123 (Ext.below hB124 (Ext.below hB226 hB227)))
  have h_x19__227 := Zn.below h_x19__16 (Ext.below hB17 (Ext.below hB18 (Ext.below hB19 (Ext.below hB122 (Ext.below hB123 (Ext.below hB124 (Ext.below hB226 hB227)))))))
  refine Pl.pA_call rfl rfl rfl rfl rfl en20 ?_
  refine Calls.mono (rzsame _ _ _ (((c * b) + (a % b)) % b) (a % b) h_y88_120__227 h_x19__227 (Sz.le b_x46 (by decide)) (Sz.le b_x19 (by decide)) true (decide_eq_true (rest_of c a b))) ?_
  rintro e w228 ⟨rfl, hB228⟩
  refine ⟨_, rfl, trivial, ?_⟩
  refine Pl.qA_pick trivial rfl rfl rfl rfl rfl rfl ?_
  refine Pl.qA_move trivial rfl rfl rfl rfl rfl ?_
  refine Pl.qA_move trivial rfl rfl rfl rfl rfl ?_
  refine Pl.qA_pick trivial rfl rfl rfl rfl rfl rfl ?_
  refine Pl.qA_move trivial rfl rfl rfl rfl rfl ?_
  have i_107__228 := Ib.ext i_107 (Ext.below hB226 (Ext.below hB227 hB228))
  refine Pl.qA_loadw trivial rfl rfl rfl rfl rfl (Ib.load i_107__228) ?_
  have i_13__228 := Ib.ext i_13__226 (Ext.below hB227 hB228)
  refine Pl.qA_loadw trivial rfl rfl rfl rfl rfl (Ib.load i_13__228) ?_
  have h_x106__228 := Zn.below h_x106 (Ext.below hB124 (Ext.below hB226 (Ext.below hB227 hB228)))
  have h_x12__228 := Zn.below h_x12__226 (Ext.below hB227 hB228)
  refine Pl.pA_call rfl rfl rfl rfl rfl en20 ?_
  refine Calls.mono (rzsame _ _ _ ((c * b) / b) c h_x106__228 h_x12__228 (Sz.le b_x106 (by decide)) (Sz.le b_c (by decide)) true (decide_eq_true (Int.mul_ediv_cancel c h0))) ?_
  rintro e w229 ⟨rfl, hB229⟩
  refine ⟨_, rfl, trivial, ?_⟩
  refine Pl.qA_pick trivial rfl rfl rfl rfl rfl rfl ?_
  refine Pl.qA_move trivial rfl rfl rfl rfl rfl ?_
  refine Pl.qA_move trivial rfl rfl rfl rfl rfl ?_
  have i_21__229 := Ib.ext i_21__227 (Ext.below hB228 hB229)
  refine Pl.qA_loadw trivial rfl rfl rfl rfl rfl (Ib.load i_21__229) ?_
  have h_x19__229 := Zn.below h_x19__227 (Ext.below hB228 hB229)
  refine Pl.pA_call rfl rfl rfl rfl rfl en25 ?_
  refine Calls.mono (zsign _ _ (a % b) h_x19__229 (Int.sign (a % b)) rfl) ?_
  rintro e w230 ⟨rfl, hB230⟩
  refine ⟨_, rfl, trivial, ?_⟩
  refine Pl.qA_bin (v := (.bool true)) trivial rfl rfl rfl rfl rfl rfl (fun X => b_eql (beq_iff_eq.2 (Int.sign_eq_zero_iff_zero.2 hr)) X) ?_
  refine Pl.qA_bin (v := (.bool true)) trivial rfl rfl rfl rfl rfl rfl (fun X => by go_simp) ?_
  refine Pl.qA_pick trivial rfl rfl rfl rfl rfl rfl ?_
  refine Pl.qA_assign trivial rfl rfl rfl rfl rfl ?_
  refine Pl.pA_end ?_
  refine Pl.post_ret rfl rfl ?_
  exact ⟨rfl, (Ext.below hB1 (Ext.below hB2 (Ext.below hB3 (Ext.below hB4 (Ext.below hB5 (Ext.below hB6 (Ext.below hB7 (Ext.below hB8 (Ext.below hB9 (Ext.below hB10 (Ext.below hB11 (Ext.below hB12 (Ext.below hB13 (Ext.below hB14 (Ext.below hB15 (Ext.below hB16 (Ext.below hB17 (Ext.below hB18 (Ext.below hB19 (Ext.below hB122 (Ext.below hB123 (Ext.below hB124 (Ext.below hB226 (Ext.below hB227 (Ext.below hB228 (Ext.below hB229 hB230))))))))))))))))))))))))))⟩
set_option maxRecDepth 100000 in
set_option maxHeartbeats 4000000 in
theorem IntegerQuotient_walkN (w : World) (sa : Bool) (Aa : Option Addr) (ca : Nat) (xsa : List Nat) (ua : U w (.slice Aa xsa.length ca) xsa) (sb : Bool) (Ab : Option Addr) (cb : Nat) (xsb : List Nat) (ub : U w (.slice Ab xsb.length cb) xsb) (sc : Bool) (Ac : Option Addr) (cc : Nat) (xsc : List Nat) (uc : U w (.slice Ac xsc.length cc) xsc) (h0 : sg sb (cutN xsb 40) ≠ 0) (hr : sg sa (cutN xsa 40) % sg sb (cutN xsb 40) ≠ 0) :
    Calls Tryz.prog 7 #[.agg #[.bool sa, .slice Aa xsa.length ca, .bool sb, .slice Ab xsb.length cb, .bool sc, .slice Ac xsc.length cc]] w fun e w' => e = .returned (.bool true) ∧ Ext w w' := by
  have r_a : Ri w (.agg #[.bool sa, .slice Aa xsa.length ca]) sa xsa := ⟨_, _, rfl, ua⟩
  obtain ⟨a, e_a⟩ : ∃ z, sg sa (cutN xsa 40) = z := ⟨_, rfl⟩
  have b_a : Sz a 40 := by rw [← e_a]; exact Sz.cut ua sa 40 40 (Nat.le_refl _)
  have r_b : Ri w (.agg #[.bool sb, .slice Ab xsb.length cb]) sb xsb := ⟨_, _, rfl, ub⟩
  obtain ⟨b, e_b⟩ : ∃ z, sg sb (cutN xsb 40) = z := ⟨_, rfl⟩
  have b_b : Sz b 40 := by rw [← e_b]; exact Sz.cut ub sb 40 40 (Nat.le_refl _)
  have r_c : Ri w (.agg #[.bool sc, .slice Ac xsc.length cc]) sc xsc := ⟨_, _, rfl, uc⟩
  obtain ⟨c, e_c⟩ : ∃ z, sg sc (cutN xsc 40) = z := ⟨_, rfl⟩
  have b_c : Sz c 40 := by rw [← e_c]; exact Sz.cut uc sc 40 40 (Nat.le_refl _)
  rw [e_b] at h0
  rw [e_a, e_b] at hr
  refine Pl.calls_by (n := 134) (vs := [.agg #[.bool sa, .slice Aa xsa.length ca, .bool sb, .slice Ab xsb.length cb, .bool sc, .slice Ac xsc.length cc]]) Tryz.func7 rfl (by kernel_rfl) (by simp) ?_
  refine Pl.V_seq ?_
  refine Pl.V_region (by kernel_rfl) ?_
  refine boxA3 rfl rfl rfl rfl rfl (fun _ _ => trivial) ?_
  intro N1 w1 hB1 j0_1 j1_1 j2_1
  refine Pl.qA_assign trivial rfl rfl rfl rfl rfl ?_
  refine Pl.pA_end ?_
  refine Pl.V_seq ?_
  refine Pl.V_region (by kernel_rfl) ?_
  refine Pl.pA_call rfl rfl rfl rfl rfl en12 ?_
  refine Calls.mono (zhead _) ?_
  rintro e w2 ⟨rfl, hB2⟩
  refine ⟨_, rfl, trivial, ?_⟩
  refine Pl.qA_assign trivial rfl rfl rfl rfl rfl ?_
  refine Pl.pA_end ?_
  refine Pl.V_seq ?_
  refine Pl.V_region (by kernel_rfl) ?_
  refine idxA trivial rfl rfl rfl rfl rfl rfl (ix30 _) ?_
  have j0_1__2 := Io.ext j0_1 hB2
  refine Pl.qA_loadw trivial rfl rfl rfl rfl rfl (Io.load j0_1__2) ?_
  have r_a__2 := Ri.below r_a (Ext.below hB1 hB2)
  refine Pl.pA_call rfl rfl rfl rfl rfl en13 ?_
  refine Calls.mono (lmade _ _ sa xsa r_a__2 a e_a) ?_
  rintro e w3 ⟨v_x4, rfl, h_x4, hB3⟩
  refine ⟨_, rfl, trivial, ?_⟩
  obtain ⟨p_x4, A_x4, L_x4, c_x4, rfl⟩ := Zn.sh h_x4
  refine boxI rfl rfl rfl rfl rfl rfl rfl rfl (fun _ => rfl) (fun _ _ => trivial) ?_
  intro N5 w4 hB4 i_5
  refine Pl.pA_end ?_
  refine Pl.V_seq ?_
  refine Pl.V_region (by kernel_rfl) ?_
  refine idxA trivial rfl rfl rfl rfl rfl rfl (ix31 _) ?_
  have j1_1__4 := Io.ext j1_1 (Ext.below hB2 (Ext.below hB3 hB4))
  refine Pl.qA_loadw trivial rfl rfl rfl rfl rfl (Io.load j1_1__4) ?_
  have r_b__4 := Ri.below r_b (Ext.below hB1 (Ext.below hB2 (Ext.below hB3 hB4)))
  refine Pl.pA_call rfl rfl rfl rfl rfl en13 ?_
  refine Calls.mono (lmade _ _ sb xsb r_b__4 b e_b) ?_
  rintro e w5 ⟨v_x8, rfl, h_x8, hB5⟩
  refine ⟨_, rfl, trivial, ?_⟩
  obtain ⟨p_x8, A_x8, L_x8, c_x8, rfl⟩ := Zn.sh h_x8
  refine boxI rfl rfl rfl rfl rfl rfl rfl rfl (fun _ => rfl) (fun _ _ => trivial) ?_
  intro N9 w6 hB6 i_9
  refine Pl.pA_end ?_
  refine Pl.V_seq ?_
  refine Pl.V_region (by kernel_rfl) ?_
  refine idxA trivial rfl rfl rfl rfl rfl rfl (ix32 _) ?_
  have j2_1__6 := Io.ext j2_1 (Ext.below hB2 (Ext.below hB3 (Ext.below hB4 (Ext.below hB5 hB6))))
  refine Pl.qA_loadw trivial rfl rfl rfl rfl rfl (Io.load j2_1__6) ?_
  have r_c__6 := Ri.below r_c (Ext.below hB1 (Ext.below hB2 (Ext.below hB3 (Ext.below hB4 (Ext.below hB5 hB6)))))
  refine Pl.pA_call rfl rfl rfl rfl rfl en13 ?_
  refine Calls.mono (lmade _ _ sc xsc r_c__6 c e_c) ?_
  rintro e w7 ⟨v_x12, rfl, h_x12, hB7⟩
  refine ⟨_, rfl, trivial, ?_⟩
  obtain ⟨p_x12, A_x12, L_x12, c_x12, rfl⟩ := Zn.sh h_x12
  refine boxI rfl rfl rfl rfl rfl rfl rfl rfl (fun _ => rfl) (fun _ _ => trivial) ?_
  intro N13 w8 hB8 i_13
  refine Pl.pA_end ?_
  refine Pl.V_seq ?_
  refine Pl.V_region (by kernel_rfl) ?_
  have i_5__8 := Ib.ext i_5 (Ext.below hB5 (Ext.below hB6 (Ext.below hB7 hB8)))
  refine Pl.qA_loadw trivial rfl rfl rfl rfl rfl (Ib.load i_5__8) ?_
  have i_9__8 := Ib.ext i_9 (Ext.below hB7 hB8)
  refine Pl.qA_loadw trivial rfl rfl rfl rfl rfl (Ib.load i_9__8) ?_
  have h_x4__8 := Zn.below h_x4 (Ext.below hB4 (Ext.below hB5 (Ext.below hB6 (Ext.below hB7 hB8))))
  have h_x8__8 := Zn.below h_x8 (Ext.below hB6 (Ext.below hB7 hB8))
  refine Pl.pA_call rfl rfl rfl rfl rfl en14 ?_
  refine Calls.mono (zdiv_D _ _ _ a b h_x4__8 h_x8__8 (Sz.le b_a (by decide)) (Sz.le b_b (by decide)) h0 _ _ rfl rfl) ?_
  rintro e w9 ⟨⟨v_x18, v_x19, rfl, h_x18, h_x19⟩, hB9⟩
  refine ⟨_, rfl, trivial, ?_⟩
  have b_x18 : Sz (a / b) 40 := Sz.div b_a
  have b_x19 : Sz (a % b) 40 := Sz.mod b_b h0
  refine Pl.qA_move trivial rfl rfl rfl rfl rfl ?_
  refine Pl.qA_extract trivial rfl rfl rfl rfl rfl rfl ?_
  refine Pl.qA_extract trivial rfl rfl rfl rfl rfl rfl ?_
  refine Pl.qA_extract trivial rfl rfl rfl rfl rfl rfl ?_
  obtain ⟨p_x18, A_x18, L_x18, c_x18, rfl⟩ := Zn.sh h_x18
  obtain ⟨p_x19, A_x19, L_x19, c_x19, rfl⟩ := Zn.sh h_x19
  refine boxI2 rfl rfl rfl rfl rfl rfl rfl rfl rfl rfl rfl rfl rfl rfl rfl rfl rfl (fun _ _ => rfl) (fun _ _ => rfl) (fun _ _ => trivial) ?_
  intro N20 N21 w10 hB10 i_20 i_21
  refine Pl.qA_assign trivial rfl rfl rfl rfl rfl ?_
  refine Pl.pA_end ?_
  refine Pl.V_seq ?_
  refine Pl.V_seq ?_
  refine Pl.V_region (by kernel_rfl) ?_
  have i_9__10 := Ib.ext i_9__8 (Ext.below hB9 hB10)
  refine Pl.qA_loadw trivial rfl rfl rfl rfl rfl (Ib.load i_9__10) ?_
  have h_x8__10 := Zn.below h_x8__8 (Ext.below hB9 hB10)
  refine Pl.pA_call rfl rfl rfl rfl rfl en25 ?_
  refine Calls.mono (zsign _ _ b h_x8__10 (Int.sign b) rfl) ?_
  rintro e w11 ⟨rfl, hB11⟩
  refine ⟨_, rfl, trivial, ?_⟩
  refine Pl.qA_bin (v := (.bool false)) trivial rfl rfl rfl rfl rfl rfl (fun X => b_eql (beq_eq_false_iff_ne.2 (sign_ne h0)) X) ?_
  refine Pl.pA_end ?_
  refine Pl.V_false rfl ?_
  refine Pl.V_skip ?_
  refine Pl.V_seq ?_
  refine Pl.V_seq ?_
  refine Pl.V_draw (S := fun X => Ext w11 X) [(true, 0, 0), (true, 1, 1), (true, 2, 3), (true, 3, 7), (true, 4, 15), (true, 6, 31), (true, 8, 95), (false, 5, 351), (false, 7, 383), (false, 9, 511), (true, 10, 1023), (true, 11, 2047), (true, 12, 4095), (true, 13, 8191), (false, 14, 16383), (true, 15, 32767), (true, 16, 65535), (true, 17, 131071), (true, 18, 262143), (true, 19, 524287), (true, 20, 1048575), (true, 21, 2097151), (false, 22, 4194303), (true, 23, 8388607), (true, 24, 16777215)] fo Pl.post_panic (by kernel_rfl) (Ext.drew (Ext.refl _)) ?_
  generalize w11.drew = w12
  intro hB12
  have hS12 := hB12
  refine Pl.qA_move hS12 rfl rfl rfl rfl rfl ?_
  refine Pl.qA_bin (v := (.bool false)) hS12 rfl rfl rfl rfl rfl rfl (fun X => by go_simp) ?_
  refine Pl.qA_move hS12 rfl rfl rfl rfl rfl ?_
  have i_20__11 := Ib.ext i_20 hB11
  refine Pl.qA_load hS12 rfl rfl rfl rfl rfl (fun X hX => Ib.load (Ib.ext i_20__11 hX)) ?_
  have i_9__11 := Ib.ext i_9__10 hB11
  refine Pl.qA_load hS12 rfl rfl rfl rfl rfl (fun X hX => Ib.load (Ib.ext i_9__11 hX)) ?_
  have i_21__11 := Ib.ext i_21 hB11
  refine Pl.qA_load hS12 rfl rfl rfl rfl rfl (fun X hX => Ib.load (Ib.ext i_21__11 hX)) ?_
  have i_5__11 := Ib.ext i_5__8 (Ext.below hB9 (Ext.below hB10 hB11))
  refine Pl.qA_load hS12 rfl rfl rfl rfl rfl (fun X hX => Ib.load (Ib.ext i_5__11 hX)) ?_
  have h_x18__12 := Zn.below h_x18 (Ext.below hB10 (Ext.below hB11 hB12))
  have h_x8__12 := Zn.below h_x8__10 (Ext.below hB11 hB12)
  refine Pl.pA_call rfl rfl rfl rfl rfl en33 ?_
  refine Calls.mono (zmul _ _ _ (a / b) b h_x18__12 h_x8__12 (Sz.le b_x18 (by decide)) (Sz.le b_b (by decide)) _ rfl) ?_
  rintro e w13 ⟨v_x26, rfl, h_x26, hB13⟩
  have hS13 := Ext.below hS12 hB13
  refine ⟨_, rfl, hS13, ?_⟩
  have b_x26 : Sz ((a / b) * b) 80 := Sz.mul b_x18 b_b (by decide)
  have h_x19__13 := Zn.below h_x19 (Ext.below hB10 (Ext.below hB11 (Ext.below hB12 hB13)))
  refine Pl.pA_call rfl rfl rfl rfl rfl en29 ?_
  refine Calls.mono (zadd _ _ _ ((a / b) * b) (a % b) h_x26 h_x19__13 (Sz.le b_x26 (by decide)) (Sz.le b_x19 (by decide)) _ rfl) ?_
  rintro e w14 ⟨v_x28, rfl, h_x28, hB14⟩
  have hS14 := Ext.below hS13 hB14
  refine ⟨_, rfl, hS14, ?_⟩
  have b_x28 : Sz (((a / b) * b) + (a % b)) 81 := Sz.add b_x26 b_x19 (by decide) (by decide)
  have h_x4__14 := Zn.below h_x4__8 (Ext.below hB9 (Ext.below hB10 (Ext.below hB11 (Ext.below hB12 (Ext.below hB13 hB14)))))
  refine Pl.pA_call rfl rfl rfl rfl rfl en20 ?_
  refine Calls.mono (rzsame _ _ _ (((a / b) * b) + (a % b)) a h_x28 h_x4__14 (Sz.le b_x28 (by decide)) (Sz.le b_a (by decide)) true (decide_eq_true (qr_back a b))) ?_
  rintro e w15 ⟨rfl, hB15⟩
  have hS15 := Ext.below hS14 hB15
  refine ⟨_, rfl, hS15, ?_⟩
  refine Pl.qA_un (v := (.bool false)) hS15 rfl rfl rfl rfl rfl (fun X => rfl) ?_
  refine Pl.qA_pick hS15 rfl rfl rfl rfl rfl rfl ?_
  refine Pl.qA_move hS15 rfl rfl rfl rfl rfl ?_
  refine Pl.qA_load hS15 rfl rfl rfl rfl rfl (fun X hX => Ib.load (Ib.ext i_21__11 hX)) ?_
  have h_x19__15 := Zn.below h_x19__13 (Ext.below hB14 hB15)
  refine Pl.pA_call rfl rfl rfl rfl rfl en25 ?_
  refine Calls.mono (zsign _ _ (a % b) h_x19__15 (Int.sign (a % b)) rfl) ?_
  rintro e w16 ⟨rfl, hB16⟩
  have hS16 := Ext.below hS15 hB16
  refine ⟨_, rfl, hS16, ?_⟩
  refine Pl.qA_bin (v := (.bool false)) hS16 rfl rfl rfl rfl rfl rfl (fun X => b_lss (decide_eq_false (sign_nn (Int.emod_nonneg a h0))) X) ?_
  refine Pl.qA_pick hS16 rfl rfl rfl rfl rfl rfl ?_
  refine Pl.qA_move hS16 rfl rfl rfl rfl rfl ?_
  refine qA_field hS16 rfl rfl rfl rfl rfl (fa_mag _) ?_
  refine Pl.qA_load hS16 rfl rfl rfl rfl rfl (fun X hX => Ib.mag (Ib.ext i_21__11 hX)) ?_
  have h_x19__16 := Zn.below h_x19__15 hB16
  have mg_x19_31 := Zn.mag h_x19__16
  refine qA_field hS16 rfl rfl rfl rfl rfl (fa_mag _) ?_
  refine Pl.qA_load hS16 rfl rfl rfl rfl rfl (fun X hX => Ib.mag (Ib.ext i_9__11 hX)) ?_
  have h_x8__16 := Zn.below h_x8__12 (Ext.below hB13 (Ext.below hB14 (Ext.below hB15 hB16)))
  have mg_x8_33 := Zn.mag h_x8__16
  refine Pl.pA_call rfl rfl rfl rfl rfl en46 ?_
  refine Calls.mono (cmp_B _ _ _ _ _ mg_x19_31 mg_x8_33 (-1) (rest_less a h0)) ?_
  rintro e w17 ⟨rfl, hB17⟩
  have hS17 := Ext.below hS16 hB17
  refine ⟨_, rfl, hS17, ?_⟩
  refine Pl.qA_bin (v := (.bool false)) hS17 rfl rfl rfl rfl rfl rfl (fun X => by go_simp) ?_
  refine Pl.qA_pick hS17 rfl rfl rfl rfl rfl rfl ?_
  refine Pl.pA_end ?_
  refine Pl.V_false rfl ?_
  refine Pl.V_skip ?_
  refine Pl.V_seq ?_
  refine Pl.V_region (by kernel_rfl) ?_
  have i_13__17 := Ib.ext i_13 (Ext.below hB9 (Ext.below hB10 (Ext.below hB11 (Ext.below hB12 (Ext.below hB13 (Ext.below hB14 (Ext.below hB15 (Ext.below hB16 hB17))))))))
  refine Pl.qA_loadw trivial rfl rfl rfl rfl rfl (Ib.load i_13__17) ?_
  have i_9__17 := Ib.ext i_9__11 (Ext.below hB12 (Ext.below hB13 (Ext.below hB14 (Ext.below hB15 (Ext.below hB16 hB17)))))
  refine Pl.qA_loadw trivial rfl rfl rfl rfl rfl (Ib.load i_9__17) ?_
  have h_x12__17 := Zn.below h_x12 (Ext.below hB8 (Ext.below hB9 (Ext.below hB10 (Ext.below hB11 (Ext.below hB12 (Ext.below hB13 (Ext.below hB14 (Ext.below hB15 (Ext.below hB16 hB17)))))))))
  have h_x8__17 := Zn.below h_x8__16 hB17
  refine Pl.pA_call rfl rfl rfl rfl rfl en33 ?_
  refine Calls.mono (zmul _ _ _ c b h_x12__17 h_x8__17 (Sz.le b_c (by decide)) (Sz.le b_b (by decide)) _ rfl) ?_
  rintro e w18 ⟨v_x39, rfl, h_x39, hB18⟩
  refine ⟨_, rfl, trivial, ?_⟩
  have b_x39 : Sz (c * b) 80 := Sz.mul b_c b_b (by decide)
  obtain ⟨p_x39, A_x39, L_x39, c_x39, rfl⟩ := Zn.sh h_x39
  refine boxI rfl rfl rfl rfl rfl rfl rfl rfl (fun _ => rfl) (fun _ _ => trivial) ?_
  intro N40 w19 hB19 i_40
  refine Pl.pA_end ?_
  refine Pl.V_seq ?_
  refine Pl.V_drawG (S := fun X => Ext w19 X) fo (Ext.drew (Ext.refl _)) ?_
  generalize w19.drew = w20
  intro hB20
  have hS20 := hB20
  refine Pl.G_cut 3 2047 (fun l' w' => ∃ (N_11 : Nat) (N_12 : Nat) (V_87 : Value) (V_88 : Value), l' = [(2, (.bool false)), (3, (.bool true)), (5, .pointer (some ⟨N9, 0, none⟩)), (6, .pointer (some ⟨N13, 0, none⟩)), (8, .pointer (some ⟨N21, 0, none⟩)), (10, .pointer (some ⟨N40, 0, none⟩)), (11, .pointer (some ⟨N_11, 0, none⟩)), (12, .pointer (some ⟨N_12, 0, none⟩)), (87, V_87), (88, V_88), (89, (.int .i64 0))] ∧ Ext w19 w' ∧ w19.heap.size ≤ N_11 ∧ Ib w' N_11 false (.slice none 0 0) ∧ w19.heap.size ≤ N_12 ∧ Ib w' N_12 false (.slice none 0 0) ∧ Zn w' V_87 (((c * b) + (a % b)) / b) ∧ Zn w' V_88 (((c * b) + (a % b)) % b) ∧ N_11 ≠ N_12) ?_ ?_
  rotate_left
  · intro hK
    refine Pl.G_plan [(true, 0, 0), (true, 1, 1), (true, 3, 3)] 11 11 Pl.post_panic (by kernel_rfl) (by kernel_rfl) (by kernel_rfl) ?_
    refine Pl.qA_load hS20 rfl rfl rfl rfl rfl (fun X hX => Ib.load (Ib.ext i_40 hX)) ?_
    have i_21__19 := Ib.ext i_21__11 (Ext.below hB12 (Ext.below hB13 (Ext.below hB14 (Ext.below hB15 (Ext.below hB16 (Ext.below hB17 (Ext.below hB18 hB19)))))))
    refine Pl.qA_load hS20 rfl rfl rfl rfl rfl (fun X hX => Ib.load (Ib.ext i_21__19 hX)) ?_
    have i_9__19 := Ib.ext i_9__17 (Ext.below hB18 hB19)
    refine Pl.qA_load hS20 rfl rfl rfl rfl rfl (fun X hX => Ib.load (Ib.ext i_9__19 hX)) ?_
    refine Pl.pA_end ?_
    refine Pl.G_any [2, 9, 10] 10 (by kernel_rfl) (by kernel_rfl) (by kernel_rfl) (Pl.AllG_cons ?_ (Pl.AllG_cons ?_ (Pl.AllG_cons ?_ Pl.AllG_nil)))
    · have h_x39__20 := Zn.below h_x39 (Ext.below hB19 hB20)
      have h_x19__20 := Zn.below h_x19__16 (Ext.below hB17 (Ext.below hB18 (Ext.below hB19 hB20)))
      refine Pl.pA_call rfl rfl rfl rfl rfl en29 ?_
      refine Calls.mono (zadd _ _ _ (c * b) (a % b) h_x39__20 h_x19__20 (Sz.le b_x39 (by decide)) (Sz.le b_x19 (by decide)) _ rfl) ?_
      rintro e w21 ⟨v_x43, rfl, h_x43, hB21⟩
      have hS21 := Ext.below hS20 hB21
      refine ⟨_, rfl, hS21, ?_⟩
      have b_x43 : Sz ((c * b) + (a % b)) 81 := Sz.add b_x39 b_x19 (by decide) (by decide)
      refine Pl.pA_end ?_
      refine Pl.G_any [4, 9, 10] 9 (by kernel_rfl) (by kernel_rfl) (by kernel_rfl) (Pl.AllG_cons ?_ (Pl.AllG_cons ?_ (Pl.AllG_cons ?_ Pl.AllG_nil)))
      · have h_x8__21 := Zn.below h_x8__17 (Ext.below hB18 (Ext.below hB19 (Ext.below hB20 hB21)))
        refine Pl.pA_call rfl rfl rfl rfl rfl en14 ?_
        refine Calls.mono (zdiv_D _ _ _ ((c * b) + (a % b)) b h_x43 h_x8__21 (Sz.le b_x43 (by decide)) (Sz.le b_b (by decide)) h0 _ _ rfl rfl) ?_
        rintro e w22 ⟨⟨v_x45, v_x46, rfl, h_x45, h_x46⟩, hB22⟩
        have hS22 := Ext.below hS21 hB22
        refine ⟨_, rfl, hS22, ?_⟩
        have b_x45 : Sz (((c * b) + (a % b)) / b) 81 := Sz.div b_x43
        have b_x46 : Sz (((c * b) + (a % b)) % b) 40 := Sz.mod b_b h0
        refine Pl.pA_end ?_
        refine Pl.G_plan [(true, 5, 31), (true, 6, 63), (true, 7, 127), (true, 8, 255)] 511 5 Pl.post_panic (by kernel_rfl) (by kernel_rfl) (by kernel_rfl) ?_
        refine Pl.qA_move hS22 rfl rfl rfl rfl rfl ?_
        refine Pl.qA_extract hS22 rfl rfl rfl rfl rfl rfl ?_
        refine Pl.qA_extract hS22 rfl rfl rfl rfl rfl rfl ?_
        refine Pl.qA_extract hS22 rfl rfl rfl rfl rfl rfl ?_
        refine Pl.pA_end ?_
        refine Pl.G_any [9, 10] 4 (by kernel_rfl) (by kernel_rfl) (by kernel_rfl) (Pl.AllG_cons ?_ (Pl.AllG_cons ?_ Pl.AllG_nil))
        · refine allocI rfl rfl rfl rfl (fun _ k => Ext.below hS22 k) ?_
          intro N47 w23 hB23 z_N47 i_47
          have hS23 := Ext.below hS22 hB23
          refine Pl.pA_end ?_
          refine Pl.G_plan [(false, 10, 1023)] 2047 3 Pl.post_panic (by kernel_rfl) (by kernel_rfl) (by kernel_rfl) ?_
          refine allocI rfl rfl rfl rfl (fun _ k => Ext.below hS23 k) ?_
          intro N48 w24 hB24 z_N48 i_48
          have hS24 := Ext.below hS23 hB24
          refine Pl.pA_end ?_
          have i_47__24 := Ib.ext i_47 hB24
          have h_x45__24 := Zn.below h_x45 (Ext.below hB23 hB24)
          have h_x46__24 := Zn.below h_x46 (Ext.below hB23 hB24)
          exact Pl.G_sub [(2, (.bool false)), (3, (.bool true)), (5, .pointer (some ⟨N9, 0, none⟩)), (6, .pointer (some ⟨N13, 0, none⟩)), (8, .pointer (some ⟨N21, 0, none⟩)), (10, .pointer (some ⟨N40, 0, none⟩)), (11, .pointer (some ⟨N47, 0, none⟩)), (12, .pointer (some ⟨N48, 0, none⟩)), (87, v_x45), (88, v_x46), (89, (.int .i64 0))] (Pl.subl_cons rfl (Pl.subl_cons rfl (Pl.subl_cons rfl (Pl.subl_cons rfl (Pl.subl_cons rfl (Pl.subl_cons rfl (Pl.subl_cons rfl (Pl.subl_cons rfl (Pl.subl_cons rfl (Pl.subl_cons rfl (Pl.subl_cons rfl Pl.subl_nil))))))))))) (hK _ _ ⟨N47, N48, v_x45, v_x46, rfl, (Ext.below hB20 (Ext.below hB21 (Ext.below hB22 (Ext.below hB23 hB24)))), (Nat.le_trans (Below.size (Ext.below hB20 (Ext.below hB21 hB22))) z_N47), i_47__24, (Nat.le_trans (Below.size (Ext.below hB20 (Ext.below hB21 (Ext.below hB22 hB23)))) z_N48), i_48, h_x45__24, h_x46__24, (Nat.ne_of_lt (Nat.lt_of_lt_of_le (i_47).1 z_N48))⟩)
        · refine allocI rfl rfl rfl rfl (fun _ k => Ext.below hS22 k) ?_
          intro N47 w23 hB23 z_N47 i_47
          have hS23 := Ext.below hS22 hB23
          refine Pl.pA_end ?_
          refine Pl.G_plan [(false, 9, 1535)] 2047 3 Pl.post_panic (by kernel_rfl) (by kernel_rfl) (by kernel_rfl) ?_
          refine allocI rfl rfl rfl rfl (fun _ k => Ext.below hS23 k) ?_
          intro N48 w24 hB24 z_N48 i_48
          have hS24 := Ext.below hS23 hB24
          refine Pl.pA_end ?_
          have i_47__24 := Ib.ext i_47 hB24
          have h_x45__24 := Zn.below h_x45 (Ext.below hB23 hB24)
          have h_x46__24 := Zn.below h_x46 (Ext.below hB23 hB24)
          exact Pl.G_sub [(2, (.bool false)), (3, (.bool true)), (5, .pointer (some ⟨N9, 0, none⟩)), (6, .pointer (some ⟨N13, 0, none⟩)), (8, .pointer (some ⟨N21, 0, none⟩)), (10, .pointer (some ⟨N40, 0, none⟩)), (11, .pointer (some ⟨N48, 0, none⟩)), (12, .pointer (some ⟨N47, 0, none⟩)), (87, v_x45), (88, v_x46), (89, (.int .i64 0))] (Pl.subl_cons rfl (Pl.subl_cons rfl (Pl.subl_cons rfl (Pl.subl_cons rfl (Pl.subl_cons rfl (Pl.subl_cons rfl (Pl.subl_cons rfl (Pl.subl_cons rfl (Pl.subl_cons rfl (Pl.subl_cons rfl (Pl.subl_cons rfl Pl.subl_nil))))))))))) (hK _ _ ⟨N48, N47, v_x45, v_x46, rfl, (Ext.below hB20 (Ext.below hB21 (Ext.below hB22 (Ext.below hB23 hB24)))), (Nat.le_trans (Below.size (Ext.below hB20 (Ext.below hB21 (Ext.below hB22 hB23)))) z_N48), i_48, (Nat.le_trans (Below.size (Ext.below hB20 (Ext.below hB21 hB22))) z_N47), i_47__24, h_x45__24, h_x46__24, (Nat.ne_of_gt (Nat.lt_of_lt_of_le (i_47).1 z_N48))⟩)
      · refine allocI rfl rfl rfl rfl (fun _ k => Ext.below hS21 k) ?_
        intro N44 w22 hB22 z_N44 i_44
        have hS22 := Ext.below hS21 hB22
        refine Pl.pA_end ?_
        refine Pl.G_any [4, 10] 8 (by kernel_rfl) (by kernel_rfl) (by kernel_rfl) (Pl.AllG_cons ?_ (Pl.AllG_cons ?_ Pl.AllG_nil))
        · have h_x43__22 := Zn.below h_x43 hB22
          have h_x8__22 := Zn.below h_x8__17 (Ext.below hB18 (Ext.below hB19 (Ext.below hB20 (Ext.below hB21 hB22))))
          refine Pl.pA_call rfl rfl rfl rfl rfl en14 ?_
          refine Calls.mono (zdiv_D _ _ _ ((c * b) + (a % b)) b h_x43__22 h_x8__22 (Sz.le b_x43 (by decide)) (Sz.le b_b (by decide)) h0 _ _ rfl rfl) ?_
          rintro e w23 ⟨⟨v_x47, v_x48, rfl, h_x47, h_x48⟩, hB23⟩
          have hS23 := Ext.below hS22 hB23
          refine ⟨_, rfl, hS23, ?_⟩
          have b_x47 : Sz (((c * b) + (a % b)) / b) 81 := Sz.div b_x43
          have b_x48 : Sz (((c * b) + (a % b)) % b) 40 := Sz.mod b_b h0
          refine Pl.pA_end ?_
          refine Pl.G_plan [(true, 5, 543), (true, 6, 575), (true, 7, 639), (true, 8, 767), (false, 10, 1023)] 2047 3 Pl.post_panic (by kernel_rfl) (by kernel_rfl) (by kernel_rfl) ?_
          refine Pl.qA_move hS23 rfl rfl rfl rfl rfl ?_
          refine Pl.qA_extract hS23 rfl rfl rfl rfl rfl rfl ?_
          refine Pl.qA_extract hS23 rfl rfl rfl rfl rfl rfl ?_
          refine Pl.qA_extract hS23 rfl rfl rfl rfl rfl rfl ?_
          refine allocI rfl rfl rfl rfl (fun _ k => Ext.below hS23 k) ?_
          intro N49 w24 hB24 z_N49 i_49
          have hS24 := Ext.below hS23 hB24
          refine Pl.pA_end ?_
          have i_44__24 := Ib.ext i_44 (Ext.below hB23 hB24)
          have h_x47__24 := Zn.below h_x47 hB24
          have h_x48__24 := Zn.below h_x48 hB24
          exact Pl.G_sub [(2, (.bool false)), (3, (.bool true)), (5, .pointer (some ⟨N9, 0, none⟩)), (6, .pointer (some ⟨N13, 0, none⟩)), (8, .pointer (some ⟨N21, 0, none⟩)), (10, .pointer (some ⟨N40, 0, none⟩)), (11, .pointer (some ⟨N44, 0, none⟩)), (12, .pointer (some ⟨N49, 0, none⟩)), (87, v_x47), (88, v_x48), (89, (.int .i64 0))] (Pl.subl_cons rfl (Pl.subl_cons rfl (Pl.subl_cons rfl (Pl.subl_cons rfl (Pl.subl_cons rfl (Pl.subl_cons rfl (Pl.subl_cons rfl (Pl.subl_cons rfl (Pl.subl_cons rfl (Pl.subl_cons rfl (Pl.subl_cons rfl Pl.subl_nil))))))))))) (hK _ _ ⟨N44, N49, v_x47, v_x48, rfl, (Ext.below hB20 (Ext.below hB21 (Ext.below hB22 (Ext.below hB23 hB24)))), (Nat.le_trans (Below.size (Ext.below hB20 hB21)) z_N44), i_44__24, (Nat.le_trans (Below.size (Ext.below hB20 (Ext.below hB21 (Ext.below hB22 hB23)))) z_N49), i_49, h_x47__24, h_x48__24, (Nat.ne_of_lt (Nat.lt_of_lt_of_le (Ib.ext i_44 hB23).1 z_N49))⟩)
        · refine allocI rfl rfl rfl rfl (fun _ k => Ext.below hS22 k) ?_
          intro N45 w23 hB23 z_N45 i_45
          have hS23 := Ext.below hS22 hB23
          refine Pl.pA_end ?_
          refine Pl.G_plan [(false, 4, 1551), (true, 5, 1567), (true, 6, 1599), (true, 7, 1663), (true, 8, 1791)] 2047 3 Pl.post_panic (by kernel_rfl) (by kernel_rfl) (by kernel_rfl) ?_
          have h_x43__23 := Zn.below h_x43 (Ext.below hB22 hB23)
          have h_x8__23 := Zn.below h_x8__17 (Ext.below hB18 (Ext.below hB19 (Ext.below hB20 (Ext.below hB21 (Ext.below hB22 hB23)))))
          refine Pl.pA_call rfl rfl rfl rfl rfl en14 ?_
          refine Calls.mono (zdiv_D _ _ _ ((c * b) + (a % b)) b h_x43__23 h_x8__23 (Sz.le b_x43 (by decide)) (Sz.le b_b (by decide)) h0 _ _ rfl rfl) ?_
          rintro e w24 ⟨⟨v_x48, v_x49, rfl, h_x48, h_x49⟩, hB24⟩
          have hS24 := Ext.below hS23 hB24
          refine ⟨_, rfl, hS24, ?_⟩
          have b_x48 : Sz (((c * b) + (a % b)) / b) 81 := Sz.div b_x43
          have b_x49 : Sz (((c * b) + (a % b)) % b) 40 := Sz.mod b_b h0
          refine Pl.qA_move hS24 rfl rfl rfl rfl rfl ?_
          refine Pl.qA_extract hS24 rfl rfl rfl rfl rfl rfl ?_
          refine Pl.qA_extract hS24 rfl rfl rfl rfl rfl rfl ?_
          refine Pl.qA_extract hS24 rfl rfl rfl rfl rfl rfl ?_
          refine Pl.pA_end ?_
          have i_44__24 := Ib.ext i_44 (Ext.below hB23 hB24)
          have i_45__24 := Ib.ext i_45 hB24
          exact Pl.G_sub [(2, (.bool false)), (3, (.bool true)), (5, .pointer (some ⟨N9, 0, none⟩)), (6, .pointer (some ⟨N13, 0, none⟩)), (8, .pointer (some ⟨N21, 0, none⟩)), (10, .pointer (some ⟨N40, 0, none⟩)), (11, .pointer (some ⟨N44, 0, none⟩)), (12, .pointer (some ⟨N45, 0, none⟩)), (87, v_x48), (88, v_x49), (89, (.int .i64 0))] (Pl.subl_cons rfl (Pl.subl_cons rfl (Pl.subl_cons rfl (Pl.subl_cons rfl (Pl.subl_cons rfl (Pl.subl_cons rfl (Pl.subl_cons rfl (Pl.subl_cons rfl (Pl.subl_cons rfl (Pl.subl_cons rfl (Pl.subl_cons rfl Pl.subl_nil))))))))))) (hK _ _ ⟨N44, N45, v_x48, v_x49, rfl, (Ext.below hB20 (Ext.below hB21 (Ext.below hB22 (Ext.below hB23 hB24)))), (Nat.le_trans (Below.size (Ext.below hB20 hB21)) z_N44), i_44__24, (Nat.le_trans (Below.size (Ext.below hB20 (Ext.below hB21 hB22))) z_N45), i_45__24, h_x48, h_x49, (Nat.ne_of_lt (Nat.lt_of_lt_of_le (i_44).1 z_N45))⟩)
      · refine allocI rfl rfl rfl rfl (fun _ k => Ext.below hS21 k) ?_
        intro N44 w22 hB22 z_N44 i_44
        have hS22 := Ext.below hS21 hB22
        refine Pl.pA_end ?_
        refine Pl.G_any [4, 9] 8 (by kernel_rfl) (by kernel_rfl) (by kernel_rfl) (Pl.AllG_cons ?_ (Pl.AllG_cons ?_ Pl.AllG_nil))
        · have h_x43__22 := Zn.below h_x43 hB22
          have h_x8__22 := Zn.below h_x8__17 (Ext.below hB18 (Ext.below hB19 (Ext.below hB20 (Ext.below hB21 hB22))))
          refine Pl.pA_call rfl rfl rfl rfl rfl en14 ?_
          refine Calls.mono (zdiv_D _ _ _ ((c * b) + (a % b)) b h_x43__22 h_x8__22 (Sz.le b_x43 (by decide)) (Sz.le b_b (by decide)) h0 _ _ rfl rfl) ?_
          rintro e w23 ⟨⟨v_x47, v_x48, rfl, h_x47, h_x48⟩, hB23⟩
          have hS23 := Ext.below hS22 hB23
          refine ⟨_, rfl, hS23, ?_⟩
          have b_x47 : Sz (((c * b) + (a % b)) / b) 81 := Sz.div b_x43
          have b_x48 : Sz (((c * b) + (a % b)) % b) 40 := Sz.mod b_b h0
          refine Pl.pA_end ?_
          refine Pl.G_plan [(true, 5, 1055), (true, 6, 1087), (true, 7, 1151), (true, 8, 1279), (false, 9, 1535)] 2047 3 Pl.post_panic (by kernel_rfl) (by kernel_rfl) (by kernel_rfl) ?_
          refine Pl.qA_move hS23 rfl rfl rfl rfl rfl ?_
          refine Pl.qA_extract hS23 rfl rfl rfl rfl rfl rfl ?_
          refine Pl.qA_extract hS23 rfl rfl rfl rfl rfl rfl ?_
          refine Pl.qA_extract hS23 rfl rfl rfl rfl rfl rfl ?_
          refine allocI rfl rfl rfl rfl (fun _ k => Ext.below hS23 k) ?_
          intro N49 w24 hB24 z_N49 i_49
          have hS24 := Ext.below hS23 hB24
          refine Pl.pA_end ?_
          have i_44__24 := Ib.ext i_44 (Ext.below hB23 hB24)
          have h_x47__24 := Zn.below h_x47 hB24
          have h_x48__24 := Zn.below h_x48 hB24
          exact Pl.G_sub [(2, (.bool false)), (3, (.bool true)), (5, .pointer (some ⟨N9, 0, none⟩)), (6, .pointer (some ⟨N13, 0, none⟩)), (8, .pointer (some ⟨N21, 0, none⟩)), (10, .pointer (some ⟨N40, 0, none⟩)), (11, .pointer (some ⟨N49, 0, none⟩)), (12, .pointer (some ⟨N44, 0, none⟩)), (87, v_x47), (88, v_x48), (89, (.int .i64 0))] (Pl.subl_cons rfl (Pl.subl_cons rfl (Pl.subl_cons rfl (Pl.subl_cons rfl (Pl.subl_cons rfl (Pl.subl_cons rfl (Pl.subl_cons rfl (Pl.subl_cons rfl (Pl.subl_cons rfl (Pl.subl_cons rfl (Pl.subl_cons rfl Pl.subl_nil))))))))))) (hK _ _ ⟨N49, N44, v_x47, v_x48, rfl, (Ext.below hB20 (Ext.below hB21 (Ext.below hB22 (Ext.below hB23 hB24)))), (Nat.le_trans (Below.size (Ext.below hB20 (Ext.below hB21 (Ext.below hB22 hB23)))) z_N49), i_49, (Nat.le_trans (Below.size (Ext.below hB20 hB21)) z_N44), i_44__24, h_x47__24, h_x48__24, (Nat.ne_of_gt (Nat.lt_of_lt_of_le (Ib.ext i_44 hB23).1 z_N49))⟩)
        · refine allocI rfl rfl rfl rfl (fun _ k => Ext.below hS22 k) ?_
          intro N45 w23 hB23 z_N45 i_45
          have hS23 := Ext.below hS22 hB23
          refine Pl.pA_end ?_
          refine Pl.G_plan [(false, 4, 1551), (true, 5, 1567), (true, 6, 1599), (true, 7, 1663), (true, 8, 1791)] 2047 3 Pl.post_panic (by kernel_rfl) (by kernel_rfl) (by kernel_rfl) ?_
          have h_x43__23 := Zn.below h_x43 (Ext.below hB22 hB23)
          have h_x8__23 := Zn.below h_x8__17 (Ext.below hB18 (Ext.below hB19 (Ext.below hB20 (Ext.below hB21 (Ext.below hB22 hB23)))))
          refine Pl.pA_call rfl rfl rfl rfl rfl en14 ?_
          refine Calls.mono (zdiv_D _ _ _ ((c * b) + (a % b)) b h_x43__23 h_x8__23 (Sz.le b_x43 (by decide)) (Sz.le b_b (by decide)) h0 _ _ rfl rfl) ?_
          rintro e w24 ⟨⟨v_x48, v_x49, rfl, h_x48, h_x49⟩, hB24⟩
          have hS24 := Ext.below hS23 hB24
          refine ⟨_, rfl, hS24, ?_⟩
          have b_x48 : Sz (((c * b) + (a % b)) / b) 81 := Sz.div b_x43
          have b_x49 : Sz (((c * b) + (a % b)) % b) 40 := Sz.mod b_b h0
          refine Pl.qA_move hS24 rfl rfl rfl rfl rfl ?_
          refine Pl.qA_extract hS24 rfl rfl rfl rfl rfl rfl ?_
          refine Pl.qA_extract hS24 rfl rfl rfl rfl rfl rfl ?_
          refine Pl.qA_extract hS24 rfl rfl rfl rfl rfl rfl ?_
          refine Pl.pA_end ?_
          have i_45__24 := Ib.ext i_45 hB24
          have i_44__24 := Ib.ext i_44 (Ext.below hB23 hB24)
          exact Pl.G_sub [(2, (.bool false)), (3, (.bool true)), (5, .pointer (some ⟨N9, 0, none⟩)), (6, .pointer (some ⟨N13, 0, none⟩)), (8, .pointer (some ⟨N21, 0, none⟩)), (10, .pointer (some ⟨N40, 0, none⟩)), (11, .pointer (some ⟨N45, 0, none⟩)), (12, .pointer (some ⟨N44, 0, none⟩)), (87, v_x48), (88, v_x49), (89, (.int .i64 0))] (Pl.subl_cons rfl (Pl.subl_cons rfl (Pl.subl_cons rfl (Pl.subl_cons rfl (Pl.subl_cons rfl (Pl.subl_cons rfl (Pl.subl_cons rfl (Pl.subl_cons rfl (Pl.subl_cons rfl (Pl.subl_cons rfl (Pl.subl_cons rfl Pl.subl_nil))))))))))) (hK _ _ ⟨N45, N44, v_x48, v_x49, rfl, (Ext.below hB20 (Ext.below hB21 (Ext.below hB22 (Ext.below hB23 hB24)))), (Nat.le_trans (Below.size (Ext.below hB20 (Ext.below hB21 hB22))) z_N45), i_45__24, (Nat.le_trans (Below.size (Ext.below hB20 hB21)) z_N44), i_44__24, h_x48, h_x49, (Nat.ne_of_gt (Nat.lt_of_lt_of_le (i_44).1 z_N45))⟩)
    · refine allocI rfl rfl rfl rfl (fun _ k => Ext.below hS20 k) ?_
      intro N41 w21 hB21 z_N41 i_41
      have hS21 := Ext.below hS20 hB21
      refine Pl.pA_end ?_
      refine Pl.G_any [2, 10] 9 (by kernel_rfl) (by kernel_rfl) (by kernel_rfl) (Pl.AllG_cons ?_ (Pl.AllG_cons ?_ Pl.AllG_nil))
      · have h_x39__21 := Zn.below h_x39 (Ext.below hB19 (Ext.below hB20 hB21))
        have h_x19__21 := Zn.below h_x19__16 (Ext.below hB17 (Ext.below hB18 (Ext.below hB19 (Ext.below hB20 hB21))))
        refine Pl.pA_call rfl rfl rfl rfl rfl en29 ?_
        refine Calls.mono (zadd _ _ _ (c * b) (a % b) h_x39__21 h_x19__21 (Sz.le b_x39 (by decide)) (Sz.le b_x19 (by decide)) _ rfl) ?_
        rintro e w22 ⟨v_x44, rfl, h_x44, hB22⟩
        have hS22 := Ext.below hS21 hB22
        refine ⟨_, rfl, hS22, ?_⟩
        have b_x44 : Sz ((c * b) + (a % b)) 81 := Sz.add b_x39 b_x19 (by decide) (by decide)
        refine Pl.pA_end ?_
        refine Pl.G_any [4, 10] 8 (by kernel_rfl) (by kernel_rfl) (by kernel_rfl) (Pl.AllG_cons ?_ (Pl.AllG_cons ?_ Pl.AllG_nil))
        · have h_x8__22 := Zn.below h_x8__17 (Ext.below hB18 (Ext.below hB19 (Ext.below hB20 (Ext.below hB21 hB22))))
          refine Pl.pA_call rfl rfl rfl rfl rfl en14 ?_
          refine Calls.mono (zdiv_D _ _ _ ((c * b) + (a % b)) b h_x44 h_x8__22 (Sz.le b_x44 (by decide)) (Sz.le b_b (by decide)) h0 _ _ rfl rfl) ?_
          rintro e w23 ⟨⟨v_x46, v_x47, rfl, h_x46, h_x47⟩, hB23⟩
          have hS23 := Ext.below hS22 hB23
          refine ⟨_, rfl, hS23, ?_⟩
          have b_x46 : Sz (((c * b) + (a % b)) / b) 81 := Sz.div b_x44
          have b_x47 : Sz (((c * b) + (a % b)) % b) 40 := Sz.mod b_b h0
          refine Pl.pA_end ?_
          refine Pl.G_plan [(true, 5, 543), (true, 6, 575), (true, 7, 639), (true, 8, 767), (false, 10, 1023)] 2047 3 Pl.post_panic (by kernel_rfl) (by kernel_rfl) (by kernel_rfl) ?_
          refine Pl.qA_move hS23 rfl rfl rfl rfl rfl ?_
          refine Pl.qA_extract hS23 rfl rfl rfl rfl rfl rfl ?_
          refine Pl.qA_extract hS23 rfl rfl rfl rfl rfl rfl ?_
          refine Pl.qA_extract hS23 rfl rfl rfl rfl rfl rfl ?_
          refine allocI rfl rfl rfl rfl (fun _ k => Ext.below hS23 k) ?_
          intro N48 w24 hB24 z_N48 i_48
          have hS24 := Ext.below hS23 hB24
          refine Pl.pA_end ?_
          have i_41__24 := Ib.ext i_41 (Ext.below hB22 (Ext.below hB23 hB24))
          have h_x46__24 := Zn.below h_x46 hB24
          have h_x47__24 := Zn.below h_x47 hB24
          exact Pl.G_sub [(2, (.bool false)), (3, (.bool true)), (5, .pointer (some ⟨N9, 0, none⟩)), (6, .pointer (some ⟨N13, 0, none⟩)), (8, .pointer (some ⟨N21, 0, none⟩)), (10, .pointer (some ⟨N40, 0, none⟩)), (11, .pointer (some ⟨N41, 0, none⟩)), (12, .pointer (some ⟨N48, 0, none⟩)), (87, v_x46), (88, v_x47), (89, (.int .i64 0))] (Pl.subl_cons rfl (Pl.subl_cons rfl (Pl.subl_cons rfl (Pl.subl_cons rfl (Pl.subl_cons rfl (Pl.subl_cons rfl (Pl.subl_cons rfl (Pl.subl_cons rfl (Pl.subl_cons rfl (Pl.subl_cons rfl (Pl.subl_cons rfl Pl.subl_nil))))))))))) (hK _ _ ⟨N41, N48, v_x46, v_x47, rfl, (Ext.below hB20 (Ext.below hB21 (Ext.below hB22 (Ext.below hB23 hB24)))), (Nat.le_trans (Below.size hB20) z_N41), i_41__24, (Nat.le_trans (Below.size (Ext.below hB20 (Ext.below hB21 (Ext.below hB22 hB23)))) z_N48), i_48, h_x46__24, h_x47__24, (Nat.ne_of_lt (Nat.lt_of_lt_of_le (Ib.ext i_41 (Ext.below hB22 hB23)).1 z_N48))⟩)
        · refine allocI rfl rfl rfl rfl (fun _ k => Ext.below hS22 k) ?_
          intro N45 w23 hB23 z_N45 i_45
          have hS23 := Ext.below hS22 hB23
          refine Pl.pA_end ?_
          refine Pl.G_plan [(false, 4, 1551), (true, 5, 1567), (true, 6, 1599), (true, 7, 1663), (true, 8, 1791)] 2047 3 Pl.post_panic (by kernel_rfl) (by kernel_rfl) (by kernel_rfl) ?_
          have h_x44__23 := Zn.below h_x44 hB23
          have h_x8__23 := Zn.below h_x8__17 (Ext.below hB18 (Ext.below hB19 (Ext.below hB20 (Ext.below hB21 (Ext.below hB22 hB23)))))
          refine Pl.pA_call rfl rfl rfl rfl rfl en14 ?_
          refine Calls.mono (zdiv_D _ _ _ ((c * b) + (a % b)) b h_x44__23 h_x8__23 (Sz.le b_x44 (by decide)) (Sz.le b_b (by decide)) h0 _ _ rfl rfl) ?_
          rintro e w24 ⟨⟨v_x48, v_x49, rfl, h_x48, h_x49⟩, hB24⟩
          have hS24 := Ext.below hS23 hB24
          refine ⟨_, rfl, hS24, ?_⟩
          have b_x48 : Sz (((c * b) + (a % b)) / b) 81 := Sz.div b_x44
          have b_x49 : Sz (((c * b) + (a % b)) % b) 40 := Sz.mod b_b h0
          refine Pl.qA_move hS24 rfl rfl rfl rfl rfl ?_
          refine Pl.qA_extract hS24 rfl rfl rfl rfl rfl rfl ?_
          refine Pl.qA_extract hS24 rfl rfl rfl rfl rfl rfl ?_
          refine Pl.qA_extract hS24 rfl rfl rfl rfl rfl rfl ?_
          refine Pl.pA_end ?_
          have i_41__24 := Ib.ext i_41 (Ext.below hB22 (Ext.below hB23 hB24))
          have i_45__24 := Ib.ext i_45 hB24
          exact Pl.G_sub [(2, (.bool false)), (3, (.bool true)), (5, .pointer (some ⟨N9, 0, none⟩)), (6, .pointer (some ⟨N13, 0, none⟩)), (8, .pointer (some ⟨N21, 0, none⟩)), (10, .pointer (some ⟨N40, 0, none⟩)), (11, .pointer (some ⟨N41, 0, none⟩)), (12, .pointer (some ⟨N45, 0, none⟩)), (87, v_x48), (88, v_x49), (89, (.int .i64 0))] (Pl.subl_cons rfl (Pl.subl_cons rfl (Pl.subl_cons rfl (Pl.subl_cons rfl (Pl.subl_cons rfl (Pl.subl_cons rfl (Pl.subl_cons rfl (Pl.subl_cons rfl (Pl.subl_cons rfl (Pl.subl_cons rfl (Pl.subl_cons rfl Pl.subl_nil))))))))))) (hK _ _ ⟨N41, N45, v_x48, v_x49, rfl, (Ext.below hB20 (Ext.below hB21 (Ext.below hB22 (Ext.below hB23 hB24)))), (Nat.le_trans (Below.size hB20) z_N41), i_41__24, (Nat.le_trans (Below.size (Ext.below hB20 (Ext.below hB21 hB22))) z_N45), i_45__24, h_x48, h_x49, (Nat.ne_of_lt (Nat.lt_of_lt_of_le (Ib.ext i_41 hB22).1 z_N45))⟩)
      · refine allocI rfl rfl rfl rfl (fun _ k => Ext.below hS21 k) ?_
        intro N42 w22 hB22 z_N42 i_42
        have hS22 := Ext.below hS21 hB22
        refine Pl.pA_end ?_
        refine Pl.G_plan [(false, 2, 1547), (false, 4, 1551), (true, 5, 1567), (true, 6, 1599), (true, 7, 1663), (true, 8, 1791)] 2047 3 Pl.post_panic (by kernel_rfl) (by kernel_rfl) (by kernel_rfl) ?_
        have h_x39__22 := Zn.below h_x39 (Ext.below hB19 (Ext.below hB20 (Ext.below hB21 hB22)))
        have h_x19__22 := Zn.below h_x19__16 (Ext.below hB17 (Ext.below hB18 (Ext.below hB19 (Ext.below hB20 (Ext.below hB21 hB22)))))
        refine Pl.pA_call rfl rfl rfl rfl rfl en29 ?_
        refine Calls.mono (zadd _ _ _ (c * b) (a % b) h_x39__22 h_x19__22 (Sz.le b_x39 (by decide)) (Sz.le b_x19 (by decide)) _ rfl) ?_
        rintro e w23 ⟨v_x45, rfl, h_x45, hB23⟩
        have hS23 := Ext.below hS22 hB23
        refine ⟨_, rfl, hS23, ?_⟩
        have b_x45 : Sz ((c * b) + (a % b)) 81 := Sz.add b_x39 b_x19 (by decide) (by decide)
        have h_x8__23 := Zn.below h_x8__17 (Ext.below hB18 (Ext.below hB19 (Ext.below hB20 (Ext.below hB21 (Ext.below hB22 hB23)))))
        refine Pl.pA_call rfl rfl rfl rfl rfl en14 ?_
        refine Calls.mono (zdiv_D _ _ _ ((c * b) + (a % b)) b h_x45 h_x8__23 (Sz.le b_x45 (by decide)) (Sz.le b_b (by decide)) h0 _ _ rfl rfl) ?_
        rintro e w24 ⟨⟨v_x47, v_x48, rfl, h_x47, h_x48⟩, hB24⟩
        have hS24 := Ext.below hS23 hB24
        refine ⟨_, rfl, hS24, ?_⟩
        have b_x47 : Sz (((c * b) + (a % b)) / b) 81 := Sz.div b_x45
        have b_x48 : Sz (((c * b) + (a % b)) % b) 40 := Sz.mod b_b h0
        refine Pl.qA_move hS24 rfl rfl rfl rfl rfl ?_
        refine Pl.qA_extract hS24 rfl rfl rfl rfl rfl rfl ?_
        refine Pl.qA_extract hS24 rfl rfl rfl rfl rfl rfl ?_
        refine Pl.qA_extract hS24 rfl rfl rfl rfl rfl rfl ?_
        refine Pl.pA_end ?_
        have i_41__24 := Ib.ext i_41 (Ext.below hB22 (Ext.below hB23 hB24))
        have i_42__24 := Ib.ext i_42 (Ext.below hB23 hB24)
        exact Pl.G_sub [(2, (.bool false)), (3, (.bool true)), (5, .pointer (some ⟨N9, 0, none⟩)), (6, .pointer (some ⟨N13, 0, none⟩)), (8, .pointer (some ⟨N21, 0, none⟩)), (10, .pointer (some ⟨N40, 0, none⟩)), (11, .pointer (some ⟨N41, 0, none⟩)), (12, .pointer (some ⟨N42, 0, none⟩)), (87, v_x47), (88, v_x48), (89, (.int .i64 0))] (Pl.subl_cons rfl (Pl.subl_cons rfl (Pl.subl_cons rfl (Pl.subl_cons rfl (Pl.subl_cons rfl (Pl.subl_cons rfl (Pl.subl_cons rfl (Pl.subl_cons rfl (Pl.subl_cons rfl (Pl.subl_cons rfl (Pl.subl_cons rfl Pl.subl_nil))))))))))) (hK _ _ ⟨N41, N42, v_x47, v_x48, rfl, (Ext.below hB20 (Ext.below hB21 (Ext.below hB22 (Ext.below hB23 hB24)))), (Nat.le_trans (Below.size hB20) z_N41), i_41__24, (Nat.le_trans (Below.size (Ext.below hB20 hB21)) z_N42), i_42__24, h_x47, h_x48, (Nat.ne_of_lt (Nat.lt_of_lt_of_le (i_41).1 z_N42))⟩)
    · refine allocI rfl rfl rfl rfl (fun _ k => Ext.below hS20 k) ?_
      intro N41 w21 hB21 z_N41 i_41
      have hS21 := Ext.below hS20 hB21
      refine Pl.pA_end ?_
      refine Pl.G_any [2, 9] 9 (by kernel_rfl) (by kernel_rfl) (by kernel_rfl) (Pl.AllG_cons ?_ (Pl.AllG_cons ?_ Pl.AllG_nil))
      · have h_x39__21 := Zn.below h_x39 (Ext.below hB19 (Ext.below hB20 hB21))
        have h_x19__21 := Zn.below h_x19__16 (Ext.below hB17 (Ext.below hB18 (Ext.below hB19 (Ext.below hB20 hB21))))
        refine Pl.pA_call rfl rfl rfl rfl rfl en29 ?_
        refine Calls.mono (zadd _ _ _ (c * b) (a % b) h_x39__21 h_x19__21 (Sz.le b_x39 (by decide)) (Sz.le b_x19 (by decide)) _ rfl) ?_
        rintro e w22 ⟨v_x44, rfl, h_x44, hB22⟩
        have hS22 := Ext.below hS21 hB22
        refine ⟨_, rfl, hS22, ?_⟩
        have b_x44 : Sz ((c * b) + (a % b)) 81 := Sz.add b_x39 b_x19 (by decide) (by decide)
        refine Pl.pA_end ?_
        refine Pl.G_any [4, 9] 8 (by kernel_rfl) (by kernel_rfl) (by kernel_rfl) (Pl.AllG_cons ?_ (Pl.AllG_cons ?_ Pl.AllG_nil))
        · have h_x8__22 := Zn.below h_x8__17 (Ext.below hB18 (Ext.below hB19 (Ext.below hB20 (Ext.below hB21 hB22))))
          refine Pl.pA_call rfl rfl rfl rfl rfl en14 ?_
          refine Calls.mono (zdiv_D _ _ _ ((c * b) + (a % b)) b h_x44 h_x8__22 (Sz.le b_x44 (by decide)) (Sz.le b_b (by decide)) h0 _ _ rfl rfl) ?_
          rintro e w23 ⟨⟨v_x46, v_x47, rfl, h_x46, h_x47⟩, hB23⟩
          have hS23 := Ext.below hS22 hB23
          refine ⟨_, rfl, hS23, ?_⟩
          have b_x46 : Sz (((c * b) + (a % b)) / b) 81 := Sz.div b_x44
          have b_x47 : Sz (((c * b) + (a % b)) % b) 40 := Sz.mod b_b h0
          refine Pl.pA_end ?_
          refine Pl.G_plan [(true, 5, 1055), (true, 6, 1087), (true, 7, 1151), (true, 8, 1279), (false, 9, 1535)] 2047 3 Pl.post_panic (by kernel_rfl) (by kernel_rfl) (by kernel_rfl) ?_
          refine Pl.qA_move hS23 rfl rfl rfl rfl rfl ?_
          refine Pl.qA_extract hS23 rfl rfl rfl rfl rfl rfl ?_
          refine Pl.qA_extract hS23 rfl rfl rfl rfl rfl rfl ?_
          refine Pl.qA_extract hS23 rfl rfl rfl rfl rfl rfl ?_
          refine allocI rfl rfl rfl rfl (fun _ k => Ext.below hS23 k) ?_
          intro N48 w24 hB24 z_N48 i_48
          have hS24 := Ext.below hS23 hB24
          refine Pl.pA_end ?_
          have i_41__24 := Ib.ext i_41 (Ext.below hB22 (Ext.below hB23 hB24))
          have h_x46__24 := Zn.below h_x46 hB24
          have h_x47__24 := Zn.below h_x47 hB24
          exact Pl.G_sub [(2, (.bool false)), (3, (.bool true)), (5, .pointer (some ⟨N9, 0, none⟩)), (6, .pointer (some ⟨N13, 0, none⟩)), (8, .pointer (some ⟨N21, 0, none⟩)), (10, .pointer (some ⟨N40, 0, none⟩)), (11, .pointer (some ⟨N48, 0, none⟩)), (12, .pointer (some ⟨N41, 0, none⟩)), (87, v_x46), (88, v_x47), (89, (.int .i64 0))] (Pl.subl_cons rfl (Pl.subl_cons rfl (Pl.subl_cons rfl (Pl.subl_cons rfl (Pl.subl_cons rfl (Pl.subl_cons rfl (Pl.subl_cons rfl (Pl.subl_cons rfl (Pl.subl_cons rfl (Pl.subl_cons rfl (Pl.subl_cons rfl Pl.subl_nil))))))))))) (hK _ _ ⟨N48, N41, v_x46, v_x47, rfl, (Ext.below hB20 (Ext.below hB21 (Ext.below hB22 (Ext.below hB23 hB24)))), (Nat.le_trans (Below.size (Ext.below hB20 (Ext.below hB21 (Ext.below hB22 hB23)))) z_N48), i_48, (Nat.le_trans (Below.size hB20) z_N41), i_41__24, h_x46__24, h_x47__24, (Nat.ne_of_gt (Nat.lt_of_lt_of_le (Ib.ext i_41 (Ext.below hB22 hB23)).1 z_N48))⟩)
        · refine allocI rfl rfl rfl rfl (fun _ k => Ext.below hS22 k) ?_
          intro N45 w23 hB23 z_N45 i_45
          have hS23 := Ext.below hS22 hB23
          refine Pl.pA_end ?_
          refine Pl.G_plan [(false, 4, 1551), (true, 5, 1567), (true, 6, 1599), (true, 7, 1663), (true, 8, 1791)] 2047 3 Pl.post_panic (by kernel_rfl) (by kernel_rfl) (by kernel_rfl) ?_
          have h_x44__23 := Zn.below h_x44 hB23
          have h_x8__23 := Zn.below h_x8__17 (Ext.below hB18 (Ext.below hB19 (Ext.below hB20 (Ext.below hB21 (Ext.below hB22 hB23)))))
          refine Pl.pA_call rfl rfl rfl rfl rfl en14 ?_
          refine Calls.mono (zdiv_D _ _ _ ((c * b) + (a % b)) b h_x44__23 h_x8__23 (Sz.le b_x44 (by decide)) (Sz.le b_b (by decide)) h0 _ _ rfl rfl) ?_
          rintro e w24 ⟨⟨v_x48, v_x49, rfl, h_x48, h_x49⟩, hB24⟩
          have hS24 := Ext.below hS23 hB24
          refine ⟨_, rfl, hS24, ?_⟩
          have b_x48 : Sz (((c * b) + (a % b)) / b) 81 := Sz.div b_x44
          have b_x49 : Sz (((c * b) + (a % b)) % b) 40 := Sz.mod b_b h0
          refine Pl.qA_move hS24 rfl rfl rfl rfl rfl ?_
          refine Pl.qA_extract hS24 rfl rfl rfl rfl rfl rfl ?_
          refine Pl.qA_extract hS24 rfl rfl rfl rfl rfl rfl ?_
          refine Pl.qA_extract hS24 rfl rfl rfl rfl rfl rfl ?_
          refine Pl.pA_end ?_
          have i_45__24 := Ib.ext i_45 hB24
          have i_41__24 := Ib.ext i_41 (Ext.below hB22 (Ext.below hB23 hB24))
          exact Pl.G_sub [(2, (.bool false)), (3, (.bool true)), (5, .pointer (some ⟨N9, 0, none⟩)), (6, .pointer (some ⟨N13, 0, none⟩)), (8, .pointer (some ⟨N21, 0, none⟩)), (10, .pointer (some ⟨N40, 0, none⟩)), (11, .pointer (some ⟨N45, 0, none⟩)), (12, .pointer (some ⟨N41, 0, none⟩)), (87, v_x48), (88, v_x49), (89, (.int .i64 0))] (Pl.subl_cons rfl (Pl.subl_cons rfl (Pl.subl_cons rfl (Pl.subl_cons rfl (Pl.subl_cons rfl (Pl.subl_cons rfl (Pl.subl_cons rfl (Pl.subl_cons rfl (Pl.subl_cons rfl (Pl.subl_cons rfl (Pl.subl_cons rfl Pl.subl_nil))))))))))) (hK _ _ ⟨N45, N41, v_x48, v_x49, rfl, (Ext.below hB20 (Ext.below hB21 (Ext.below hB22 (Ext.below hB23 hB24)))), (Nat.le_trans (Below.size (Ext.below hB20 (Ext.below hB21 hB22))) z_N45), i_45__24, (Nat.le_trans (Below.size hB20) z_N41), i_41__24, h_x48, h_x49, (Nat.ne_of_gt (Nat.lt_of_lt_of_le (Ib.ext i_41 hB22).1 z_N45))⟩)
      · refine allocI rfl rfl rfl rfl (fun _ k => Ext.below hS21 k) ?_
        intro N42 w22 hB22 z_N42 i_42
        have hS22 := Ext.below hS21 hB22
        refine Pl.pA_end ?_
        refine Pl.G_plan [(false, 2, 1547), (false, 4, 1551), (true, 5, 1567), (true, 6, 1599), (true, 7, 1663), (true, 8, 1791)] 2047 3 Pl.post_panic (by kernel_rfl) (by kernel_rfl) (by kernel_rfl) ?_
        have h_x39__22 := Zn.below h_x39 (Ext.below hB19 (Ext.below hB20 (Ext.below hB21 hB22)))
        have h_x19__22 := Zn.below h_x19__16 (Ext.below hB17 (Ext.below hB18 (Ext.below hB19 (Ext.below hB20 (Ext.below hB21 hB22)))))
        refine Pl.pA_call rfl rfl rfl rfl rfl en29 ?_
        refine Calls.mono (zadd _ _ _ (c * b) (a % b) h_x39__22 h_x19__22 (Sz.le b_x39 (by decide)) (Sz.le b_x19 (by decide)) _ rfl) ?_
        rintro e w23 ⟨v_x45, rfl, h_x45, hB23⟩
        have hS23 := Ext.below hS22 hB23
        refine ⟨_, rfl, hS23, ?_⟩
        have b_x45 : Sz ((c * b) + (a % b)) 81 := Sz.add b_x39 b_x19 (by decide) (by decide)
        have h_x8__23 := Zn.below h_x8__17 (Ext.below hB18 (Ext.below hB19 (Ext.below hB20 (Ext.below hB21 (Ext.below hB22 hB23)))))
        refine Pl.pA_call rfl rfl rfl rfl rfl en14 ?_
        refine Calls.mono (zdiv_D _ _ _ ((c * b) + (a % b)) b h_x45 h_x8__23 (Sz.le b_x45 (by decide)) (Sz.le b_b (by decide)) h0 _ _ rfl rfl) ?_
        rintro e w24 ⟨⟨v_x47, v_x48, rfl, h_x47, h_x48⟩, hB24⟩
        have hS24 := Ext.below hS23 hB24
        refine ⟨_, rfl, hS24, ?_⟩
        have b_x47 : Sz (((c * b) + (a % b)) / b) 81 := Sz.div b_x45
        have b_x48 : Sz (((c * b) + (a % b)) % b) 40 := Sz.mod b_b h0
        refine Pl.qA_move hS24 rfl rfl rfl rfl rfl ?_
        refine Pl.qA_extract hS24 rfl rfl rfl rfl rfl rfl ?_
        refine Pl.qA_extract hS24 rfl rfl rfl rfl rfl rfl ?_
        refine Pl.qA_extract hS24 rfl rfl rfl rfl rfl rfl ?_
        refine Pl.pA_end ?_
        have i_42__24 := Ib.ext i_42 (Ext.below hB23 hB24)
        have i_41__24 := Ib.ext i_41 (Ext.below hB22 (Ext.below hB23 hB24))
        exact Pl.G_sub [(2, (.bool false)), (3, (.bool true)), (5, .pointer (some ⟨N9, 0, none⟩)), (6, .pointer (some ⟨N13, 0, none⟩)), (8, .pointer (some ⟨N21, 0, none⟩)), (10, .pointer (some ⟨N40, 0, none⟩)), (11, .pointer (some ⟨N42, 0, none⟩)), (12, .pointer (some ⟨N41, 0, none⟩)), (87, v_x47), (88, v_x48), (89, (.int .i64 0))] (Pl.subl_cons rfl (Pl.subl_cons rfl (Pl.subl_cons rfl (Pl.subl_cons rfl (Pl.subl_cons rfl (Pl.subl_cons rfl (Pl.subl_cons rfl (Pl.subl_cons rfl (Pl.subl_cons rfl (Pl.subl_cons rfl (Pl.subl_cons rfl Pl.subl_nil))))))))))) (hK _ _ ⟨N42, N41, v_x47, v_x48, rfl, (Ext.below hB20 (Ext.below hB21 (Ext.below hB22 (Ext.below hB23 hB24)))), (Nat.le_trans (Below.size (Ext.below hB20 hB21)) z_N42), i_42__24, (Nat.le_trans (Below.size hB20) z_N41), i_41__24, h_x47, h_x48, (Nat.ne_of_gt (Nat.lt_of_lt_of_le (i_41).1 z_N42))⟩)
  rintro _ w120 ⟨N11_120, N12_120, v_y87_120, v_y88_120, rfl, hB120, z_N11_120, i_N11_120, z_N12_120, i_N12_120, h_y87_120, h_y88_120, ne_N11_120_N12_120⟩
  have hS120 := hB120
  have b_x43 : Sz ((c * b) + (a % b)) 81 := Sz.add b_x39 b_x19 (by decide) (by decide)
  have b_x45 : Sz (((c * b) + (a % b)) / b) 81 := Sz.div b_x43
  have b_x46 : Sz (((c * b) + (a % b)) % b) 40 := Sz.mod b_b h0
  refine Pl.G_plan [(false, 11, 2047), (false, 12, 4095), (true, 13, 8191)] 16383 0 Pl.post_panic (by kernel_rfl) (by kernel_rfl) (by kernel_rfl) ?_
  obtain ⟨p_y87_120, A_y87_120, L_y87_120, c_y87_120, rfl⟩ := Zn.sh h_y87_120
  refine storeI rfl rfl rfl rfl rfl rfl i_N11_120 (fun _ T => T _ hS120 (Nat.le_trans (Below.size (Ext.refl w19)) z_N11_120)) ?_
  intro w121 T1_121 T2_121 T3_121 I_121
  have hB121 := T1_121 _ hB120 (Nat.le_trans (Below.size (Ext.refl w19)) z_N11_120)
  have hS121 := T1_121 _ hS120 (Nat.le_trans (Below.size (Ext.refl w19)) z_N11_120)
  have i_N12_120__121 := T3_121 _ _ _ (Ne.symm ne_N11_120_N12_120) i_N12_120
  have h_y87_120__121 := T2_121 _ _ h_y87_120
  have h_y88_120__121 := T2_121 _ _ h_y88_120
  obtain ⟨p_y88_120, A_y88_120, L_y88_120, c_y88_120, rfl⟩ := Zn.sh h_y88_120__121
  refine storeI rfl rfl rfl rfl rfl rfl i_N12_120__121 (fun _ T => T _ hS121 (Nat.le_trans (Below.size (Ext.refl w19)) z_N12_120)) ?_
  intro w122 T1_122 T2_122 T3_122 I_122
  have hB122 := T1_122 _ hB121 (Nat.le_trans (Below.size (Ext.refl w19)) z_N12_120)
  have hS122 := T1_122 _ hS121 (Nat.le_trans (Below.size (Ext.refl w19)) z_N12_120)
  have h_y87_120__122 := T2_122 _ _ h_y87_120__121
  have I_121__122 := T3_122 _ _ _ ne_N11_120_N12_120 I_121
  have h_y88_120__122 := T2_122 _ _ h_y88_120__121
  refine Pl.qA_assign hS122 rfl rfl rfl rfl rfl ?_
  refine Pl.pA_end ?_
  refine Pl.G_V (by kernel_rfl) ?_
  refine Pl.V_seq ?_
  refine Pl.V_region (by kernel_rfl) ?_
  have i_40__122 := Ib.ext i_40 hB122
  refine Pl.qA_loadw trivial rfl rfl rfl rfl rfl (Ib.load i_40__122) ?_
  have i_9__122 := Ib.ext i_9__17 (Ext.below hB18 (Ext.below hB19 hB122))
  refine Pl.qA_loadw trivial rfl rfl rfl rfl rfl (Ib.load i_9__122) ?_
  have h_x39__122 := Zn.below h_x39 (Ext.below hB19 hB122)
  have h_x8__122 := Zn.below h_x8__17 (Ext.below hB18 (Ext.below hB19 hB122))
  refine Pl.pA_call rfl rfl rfl rfl rfl en16 ?_
  refine Calls.mono (zexact_yes _ _ _ (c * b) b h_x39__122 h_x8__122 (Sz.le b_x39 (by decide)) (Sz.le b_b (by decide)) h0 (Int.mul_emod_left c b) _ rfl) ?_
  rintro e w123 ⟨v_x106, rfl, h_x106, hB123⟩
  refine ⟨_, rfl, trivial, ?_⟩
  have b_x106 : Sz ((c * b) / b) 80 := Sz.div b_x39
  refine Pl.qA_move trivial rfl rfl rfl rfl rfl ?_
  refine Pl.qA_extract trivial rfl rfl rfl rfl rfl rfl ?_
  refine Pl.qA_extract trivial rfl rfl rfl rfl rfl rfl ?_
  obtain ⟨p_x106, A_x106, L_x106, c_x106, rfl⟩ := Zn.sh h_x106
  refine boxI rfl rfl rfl rfl rfl rfl rfl rfl (fun _ => rfl) (fun _ _ => trivial) ?_
  intro N107 w124 hB124 i_107
  refine Pl.qA_assign trivial rfl rfl rfl rfl rfl ?_
  refine Pl.pA_end ?_
  refine Pl.V_seq ?_
  refine Pl.V_drawG (S := fun X => Ext w124 X) fo (Ext.drew (Ext.refl _)) ?_
  generalize w124.drew = w125
  intro hB125
  have hS125 := hB125
  refine Pl.G_cut 2 511 (fun l' w' => ∃ (N_16 : Nat), l' = [(2, (.bool false)), (3, (.bool true)), (6, .pointer (some ⟨N13, 0, none⟩)), (8, .pointer (some ⟨N21, 0, none⟩)), (11, .pointer (some ⟨N11_120, 0, none⟩)), (12, .pointer (some ⟨N12_120, 0, none⟩)), (13, (.int .i64 0)), (14, .pointer (some ⟨N107, 0, none⟩)), (15, (.bool true)), (16, .pointer (some ⟨N_16, 0, none⟩)), (102, .agg #[.bool false, .slice none 0 0]), (103, (.bool false))] ∧ Ext w124 w' ∧ w124.heap.size ≤ N_16 ∧ Ib w' N_16 false (.slice none 0 0)) ?_ ?_
  rotate_left
  · intro hK
    refine Pl.G_plan [(true, 0, 0), (true, 1, 1), (true, 3, 3)] 11 8 Pl.post_panic (by kernel_rfl) (by kernel_rfl) (by kernel_rfl) ?_
    have i_40__124 := Ib.ext i_40__122 (Ext.below hB123 hB124)
    refine Pl.qA_load hS125 rfl rfl rfl rfl rfl (fun X hX => Ib.load (Ib.ext i_40__124 hX)) ?_
    have i_21__124 := Ib.ext i_21__11 (Ext.below hB12 (Ext.below hB13 (Ext.below hB14 (Ext.below hB15 (Ext.below hB16 (Ext.below hB17 (Ext.below hB18 (Ext.below hB19 (Ext.below hB122 (Ext.below hB123 hB124))))))))))
    refine Pl.qA_load hS125 rfl rfl rfl rfl rfl (fun X hX => Ib.load (Ib.ext i_21__124 hX)) ?_
    have i_9__124 := Ib.ext i_9__122 (Ext.below hB123 hB124)
    refine Pl.qA_load hS125 rfl rfl rfl rfl rfl (fun X hX => Ib.load (Ib.ext i_9__124 hX)) ?_
    refine Pl.pA_end ?_
    refine Pl.G_any [2, 8] 7 (by kernel_rfl) (by kernel_rfl) (by kernel_rfl) (Pl.AllG_cons ?_ (Pl.AllG_cons ?_ Pl.AllG_nil))
    · have h_x39__125 := Zn.below h_x39__122 (Ext.below hB123 (Ext.below hB124 hB125))
      have h_x19__125 := Zn.below h_x19__16 (Ext.below hB17 (Ext.below hB18 (Ext.below hB19 (Ext.below hB122 (Ext.below hB123 (Ext.below hB124 hB125))))))
      refine Pl.pA_call rfl rfl rfl rfl rfl en29 ?_
      refine Calls.mono (zadd _ _ _ (c * b) (a % b) h_x39__125 h_x19__125 (Sz.le b_x39 (by decide)) (Sz.le b_x19 (by decide)) _ rfl) ?_
      rintro e w126 ⟨v_x110, rfl, h_x110, hB126⟩
      have hS126 := Ext.below hS125 hB126
      refine ⟨_, rfl, hS126, ?_⟩
      have b_x110 : Sz ((c * b) + (a % b)) 81 := Sz.add b_x39 b_x19 (by decide) (by decide)
      refine Pl.pA_end ?_
      refine Pl.G_any [4, 8] 6 (by kernel_rfl) (by kernel_rfl) (by kernel_rfl) (Pl.AllG_cons ?_ (Pl.AllG_cons ?_ Pl.AllG_nil))
      · have h_x8__126 := Zn.below h_x8__122 (Ext.below hB123 (Ext.below hB124 (Ext.below hB125 hB126)))
        refine Pl.pA_call rfl rfl rfl rfl rfl en16 ?_
        refine Calls.mono (zexact_no _ _ _ ((c * b) + (a % b)) b h_x110 h_x8__126 (Sz.le b_x110 (by decide)) (Sz.le b_b (by decide)) (Or.inr (fun h => hr ((rest_of c a b).symm.trans h)))) ?_
        rintro e w127 ⟨rfl, hB127⟩
        have hS127 := Ext.below hS126 hB127
        refine ⟨_, rfl, hS127, ?_⟩
        refine Pl.pA_end ?_
        refine Pl.G_plan [(true, 5, 31), (true, 6, 63), (true, 7, 127), (false, 8, 255)] 511 2 Pl.post_panic (by kernel_rfl) (by kernel_rfl) (by kernel_rfl) ?_
        refine Pl.qA_move hS127 rfl rfl rfl rfl rfl ?_
        refine Pl.qA_extract hS127 rfl rfl rfl rfl rfl rfl ?_
        refine Pl.qA_extract hS127 rfl rfl rfl rfl rfl rfl ?_
        refine allocI rfl rfl rfl rfl (fun _ k => Ext.below hS127 k) ?_
        intro N112 w128 hB128 z_N112 i_112
        have hS128 := Ext.below hS127 hB128
        refine Pl.pA_end ?_
        exact Pl.G_sub [(2, (.bool false)), (3, (.bool true)), (6, .pointer (some ⟨N13, 0, none⟩)), (8, .pointer (some ⟨N21, 0, none⟩)), (11, .pointer (some ⟨N11_120, 0, none⟩)), (12, .pointer (some ⟨N12_120, 0, none⟩)), (13, (.int .i64 0)), (14, .pointer (some ⟨N107, 0, none⟩)), (15, (.bool true)), (16, .pointer (some ⟨N112, 0, none⟩)), (102, .agg #[.bool false, .slice none 0 0]), (103, (.bool false))] (Pl.subl_cons rfl (Pl.subl_cons rfl (Pl.subl_cons rfl (Pl.subl_cons rfl (Pl.subl_cons rfl (Pl.subl_cons rfl (Pl.subl_cons rfl (Pl.subl_cons rfl (Pl.subl_cons rfl (Pl.subl_cons rfl (Pl.subl_cons rfl (Pl.subl_cons rfl Pl.subl_nil)))))))))))) (hK _ _ ⟨N112, rfl, (Ext.below hB125 (Ext.below hB126 (Ext.below hB127 hB128))), (Nat.le_trans (Below.size (Ext.below hB125 (Ext.below hB126 hB127))) z_N112), i_112⟩)
      · refine allocI rfl rfl rfl rfl (fun _ k => Ext.below hS126 k) ?_
        intro N111 w127 hB127 z_N111 i_111
        have hS127 := Ext.below hS126 hB127
        refine Pl.pA_end ?_
        refine Pl.G_plan [(false, 4, 271), (true, 5, 287), (true, 6, 319), (true, 7, 383)] 511 2 Pl.post_panic (by kernel_rfl) (by kernel_rfl) (by kernel_rfl) ?_
        have h_x110__127 := Zn.below h_x110 hB127
        have h_x8__127 := Zn.below h_x8__122 (Ext.below hB123 (Ext.below hB124 (Ext.below hB125 (Ext.below hB126 hB127))))
        refine Pl.pA_call rfl rfl rfl rfl rfl en16 ?_
        refine Calls.mono (zexact_no _ _ _ ((c * b) + (a % b)) b h_x110__127 h_x8__127 (Sz.le b_x110 (by decide)) (Sz.le b_b (by decide)) (Or.inr (fun h => hr ((rest_of c a b).symm.trans h)))) ?_
        rintro e w128 ⟨rfl, hB128⟩
        have hS128 := Ext.below hS127 hB128
        refine ⟨_, rfl, hS128, ?_⟩
        refine Pl.qA_move hS128 rfl rfl rfl rfl rfl ?_
        refine Pl.qA_extract hS128 rfl rfl rfl rfl rfl rfl ?_
        refine Pl.qA_extract hS128 rfl rfl rfl rfl rfl rfl ?_
        refine Pl.pA_end ?_
        have i_111__128 := Ib.ext i_111 hB128
        exact Pl.G_sub [(2, (.bool false)), (3, (.bool true)), (6, .pointer (some ⟨N13, 0, none⟩)), (8, .pointer (some ⟨N21, 0, none⟩)), (11, .pointer (some ⟨N11_120, 0, none⟩)), (12, .pointer (some ⟨N12_120, 0, none⟩)), (13, (.int .i64 0)), (14, .pointer (some ⟨N107, 0, none⟩)), (15, (.bool true)), (16, .pointer (some ⟨N111, 0, none⟩)), (102, .agg #[.bool false, .slice none 0 0]), (103, (.bool false))] (Pl.subl_cons rfl (Pl.subl_cons rfl (Pl.subl_cons rfl (Pl.subl_cons rfl (Pl.subl_cons rfl (Pl.subl_cons rfl (Pl.subl_cons rfl (Pl.subl_cons rfl (Pl.subl_cons rfl (Pl.subl_cons rfl (Pl.subl_cons rfl (Pl.subl_cons rfl Pl.subl_nil)))))))))))) (hK _ _ ⟨N111, rfl, (Ext.below hB125 (Ext.below hB126 (Ext.below hB127 hB128))), (Nat.le_trans (Below.size (Ext.below hB125 hB126)) z_N111), i_111__128⟩)
    · refine allocI rfl rfl rfl rfl (fun _ k => Ext.below hS125 k) ?_
      intro N108 w126 hB126 z_N108 i_108
      have hS126 := Ext.below hS125 hB126
      refine Pl.pA_end ?_
      refine Pl.G_plan [(false, 2, 267), (false, 4, 271), (true, 5, 287), (true, 6, 319), (true, 7, 383)] 511 2 Pl.post_panic (by kernel_rfl) (by kernel_rfl) (by kernel_rfl) ?_
      have h_x39__126 := Zn.below h_x39__122 (Ext.below hB123 (Ext.below hB124 (Ext.below hB125 hB126)))
      have h_x19__126 := Zn.below h_x19__16 (Ext.below hB17 (Ext.below hB18 (Ext.below hB19 (Ext.below hB122 (Ext.below hB123 (Ext.below hB124 (Ext.below hB125 hB126)))))))
      refine Pl.pA_call rfl rfl rfl rfl rfl en29 ?_
      refine Calls.mono (zadd _ _ _ (c * b) (a % b) h_x39__126 h_x19__126 (Sz.le b_x39 (by decide)) (Sz.le b_x19 (by decide)) _ rfl) ?_
      rintro e w127 ⟨v_x111, rfl, h_x111, hB127⟩
      have hS127 := Ext.below hS126 hB127
      refine ⟨_, rfl, hS127, ?_⟩
      have b_x111 : Sz ((c * b) + (a % b)) 81 := Sz.add b_x39 b_x19 (by decide) (by decide)
      have h_x8__127 := Zn.below h_x8__122 (Ext.below hB123 (Ext.below hB124 (Ext.below hB125 (Ext.below hB126 hB127))))
      refine Pl.pA_call rfl rfl rfl rfl rfl en16 ?_
      refine Calls.mono (zexact_no _ _ _ ((c * b) + (a % b)) b h_x111 h_x8__127 (Sz.le b_x111 (by decide)) (Sz.le b_b (by decide)) (Or.inr (fun h => hr ((rest_of c a b).symm.trans h)))) ?_
      rintro e w128 ⟨rfl, hB128⟩
      have hS128 := Ext.below hS127 hB128
      refine ⟨_, rfl, hS128, ?_⟩
      refine Pl.qA_move hS128 rfl rfl rfl rfl rfl ?_
      refine Pl.qA_extract hS128 rfl rfl rfl rfl rfl rfl ?_
      refine Pl.qA_extract hS128 rfl rfl rfl rfl rfl rfl ?_
      refine Pl.pA_end ?_
      have i_108__128 := Ib.ext i_108 (Ext.below hB127 hB128)
      exact Pl.G_sub [(2, (.bool false)), (3, (.bool true)), (6, .pointer (some ⟨N13, 0, none⟩)), (8, .pointer (some ⟨N21, 0, none⟩)), (11, .pointer (some ⟨N11_120, 0, none⟩)), (12, .pointer (some ⟨N12_120, 0, none⟩)), (13, (.int .i64 0)), (14, .pointer (some ⟨N107, 0, none⟩)), (15, (.bool true)), (16, .pointer (some ⟨N108, 0, none⟩)), (102, .agg #[.bool false, .slice none 0 0]), (103, (.bool false))] (Pl.subl_cons rfl (Pl.subl_cons rfl (Pl.subl_cons rfl (Pl.subl_cons rfl (Pl.subl_cons rfl (Pl.subl_cons rfl (Pl.subl_cons rfl (Pl.subl_cons rfl (Pl.subl_cons rfl (Pl.subl_cons rfl (Pl.subl_cons rfl (Pl.subl_cons rfl Pl.subl_nil)))))))))))) (hK _ _ ⟨N108, rfl, (Ext.below hB125 (Ext.below hB126 (Ext.below hB127 hB128))), (Nat.le_trans (Below.size hB125) z_N108), i_108__128⟩)
  rintro _ w225 ⟨N16_225, rfl, hB225, z_N16_225, i_N16_225⟩
  have hS225 := hB225
  have b_x110 : Sz ((c * b) + (a % b)) 81 := Sz.add b_x39 b_x19 (by decide) (by decide)
  refine Pl.G_plan [(false, 9, 511), (true, 10, 1023)] 2047 0 Pl.post_panic (by kernel_rfl) (by kernel_rfl) (by kernel_rfl) ?_
  refine storeI rfl rfl rfl rfl rfl rfl i_N16_225 (fun _ T => T _ hS225 (Nat.le_trans (Below.size (Ext.refl w124)) z_N16_225)) ?_
  intro w226 T1_226 T2_226 T3_226 I_226
  have hB226 := T1_226 _ hB225 (Nat.le_trans (Below.size (Ext.refl w124)) z_N16_225)
  have hS226 := T1_226 _ hS225 (Nat.le_trans (Below.size (Ext.refl w124)) z_N16_225)
  refine Pl.qA_assign hS226 rfl rfl rfl rfl rfl ?_
  refine Pl.pA_end ?_
  refine Pl.G_V (by kernel_rfl) ?_
  refine Pl.V_seq ?_
  refine Pl.V_region (by kernel_rfl) ?_
  refine Pl.qA_move trivial rfl rfl rfl rfl rfl ?_
  refine Pl.qA_move trivial rfl rfl rfl rfl rfl ?_
  refine Pl.qA_move trivial rfl rfl rfl rfl rfl ?_
  refine Pl.qA_bin (v := (.bool true)) trivial rfl rfl rfl rfl rfl rfl (fun X => by go_simp) ?_
  refine Pl.qA_pick trivial rfl rfl rfl rfl rfl rfl ?_
  refine Pl.qA_move trivial rfl rfl rfl rfl rfl ?_
  have I_121__226 := Ib.ext I_121__122 (Ext.below hB123 (Ext.below hB124 hB226))
  refine Pl.qA_loadw trivial rfl rfl rfl rfl rfl (Ib.load I_121__226) ?_
  have i_13__226 := Ib.ext i_13__17 (Ext.below hB18 (Ext.below hB19 (Ext.below hB122 (Ext.below hB123 (Ext.below hB124 hB226)))))
  refine Pl.qA_loadw trivial rfl rfl rfl rfl rfl (Ib.load i_13__226) ?_
  have h_y87_120__226 := Zn.below h_y87_120__122 (Ext.below hB123 (Ext.below hB124 hB226))
  have h_x12__226 := Zn.below h_x12__17 (Ext.below hB18 (Ext.below hB19 (Ext.below hB122 (Ext.below hB123 (Ext.below hB124 hB226)))))
  refine Pl.pA_call rfl rfl rfl rfl rfl en20 ?_
  refine Calls.mono (rzsame _ _ _ (((c * b) + (a % b)) / b) c h_y87_120__226 h_x12__226 (Sz.le b_x45 (by decide)) (Sz.le b_c (by decide)) true (decide_eq_true (quo_of c a h0))) ?_
  rintro e w227 ⟨rfl, hB227⟩
  refine ⟨_, rfl, trivial, ?_⟩
  refine Pl.qA_pick trivial rfl rfl rfl rfl rfl rfl ?_
  refine Pl.qA_move trivial rfl rfl rfl rfl rfl ?_
  have I_122__227 := Ib.ext I_122 (Ext.below hB123 (Ext.below hB124 (Ext.below hB226 hB227)))
  refine Pl.qA_loadw trivial rfl rfl rfl rfl rfl (Ib.load I_122__227) ?_
  have i_21__227 := Ib.ext i_21__11 (Ext.below hB12 (Ext.below hB13 (Ext.below hB14 (Ext.below hB15 (Ext.below hB16 (Ext.below hB17 (Ext.below hB18 (Ext.below hB19 (Ext.below hB122 (Ext.below hB123 (Ext.below hB124 (Ext.below hB226 hB227))))))))))))
  refine Pl.qA_loadw trivial rfl rfl rfl rfl rfl (Ib.load i_21__227) ?_
  have h_y88_120__227 := Zn.below h_y88_120__122 (Ext.below hB123 (Ext.below hB124 (Ext.below hB226 hB227)))
  have h_x19__227 := Zn.below h_x19__16 (Ext.below hB17 (Ext.below hB18 (Ext.below hB19 (Ext.below hB122 (Ext.below hB123 (Ext.below hB124 (Ext.below hB226 hB227)))))))
  refine Pl.pA_call rfl rfl rfl rfl rfl en20 ?_
  refine Calls.mono (rzsame _ _ _ (((c * b) + (a % b)) % b) (a % b) h_y88_120__227 h_x19__227 (Sz.le b_x46 (by decide)) (Sz.le b_x19 (by decide)) true (decide_eq_true (rest_of c a b))) ?_
  rintro e w228 ⟨rfl, hB228⟩
  refine ⟨_, rfl, trivial, ?_⟩
  refine Pl.qA_pick trivial rfl rfl rfl rfl rfl rfl ?_
  refine Pl.qA_move trivial rfl rfl rfl rfl rfl ?_
  refine Pl.qA_move trivial rfl rfl rfl rfl rfl ?_
  refine Pl.qA_pick trivial rfl rfl rfl rfl rfl rfl ?_
  refine Pl.qA_move trivial rfl rfl rfl rfl rfl ?_
  have i_107__228 := Ib.ext i_107 (Ext.below hB226 (Ext.below hB227 hB228))
  refine Pl.qA_loadw trivial rfl rfl rfl rfl rfl (Ib.load i_107__228) ?_
  have i_13__228 := Ib.ext i_13__226 (Ext.below hB227 hB228)
  refine Pl.qA_loadw trivial rfl rfl rfl rfl rfl (Ib.load i_13__228) ?_
  have h_x106__228 := Zn.below h_x106 (Ext.below hB124 (Ext.below hB226 (Ext.below hB227 hB228)))
  have h_x12__228 := Zn.below h_x12__226 (Ext.below hB227 hB228)
  refine Pl.pA_call rfl rfl rfl rfl rfl en20 ?_
  refine Calls.mono (rzsame _ _ _ ((c * b) / b) c h_x106__228 h_x12__228 (Sz.le b_x106 (by decide)) (Sz.le b_c (by decide)) true (decide_eq_true (Int.mul_ediv_cancel c h0))) ?_
  rintro e w229 ⟨rfl, hB229⟩
  refine ⟨_, rfl, trivial, ?_⟩
  refine Pl.qA_pick trivial rfl rfl rfl rfl rfl rfl ?_
  refine Pl.qA_move trivial rfl rfl rfl rfl rfl ?_
  refine Pl.qA_move trivial rfl rfl rfl rfl rfl ?_
  have i_21__229 := Ib.ext i_21__227 (Ext.below hB228 hB229)
  refine Pl.qA_loadw trivial rfl rfl rfl rfl rfl (Ib.load i_21__229) ?_
  have h_x19__229 := Zn.below h_x19__227 (Ext.below hB228 hB229)
  refine Pl.pA_call rfl rfl rfl rfl rfl en25 ?_
  refine Calls.mono (zsign _ _ (a % b) h_x19__229 (Int.sign (a % b)) rfl) ?_
  rintro e w230 ⟨rfl, hB230⟩
  refine ⟨_, rfl, trivial, ?_⟩
  refine Pl.qA_bin (v := (.bool false)) trivial rfl rfl rfl rfl rfl rfl (fun X => b_eql (beq_eq_false_iff_ne.2 (sign_ne hr)) X) ?_
  refine Pl.qA_bin (v := (.bool true)) trivial rfl rfl rfl rfl rfl rfl (fun X => by go_simp) ?_
  refine Pl.qA_pick trivial rfl rfl rfl rfl rfl rfl ?_
  refine Pl.qA_assign trivial rfl rfl rfl rfl rfl ?_
  refine Pl.pA_end ?_
  refine Pl.post_ret rfl rfl ?_
  exact ⟨rfl, (Ext.below hB1 (Ext.below hB2 (Ext.below hB3 (Ext.below hB4 (Ext.below hB5 (Ext.below hB6 (Ext.below hB7 (Ext.below hB8 (Ext.below hB9 (Ext.below hB10 (Ext.below hB11 (Ext.below hB12 (Ext.below hB13 (Ext.below hB14 (Ext.below hB15 (Ext.below hB16 (Ext.below hB17 (Ext.below hB18 (Ext.below hB19 (Ext.below hB122 (Ext.below hB123 (Ext.below hB124 (Ext.below hB226 (Ext.below hB227 (Ext.below hB228 (Ext.below hB229 hB230))))))))))))))))))))))))))⟩
theorem IntegerQuotient_walk (w : World) (sa : Bool) (Aa : Option Addr) (ca : Nat) (xsa : List Nat) (ua : U w (.slice Aa xsa.length ca) xsa) (sb : Bool) (Ab : Option Addr) (cb : Nat) (xsb : List Nat) (ub : U w (.slice Ab xsb.length cb) xsb) (sc : Bool) (Ac : Option Addr) (cc : Nat) (xsc : List Nat) (uc : U w (.slice Ac xsc.length cc) xsc) :
    Calls Tryz.prog 7 #[.agg #[.bool sa, .slice Aa xsa.length ca, .bool sb, .slice Ab xsb.length cb, .bool sc, .slice Ac xsc.length cc]] w fun e w' => e = .returned (.bool true) ∧ Ext w w' := by
  by_cases h0 : sg sb (cutN xsb 40) = 0
  · exact IntegerQuotient_walkZ w sa Aa ca xsa ua sb Ab cb xsb ub sc Ac cc xsc uc h0
  by_cases hr : sg sa (cutN xsa 40) % sg sb (cutN xsb 40) = 0
  · exact IntegerQuotient_walkY w sa Aa ca xsa ua sb Ab cb xsb ub sc Ac cc xsc uc h0 hr
  · exact IntegerQuotient_walkN w sa Aa ca xsa ua sb Ab cb xsb ub sc Ac cc xsc uc h0 hr
end Go.Proofs.YtfkcdmbiihkiiaaGreatDoor
/- Proved: what the statement IntegerQuotient does: a quotient times its divisor, and the rest, are the number; the rest is not below 0, and less than the size of the divisor; of a product and a small rest they come back: it tells true. No condition. -/
namespace Go.Proofs.YtfkcdmbiihkiiaaGreatDoor
open Go.ChangeShapes Go.WideShapes Go.ChangeAt Go.RowKit
set_option linter.unusedVariables false
set_option maxHeartbeats 2000000

set_option maxRecDepth 100000 in
theorem lifted_IntegerQuotient (os : Os) (started : os.Started) (H : Type) (enc : TypeId × Value → H) :
    ReturnsInHanded {} Tryz.checked os 7 .any (fun w args => (Rows.integerQuotientSpec.pre enc Tryz.prog Tryz.f7 [] false w args ∧ laidMetH Tryz.prog laidV w) ∧ sizedMet enc Tryz.prog Tryz.f7 (OpenSpec.ofChange Rows.integerQuotientSpec) false w args)
      (Rows.integerQuotientSpec.post enc Tryz.prog Tryz.f7 false true false false) := by
  refine returnsInHanded_of_change_and (C := Tryz.checked) (X := fun w _ => laidMetH Tryz.prog laidV w) (fun _ _ _ hh h => h.of_heap hh) own started (by kernel_rfl) Tryz.func7
    (ChangeSpec.witness_shaped (enc := enc) (C := Tryz.checked) (os := os) (X := fun w _ => laidMetH Tryz.prog laidV w) false (World.laidAll Tryz.prog os laidV) #[.agg #[.bool false, .slice none 0 0, .bool false, .slice none 0 0, .bool false, .slice none 0 0]] 8 (World.laidAll_os _ _ _) (World.shaped_of_ZipB (by kernel_rfl) (by kernel_rfl)) (by kernel_rfl) (by kernel_rfl) (by kernel_rfl) (laid_met os _)) ?_
  intro W base args ds gs before hval0 hW _ _ hL _
  have hval : ∀ (j : Nat) t v, Tryz.f7.params[j]? = some t → args[j]? = some v → Value.okWide Tryz.prog W .any base t v := hval0
  have hW' := hW
  obtain ⟨p, q, hA0, hV, rfl, hfz, hnd⟩ := hW
  have hlt : ∀ x ∈ p ++ q, x.block < W.heap.size := fun x hx => hW'.lt x hx
  have hA : DataW.TrodAll enc Tryz.prog W 0 (fun _ => true) true Tryz.f7.params.toList args.toList ds p := hA0
  rw [Tryz.params7] at hA hval
  clear hA0 hval0
  obtain ⟨v0, vs0, d0, ds0, p0, q0, hargs0, rfl, rfl, h0, r0⟩ := trodAll_cons hA
  obtain ⟨hn1, rfl, rfl⟩ := trodAll_nil r0
  subst hn1
  obtain rfl : args = #[v0] := by cases args; simp_all
  obtain ⟨rfl, rfl⟩ := trodVars_none hV
  obtain ⟨s0a, s0b, s0c, A0a, A0b, A0c, c0a, c0b, c0c, x0a, x0b, x0c, hv0, u0a, u0b, u0c⟩ := open_I3 (hval 0 46 v0 rfl rfl) h0
  subst hv0
  refine (IntegerQuotient_walk W s0a A0a c0a x0a u0a s0b A0b c0b x0b u0b s0c A0c c0c x0c u0c).mono fun e W' ⟨he, hB⟩ => ?_
  subst he
  exact ⟨_, rfl, law_post hW' rfl (by rw [Tryz.params7]; decide +kernel) rfl rfl rfl rfl hB⟩

theorem integerQuotient_said : Rows.IntegerQuotientSaid :=
  OpenClaim.holds_of_wide 7 Tryz.f7 rfl rfl rfl rfl rfl rfl rfl ⟨rfl, rfl, rfl, rfl, rfl⟩ rfl rfl rfl rfl rfl (by kernel_rfl) Tryz.func7 (by kernel_rfl)
    (of_decide_eq_true (by kernel_rfl)) (by unfold Func.isWrapper; first | (rw [if_pos (by decide +kernel)]; kernel_rfl) | (rw [if_neg (by decide +kernel)]; exact ⟨rfl, rfl⟩))
    (fun os started H enc _ => lifted_IntegerQuotient os started H enc)
/-- The statement: the card, tied. -/
theorem integerQuotient_holds : Rows.IntegerQuotientCardSaid :=
  Claim7.holds_tied_plain_at .later [] [.data, .wider, .pinned] true Rows.integerQuotientCard.stood.harness false
    integerQuotient_said (fun _ h => by cases h) (by kernel_rfl) (fun _ h => by cases h) integerQuotient_row_tie rfl ⟨rfl, rfl⟩ (by kernel_rfl) rfl
    (fun f fn hf hfn => by
      obtain rfl : f = 7 := Option.some.inj ((show Tryz.prog.funcNamed "ziggurat/zigguratlaw06.IntegerQuotient" = some 7 by kernel_rfl).symm.trans hf) |>.symm
      obtain rfl : fn = Tryz.f7 := (Option.some.inj (Tryz.func7.symm.trans hfn)).symm
      exact ⟨by kernel_rfl, fun j t ht => by
        rw [Tryz.params7] at ht
        have hm : t ∈ [46] := by simpa using Array.mem_of_getElem? ht
        have hall : ([46].all fun u => !Tryz.prog.wantsStandIn u) = true := by kernel_rfl
        exact (show Tryz.prog.wantsStandIn t = false by simpa using List.all_eq_true.1 hall t hm)⟩)
    (by kernel_rfl)
end Go.Proofs.YtfkcdmbiihkiiaaGreatDoor
