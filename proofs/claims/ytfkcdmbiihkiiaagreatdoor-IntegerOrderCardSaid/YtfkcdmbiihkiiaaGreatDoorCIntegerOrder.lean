/- Proved: what the statement IntegerOrder does: the sign of a difference is the order; adding changes no order, multiplying turns it by the sign; squares are not below 0: it tells true. No condition. -/
import Derived.Test.YtfkcdmbiihkiiaaGreatDoorBbe
import Derived.Test.YtfkcdmbiihkiiaaGreatDoorBaj
import Derived.Test.YtfkcdmbiihkiiaaGreatDoorBaw
import Derived.Test.YtfkcdmbiihkiiaaGreatDoorBbk
import Derived.Test.YtfkcdmbiihkiiaaGreatDoorBbi
import Derived.Test.YtfkcdmbiihkiiaaGreatDoorBak
import Derived.Test.YtfkcdmbiihkiiaaGreatDoorBbd
import Derived.Test.YtfkcdmbiihkiiaaGreatDoorBbj
import Derived.Test.YtfkcdmbiihkiiaaGreatDoorBbf
import Derived.Test.YtfkcdmbiihkiiaaGreatDoorBbh
import Derived.Test.YtfkcdmbiihkiiaaGreatDoorBbm
import Derived.Test.YtfkcdmbiihkiiaaGreatDoorBbl
import Derived.Deep.RegionHeld3

namespace Go.Proofs.YtfkcdmbiihkiiaaGreatDoor
open Go.RowKit
set_option linter.unusedVariables false
set_option maxHeartbeats 400000

set_option maxRecDepth 100000 in
set_option maxHeartbeats 8000000 in
theorem zsub (w : World) (va vb : Value) (a b : Int) (ha : Zn w va a) (hb : Zn w vb b) (hl : (limbs a.natAbs).length ≤ 1000000) (hl2 : (limbs b.natAbs).length ≤ 1000000) (y : Int) (hy : a - b = y) :
    Calls Tryz.prog 31 #[va, vb] w fun e w' => ∃ u, e = .returned u ∧ Zn w' u y ∧ Ext w w' := by
  have hN := Lib.hid (fun W h => zneg W vb b h (-b) rfl)
  have hA := Lib.hid (fun W u h (g : Zn W u (-b)) => zadd W va u a (-b) h g hl (by rw [Int.natAbs_neg]; exact hl2) y (by rw [← Int.sub_eq_add_neg]; exact hy))
  have ha' := ha
  have hb' := hb
  obtain ⟨p, A, L, c, n, rfl, hu, hL, hz, -, hza, hzn⟩ := ha.open
  obtain ⟨q, B, K, d, m, rfl, hv, hK, hz2, -, hza2, hzn2⟩ := hb.open
  have hE0 := ((((Ext.refl w).alloc (.cells #[.bool p, .slice A L c] 24)).alloc (.cells #[.bool q, .slice B K d] 24)).alloc (.cells #[.bool false, .slice none 0 0] 24)).drew
  have hI0 := (Ib.new3 w (.cells #[.bool p, .slice A L c] 24) (.cells #[.bool q, .slice B K d] 24) false (.slice none 0 0) 24).ext (Ext.refl _).drew
  have hP0 := (Ib.new w p (.slice A L c) 24).ext ((((Ext.refl _).alloc (.cells #[.bool q, .slice B K d] 24)).alloc (.cells #[.bool false, .slice none 0 0] 24)).drew)
  have hQ0 := (Ib.new2 w (.cells #[.bool p, .slice A L c] 24) q (.slice B K d) 24).ext (((Ext.refl _).alloc (.cells #[.bool false, .slice none 0 0] 24)).drew)
  have hS0 : (w.heap.size + 1 + 1 < (((w.alloc (.cells #[.bool p, .slice A L c] 24)).alloc (.cells #[.bool q, .slice B K d] 24)).alloc (.cells #[.bool false, .slice none 0 0] 24)).drew.heap.size ∧ (((w.alloc (.cells #[.bool p, .slice A L c] 24)).alloc (.cells #[.bool q, .slice B K d] 24)).alloc (.cells #[.bool false, .slice none 0 0] 24)).drew.cell? ⟨w.heap.size, 0, none⟩ = some (.bool p) ∧ (((w.alloc (.cells #[.bool p, .slice A L c] 24)).alloc (.cells #[.bool q, .slice B K d] 24)).alloc (.cells #[.bool false, .slice none 0 0] 24)).drew.cell? ⟨w.heap.size, 1, none⟩ = some (.slice A L c) ∧ (((w.alloc (.cells #[.bool p, .slice A L c] 24)).alloc (.cells #[.bool q, .slice B K d] 24)).alloc (.cells #[.bool false, .slice none 0 0] 24)).drew.cell? ⟨w.heap.size + 1, 0, none⟩ = some (.bool q) ∧ (((w.alloc (.cells #[.bool p, .slice A L c] 24)).alloc (.cells #[.bool q, .slice B K d] 24)).alloc (.cells #[.bool false, .slice none 0 0] 24)).drew.cell? ⟨w.heap.size + 1, 1, none⟩ = some (.slice B K d)) ∧ Ext w (((w.alloc (.cells #[.bool p, .slice A L c] 24)).alloc (.cells #[.bool q, .slice B K d] 24)).alloc (.cells #[.bool false, .slice none 0 0] 24)).drew := ⟨⟨by simp, hP0.2.1, hP0.2.2.1, hQ0.2.1, hQ0.2.2.1⟩, hE0⟩
  have ha0 := ha'.below hE0
  have hb0 := hb'.below hE0
  clear hl hl2 hza hzn hza2 hzn2 hz hz2 hL hK ha hb hy hP0 hQ0 ha' hb'
  go_enter Tryz.func31, Tryz.ntmps31
  go_wp2
  go_region_held3 (fun X => (w.heap.size + 1 + 1 < X.heap.size ∧ X.cell? ⟨w.heap.size, 0, none⟩ = some (.bool p) ∧ X.cell? ⟨w.heap.size, 1, none⟩ = some (.slice A L c) ∧ X.cell? ⟨w.heap.size + 1, 0, none⟩ = some (.bool q) ∧ X.cell? ⟨w.heap.size + 1, 1, none⟩ = some (.slice B K d)) ∧ Ext w X)
    (first
      | exact hS0
      | exact keepI2 (by assumption) (by assumption)
      | exact keepS2 (by assumption))
    (first
      | (go_at_call 27; ((with_reducible refine (hN.out _ hb0).mono ?_); rintro e w2 ⟨u, rfl, hz2, hE2⟩; obtain ⟨b2, A2, L2, c2, rfl⟩ := hz2.sh))
      | (go_at_call 29; ((with_reducible refine (hA.out _ _ (ha0.below hE2) hz2).mono ?_); rintro e w3 ⟨u, rfl, hz3, hE3⟩; obtain ⟨b3, A3, L3, c3, rfl⟩ := hz3.sh; have hI3 := (hI0.ext hE2).ext hE3; obtain ⟨i0, i1, i2, i3, i4⟩ := id hI3)))
  clear hN hA
  clear hI3
  go_wp2
  (try simp only [Exit.inBlock, Exit.then])
  refine bodyPost_ret (v := .agg #[.bool b3, .slice A3 L3 c3]) (show (results _ _).run _ _ = _ from ?_) rfl ⟨_, rfl, hz3.put2 ((hI0.ext hE2).ext hE3) (slice_no_int _ _ _) _ _, ((hE0.below hE2).below hE3).put2 (by omega) _ _⟩
  simp only [results]
  go_simp
end Go.Proofs.YtfkcdmbiihkiiaaGreatDoor
/- Proved: what the statement IntegerOrder does: the sign of a difference is the order; adding changes no order, multiplying turns it by the sign; squares are not below 0: it tells true. No condition. -/
namespace Go.Proofs.YtfkcdmbiihkiiaaGreatDoor
open Go.RowKit
set_option linter.unusedVariables false
set_option linter.unusedSimpArgs false
set_option maxHeartbeats 400000

namespace Order6
theorem en12 (u : Array Value) (X : World) : (callFunc 12 u).run Tryz.prog X = .ok (.enter 12 u) X := Pl.enters Tryz.func12 (by kernel_rfl) rfl u X
theorem en13 (u : Array Value) (X : World) : (callFunc 13 u).run Tryz.prog X = .ok (.enter 13 u) X := Pl.enters Tryz.func13 (by kernel_rfl) rfl u X
theorem en20 (u : Array Value) (X : World) : (callFunc 20 u).run Tryz.prog X = .ok (.enter 20 u) X := Pl.enters Tryz.func20 (by kernel_rfl) rfl u X
theorem en23 (u : Array Value) (X : World) : (callFunc 23 u).run Tryz.prog X = .ok (.enter 23 u) X := Pl.enters Tryz.func23 (by kernel_rfl) rfl u X
theorem en25 (u : Array Value) (X : World) : (callFunc 25 u).run Tryz.prog X = .ok (.enter 25 u) X := Pl.enters Tryz.func25 (by kernel_rfl) rfl u X
theorem en29 (u : Array Value) (X : World) : (callFunc 29 u).run Tryz.prog X = .ok (.enter 29 u) X := Pl.enters Tryz.func29 (by kernel_rfl) rfl u X
theorem en31 (u : Array Value) (X : World) : (callFunc 31 u).run Tryz.prog X = .ok (.enter 31 u) X := Pl.enters Tryz.func31 (by kernel_rfl) rfl u X
theorem en33 (u : Array Value) (X : World) : (callFunc 33 u).run Tryz.prog X = .ok (.enter 33 u) X := Pl.enters Tryz.func33 (by kernel_rfl) rfl u X
end Order6
open Order6
set_option maxRecDepth 100000 in
set_option maxHeartbeats 4000000 in
theorem IntegerOrder_walk (w : World) (sa : Bool) (Aa : Option Addr) (ca : Nat) (xsa : List Nat) (ua : U w (.slice Aa xsa.length ca) xsa) (sb : Bool) (Ab : Option Addr) (cb : Nat) (xsb : List Nat) (ub : U w (.slice Ab xsb.length cb) xsb) (sc : Bool) (Ac : Option Addr) (cc : Nat) (xsc : List Nat) (uc : U w (.slice Ac xsc.length cc) xsc)  :
    Calls Tryz.prog 6 #[.agg #[.bool sa, .slice Aa xsa.length ca, .bool sb, .slice Ab xsb.length cb, .bool sc, .slice Ac xsc.length cc]] w fun e w' => e = .returned (.bool true) ∧ Ext w w' := by
  have r_a : Ri w (.agg #[.bool sa, .slice Aa xsa.length ca]) sa xsa := ⟨_, _, rfl, ua⟩
  obtain ⟨a, e_a⟩ : ∃ z, sg sa (cutN xsa 40) = z := ⟨_, rfl⟩
  have b_a : Sz a 40 := by rw [← e_a]; exact Sz.cut ua sa 40 40 (Nat.le_refl _)
  have r_b : Ri w (.agg #[.bool sb, .slice Ab xsb.length cb]) sb xsb := ⟨_, _, rfl, ub⟩
  obtain ⟨b, e_b⟩ : ∃ z, sg sb (cutN xsb 40) = z := ⟨_, rfl⟩
  have b_b : Sz b 40 := by rw [← e_b]; exact Sz.cut ub sb 40 40 (Nat.le_refl _)
  have r_c : Ri w (.agg #[.bool sc, .slice Ac xsc.length cc]) sc xsc := ⟨_, _, rfl, uc⟩
  obtain ⟨c, e_c⟩ : ∃ z, sg sc (cutN xsc 40) = z := ⟨_, rfl⟩
  have b_c : Sz c 40 := by rw [← e_c]; exact Sz.cut uc sc 40 40 (Nat.le_refl _)
  refine Pl.calls_by (n := 88) (vs := [.agg #[.bool sa, .slice Aa xsa.length ca, .bool sb, .slice Ab xsb.length cb, .bool sc, .slice Ac xsc.length cc]]) Tryz.func6 rfl (by kernel_rfl) (by simp) ?_
  refine Pl.V_seq ?_
  refine Pl.V_region (by kernel_rfl) ?_
  refine boxA3 rfl rfl rfl rfl rfl (fun _ _ => trivial) ?_
  intro N1 w1 hB1 j0_1 j1_1 j2_1
  refine Pl.qA_assign trivial rfl rfl rfl rfl rfl ?_
  refine Pl.pA_end ?_
  refine Pl.V_seq ?_
  refine Pl.V_region (by kernel_rfl) ?_
  refine Pl.pA_call rfl rfl rfl rfl rfl en12 ?_
  refine Calls.mono (zhead _) ?_
  rintro e w2 ⟨rfl, hB2⟩
  refine ⟨_, rfl, trivial, ?_⟩
  refine Pl.qA_assign trivial rfl rfl rfl rfl rfl ?_
  refine Pl.pA_end ?_
  refine Pl.V_seq ?_
  refine Pl.V_region (by kernel_rfl) ?_
  refine idxA trivial rfl rfl rfl rfl rfl rfl (ix30 _) ?_
  have j0_1__2 := Io.ext j0_1 hB2
  refine Pl.qA_loadw trivial rfl rfl rfl rfl rfl (Io.load j0_1__2) ?_
  have r_a__2 := Ri.below r_a (Ext.below hB1 hB2)
  refine Pl.pA_call rfl rfl rfl rfl rfl en13 ?_
  refine Calls.mono (lmade _ _ sa xsa r_a__2 a e_a) ?_
  rintro e w3 ⟨v_x4, rfl, h_x4, hB3⟩
  refine ⟨_, rfl, trivial, ?_⟩
  obtain ⟨p_x4, A_x4, L_x4, c_x4, rfl⟩ := Zn.sh h_x4
  refine boxI rfl rfl rfl rfl rfl rfl rfl rfl (fun _ => rfl) (fun _ _ => trivial) ?_
  intro N5 w4 hB4 i_5
  refine Pl.pA_end ?_
  refine Pl.V_seq ?_
  refine Pl.V_region (by kernel_rfl) ?_
  refine idxA trivial rfl rfl rfl rfl rfl rfl (ix31 _) ?_
  have j1_1__4 := Io.ext j1_1 (Ext.below hB2 (Ext.below hB3 hB4))
  refine Pl.qA_loadw trivial rfl rfl rfl rfl rfl (Io.load j1_1__4) ?_
  have r_b__4 := Ri.below r_b (Ext.below hB1 (Ext.below hB2 (Ext.below hB3 hB4)))
  refine Pl.pA_call rfl rfl rfl rfl rfl en13 ?_
  refine Calls.mono (lmade _ _ sb xsb r_b__4 b e_b) ?_
  rintro e w5 ⟨v_x8, rfl, h_x8, hB5⟩
  refine ⟨_, rfl, trivial, ?_⟩
  obtain ⟨p_x8, A_x8, L_x8, c_x8, rfl⟩ := Zn.sh h_x8
  refine boxI rfl rfl rfl rfl rfl rfl rfl rfl (fun _ => rfl) (fun _ _ => trivial) ?_
  intro N9 w6 hB6 i_9
  refine Pl.pA_end ?_
  refine Pl.V_seq ?_
  refine Pl.V_region (by kernel_rfl) ?_
  refine idxA trivial rfl rfl rfl rfl rfl rfl (ix32 _) ?_
  have j2_1__6 := Io.ext j2_1 (Ext.below hB2 (Ext.below hB3 (Ext.below hB4 (Ext.below hB5 hB6))))
  refine Pl.qA_loadw trivial rfl rfl rfl rfl rfl (Io.load j2_1__6) ?_
  have r_c__6 := Ri.below r_c (Ext.below hB1 (Ext.below hB2 (Ext.below hB3 (Ext.below hB4 (Ext.below hB5 hB6)))))
  refine Pl.pA_call rfl rfl rfl rfl rfl en13 ?_
  refine Calls.mono (lmade _ _ sc xsc r_c__6 c e_c) ?_
  rintro e w7 ⟨v_x12, rfl, h_x12, hB7⟩
  refine ⟨_, rfl, trivial, ?_⟩
  obtain ⟨p_x12, A_x12, L_x12, c_x12, rfl⟩ := Zn.sh h_x12
  refine boxI rfl rfl rfl rfl rfl rfl rfl rfl (fun _ => rfl) (fun _ _ => trivial) ?_
  intro N13 w8 hB8 i_13
  refine Pl.pA_end ?_
  refine Pl.V_seq ?_
  refine Pl.V_region (by kernel_rfl) ?_
  have i_5__8 := Ib.ext i_5 (Ext.below hB5 (Ext.below hB6 (Ext.below hB7 hB8)))
  refine Pl.qA_loadw trivial rfl rfl rfl rfl rfl (Ib.load i_5__8) ?_
  have i_9__8 := Ib.ext i_9 (Ext.below hB7 hB8)
  refine Pl.qA_loadw trivial rfl rfl rfl rfl rfl (Ib.load i_9__8) ?_
  have h_x4__8 := Zn.below h_x4 (Ext.below hB4 (Ext.below hB5 (Ext.below hB6 (Ext.below hB7 hB8))))
  have h_x8__8 := Zn.below h_x8 (Ext.below hB6 (Ext.below hB7 hB8))
  refine Pl.pA_call rfl rfl rfl rfl rfl en23 ?_
  refine Calls.mono (zcmp _ _ _ a b h_x4__8 h_x8__8 (cmpI a b) rfl) ?_
  rintro e w9 ⟨rfl, hB9⟩
  refine ⟨_, rfl, trivial, ?_⟩
  refine Pl.qA_assign trivial rfl rfl rfl rfl rfl ?_
  refine Pl.pA_end ?_
  refine Pl.V_seq ?_
  refine Pl.V_seq ?_
  refine Pl.V_draw (S := fun X => Ext w9 X) [(true, 0, 0), (true, 1, 1), (true, 4, 3), (false, 2, 19), (false, 3, 23), (true, 5, 31), (true, 6, 63), (true, 7, 127), (true, 8, 255), (true, 10, 511), (true, 11, 1535), (false, 9, 3583), (true, 12, 4095), (true, 13, 8191), (true, 14, 16383), (true, 15, 32767), (true, 16, 65535), (true, 18, 131071), (true, 19, 393215), (true, 22, 917503), (false, 17, 5111807), (false, 20, 5242879), (false, 21, 6291455), (true, 23, 8388607), (true, 24, 16777215)] fo Pl.post_panic (by kernel_rfl) (Ext.drew (Ext.refl _)) ?_
  generalize w9.drew = w10
  intro hB10
  have hS10 := hB10
  have i_5__9 := Ib.ext i_5__8 hB9
  refine Pl.qA_load hS10 rfl rfl rfl rfl rfl (fun X hX => Ib.load (Ib.ext i_5__9 hX)) ?_
  have i_9__9 := Ib.ext i_9__8 hB9
  refine Pl.qA_load hS10 rfl rfl rfl rfl rfl (fun X hX => Ib.load (Ib.ext i_9__9 hX)) ?_
  refine Pl.qA_move hS10 rfl rfl rfl rfl rfl ?_
  have h_x4__10 := Zn.below h_x4__8 (Ext.below hB9 hB10)
  have h_x8__10 := Zn.below h_x8__8 (Ext.below hB9 hB10)
  refine Pl.pA_call rfl rfl rfl rfl rfl en31 ?_
  refine Calls.mono (zsub _ _ _ a b h_x4__10 h_x8__10 (Sz.le b_a (by decide)) (Sz.le b_b (by decide)) _ rfl) ?_
  rintro e w11 ⟨v_x20, rfl, h_x20, hB11⟩
  have hS11 := Ext.below hS10 hB11
  refine ⟨_, rfl, hS11, ?_⟩
  have b_x20 : Sz (a - b) 41 := Sz.sub b_a b_b (by decide) (by decide)
  refine Pl.pA_call rfl rfl rfl rfl rfl en25 ?_
  refine Calls.mono (zsign _ _ (a - b) h_x20 (Int.sign (a - b)) rfl) ?_
  rintro e w12 ⟨rfl, hB12⟩
  have hS12 := Ext.below hS11 hB12
  refine ⟨_, rfl, hS12, ?_⟩
  refine Pl.qA_bin (v := (.bool false)) hS12 rfl rfl rfl rfl rfl rfl (fun X => b_neq (bne_eq_false_iff_eq.2 (cmp_sign a b)) X) ?_
  refine Pl.qA_move hS12 rfl rfl rfl rfl rfl ?_
  refine Pl.qA_load hS12 rfl rfl rfl rfl rfl (fun X hX => Ib.load (Ib.ext i_9__9 hX)) ?_
  refine Pl.qA_load hS12 rfl rfl rfl rfl rfl (fun X hX => Ib.load (Ib.ext i_5__9 hX)) ?_
  refine Pl.qA_move hS12 rfl rfl rfl rfl rfl ?_
  refine Pl.qA_un (v := (.int .i64 (-(cmpI a b)))) hS12 rfl rfl rfl rfl rfl (fun X => u_neg1 (cmp_b _ _) X) ?_
  have h_x8__12 := Zn.below h_x8__10 (Ext.below hB11 hB12)
  have h_x4__12 := Zn.below h_x4__10 (Ext.below hB11 hB12)
  refine Pl.pA_call rfl rfl rfl rfl rfl en23 ?_
  refine Calls.mono (zcmp _ _ _ b a h_x8__12 h_x4__12 (cmpI b a) rfl) ?_
  rintro e w13 ⟨rfl, hB13⟩
  have hS13 := Ext.below hS12 hB13
  refine ⟨_, rfl, hS13, ?_⟩
  refine Pl.qA_bin (v := (.bool false)) hS13 rfl rfl rfl rfl rfl rfl (fun X => b_neq (bne_eq_false_iff_eq.2 (cmp_swap a b)) X) ?_
  refine Pl.qA_pick hS13 rfl rfl rfl rfl rfl rfl ?_
  refine Pl.qA_move hS13 rfl rfl rfl rfl rfl ?_
  refine Pl.qA_load hS13 rfl rfl rfl rfl rfl (fun X hX => Ib.load (Ib.ext i_5__9 hX)) ?_
  have i_13__9 := Ib.ext i_13 hB9
  refine Pl.qA_load hS13 rfl rfl rfl rfl rfl (fun X hX => Ib.load (Ib.ext i_13__9 hX)) ?_
  refine Pl.qA_load hS13 rfl rfl rfl rfl rfl (fun X hX => Ib.load (Ib.ext i_9__9 hX)) ?_
  refine Pl.qA_load hS13 rfl rfl rfl rfl rfl (fun X hX => Ib.load (Ib.ext i_13__9 hX)) ?_
  refine Pl.qA_move hS13 rfl rfl rfl rfl rfl ?_
  have h_x4__13 := Zn.below h_x4__12 hB13
  have h_x12__13 := Zn.below h_x12 (Ext.below hB8 (Ext.below hB9 (Ext.below hB10 (Ext.below hB11 (Ext.below hB12 hB13)))))
  refine Pl.pA_call rfl rfl rfl rfl rfl en29 ?_
  refine Calls.mono (zadd _ _ _ a c h_x4__13 h_x12__13 (Sz.le b_a (by decide)) (Sz.le b_c (by decide)) _ rfl) ?_
  rintro e w14 ⟨v_x25, rfl, h_x25, hB14⟩
  have hS14 := Ext.below hS13 hB14
  refine ⟨_, rfl, hS14, ?_⟩
  have b_x25 : Sz (a + c) 41 := Sz.add b_a b_c (by decide) (by decide)
  have h_x8__14 := Zn.below h_x8__12 (Ext.below hB13 hB14)
  have h_x12__14 := Zn.below h_x12__13 hB14
  refine Pl.pA_call rfl rfl rfl rfl rfl en29 ?_
  refine Calls.mono (zadd _ _ _ b c h_x8__14 h_x12__14 (Sz.le b_b (by decide)) (Sz.le b_c (by decide)) _ rfl) ?_
  rintro e w15 ⟨v_x28, rfl, h_x28, hB15⟩
  have hS15 := Ext.below hS14 hB15
  refine ⟨_, rfl, hS15, ?_⟩
  have b_x28 : Sz (b + c) 41 := Sz.add b_b b_c (by decide) (by decide)
  have h_x25__15 := Zn.below h_x25 hB15
  refine Pl.pA_call rfl rfl rfl rfl rfl en23 ?_
  refine Calls.mono (zcmp _ _ _ (a + c) (b + c) h_x25__15 h_x28 (cmpI (a + c) (b + c)) rfl) ?_
  rintro e w16 ⟨rfl, hB16⟩
  have hS16 := Ext.below hS15 hB16
  refine ⟨_, rfl, hS16, ?_⟩
  refine Pl.qA_bin (v := (.bool false)) hS16 rfl rfl rfl rfl rfl rfl (fun X => b_neq (bne_eq_false_iff_eq.2 (cmp_add a b c)) X) ?_
  refine Pl.qA_pick hS16 rfl rfl rfl rfl rfl rfl ?_
  refine Pl.pA_end ?_
  refine Pl.V_false rfl ?_
  refine Pl.V_skip ?_
  refine Pl.V_seq ?_
  refine Pl.V_draw (S := fun X => Ext w16 X) [(true, 0, 0), (true, 1, 1), (true, 2, 3), (true, 3, 7), (true, 5, 15), (true, 6, 47), (true, 9, 111), (true, 10, 623), (false, 4, 1647), (false, 7, 1663), (false, 8, 1791), (false, 11, 2047), (true, 12, 4095), (true, 13, 8191), (true, 14, 16383), (true, 15, 32767), (true, 16, 65535), (true, 17, 131071), (true, 20, 262143), (true, 22, 1310719), (false, 18, 5505023), (false, 19, 5767167), (false, 21, 6291455), (false, 23, 8388607), (true, 24, 16777215), (true, 25, 33554431), (true, 26, 67108863), (true, 27, 134217727), (true, 28, 268435455), (true, 29, 536870911), (false, 30, 1073741823), (false, 31, 2147483647), (true, 32, 4294967295), (true, 33, 8589934591), (true, 34, 17179869183), (true, 35, 34359738367), (true, 36, 68719476735), (true, 37, 137438953471), (true, 38, 274877906943), (false, 39, 549755813887), (true, 40, 1099511627775), (true, 41, 2199023255551), (true, 42, 4398046511103)] fo Pl.post_panic (by kernel_rfl) (Ext.drew (Ext.refl _)) ?_
  generalize w16.drew = w17
  intro hB17
  have hS17 := hB17
  refine Pl.qA_move hS17 rfl rfl rfl rfl rfl ?_
  refine Pl.qA_move hS17 rfl rfl rfl rfl rfl ?_
  have i_5__16 := Ib.ext i_5__9 (Ext.below hB10 (Ext.below hB11 (Ext.below hB12 (Ext.below hB13 (Ext.below hB14 (Ext.below hB15 hB16))))))
  refine Pl.qA_load hS17 rfl rfl rfl rfl rfl (fun X hX => Ib.load (Ib.ext i_5__16 hX)) ?_
  have i_13__16 := Ib.ext i_13__9 (Ext.below hB10 (Ext.below hB11 (Ext.below hB12 (Ext.below hB13 (Ext.below hB14 (Ext.below hB15 hB16))))))
  refine Pl.qA_load hS17 rfl rfl rfl rfl rfl (fun X hX => Ib.load (Ib.ext i_13__16 hX)) ?_
  have i_9__16 := Ib.ext i_9__9 (Ext.below hB10 (Ext.below hB11 (Ext.below hB12 (Ext.below hB13 (Ext.below hB14 (Ext.below hB15 hB16))))))
  refine Pl.qA_load hS17 rfl rfl rfl rfl rfl (fun X hX => Ib.load (Ib.ext i_9__16 hX)) ?_
  refine Pl.qA_load hS17 rfl rfl rfl rfl rfl (fun X hX => Ib.load (Ib.ext i_13__16 hX)) ?_
  refine Pl.qA_move hS17 rfl rfl rfl rfl rfl ?_
  refine Pl.qA_load hS17 rfl rfl rfl rfl rfl (fun X hX => Ib.load (Ib.ext i_13__16 hX)) ?_
  have h_x4__17 := Zn.below h_x4__13 (Ext.below hB14 (Ext.below hB15 (Ext.below hB16 hB17)))
  have h_x12__17 := Zn.below h_x12__14 (Ext.below hB15 (Ext.below hB16 hB17))
  refine Pl.pA_call rfl rfl rfl rfl rfl en33 ?_
  refine Calls.mono (zmul _ _ _ a c h_x4__17 h_x12__17 (Sz.le b_a (by decide)) (Sz.le b_c (by decide)) _ rfl) ?_
  rintro e w18 ⟨v_x32, rfl, h_x32, hB18⟩
  have hS18 := Ext.below hS17 hB18
  refine ⟨_, rfl, hS18, ?_⟩
  have b_x32 : Sz (a * c) 80 := Sz.mul b_a b_c (by decide)
  have h_x8__18 := Zn.below h_x8__14 (Ext.below hB15 (Ext.below hB16 (Ext.below hB17 hB18)))
  have h_x12__18 := Zn.below h_x12__17 hB18
  refine Pl.pA_call rfl rfl rfl rfl rfl en33 ?_
  refine Calls.mono (zmul _ _ _ b c h_x8__18 h_x12__18 (Sz.le b_b (by decide)) (Sz.le b_c (by decide)) _ rfl) ?_
  rintro e w19 ⟨v_x35, rfl, h_x35, hB19⟩
  have hS19 := Ext.below hS18 hB19
  refine ⟨_, rfl, hS19, ?_⟩
  have b_x35 : Sz (b * c) 80 := Sz.mul b_b b_c (by decide)
  have h_x32__19 := Zn.below h_x32 hB19
  refine Pl.pA_call rfl rfl rfl rfl rfl en23 ?_
  refine Calls.mono (zcmp _ _ _ (a * c) (b * c) h_x32__19 h_x35 (cmpI (a * c) (b * c)) rfl) ?_
  rintro e w20 ⟨rfl, hB20⟩
  have hS20 := Ext.below hS19 hB20
  refine ⟨_, rfl, hS20, ?_⟩
  have h_x12__20 := Zn.below h_x12__18 (Ext.below hB19 hB20)
  refine Pl.pA_call rfl rfl rfl rfl rfl en25 ?_
  refine Calls.mono (zsign _ _ c h_x12__20 (Int.sign c) rfl) ?_
  rintro e w21 ⟨rfl, hB21⟩
  have hS21 := Ext.below hS20 hB21
  refine ⟨_, rfl, hS21, ?_⟩
  refine Pl.qA_bin (v := (.int .i64 ((cmpI a b) * (Int.sign c)))) hS21 rfl rfl rfl rfl rfl rfl (fun X => b_mul1 (cmp_b _ _) (sign_b _) X) ?_
  refine Pl.qA_bin (v := (.bool true)) hS21 rfl rfl rfl rfl rfl rfl (fun X => b_eql (beq_iff_eq.2 (cmp_mul a b c)) X) ?_
  refine Pl.qA_pick hS21 rfl rfl rfl rfl rfl rfl ?_
  refine Pl.qA_move hS21 rfl rfl rfl rfl rfl ?_
  refine Pl.qA_load hS21 rfl rfl rfl rfl rfl (fun X hX => Ib.load (Ib.ext i_5__16 hX)) ?_
  refine Pl.qA_load hS21 rfl rfl rfl rfl rfl (fun X hX => Ib.load (Ib.ext i_9__16 hX)) ?_
  refine Pl.qA_load hS21 rfl rfl rfl rfl rfl (fun X hX => Ib.load (Ib.ext i_5__16 hX)) ?_
  refine Pl.qA_load hS21 rfl rfl rfl rfl rfl (fun X hX => Ib.load (Ib.ext i_9__16 hX)) ?_
  have h_x4__21 := Zn.below h_x4__17 (Ext.below hB18 (Ext.below hB19 (Ext.below hB20 hB21)))
  have h_x8__21 := Zn.below h_x8__18 (Ext.below hB19 (Ext.below hB20 hB21))
  refine Pl.pA_call rfl rfl rfl rfl rfl en33 ?_
  refine Calls.mono (zmul _ _ _ a b h_x4__21 h_x8__21 (Sz.le b_a (by decide)) (Sz.le b_b (by decide)) _ rfl) ?_
  rintro e w22 ⟨v_x40, rfl, h_x40, hB22⟩
  have hS22 := Ext.below hS21 hB22
  refine ⟨_, rfl, hS22, ?_⟩
  have b_x40 : Sz (a * b) 80 := Sz.mul b_a b_b (by decide)
  refine Pl.pA_call rfl rfl rfl rfl rfl en25 ?_
  refine Calls.mono (zsign _ _ (a * b) h_x40 (Int.sign (a * b)) rfl) ?_
  rintro e w23 ⟨rfl, hB23⟩
  have hS23 := Ext.below hS22 hB23
  refine ⟨_, rfl, hS23, ?_⟩
  have h_x4__23 := Zn.below h_x4__21 (Ext.below hB22 hB23)
  refine Pl.pA_call rfl rfl rfl rfl rfl en25 ?_
  refine Calls.mono (zsign _ _ a h_x4__23 (Int.sign a) rfl) ?_
  rintro e w24 ⟨rfl, hB24⟩
  have hS24 := Ext.below hS23 hB24
  refine ⟨_, rfl, hS24, ?_⟩
  have h_x8__24 := Zn.below h_x8__21 (Ext.below hB22 (Ext.below hB23 hB24))
  refine Pl.pA_call rfl rfl rfl rfl rfl en25 ?_
  refine Calls.mono (zsign _ _ b h_x8__24 (Int.sign b) rfl) ?_
  rintro e w25 ⟨rfl, hB25⟩
  have hS25 := Ext.below hS24 hB25
  refine ⟨_, rfl, hS25, ?_⟩
  refine Pl.qA_bin (v := (.int .i64 ((Int.sign a) * (Int.sign b)))) hS25 rfl rfl rfl rfl rfl rfl (fun X => b_mul1 (sign_b _) (sign_b _) X) ?_
  refine Pl.qA_bin (v := (.bool true)) hS25 rfl rfl rfl rfl rfl rfl (fun X => b_eql (beq_iff_eq.2 (Int.sign_mul a b)) X) ?_
  refine Pl.qA_pick hS25 rfl rfl rfl rfl rfl rfl ?_
  refine Pl.qA_move hS25 rfl rfl rfl rfl rfl ?_
  refine Pl.qA_load hS25 rfl rfl rfl rfl rfl (fun X hX => Ib.load (Ib.ext i_5__16 hX)) ?_
  refine Pl.qA_load hS25 rfl rfl rfl rfl rfl (fun X hX => Ib.load (Ib.ext i_5__16 hX)) ?_
  have h_x4__25 := Zn.below h_x4__23 (Ext.below hB24 hB25)
  refine Pl.pA_call rfl rfl rfl rfl rfl en33 ?_
  refine Calls.mono (zmul _ _ _ a a h_x4__25 h_x4__25 (Sz.le b_a (by decide)) (Sz.le b_a (by decide)) _ rfl) ?_
  rintro e w26 ⟨v_x44, rfl, h_x44, hB26⟩
  have hS26 := Ext.below hS25 hB26
  refine ⟨_, rfl, hS26, ?_⟩
  have b_x44 : Sz (a * a) 80 := Sz.mul b_a b_a (by decide)
  refine Pl.pA_call rfl rfl rfl rfl rfl en25 ?_
  refine Calls.mono (zsign _ _ (a * a) h_x44 (Int.sign (a * a)) rfl) ?_
  rintro e w27 ⟨rfl, hB27⟩
  have hS27 := Ext.below hS26 hB27
  refine ⟨_, rfl, hS27, ?_⟩
  refine Pl.qA_bin (v := (.bool true)) hS27 rfl rfl rfl rfl rfl rfl (fun X => b_geq (decide_eq_true (sign_sq a)) X) ?_
  refine Pl.qA_pick hS27 rfl rfl rfl rfl rfl rfl ?_
  refine Pl.qA_move hS27 rfl rfl rfl rfl rfl ?_
  refine Pl.qA_move hS27 rfl rfl rfl rfl rfl ?_
  refine Pl.qA_bin (v := (.bool ((cmpI a b) == 0))) hS27 rfl rfl rfl rfl rfl rfl (fun X => b_eql rfl X) ?_
  refine Pl.qA_load hS27 rfl rfl rfl rfl rfl (fun X hX => Ib.load (Ib.ext i_5__16 hX)) ?_
  refine Pl.qA_load hS27 rfl rfl rfl rfl rfl (fun X hX => Ib.load (Ib.ext i_9__16 hX)) ?_
  have h_x4__27 := Zn.below h_x4__25 (Ext.below hB26 hB27)
  have h_x8__27 := Zn.below h_x8__24 (Ext.below hB25 (Ext.below hB26 hB27))
  refine Pl.pA_call rfl rfl rfl rfl rfl en20 ?_
  refine Calls.mono (rzsame _ _ _ a b h_x4__27 h_x8__27 (Sz.le b_a (by decide)) (Sz.le b_b (by decide)) (decide (a = b)) rfl) ?_
  rintro e w28 ⟨rfl, hB28⟩
  have hS28 := Ext.below hS27 hB28
  refine ⟨_, rfl, hS28, ?_⟩
  refine Pl.qA_bin (v := (.bool true)) hS28 rfl rfl rfl rfl rfl rfl (fun X => b_eqb (cmp_nought2 a b) X) ?_
  refine Pl.qA_pick hS28 rfl rfl rfl rfl rfl rfl ?_
  refine Pl.qA_assign hS28 rfl rfl rfl rfl rfl ?_
  refine Pl.pA_end ?_
  refine Pl.post_ret rfl rfl ?_
  exact ⟨rfl, (Ext.below hB1 (Ext.below hB2 (Ext.below hB3 (Ext.below hB4 (Ext.below hB5 (Ext.below hB6 (Ext.below hB7 (Ext.below hB8 (Ext.below hB9 (Ext.below hB10 (Ext.below hB11 (Ext.below hB12 (Ext.below hB13 (Ext.below hB14 (Ext.below hB15 (Ext.below hB16 (Ext.below hB17 (Ext.below hB18 (Ext.below hB19 (Ext.below hB20 (Ext.below hB21 (Ext.below hB22 (Ext.below hB23 (Ext.below hB24 (Ext.below hB25 (Ext.below hB26 (Ext.below hB27 hB28)))))))))))))))))))))))))))⟩
end Go.Proofs.YtfkcdmbiihkiiaaGreatDoor
/- Proved: what the statement IntegerOrder does: the sign of a difference is the order; adding changes no order, multiplying turns it by the sign; squares are not below 0: it tells true. No condition. -/
namespace Go.Proofs.YtfkcdmbiihkiiaaGreatDoor
open Go.ChangeShapes Go.WideShapes Go.ChangeAt Go.RowKit
set_option linter.unusedVariables false
set_option maxHeartbeats 2000000

set_option maxRecDepth 100000 in
theorem lifted_IntegerOrder (os : Os) (started : os.Started) (H : Type) (enc : TypeId × Value → H) :
    ReturnsInHanded {} Tryz.checked os 6 .any (fun w args => (Rows.integerOrderSpec.pre enc Tryz.prog Tryz.f6 [] false w args ∧ laidMetH Tryz.prog laidV w) ∧ sizedMet enc Tryz.prog Tryz.f6 (OpenSpec.ofChange Rows.integerOrderSpec) false w args)
      (Rows.integerOrderSpec.post enc Tryz.prog Tryz.f6 false true false false) := by
  refine returnsInHanded_of_change_and (C := Tryz.checked) (X := fun w _ => laidMetH Tryz.prog laidV w) (fun _ _ _ hh h => h.of_heap hh) own started (by kernel_rfl) Tryz.func6
    (ChangeSpec.witness_shaped (enc := enc) (C := Tryz.checked) (os := os) (X := fun w _ => laidMetH Tryz.prog laidV w) false (World.laidAll Tryz.prog os laidV) #[.agg #[.bool false, .slice none 0 0, .bool false, .slice none 0 0, .bool false, .slice none 0 0]] 8 (World.laidAll_os _ _ _) (World.shaped_of_ZipB (by kernel_rfl) (by kernel_rfl)) (by kernel_rfl) (by kernel_rfl) (by kernel_rfl) (laid_met os _)) ?_
  intro W base args ds gs before hval0 hW _ _ hL _
  have hval : ∀ (j : Nat) t v, Tryz.f6.params[j]? = some t → args[j]? = some v → Value.okWide Tryz.prog W .any base t v := hval0
  have hW' := hW
  obtain ⟨p, q, hA0, hV, rfl, hfz, hnd⟩ := hW
  have hlt : ∀ x ∈ p ++ q, x.block < W.heap.size := fun x hx => hW'.lt x hx
  have hA : DataW.TrodAll enc Tryz.prog W 0 (fun _ => true) true Tryz.f6.params.toList args.toList ds p := hA0
  rw [Tryz.params6] at hA hval
  clear hA0 hval0
  obtain ⟨v0, vs0, d0, ds0, p0, q0, hargs0, rfl, rfl, h0, r0⟩ := trodAll_cons hA
  obtain ⟨hn1, rfl, rfl⟩ := trodAll_nil r0
  subst hn1
  obtain rfl : args = #[v0] := by cases args; simp_all
  obtain ⟨rfl, rfl⟩ := trodVars_none hV
  obtain ⟨s0a, s0b, s0c, A0a, A0b, A0c, c0a, c0b, c0c, x0a, x0b, x0c, hv0, u0a, u0b, u0c⟩ := open_I3 (hval 0 46 v0 rfl rfl) h0
  subst hv0
  refine (IntegerOrder_walk W s0a A0a c0a x0a u0a s0b A0b c0b x0b u0b s0c A0c c0c x0c u0c).mono fun e W' ⟨he, hB⟩ => ?_
  subst he
  exact ⟨_, rfl, law_post hW' rfl (by rw [Tryz.params6]; decide +kernel) rfl rfl rfl rfl hB⟩

theorem integerOrder_said : Rows.IntegerOrderSaid :=
  OpenClaim.holds_of_wide 6 Tryz.f6 rfl rfl rfl rfl rfl rfl rfl ⟨rfl, rfl, rfl, rfl, rfl⟩ rfl rfl rfl rfl rfl (by kernel_rfl) Tryz.func6 (by kernel_rfl)
    (of_decide_eq_true (by kernel_rfl)) (by unfold Func.isWrapper; first | (rw [if_pos (by decide +kernel)]; kernel_rfl) | (rw [if_neg (by decide +kernel)]; exact ⟨rfl, rfl⟩))
    (fun os started H enc _ => lifted_IntegerOrder os started H enc)
/-- The statement: the card, tied. -/
theorem integerOrder_holds : Rows.IntegerOrderCardSaid :=
  Claim7.holds_tied_plain_at .later [] [.data, .wider, .pinned] true Rows.integerOrderCard.stood.harness false
    integerOrder_said (fun _ h => by cases h) (by kernel_rfl) (fun _ h => by cases h) integerOrder_row_tie rfl ⟨rfl, rfl⟩ (by kernel_rfl) rfl
    (fun f fn hf hfn => by
      obtain rfl : f = 6 := Option.some.inj ((show Tryz.prog.funcNamed "ziggurat/zigguratlaw06.IntegerOrder" = some 6 by kernel_rfl).symm.trans hf) |>.symm
      obtain rfl : fn = Tryz.f6 := (Option.some.inj (Tryz.func6.symm.trans hfn)).symm
      exact ⟨by kernel_rfl, fun j t ht => by
        rw [Tryz.params6] at ht
        have hm : t ∈ [46] := by simpa using Array.mem_of_getElem? ht
        have hall : ([46].all fun u => !Tryz.prog.wantsStandIn u) = true := by kernel_rfl
        exact (show Tryz.prog.wantsStandIn t = false by simpa using List.all_eq_true.1 hall t hm)⟩)
    (by kernel_rfl)
end Go.Proofs.YtfkcdmbiihkiiaaGreatDoor
