/- Proved: what the statement IntegerRing does: sums and products turned about, put together, taken apart: it tells true. No condition. -/
import Derived.Test.YtfkcdmbiihkiiaaGreatDoorBbe
import Derived.Test.YtfkcdmbiihkiiaaGreatDoorBaj
import Derived.Test.YtfkcdmbiihkiiaaGreatDoorBaw
import Derived.Test.YtfkcdmbiihkiiaaGreatDoorBbk
import Derived.Test.YtfkcdmbiihkiiaaGreatDoorBbi
import Derived.Test.YtfkcdmbiihkiiaaGreatDoorBak
import Derived.Test.YtfkcdmbiihkiiaaGreatDoorBbd
import Derived.Test.YtfkcdmbiihkiiaaGreatDoorBbj
import Derived.Test.YtfkcdmbiihkiiaaGreatDoorBbf
import Derived.Test.YtfkcdmbiihkiiaaGreatDoorBbh
import Derived.Test.YtfkcdmbiihkiiaaGreatDoorBbm
import Derived.Deep.RegionHeld3

namespace Go.Proofs.YtfkcdmbiihkiiaaGreatDoor
open Go.RowKit
set_option linter.unusedVariables false
set_option maxHeartbeats 400000

set_option maxRecDepth 100000 in
set_option maxHeartbeats 8000000 in
theorem zsub (w : World) (va vb : Value) (a b : Int) (ha : Zn w va a) (hb : Zn w vb b) (hl : (limbs a.natAbs).length ≤ 1000000) (hl2 : (limbs b.natAbs).length ≤ 1000000) (y : Int) (hy : a - b = y) :
    Calls Tryz.prog 31 #[va, vb] w fun e w' => ∃ u, e = .returned u ∧ Zn w' u y ∧ Ext w w' := by
  have hN := Lib.hid (fun W h => zneg W vb b h (-b) rfl)
  have hA := Lib.hid (fun W u h (g : Zn W u (-b)) => zadd W va u a (-b) h g hl (by rw [Int.natAbs_neg]; exact hl2) y (by rw [← Int.sub_eq_add_neg]; exact hy))
  have ha' := ha
  have hb' := hb
  obtain ⟨p, A, L, c, n, rfl, hu, hL, hz, -, hza, hzn⟩ := ha.open
  obtain ⟨q, B, K, d, m, rfl, hv, hK, hz2, -, hza2, hzn2⟩ := hb.open
  have hE0 := ((((Ext.refl w).alloc (.cells #[.bool p, .slice A L c] 24)).alloc (.cells #[.bool q, .slice B K d] 24)).alloc (.cells #[.bool false, .slice none 0 0] 24)).drew
  have hI0 := (Ib.new3 w (.cells #[.bool p, .slice A L c] 24) (.cells #[.bool q, .slice B K d] 24) false (.slice none 0 0) 24).ext (Ext.refl _).drew
  have hP0 := (Ib.new w p (.slice A L c) 24).ext ((((Ext.refl _).alloc (.cells #[.bool q, .slice B K d] 24)).alloc (.cells #[.bool false, .slice none 0 0] 24)).drew)
  have hQ0 := (Ib.new2 w (.cells #[.bool p, .slice A L c] 24) q (.slice B K d) 24).ext (((Ext.refl _).alloc (.cells #[.bool false, .slice none 0 0] 24)).drew)
  have hS0 : (w.heap.size + 1 + 1 < (((w.alloc (.cells #[.bool p, .slice A L c] 24)).alloc (.cells #[.bool q, .slice B K d] 24)).alloc (.cells #[.bool false, .slice none 0 0] 24)).drew.heap.size ∧ (((w.alloc (.cells #[.bool p, .slice A L c] 24)).alloc (.cells #[.bool q, .slice B K d] 24)).alloc (.cells #[.bool false, .slice none 0 0] 24)).drew.cell? ⟨w.heap.size, 0, none⟩ = some (.bool p) ∧ (((w.alloc (.cells #[.bool p, .slice A L c] 24)).alloc (.cells #[.bool q, .slice B K d] 24)).alloc (.cells #[.bool false, .slice none 0 0] 24)).drew.cell? ⟨w.heap.size, 1, none⟩ = some (.slice A L c) ∧ (((w.alloc (.cells #[.bool p, .slice A L c] 24)).alloc (.cells #[.bool q, .slice B K d] 24)).alloc (.cells #[.bool false, .slice none 0 0] 24)).drew.cell? ⟨w.heap.size + 1, 0, none⟩ = some (.bool q) ∧ (((w.alloc (.cells #[.bool p, .slice A L c] 24)).alloc (.cells #[.bool q, .slice B K d] 24)).alloc (.cells #[.bool false, .slice none 0 0] 24)).drew.cell? ⟨w.heap.size + 1, 1, none⟩ = some (.slice B K d)) ∧ Ext w (((w.alloc (.cells #[.bool p, .slice A L c] 24)).alloc (.cells #[.bool q, .slice B K d] 24)).alloc (.cells #[.bool false, .slice none 0 0] 24)).drew := ⟨⟨by simp, hP0.2.1, hP0.2.2.1, hQ0.2.1, hQ0.2.2.1⟩, hE0⟩
  have ha0 := ha'.below hE0
  have hb0 := hb'.below hE0
  clear hl hl2 hza hzn hza2 hzn2 hz hz2 hL hK ha hb hy hP0 hQ0 ha' hb'
  go_enter Tryz.func31, Tryz.ntmps31
  go_wp2
  go_region_held3 (fun X => (w.heap.size + 1 + 1 < X.heap.size ∧ X.cell? ⟨w.heap.size, 0, none⟩ = some (.bool p) ∧ X.cell? ⟨w.heap.size, 1, none⟩ = some (.slice A L c) ∧ X.cell? ⟨w.heap.size + 1, 0, none⟩ = some (.bool q) ∧ X.cell? ⟨w.heap.size + 1, 1, none⟩ = some (.slice B K d)) ∧ Ext w X)
    (first
      | exact hS0
      | exact keepI2 (by assumption) (by assumption)
      | exact keepS2 (by assumption))
    (first
      | (go_at_call 27; ((with_reducible refine (hN.out _ hb0).mono ?_); rintro e w2 ⟨u, rfl, hz2, hE2⟩; obtain ⟨b2, A2, L2, c2, rfl⟩ := hz2.sh))
      | (go_at_call 29; ((with_reducible refine (hA.out _ _ (ha0.below hE2) hz2).mono ?_); rintro e w3 ⟨u, rfl, hz3, hE3⟩; obtain ⟨b3, A3, L3, c3, rfl⟩ := hz3.sh; have hI3 := (hI0.ext hE2).ext hE3; obtain ⟨i0, i1, i2, i3, i4⟩ := id hI3)))
  clear hN hA
  clear hI3
  go_wp2
  (try simp only [Exit.inBlock, Exit.then])
  refine bodyPost_ret (v := .agg #[.bool b3, .slice A3 L3 c3]) (show (results _ _).run _ _ = _ from ?_) rfl ⟨_, rfl, hz3.put2 ((hI0.ext hE2).ext hE3) (slice_no_int _ _ _) _ _, ((hE0.below hE2).below hE3).put2 (by omega) _ _⟩
  simp only [results]
  go_simp
end Go.Proofs.YtfkcdmbiihkiiaaGreatDoor
/- Proved: what the statement IntegerRing does: sums and products turned about, put together, taken apart: it tells true. No condition. -/
namespace Go.Proofs.YtfkcdmbiihkiiaaGreatDoor
open Go.RowKit
set_option linter.unusedVariables false
set_option linter.unusedSimpArgs false
set_option maxHeartbeats 400000

namespace Ring6
theorem en12 (u : Array Value) (X : World) : (callFunc 12 u).run Tryz.prog X = .ok (.enter 12 u) X := Pl.enters Tryz.func12 (by kernel_rfl) rfl u X
theorem en13 (u : Array Value) (X : World) : (callFunc 13 u).run Tryz.prog X = .ok (.enter 13 u) X := Pl.enters Tryz.func13 (by kernel_rfl) rfl u X
theorem en18 (u : Array Value) (X : World) : (callFunc 18 u).run Tryz.prog X = .ok (.enter 18 u) X := Pl.enters Tryz.func18 (by kernel_rfl) rfl u X
theorem en20 (u : Array Value) (X : World) : (callFunc 20 u).run Tryz.prog X = .ok (.enter 20 u) X := Pl.enters Tryz.func20 (by kernel_rfl) rfl u X
theorem en27 (u : Array Value) (X : World) : (callFunc 27 u).run Tryz.prog X = .ok (.enter 27 u) X := Pl.enters Tryz.func27 (by kernel_rfl) rfl u X
theorem en29 (u : Array Value) (X : World) : (callFunc 29 u).run Tryz.prog X = .ok (.enter 29 u) X := Pl.enters Tryz.func29 (by kernel_rfl) rfl u X
theorem en31 (u : Array Value) (X : World) : (callFunc 31 u).run Tryz.prog X = .ok (.enter 31 u) X := Pl.enters Tryz.func31 (by kernel_rfl) rfl u X
theorem en33 (u : Array Value) (X : World) : (callFunc 33 u).run Tryz.prog X = .ok (.enter 33 u) X := Pl.enters Tryz.func33 (by kernel_rfl) rfl u X
end Ring6
open Ring6
set_option maxRecDepth 100000 in
set_option maxHeartbeats 4000000 in
theorem IntegerRing_walk (w : World) (sa : Bool) (Aa : Option Addr) (ca : Nat) (xsa : List Nat) (ua : U w (.slice Aa xsa.length ca) xsa) (sb : Bool) (Ab : Option Addr) (cb : Nat) (xsb : List Nat) (ub : U w (.slice Ab xsb.length cb) xsb) (sc : Bool) (Ac : Option Addr) (cc : Nat) (xsc : List Nat) (uc : U w (.slice Ac xsc.length cc) xsc)  :
    Calls Tryz.prog 5 #[.agg #[.bool sa, .slice Aa xsa.length ca, .bool sb, .slice Ab xsb.length cb, .bool sc, .slice Ac xsc.length cc]] w fun e w' => e = .returned (.bool true) ∧ Ext w w' := by
  have r_a : Ri w (.agg #[.bool sa, .slice Aa xsa.length ca]) sa xsa := ⟨_, _, rfl, ua⟩
  obtain ⟨a, e_a⟩ : ∃ z, sg sa (cutN xsa 40) = z := ⟨_, rfl⟩
  have b_a : Sz a 40 := by rw [← e_a]; exact Sz.cut ua sa 40 40 (Nat.le_refl _)
  have r_b : Ri w (.agg #[.bool sb, .slice Ab xsb.length cb]) sb xsb := ⟨_, _, rfl, ub⟩
  obtain ⟨b, e_b⟩ : ∃ z, sg sb (cutN xsb 40) = z := ⟨_, rfl⟩
  have b_b : Sz b 40 := by rw [← e_b]; exact Sz.cut ub sb 40 40 (Nat.le_refl _)
  have r_c : Ri w (.agg #[.bool sc, .slice Ac xsc.length cc]) sc xsc := ⟨_, _, rfl, uc⟩
  obtain ⟨c, e_c⟩ : ∃ z, sg sc (cutN xsc 40) = z := ⟨_, rfl⟩
  have b_c : Sz c 40 := by rw [← e_c]; exact Sz.cut uc sc 40 40 (Nat.le_refl _)
  refine Pl.calls_by (n := 118) (vs := [.agg #[.bool sa, .slice Aa xsa.length ca, .bool sb, .slice Ab xsb.length cb, .bool sc, .slice Ac xsc.length cc]]) Tryz.func5 rfl (by kernel_rfl) (by simp) ?_
  refine Pl.V_seq ?_
  refine Pl.V_region (by kernel_rfl) ?_
  refine boxA3 rfl rfl rfl rfl rfl (fun _ _ => trivial) ?_
  intro N1 w1 hB1 j0_1 j1_1 j2_1
  refine Pl.qA_assign trivial rfl rfl rfl rfl rfl ?_
  refine Pl.pA_end ?_
  refine Pl.V_seq ?_
  refine Pl.V_region (by kernel_rfl) ?_
  refine Pl.pA_call rfl rfl rfl rfl rfl en12 ?_
  refine Calls.mono (zhead _) ?_
  rintro e w2 ⟨rfl, hB2⟩
  refine ⟨_, rfl, trivial, ?_⟩
  refine Pl.qA_assign trivial rfl rfl rfl rfl rfl ?_
  refine Pl.pA_end ?_
  refine Pl.V_seq ?_
  refine Pl.V_region (by kernel_rfl) ?_
  refine idxA trivial rfl rfl rfl rfl rfl rfl (ix30 _) ?_
  have j0_1__2 := Io.ext j0_1 hB2
  refine Pl.qA_loadw trivial rfl rfl rfl rfl rfl (Io.load j0_1__2) ?_
  have r_a__2 := Ri.below r_a (Ext.below hB1 hB2)
  refine Pl.pA_call rfl rfl rfl rfl rfl en13 ?_
  refine Calls.mono (lmade _ _ sa xsa r_a__2 a e_a) ?_
  rintro e w3 ⟨v_x4, rfl, h_x4, hB3⟩
  refine ⟨_, rfl, trivial, ?_⟩
  obtain ⟨p_x4, A_x4, L_x4, c_x4, rfl⟩ := Zn.sh h_x4
  refine boxI rfl rfl rfl rfl rfl rfl rfl rfl (fun _ => rfl) (fun _ _ => trivial) ?_
  intro N5 w4 hB4 i_5
  refine Pl.pA_end ?_
  refine Pl.V_seq ?_
  refine Pl.V_region (by kernel_rfl) ?_
  refine idxA trivial rfl rfl rfl rfl rfl rfl (ix31 _) ?_
  have j1_1__4 := Io.ext j1_1 (Ext.below hB2 (Ext.below hB3 hB4))
  refine Pl.qA_loadw trivial rfl rfl rfl rfl rfl (Io.load j1_1__4) ?_
  have r_b__4 := Ri.below r_b (Ext.below hB1 (Ext.below hB2 (Ext.below hB3 hB4)))
  refine Pl.pA_call rfl rfl rfl rfl rfl en13 ?_
  refine Calls.mono (lmade _ _ sb xsb r_b__4 b e_b) ?_
  rintro e w5 ⟨v_x8, rfl, h_x8, hB5⟩
  refine ⟨_, rfl, trivial, ?_⟩
  obtain ⟨p_x8, A_x8, L_x8, c_x8, rfl⟩ := Zn.sh h_x8
  refine boxI rfl rfl rfl rfl rfl rfl rfl rfl (fun _ => rfl) (fun _ _ => trivial) ?_
  intro N9 w6 hB6 i_9
  refine Pl.pA_end ?_
  refine Pl.V_seq ?_
  refine Pl.V_region (by kernel_rfl) ?_
  refine idxA trivial rfl rfl rfl rfl rfl rfl (ix32 _) ?_
  have j2_1__6 := Io.ext j2_1 (Ext.below hB2 (Ext.below hB3 (Ext.below hB4 (Ext.below hB5 hB6))))
  refine Pl.qA_loadw trivial rfl rfl rfl rfl rfl (Io.load j2_1__6) ?_
  have r_c__6 := Ri.below r_c (Ext.below hB1 (Ext.below hB2 (Ext.below hB3 (Ext.below hB4 (Ext.below hB5 hB6)))))
  refine Pl.pA_call rfl rfl rfl rfl rfl en13 ?_
  refine Calls.mono (lmade _ _ sc xsc r_c__6 c e_c) ?_
  rintro e w7 ⟨v_x12, rfl, h_x12, hB7⟩
  refine ⟨_, rfl, trivial, ?_⟩
  obtain ⟨p_x12, A_x12, L_x12, c_x12, rfl⟩ := Zn.sh h_x12
  refine boxI rfl rfl rfl rfl rfl rfl rfl rfl (fun _ => rfl) (fun _ _ => trivial) ?_
  intro N13 w8 hB8 i_13
  refine Pl.pA_end ?_
  refine Pl.V_seq ?_
  refine Pl.V_region (by kernel_rfl) ?_
  have i_5__8 := Ib.ext i_5 (Ext.below hB5 (Ext.below hB6 (Ext.below hB7 hB8)))
  refine Pl.qA_loadw trivial rfl rfl rfl rfl rfl (Ib.load i_5__8) ?_
  have i_9__8 := Ib.ext i_9 (Ext.below hB7 hB8)
  refine Pl.qA_loadw trivial rfl rfl rfl rfl rfl (Ib.load i_9__8) ?_
  have h_x4__8 := Zn.below h_x4 (Ext.below hB4 (Ext.below hB5 (Ext.below hB6 (Ext.below hB7 hB8))))
  have h_x8__8 := Zn.below h_x8 (Ext.below hB6 (Ext.below hB7 hB8))
  refine Pl.pA_call rfl rfl rfl rfl rfl en29 ?_
  refine Calls.mono (zadd _ _ _ a b h_x4__8 h_x8__8 (Sz.le b_a (by decide)) (Sz.le b_b (by decide)) _ rfl) ?_
  rintro e w9 ⟨v_x18, rfl, h_x18, hB9⟩
  refine ⟨_, rfl, trivial, ?_⟩
  have b_x18 : Sz (a + b) 41 := Sz.add b_a b_b (by decide) (by decide)
  obtain ⟨p_x18, A_x18, L_x18, c_x18, rfl⟩ := Zn.sh h_x18
  refine boxI rfl rfl rfl rfl rfl rfl rfl rfl (fun _ => rfl) (fun _ _ => trivial) ?_
  intro N19 w10 hB10 i_19
  refine Pl.pA_end ?_
  refine Pl.V_seq ?_
  refine Pl.V_region (by kernel_rfl) ?_
  have i_5__10 := Ib.ext i_5__8 (Ext.below hB9 hB10)
  refine Pl.qA_loadw trivial rfl rfl rfl rfl rfl (Ib.load i_5__10) ?_
  have i_9__10 := Ib.ext i_9__8 (Ext.below hB9 hB10)
  refine Pl.qA_loadw trivial rfl rfl rfl rfl rfl (Ib.load i_9__10) ?_
  have h_x4__10 := Zn.below h_x4__8 (Ext.below hB9 hB10)
  have h_x8__10 := Zn.below h_x8__8 (Ext.below hB9 hB10)
  refine Pl.pA_call rfl rfl rfl rfl rfl en33 ?_
  refine Calls.mono (zmul _ _ _ a b h_x4__10 h_x8__10 (Sz.le b_a (by decide)) (Sz.le b_b (by decide)) _ rfl) ?_
  rintro e w11 ⟨v_x24, rfl, h_x24, hB11⟩
  refine ⟨_, rfl, trivial, ?_⟩
  have b_x24 : Sz (a * b) 80 := Sz.mul b_a b_b (by decide)
  obtain ⟨p_x24, A_x24, L_x24, c_x24, rfl⟩ := Zn.sh h_x24
  refine boxI rfl rfl rfl rfl rfl rfl rfl rfl (fun _ => rfl) (fun _ _ => trivial) ?_
  intro N25 w12 hB12 i_25
  refine Pl.pA_end ?_
  refine Pl.V_seq ?_
  refine Pl.V_seq ?_
  refine Pl.V_draw (S := fun X => Ext w12 X) [(true, 0, 0), (true, 1, 1), (true, 2, 3), (false, 3, 7), (false, 4, 15), (true, 5, 31), (true, 6, 63), (true, 7, 127), (true, 8, 255), (true, 9, 511), (false, 10, 1023), (false, 11, 2047), (true, 12, 4095), (true, 13, 8191), (true, 14, 16383), (true, 15, 32767), (false, 16, 65535), (true, 17, 131071), (true, 18, 262143), (true, 19, 524287), (true, 20, 1048575), (false, 21, 2097151), (true, 22, 4194303), (true, 23, 8388607)] fo Pl.post_panic (by kernel_rfl) (Ext.drew (Ext.refl _)) ?_
  generalize w12.drew = w13
  intro hB13
  have hS13 := hB13
  have i_19__12 := Ib.ext i_19 (Ext.below hB11 hB12)
  refine Pl.qA_load hS13 rfl rfl rfl rfl rfl (fun X hX => Ib.load (Ib.ext i_19__12 hX)) ?_
  have i_9__12 := Ib.ext i_9__10 (Ext.below hB11 hB12)
  refine Pl.qA_load hS13 rfl rfl rfl rfl rfl (fun X hX => Ib.load (Ib.ext i_9__12 hX)) ?_
  have i_5__12 := Ib.ext i_5__10 (Ext.below hB11 hB12)
  refine Pl.qA_load hS13 rfl rfl rfl rfl rfl (fun X hX => Ib.load (Ib.ext i_5__12 hX)) ?_
  have h_x8__13 := Zn.below h_x8__10 (Ext.below hB11 (Ext.below hB12 hB13))
  have h_x4__13 := Zn.below h_x4__10 (Ext.below hB11 (Ext.below hB12 hB13))
  refine Pl.pA_call rfl rfl rfl rfl rfl en29 ?_
  refine Calls.mono (zadd _ _ _ b a h_x8__13 h_x4__13 (Sz.le b_b (by decide)) (Sz.le b_a (by decide)) _ rfl) ?_
  rintro e w14 ⟨v_x28, rfl, h_x28, hB14⟩
  have hS14 := Ext.below hS13 hB14
  refine ⟨_, rfl, hS14, ?_⟩
  have b_x28 : Sz (b + a) 41 := Sz.add b_b b_a (by decide) (by decide)
  have h_x18__14 := Zn.below h_x18 (Ext.below hB10 (Ext.below hB11 (Ext.below hB12 (Ext.below hB13 hB14))))
  refine Pl.pA_call rfl rfl rfl rfl rfl en20 ?_
  refine Calls.mono (rzsame _ _ _ (a + b) (b + a) h_x18__14 h_x28 (Sz.le b_x18 (by decide)) (Sz.le b_x28 (by decide)) true (decide_eq_true (by grind))) ?_
  rintro e w15 ⟨rfl, hB15⟩
  have hS15 := Ext.below hS14 hB15
  refine ⟨_, rfl, hS15, ?_⟩
  refine Pl.qA_un (v := (.bool false)) hS15 rfl rfl rfl rfl rfl (fun X => rfl) ?_
  refine Pl.qA_move hS15 rfl rfl rfl rfl rfl ?_
  refine Pl.qA_load hS15 rfl rfl rfl rfl rfl (fun X hX => Ib.load (Ib.ext i_25 hX)) ?_
  refine Pl.qA_load hS15 rfl rfl rfl rfl rfl (fun X hX => Ib.load (Ib.ext i_9__12 hX)) ?_
  refine Pl.qA_load hS15 rfl rfl rfl rfl rfl (fun X hX => Ib.load (Ib.ext i_5__12 hX)) ?_
  have h_x8__15 := Zn.below h_x8__13 (Ext.below hB14 hB15)
  have h_x4__15 := Zn.below h_x4__13 (Ext.below hB14 hB15)
  refine Pl.pA_call rfl rfl rfl rfl rfl en33 ?_
  refine Calls.mono (zmul _ _ _ b a h_x8__15 h_x4__15 (Sz.le b_b (by decide)) (Sz.le b_a (by decide)) _ rfl) ?_
  rintro e w16 ⟨v_x32, rfl, h_x32, hB16⟩
  have hS16 := Ext.below hS15 hB16
  refine ⟨_, rfl, hS16, ?_⟩
  have b_x32 : Sz (b * a) 80 := Sz.mul b_b b_a (by decide)
  have h_x24__16 := Zn.below h_x24 (Ext.below hB12 (Ext.below hB13 (Ext.below hB14 (Ext.below hB15 hB16))))
  refine Pl.pA_call rfl rfl rfl rfl rfl en20 ?_
  refine Calls.mono (rzsame _ _ _ (a * b) (b * a) h_x24__16 h_x32 (Sz.le b_x24 (by decide)) (Sz.le b_x32 (by decide)) true (decide_eq_true (by grind))) ?_
  rintro e w17 ⟨rfl, hB17⟩
  have hS17 := Ext.below hS16 hB17
  refine ⟨_, rfl, hS17, ?_⟩
  refine Pl.qA_un (v := (.bool false)) hS17 rfl rfl rfl rfl rfl (fun X => rfl) ?_
  refine Pl.qA_pick hS17 rfl rfl rfl rfl rfl rfl ?_
  refine Pl.qA_move hS17 rfl rfl rfl rfl rfl ?_
  refine Pl.qA_load hS17 rfl rfl rfl rfl rfl (fun X hX => Ib.load (Ib.ext i_19__12 hX)) ?_
  have h_x18__17 := Zn.below h_x18__14 (Ext.below hB15 (Ext.below hB16 hB17))
  refine Pl.pA_call rfl rfl rfl rfl rfl en18 ?_
  refine Calls.mono (zright _ _ _ _ (Zn.ri h_x18__17) true (right_of b_x18 (by decide))) ?_
  rintro e w18 ⟨rfl, hB18⟩
  have hS18 := Ext.below hS17 hB18
  refine ⟨_, rfl, hS18, ?_⟩
  refine Pl.qA_un (v := (.bool false)) hS18 rfl rfl rfl rfl rfl (fun X => rfl) ?_
  refine Pl.qA_pick hS18 rfl rfl rfl rfl rfl rfl ?_
  refine Pl.qA_move hS18 rfl rfl rfl rfl rfl ?_
  refine Pl.qA_load hS18 rfl rfl rfl rfl rfl (fun X hX => Ib.load (Ib.ext i_25 hX)) ?_
  have h_x24__18 := Zn.below h_x24__16 (Ext.below hB17 hB18)
  refine Pl.pA_call rfl rfl rfl rfl rfl en18 ?_
  refine Calls.mono (zright _ _ _ _ (Zn.ri h_x24__18) true (right_of b_x24 (by decide))) ?_
  rintro e w19 ⟨rfl, hB19⟩
  have hS19 := Ext.below hS18 hB19
  refine ⟨_, rfl, hS19, ?_⟩
  refine Pl.qA_un (v := (.bool false)) hS19 rfl rfl rfl rfl rfl (fun X => rfl) ?_
  refine Pl.qA_pick hS19 rfl rfl rfl rfl rfl rfl ?_
  refine Pl.pA_end ?_
  refine Pl.V_false rfl ?_
  refine Pl.V_skip ?_
  refine Pl.V_seq ?_
  refine Pl.V_seq ?_
  refine Pl.V_draw (S := fun X => Ext w19 X) [(true, 0, 0), (true, 1, 1), (true, 3, 3), (true, 4, 11), (true, 5, 27), (false, 2, 59), (false, 6, 63), (false, 7, 127), (false, 8, 255), (true, 9, 511), (true, 10, 1023), (true, 11, 2047), (true, 12, 4095), (true, 14, 8191), (true, 15, 24575), (true, 16, 57343), (false, 13, 122879), (false, 17, 131071), (false, 18, 262143), (false, 19, 524287), (true, 20, 1048575), (true, 21, 2097151)] fo Pl.post_panic (by kernel_rfl) (Ext.drew (Ext.refl _)) ?_
  generalize w19.drew = w20
  intro hB20
  have hS20 := hB20
  have i_19__19 := Ib.ext i_19__12 (Ext.below hB13 (Ext.below hB14 (Ext.below hB15 (Ext.below hB16 (Ext.below hB17 (Ext.below hB18 hB19))))))
  refine Pl.qA_load hS20 rfl rfl rfl rfl rfl (fun X hX => Ib.load (Ib.ext i_19__19 hX)) ?_
  have i_13__19 := Ib.ext i_13 (Ext.below hB9 (Ext.below hB10 (Ext.below hB11 (Ext.below hB12 (Ext.below hB13 (Ext.below hB14 (Ext.below hB15 (Ext.below hB16 (Ext.below hB17 (Ext.below hB18 hB19))))))))))
  refine Pl.qA_load hS20 rfl rfl rfl rfl rfl (fun X hX => Ib.load (Ib.ext i_13__19 hX)) ?_
  have i_5__19 := Ib.ext i_5__12 (Ext.below hB13 (Ext.below hB14 (Ext.below hB15 (Ext.below hB16 (Ext.below hB17 (Ext.below hB18 hB19))))))
  refine Pl.qA_load hS20 rfl rfl rfl rfl rfl (fun X hX => Ib.load (Ib.ext i_5__19 hX)) ?_
  have i_9__19 := Ib.ext i_9__12 (Ext.below hB13 (Ext.below hB14 (Ext.below hB15 (Ext.below hB16 (Ext.below hB17 (Ext.below hB18 hB19))))))
  refine Pl.qA_load hS20 rfl rfl rfl rfl rfl (fun X hX => Ib.load (Ib.ext i_9__19 hX)) ?_
  refine Pl.qA_load hS20 rfl rfl rfl rfl rfl (fun X hX => Ib.load (Ib.ext i_13__19 hX)) ?_
  have h_x18__20 := Zn.below h_x18__17 (Ext.below hB18 (Ext.below hB19 hB20))
  have h_x12__20 := Zn.below h_x12 (Ext.below hB8 (Ext.below hB9 (Ext.below hB10 (Ext.below hB11 (Ext.below hB12 (Ext.below hB13 (Ext.below hB14 (Ext.below hB15 (Ext.below hB16 (Ext.below hB17 (Ext.below hB18 (Ext.below hB19 hB20))))))))))))
  refine Pl.pA_call rfl rfl rfl rfl rfl en29 ?_
  refine Calls.mono (zadd _ _ _ (a + b) c h_x18__20 h_x12__20 (Sz.le b_x18 (by decide)) (Sz.le b_c (by decide)) _ rfl) ?_
  rintro e w21 ⟨v_x38, rfl, h_x38, hB21⟩
  have hS21 := Ext.below hS20 hB21
  refine ⟨_, rfl, hS21, ?_⟩
  have b_x38 : Sz ((a + b) + c) 42 := Sz.add b_x18 b_c (by decide) (by decide)
  have h_x8__21 := Zn.below h_x8__15 (Ext.below hB16 (Ext.below hB17 (Ext.below hB18 (Ext.below hB19 (Ext.below hB20 hB21)))))
  have h_x12__21 := Zn.below h_x12__20 hB21
  refine Pl.pA_call rfl rfl rfl rfl rfl en29 ?_
  refine Calls.mono (zadd _ _ _ b c h_x8__21 h_x12__21 (Sz.le b_b (by decide)) (Sz.le b_c (by decide)) _ rfl) ?_
  rintro e w22 ⟨v_x41, rfl, h_x41, hB22⟩
  have hS22 := Ext.below hS21 hB22
  refine ⟨_, rfl, hS22, ?_⟩
  have b_x41 : Sz (b + c) 41 := Sz.add b_b b_c (by decide) (by decide)
  have h_x4__22 := Zn.below h_x4__15 (Ext.below hB16 (Ext.below hB17 (Ext.below hB18 (Ext.below hB19 (Ext.below hB20 (Ext.below hB21 hB22))))))
  refine Pl.pA_call rfl rfl rfl rfl rfl en29 ?_
  refine Calls.mono (zadd _ _ _ a (b + c) h_x4__22 h_x41 (Sz.le b_a (by decide)) (Sz.le b_x41 (by decide)) _ rfl) ?_
  rintro e w23 ⟨v_x43, rfl, h_x43, hB23⟩
  have hS23 := Ext.below hS22 hB23
  refine ⟨_, rfl, hS23, ?_⟩
  have b_x43 : Sz (a + (b + c)) 42 := Sz.add b_a b_x41 (by decide) (by decide)
  have h_x38__23 := Zn.below h_x38 (Ext.below hB22 hB23)
  refine Pl.pA_call rfl rfl rfl rfl rfl en20 ?_
  refine Calls.mono (rzsame _ _ _ ((a + b) + c) (a + (b + c)) h_x38__23 h_x43 (Sz.le b_x38 (by decide)) (Sz.le b_x43 (by decide)) true (decide_eq_true (by grind))) ?_
  rintro e w24 ⟨rfl, hB24⟩
  have hS24 := Ext.below hS23 hB24
  refine ⟨_, rfl, hS24, ?_⟩
  refine Pl.qA_un (v := (.bool false)) hS24 rfl rfl rfl rfl rfl (fun X => rfl) ?_
  refine Pl.qA_move hS24 rfl rfl rfl rfl rfl ?_
  have i_25__19 := Ib.ext i_25 (Ext.below hB13 (Ext.below hB14 (Ext.below hB15 (Ext.below hB16 (Ext.below hB17 (Ext.below hB18 hB19))))))
  refine Pl.qA_load hS24 rfl rfl rfl rfl rfl (fun X hX => Ib.load (Ib.ext i_25__19 hX)) ?_
  refine Pl.qA_load hS24 rfl rfl rfl rfl rfl (fun X hX => Ib.load (Ib.ext i_13__19 hX)) ?_
  refine Pl.qA_load hS24 rfl rfl rfl rfl rfl (fun X hX => Ib.load (Ib.ext i_5__19 hX)) ?_
  refine Pl.qA_load hS24 rfl rfl rfl rfl rfl (fun X hX => Ib.load (Ib.ext i_9__19 hX)) ?_
  refine Pl.qA_load hS24 rfl rfl rfl rfl rfl (fun X hX => Ib.load (Ib.ext i_13__19 hX)) ?_
  have h_x24__24 := Zn.below h_x24__18 (Ext.below hB19 (Ext.below hB20 (Ext.below hB21 (Ext.below hB22 (Ext.below hB23 hB24)))))
  have h_x12__24 := Zn.below h_x12__21 (Ext.below hB22 (Ext.below hB23 hB24))
  refine Pl.pA_call rfl rfl rfl rfl rfl en33 ?_
  refine Calls.mono (zmul _ _ _ (a * b) c h_x24__24 h_x12__24 (Sz.le b_x24 (by decide)) (Sz.le b_c (by decide)) _ rfl) ?_
  rintro e w25 ⟨v_x47, rfl, h_x47, hB25⟩
  have hS25 := Ext.below hS24 hB25
  refine ⟨_, rfl, hS25, ?_⟩
  have b_x47 : Sz ((a * b) * c) 120 := Sz.mul b_x24 b_c (by decide)
  have h_x8__25 := Zn.below h_x8__21 (Ext.below hB22 (Ext.below hB23 (Ext.below hB24 hB25)))
  have h_x12__25 := Zn.below h_x12__24 hB25
  refine Pl.pA_call rfl rfl rfl rfl rfl en33 ?_
  refine Calls.mono (zmul _ _ _ b c h_x8__25 h_x12__25 (Sz.le b_b (by decide)) (Sz.le b_c (by decide)) _ rfl) ?_
  rintro e w26 ⟨v_x50, rfl, h_x50, hB26⟩
  have hS26 := Ext.below hS25 hB26
  refine ⟨_, rfl, hS26, ?_⟩
  have b_x50 : Sz (b * c) 80 := Sz.mul b_b b_c (by decide)
  have h_x4__26 := Zn.below h_x4__22 (Ext.below hB23 (Ext.below hB24 (Ext.below hB25 hB26)))
  refine Pl.pA_call rfl rfl rfl rfl rfl en33 ?_
  refine Calls.mono (zmul _ _ _ a (b * c) h_x4__26 h_x50 (Sz.le b_a (by decide)) (Sz.le b_x50 (by decide)) _ rfl) ?_
  rintro e w27 ⟨v_x52, rfl, h_x52, hB27⟩
  have hS27 := Ext.below hS26 hB27
  refine ⟨_, rfl, hS27, ?_⟩
  have b_x52 : Sz (a * (b * c)) 120 := Sz.mul b_a b_x50 (by decide)
  have h_x47__27 := Zn.below h_x47 (Ext.below hB26 hB27)
  refine Pl.pA_call rfl rfl rfl rfl rfl en20 ?_
  refine Calls.mono (rzsame _ _ _ ((a * b) * c) (a * (b * c)) h_x47__27 h_x52 (Sz.le b_x47 (by decide)) (Sz.le b_x52 (by decide)) true (decide_eq_true (by grind))) ?_
  rintro e w28 ⟨rfl, hB28⟩
  have hS28 := Ext.below hS27 hB28
  refine ⟨_, rfl, hS28, ?_⟩
  refine Pl.qA_un (v := (.bool false)) hS28 rfl rfl rfl rfl rfl (fun X => rfl) ?_
  refine Pl.qA_pick hS28 rfl rfl rfl rfl rfl rfl ?_
  refine Pl.pA_end ?_
  refine Pl.V_false rfl ?_
  refine Pl.V_skip ?_
  refine Pl.V_seq ?_
  refine Pl.V_draw (S := fun X => Ext w28 X) [(true, 0, 0), (true, 1, 1), (true, 2, 3), (true, 3, 7), (true, 5, 15), (true, 7, 47), (true, 8, 175), (true, 9, 431), (false, 4, 943), (false, 6, 959), (false, 10, 1023), (false, 11, 2047), (false, 12, 4095), (true, 13, 8191), (true, 14, 16383), (true, 15, 32767), (true, 16, 65535), (true, 18, 131071), (true, 20, 393215), (false, 17, 1441791), (false, 19, 1572863), (false, 21, 2097151), (true, 22, 4194303), (true, 23, 8388607), (true, 24, 16777215), (true, 25, 33554431), (true, 27, 67108863), (false, 26, 201326591), (false, 28, 268435455), (true, 29, 536870911), (true, 30, 1073741823), (true, 31, 2147483647), (true, 34, 4294967295), (false, 32, 21474836479), (false, 33, 25769803775), (false, 35, 34359738367), (true, 36, 68719476735), (true, 37, 137438953471), (true, 38, 274877906943), (true, 39, 549755813887), (true, 41, 1099511627775), (true, 42, 3298534883327), (false, 40, 7696581394431), (false, 43, 8796093022207), (false, 44, 17592186044415), (false, 45, 35184372088831), (true, 46, 70368744177663), (true, 47, 140737488355327)] fo Pl.post_panic (by kernel_rfl) (Ext.drew (Ext.refl _)) ?_
  generalize w28.drew = w29
  intro hB29
  have hS29 := hB29
  refine Pl.qA_move hS29 rfl rfl rfl rfl rfl ?_
  refine Pl.qA_move hS29 rfl rfl rfl rfl rfl ?_
  have i_9__28 := Ib.ext i_9__19 (Ext.below hB20 (Ext.below hB21 (Ext.below hB22 (Ext.below hB23 (Ext.below hB24 (Ext.below hB25 (Ext.below hB26 (Ext.below hB27 hB28))))))))
  refine Pl.qA_load hS29 rfl rfl rfl rfl rfl (fun X hX => Ib.load (Ib.ext i_9__28 hX)) ?_
  have i_13__28 := Ib.ext i_13__19 (Ext.below hB20 (Ext.below hB21 (Ext.below hB22 (Ext.below hB23 (Ext.below hB24 (Ext.below hB25 (Ext.below hB26 (Ext.below hB27 hB28))))))))
  refine Pl.qA_load hS29 rfl rfl rfl rfl rfl (fun X hX => Ib.load (Ib.ext i_13__28 hX)) ?_
  have i_5__28 := Ib.ext i_5__19 (Ext.below hB20 (Ext.below hB21 (Ext.below hB22 (Ext.below hB23 (Ext.below hB24 (Ext.below hB25 (Ext.below hB26 (Ext.below hB27 hB28))))))))
  refine Pl.qA_load hS29 rfl rfl rfl rfl rfl (fun X hX => Ib.load (Ib.ext i_5__28 hX)) ?_
  have i_25__28 := Ib.ext i_25__19 (Ext.below hB20 (Ext.below hB21 (Ext.below hB22 (Ext.below hB23 (Ext.below hB24 (Ext.below hB25 (Ext.below hB26 (Ext.below hB27 hB28))))))))
  refine Pl.qA_load hS29 rfl rfl rfl rfl rfl (fun X hX => Ib.load (Ib.ext i_25__28 hX)) ?_
  refine Pl.qA_load hS29 rfl rfl rfl rfl rfl (fun X hX => Ib.load (Ib.ext i_5__28 hX)) ?_
  refine Pl.qA_load hS29 rfl rfl rfl rfl rfl (fun X hX => Ib.load (Ib.ext i_13__28 hX)) ?_
  have h_x8__29 := Zn.below h_x8__25 (Ext.below hB26 (Ext.below hB27 (Ext.below hB28 hB29)))
  have h_x12__29 := Zn.below h_x12__25 (Ext.below hB26 (Ext.below hB27 (Ext.below hB28 hB29)))
  refine Pl.pA_call rfl rfl rfl rfl rfl en29 ?_
  refine Calls.mono (zadd _ _ _ b c h_x8__29 h_x12__29 (Sz.le b_b (by decide)) (Sz.le b_c (by decide)) _ rfl) ?_
  rintro e w30 ⟨v_x56, rfl, h_x56, hB30⟩
  have hS30 := Ext.below hS29 hB30
  refine ⟨_, rfl, hS30, ?_⟩
  have b_x56 : Sz (b + c) 41 := Sz.add b_b b_c (by decide) (by decide)
  have h_x4__30 := Zn.below h_x4__26 (Ext.below hB27 (Ext.below hB28 (Ext.below hB29 hB30)))
  refine Pl.pA_call rfl rfl rfl rfl rfl en33 ?_
  refine Calls.mono (zmul _ _ _ (b + c) a h_x56 h_x4__30 (Sz.le b_x56 (by decide)) (Sz.le b_a (by decide)) _ rfl) ?_
  rintro e w31 ⟨v_x58, rfl, h_x58, hB31⟩
  have hS31 := Ext.below hS30 hB31
  refine ⟨_, rfl, hS31, ?_⟩
  have b_x58 : Sz ((b + c) * a) 81 := Sz.mul b_x56 b_a (by decide)
  have h_x4__31 := Zn.below h_x4__30 hB31
  have h_x12__31 := Zn.below h_x12__29 (Ext.below hB30 hB31)
  refine Pl.pA_call rfl rfl rfl rfl rfl en33 ?_
  refine Calls.mono (zmul _ _ _ a c h_x4__31 h_x12__31 (Sz.le b_a (by decide)) (Sz.le b_c (by decide)) _ rfl) ?_
  rintro e w32 ⟨v_x61, rfl, h_x61, hB32⟩
  have hS32 := Ext.below hS31 hB32
  refine ⟨_, rfl, hS32, ?_⟩
  have b_x61 : Sz (a * c) 80 := Sz.mul b_a b_c (by decide)
  have h_x24__32 := Zn.below h_x24__24 (Ext.below hB25 (Ext.below hB26 (Ext.below hB27 (Ext.below hB28 (Ext.below hB29 (Ext.below hB30 (Ext.below hB31 hB32)))))))
  refine Pl.pA_call rfl rfl rfl rfl rfl en29 ?_
  refine Calls.mono (zadd _ _ _ (a * b) (a * c) h_x24__32 h_x61 (Sz.le b_x24 (by decide)) (Sz.le b_x61 (by decide)) _ rfl) ?_
  rintro e w33 ⟨v_x63, rfl, h_x63, hB33⟩
  have hS33 := Ext.below hS32 hB33
  refine ⟨_, rfl, hS33, ?_⟩
  have b_x63 : Sz ((a * b) + (a * c)) 81 := Sz.add b_x24 b_x61 (by decide) (by decide)
  have h_x58__33 := Zn.below h_x58 (Ext.below hB32 hB33)
  refine Pl.pA_call rfl rfl rfl rfl rfl en20 ?_
  refine Calls.mono (rzsame _ _ _ ((b + c) * a) ((a * b) + (a * c)) h_x58__33 h_x63 (Sz.le b_x58 (by decide)) (Sz.le b_x63 (by decide)) true (decide_eq_true (by grind))) ?_
  rintro e w34 ⟨rfl, hB34⟩
  have hS34 := Ext.below hS33 hB34
  refine ⟨_, rfl, hS34, ?_⟩
  refine Pl.qA_pick hS34 rfl rfl rfl rfl rfl rfl ?_
  refine Pl.qA_move hS34 rfl rfl rfl rfl rfl ?_
  refine Pl.qA_load hS34 rfl rfl rfl rfl rfl (fun X hX => Ib.load (Ib.ext i_5__28 hX)) ?_
  refine Pl.qA_load hS34 rfl rfl rfl rfl rfl (fun X hX => Ib.load (Ib.ext i_9__28 hX)) ?_
  refine Pl.qA_load hS34 rfl rfl rfl rfl rfl (fun X hX => Ib.load (Ib.ext i_9__28 hX)) ?_
  refine Pl.qA_load hS34 rfl rfl rfl rfl rfl (fun X hX => Ib.load (Ib.ext i_5__28 hX)) ?_
  have h_x4__34 := Zn.below h_x4__31 (Ext.below hB32 (Ext.below hB33 hB34))
  have h_x8__34 := Zn.below h_x8__29 (Ext.below hB30 (Ext.below hB31 (Ext.below hB32 (Ext.below hB33 hB34))))
  refine Pl.pA_call rfl rfl rfl rfl rfl en31 ?_
  refine Calls.mono (zsub _ _ _ a b h_x4__34 h_x8__34 (Sz.le b_a (by decide)) (Sz.le b_b (by decide)) _ rfl) ?_
  rintro e w35 ⟨v_x67, rfl, h_x67, hB35⟩
  have hS35 := Ext.below hS34 hB35
  refine ⟨_, rfl, hS35, ?_⟩
  have b_x67 : Sz (a - b) 41 := Sz.sub b_a b_b (by decide) (by decide)
  have h_x8__35 := Zn.below h_x8__34 hB35
  refine Pl.pA_call rfl rfl rfl rfl rfl en29 ?_
  refine Calls.mono (zadd _ _ _ (a - b) b h_x67 h_x8__35 (Sz.le b_x67 (by decide)) (Sz.le b_b (by decide)) _ rfl) ?_
  rintro e w36 ⟨v_x69, rfl, h_x69, hB36⟩
  have hS36 := Ext.below hS35 hB36
  refine ⟨_, rfl, hS36, ?_⟩
  have b_x69 : Sz ((a - b) + b) 42 := Sz.add b_x67 b_b (by decide) (by decide)
  have h_x4__36 := Zn.below h_x4__34 (Ext.below hB35 hB36)
  refine Pl.pA_call rfl rfl rfl rfl rfl en20 ?_
  refine Calls.mono (rzsame _ _ _ ((a - b) + b) a h_x69 h_x4__36 (Sz.le b_x69 (by decide)) (Sz.le b_a (by decide)) true (decide_eq_true (by grind))) ?_
  rintro e w37 ⟨rfl, hB37⟩
  have hS37 := Ext.below hS36 hB37
  refine ⟨_, rfl, hS37, ?_⟩
  refine Pl.qA_pick hS37 rfl rfl rfl rfl rfl rfl ?_
  refine Pl.qA_move hS37 rfl rfl rfl rfl rfl ?_
  refine Pl.qA_load hS37 rfl rfl rfl rfl rfl (fun X hX => Ib.load (Ib.ext i_5__28 hX)) ?_
  refine Pl.qA_load hS37 rfl rfl rfl rfl rfl (fun X hX => Ib.load (Ib.ext i_5__28 hX)) ?_
  refine Pl.pA_pure (v := .agg #[.bool false, .slice none 0 0]) hS37 rfl rfl rfl (fun ρ hρ X _ => by simp [go_sem]) ?_
  have h_x4__37 := Zn.below h_x4__36 hB37
  refine Pl.pA_call rfl rfl rfl rfl rfl en31 ?_
  refine Calls.mono (zsub _ _ _ a a h_x4__37 h_x4__37 (Sz.le b_a (by decide)) (Sz.le b_a (by decide)) _ rfl) ?_
  rintro e w38 ⟨v_x72, rfl, h_x72, hB38⟩
  have hS38 := Ext.below hS37 hB38
  refine ⟨_, rfl, hS38, ?_⟩
  have b_x72 : Sz (a - a) 41 := Sz.sub b_a b_a (by decide) (by decide)
  refine Pl.pA_call rfl rfl rfl rfl rfl en20 ?_
  refine Calls.mono (rzsame _ _ _ (a - a) 0 h_x72 (Zn.zero _ _ _) (Sz.le b_x72 (by decide)) (Sz.zero) true (decide_eq_true (by grind))) ?_
  rintro e w39 ⟨rfl, hB39⟩
  have hS39 := Ext.below hS38 hB39
  refine ⟨_, rfl, hS39, ?_⟩
  refine Pl.qA_pick hS39 rfl rfl rfl rfl rfl rfl ?_
  refine Pl.qA_move hS39 rfl rfl rfl rfl rfl ?_
  refine Pl.qA_load hS39 rfl rfl rfl rfl rfl (fun X hX => Ib.load (Ib.ext i_5__28 hX)) ?_
  refine Pl.qA_load hS39 rfl rfl rfl rfl rfl (fun X hX => Ib.load (Ib.ext i_5__28 hX)) ?_
  have h_x4__39 := Zn.below h_x4__37 (Ext.below hB38 hB39)
  refine Pl.pA_call rfl rfl rfl rfl rfl en27 ?_
  refine Calls.mono (zneg _ _ a h_x4__39 _ rfl) ?_
  rintro e w40 ⟨v_x74, rfl, h_x74, hB40⟩
  have hS40 := Ext.below hS39 hB40
  refine ⟨_, rfl, hS40, ?_⟩
  have b_x74 : Sz (-a) 40 := Sz.neg b_a
  refine Pl.pA_call rfl rfl rfl rfl rfl en27 ?_
  refine Calls.mono (zneg _ _ (-a) h_x74 _ rfl) ?_
  rintro e w41 ⟨v_x75, rfl, h_x75, hB41⟩
  have hS41 := Ext.below hS40 hB41
  refine ⟨_, rfl, hS41, ?_⟩
  have b_x75 : Sz (-(-a)) 40 := Sz.neg b_x74
  have h_x4__41 := Zn.below h_x4__39 (Ext.below hB40 hB41)
  refine Pl.pA_call rfl rfl rfl rfl rfl en20 ?_
  refine Calls.mono (rzsame _ _ _ (-(-a)) a h_x75 h_x4__41 (Sz.le b_x75 (by decide)) (Sz.le b_a (by decide)) true (decide_eq_true (by grind))) ?_
  rintro e w42 ⟨rfl, hB42⟩
  have hS42 := Ext.below hS41 hB42
  refine ⟨_, rfl, hS42, ?_⟩
  refine Pl.qA_pick hS42 rfl rfl rfl rfl rfl rfl ?_
  refine Pl.qA_move hS42 rfl rfl rfl rfl rfl ?_
  refine Pl.qA_load hS42 rfl rfl rfl rfl rfl (fun X hX => Ib.load (Ib.ext i_5__28 hX)) ?_
  refine Pl.qA_load hS42 rfl rfl rfl rfl rfl (fun X hX => Ib.load (Ib.ext i_9__28 hX)) ?_
  refine Pl.qA_load hS42 rfl rfl rfl rfl rfl (fun X hX => Ib.load (Ib.ext i_9__28 hX)) ?_
  refine Pl.qA_load hS42 rfl rfl rfl rfl rfl (fun X hX => Ib.load (Ib.ext i_5__28 hX)) ?_
  have h_x4__42 := Zn.below h_x4__41 hB42
  have h_x8__42 := Zn.below h_x8__35 (Ext.below hB36 (Ext.below hB37 (Ext.below hB38 (Ext.below hB39 (Ext.below hB40 (Ext.below hB41 hB42))))))
  refine Pl.pA_call rfl rfl rfl rfl rfl en31 ?_
  refine Calls.mono (zsub _ _ _ a b h_x4__42 h_x8__42 (Sz.le b_a (by decide)) (Sz.le b_b (by decide)) _ rfl) ?_
  rintro e w43 ⟨v_x79, rfl, h_x79, hB43⟩
  have hS43 := Ext.below hS42 hB43
  refine ⟨_, rfl, hS43, ?_⟩
  have b_x79 : Sz (a - b) 41 := Sz.sub b_a b_b (by decide) (by decide)
  have h_x8__43 := Zn.below h_x8__42 hB43
  have h_x4__43 := Zn.below h_x4__42 hB43
  refine Pl.pA_call rfl rfl rfl rfl rfl en31 ?_
  refine Calls.mono (zsub _ _ _ b a h_x8__43 h_x4__43 (Sz.le b_b (by decide)) (Sz.le b_a (by decide)) _ rfl) ?_
  rintro e w44 ⟨v_x82, rfl, h_x82, hB44⟩
  have hS44 := Ext.below hS43 hB44
  refine ⟨_, rfl, hS44, ?_⟩
  have b_x82 : Sz (b - a) 41 := Sz.sub b_b b_a (by decide) (by decide)
  refine Pl.pA_call rfl rfl rfl rfl rfl en27 ?_
  refine Calls.mono (zneg _ _ (b - a) h_x82 _ rfl) ?_
  rintro e w45 ⟨v_x83, rfl, h_x83, hB45⟩
  have hS45 := Ext.below hS44 hB45
  refine ⟨_, rfl, hS45, ?_⟩
  have b_x83 : Sz (-(b - a)) 41 := Sz.neg b_x82
  have h_x79__45 := Zn.below h_x79 (Ext.below hB44 hB45)
  refine Pl.pA_call rfl rfl rfl rfl rfl en20 ?_
  refine Calls.mono (rzsame _ _ _ (a - b) (-(b - a)) h_x79__45 h_x83 (Sz.le b_x79 (by decide)) (Sz.le b_x83 (by decide)) true (decide_eq_true (by grind))) ?_
  rintro e w46 ⟨rfl, hB46⟩
  have hS46 := Ext.below hS45 hB46
  refine ⟨_, rfl, hS46, ?_⟩
  refine Pl.qA_pick hS46 rfl rfl rfl rfl rfl rfl ?_
  refine Pl.qA_assign hS46 rfl rfl rfl rfl rfl ?_
  refine Pl.pA_end ?_
  refine Pl.post_ret rfl rfl ?_
  exact ⟨rfl, (Ext.below hB1 (Ext.below hB2 (Ext.below hB3 (Ext.below hB4 (Ext.below hB5 (Ext.below hB6 (Ext.below hB7 (Ext.below hB8 (Ext.below hB9 (Ext.below hB10 (Ext.below hB11 (Ext.below hB12 (Ext.below hB13 (Ext.below hB14 (Ext.below hB15 (Ext.below hB16 (Ext.below hB17 (Ext.below hB18 (Ext.below hB19 (Ext.below hB20 (Ext.below hB21 (Ext.below hB22 (Ext.below hB23 (Ext.below hB24 (Ext.below hB25 (Ext.below hB26 (Ext.below hB27 (Ext.below hB28 (Ext.below hB29 (Ext.below hB30 (Ext.below hB31 (Ext.below hB32 (Ext.below hB33 (Ext.below hB34 (Ext.below hB35 (Ext.below hB36 (Ext.below hB37 (Ext.below hB38 (Ext.below hB39 (Ext.below hB40 (Ext.below hB41 (Ext.below hB42 (Ext.below hB43 (Ext.below hB44 (Ext.below hB45 hB46)))))))))))))))))))))))))))))))))))))))))))))⟩
end Go.Proofs.YtfkcdmbiihkiiaaGreatDoor
/- Proved: what the statement IntegerRing does: sums and products turned about, put together, taken apart: it tells true. No condition. -/
namespace Go.Proofs.YtfkcdmbiihkiiaaGreatDoor
open Go.ChangeShapes Go.WideShapes Go.ChangeAt Go.RowKit
set_option linter.unusedVariables false
set_option maxHeartbeats 2000000

set_option maxRecDepth 100000 in
theorem lifted_IntegerRing (os : Os) (started : os.Started) (H : Type) (enc : TypeId × Value → H) :
    ReturnsInHanded {} Tryz.checked os 5 .any (fun w args => (Rows.integerRingSpec.pre enc Tryz.prog Tryz.f5 [] false w args ∧ laidMetH Tryz.prog laidV w) ∧ sizedMet enc Tryz.prog Tryz.f5 (OpenSpec.ofChange Rows.integerRingSpec) false w args)
      (Rows.integerRingSpec.post enc Tryz.prog Tryz.f5 false true false false) := by
  refine returnsInHanded_of_change_and (C := Tryz.checked) (X := fun w _ => laidMetH Tryz.prog laidV w) (fun _ _ _ hh h => h.of_heap hh) own started (by kernel_rfl) Tryz.func5
    (ChangeSpec.witness_shaped (enc := enc) (C := Tryz.checked) (os := os) (X := fun w _ => laidMetH Tryz.prog laidV w) false (World.laidAll Tryz.prog os laidV) #[.agg #[.bool false, .slice none 0 0, .bool false, .slice none 0 0, .bool false, .slice none 0 0]] 8 (World.laidAll_os _ _ _) (World.shaped_of_ZipB (by kernel_rfl) (by kernel_rfl)) (by kernel_rfl) (by kernel_rfl) (by kernel_rfl) (laid_met os _)) ?_
  intro W base args ds gs before hval0 hW _ _ hL _
  have hval : ∀ (j : Nat) t v, Tryz.f5.params[j]? = some t → args[j]? = some v → Value.okWide Tryz.prog W .any base t v := hval0
  have hW' := hW
  obtain ⟨p, q, hA0, hV, rfl, hfz, hnd⟩ := hW
  have hlt : ∀ x ∈ p ++ q, x.block < W.heap.size := fun x hx => hW'.lt x hx
  have hA : DataW.TrodAll enc Tryz.prog W 0 (fun _ => true) true Tryz.f5.params.toList args.toList ds p := hA0
  rw [Tryz.params5] at hA hval
  clear hA0 hval0
  obtain ⟨v0, vs0, d0, ds0, p0, q0, hargs0, rfl, rfl, h0, r0⟩ := trodAll_cons hA
  obtain ⟨hn1, rfl, rfl⟩ := trodAll_nil r0
  subst hn1
  obtain rfl : args = #[v0] := by cases args; simp_all
  obtain ⟨rfl, rfl⟩ := trodVars_none hV
  obtain ⟨s0a, s0b, s0c, A0a, A0b, A0c, c0a, c0b, c0c, x0a, x0b, x0c, hv0, u0a, u0b, u0c⟩ := open_I3 (hval 0 46 v0 rfl rfl) h0
  subst hv0
  refine (IntegerRing_walk W s0a A0a c0a x0a u0a s0b A0b c0b x0b u0b s0c A0c c0c x0c u0c).mono fun e W' ⟨he, hB⟩ => ?_
  subst he
  exact ⟨_, rfl, law_post hW' rfl (by rw [Tryz.params5]; decide +kernel) rfl rfl rfl rfl hB⟩

theorem integerRing_said : Rows.IntegerRingSaid :=
  OpenClaim.holds_of_wide 5 Tryz.f5 rfl rfl rfl rfl rfl rfl rfl ⟨rfl, rfl, rfl, rfl, rfl⟩ rfl rfl rfl rfl rfl (by kernel_rfl) Tryz.func5 (by kernel_rfl)
    (of_decide_eq_true (by kernel_rfl)) (by unfold Func.isWrapper; first | (rw [if_pos (by decide +kernel)]; kernel_rfl) | (rw [if_neg (by decide +kernel)]; exact ⟨rfl, rfl⟩))
    (fun os started H enc _ => lifted_IntegerRing os started H enc)
/-- The statement: the card, tied. -/
theorem integerRing_holds : Rows.IntegerRingCardSaid :=
  Claim7.holds_tied_plain_at .later [] [.data, .wider, .pinned] true Rows.integerRingCard.stood.harness false
    integerRing_said (fun _ h => by cases h) (by kernel_rfl) (fun _ h => by cases h) integerRing_row_tie rfl ⟨rfl, rfl⟩ (by kernel_rfl) rfl
    (fun f fn hf hfn => by
      obtain rfl : f = 5 := Option.some.inj ((show Tryz.prog.funcNamed "ziggurat/zigguratlaw06.IntegerRing" = some 5 by kernel_rfl).symm.trans hf) |>.symm
      obtain rfl : fn = Tryz.f5 := (Option.some.inj (Tryz.func5.symm.trans hfn)).symm
      exact ⟨by kernel_rfl, fun j t ht => by
        rw [Tryz.params5] at ht
        have hm : t ∈ [46] := by simpa using Array.mem_of_getElem? ht
        have hall : ([46].all fun u => !Tryz.prog.wantsStandIn u) = true := by kernel_rfl
        exact (show Tryz.prog.wantsStandIn t = false by simpa using List.all_eq_true.1 hall t hm)⟩)
    (by kernel_rfl)
end Go.Proofs.YtfkcdmbiihkiiaaGreatDoor
