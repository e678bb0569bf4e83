/- The calls whose answers the document fixes. -/
import Derived.Test.YtofhpfmgopmcmaaDoorH5
namespace Go.Proofs.YtofhpfmgopmcmaaDoor
open Go.RowKit
set_option linter.unusedVariables false

set_option maxRecDepth 100000 in
set_option maxHeartbeats 8000000 in
theorem head_calls (w : World) (hg : Gl w) : Calls Tryd.prog 12 #[] w fun e w' => e = .returned (.bool true) ∧ Ext w w' := by
  have HB := Ext.refl w
  go_enter Tryd.func12, Tryd.ntmps12
  go_wp2_with (fail)
  refine (tF_B _ (hg.ext ((Ext.refl w).alloc _)) 0 1 (by decide) (by decide) _ [5, 7] (by decide) (by decide +kernel) (U_lit2 _ (w.heap.size) (by simp) [5, 7] (by decide) (by decide)) _ hv1).mono ?_
  rintro e w1 ⟨u1, rfl, hu1, hB⟩
  replace HB := (HB.alloc _).below hB
  replace hg := (hg.ext ((Ext.refl w).alloc _)).ext hB
  clear hB
  go_wp2_with (fail)
  refine (tB_B _ (hg.ext ((Ext.refl w1).alloc _)) 0 1 (by decide) (by decide) _ [12, 998244351] (by decide) (by decide +kernel) (U_lit2 _ (w1.heap.size) (by simp) [12, 998244351] (by decide) (by decide)) _ hv2).mono ?_
  rintro e w2 ⟨u2, rfl, hu2, hB⟩
  replace HB := (HB.alloc _).below hB
  replace hg := (hg.ext ((Ext.refl w1).alloc _)).ext hB
  replace hu1 := (hu1.alloc _).below hB
  clear hB
  go_wp2_with (fail)
  refine (tF_B _ (hg.ext ((Ext.refl w2).alloc _)) 2 2 (by decide) (by decide) _ [1, 2, 3, 4] (by decide) (by decide +kernel) (U_lit2 _ (w2.heap.size) (by simp) [1, 2, 3, 4] (by decide) (by decide)) _ hv3).mono ?_
  rintro e w3 ⟨u3, rfl, hu3, hB⟩
  replace HB := (HB.alloc _).below hB
  replace hg := (hg.ext ((Ext.refl w2).alloc _)).ext hB
  replace hu1 := (hu1.alloc _).below hB
  replace hu2 := (hu2.alloc _).below hB
  clear hB
  go_wp2_with (fail)
  refine (tL_B _ 1 (by decide) (by decide) _ [1, 2, 3] (by decide) (U_lit2 _ (w3.heap.size) (by simp) [1, 2, 3] (by decide) (by decide)) false no3).mono ?_
  rintro e w4 ⟨rfl, hB⟩
  replace HB := (HB.alloc _).below hB
  replace hg := (hg.ext ((Ext.refl w3).alloc _)).ext hB
  replace hu1 := (hu1.alloc _).below hB
  replace hu2 := (hu2.alloc _).below hB
  replace hu3 := (hu3.alloc _).below hB
  clear hB
  go_wp2_with (fail)
  refine (trans_big _ (hg.ext ((Ext.refl w4).alloc _)) 1 0 (by decide) (by decide) _ [469762049] (by decide) (U_lit2 _ (w4.heap.size) (by simp) [469762049] (by decide) (by decide)) false ⟨0, by decide, by decide +kernel⟩).mono ?_
  rintro e w5 ⟨rfl, hB⟩
  replace HB := (HB.alloc _).below hB
  replace hg := (hg.ext ((Ext.refl w4).alloc _)).ext hB
  replace hu1 := (hu1.alloc _).below hB
  replace hu2 := (hu2.alloc _).below hB
  replace hu3 := (hu3.alloc _).below hB
  clear hB
  go_wp2_with (fail)
  refine (tI_B _ 3 (by decide) _ [1] (by decide) (U_lit2 _ (w5.heap.size) (by simp) [1] (by decide) (by decide)) false).mono ?_
  rintro e w6 ⟨rfl, hB⟩
  replace HB := (HB.alloc _).below hB
  replace hg := (hg.ext ((Ext.refl w5).alloc _)).ext hB
  replace hu1 := (hu1.alloc _).below hB
  replace hu2 := (hu2.alloc _).below hB
  replace hu3 := (hu3.alloc _).below hB
  clear hB
  go_wp2_with (fail)
  refine (tL_B _ 0 (by decide) (by decide) _ [] (by decide) (U.nil_ _ _ _) false no0).mono ?_
  rintro e w7 ⟨rfl, hB⟩
  replace HB := HB.below hB
  replace hg := hg.ext hB
  replace hu1 := hu1.below hB
  replace hu2 := hu2.below hB
  replace hu3 := hu3.below hB
  clear hB
  go_wp2_with (fail)
  refine (tB_B _ (hg.ext ((Ext.refl w7).alloc _)) 1 0 (by decide) (by decide) _ [9] (by decide) (by decide +kernel) (U_lit2 _ (w7.heap.size) (by simp) [9] (by decide) (by decide)) _ hv4).mono ?_
  rintro e w8 ⟨u4, rfl, hu4, hB⟩
  replace HB := (HB.alloc _).below hB
  replace hg := (hg.ext ((Ext.refl w7).alloc _)).ext hB
  replace hu1 := (hu1.alloc _).below hB
  replace hu2 := (hu2.alloc _).below hB
  replace hu3 := (hu3.alloc _).below hB
  clear hB
  go_wp2_with (fail)
  refine (conv_B _ _ _ _ _ ((U_lit2 _ (w8.heap.size) (by simp) [4294967295] (by decide) (by decide)).alloc _) (U_lit2 _ (w8.heap.size + 1) (by simp) [4294967295] (by decide) (by decide)) (by decide) (by decide) (by decide) _ hv5).mono ?_
  rintro e w9 ⟨u5, rfl, hu5, hB⟩
  replace HB := ((HB.alloc _).alloc _).below hB
  replace hg := (hg.ext (((Ext.refl w8).alloc _).alloc _)).ext hB
  replace hu1 := ((hu1.alloc _).alloc _).below hB
  replace hu2 := ((hu2.alloc _).alloc _).below hB
  replace hu3 := ((hu3.alloc _).alloc _).below hB
  replace hu4 := ((hu4.alloc _).alloc _).below hB
  clear hB
  go_wp2_with (fail)
  refine (conv_B _ _ _ _ _ ((U_lit2 _ (w9.heap.size) (by simp) [1, 2] (by decide) (by decide)).alloc _) (U_lit2 _ (w9.heap.size + 1) (by simp) [3, 4, 5] (by decide) (by decide)) (by decide) (by decide) (by decide) _ hv6).mono ?_
  rintro e w10 ⟨u6, rfl, hu6, hB⟩
  replace HB := ((HB.alloc _).alloc _).below hB
  replace hg := (hg.ext (((Ext.refl w9).alloc _).alloc _)).ext hB
  replace hu1 := ((hu1.alloc _).alloc _).below hB
  replace hu2 := ((hu2.alloc _).alloc _).below hB
  replace hu3 := ((hu3.alloc _).alloc _).below hB
  replace hu4 := ((hu4.alloc _).alloc _).below hB
  replace hu5 := ((hu5.alloc _).alloc _).below hB
  clear hB
  go_wp2_with (fail)
  refine (prime_B _ hg 0 (by decide) 998244353 rfl).mono ?_
  rintro e w11 ⟨rfl, hB⟩
  replace HB := HB.below hB
  replace hg := hg.ext hB
  replace hu1 := hu1.below hB
  replace hu2 := hu2.below hB
  replace hu3 := hu3.below hB
  replace hu4 := hu4.below hB
  replace hu5 := hu5.below hB
  replace hu6 := hu6.below hB
  clear hB
  go_wp2_with (fail)
  refine (prime_B _ hg 1 (by decide) 469762049 rfl).mono ?_
  rintro e w12 ⟨rfl, hB⟩
  replace HB := HB.below hB
  replace hg := hg.ext hB
  replace hu1 := hu1.below hB
  replace hu2 := hu2.below hB
  replace hu3 := hu3.below hB
  replace hu4 := hu4.below hB
  replace hu5 := hu5.below hB
  replace hu6 := hu6.below hB
  clear hB
  go_wp2_with (fail)
  refine (prime_B _ hg 2 (by decide) 167772161 rfl).mono ?_
  rintro e w13 ⟨rfl, hB⟩
  replace HB := HB.below hB
  replace hg := hg.ext hB
  replace hu1 := hu1.below hB
  replace hu2 := hu2.below hB
  replace hu3 := hu3.below hB
  replace hu4 := hu4.below hB
  replace hu5 := hu5.below hB
  replace hu6 := hu6.below hB
  clear hB
  go_wp2_with (fail)
  refine (primeN_B _ 3 (by decide)).mono ?_
  rintro e w14 ⟨rfl, hB⟩
  replace HB := HB.below hB
  replace hg := hg.ext hB
  replace hu1 := hu1.below hB
  replace hu2 := hu2.below hB
  replace hu3 := hu3.below hB
  replace hu4 := hu4.below hB
  replace hu5 := hu5.below hB
  replace hu6 := hu6.below hB
  clear hB
  go_wp2_with (fail)
  refine (primeN_B _ (-1) (by decide)).mono ?_
  rintro e w15 ⟨rfl, hB⟩
  replace HB := HB.below hB
  replace hg := hg.ext hB
  replace hu1 := hu1.below hB
  replace hu2 := hu2.below hB
  replace hu3 := hu3.below hB
  replace hu4 := hu4.below hB
  replace hu5 := hu5.below hB
  replace hu6 := hu6.below hB
  clear hB
  go_wp2_with (fail)
  refine (root_B _ hg 0 0 (by decide) (by decide) _ rt01).mono ?_
  rintro e w16 ⟨rfl, hB⟩
  replace HB := HB.below hB
  replace hg := hg.ext hB
  replace hu1 := hu1.below hB
  replace hu2 := hu2.below hB
  replace hu3 := hu3.below hB
  replace hu4 := hu4.below hB
  replace hu5 := hu5.below hB
  replace hu6 := hu6.below hB
  clear hB
  go_wp2_with (fail)
  refine (root_B _ hg 0 1 (by decide) (by decide) _ rt02).mono ?_
  rintro e w17 ⟨rfl, hB⟩
  replace HB := HB.below hB
  replace hg := hg.ext hB
  replace hu1 := hu1.below hB
  replace hu2 := hu2.below hB
  replace hu3 := hu3.below hB
  replace hu4 := hu4.below hB
  replace hu5 := hu5.below hB
  replace hu6 := hu6.below hB
  clear hB
  go_wp2_with (fail)
  refine (root_B _ hg 0 2 (by decide) (by decide) _ rt03).mono ?_
  rintro e w18 ⟨rfl, hB⟩
  replace HB := HB.below hB
  replace hg := hg.ext hB
  replace hu1 := hu1.below hB
  replace hu2 := hu2.below hB
  replace hu3 := hu3.below hB
  replace hu4 := hu4.below hB
  replace hu5 := hu5.below hB
  replace hu6 := hu6.below hB
  clear hB
  go_wp2_with (fail)
  refine (root_B _ hg 1 20 (by decide) (by decide) _ rt04).mono ?_
  rintro e w19 ⟨rfl, hB⟩
  replace HB := HB.below hB
  replace hg := hg.ext hB
  replace hu1 := hu1.below hB
  replace hu2 := hu2.below hB
  replace hu3 := hu3.below hB
  replace hu4 := hu4.below hB
  replace hu5 := hu5.below hB
  replace hu6 := hu6.below hB
  clear hB
  go_wp2_with (fail)
  refine (rootN_B _ 2 21 (by decide)).mono ?_
  rintro e w20 ⟨rfl, hB⟩
  replace HB := HB.below hB
  replace hg := hg.ext hB
  replace hu1 := hu1.below hB
  replace hu2 := hu2.below hB
  replace hu3 := hu3.below hB
  replace hu4 := hu4.below hB
  replace hu5 := hu5.below hB
  replace hu6 := hu6.below hB
  clear hB
  go_wp2_with (fail)
  refine (rootN_B _ 0 (-1) (by decide)).mono ?_
  rintro e w21 ⟨rfl, hB⟩
  replace HB := HB.below hB
  replace hg := hg.ext hB
  replace hu1 := hu1.below hB
  replace hu2 := hu2.below hB
  replace hu3 := hu3.below hB
  replace hu4 := hu4.below hB
  replace hu5 := hu5.below hB
  replace hu6 := hu6.below hB
  clear hB
  go_wp2_with (fail)
  refine (same_B _ _ _ _ _ (hu1.alloc _) (U_lit2 _ (w21.heap.size) (by simp) [12, 998244351] (by decide) (by decide)) true (by decide)).mono ?_
  rintro e w22 ⟨rfl, hB⟩
  replace HB := (HB.alloc _).below hB
  replace hg := (hg.ext ((Ext.refl w21).alloc _)).ext hB
  replace hu1 := (hu1.alloc _).below hB
  replace hu2 := (hu2.alloc _).below hB
  replace hu3 := (hu3.alloc _).below hB
  replace hu4 := (hu4.alloc _).below hB
  replace hu5 := (hu5.alloc _).below hB
  replace hu6 := (hu6.alloc _).below hB
  clear hB
  go_wp2_with (fail)
  refine (same_B _ _ _ _ _ (hu2.alloc _) (U_lit2 _ (w22.heap.size) (by simp) [5, 7] (by decide) (by decide)) true (by decide)).mono ?_
  rintro e w23 ⟨rfl, hB⟩
  replace HB := (HB.alloc _).below hB
  replace hg := (hg.ext ((Ext.refl w22).alloc _)).ext hB
  replace hu1 := (hu1.alloc _).below hB
  replace hu2 := (hu2.alloc _).below hB
  replace hu3 := (hu3.alloc _).below hB
  replace hu4 := (hu4.alloc _).below hB
  replace hu5 := (hu5.alloc _).below hB
  replace hu6 := (hu6.alloc _).below hB
  clear hB
  go_wp2_with (fail)
  refine (same_B _ _ _ _ _ (hu3.alloc _) (U_lit2 _ (w23.heap.size) (by simp) [10, 37272223, 167772159, 130499934] (by decide) (by decide)) true (by decide)).mono ?_
  rintro e w24 ⟨rfl, hB⟩
  replace HB := (HB.alloc _).below hB
  replace hg := (hg.ext ((Ext.refl w23).alloc _)).ext hB
  replace hu1 := (hu1.alloc _).below hB
  replace hu2 := (hu2.alloc _).below hB
  replace hu3 := (hu3.alloc _).below hB
  replace hu4 := (hu4.alloc _).below hB
  replace hu5 := (hu5.alloc _).below hB
  replace hu6 := (hu6.alloc _).below hB
  clear hB
  go_wp2_with (fail)
  refine (same_B _ _ _ _ _ (hu4.alloc _) (U_lit2 _ (w24.heap.size) (by simp) [9] (by decide) (by decide)) true (by decide)).mono ?_
  rintro e w25 ⟨rfl, hB⟩
  replace HB := (HB.alloc _).below hB
  replace hg := (hg.ext ((Ext.refl w24).alloc _)).ext hB
  replace hu1 := (hu1.alloc _).below hB
  replace hu2 := (hu2.alloc _).below hB
  replace hu3 := (hu3.alloc _).below hB
  replace hu4 := (hu4.alloc _).below hB
  replace hu5 := (hu5.alloc _).below hB
  replace hu6 := (hu6.alloc _).below hB
  clear hB
  go_wp2_with (fail)
  refine (sums_B _ _ _ _ _ (hu5.alloc _) (U3_lit2 _ (w25.heap.size) (by simp) [18446744065119617025] (by decide)) (by decide +kernel) (by decide +kernel) true (by decide +kernel)).mono ?_
  rintro e w26 ⟨rfl, hB⟩
  replace HB := (HB.alloc _).below hB
  replace hg := (hg.ext ((Ext.refl w25).alloc _)).ext hB
  replace hu1 := (hu1.alloc _).below hB
  replace hu2 := (hu2.alloc _).below hB
  replace hu3 := (hu3.alloc _).below hB
  replace hu4 := (hu4.alloc _).below hB
  replace hu5 := (hu5.alloc _).below hB
  replace hu6 := (hu6.alloc _).below hB
  clear hB
  go_wp2_with (fail)
  refine (sums_B _ _ _ _ _ (hu6.alloc _) (U3_lit2 _ (w26.heap.size) (by simp) [3, 10, 13, 10] (by decide)) (by decide +kernel) (by decide +kernel) true (by decide +kernel)).mono ?_
  rintro e w27 ⟨rfl, hB⟩
  replace HB := (HB.alloc _).below hB
  replace hg := (hg.ext ((Ext.refl w26).alloc _)).ext hB
  replace hu1 := (hu1.alloc _).below hB
  replace hu2 := (hu2.alloc _).below hB
  replace hu3 := (hu3.alloc _).below hB
  replace hu4 := (hu4.alloc _).below hB
  replace hu5 := (hu5.alloc _).below hB
  replace hu6 := (hu6.alloc _).below hB
  clear hB
  go_wp2_with (fail)
  refine (convE_B _ _ _ [] _ (U.nil_ _ _ _) (U_lit2 _ (w27.heap.size) (by simp) [1] (by decide) (by decide)) (by decide)).mono ?_
  rintro e w28 ⟨rfl, hB⟩
  replace HB := (HB.alloc _).below hB
  replace hg := (hg.ext ((Ext.refl w27).alloc _)).ext hB
  replace hu1 := (hu1.alloc _).below hB
  replace hu2 := (hu2.alloc _).below hB
  replace hu3 := (hu3.alloc _).below hB
  replace hu4 := (hu4.alloc _).below hB
  replace hu5 := (hu5.alloc _).below hB
  replace hu6 := (hu6.alloc _).below hB
  clear hB
  go_wp2_with (fail)
  refine (convE_B _ _ _ _ [] (U_lit2 _ (w28.heap.size) (by simp) [1] (by decide) (by decide)) (U.nil_ _ _ _) (by decide)).mono ?_
  rintro e w29 ⟨rfl, hB⟩
  replace HB := (HB.alloc _).below hB
  replace hg := (hg.ext ((Ext.refl w28).alloc _)).ext hB
  replace hu1 := (hu1.alloc _).below hB
  replace hu2 := (hu2.alloc _).below hB
  replace hu3 := (hu3.alloc _).below hB
  replace hu4 := (hu4.alloc _).below hB
  replace hu5 := (hu5.alloc _).below hB
  replace hu6 := (hu6.alloc _).below hB
  clear hB
  go_wp2
  go_ret
  exact ⟨rfl, HB⟩
end Go.Proofs.YtofhpfmgopmcmaaDoor
