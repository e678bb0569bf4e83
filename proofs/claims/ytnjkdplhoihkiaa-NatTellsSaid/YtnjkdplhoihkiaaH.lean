/- The calls whose answers the document fixes. -/
import Derived.Test.YtnjkdplhoihkiaaB
namespace Go.Proofs.Ytnjkdplhoihkiaa
open Go.RowKit
set_option linter.unusedVariables false

theorem U_lit2 (w : World) (N : Nat) (hN : w.heap.size = N) (xs : List Nat) (hx : ∀ x ∈ xs, x < 4294967296) (hm : xs.length ≤ 1000000) : U (w.alloc (.cells (L32 xs).toArray 37)) (.slice (some ⟨N, 0, none⟩) xs.length xs.length) xs := by
  subst hN; exact U_lit w xs hx hm

set_option maxRecDepth 100000 in
set_option maxHeartbeats 4000000 in
theorem head_calls (w : World) : Calls Try.prog 12 #[] w fun e w' => e = .returned (.bool true) ∧ Ext w w' := by
  have HB := Ext.refl w
  go_enter Try.func12, Try.ntmps12
  go_wp2_with (fail)
  refine (of_B _ 4294967301 (by decide) (by decide) 4294967301 (by decide)).mono ?_
  rintro e w1 ⟨a, rfl, ha, hB⟩
  replace HB := HB.below hB
  clear hB
  go_wp2_with (fail)
  refine (sub_B _ _ _ 4294967301 5 (((ha.alloc _).alloc _).alloc _) (U.un (U_lit2 _ (w1.heap.size + 1 + 1) (by simp) [5] (by decide) (by decide)) (lim [5] (by decide) (by decide) (by decide))) (by rw [lim [5, 1] (by decide) (by decide) (by decide)]; decide) true (by decide) 4294967296 (by decide)).mono ?_
  rintro e w2 ⟨x, rfl, hx, hB⟩
  replace HB := (((HB.alloc _).alloc _).alloc _).below hB
  replace ha := (((ha.alloc _).alloc _).alloc _).below hB
  have hb := (((U_lit2 _ (w1.heap.size) (by simp) [0, 1] (by decide) (by decide)).alloc _).alloc _).below hB
  have hm := ((U_lit2 _ (w1.heap.size + 1) (by simp) [4294967295] (by decide) (by decide)).alloc _).below hB
  clear hB
  go_wp2_with (fail)
  refine (sub_B _ _ _ 5 4294967301 (U.un (U_lit2 _ (w2.heap.size) (by simp) [5] (by decide) (by decide)) (lim [5] (by decide) (by decide) (by decide))) (ha.alloc _) (by rw [lim [5] (by decide) (by decide) (by decide)]; decide) false (by decide) 0 (by decide)).mono ?_
  rintro e w3 ⟨x2, rfl, hx2, hB⟩
  replace HB := (HB.alloc _).below hB
  replace ha := (ha.alloc _).below hB
  replace hx := (hx.alloc _).below hB
  replace hb := (hb.alloc _).below hB
  replace hm := (hm.alloc _).below hB
  clear hB
  go_wp2_with (fail)
  refine (low_B _ _ 4294967301 ha 4294967301 true (by decide) (by decide)).mono ?_
  rintro e w4 ⟨rfl, hB⟩
  replace HB := HB.below hB
  replace ha := ha.below hB
  replace hx := hx.below hB
  replace hb := hb.below hB
  replace hm := hm.below hB
  clear hB
  go_wp2_with (fail)
  refine (low_B _ _ 18446744073709551616 (U.un (U_lit2 _ (w4.heap.size) (by simp) [0, 0, 1] (by decide) (by decide)) (lim [0, 0, 1] (by decide) (by decide) (by decide))) 0 false (by decide) (by decide)).mono ?_
  rintro e w5 ⟨rfl, hB⟩
  replace HB := (HB.alloc _).below hB
  replace ha := (ha.alloc _).below hB
  replace hx := (hx.alloc _).below hB
  replace hb := (hb.alloc _).below hB
  replace hm := (hm.alloc _).below hB
  clear hB
  go_wp2_with (fail)
  refine (same_B _ _ _ _ _ (ha.alloc _) (U_lit2 _ (w5.heap.size) (by simp) [5, 1] (by decide) (by decide)) true (by rw [lim [5, 1] (by decide) (by decide) (by decide)]; decide)).mono ?_
  rintro e w6 ⟨rfl, hB⟩
  replace HB := (HB.alloc _).below hB
  replace ha := (ha.alloc _).below hB
  replace hx := (hx.alloc _).below hB
  replace hb := (hb.alloc _).below hB
  replace hm := (hm.alloc _).below hB
  clear hB
  go_wp2_with (fail)
  refine (add_B _ _ _ 4294967295 1 (U.un (hm.alloc _) (lim [4294967295] (by decide) (by decide) (by decide))) (U.un (U_lit2 _ (w6.heap.size) (by simp) [1] (by decide) (by decide)) (lim [1] (by decide) (by decide) (by decide))) (by rw [lim [4294967295] (by decide) (by decide) (by decide)]; decide) (by rw [lim [1] (by decide) (by decide) (by decide)]; decide) 4294967296 (by decide)).mono ?_
  rintro e w7 ⟨s, rfl, hs, hB⟩
  replace HB := (HB.alloc _).below hB
  replace ha := (ha.alloc _).below hB
  replace hx := (hx.alloc _).below hB
  replace hb := (hb.alloc _).below hB
  replace hm := (hm.alloc _).below hB
  clear hB
  go_wp2_with (fail)
  refine (same_B _ _ _ _ _ hs hb true (by rw [lim [0, 1] (by decide) (by decide) (by decide)]; decide)).mono ?_
  rintro e w8 ⟨rfl, hB⟩
  replace HB := HB.below hB
  replace ha := ha.below hB
  replace hx := hx.below hB
  replace hb := hb.below hB
  replace hm := hm.below hB
  replace hs := hs.below hB
  clear hB
  go_wp2_with (fail)
  refine (shr_B _ _ 4294967296 31 (U.un hb (lim [0, 1] (by decide) (by decide) (by decide))) (by decide) (by decide) (by rw [lim [0, 1] (by decide) (by decide) (by decide)]; decide) 2 (by decide)).mono ?_
  rintro e w9 ⟨s1, rfl, hs1, hB⟩
  replace HB := HB.below hB
  replace ha := ha.below hB
  replace hx := hx.below hB
  replace hb := hb.below hB
  clear hB
  go_wp2_with (fail)
  refine (same_B _ _ _ _ _ (hs1.alloc _) (U_lit2 _ (w9.heap.size) (by simp) [2] (by decide) (by decide)) true (by rw [lim [2] (by decide) (by decide) (by decide)]; decide)).mono ?_
  rintro e w10 ⟨rfl, hB⟩
  replace HB := (HB.alloc _).below hB
  replace ha := (ha.alloc _).below hB
  replace hx := (hx.alloc _).below hB
  replace hb := (hb.alloc _).below hB
  replace hs1 := (hs1.alloc _).below hB
  clear hB
  go_wp2_with (fail)
  refine (shl_B _ _ 3 33 (U.un (U_lit2 _ (w10.heap.size) (by simp) [3] (by decide) (by decide)) (lim [3] (by decide) (by decide) (by decide))) (by decide) (by decide) (by rw [lim [3] (by decide) (by decide) (by decide)]; decide) 25769803776 (by decide)).mono ?_
  rintro e w11 ⟨s2, rfl, hs2, hB⟩
  replace HB := (HB.alloc _).below hB
  replace ha := (ha.alloc _).below hB
  replace hx := (hx.alloc _).below hB
  replace hb := (hb.alloc _).below hB
  clear hB
  go_wp2_with (fail)
  refine (same_B _ _ _ _ _ (hs2.alloc _) (U_lit2 _ (w11.heap.size) (by simp) [0, 6] (by decide) (by decide)) true (by rw [lim [0, 6] (by decide) (by decide) (by decide)]; decide)).mono ?_
  rintro e w12 ⟨rfl, hB⟩
  replace HB := (HB.alloc _).below hB
  replace ha := (ha.alloc _).below hB
  replace hx := (hx.alloc _).below hB
  replace hb := (hb.alloc _).below hB
  replace hs2 := (hs2.alloc _).below hB
  clear hB
  go_wp2_with (fail)
  refine (same_B _ _ _ _ _ hx hb true (by rw [lim [0, 1] (by decide) (by decide) (by decide)]; decide)).mono ?_
  rintro e w13 ⟨rfl, hB⟩
  replace HB := HB.below hB
  replace ha := ha.below hB
  replace hx := hx.below hB
  replace hb := hb.below hB
  clear hB
  go_wp2_with (fail)
  refine (bits_B _ _ 4294967296 (U.un hb (lim [0, 1] (by decide) (by decide) (by decide))) (by rw [lim [0, 1] (by decide) (by decide) (by decide)]; decide) 33 (by decide)).mono ?_
  rintro e w14 ⟨rfl, hB⟩
  replace HB := HB.below hB
  replace ha := ha.below hB
  replace hb := hb.below hB
  clear hB
  go_wp2_with (fail)
  refine (bits_B _ _ 0 (Un_nil _) (by rw [limbs_zero]; decide) 0 (by decide)).mono ?_
  rintro e w15 ⟨rfl, hB⟩
  replace HB := HB.below hB
  replace ha := ha.below hB
  replace hb := hb.below hB
  clear hB
  go_wp2_with (fail)
  refine (bit_B _ _ 4294967301 (32) ha (by decide) (by decide) 1 (by decide)).mono ?_
  rintro e w16 ⟨rfl, hB⟩
  replace HB := HB.below hB
  replace ha := ha.below hB
  replace hb := hb.below hB
  clear hB
  go_wp2_with (fail)
  refine (bit_B _ _ 4294967301 (1) ha (by decide) (by decide) 0 (by decide)).mono ?_
  rintro e w17 ⟨rfl, hB⟩
  replace HB := HB.below hB
  replace ha := ha.below hB
  replace hb := hb.below hB
  clear hB
  go_wp2_with (fail)
  refine (bit_B _ _ 4294967301 (2) ha (by decide) (by decide) 1 (by decide)).mono ?_
  rintro e w18 ⟨rfl, hB⟩
  replace HB := HB.below hB
  replace ha := ha.below hB
  replace hb := hb.below hB
  clear hB
  go_wp2_with (fail)
  refine (bit_B _ _ 4294967301 (-1) ha (by decide) (by decide) 0 (by decide)).mono ?_
  rintro e w19 ⟨rfl, hB⟩
  replace HB := HB.below hB
  replace ha := ha.below hB
  replace hb := hb.below hB
  clear hB
  go_wp2_with (fail)
  refine (cmp_B _ _ _ 4294967301 4294967296 ha (U.un hb (lim [0, 1] (by decide) (by decide) (by decide))) 1 (by decide)).mono ?_
  rintro e w20 ⟨rfl, hB⟩
  replace HB := HB.below hB
  replace ha := ha.below hB
  replace hb := hb.below hB
  clear hB
  go_wp2_with (fail)
  refine (cmp_B _ _ _ 4294967296 4294967301 (U.un hb (lim [0, 1] (by decide) (by decide) (by decide))) ha (-1) (by decide)).mono ?_
  rintro e w21 ⟨rfl, hB⟩
  replace HB := HB.below hB
  replace ha := ha.below hB
  replace hb := hb.below hB
  clear hB
  go_wp2_with (fail)
  refine (cmp_B _ _ _ 4294967301 4294967301 ha ha 0 (by decide)).mono ?_
  rintro e w22 ⟨rfl, hB⟩
  replace HB := HB.below hB
  replace ha := ha.below hB
  replace hb := hb.below hB
  clear hB
  go_wp2_with (fail)
  refine (right_B _ _ _ ha true (by rw [lim [5, 1] (by decide) (by decide) (by decide)]; decide)).mono ?_
  rintro e w23 ⟨rfl, hB⟩
  replace HB := HB.below hB
  replace ha := ha.below hB
  replace hb := hb.below hB
  clear hB
  go_wp2_with (fail)
  refine (right_B _ _ [] (U.nil_ _ _ _) true (by decide)).mono ?_
  rintro e w24 ⟨rfl, hB⟩
  replace HB := HB.below hB
  replace hb := hb.below hB
  clear hB
  go_wp2_with (fail)
  refine (right_B _ _ _ (U_lit2 _ (w24.heap.size) (by simp) [1, 0] (by decide) (by decide)) false (by decide)).mono ?_
  rintro e w25 ⟨rfl, hB⟩
  replace HB := (HB.alloc _).below hB
  replace hb := (hb.alloc _).below hB
  clear hB
  go_wp2_with (fail)
  refine (make_B _ _ _ (U_lit2 _ (w25.heap.size) (by simp) [7, 0, 0] (by decide) (by decide)) 7 (by decide)).mono ?_
  rintro e w26 ⟨s3, rfl, hs3, hB⟩
  replace HB := (HB.alloc _).below hB
  replace hb := (hb.alloc _).below hB
  clear hB
  go_wp2_with (fail)
  refine (same_B _ _ _ _ _ (hs3.alloc _) (U_lit2 _ (w26.heap.size) (by simp) [7] (by decide) (by decide)) true (by rw [lim [7] (by decide) (by decide) (by decide)]; decide)).mono ?_
  rintro e w27 ⟨rfl, hB⟩
  replace HB := (HB.alloc _).below hB
  replace hb := (hb.alloc _).below hB
  replace hs3 := (hs3.alloc _).below hB
  clear hB
  go_wp2_with (fail)
  refine (shr_B _ _ 4294967296 33 (U.un hb (lim [0, 1] (by decide) (by decide) (by decide))) (by decide) (by decide) (by rw [lim [0, 1] (by decide) (by decide) (by decide)]; decide) 0 (by decide)).mono ?_
  rintro e w28 ⟨s4, rfl, hs4, hB⟩
  replace HB := HB.below hB
  replace hb := hb.below hB
  clear hB
  obtain ⟨A4, c4, rfl, _, _, _⟩ := id hs4
  rw [limbs_zero]
  go_wp2
  go_ret
  exact ⟨rfl, HB⟩
end Go.Proofs.Ytnjkdplhoihkiaa
