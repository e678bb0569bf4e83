/- The document's sums, differences, products. -/
import Derived.Test.YtfkcdmbiihkiiaaGreatDoorBbe
import Derived.Test.YtfkcdmbiihkiiaaGreatDoorBaj
import Derived.Deep.RegionHeld3

namespace Go.Proofs.YtfkcdmbiihkiiaaGreatDoor
open Go.RowKit
set_option linter.unusedVariables false
set_option maxHeartbeats 400000

theorem mul_len_le (n m : Nat) : (limbs (n * m)).length ≤ (limbs n).length + (limbs m).length := by
  refine len_of ?_
  rw [Nat.pow_add]
  exact Nat.mul_lt_mul'' (lt_of_len_le (Nat.le_refl _)) (lt_of_len_le (Nat.le_refl _))
set_option maxRecDepth 100000 in
set_option maxHeartbeats 8000000 in
theorem rzadd_same (w : World) (p : Bool) (A B : Option Addr) (L K c d n m : Nat) (hu : Un w (.slice A L c) n) (hv : Un w (.slice B K d) m) (hl : (limbs n).length ≤ 1000000) (hl2 : (limbs m).length ≤ 1000000) (y : Int) (hy : sg p (n + m) = y) :
    Calls Tryz.prog 30 #[.agg #[.bool p, .slice A L c], .agg #[.bool p, .slice B K d]] w fun e w' => ∃ u, e = .returned u ∧ Zn w' u y ∧ Ext w w' := by
  have hE0 := ((((Ext.refl w).alloc (.cells #[.bool p, .slice A L c] 24)).alloc (.cells #[.bool p, .slice B K d] 24)).alloc (.cells #[.bool false, .slice none 0 0] 24)).drew
  have hI0 := (Ib.new3 w (.cells #[.bool p, .slice A L c] 24) (.cells #[.bool p, .slice B K d] 24) false (.slice none 0 0) 24).ext (Ext.refl _).drew
  have hP0 := (Ib.new w p (.slice A L c) 24).ext ((((Ext.refl _).alloc (.cells #[.bool p, .slice B K d] 24)).alloc (.cells #[.bool false, .slice none 0 0] 24)).drew)
  have hQ0 := (Ib.new2 w (.cells #[.bool p, .slice A L c] 24) p (.slice B K d) 24).ext (((Ext.refl _).alloc (.cells #[.bool false, .slice none 0 0] 24)).drew)
  have hS0 : (w.heap.size + 1 + 1 < (((w.alloc (.cells #[.bool p, .slice A L c] 24)).alloc (.cells #[.bool p, .slice B K d] 24)).alloc (.cells #[.bool false, .slice none 0 0] 24)).drew.heap.size ∧ (((w.alloc (.cells #[.bool p, .slice A L c] 24)).alloc (.cells #[.bool p, .slice B K d] 24)).alloc (.cells #[.bool false, .slice none 0 0] 24)).drew.cell? ⟨w.heap.size, 0, none⟩ = some (.bool p) ∧ (((w.alloc (.cells #[.bool p, .slice A L c] 24)).alloc (.cells #[.bool p, .slice B K d] 24)).alloc (.cells #[.bool false, .slice none 0 0] 24)).drew.cell? ⟨w.heap.size, 1, none⟩ = some (.slice A L c) ∧ (((w.alloc (.cells #[.bool p, .slice A L c] 24)).alloc (.cells #[.bool p, .slice B K d] 24)).alloc (.cells #[.bool false, .slice none 0 0] 24)).drew.cell? ⟨w.heap.size + 1, 0, none⟩ = some (.bool p) ∧ (((w.alloc (.cells #[.bool p, .slice A L c] 24)).alloc (.cells #[.bool p, .slice B K d] 24)).alloc (.cells #[.bool false, .slice none 0 0] 24)).drew.cell? ⟨w.heap.size + 1, 1, none⟩ = some (.slice B K d)) ∧ Ext w (((w.alloc (.cells #[.bool p, .slice A L c] 24)).alloc (.cells #[.bool p, .slice B K d] 24)).alloc (.cells #[.bool false, .slice none 0 0] 24)).drew := ⟨⟨by simp, hP0.2.1, hP0.2.2.1, hQ0.2.1, hQ0.2.2.1⟩, hE0⟩
  have hu0 := hu.below hE0
  have hv0 := hv.below hE0
  have hsl : (limbs (n + m)).length ≤ 1000000000 := by
    have h1 := lt_of_len_le hl
    have h2 := lt_of_len_le hl2
    refine Nat.le_trans (len_of (k := 1000000 + 1) ?_) (by omega)
    obtain ⟨E, hE⟩ : ∃ E, 1000000 = E := ⟨_, rfl⟩
    rw [hE] at h1 h2 ⊢
    rw [Nat.pow_succ]
    have : LB ^ E * 2 ≤ LB ^ E * LB := Nat.mul_le_mul_left _ (by unfold LB; decide)
    unfold LB at *
    omega
  have hA := Lib.hid (fun W h g => radd_B W (.slice A L c) (.slice B K d) n m h g (by omega) (by omega) _ rfl)
  have hM := Lib.hid (fun W v (h : Un W v (n + m)) => rzmake W p v (limbs (n + m)) h hsl _ (val_limbs _) y hy)
  clear hl hl2 hu hv hy hP0 hQ0 hsl
  all_goals (
    go_enter Tryz.func30, Tryz.ntmps30
    go_wp2
    go_region_held3 (fun X => (w.heap.size + 1 + 1 < X.heap.size ∧ X.cell? ⟨w.heap.size, 0, none⟩ = some (.bool p) ∧ X.cell? ⟨w.heap.size, 1, none⟩ = some (.slice A L c) ∧ X.cell? ⟨w.heap.size + 1, 0, none⟩ = some (.bool p) ∧ X.cell? ⟨w.heap.size + 1, 1, none⟩ = some (.slice B K d)) ∧ Ext w X)
      (first
        | assumption
        | exact hS0
        | exact keepI2 (by assumption) (by assumption)
        | exact keepS2 (by assumption))
      (first
        | (go_at_call 55; ((with_reducible refine (hA.out _ hu0 hv0).mono ?_); rintro e w2 ⟨u, rfl, hu2, hE2⟩; obtain ⟨A2, c2, rfl, -⟩ := Un.sh hu2))
        | (go_at_call 22; ((with_reducible refine (hM.out _ _ hu2).mono ?_); rintro e w3 ⟨u, rfl, hz3, hE3⟩; obtain ⟨b3, A3, L3, c3, rfl⟩ := hz3.sh; have hI3 := (hI0.ext hE2).ext hE3; obtain ⟨i0, i1, i2, i3, i4⟩ := id hI3)))
    clear hI3 hA hM
    go_wp2
    (try simp only [Exit.inBlock, Exit.then])
    refine bodyPost_ret (v := .agg #[.bool b3, .slice A3 L3 c3]) (show (results _ _).run _ _ = _ from ?_) rfl ⟨_, rfl, hz3.put2 ((hI0.ext hE2).ext hE3) (slice_no_int _ _ _) _ _, ((hE0.below hE2).below hE3).put2 (by omega) _ _⟩
    simp only [results]
    go_simp)

set_option maxRecDepth 100000 in
set_option maxHeartbeats 8000000 in
theorem rzadd_other (w : World) (p : Bool) (A B : Option Addr) (L K c d n m : Nat) (hu : Un w (.slice A L c) n) (hv : Un w (.slice B K d) m) (hl : (limbs n).length ≤ 1000000) (hl2 : (limbs m).length ≤ 1000000) (y : Int) (hy : (if m ≤ n then sg p (n - m) else sg (!p) (m - n)) = y) :
    Calls Tryz.prog 30 #[.agg #[.bool p, .slice A L c], .agg #[.bool (!p), .slice B K d]] w fun e w' => ∃ u, e = .returned u ∧ Zn w' u y ∧ Ext w w' := by
  have hE0 := (((Ext.refl w).alloc (.cells #[.bool p, .slice A L c] 24)).alloc (.cells #[.bool (!p), .slice B K d] 24)).alloc (.cells #[.bool false, .slice none 0 0] 24)
  have hI0 := Ib.new3 w (.cells #[.bool p, .slice A L c] 24) (.cells #[.bool (!p), .slice B K d] 24) false (.slice none 0 0) 24
  have hP0 := (Ib.new w p (.slice A L c) 24).ext (((Ext.refl _).alloc (.cells #[.bool (!p), .slice B K d] 24)).alloc (.cells #[.bool false, .slice none 0 0] 24))
  have hQ0 := (Ib.new2 w (.cells #[.bool p, .slice A L c] 24) (!p) (.slice B K d) 24).ext ((Ext.refl _).alloc (.cells #[.bool false, .slice none 0 0] 24))
  have hu0 := hu.below hE0
  have hv0 := hv.below hE0
  obtain ⟨d1, hd1⟩ : ∃ d, n - m = d := ⟨_, rfl⟩
  obtain ⟨d2, hd2⟩ : ∃ d, m - n = d := ⟨_, rfl⟩
  have hl3 : (limbs d1).length ≤ 1000000000 := by have := len_mono (show d1 ≤ n by omega); omega
  have hl4 : (limbs d2).length ≤ 1000000000 := by have := len_mono (show d2 ≤ m by omega); omega
  rw [hd1, hd2] at hy
  by_cases h0 : m ≤ n
  · rw [if_pos h0] at hy
    have hA := Lib.hid (fun W h g => rsub_B W (.slice A L c) (.slice B K d) n m h g (by omega) (by omega) true (decide_eq_true h0) d1 hd1)
    have hM := Lib.hid (fun W v (h : Un W v d1) => rzmake W p v (limbs d1) h hl3 _ (val_limbs _) y hy)
    clear hl hl2 hu hv hy hl3 hl4 hd1 hd2 h0
    cases p
    all_goals (
      go_enter Tryz.func30, Tryz.ntmps30
      go_wp2_with (first
        | (go_at_call 54; refine (hA.out _ hu0 hv0).mono ?_; rintro e w2 ⟨u, rfl, hu2, hE2⟩; obtain ⟨A2, c2, rfl, -⟩ := Un.sh hu2; obtain ⟨p0, p1, p2, p3, p4⟩ := hP0.ext hE2; obtain ⟨q0, q1, q2, q3, q4⟩ := hQ0.ext hE2)
        | (go_at_call 22; refine (hM.out _ _ hu2).mono ?_; rintro e w3 ⟨u, rfl, hz3, hE3⟩; obtain ⟨b3, A3, L3, c3, rfl⟩ := hz3.sh; have hI3 := (hI0.ext hE2).ext hE3; obtain ⟨i0, i1, i2, i3, i4⟩ := id hI3))
      (try simp only [Exit.inBlock, Exit.then])
      refine bodyPost_ret (v := .agg #[.bool b3, .slice A3 L3 c3]) (show (results _ _).run _ _ = _ from ?_) rfl ⟨_, rfl, hz3.put2 ((hI0.ext hE2).ext hE3) (slice_no_int _ _ _) _ _, ((hE0.below hE2).below hE3).put2 (by omega) _ _⟩
      simp only [results]
      go_simp)
  · rw [if_neg h0] at hy
    have hA := Lib.hid (fun W h g => rsub_B W (.slice A L c) (.slice B K d) n m h g (by omega) (by omega) false (decide_eq_false h0) d1 hd1)
    have hA2 := Lib.hid (fun W h g => rsub_B W (.slice B K d) (.slice A L c) m n h g (by omega) (by omega) _ rfl d2 hd2)
    have hM := Lib.hid (fun W v (h : Un W v d2) => rzmake W (!p) v (limbs d2) h hl4 _ (val_limbs _) y hy)
    clear hl hl2 hu hv hy hl3 hl4 hd1 hd2 h0
    cases p
    all_goals (
      go_enter Tryz.func30, Tryz.ntmps30
      go_upto_region 6 with (go_at_call 54; refine (hA.out _ hu0 hv0).mono ?_; rintro e w2 ⟨u, rfl, hu2, hE2⟩; obtain ⟨A2, c2, rfl, -⟩ := Un.sh hu2; obtain ⟨p0, p1, p2, p3, p4⟩ := hP0.ext hE2; obtain ⟨q0, q1, q2, q3, q4⟩ := hQ0.ext hE2)
      go_wp2_with (first
        | (go_at_call 54; refine (hA2.out _ (Un.below hv0 hE2) (Un.below hu0 hE2)).mono ?_; rintro e w4 ⟨u, rfl, hu4, hE4⟩; obtain ⟨A4, c4, rfl, -⟩ := Un.sh hu4; obtain ⟨p0, p1, p2, p3, p4⟩ := (hP0.ext hE2).ext hE4; obtain ⟨q0, q1, q2, q3, q4⟩ := (hQ0.ext hE2).ext hE4)
        | (go_at_call 22; refine (hM.out _ _ hu4).mono ?_; rintro e w3 ⟨u, rfl, hz3, hE3⟩; obtain ⟨b3, A3, L3, c3, rfl⟩ := hz3.sh; have hI3 := ((hI0.ext hE2).ext hE4).ext hE3; obtain ⟨i0, i1, i2, i3, i4⟩ := id hI3))
      (try simp only [Exit.inBlock, Exit.then])
      refine bodyPost_ret (v := .agg #[.bool b3, .slice A3 L3 c3]) (show (results _ _).run _ _ = _ from ?_) rfl ⟨_, rfl, hz3.put2 (((hI0.ext hE2).ext hE4).ext hE3) (slice_no_int _ _ _) _ _, (((hE0.below hE2).below hE4).below hE3).put2 (by omega) _ _⟩
      simp only [results]
      go_simp)

theorem rzadd (w : World) (va vb : Value) (a b : Int) (ha : Zn w va a) (hb : Zn w vb b) (hl : (limbs a.natAbs).length ≤ 1000000) (hl2 : (limbs b.natAbs).length ≤ 1000000) (y : Int) (hy : a + b = y) :
    Calls Tryz.prog 30 #[va, vb] w fun e w' => ∃ u, e = .returned u ∧ Zn w' u y ∧ Ext w w' := by
  obtain ⟨p, A, L, c, n, rfl, hu, hL, hz, -, hza, hzn⟩ := ha.open
  obtain ⟨q, B, K, d, m, rfl, hv, hK, hz2, -, hza2, hzn2⟩ := hb.open
  rw [hza] at hl
  rw [hza2] at hl2
  rw [hz, hz2] at hy
  by_cases h : q = p
  · subst h
    exact rzadd_same w q A B L K c d n m hu hv hl hl2 y ((sg_add_same _ _ _).trans hy)
  · obtain rfl : q = !p := by cases p <;> cases q <;> first | rfl | exact absurd rfl h
    exact rzadd_other w p A B L K c d n m hu hv hl hl2 y ((sg_add_other _ _ _).trans hy)

set_option maxRecDepth 100000 in
set_option maxHeartbeats 8000000 in
theorem rzsub (w : World) (va vb : Value) (a b : Int) (ha : Zn w va a) (hb : Zn w vb b) (hl : (limbs a.natAbs).length ≤ 1000000) (hl2 : (limbs b.natAbs).length ≤ 1000000) (y : Int) (hy : a - b = y) :
    Calls Tryz.prog 32 #[va, vb] w fun e w' => ∃ u, e = .returned u ∧ Zn w' u y ∧ Ext w w' := by
  have hN := Lib.hid (fun W h => rzneg W vb b h hl2 (-b) rfl)
  have hA := Lib.hid (fun W u h (g : Zn W u (-b)) => rzadd W va u a (-b) h g hl (by rw [Int.natAbs_neg]; exact hl2) y (by rw [← Int.sub_eq_add_neg]; exact hy))
  have ha' := ha
  have hb' := hb
  obtain ⟨p, A, L, c, n, rfl, hu, hL, hz, -, hza, hzn⟩ := ha.open
  obtain ⟨q, B, K, d, m, rfl, hv, hK, hz2, -, hza2, hzn2⟩ := hb.open
  have hE0 := ((((Ext.refl w).alloc (.cells #[.bool p, .slice A L c] 24)).alloc (.cells #[.bool q, .slice B K d] 24)).alloc (.cells #[.bool false, .slice none 0 0] 24)).drew
  have hI0 := (Ib.new3 w (.cells #[.bool p, .slice A L c] 24) (.cells #[.bool q, .slice B K d] 24) false (.slice none 0 0) 24).ext (Ext.refl _).drew
  have hP0 := (Ib.new w p (.slice A L c) 24).ext ((((Ext.refl _).alloc (.cells #[.bool q, .slice B K d] 24)).alloc (.cells #[.bool false, .slice none 0 0] 24)).drew)
  have hQ0 := (Ib.new2 w (.cells #[.bool p, .slice A L c] 24) q (.slice B K d) 24).ext (((Ext.refl _).alloc (.cells #[.bool false, .slice none 0 0] 24)).drew)
  have hS0 : (w.heap.size + 1 + 1 < (((w.alloc (.cells #[.bool p, .slice A L c] 24)).alloc (.cells #[.bool q, .slice B K d] 24)).alloc (.cells #[.bool false, .slice none 0 0] 24)).drew.heap.size ∧ (((w.alloc (.cells #[.bool p, .slice A L c] 24)).alloc (.cells #[.bool q, .slice B K d] 24)).alloc (.cells #[.bool false, .slice none 0 0] 24)).drew.cell? ⟨w.heap.size, 0, none⟩ = some (.bool p) ∧ (((w.alloc (.cells #[.bool p, .slice A L c] 24)).alloc (.cells #[.bool q, .slice B K d] 24)).alloc (.cells #[.bool false, .slice none 0 0] 24)).drew.cell? ⟨w.heap.size, 1, none⟩ = some (.slice A L c) ∧ (((w.alloc (.cells #[.bool p, .slice A L c] 24)).alloc (.cells #[.bool q, .slice B K d] 24)).alloc (.cells #[.bool false, .slice none 0 0] 24)).drew.cell? ⟨w.heap.size + 1, 0, none⟩ = some (.bool q) ∧ (((w.alloc (.cells #[.bool p, .slice A L c] 24)).alloc (.cells #[.bool q, .slice B K d] 24)).alloc (.cells #[.bool false, .slice none 0 0] 24)).drew.cell? ⟨w.heap.size + 1, 1, none⟩ = some (.slice B K d)) ∧ Ext w (((w.alloc (.cells #[.bool p, .slice A L c] 24)).alloc (.cells #[.bool q, .slice B K d] 24)).alloc (.cells #[.bool false, .slice none 0 0] 24)).drew := ⟨⟨by simp, hP0.2.1, hP0.2.2.1, hQ0.2.1, hQ0.2.2.1⟩, hE0⟩
  have ha0 := ha'.below hE0
  have hb0 := hb'.below hE0
  clear hl hl2 hza hzn hza2 hzn2 hz hz2 hL hK ha hb hy hP0 hQ0 ha' hb'
  go_enter Tryz.func32, Tryz.ntmps32
  go_wp2
  go_region_held3 (fun X => (w.heap.size + 1 + 1 < X.heap.size ∧ X.cell? ⟨w.heap.size, 0, none⟩ = some (.bool p) ∧ X.cell? ⟨w.heap.size, 1, none⟩ = some (.slice A L c) ∧ X.cell? ⟨w.heap.size + 1, 0, none⟩ = some (.bool q) ∧ X.cell? ⟨w.heap.size + 1, 1, none⟩ = some (.slice B K d)) ∧ Ext w X)
    (first
      | exact hS0
      | exact keepI2 (by assumption) (by assumption)
      | exact keepS2 (by assumption))
    (first
      | (go_at_call 28; ((with_reducible refine (hN.out _ hb0).mono ?_); rintro e w2 ⟨u, rfl, hz2, hE2⟩; obtain ⟨b2, A2, L2, c2, rfl⟩ := hz2.sh))
      | (go_at_call 30; ((with_reducible refine (hA.out _ _ (ha0.below hE2) hz2).mono ?_); rintro e w3 ⟨u, rfl, hz3, hE3⟩; obtain ⟨b3, A3, L3, c3, rfl⟩ := hz3.sh; have hI3 := (hI0.ext hE2).ext hE3; obtain ⟨i0, i1, i2, i3, i4⟩ := id hI3)))
  clear hN hA
  clear hI3
  go_wp2
  (try simp only [Exit.inBlock, Exit.then])
  refine bodyPost_ret (v := .agg #[.bool b3, .slice A3 L3 c3]) (show (results _ _).run _ _ = _ from ?_) rfl ⟨_, rfl, hz3.put2 ((hI0.ext hE2).ext hE3) (slice_no_int _ _ _) _ _, ((hE0.below hE2).below hE3).put2 (by omega) _ _⟩
  simp only [results]
  go_simp
set_option maxRecDepth 100000 in
set_option maxHeartbeats 8000000 in
theorem rzmul (w : World) (va vb : Value) (a b : Int) (ha : Zn w va a) (hb : Zn w vb b) (hl : (limbs a.natAbs).length ≤ 398) (hl2 : (limbs b.natAbs).length ≤ 398) (y : Int) (hy : a * b = y) :
    Calls Tryz.prog 34 #[va, vb] w fun e w' => ∃ u, e = .returned u ∧ Zn w' u y ∧ Ext w w' := by
  obtain ⟨p, A, L, c, n, rfl, hu, hL, hz, -, hza, hzn⟩ := ha.open
  obtain ⟨q, B, K, d, m, rfl, hv, hK, hz2, -, hza2, hzn2⟩ := hb.open
  rw [hza] at hl
  rw [hza2] at hl2
  obtain ⟨k, hk⟩ : ∃ k, n * m = k := ⟨_, rfl⟩
  have hM := Lib.hid (fun W h g => rmul_B W (.slice A L c) (.slice B K d) n m k h g hl hl2 hk)
  have hkl : (limbs k).length ≤ 1000000000 := by
    have := mul_len_le n m
    rw [hk] at this
    omega
  have hMk := Lib.hid (fun W v (h : Un W v k) => rzmake W (!(p == q)) v (limbs k) h hkl k (val_limbs _) y (by rw [← hk, sg_mul, ← hz, ← hz2]; exact hy))
  have hE0 := ((((Ext.refl w).alloc (.cells #[.bool p, .slice A L c] 24)).alloc (.cells #[.bool q, .slice B K d] 24)).alloc (.cells #[.bool false, .slice none 0 0] 24)).drew
  have hI0 := (Ib.new3 w (.cells #[.bool p, .slice A L c] 24) (.cells #[.bool q, .slice B K d] 24) false (.slice none 0 0) 24).ext (Ext.refl _).drew
  have hP0 := (Ib.new w p (.slice A L c) 24).ext ((((Ext.refl _).alloc (.cells #[.bool q, .slice B K d] 24)).alloc (.cells #[.bool false, .slice none 0 0] 24)).drew)
  have hQ0 := (Ib.new2 w (.cells #[.bool p, .slice A L c] 24) q (.slice B K d) 24).ext (((Ext.refl _).alloc (.cells #[.bool false, .slice none 0 0] 24)).drew)
  have hu0 := hu.below hE0
  have hv0 := hv.below hE0
  obtain ⟨p0, p1, p2, p3, p4⟩ := id hP0
  obtain ⟨q0, q1, q2, q3, q4⟩ := id hQ0
  clear hl hl2 hza hzn hza2 hzn2 hz hz2 hL hK ha hb hy hk
  go_enter Tryz.func34, Tryz.ntmps34
  have hS0 : (w.heap.size + 1 + 1 < (((w.alloc (.cells #[.bool p, .slice A L c] 24)).alloc (.cells #[.bool q, .slice B K d] 24)).alloc (.cells #[.bool false, .slice none 0 0] 24)).drew.heap.size ∧ (((w.alloc (.cells #[.bool p, .slice A L c] 24)).alloc (.cells #[.bool q, .slice B K d] 24)).alloc (.cells #[.bool false, .slice none 0 0] 24)).drew.cell? ⟨w.heap.size, 0, none⟩ = some (.bool p) ∧ (((w.alloc (.cells #[.bool p, .slice A L c] 24)).alloc (.cells #[.bool q, .slice B K d] 24)).alloc (.cells #[.bool false, .slice none 0 0] 24)).drew.cell? ⟨w.heap.size, 1, none⟩ = some (.slice A L c) ∧ (((w.alloc (.cells #[.bool p, .slice A L c] 24)).alloc (.cells #[.bool q, .slice B K d] 24)).alloc (.cells #[.bool false, .slice none 0 0] 24)).drew.cell? ⟨w.heap.size + 1, 0, none⟩ = some (.bool q) ∧ (((w.alloc (.cells #[.bool p, .slice A L c] 24)).alloc (.cells #[.bool q, .slice B K d] 24)).alloc (.cells #[.bool false, .slice none 0 0] 24)).drew.cell? ⟨w.heap.size + 1, 1, none⟩ = some (.slice B K d)) ∧ Ext w (((w.alloc (.cells #[.bool p, .slice A L c] 24)).alloc (.cells #[.bool q, .slice B K d] 24)).alloc (.cells #[.bool false, .slice none 0 0] 24)).drew := ⟨⟨by simp, p1, p2, q1, q2⟩, hE0⟩
  clear p0 p1 p2 p3 p4 q0 q1 q2 q3 q4
  go_wp2
  go_region_held3 (fun X => (w.heap.size + 1 + 1 < X.heap.size ∧ X.cell? ⟨w.heap.size, 0, none⟩ = some (.bool p) ∧ X.cell? ⟨w.heap.size, 1, none⟩ = some (.slice A L c) ∧ X.cell? ⟨w.heap.size + 1, 0, none⟩ = some (.bool q) ∧ X.cell? ⟨w.heap.size + 1, 1, none⟩ = some (.slice B K d)) ∧ Ext w X)
    (first
      | exact hS0
      | exact keepI2 (by assumption) (by assumption)
      | exact keepS2 (by assumption))
    (first
      | (go_at_call 66; ((with_reducible refine (hM.out _ hu0 hv0).mono ?_); rintro e w2 ⟨u, rfl, hu2, hE2⟩; obtain ⟨A2, c2, rfl, hc2⟩ := Un.sh hu2))
      | (go_at_call 22; ((with_reducible refine (hMk.out _ _ hu2).mono ?_); rintro e w3 ⟨u, rfl, hz3, hE3⟩; obtain ⟨b3, A3, L3, c3, rfl⟩ := hz3.sh; have hI3 := (hI0.ext hE2).ext hE3; obtain ⟨i0, i1, i2, i3, i4⟩ := id hI3)))
  clear hI3 hM hMk
  go_wp2
  (try simp only [Exit.inBlock, Exit.then])
  refine bodyPost_ret (v := .agg #[.bool b3, .slice A3 L3 c3]) (show (results _ _).run _ _ = _ from ?_) rfl ⟨_, rfl, hz3.put2 ((hI0.ext hE2).ext hE3) (slice_no_int _ _ _) _ _, ((hE0.below hE2).below hE3).put2 (by omega) _ _⟩
  simp only [results]
  go_simp
end Go.Proofs.YtfkcdmbiihkiiaaGreatDoor
