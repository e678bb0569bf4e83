/- Whole numbers: sums and differences. -/
import Derived.Test.YtfkcdmbiihkiiaaGreatDoorBaj
import Derived.Test.YtfkcdmbiihkiiaaGreatDoorBav
import Derived.Deep.RegionHeld3

namespace Go.Proofs.YtfkcdmbiihkiiaaGreatDoor
open Go.RowKit
set_option linter.unusedVariables false
set_option maxHeartbeats 400000

set_option maxRecDepth 100000 in
set_option maxHeartbeats 4000000 in
theorem zgrow (w : World) (b : Bool) (A : Option Addr) (L c n : Nat) (hu : Un w (.slice A L c) n) (vm : Value) (m : Nat) (hv : Un w vm m) (hl : (limbs n).length ≤ 1000000) (hl2 : (limbs m).length ≤ 1000000) (y : Int) (hy : sg b (n + m) = y) :
    Calls Tryz.prog 63 #[.agg #[.bool b, .slice A L c], vm] w fun e w' => ∃ u, e = .returned u ∧ Zn w' u y ∧ Ext w w' := by
  obtain ⟨A1, c1, rfl, -⟩ := Un.sh hv
  obtain ⟨L1, hL1⟩ : ∃ L, (limbs m).length = L := ⟨_, rfl⟩
  have hA := Lib.hid (fun W h g => add_B W (.slice A L c) (.slice A1 (limbs m).length c1) n m h g (by omega) (by omega) _ rfl)
  rw [hL1] at hA hv ⊢
  have hE0 := (((Ext.refl w).alloc (.cells #[.bool b, .slice A L c] 69)).alloc (.cells #[.bool false, .slice none 0 0] 24)).drew
  have hI0 := (Ib.new2 w (.cells #[.bool b, .slice A L c] 69) false (.slice none 0 0) 24).ext (Ext.refl _).drew
  have hP0 := (Ib.new w b (.slice A L c) 69).ext ((Ext.refl _).alloc (.cells #[.bool false, .slice none 0 0] 24)).drew
  have hu0 := hu.below hE0
  have hv0 := hv.below hE0
  have hM := Lib.hid (fun W v h => zmake W b v (limbs (n + m)) h (n + m) (val_limbs _) y hy)
  obtain ⟨p0, p1, p2, p3, p4⟩ := id hP0
  clear hy hL1
  go_enter Tryz.func63, Tryz.ntmps63
  go_wp2
  go_region_with (first
    | (go_at_call 51; refine (hA.out _ hu0 hv0).mono ?_; rintro e w2 ⟨u, rfl, hu2, hE2⟩; obtain ⟨A2, c2, rfl, hc2⟩ := Un.sh hu2; obtain ⟨p0, p1, p2, p3, p4⟩ := hP0.ext hE2)
    | (go_at_call 21; refine (hM.out _ _ hu2).mono ?_; rintro e w3 ⟨u, rfl, hz3, hE3⟩; obtain ⟨b3, A3, L3, c3, rfl⟩ := hz3.sh; have hI3 := (hI0.ext hE2).ext hE3; obtain ⟨i0, i1, i2, i3, i4⟩ := id hI3))
  all_goals (
    clear hI3 hA hM
    go_wp2
    (try simp only [Exit.inBlock, Exit.then])
    refine bodyPost_ret (v := .agg #[.bool b3, .slice A3 L3 c3]) (show (results _ _).run _ _ = _ from ?_) rfl ⟨_, rfl, hz3.put2 ((hI0.ext hE2).ext hE3) (slice_no_int _ _ _) _ _, ((hE0.below hE2).below hE3).put2 (by simp) _ _⟩
    simp only [results]
    go_simp)
end Go.Proofs.YtfkcdmbiihkiiaaGreatDoor
/- Whole numbers: sums. -/
namespace Go.Proofs.YtfkcdmbiihkiiaaGreatDoor
open Go.RowKit
set_option linter.unusedVariables false
set_option maxHeartbeats 400000

set_option maxRecDepth 100000 in
set_option maxHeartbeats 4000000 in
theorem zshrink (w : World) (b : Bool) (A : Option Addr) (L c n : Nat) (hu : Un w (.slice A L c) n) (vm : Value) (m : Nat) (hv : Un w vm m) (hl : (limbs n).length ≤ 1000000) (hl2 : (limbs m).length ≤ 1000000) (y : Int) (hy : (if m ≤ n then sg b (n - m) else sg (!b) (m - n)) = y) :
    Calls Tryz.prog 64 #[.agg #[.bool b, .slice A L c], vm] w fun e w' => ∃ u, e = .returned u ∧ Zn w' u y ∧ Ext w w' := by
  obtain ⟨A1, c1, rfl, -⟩ := Un.sh hv
  obtain ⟨L1, hL1⟩ : ∃ L, (limbs m).length = L := ⟨_, rfl⟩
  obtain ⟨q, hq⟩ : ∃ q, decide (m ≤ n) = q := ⟨_, rfl⟩
  obtain ⟨d, hd⟩ : ∃ d, n - m = d := ⟨_, rfl⟩
  obtain ⟨d2, hd2⟩ : ∃ d, m - n = d := ⟨_, rfl⟩
  have hA := Lib.hid (fun W h g => sub_B W (.slice A L c) (.slice A1 (limbs m).length c1) n m h g (by omega) q hq d hd)
  have hA2 := Lib.hid (fun W h g => sub_B W (.slice A1 (limbs m).length c1) (.slice A L c) m n h g (by omega) _ rfl d2 hd2)
  rw [hL1] at hA hA2 hv ⊢
  rw [hd, hd2] at hy
  have hE0 := ((Ext.refl w).alloc (.cells #[.bool b, .slice A L c] 69)).alloc (.cells #[.bool false, .slice none 0 0] 24)
  have hI0 := Ib.new2 w (.cells #[.bool b, .slice A L c] 69) false (.slice none 0 0) 24
  have hP0 := (Ib.new w b (.slice A L c) 69).ext ((Ext.refl _).alloc (.cells #[.bool false, .slice none 0 0] 24))
  have hu0 := hu.below hE0
  have hv0 := hv.below hE0
  obtain ⟨p0, p1, p2, p3, p4⟩ := id hP0
  by_cases h0 : m ≤ n
  · rw [if_pos h0] at hy
    rw [decide_eq_true h0] at hq
    subst hq
    have hM := Lib.hid (fun W v h => zmake W b v (limbs d) h d (val_limbs _) y hy)
    clear hy hL1 hA2 hd hd2 h0
    go_enter Tryz.func64, Tryz.ntmps64
    go_wp2_with (first
      | (go_at_call 52; refine (hA.out _ hu0 hv0).mono ?_; rintro e w2 ⟨u, rfl, hu2, hE2⟩; obtain ⟨A2, c2, rfl, hc2⟩ := Un.sh hu2; obtain ⟨p0, p1, p2, p3, p4⟩ := hP0.ext hE2)
      | (go_at_call 21; refine (hM.out _ _ hu2).mono ?_; rintro e w3 ⟨u, rfl, hz3, hE3⟩; obtain ⟨b3, A3, L3, c3, rfl⟩ := hz3.sh; have hI3 := (hI0.ext hE2).ext hE3; obtain ⟨i0, i1, i2, i3, i4⟩ := id hI3))
    (try simp only [Exit.inBlock, Exit.then])
    refine bodyPost_ret (v := .agg #[.bool b3, .slice A3 L3 c3]) (show (results _ _).run _ _ = _ from ?_) rfl ⟨_, rfl, hz3.put2 ((hI0.ext hE2).ext hE3) (slice_no_int _ _ _) _ _, ((hE0.below hE2).below hE3).put2 (by simp) _ _⟩
    simp only [results]
    go_simp
  · rw [if_neg h0] at hy
    rw [decide_eq_false h0] at hq
    subst hq
    have hM := Lib.hid (fun W v h => zmake W (!b) v (limbs d2) h d2 (val_limbs _) y hy)
    clear hy hL1 hd hd2 h0
    go_enter Tryz.func64, Tryz.ntmps64
    go_upto_region 4 with (go_at_call 52; refine (hA.out _ hu0 hv0).mono ?_; rintro e w2 ⟨u, rfl, hu2, hE2⟩; obtain ⟨A2, c2, rfl, hc2⟩ := Un.sh hu2; obtain ⟨p0, p1, p2, p3, p4⟩ := hP0.ext hE2)
    go_wp2_with (first
      | (go_at_call 52; refine (hA2.out _ (Un.below hv0 hE2) (Un.below hu0 hE2)).mono ?_; rintro e w4 ⟨u, rfl, hu4, hE4⟩; obtain ⟨A4, c4, rfl, hc4⟩ := Un.sh hu4; obtain ⟨p0, p1, p2, p3, p4⟩ := (hP0.ext hE2).ext hE4)
      | (go_at_call 21; refine (hM.out _ _ hu4).mono ?_; rintro e w3 ⟨u, rfl, hz3, hE3⟩; obtain ⟨b3, A3, L3, c3, rfl⟩ := hz3.sh; have hI3 := ((hI0.ext hE2).ext hE4).ext hE3; obtain ⟨i0, i1, i2, i3, i4⟩ := id hI3))
    (try simp only [Exit.inBlock, Exit.then])
    refine bodyPost_ret (v := .agg #[.bool b3, .slice A3 L3 c3]) (show (results _ _).run _ _ = _ from ?_) rfl ⟨_, rfl, hz3.put2 (((hI0.ext hE2).ext hE4).ext hE3) (slice_no_int _ _ _) _ _, (((hE0.below hE2).below hE4).below hE3).put2 (by simp) _ _⟩
    simp only [results]
    go_simp

theorem sg_add_same (b : Bool) (n m : Nat) : sg b (n + m) = sg b n + sg b m := by cases b <;> simp [sg] <;> omega
theorem sg_add_other (b : Bool) (n m : Nat) : (if m ≤ n then sg b (n - m) else sg (!b) (m - n)) = sg b n + sg (!b) m := by
  cases b <;> simp only [sg, Bool.not_false, Bool.not_true, if_true, if_false, Bool.false_eq_true] <;> split <;> omega

set_option maxRecDepth 100000 in
set_option maxHeartbeats 4000000 in
theorem zadd (w : World) (va vb : Value) (a b : Int) (ha : Zn w va a) (hb : Zn w vb b) (hl : (limbs a.natAbs).length ≤ 1000000) (hl2 : (limbs b.natAbs).length ≤ 1000000) (y : Int) (hy : a + b = y) :
    Calls Tryz.prog 29 #[va, vb] w fun e w' => ∃ u, e = .returned u ∧ Zn w' u y ∧ Ext w w' := by
  have hmf : ∀ (fn : Fn) (first cap : Array Value) (w : World), (Instr.makeFunc fn first cap).run Tryz.prog w = .ok (.func fn first cap) w := fun _ _ _ _ => rfl
  obtain ⟨p, A, L, c, n, rfl, hu, hL, hz, -, hza, hzn⟩ := ha.open
  obtain ⟨q, B, K, d, m, rfl, hv, hK, hz2, -, hza2, hzn2⟩ := hb.open
  rw [hza] at hl
  rw [hza2] at hl2
  have hE0 := (((Ext.refl w).alloc (.cells #[.bool p, .slice A L c] 24)).alloc (.cells #[.bool q, .slice B K d] 24)).alloc (.cells #[.bool false, .slice none 0 0] 24)
  have hI0 := Ib.new3 w (.cells #[.bool p, .slice A L c] 24) (.cells #[.bool q, .slice B K d] 24) false (.slice none 0 0) 24
  have hu0 := hu.below hE0
  have hv0 := hv.below hE0
  have hG := Lib.hid (fun W h g (e : sg p (n + m) = y) => zgrow W p A L c n h (.slice B K d) m g hl hl2 y e)
  have hS := Lib.hid (fun W h g (e : (if m ≤ n then sg p (n - m) else sg (!p) (m - n)) = y) => zshrink W p A L c n h (.slice B K d) m g hl hl2 y e)
  rw [hz, hz2] at hy
  have HY := Lib.hid hy
  clear hl hl2 hza hzn hza2 hzn2 hz hz2 hL hK ha hb hy
  cases p <;> cases q
  case' false.false => have HC := Lib.hid (hG.out _ hu0 hv0 ((sg_add_same _ _ _).trans HY.out))
  case' true.true => have HC := Lib.hid (hG.out _ hu0 hv0 ((sg_add_same _ _ _).trans HY.out))
  case' true.false => have HC := Lib.hid (hS.out _ hu0 hv0 ((sg_add_other _ _ _).trans HY.out))
  case' false.true => have HC := Lib.hid (hS.out _ hu0 hv0 ((sg_add_other _ _ _).trans HY.out))
  all_goals (
    clear hG hS
    go_enter Tryz.func29, Tryz.ntmps29
    go_wp2_with (first
      | (go_at_call 63; refine HC.out.mono ?_; rintro e w3 ⟨u, rfl, hz3, hE3⟩; obtain ⟨b3, A3, L3, c3, rfl⟩ := hz3.sh; have hI3 := hI0.ext hE3; obtain ⟨i0, i1, i2, i3, i4⟩ := id hI3)
      | (go_at_call 64; refine HC.out.mono ?_; rintro e w3 ⟨u, rfl, hz3, hE3⟩; obtain ⟨b3, A3, L3, c3, rfl⟩ := hz3.sh; have hI3 := hI0.ext hE3; obtain ⟨i0, i1, i2, i3, i4⟩ := id hI3))
    (try simp only [Exit.inBlock, Exit.then])
    refine bodyPost_ret (v := .agg #[.bool b3, .slice A3 L3 c3]) (show (results _ _).run _ _ = _ from ?_) rfl ⟨_, rfl, hz3.put2 (hI0.ext hE3) (slice_no_int _ _ _) _ _, (hE0.below hE3).put2 (by omega) _ _⟩
    simp only [results]
    go_simp)
end Go.Proofs.YtfkcdmbiihkiiaaGreatDoor
/- Whole numbers: products. -/
namespace Go.Proofs.YtfkcdmbiihkiiaaGreatDoor
open Go.RowKit
set_option linter.unusedVariables false
set_option maxHeartbeats 400000

theorem sg_mul (p q : Bool) (n m : Nat) : sg (!(p == q)) (n * m) = sg p n * sg q m := by
  cases p <;> cases q <;> simp [sg, Int.mul_neg, Int.neg_mul]

set_option maxRecDepth 100000 in
set_option maxHeartbeats 8000000 in
theorem zmul (w : World) (va vb : Value) (a b : Int) (ha : Zn w va a) (hb : Zn w vb b) (hl : (limbs a.natAbs).length ≤ 398) (hl2 : (limbs b.natAbs).length ≤ 398) (y : Int) (hy : a * b = y) :
    Calls Tryz.prog 33 #[va, vb] w fun e w' => ∃ u, e = .returned u ∧ Zn w' u y ∧ Ext w w' := by
  obtain ⟨p, A, L, c, n, rfl, hu, hL, hz, -, hza, hzn⟩ := ha.open
  obtain ⟨q, B, K, d, m, rfl, hv, hK, hz2, -, hza2, hzn2⟩ := hb.open
  rw [hza] at hl
  rw [hza2] at hl2
  obtain ⟨k, hk⟩ : ∃ k, n * m = k := ⟨_, rfl⟩
  have hM := Lib.hid (fun W h g => mulN W (.slice A L c) (.slice B K d) n m k h g hl hl2 hk)
  have hMk := Lib.hid (fun W v (h : Un W v k) => zmake W (!(p == q)) v (limbs k) h k (val_limbs _) y (by rw [← hk, sg_mul, ← hz, ← hz2]; exact hy))
  have hE0 := ((((Ext.refl w).alloc (.cells #[.bool p, .slice A L c] 24)).alloc (.cells #[.bool q, .slice B K d] 24)).alloc (.cells #[.bool false, .slice none 0 0] 24)).drew
  have hI0 := (Ib.new3 w (.cells #[.bool p, .slice A L c] 24) (.cells #[.bool q, .slice B K d] 24) false (.slice none 0 0) 24).ext (Ext.refl _).drew
  have hP0 := (Ib.new w p (.slice A L c) 24).ext ((((Ext.refl _).alloc (.cells #[.bool q, .slice B K d] 24)).alloc (.cells #[.bool false, .slice none 0 0] 24)).drew)
  have hQ0 := (Ib.new2 w (.cells #[.bool p, .slice A L c] 24) q (.slice B K d) 24).ext (((Ext.refl _).alloc (.cells #[.bool false, .slice none 0 0] 24)).drew)
  have hu0 := hu.below hE0
  have hv0 := hv.below hE0
  obtain ⟨p0, p1, p2, p3, p4⟩ := id hP0
  obtain ⟨q0, q1, q2, q3, q4⟩ := id hQ0
  clear hl hl2 hza hzn hza2 hzn2 hz hz2 hL hK ha hb hy hk
  go_enter Tryz.func33, Tryz.ntmps33
  have hS0 : (w.heap.size + 1 + 1 < (((w.alloc (.cells #[.bool p, .slice A L c] 24)).alloc (.cells #[.bool q, .slice B K d] 24)).alloc (.cells #[.bool false, .slice none 0 0] 24)).drew.heap.size ∧ (((w.alloc (.cells #[.bool p, .slice A L c] 24)).alloc (.cells #[.bool q, .slice B K d] 24)).alloc (.cells #[.bool false, .slice none 0 0] 24)).drew.cell? ⟨w.heap.size, 0, none⟩ = some (.bool p) ∧ (((w.alloc (.cells #[.bool p, .slice A L c] 24)).alloc (.cells #[.bool q, .slice B K d] 24)).alloc (.cells #[.bool false, .slice none 0 0] 24)).drew.cell? ⟨w.heap.size, 1, none⟩ = some (.slice A L c) ∧ (((w.alloc (.cells #[.bool p, .slice A L c] 24)).alloc (.cells #[.bool q, .slice B K d] 24)).alloc (.cells #[.bool false, .slice none 0 0] 24)).drew.cell? ⟨w.heap.size + 1, 0, none⟩ = some (.bool q) ∧ (((w.alloc (.cells #[.bool p, .slice A L c] 24)).alloc (.cells #[.bool q, .slice B K d] 24)).alloc (.cells #[.bool false, .slice none 0 0] 24)).drew.cell? ⟨w.heap.size + 1, 1, none⟩ = some (.slice B K d)) ∧ Ext w (((w.alloc (.cells #[.bool p, .slice A L c] 24)).alloc (.cells #[.bool q, .slice B K d] 24)).alloc (.cells #[.bool false, .slice none 0 0] 24)).drew := ⟨⟨by simp, p1, p2, q1, q2⟩, hE0⟩
  clear p0 p1 p2 p3 p4 q0 q1 q2 q3 q4
  go_wp2
  go_region_held3 (fun X => (w.heap.size + 1 + 1 < X.heap.size ∧ X.cell? ⟨w.heap.size, 0, none⟩ = some (.bool p) ∧ X.cell? ⟨w.heap.size, 1, none⟩ = some (.slice A L c) ∧ X.cell? ⟨w.heap.size + 1, 0, none⟩ = some (.bool q) ∧ X.cell? ⟨w.heap.size + 1, 1, none⟩ = some (.slice B K d)) ∧ Ext w X)
    (first
      | exact hS0
      | exact keepI2 (by assumption) (by assumption)
      | exact keepS2 (by assumption))
    (first
      | (go_at_call 65; ((with_reducible refine (hM.out _ hu0 hv0).mono ?_); rintro e w2 ⟨u, rfl, hu2, hE2⟩; obtain ⟨A2, c2, rfl, hc2⟩ := Un.sh hu2))
      | (go_at_call 21; ((with_reducible refine (hMk.out _ _ hu2).mono ?_); rintro e w3 ⟨u, rfl, hz3, hE3⟩; obtain ⟨b3, A3, L3, c3, rfl⟩ := hz3.sh; have hI3 := (hI0.ext hE2).ext hE3; obtain ⟨i0, i1, i2, i3, i4⟩ := id hI3)))
  clear hI3 hM hMk
  go_wp2
  (try simp only [Exit.inBlock, Exit.then])
  refine bodyPost_ret (v := .agg #[.bool b3, .slice A3 L3 c3]) (show (results _ _).run _ _ = _ from ?_) rfl ⟨_, rfl, hz3.put2 ((hI0.ext hE2).ext hE3) (slice_no_int _ _ _) _ _, ((hE0.below hE2).below hE3).put2 (by omega) _ _⟩
  simp only [results]
  go_simp
end Go.Proofs.YtfkcdmbiihkiiaaGreatDoor
/- The document's whole numbers: made, turned, ordered. -/
namespace Go.Proofs.YtfkcdmbiihkiiaaGreatDoor
open Go.RowKit
set_option linter.unusedVariables false
set_option maxHeartbeats 400000

set_option maxRecDepth 100000 in
theorem rzmake (w : World) (b : Bool) (v : Value) (xs : List Nat) (hu : U w v xs) (hlen : xs.length ≤ 1000000000) (n : Nat) (hn : val xs = n) (z : Int) (hz : sg b n = z) :
    Calls Tryz.prog 22 #[.bool b, v] w fun e w' => ∃ u, e = .returned u ∧ Zn w' u z ∧ Ext w w' := by
  have hM := Lib.hid (fun W h => rmake_B W v xs h hlen n hn)
  have hE0 := (Ext.refl w).alloc (.cells #[.bool false, .slice none 0 0] 24)
  have hI0 := Ib.new w false (.slice none 0 0) 24
  have hu0 := hu.below hE0
  have hza : z.natAbs = n := by rw [← hz, sg_abs]
  have hzn : decide (z < 0) = (b && decide (0 < n)) := by rw [← hz, sg_neg]
  obtain ⟨L, hL⟩ : ∃ L, (limbs n).length = L := ⟨_, rfl⟩
  have hc := len_cases n
  rw [hL] at hc
  have HL := Lib.hid hL
  have HZ := Lib.hid (And.intro hza hzn)
  obtain ⟨A0, c0, rfl, -⟩ := id hu
  obtain ⟨l0, hl0⟩ : ∃ l, xs.length = l := ⟨_, rfl⟩
  rw [hl0] at hM hu0 ⊢
  clear hl0
  clear hz hn hL hza hzn
  rcases hc with ⟨h1, rfl⟩ | ⟨h1, h2⟩
  · subst h1
    cases b
    all_goals (
      go_enter Tryz.func22, Tryz.ntmps22
      go_wp2_with (go_at_call 59; refine (hM.out _ hu0).mono ?_; rintro e w2 ⟨u, rfl, hu2, hE2⟩; obtain ⟨A, c, rfl, hc⟩ := Un.sh hu2; rw [HL.out] at hu2 ⊢; clear hc; have hI2 := hI0.ext hE2; obtain ⟨i0, i1, i2, i3, i4⟩ := id hI2)
      (try simp only [Exit.inBlock, Exit.then])
      refine bodyPost_ret (v := .agg #[.bool false, .slice A 0 c]) (show (results _ _).run _ _ = _ from ?_) rfl ⟨_, rfl, Zn.mk' (Un.put2 hu2 hI2 (slice_no_int _ _ _) _ _) HL.out HZ.out.1 HZ.out.2, (hE0.below hE2).put2 (Nat.le_refl _) _ _⟩
      simp only [results]
      go_simp)
  · have h3 : (0 : Int) < (L : Int) := by omega
    have hb0 : Hid (decide (0 < n) = true) := decide_eq_true (by omega)
    cases b
    case' false => have HS : Hid (decide (z < 0) = false) := by show _ = _; rw [HZ.out.2]; rfl
    case' true => have HS : Hid (decide (z < 0) = true) := by show _ = _; rw [HZ.out.2, hb0.out]; rfl
    all_goals (
      go_enter Tryz.func22, Tryz.ntmps22
      go_wp2_with (go_at_call 59; refine (hM.out _ hu0).mono ?_; rintro e w2 ⟨u, rfl, hu2, hE2⟩; obtain ⟨A, c, rfl, hc⟩ := Un.sh hu2; rw [HL.out] at hu2 ⊢; clear hc; have hI2 := hI0.ext hE2; obtain ⟨i0, i1, i2, i3, i4⟩ := id hI2)
      (try simp only [Exit.inBlock, Exit.then])
      refine bodyPost_ret (v := .agg #[.bool _, .slice A L c]) (show (results _ _).run _ _ = _ from ?_) rfl ⟨_, rfl, Zn.mk' (Un.put2 hu2 hI2 (slice_no_int _ _ _) _ _) HL.out HZ.out.1 HS.out, (hE0.below hE2).put2 (Nat.le_refl _) _ _⟩
      simp only [results]
      go_simp)
set_option maxRecDepth 100000 in
theorem rzneg (w : World) (v : Value) (z : Int) (h : Zn w v z) (hlz : (limbs z.natAbs).length ≤ 1000000) (y : Int) (hy : -z = y) :
    Calls Tryz.prog 28 #[v] w fun e w' => ∃ u, e = .returned u ∧ Zn w' u y ∧ Ext w w' := by
  obtain ⟨b, A, L, c, n, rfl, hu, hL, hz, hb, hza, hzn⟩ := h.open
  have hE0 := ((Ext.refl w).alloc (.cells #[.bool b, .slice A L c] 24)).alloc (.cells #[.bool false, .slice none 0 0] 24)
  have hI0 := Ib.new2 w (.cells #[.bool b, .slice A L c] 24) false (.slice none 0 0) 24
  have hP0 := (Ib.new w b (.slice A L c) 24).ext ((Ext.refl _).alloc (.cells #[.bool false, .slice none 0 0] 24))
  have hu0 := hu.below hE0
  have hM := Lib.hid (fun W h => rzmake W (!b) (.slice A L c) (limbs n) h (by rw [hza] at hlz; omega) n (val_limbs n) y (by rw [sg_not, ← hz]; exact hy))
  obtain ⟨p0, p1, p2, p3, p4⟩ := id hP0
  clear hlz hz hb hza hzn hL hy h
  go_enter Tryz.func28, Tryz.ntmps28
  go_wp2_with (go_at_call 22; refine (hM.out _ hu0).mono ?_; rintro e w2 ⟨u, rfl, hz2, hE2⟩; obtain ⟨b2, A2, L2, c2, rfl⟩ := hz2.sh; have hI2 := hI0.ext hE2; obtain ⟨i0, i1, i2, i3, i4⟩ := id hI2)
  (try simp only [Exit.inBlock, Exit.then])
  refine bodyPost_ret (v := .agg #[.bool b2, .slice A2 L2 c2]) (show (results _ _).run _ _ = _ from ?_) rfl ⟨_, rfl, hz2.put2 hI2 (slice_no_int _ _ _) _ _, (hE0.below hE2).put2 (by simp) _ _⟩
  simp only [results]
  go_simp

set_option maxRecDepth 100000 in
set_option maxHeartbeats 4000000 in
theorem rof_B (w : World) (k : Int) (h0 : 0 ≤ k) (h1 : k < 18446744073709551616) (n : Nat) (hn : k.toNat = n) :
    Calls Tryz.prog 79 #[.int .u64 k] w fun e w' => ∃ u, e = .returned u ∧ Un w' u n ∧ Ext w w' := by
  obtain ⟨m, rfl⟩ := Int.eq_ofNat_of_zero_le h0
  rw [Int.toNat_natCast] at hn
  subst hn
  obtain ⟨r, hr⟩ : ∃ r, m % 4294967296 = r := ⟨_, rfl⟩
  obtain ⟨q, hq⟩ : ∃ q, m / 4294967296 = q := ⟨_, rfl⟩
  have hrb : r < 4294967296 := by omega
  have hqb : q < 4294967296 := by omega
  have hv : val [r, q] = m := by simp only [val]; omega
  have hu := Lib.hid (fun W => U_lit W [r, q] (by simp; omega) (by simp))
  have o1 : (m : Int).tmod 4294967296 = (r : Int) := by rw [Int.tmod_eq_emod_of_nonneg (Int.natCast_nonneg _)]; omega
  have o2 : (m : Int) % 4294967296 = (r : Int) := by omega
  have o3 : (m : Int).tdiv 4294967296 = (q : Int) := by rw [Int.tdiv_eq_ediv_of_nonneg (Int.natCast_nonneg _)]; omega
  have o4 : (m : Int) / 4294967296 = (q : Int) := by omega
  have o5 : (r : Int) % 4294967296 = (r : Int) := by omega
  have o6 : (q : Int) % 4294967296 = (q : Int) := by omega
  have o7 : IntKind.u32.wrap (r : Int) = (r : Int) := by rw [IntKind.wrap_u32]; omega
  have o8 : IntKind.u32.wrap (q : Int) = (q : Int) := by rw [IntKind.wrap_u32]; omega
  have o9 : IntKind.u64.wrap (q : Int) = (q : Int) := by rw [IntKind.wrap_u64]; omega
  have hM := Lib.hid (fun W v h => rmake_B W v [r, q] h (by simp) m hv)
  clear hr hq hv h0
  go_enter Tryz.func79, Tryz.ntmps79
  go_wp2_with (go_at_call 59; refine (hM.out _ _ (hu.out w)).mono ?_; rintro e w2 ⟨u, rfl, hu2, hE2⟩; obtain ⟨A2, c2, rfl, -⟩ := Un.sh hu2)
  go_ret
  exact ⟨_, rfl, hu2, ((Ext.refl w).alloc _).below hE2⟩

set_option maxRecDepth 100000 in
theorem rzof (w : World) (z : Int) (h1 : -9223372036854775808 ≤ z) (h2 : z ≤ 9223372036854775807) :
    Calls Tryz.prog 45 #[.int .i64 z] w fun e w' => ∃ u, e = .returned u ∧ Zn w' u z ∧ Ext w w' := by
  have hE0 := (Ext.refl w).alloc (.cells #[.bool false, .slice none 0 0] 24)
  have hI0 := Ib.new w false (.slice none 0 0) 24
  by_cases h0 : z < 0
  · obtain ⟨m, hm⟩ : ∃ m : Nat, -z = (m : Int) := ⟨(-z).toNat, by omega⟩
    obtain ⟨k, hk⟩ : ∃ k : Nat, z + 18446744073709551616 = (k : Int) := ⟨(z + 18446744073709551616).toNat, by omega⟩
    have o1 : z % 18446744073709551616 = (k : Int) := by omega
    have o2 : IntKind.u64.wrap z = (k : Int) := by rw [IntKind.wrap_u64]; omega
    have o3 : (-(k : Int)) % 18446744073709551616 = (m : Int) := by omega
    have o4 : IntKind.u64.wrap (-(k : Int)) = (m : Int) := by rw [IntKind.wrap_u64]; omega
    have hM := Lib.hid (fun W v h => rzmake W true v (limbs m) h (by have := len_of (k := 2) (show m < LB ^ 2 by unfold LB; omega); omega) m (val_limbs m) z (by rw [sg_true]; omega))
    have hOf := Lib.hid (fun W => rof_B W (m : Int) (by omega) (by omega) m (by simp))
    clear hm hk
    go_enter Tryz.func45, Tryz.ntmps45
    go_wp2_with (first
      | (go_at_call 79; refine (hOf.out _).mono ?_; rintro e w2 ⟨u, rfl, hu2, hE2⟩; obtain ⟨A2, c2, rfl, hc2⟩ := Un.sh hu2)
      | (go_at_call 22; refine (hM.out _ _ hu2).mono ?_; rintro e w3 ⟨u, rfl, hz3, hE3⟩; obtain ⟨b3, A3, L3, c3, rfl⟩ := hz3.sh; have hI3 := (hI0.ext hE2).ext hE3; obtain ⟨i0, i1, i2, i3, i4⟩ := id hI3))
    (try simp only [Exit.inBlock, Exit.then])
    refine bodyPost_ret (v := .agg #[.bool b3, .slice A3 L3 c3]) (show (results _ _).run _ _ = _ from ?_) rfl ⟨_, rfl, hz3.put2 hI3 (slice_no_int _ _ _) _ _, ((hE0.below hE2).below hE3).put2 (by simp) _ _⟩
    simp only [results]
    go_simp
  · obtain ⟨m, rfl⟩ := Int.eq_ofNat_of_zero_le (show 0 ≤ z by omega)
    have o1 : (m : Int) % 18446744073709551616 = (m : Int) := by omega
    have o2 : IntKind.u64.wrap (m : Int) = (m : Int) := by rw [IntKind.wrap_u64]; omega
    have hM := Lib.hid (fun W v h => rzmake W false v (limbs m) h (by have := len_of (k := 2) (show m < LB ^ 2 by unfold LB; omega); omega) m (val_limbs m) (m : Int) rfl)
    have hOf := Lib.hid (fun W => rof_B W (m : Int) (by omega) (by omega) m (by simp))
    go_enter Tryz.func45, Tryz.ntmps45
    go_wp2_with (first
      | (go_at_call 79; refine (hOf.out _).mono ?_; rintro e w2 ⟨u, rfl, hu2, hE2⟩; obtain ⟨A2, c2, rfl, hc2⟩ := Un.sh hu2)
      | (go_at_call 22; refine (hM.out _ _ hu2).mono ?_; rintro e w3 ⟨u, rfl, hz3, hE3⟩; obtain ⟨b3, A3, L3, c3, rfl⟩ := hz3.sh; have hI3 := (hI0.ext hE2).ext hE3; obtain ⟨i0, i1, i2, i3, i4⟩ := id hI3))
    (try simp only [Exit.inBlock, Exit.then])
    refine bodyPost_ret (v := .agg #[.bool b3, .slice A3 L3 c3]) (show (results _ _).run _ _ = _ from ?_) rfl ⟨_, rfl, hz3.put2 hI3 (slice_no_int _ _ _) _ _, ((hE0.below hE2).below hE3).put2 (by simp) _ _⟩
    simp only [results]
    go_simp
set_option maxRecDepth 100000 in
theorem rzright (w : World) (v : Value) (b : Bool) (xs : List Nat) (h : Ri w v b xs) (r : Bool) (hr : (rightB xs && !(b && decide (xs.length = 0))) = r) :
    Calls Tryz.prog 19 #[v] w fun e w' => e = .returned (.bool r) ∧ Ext w w' := by
  obtain ⟨A, c, rfl, hu⟩ := h
  have hE0 := (Ext.refl w).alloc (.cells #[.bool b, .slice A xs.length c] 24)
  have hP0 := Ib.new w b (.slice A xs.length c) 24
  have hu0 := hu.below hE0
  obtain ⟨q, hq⟩ : ∃ q, rightB xs = q := ⟨_, rfl⟩
  have hR := Lib.hid (rright_B _ _ xs hu0 q hq)
  rw [hq] at hr
  obtain ⟨L, hL⟩ : ∃ L, xs.length = L := ⟨_, rfl⟩
  rw [hL] at hr hR hP0 hE0 ⊢
  clear hq hL hu0 hu
  by_cases h0 : L = 0
  · subst h0
    cases b <;> cases q
    all_goals (
      subst hr
      go_enter Tryz.func19, Tryz.ntmps19
      go_wp2_with (go_at_call 57; refine hR.out.mono ?_; rintro e w2 ⟨rfl, hE2⟩; obtain ⟨p0, p1, p2, p3, p4⟩ := hP0.ext hE2)
      go_ret
      exact ⟨by first | rfl | simp, hE0.below hE2⟩)
  · have h3 : (0 : Int) < (L : Int) := by omega
    have h4 : 0 < L := by omega
    rw [decide_eq_false h0] at hr
    cases b <;> cases q
    all_goals (
      subst hr
      go_enter Tryz.func19, Tryz.ntmps19
      go_wp2_with (go_at_call 57; refine hR.out.mono ?_; rintro e w2 ⟨rfl, hE2⟩; obtain ⟨p0, p1, p2, p3, p4⟩ := hP0.ext hE2)
      go_ret
      exact ⟨by first | rfl | simp, hE0.below hE2⟩)

set_option maxRecDepth 100000 in
set_option maxHeartbeats 8000000 in
theorem rzcmp (w : World) (va vb : Value) (a b : Int) (ha : Zn w va a) (hb : Zn w vb b) (hl : (limbs a.natAbs).length ≤ 1000000) (hl2 : (limbs b.natAbs).length ≤ 1000000) (k : Int) (hk : cmpI a b = k) :
    Calls Tryz.prog 24 #[va, vb] w fun e w' => e = .returned (.int .i64 k) ∧ Ext w w' := by
  obtain ⟨p, A, L, c, n, rfl, hu, hL, hz, -, hza, hzn⟩ := ha.open
  obtain ⟨q, B, K, d, m, rfl, hv, hK, hz2, -, hza2, hzn2⟩ := hb.open
  rw [hza] at hl
  rw [hza2] at hl2
  have hE0 := ((Ext.refl w).alloc (.cells #[.bool p, .slice A L c] 24)).alloc (.cells #[.bool q, .slice B K d] 24)
  have hu0 := hu.below hE0
  have hv0 := hv.below hE0
  have hsgn1 : decide (a < 0) = p := hzn
  have hsgn2 : decide (b < 0) = q := hzn2
  cases p <;> cases q
  case' false.false =>
    have hC := Lib.hid (rcmp_B _ (.slice A L c) (.slice B K d) n m hu0 hv0 (by omega) (by omega) k (by
      have h1 := of_decide_eq_false hsgn1
      have h2 := of_decide_eq_false hsgn2
      rw [← hk, show a = (n : Int) by omega, show b = (m : Int) by omega]))
  case' true.true =>
    have hC := Lib.hid (rcmp_B _ (.slice B K d) (.slice A L c) m n hv0 hu0 (by omega) (by omega) k (by
      have h1 := of_decide_eq_true hsgn1
      have h2 := of_decide_eq_true hsgn2
      rw [← hk, show a = -(n : Int) by omega, show b = -(m : Int) by omega]
      unfold cmpI; (repeat' split) <;> omega))
  case' true.false =>
    have hkk : k = -1 := by
      have h1 := of_decide_eq_true hsgn1
      have h2 := of_decide_eq_false hsgn2
      rw [← hk]; exact if_pos (by omega)
    subst hkk
  case' false.true =>
    have hkk : k = 1 := by
      have h1 := of_decide_eq_false hsgn1
      have h2 := of_decide_eq_true hsgn2
      rw [← hk]; unfold cmpI; rw [if_neg (by omega), if_pos (by omega)]
    subst hkk
  all_goals (
    clear hl hl2 hza hzn hza2 hzn2 hz hz2 hL hK ha hb hu hv hk hsgn1 hsgn2 hu0 hv0
    go_enter Tryz.func24, Tryz.ntmps24
    go_wp2_with (go_at_call 62; refine hC.out.mono ?_; rintro e w2 ⟨rfl, hE2⟩)
    go_ret
    exact ⟨rfl, by first | exact hE0.below hE2 | exact hE0⟩)

set_option maxRecDepth 100000 in
theorem rzsign (w : World) (v : Value) (z : Int) (h : Zn w v z) (hl : (limbs z.natAbs).length ≤ 1000000) (k : Int) (hk : Int.sign z = k) :
    Calls Tryz.prog 26 #[v] w fun e w' => e = .returned (.int .i64 k) ∧ Ext w w' := by
  have hk2 : cmpI z 0 = k := by
    rw [← hk]
    unfold cmpI
    rcases Int.lt_trichotomy z 0 with h | h | h
    · rw [if_pos h, Int.sign_eq_neg_one_of_neg h]
    · subst h; rfl
    · rw [if_neg (by omega), if_pos h, Int.sign_eq_one_of_pos h]
  have h' := h
  obtain ⟨p, A, L, c, rfl⟩ := h.sh
  have hE0 := (Ext.refl w).alloc (.cells #[.bool p, .slice A L c] 24)
  have hC := Lib.hid (rzcmp _ _ _ z 0 (h'.below hE0) (Zn.zero _ none 0) hl (by rw [show Int.natAbs 0 = 0 from rfl, limbs_zero]; decide) k hk2)
  clear hk hk2 hl h h'
  go_enter Tryz.func26, Tryz.ntmps26
  go_wp2_with (go_at_call 24; refine hC.out.mono ?_; rintro e w2 ⟨rfl, hE2⟩)
  go_ret
  exact ⟨rfl, hE0.below hE2⟩

theorem cmp_zero (a b : Int) : cmpI a b = 0 ↔ a = b := by unfold cmpI; (repeat' split) <;> omega
set_option maxRecDepth 100000 in
set_option maxHeartbeats 8000000 in
theorem rzsame (w : World) (va vb : Value) (a b : Int) (ha : Zn w va a) (hb : Zn w vb b) (hl : (limbs a.natAbs).length ≤ 1000000) (hl2 : (limbs b.natAbs).length ≤ 1000000) (r : Bool) (hr : decide (a = b) = r) :
    Calls Tryz.prog 20 #[va, vb] w fun e w' => e = .returned (.bool r) ∧ Ext w w' := by
  have ha' := ha
  have hb' := hb
  obtain ⟨p, A, L, c, n, rfl, -, -, -, -, -, hzn⟩ := ha.open
  obtain ⟨q, B, K, d, m, rfl, -, -, -, -, -, hzn2⟩ := hb.open
  have hE0 := ((Ext.refl w).alloc (.cells #[.bool p, .slice A L c] 24)).alloc (.cells #[.bool q, .slice B K d] 24)
  have hP0 := (Ib.new w p (.slice A L c) 24).ext ((Ext.refl _).alloc (.cells #[.bool q, .slice B K d] 24))
  have hQ0 := Ib.new2 w (.cells #[.bool p, .slice A L c] 24) q (.slice B K d) 24
  obtain ⟨k, hk⟩ : ∃ k, cmpI a b = k := ⟨_, rfl⟩
  have hC := Lib.hid (rzcmp _ _ _ a b (ha'.below hE0) (hb'.below hE0) hl hl2 k hk)
  by_cases hab : a = b
  · rw [decide_eq_true hab] at hr
    subst hr
    have hk0 : k = 0 := by rw [← hk]; exact (cmp_zero a b).2 hab
    have hpq : p = q := by rw [← hzn, ← hzn2, hab]
    subst hk0
    subst hpq
    clear hk hab hzn hzn2 hl hl2 ha hb ha' hb'
    cases p
    all_goals (
      go_enter Tryz.func20, Tryz.ntmps20
      go_wp2_with (go_at_call 24; refine hC.out.mono ?_; rintro e w2 ⟨rfl, hE2⟩; obtain ⟨p0, p1, p2, p3, p4⟩ := hP0.ext hE2; obtain ⟨q0, q1, q2, q3, q4⟩ := hQ0.ext hE2)
      go_ret
      exact ⟨by first | rfl | simp, hE0.below hE2⟩)
  · rw [decide_eq_false hab] at hr
    subst hr
    have hk0 : (k == 0) = false := by
      rw [beq_eq_false_iff_ne]
      intro h
      exact hab ((cmp_zero a b).1 (hk.trans h))
    clear hk hab hzn hzn2 hl hl2 ha hb ha' hb'
    go_enter Tryz.func20, Tryz.ntmps20
    go_wp2_with (go_at_call 24; refine hC.out.mono ?_; rintro e w2 ⟨rfl, hE2⟩; obtain ⟨p0, p1, p2, p3, p4⟩ := hP0.ext hE2; obtain ⟨q0, q1, q2, q3, q4⟩ := hQ0.ext hE2)
    go_ret
    exact ⟨by first | rfl | simp, hE0.below hE2⟩

end Go.Proofs.YtfkcdmbiihkiiaaGreatDoor
