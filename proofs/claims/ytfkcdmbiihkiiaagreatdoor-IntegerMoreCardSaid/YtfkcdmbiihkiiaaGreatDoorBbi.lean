/- Numbers made of any; the laws' own small calls. -/
import Derived.Test.YtfkcdmbiihkiiaaGreatDoorBbh
import Derived.Test.YtfkcdmbiihkiiaaGreatDoorBaj
import Derived.Test.YtfkcdmbiihkiiaaGreatDoorBav
import Derived.Deep.RegionHeld3

namespace Go.Proofs.YtfkcdmbiihkiiaaGreatDoor
open Go.RowKit
set_option linter.unusedVariables false
set_option maxHeartbeats 400000

set_option maxRecDepth 100000 in
set_option maxHeartbeats 8000000 in
theorem rzmade (w : World) (va : Value) (b : Bool) (xs : List Nat) (ha : Ri w va b xs) (k : Int) (hk0 : 0 ≤ k) (hk1 : k ≤ 1000000) (n : Nat) (hn : cutN xs k.toNat = n) (hl : (limbs n).length ≤ 1000000) (y : Int) (hy : sg b n = y) :
    Calls Tryz.prog 35 #[va, .int .i64 k] w fun e w' => ∃ u, e = .returned u ∧ Zn w' u y ∧ Ext w w' := by
  obtain ⟨A, c, rfl, hu⟩ := ha
  obtain ⟨L, hL⟩ : ∃ L, xs.length = L := ⟨_, rfl⟩
  have hMd := Lib.hid (fun W h => made_B W (.slice A xs.length c) xs k h hk0 (by omega) n hn)
  rw [hL] at hMd hu ⊢
  have hE0 := (((Ext.refl w).alloc (.cells #[.bool b, .slice A L c] 24)).alloc (.cells #[.bool false, .slice none 0 0] 24)).drew
  have hI0 := (Ib.new2 w (.cells #[.bool b, .slice A L c] 24) false (.slice none 0 0) 24).ext (Ext.refl _).drew
  have hP0 := (Ib.new w b (.slice A L c) 24).ext (((Ext.refl _).alloc (.cells #[.bool false, .slice none 0 0] 24)).drew)
  have hS0 : (w.heap.size + 1 < ((w.alloc (.cells #[.bool b, .slice A L c] 24)).alloc (.cells #[.bool false, .slice none 0 0] 24)).drew.heap.size ∧ ((w.alloc (.cells #[.bool b, .slice A L c] 24)).alloc (.cells #[.bool false, .slice none 0 0] 24)).drew.cell? ⟨w.heap.size, 0, none⟩ = some (.bool b) ∧ ((w.alloc (.cells #[.bool b, .slice A L c] 24)).alloc (.cells #[.bool false, .slice none 0 0] 24)).drew.cell? ⟨w.heap.size, 1, none⟩ = some (.slice A L c)) ∧ Ext w ((w.alloc (.cells #[.bool b, .slice A L c] 24)).alloc (.cells #[.bool false, .slice none 0 0] 24)).drew := ⟨⟨by simp, hP0.2.1, hP0.2.2.1⟩, hE0⟩
  have hu0 := hu.below hE0
  have hM1 := Lib.hid (fun W v (h : Un W v n) => rzmake W b v (limbs n) h (by omega) n (val_limbs _) y hy)
  clear hP0 hy hn hL hl hu hk0 hk1
  go_enter Tryz.func35, Tryz.ntmps35
  go_wp2
  go_region_held3 (fun X => (w.heap.size + 1 < X.heap.size ∧ X.cell? ⟨w.heap.size, 0, none⟩ = some (.bool b) ∧ X.cell? ⟨w.heap.size, 1, none⟩ = some (.slice A L c)) ∧ Ext w X)
    (first
      | assumption
      | with_reducible exact hS0
      | with_reducible exact keepS1 (by assumption)
      | exact keepI1 (by assumption) (by assumption))
    (first
      | (go_at_call 67; ((with_reducible refine (hMd.out _ hu0).mono ?_); rintro e w2 ⟨u, rfl, hu2, hE2⟩; obtain ⟨A2, c2, rfl, -⟩ := Un.sh hu2))
      | (go_at_call 22; ((with_reducible refine (hM1.out _ _ hu2).mono ?_); rintro e w3 ⟨u, rfl, hz3, hE3⟩; obtain ⟨b3, A3, L3, c3, rfl⟩ := hz3.sh; have hI3 := (hI0.ext hE2).ext hE3; obtain ⟨i0, i1, i2, i3, i4⟩ := id hI3)))
  clear hI3 hMd hM1
  go_wp2
  (try simp only [Exit.inBlock, Exit.then])
  refine bodyPost_ret (v := .agg #[.bool b3, .slice A3 L3 c3]) (show (results _ _).run _ _ = _ from ?_) rfl ⟨_, rfl, hz3.put2 ((hI0.ext hE2).ext hE3) (slice_no_int _ _ _) _ _, ((hE0.below hE2).below hE3).put2 (by omega) _ _⟩
  simp only [results]
  go_simp

theorem cutN_len' (xs : List Nat) (K : Nat) (hx : ∀ x ∈ xs, x < 4294967296) : (limbs (cutN xs K)).length ≤ K := len_of (cut_lt xs K hx)
set_option maxRecDepth 100000 in
set_option maxHeartbeats 4000000 in
theorem lmade (w : World) (va : Value) (b : Bool) (xs : List Nat) (ha : Ri w va b xs) (y : Int) (hy : sg b (cutN xs 40) = y) :
    Calls Tryz.prog 13 #[va] w fun e w' => ∃ u, e = .returned u ∧ Zn w' u y ∧ Ext w w' := by
  have ha' := ha
  obtain ⟨A, c, rfl, hu⟩ := ha
  obtain ⟨L, hL⟩ : ∃ L, xs.length = L := ⟨_, rfl⟩
  have hE0 := ((Ext.refl w).alloc (.cells #[.bool b, .slice A xs.length c] 24)).alloc (.cells #[.bool false, .slice none 0 0] 24)
  have hI0 := Ib.new2 w (.cells #[.bool b, .slice A xs.length c] 24) false (.slice none 0 0) 24
  have hMd := Lib.hid (rzmade _ _ b xs (ha'.below hE0) 40 (by decide) (by decide) _ rfl (by have := cutN_len' xs 40 hu.lim; exact Nat.le_trans this (by decide)) y hy)
  rw [hL] at hMd hE0 hI0 ⊢
  clear hy hL hu ha'
  go_enter Tryz.func13, Tryz.ntmps13
  go_wp2_with (go_at_call 35; refine hMd.out.mono ?_; rintro e w3 ⟨u, rfl, hz3, hE3⟩; obtain ⟨b3, A3, L3, c3, rfl⟩ := hz3.sh; have hI3 := hI0.ext hE3; obtain ⟨i0, i1, i2, i3, i4⟩ := id hI3)
  (try simp only [Exit.inBlock, Exit.then])
  refine bodyPost_ret (v := .agg #[.bool b3, .slice A3 L3 c3]) (show (results _ _).run _ _ = _ from ?_) rfl ⟨_, rfl, hz3.put2 (hI0.ext hE3) (slice_no_int _ _ _) _ _, (hE0.below hE3).put2 (by omega) _ _⟩
  simp only [results]
  go_simp

set_option maxRecDepth 100000 in
set_option maxHeartbeats 4000000 in
theorem lof (w : World) (z : Int) (h1 : -9223372036854775808 ≤ z) (h2 : z ≤ 9223372036854775807) :
    Calls Tryz.prog 47 #[.int .i64 z] w fun e w' => ∃ u, e = .returned u ∧ Zn w' u z ∧ Ext w w' := by
  have hE0 := (Ext.refl w).alloc (.cells #[.bool false, .slice none 0 0] 24)
  have hI0 := Ib.new w false (.slice none 0 0) 24
  have hMd := Lib.hid (rzof (w.alloc (.cells #[.bool false, .slice none 0 0] 24)) z h1 h2)
  clear h1 h2
  go_enter Tryz.func47, Tryz.ntmps47
  go_wp2_with (go_at_call 45; refine hMd.out.mono ?_; rintro e w3 ⟨u, rfl, hz3, hE3⟩; obtain ⟨b3, A3, L3, c3, rfl⟩ := hz3.sh; have hI3 := hI0.ext hE3; obtain ⟨i0, i1, i2, i3, i4⟩ := id hI3)
  (try simp only [Exit.inBlock, Exit.then])
  refine bodyPost_ret (v := .agg #[.bool b3, .slice A3 L3 c3]) (show (results _ _).run _ _ = _ from ?_) rfl ⟨_, rfl, hz3.put2 (hI0.ext hE3) (slice_no_int _ _ _) _ _, (hE0.below hE3).put2 (by omega) _ _⟩
  simp only [results]
  go_simp
end Go.Proofs.YtfkcdmbiihkiiaaGreatDoor
/- Whole numbers: shifts. -/
namespace Go.Proofs.YtfkcdmbiihkiiaaGreatDoor
open Go.RowKit
set_option linter.unusedVariables false
set_option maxHeartbeats 400000

theorem sg_shl (p : Bool) (n k : Nat) : sg p (n * 2 ^ k) = sg p n * 2 ^ k := by
  have e : ((n * 2 ^ k : Nat) : Int) = (n : Int) * 2 ^ k := by rw [Int.natCast_mul, Int.natCast_pow]; rfl
  cases p
  · exact e
  · show -((n * 2 ^ k : Nat) : Int) = -(n : Int) * 2 ^ k
    rw [e, Int.neg_mul]
theorem sg_shr0 (n k : Nat) : sg false (n / 2 ^ k) = sg false n / 2 ^ k := by
  show ((n / 2 ^ k : Nat) : Int) = (n : Int) / 2 ^ k
  rw [Int.natCast_ediv, Int.natCast_pow]; rfl
theorem sg_shr1 (n k : Nat) (h : n ≠ 0) : sg true ((n - 1) / 2 ^ k + 1) = sg true n / 2 ^ k := by
  show -(((n - 1) / 2 ^ k + 1 : Nat) : Int) = -(n : Int) / 2 ^ k
  have hP : 0 < 2 ^ k := Nat.two_pow_pos k
  have e : (2 : Int) ^ k = ((2 ^ k : Nat) : Int) := by rw [Int.natCast_pow]; rfl
  rw [e]
  have e1 := Nat.div_add_mod (n - 1) (2 ^ k)
  have e2 := Nat.mod_lt (n - 1) hP
  generalize (n - 1) / 2 ^ k = d at *
  generalize (n - 1) % 2 ^ k = r at *
  generalize 2 ^ k = P at *
  have e3 : (P : Int) * -((d + 1 : Nat) : Int) = -((P : Int) * (d : Int)) - (P : Int) := by rw [Int.natCast_add, Int.mul_neg, Int.mul_add]; omega
  have e4 : ((P * d : Nat) : Int) = (P : Int) * (d : Int) := Int.natCast_mul _ _
  have := (Int.ediv_emod_unique (a := -(n : Int)) (b := (P : Int)) (q := -((d + 1 : Nat) : Int)) (r := (P : Int) - 1 - (r : Int)) (by omega)).2 ⟨by rw [e3, ← e4]; omega, by omega, by omega⟩
  exact this.1.symm

set_option maxRecDepth 100000 in
theorem shift1 (w : World) (N : Nat) (s : Int) (t : Nat) (hs : -s = (t : Int)) (ht : t ≤ 1000000) (hc : w.cell? ⟨N, 0, none⟩ = some (.int .i64 s)) (v : Value) (n : Nat) (hu : Un w v n) (hl : (limbs n).length ≤ 1000000) :
    Calls Tryz.prog 73 #[v, .pointer (some ⟨N, 0, none⟩)] w fun e w' => ∃ u, e = .returned u ∧ Un w' u (n / 2 ^ t) ∧ Ext w w' := by
  have hS := Lib.hid (shr_B w v n (t : Int) hu (by omega) (by omega) (by omega) _ rfl)
  rw [Int.toNat_natCast] at hS
  obtain ⟨A, c, rfl, -⟩ := Un.sh hu
  have ht2 : t ≤ 1000000 := ht
  clear hl hu
  go_enter Tryz.func73, Tryz.ntmps73
  go_wp2_with (go_at_call 74; refine hS.out.mono ?_; rintro e w2 ⟨u, rfl, hu2, hE2⟩; obtain ⟨A2, c2, rfl, -⟩ := Un.sh hu2)
  go_ret
  exact ⟨_, rfl, hu2, hE2⟩

set_option maxRecDepth 100000 in
theorem shift2 (w : World) (N : Nat) (s : Int) (t : Nat) (hs : -s = (t : Int)) (ht : t ≤ 1000000) (hN : N < w.heap.size) (hc : w.cell? ⟨N, 0, none⟩ = some (.int .i64 s)) (v : Value) (n : Nat) (hn : n ≠ 0) (hu : Un w v n) (hl : (limbs n).length ≤ 1000000) :
    Calls Tryz.prog 75 #[v, .pointer (some ⟨N, 0, none⟩)] w fun e w' => ∃ u, e = .returned u ∧ Un w' u ((n - 1) / 2 ^ t + 1) ∧ Ext w w' := by
  have hl2 : (limbs (n - 1)).length ≤ 1000000 := Nat.le_trans (len_mono (by omega)) hl
  have hl3 : (limbs ((n - 1) / 2 ^ t)).length ≤ 1000000 := Nat.le_trans (len_mono (Nat.div_le_self _ _)) hl2
  have hSb := Lib.hid (fun W h g => sub_B W v (.slice (some ⟨w.heap.size, 0, none⟩) 1 1) n 1 h g (by omega) true (decide_eq_true (by omega)) (n - 1) rfl)
  have hS := Lib.hid (fun W u h => shr_B W u (n - 1) (t : Int) h (by omega) (by omega) (by omega) ((n - 1) / 2 ^ t) (by rw [Int.toNat_natCast]))
  have hA := Lib.hid (fun W u x h g => add_B W u x ((n - 1) / 2 ^ t) 1 h g (by omega) len_1 _ rfl)
  obtain ⟨A, c, rfl, -⟩ := Un.sh hu
  have ht2 : t ≤ 1000000 := ht
  clear hl hl2 hl3
  go_enter Tryz.func75, Tryz.ntmps75
  go_wp2_with (first
    | (go_at_call 52; refine (hSb.out _ (Un.below hu ((Ext.refl _).alloc _)) (pow_lit _)).mono ?_; rintro e w2 ⟨u, rfl, hu2, hE2⟩; obtain ⟨A2, c2, rfl, -⟩ := Un.sh hu2; have hE2' := ((Ext.refl w).alloc (.cells #[.int .u32 1] 56)).below hE2; have hc2 := (hE2'.cell (p := ⟨N, 0, none⟩) hN).trans hc)
    | (go_at_call 74; refine (hS.out _ _ hu2).mono ?_; rintro e w3 ⟨u, rfl, hu3, hE3⟩; obtain ⟨A3, c3, rfl, -⟩ := Un.sh hu3)
    | (go_at_call 51; refine (hA.out _ _ _ (Un.below hu3 ((Ext.refl _).alloc _)) (pow_lit _)).mono ?_; rintro e w4 ⟨u, rfl, hu4, hE4⟩; obtain ⟨A4, c4, rfl, -⟩ := Un.sh hu4))
  go_ret
  exact ⟨_, rfl, hu4, (hE2'.below hE3).below (((Ext.refl w3).alloc (.cells #[.int .u32 1] 56)).below hE4)⟩

/-- A number and a shift in their blocks, while an answer is made. -/
theorem keepSh {w X Y : World} {p : Bool} {mp : Value} {s : Int} (h : (w.heap.size + 1 + 1 < X.heap.size ∧ X.cell? ⟨w.heap.size, 0, none⟩ = some (.bool p) ∧ X.cell? ⟨w.heap.size, 1, none⟩ = some mp ∧ X.cell? ⟨w.heap.size + 1, 0, none⟩ = some (.int .i64 s)) ∧ Ext w X) (k : Ext X Y) : (w.heap.size + 1 + 1 < Y.heap.size ∧ Y.cell? ⟨w.heap.size, 0, none⟩ = some (.bool p) ∧ Y.cell? ⟨w.heap.size, 1, none⟩ = some mp ∧ Y.cell? ⟨w.heap.size + 1, 0, none⟩ = some (.int .i64 s)) ∧ Ext w Y := by
  obtain ⟨⟨h0, h1, h2, h3⟩, h5⟩ := h
  have hs := k.size
  exact ⟨⟨by omega, (k.cell (p := ⟨w.heap.size, 0, none⟩) (by show w.heap.size < _; omega)).trans h1, (k.cell (p := ⟨w.heap.size, 1, none⟩) (by show w.heap.size < _; omega)).trans h2, (k.cell (p := ⟨w.heap.size + 1, 0, none⟩) (by show w.heap.size + 1 < _; omega)).trans h3⟩, h5.below k⟩
theorem keepShS {w X : World} {p : Bool} {mp x y : Value} {s : Int} (h : (w.heap.size + 1 + 1 < X.heap.size ∧ X.cell? ⟨w.heap.size, 0, none⟩ = some (.bool p) ∧ X.cell? ⟨w.heap.size, 1, none⟩ = some mp ∧ X.cell? ⟨w.heap.size + 1, 0, none⟩ = some (.int .i64 s)) ∧ Ext w X) : (w.heap.size + 1 + 1 < ((X.setCell ⟨w.heap.size + 1 + 1, 0, none⟩ x).setCell ⟨w.heap.size + 1 + 1, 1, none⟩ y).heap.size ∧ ((X.setCell ⟨w.heap.size + 1 + 1, 0, none⟩ x).setCell ⟨w.heap.size + 1 + 1, 1, none⟩ y).cell? ⟨w.heap.size, 0, none⟩ = some (.bool p) ∧ ((X.setCell ⟨w.heap.size + 1 + 1, 0, none⟩ x).setCell ⟨w.heap.size + 1 + 1, 1, none⟩ y).cell? ⟨w.heap.size, 1, none⟩ = some mp ∧ ((X.setCell ⟨w.heap.size + 1 + 1, 0, none⟩ x).setCell ⟨w.heap.size + 1 + 1, 1, none⟩ y).cell? ⟨w.heap.size + 1, 0, none⟩ = some (.int .i64 s)) ∧ Ext w ((X.setCell ⟨w.heap.size + 1 + 1, 0, none⟩ x).setCell ⟨w.heap.size + 1 + 1, 1, none⟩ y) := by
  obtain ⟨⟨h0, h1, h2, h3⟩, h5⟩ := h
  have hc : ∀ a : Addr, a.block ≠ w.heap.size + 1 + 1 → ((X.setCell ⟨w.heap.size + 1 + 1, 0, none⟩ x).setCell ⟨w.heap.size + 1 + 1, 1, none⟩ y).cell? a = X.cell? a := fun a ha => by
    rw [World.cell?_setCell_other _ _ _ _ (fun e => ha (by rw [← e])), World.cell?_setCell_other _ _ _ _ (fun e => ha (by rw [← e]))]
  refine ⟨⟨by simpa using h0, ?_, ?_, ?_⟩, h5.put2 (by omega) _ _⟩
  · rw [hc _ (by show w.heap.size ≠ _; omega)]; exact h1
  · rw [hc _ (by show w.heap.size ≠ _; omega)]; exact h2
  · rw [hc _ (by show w.heap.size + 1 ≠ _; omega)]; exact h3

set_option maxRecDepth 100000 in
set_option maxHeartbeats 8000000 in
theorem zshift (w : World) (va : Value) (a s : Int) (ha : Zn w va a) (hl : (limbs a.natAbs).length ≤ 1000000) (hs1 : -1000000 ≤ s) (hs2 : s ≤ 1000000) (y : Int) (hy : (if 0 ≤ s then a * 2 ^ s.toNat else a / 2 ^ (-s).toNat) = y) :
    Calls Tryz.prog 40 #[va, .int .i64 s] w fun e w' => ∃ u, e = .returned u ∧ Zn w' u y ∧ Ext w w' := by
  have hmf : ∀ (fn : Fn) (first cap : Array Value) (w : World), (Instr.makeFunc fn first cap).run Tryz.prog w = .ok (.func fn first cap) w := fun _ _ _ _ => rfl
  obtain ⟨p, A, L, c, n, rfl, hu, hL, hz, hp, hza, hzn⟩ := ha.open
  rw [hza] at hl
  have hE0 := ((((Ext.refl w).alloc (.cells #[.bool p, .slice A L c] 24)).alloc (.cells #[.int .i64 s] 3)).alloc (.cells #[.bool false, .slice none 0 0] 24)).drew
  have hI0 := (Ib.new3 w (.cells #[.bool p, .slice A L c] 24) (.cells #[.int .i64 s] 3) false (.slice none 0 0) 24).ext (Ext.refl _).drew
  have hP0 := (Ib.new w p (.slice A L c) 24).ext ((((Ext.refl _).alloc (.cells #[.int .i64 s] 3)).alloc (.cells #[.bool false, .slice none 0 0] 24)).drew)
  have hs0 : (((w.alloc (.cells #[.bool p, .slice A L c] 24)).alloc (.cells #[.int .i64 s] 3)).alloc (.cells #[.bool false, .slice none 0 0] 24)).drew.cell? ⟨w.heap.size + 1, 0, none⟩ = some (.int .i64 s) := by go_simp
  have hS0 : (w.heap.size + 1 + 1 < (((w.alloc (.cells #[.bool p, .slice A L c] 24)).alloc (.cells #[.int .i64 s] 3)).alloc (.cells #[.bool false, .slice none 0 0] 24)).drew.heap.size ∧ (((w.alloc (.cells #[.bool p, .slice A L c] 24)).alloc (.cells #[.int .i64 s] 3)).alloc (.cells #[.bool false, .slice none 0 0] 24)).drew.cell? ⟨w.heap.size, 0, none⟩ = some (.bool p) ∧ (((w.alloc (.cells #[.bool p, .slice A L c] 24)).alloc (.cells #[.int .i64 s] 3)).alloc (.cells #[.bool false, .slice none 0 0] 24)).drew.cell? ⟨w.heap.size, 1, none⟩ = some (.slice A L c) ∧ (((w.alloc (.cells #[.bool p, .slice A L c] 24)).alloc (.cells #[.int .i64 s] 3)).alloc (.cells #[.bool false, .slice none 0 0] 24)).drew.cell? ⟨w.heap.size + 1, 0, none⟩ = some (.int .i64 s)) ∧ Ext w (((w.alloc (.cells #[.bool p, .slice A L c] 24)).alloc (.cells #[.int .i64 s] 3)).alloc (.cells #[.bool false, .slice none 0 0] 24)).drew := ⟨⟨by simp, hP0.2.1, hP0.2.2.1, hs0⟩, hE0⟩
  have hu0 := hu.below hE0
  have hN0 : w.heap.size + 1 < (((w.alloc (.cells #[.bool p, .slice A L c] 24)).alloc (.cells #[.int .i64 s] 3)).alloc (.cells #[.bool false, .slice none 0 0] 24)).drew.heap.size := by simp
  by_cases hneg : 0 ≤ s
  · rw [if_pos hneg] at hy
    obtain ⟨t, rfl⟩ := Int.eq_ofNat_of_zero_le hneg
    rw [Int.toNat_natCast, hz, ← sg_shl] at hy
    have hSh := Lib.hid (shl_B _ (.slice A L c) n (t : Int) hu0 (by omega) (by omega) (by omega) (n * 2 ^ t) (by rw [Int.toNat_natCast]))
    have hM1 := Lib.hid (fun W v (h : Un W v (n * 2 ^ t)) => zmake W p v (limbs (n * 2 ^ t)) h _ (val_limbs _) y hy)
    clear hl hza hzn hz hL ha hu hy hp hP0 hs0
    go_enter Tryz.func40, Tryz.ntmps40
    go_wp2
    go_region_held3 (fun X => (w.heap.size + 1 + 1 < X.heap.size ∧ X.cell? ⟨w.heap.size, 0, none⟩ = some (.bool p) ∧ X.cell? ⟨w.heap.size, 1, none⟩ = some (.slice A L c) ∧ X.cell? ⟨w.heap.size + 1, 0, none⟩ = some (.int .i64 (t : Nat))) ∧ Ext w X)
      (first
        | assumption
        | exact hS0
        | exact keepSh (by assumption) (by assumption)
        | exact keepShS (by assumption))
      (first
        | (go_at_call 72; ((with_reducible refine hSh.out.mono ?_); rintro e w2 ⟨u, rfl, hu2, hE2⟩; obtain ⟨A2, c2, rfl, -⟩ := Un.sh hu2))
        | (go_at_call 21; ((with_reducible refine (hM1.out _ _ hu2).mono ?_); rintro e w3 ⟨u, rfl, hz3, hE3⟩; obtain ⟨b3, A3, L3, c3, rfl⟩ := hz3.sh; have hI3 := (hI0.ext hE2).ext hE3; obtain ⟨i0, i1, i2, i3, i4⟩ := id hI3)))
    clear hI3 hSh hM1
    go_wp2
    (try simp only [Exit.inBlock, Exit.then])
    refine bodyPost_ret (v := .agg #[.bool b3, .slice A3 L3 c3]) (show (results _ _).run _ _ = _ from ?_) rfl ⟨_, rfl, hz3.put2 ((hI0.ext hE2).ext hE3) (slice_no_int _ _ _) _ _, ((hE0.below hE2).below hE3).put2 (by omega) _ _⟩
    simp only [results]
    go_simp
  · rw [if_neg hneg] at hy
    obtain ⟨t, ht⟩ : ∃ t : Nat, -s = (t : Int) := ⟨(-s).toNat, by omega⟩
    have ht6 : t ≤ 1000000 := by omega
    rw [ht, Int.toNat_natCast, hz] at hy
    have hge : ¬ (0 ≤ s) := hneg
    cases p
    · rw [← sg_shr0] at hy
      have hC1 := Lib.hid (fun W (hc : W.cell? ⟨w.heap.size + 1, 0, none⟩ = some (.int .i64 s)) h => shift1 W (w.heap.size + 1) s t ht ht6 hc (.slice A L c) n h hl)
      have hM1 := Lib.hid (fun W v (h : Un W v (n / 2 ^ t)) => zmake W false v (limbs (n / 2 ^ t)) h _ (val_limbs _) y hy)
      have hC1' := Lib.hid (hC1.out _ hs0 hu0)
      clear hl hza hzn hz hL ha hu hy hp hP0 hs0 ht hC1
      go_enter Tryz.func40, Tryz.ntmps40
      go_wp2
      go_region_held3 (fun X => (w.heap.size + 1 + 1 < X.heap.size ∧ X.cell? ⟨w.heap.size, 0, none⟩ = some (.bool false) ∧ X.cell? ⟨w.heap.size, 1, none⟩ = some (.slice A L c) ∧ X.cell? ⟨w.heap.size + 1, 0, none⟩ = some (.int .i64 s)) ∧ Ext w X)
        (first
          | assumption
          | exact hS0
          | exact keepSh (by assumption) (by assumption)
          | exact keepShS (by assumption))
        (first
          | (go_at_call 73; ((with_reducible refine hC1'.out.mono ?_); rintro e w2 ⟨u, rfl, hu2, hE2⟩; obtain ⟨A2, c2, rfl, -⟩ := Un.sh hu2))
          | (go_at_call 21; ((with_reducible refine (hM1.out _ _ hu2).mono ?_); rintro e w3 ⟨u, rfl, hz3, hE3⟩; obtain ⟨b3, A3, L3, c3, rfl⟩ := hz3.sh; have hI3 := (hI0.ext hE2).ext hE3; obtain ⟨i0, i1, i2, i3, i4⟩ := id hI3)))
      clear hI3 hC1' hM1
      go_wp2
      (try simp only [Exit.inBlock, Exit.then])
      refine bodyPost_ret (v := .agg #[.bool b3, .slice A3 L3 c3]) (show (results _ _).run _ _ = _ from ?_) rfl ⟨_, rfl, hz3.put2 ((hI0.ext hE2).ext hE3) (slice_no_int _ _ _) _ _, ((hE0.below hE2).below hE3).put2 (by omega) _ _⟩
      simp only [results]
      go_simp
    · rw [← sg_shr1 n t (hp rfl)] at hy
      have hC1 := Lib.hid (fun W (hN : w.heap.size + 1 < W.heap.size) (hc : W.cell? ⟨w.heap.size + 1, 0, none⟩ = some (.int .i64 s)) h => shift2 W (w.heap.size + 1) s t ht ht6 hN hc (.slice A L c) n (hp rfl) h hl)
      have hM1 := Lib.hid (fun W v (h : Un W v ((n - 1) / 2 ^ t + 1)) => zmake W true v (limbs ((n - 1) / 2 ^ t + 1)) h _ (val_limbs _) y hy)
      have hC1' := Lib.hid (hC1.out _ hN0 hs0 hu0)
      clear hl hza hzn hz hL ha hu hy hp hP0 hs0 ht hC1
      go_enter Tryz.func40, Tryz.ntmps40
      go_wp2
      go_region_held3 (fun X => (w.heap.size + 1 + 1 < X.heap.size ∧ X.cell? ⟨w.heap.size, 0, none⟩ = some (.bool true) ∧ X.cell? ⟨w.heap.size, 1, none⟩ = some (.slice A L c) ∧ X.cell? ⟨w.heap.size + 1, 0, none⟩ = some (.int .i64 s)) ∧ Ext w X)
        (first
          | assumption
          | exact hS0
          | exact keepSh (by assumption) (by assumption)
          | exact keepShS (by assumption))
        (first
          | (go_at_call 75; ((with_reducible refine hC1'.out.mono ?_); rintro e w2 ⟨u, rfl, hu2, hE2⟩; obtain ⟨A2, c2, rfl, -⟩ := Un.sh hu2))
          | (go_at_call 21; ((with_reducible refine (hM1.out _ _ hu2).mono ?_); rintro e w3 ⟨u, rfl, hz3, hE3⟩; obtain ⟨b3, A3, L3, c3, rfl⟩ := hz3.sh; have hI3 := (hI0.ext hE2).ext hE3; obtain ⟨i0, i1, i2, i3, i4⟩ := id hI3)))
      clear hI3 hC1' hM1
      go_wp2
      (try simp only [Exit.inBlock, Exit.then])
      refine bodyPost_ret (v := .agg #[.bool b3, .slice A3 L3 c3]) (show (results _ _).run _ _ = _ from ?_) rfl ⟨_, rfl, hz3.put2 ((hI0.ext hE2).ext hE3) (slice_no_int _ _ _) _ _, ((hE0.below hE2).below hE3).put2 (by omega) _ _⟩
      simp only [results]
      go_simp
end Go.Proofs.YtfkcdmbiihkiiaaGreatDoor
