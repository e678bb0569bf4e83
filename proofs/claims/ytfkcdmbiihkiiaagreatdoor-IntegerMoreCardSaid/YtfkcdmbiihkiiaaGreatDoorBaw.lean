/- Whole numbers: quotients and rests. -/
import Derived.Test.YtfkcdmbiihkiiaaGreatDoorBaj
import Derived.Test.YtfkcdmbiihkiiaaGreatDoorBav
import Derived.Test.YtfkcdmbiihkiiaaGreatDoorBab
import Derived.Test.YtfkcdmbiihkiiaaGreatDoorBak
import Derived.Test.YtfkcdmbiihkiiaaGreatDoorBat
import Derived.Test.YtfkcdmbiihkiiaaGreatDoorBam

namespace Go.Proofs.YtfkcdmbiihkiiaaGreatDoor
open Go.RowKit
set_option linter.unusedVariables false
set_option maxHeartbeats 400000

theorem sg_divmod (p q : Bool) (n m : Nat) (hm : m ≠ 0) (h : p = false ∨ n % m = 0) : sg (!(p == q)) (n / m) = sg p n / sg q m ∧ ((n % m : Nat) : Int) = sg p n % sg q m := by
  have e := Nat.div_add_mod n m
  have hl := Nat.mod_lt n (show m > 0 by omega)
  have hd : (n : Int) / (m : Int) = ((n / m : Nat) : Int) := (Int.natCast_ediv n m).symm
  have hr : (n : Int) % (m : Int) = ((n % m : Nat) : Int) := (Int.natCast_emod n m).symm
  cases p
  · cases q
    · exact ⟨hd.symm, hr.symm⟩
    · constructor
      · show -((n / m : Nat) : Int) = (n : Int) / -(m : Int)
        rw [Int.ediv_neg, hd]
      · show ((n % m : Nat) : Int) = (n : Int) % -(m : Int)
        rw [Int.emod_neg, hr]
  · have h0 : n % m = 0 := by
      rcases h with h | h
      · cases h
      · exact h
    rw [h0] at e hr ⊢
    have e2 : (n : Int) = (m : Int) * ((n / m : Nat) : Int) := by rw [← Int.natCast_mul]; omega
    have key : -(n : Int) / (m : Int) = -((n / m : Nat) : Int) ∧ -(n : Int) % (m : Int) = 0 := by
      have := (Int.ediv_emod_unique (a := -(n : Int)) (b := (m : Int)) (q := -((n / m : Nat) : Int)) (r := 0) (by omega)).2 ⟨by rw [Int.mul_neg, ← e2]; omega, by omega, by omega⟩
      exact this
    cases q
    · exact ⟨key.1.symm, key.2.symm⟩
    · constructor
      · show ((n / m : Nat) : Int) = -(n : Int) / -(m : Int)
        rw [Int.ediv_neg, key.1, Int.neg_neg]
      · show ((0 : Nat) : Int) = -(n : Int) % -(m : Int)
        rw [Int.emod_neg, key.2]; rfl
theorem sg_divmod2 (q : Bool) (n m : Nat) (hm : m ≠ 0) (h : n % m ≠ 0) : sg (!(true == q)) (n / m + 1) = sg true n / sg q m ∧ ((m - n % m : Nat) : Int) = sg true n % sg q m := by
  have e := Nat.div_add_mod n m
  have hl := Nat.mod_lt n (show m > 0 by omega)
  have e2 : (n : Int) = (m : Int) * ((n / m : Nat) : Int) + ((n % m : Nat) : Int) := by rw [← Int.natCast_mul]; omega
  generalize n % m = r at *
  generalize n / m = d at *
  have hmr : ((m - r : Nat) : Int) = (m : Int) - (r : Int) := by omega
  have e3 : (m : Int) * -((d + 1 : Nat) : Int) = -((m : Int) * (d : Int)) - (m : Int) := by
    rw [Int.natCast_add, Int.mul_neg, Int.mul_add]; omega
  have key : -(n : Int) / (m : Int) = -((d + 1 : Nat) : Int) ∧ -(n : Int) % (m : Int) = ((m - r : Nat) : Int) := by
    have := (Int.ediv_emod_unique (a := -(n : Int)) (b := (m : Int)) (q := -((d + 1 : Nat) : Int)) (r := ((m - r : Nat) : Int)) (by omega)).2 ⟨by rw [e3, hmr, e2]; omega, by omega, by omega⟩
    exact this
  cases q
  · exact ⟨key.1.symm, key.2.symm⟩
  · constructor
    · show ((d + 1 : Nat) : Int) = -(n : Int) / -(m : Int)
      rw [Int.ediv_neg, key.1, Int.neg_neg]
    · show ((m - r : Nat) : Int) = -(n : Int) % -(m : Int)
      rw [Int.emod_neg, key.2]
theorem Ib.other {w : World} {N M : Nat} {b : Bool} {m : Value} (h : Ib w N b m) (hne : N ≠ M) (x y : Value) : Ib ((w.setCell ⟨M, 0, none⟩ x).setCell ⟨M, 1, none⟩ y) N b m := by
  obtain ⟨h0, h1, h2, h3, h4⟩ := h
  have hc : ∀ a : Addr, a.block ≠ M → ((w.setCell ⟨M, 0, none⟩ x).setCell ⟨M, 1, none⟩ y).cell? a = w.cell? a := fun a ha => by
    rw [World.cell?_setCell_other _ _ _ _ (fun e => ha (by rw [← e])), World.cell?_setCell_other _ _ _ _ (fun e => ha (by rw [← e]))]
  refine ⟨by simpa using h0, by rw [hc _ hne]; exact h1, by rw [hc _ hne]; exact h2, by go_simp, by go_simp⟩
/-- A division's answer: none, by 0. -/
def ZdZ (w w' : World) (e : Ending) : Prop := e = .returned (.tuple #[.agg #[.bool false, .slice none 0 0], .agg #[.bool false, .slice none 0 0], .int .i64 3]) ∧ Ext w w'
def ZdD (w w' : World) (e : Ending) (q r : Int) : Prop := (∃ x y, e = .returned (.tuple #[x, y, .int .i64 0]) ∧ Zn w' x q ∧ Zn w' y r) ∧ Ext w w'

set_option maxRecDepth 100000 in
set_option maxHeartbeats 8000000 in
theorem zdiv_Z (w : World) (va vb : Value) (a : Int) (ha : Zn w va a) (hb : Zn w vb 0) (hl : (limbs a.natAbs).length ≤ 1000) :
    Calls Tryz.prog 14 #[va, vb] w fun e w' => ZdZ w w' e := by
  unfold ZdZ
  obtain ⟨p, A, L, c, n, rfl, hu, hL, hz, -, hza, hzn⟩ := ha.open
  obtain ⟨q, B, K, d, m, rfl, hv, hK, hz2, -, hza2, hzn2⟩ := hb.open
  rw [hza] at hl
  obtain rfl : m = 0 := by rw [← hza2]; rfl
  have hE0 := ((((Ext.refl w).alloc (.cells #[.bool p, .slice A L c] 24)).alloc (.cells #[.bool q, .slice B K d] 24)).alloc (.cells #[.bool false, .slice none 0 0] 24)).alloc (.cells #[.bool false, .slice none 0 0] 24)
  have hI0 := (Ib.new3 w (.cells #[.bool p, .slice A L c] 24) (.cells #[.bool q, .slice B K d] 24) false (.slice none 0 0) 24).ext ((Ext.refl _).alloc (.cells #[.bool false, .slice none 0 0] 24))
  have hJ0 := Ib.new3 (w.alloc (.cells #[.bool p, .slice A L c] 24)) (.cells #[.bool q, .slice B K d] 24) (.cells #[.bool false, .slice none 0 0] 24) false (.slice none 0 0) 24
  have hD := Lib.hid (divmod_Z _ (.slice A L c) (.slice B K d) n (hu.below hE0) (hv.below hE0) hl)
  have hN : (w.alloc (.cells #[.bool p, .slice A L c] 24)).heap.size = w.heap.size + 1 := by simp
  rw [hN] at hJ0
  clear hl hza hzn hza2 hzn2 hz hz2 hL hK ha hb hu hv hN
  unfold Dz at hD
  go_enter Tryz.func14, Tryz.ntmps14
  go_wp2_with (go_at_call 50; refine hD.out.mono ?_; rintro e w2 ⟨rfl, hE2⟩; obtain ⟨i0, i1, i2, i3, i4⟩ := hI0.ext hE2; obtain ⟨j0, j1, j2, j3, j4⟩ := hJ0.ext hE2)
  (try simp only [Exit.inBlock, Exit.then])
  refine bodyPost_ret (v := .tuple #[.agg #[.bool false, .slice none 0 0], .agg #[.bool false, .slice none 0 0], .int .i64 3]) (show (results _ _).run _ _ = _ from ?_) rfl ⟨rfl, ((hE0.below hE2).put2 (by omega) _ _).put2 (by omega) _ _⟩
  simp only [results]
  go_simp

set_option maxRecDepth 100000 in
set_option maxHeartbeats 16000000 in
theorem zdiv_D (w : World) (va vb : Value) (a b : Int) (ha : Zn w va a) (hb : Zn w vb b) (hl : (limbs a.natAbs).length ≤ 1000) (hl2 : (limbs b.natAbs).length ≤ 1000) (h0 : b ≠ 0) (x y : Int) (hx : a / b = x) (hy : a % b = y) :
    Calls Tryz.prog 14 #[va, vb] w fun e w' => ZdD w w' e x y := by
  unfold ZdD
  obtain ⟨p, A, L, c, n, rfl, hu, hL, hz, -, hza, hzn⟩ := ha.open
  obtain ⟨q, B, K, d, m, rfl, hv, hK, hz2, -, hza2, hzn2⟩ := hb.open
  rw [hza] at hl
  rw [hza2] at hl2
  have hm0 : m ≠ 0 := by omega
  obtain ⟨Q, hQ⟩ : ∃ Q, n / m = Q := ⟨_, rfl⟩
  obtain ⟨R, hR⟩ : ∃ R, n % m = R := ⟨_, rfl⟩
  have hQl : (limbs Q).length ≤ 1000 := Nat.le_trans (len_mono (by rw [← hQ]; exact Nat.div_le_self _ _)) hl
  have hRm : R < m := by rw [← hR]; exact Nat.mod_lt _ (by omega)
  have hRl : (limbs R).length ≤ 1000 := Nat.le_trans (len_mono (by omega)) hl2
  have hE0 := ((((Ext.refl w).alloc (.cells #[.bool p, .slice A L c] 24)).alloc (.cells #[.bool q, .slice B K d] 24)).alloc (.cells #[.bool false, .slice none 0 0] 24)).alloc (.cells #[.bool false, .slice none 0 0] 24)
  have hI0 := (Ib.new3 w (.cells #[.bool p, .slice A L c] 24) (.cells #[.bool q, .slice B K d] 24) false (.slice none 0 0) 24).ext ((Ext.refl _).alloc (.cells #[.bool false, .slice none 0 0] 24))
  have hJ0 := Ib.new3 (w.alloc (.cells #[.bool p, .slice A L c] 24)) (.cells #[.bool q, .slice B K d] 24) (.cells #[.bool false, .slice none 0 0] 24) false (.slice none 0 0) 24
  have hN : (w.alloc (.cells #[.bool p, .slice A L c] 24)).heap.size = w.heap.size + 1 := by simp
  rw [hN] at hJ0
  have hP0 := (Ib.new w p (.slice A L c) 24).ext ((((Ext.refl _).alloc (.cells #[.bool q, .slice B K d] 24)).alloc (.cells #[.bool false, .slice none 0 0] 24)).alloc (.cells #[.bool false, .slice none 0 0] 24))
  have hQ0 := (Ib.new2 w (.cells #[.bool p, .slice A L c] 24) q (.slice B K d) 24).ext (((Ext.refl _).alloc (.cells #[.bool false, .slice none 0 0] 24)).alloc (.cells #[.bool false, .slice none 0 0] 24))
  have hD := Lib.hid (divmod_D _ (.slice A L c) (.slice B K d) n m Q R (hu.below hE0) (hv.below hE0) hl hl2 hm0 hQ hR)
  have hv0 := hv.below hE0
  have hcs := len_cases R
  obtain ⟨LR, hLR⟩ : ∃ L, (limbs R).length = L := ⟨_, rfl⟩
  have HLR := Lib.hid hLR
  rw [hLR] at hcs
  by_cases hsp : p = true ∧ R ≠ 0
  · obtain ⟨rfl, hR0⟩ := hsp
    obtain ⟨k1, k2⟩ := sg_divmod2 q n m hm0 (by rw [hR]; exact hR0)
    rw [hQ, ← hz, ← hz2, hx] at k1
    rw [hR, ← hz, ← hz2, hy] at k2
    have hAd := Lib.hid (fun W v u h g => add_B W v u Q 1 h g (by omega) len_1 (Q + 1) rfl)
    have hSb := Lib.hid (fun W v h g => sub_B W (.slice B K d) v m R h g (by omega) true (decide_eq_true (by omega)) (m - R) rfl)
    rw [show (!(true == q)) = !q by cases q <;> rfl] at k1
    have hM1 := Lib.hid (fun W v (h : Un W v (Q + 1)) => zmake W (!q) v (limbs (Q + 1)) h (Q + 1) (val_limbs _) x k1)
    have hM2 := Lib.hid (fun W v (h : Un W v (m - R)) => zmake W false v (limbs (m - R)) h (m - R) (val_limbs _) y k2)
    have hlr : 0 < LR := by omega
    have hlr2 : (0 : Int) < (LR : Int) := by omega
    clear hl hl2 hza hzn hza2 hzn2 hz hz2 hL hK ha hb hu hv hN hx hy hQ hR h0 hm0 hcs hLR k1 k2 hRm hR0
    unfold Dv at hD
    go_enter Tryz.func14, Tryz.ntmps14
    go_upto_region 7 with (first
      | (go_at_call 50; refine hD.out.mono ?_; rintro e w2 ⟨⟨vq, vr, rfl, hvq, hvr⟩, hE2⟩; obtain ⟨A2, c2, rfl, -⟩ := Un.sh hvq; obtain ⟨A3, c3, rfl, -⟩ := Un.sh hvr; rw [HLR.out] at hvr ⊢; obtain ⟨p0, p1, p2, p3, p4⟩ := hP0.ext hE2)
      | (go_at_call 51; refine (hAd.out _ _ _ (Un.below hvq ((Ext.refl _).alloc _)) (pow_lit _)).mono ?_; rintro e w4 ⟨u4, rfl, hu4, hE4⟩; have hE4' := ((Ext.refl w2).alloc (.cells #[.int .u32 1] 56)).below hE4; obtain ⟨A4, c4, rfl, -⟩ := Un.sh hu4; obtain ⟨q0, q1, q2, q3, q4⟩ := (hQ0.ext hE2).ext hE4'; have hvr4 := Un.below hvr hE4'; have hv4 := (Un.below hv0 hE2).below hE4')
      | (go_at_call 52; refine (hSb.out _ _ hv4 hvr4).mono ?_; rintro e w5 ⟨u5, rfl, hu5, hE5⟩; obtain ⟨A5, c5, rfl, -⟩ := Un.sh hu5; obtain ⟨p0, p1, p2, p3, p4⟩ := ((hP0.ext hE2).ext hE4').ext hE5; obtain ⟨q0, q1, q2, q3, q4⟩ := ((hQ0.ext hE2).ext hE4').ext hE5; have hu45 := Un.below hu4 hE5))
    go_wp2_with (fail)
    refine (hM1.out _ _ hu45).mono ?_
    rintro e w6 ⟨u6, rfl, hz6, hE6⟩
    obtain ⟨b6, A6, L6, c6, rfl⟩ := hz6.sh
    go_wp2_with (fail)
    refine (hM2.out _ _ (Un.below hu5 hE6)).mono ?_
    rintro e w7 ⟨u7, rfl, hz7, hE7⟩
    obtain ⟨b7, A7, L7, c7, rfl⟩ := hz7.sh
    have hI7 := ((((hI0.ext hE2).ext hE4').ext hE5).ext hE6).ext hE7
    have hJ7 := ((((hJ0.ext hE2).ext hE4').ext hE5).ext hE6).ext hE7
    obtain ⟨i0, i1, i2, i3, i4⟩ := id hI7
    obtain ⟨j0, j1, j2, j3, j4⟩ := id hJ7
    have HI7 := Lib.hid hI7
    have HJ7 := Lib.hid hJ7
    have hZ6 := hz6.below hE7
    have hEE := ((((hE0.below hE2).below hE4').below hE5).below hE6).below hE7
    clear hI7 hJ7
    go_wp2
    (try simp only [Exit.inBlock, Exit.then])
    refine bodyPost_ret (v := .tuple #[.agg #[.bool b6, .slice A6 L6 c6], .agg #[.bool b7, .slice A7 L7 c7], .int .i64 0]) (show (results _ _).run _ _ = _ from ?_) rfl ⟨⟨_, _, rfl, (hZ6.put2 HI7.out (slice_no_int _ _ _) _ _).put2 (HJ7.out.other (by omega) _ _) (slice_no_int _ _ _) _ _, (hz7.put2 HI7.out (slice_no_int _ _ _) _ _).put2 (HJ7.out.other (by omega) _ _) (slice_no_int _ _ _) _ _⟩, (hEE.put2 (by omega) _ _).put2 (by omega) _ _⟩
    simp only [results]
    go_simp
  · have hpr : p = false ∨ R = 0 := by
      cases p
      · exact .inl rfl
      · right
        rcases Nat.eq_zero_or_pos R with h | h
        · exact h
        · exact absurd ⟨rfl, by omega⟩ hsp
    obtain ⟨k1, k2⟩ := sg_divmod p q n m hm0 (by rw [hR]; exact hpr)
    rw [hQ, ← hz, ← hz2, hx] at k1
    rw [hR, ← hz, ← hz2, hy] at k2
    have hM1 := Lib.hid (fun W v (h : Un W v Q) => zmake W (!(p == q)) v (limbs Q) h Q (val_limbs _) x k1)
    have hM2 := Lib.hid (fun W v (h : Un W v R) => zmake W false v (limbs R) h R (val_limbs _) y k2)
    have hcase : p = false ∨ (p = true ∧ LR = 0) := by
      rcases hpr with h | h
      · exact .inl h
      · cases p
        · exact .inl rfl
        · exact .inr ⟨rfl, by omega⟩
    clear hl hl2 hza hzn hza2 hzn2 hz hz2 hL hK ha hb hu hv hN hx hy hQ hR h0 hm0 hcs hLR k1 k2 hRm hsp hpr
    unfold Dv at hD
    rcases hcase with rfl | ⟨rfl, rfl⟩
    case' inl => rw [show (!(false == q)) = q by cases q <;> rfl] at hM1
    case' inr => rw [show (!(true == q)) = !q by cases q <;> rfl] at hM1
    all_goals (
      go_enter Tryz.func14, Tryz.ntmps14
      go_upto_region 7 with (first
        | (go_at_call 50; refine hD.out.mono ?_; rintro e w5 ⟨⟨vq, vr, rfl, hvq, hvr⟩, hE5⟩; obtain ⟨A2, c2, rfl, -⟩ := Un.sh hvq; obtain ⟨A3, c3, rfl, -⟩ := Un.sh hvr; rw [HLR.out] at hvr ⊢; obtain ⟨p0, p1, p2, p3, p4⟩ := hP0.ext hE5; obtain ⟨q0, q1, q2, q3, q4⟩ := hQ0.ext hE5))
      go_wp2_with (fail)
      refine (hM1.out _ _ hvq).mono ?_
      rintro e w6 ⟨u6, rfl, hz6, hE6⟩
      obtain ⟨b6, A6, L6, c6, rfl⟩ := hz6.sh
      go_wp2_with (fail)
      refine (hM2.out _ _ (Un.below hvr hE6)).mono ?_
      rintro e w7 ⟨u7, rfl, hz7, hE7⟩
      obtain ⟨b7, A7, L7, c7, rfl⟩ := hz7.sh
      have hI7 := ((hI0.ext hE5).ext hE6).ext hE7
      have hJ7 := ((hJ0.ext hE5).ext hE6).ext hE7
      obtain ⟨i0, i1, i2, i3, i4⟩ := id hI7
      obtain ⟨j0, j1, j2, j3, j4⟩ := id hJ7
      have HI7 := Lib.hid hI7
      have HJ7 := Lib.hid hJ7
      have hZ6 := hz6.below hE7
      have hEE := ((hE0.below hE5).below hE6).below hE7
      clear hI7 hJ7
      go_wp2
      (try simp only [Exit.inBlock, Exit.then])
      refine bodyPost_ret (v := .tuple #[.agg #[.bool b6, .slice A6 L6 c6], .agg #[.bool b7, .slice A7 L7 c7], .int .i64 0]) (show (results _ _).run _ _ = _ from ?_) rfl ⟨⟨_, _, rfl, (hZ6.put2 HI7.out (slice_no_int _ _ _) _ _).put2 (HJ7.out.other (by omega) _ _) (slice_no_int _ _ _) _ _, (hz7.put2 HI7.out (slice_no_int _ _ _) _ _).put2 (HJ7.out.other (by omega) _ _) (slice_no_int _ _ _) _ _⟩, (hEE.put2 (by omega) _ _).put2 (by omega) _ _⟩
      simp only [results]
      go_simp)
end Go.Proofs.YtfkcdmbiihkiiaaGreatDoor
/- Whole numbers in the walk by plans: sizes, boxes, loads. -/
namespace Go.Proofs.YtfkcdmbiihkiiaaGreatDoor
open Go.RowKit
set_option linter.unusedVariables false
set_option maxHeartbeats 400000

theorem fo : Tryz.prog.follows .mixedOrders = true := by kernel_rfl
/-- How many limbs a number has at most. -/
def Sz (z : Int) (K : Nat) : Prop := (limbs z.natAbs).length ≤ K
theorem Sz.le {z : Int} {K M : Nat} (h : Sz z K) (hk : K ≤ M) : Sz z M := Nat.le_trans h hk
theorem Sz.lit {z : Int} {K : Nat} (h : z.natAbs < 4294967296) (hk : 1 ≤ K) : Sz z K := Nat.le_trans (len_of (k := 1) (by rw [Nat.pow_one]; exact h)) hk
theorem Sz.zero {K : Nat} : Sz 0 K := by show (limbs 0).length ≤ K; rw [limbs_zero]; exact Nat.zero_le _
theorem Sz.neg {z : Int} {K : Nat} (h : Sz z K) : Sz (-z) K := by show (limbs (-z).natAbs).length ≤ K; rw [Int.natAbs_neg]; exact h
theorem sz_lt {z : Int} {K : Nat} (h : Sz z K) : z.natAbs < 4294967296 ^ K := lt_of_len_le h
theorem Sz.add {a b : Int} {K J M : Nat} (ha : Sz a K) (hb : Sz b J) (hk : K + 1 ≤ M) (hj : J + 1 ≤ M) : Sz (a + b) M := by
  obtain ⟨m, rfl⟩ : ∃ m, M = m + 1 := ⟨M - 1, by omega⟩
  have h1 := sz_lt (ha.le (show K ≤ m by omega))
  have h2 := sz_lt (hb.le (show J ≤ m by omega))
  refine len_of (show _ < 4294967296 ^ (m + 1) from ?_)
  rw [Nat.pow_succ]
  have h3 : (a + b).natAbs ≤ a.natAbs + b.natAbs := Int.natAbs_add_le a b
  omega
theorem Sz.sub {a b : Int} {K J M : Nat} (ha : Sz a K) (hb : Sz b J) (hk : K + 1 ≤ M) (hj : J + 1 ≤ M) : Sz (a - b) M := by
  rw [Int.sub_eq_add_neg]; exact ha.add hb.neg hk hj
theorem Sz.mul {a b : Int} {K J M : Nat} (ha : Sz a K) (hb : Sz b J) (hk : K + J ≤ M) : Sz (a * b) M := by
  refine len_of (show _ < 4294967296 ^ M from ?_)
  rw [Int.natAbs_mul]
  have h1 := sz_lt ha
  have h2 := sz_lt hb
  refine Nat.lt_of_lt_of_le (Nat.mul_lt_mul'' h1 h2) ?_
  rw [← Nat.pow_add]
  exact Nat.pow_le_pow_right (by decide) hk
theorem Sz.of {z : Int} {K n : Nat} (hz : z.natAbs ≤ n) (h : (limbs n).length ≤ K) : Sz z K := len_of (show _ < 4294967296 ^ K from Nat.lt_of_le_of_lt hz (lt_of_len_le h))

/-- A struct of this kind in its block, loaded. -/
theorem Ib.load {X : World} {N : Nat} {b : Bool} {m : Value} (h : Ib X N b m) : (Instr.loadAt 24 (.pointer (some ⟨N, 0, none⟩))).run Tryz.prog X = .ok (.agg #[.bool b, m]) X := by
  obtain ⟨h0, h1, h2, h3, h4⟩ := h
  go_simp
theorem Zn.shape {w : World} {v : Value} {z : Int} (h : Zn w v z) : ∃ b m, v = .agg #[.bool b, m] := by
  obtain ⟨A, c, e, _⟩ := h
  exact ⟨_, _, e⟩
/-- A variable is laid. -/
theorem run_boxI (w : World) (b : Bool) (A : Option Addr) (n c : Nat) : ∃ w1 w', (Instr.alloc 24 true (.tuple #[])).run Tryz.prog w = .ok (.pointer (some ⟨w.heap.size, 0, none⟩)) w1 ∧ Ext w w1 ∧
    (Instr.storeAt 24 (.pointer (some ⟨w.heap.size, 0, none⟩)) (.agg #[.bool b, .slice A n c])).run Tryz.prog w1 = .ok () w' ∧ Ext w w' ∧ Ib w' w.heap.size b (.slice A n c) := by
  have hI := Ib.new w false (.slice none 0 0) 24
  obtain ⟨h0, h1, h2, h3, h4⟩ := id hI
  refine ⟨w.alloc (.cells #[.bool false, .slice none 0 0] 24), w.alloc (.cells #[.bool b, .slice A n c] 24), ?_, (Ext.refl w).alloc _, ?_, (Ext.refl w).alloc _, Ib.new w b _ _⟩
  · go_simp
  · go_simp
theorem boxI {L : List Oper} {S : World → Prop} {K : List (Nat × Value) → World → Prop} {i j m1 m2 d : Nat} {o1 o2 : Oper} {x : Operand} {r : List (Bool × Nat × Nat)} {l : List (Nat × Value)} {w : World} {b : Bool} {A : Option Addr} {n c : Nat}
    (ho1 : Pl.nth L i = some o1) (hp1 : o1.op = .alloc 24) (hd1 : o1.dst = some d) (hg1 : o1.guard = none)
    (ho2 : Pl.nth L j = some o2) (hp2 : o2.op = .store 24 (.tmp d) x) (hd2 : o2.dst = none) (hg2 : o2.guard = none)
    (hx : ∀ p, Pl.opv ((d, p) :: l) x = some (.agg #[.bool b, .slice A n c])) (hS : ∀ Y, Ext w Y → S Y)
    (h : ∀ N w', Ext w w' → Ib w' N b (.slice A n c) → Pl.wpA Tryz.prog L S K r ((d, .pointer (some ⟨N, 0, none⟩)) :: l) w') : Pl.wpA Tryz.prog L S K ((false, i, m1) :: (false, j, m2) :: r) l w := by
  obtain ⟨w1, w', h1, e1, h2, e2, hI⟩ := run_boxI w b A n c
  refine Pl.qA_alloc ho1 hp1 hd1 (by rw [hg1]; rfl) h1 (hS _ e1) ?_
  refine Pl.qA_store ho2 hp2 hd2 (by rw [hg2]; rfl) ?_ (hx _) h2 (hS _ e2) (h _ _ e2 hI)
  show Pl.look ((d, _) :: l) d = _
  unfold Pl.look
  rw [Nat.beq_refl]
theorem run_allocI (w : World) : (Instr.alloc 24 true (.tuple #[])).run Tryz.prog w = .ok (.pointer (some ⟨w.heap.size, 0, none⟩)) (w.alloc (.cells #[.bool false, .slice none 0 0] 24)) := by go_simp
theorem run_storeI {w : World} {N : Nat} {b0 : Bool} {A0 : Option Addr} {n0 c0 : Nat} (h : Ib w N b0 (.slice A0 n0 c0)) (b : Bool) (A : Option Addr) (n c : Nat) :
    (Instr.storeAt 24 (.pointer (some ⟨N, 0, none⟩)) (.agg #[.bool b, .slice A n c])).run Tryz.prog w = .ok () ((w.setCell ⟨N, 0, none⟩ (.bool b)).setCell ⟨N, 1, none⟩ (.slice A n c)) ∧ Ib ((w.setCell ⟨N, 0, none⟩ (.bool b)).setCell ⟨N, 1, none⟩ (.slice A n c)) N b (.slice A n c) := by
  obtain ⟨h0, h1, h2, h3, h4⟩ := h
  refine ⟨?_, ?_, ?_, ?_, ?_, ?_⟩
  all_goals go_simp
theorem look_here (d : Nat) (v : Value) (l : List (Nat × Value)) : Pl.opv ((d, v) :: l) (.tmp d) = some v := by
  show Pl.look ((d, v) :: l) d = _
  unfold Pl.look
  rw [Nat.beq_refl]
theorem look_past {d e : Nat} (v : Value) (l : List (Nat × Value)) (h : Nat.beq d e = false) : Pl.opv ((d, v) :: l) (.tmp e) = Pl.opv l (.tmp e) := by
  show Pl.look ((d, v) :: l) e = _
  unfold Pl.look
  rw [h]; rfl
/-- Two variables are laid. -/
theorem boxI2 {L : List Oper} {S : World → Prop} {K : List (Nat × Value) → World → Prop} {i1 i2 j1 j2 m1 m2 m3 m4 d e : Nat} {o1 o2 p1 p2 : Oper} {x y : Operand} {r : List (Bool × Nat × Nat)} {l : List (Nat × Value)} {w : World} {b b' : Bool} {A A' : Option Addr} {n c n' c' : Nat}
    (ho1 : Pl.nth L i1 = some o1) (hp1 : o1.op = .alloc 24) (hd1 : o1.dst = some d) (hg1 : o1.guard = none)
    (ho2 : Pl.nth L i2 = some o2) (hp2 : o2.op = .alloc 24) (hd2 : o2.dst = some e) (hg2 : o2.guard = none)
    (hq1 : Pl.nth L j1 = some p1) (hr1 : p1.op = .store 24 (.tmp d) x) (he1 : p1.dst = none) (hh1 : p1.guard = none)
    (hq2 : Pl.nth L j2 = some p2) (hr2 : p2.op = .store 24 (.tmp e) y) (he2 : p2.dst = none) (hh2 : p2.guard = none) (hne : Nat.beq e d = false)
    (hx : ∀ p q, Pl.opv ((e, q) :: (d, p) :: l) x = some (.agg #[.bool b, .slice A n c])) (hy : ∀ p q, Pl.opv ((e, q) :: (d, p) :: l) y = some (.agg #[.bool b', .slice A' n' c'])) (hS : ∀ Y, Ext w Y → S Y)
    (h : ∀ N M w', Ext w w' → Ib w' N b (.slice A n c) → Ib w' M b' (.slice A' n' c') → Pl.wpA Tryz.prog L S K r ((e, .pointer (some ⟨M, 0, none⟩)) :: (d, .pointer (some ⟨N, 0, none⟩)) :: l) w') :
    Pl.wpA Tryz.prog L S K ((false, i1, m1) :: (false, i2, m2) :: (false, j1, m3) :: (false, j2, m4) :: r) l w := by
  have e1 := (Ext.refl w).alloc (.cells #[.bool false, .slice none 0 0] 24)
  have I1 := Ib.new w false (.slice none 0 0) 24
  have z1 : w.heap.size ≤ w.heap.size := Nat.le_refl _
  have r1 := run_allocI w
  generalize (w.alloc (.cells #[.bool false, .slice none 0 0] 24)) = w1 at *
  have e2 := e1.alloc (.cells #[.bool false, .slice none 0 0] 24)
  have I1' := Ib.ext I1 ((Ext.refl w1).alloc (.cells #[.bool false, .slice none 0 0] 24))
  have I2 := Ib.new w1 false (.slice none 0 0) 24
  have r2 := run_allocI w1
  have z2 : w.heap.size ≤ w1.heap.size := Nat.le_of_lt I1.1
  have hNM : w.heap.size ≠ w1.heap.size := Nat.ne_of_lt I1.1
  generalize (w1.alloc (.cells #[.bool false, .slice none 0 0] 24)) = w2 at *
  obtain ⟨r3, I3⟩ := run_storeI I1' b A n c
  have I4 := Ib.other I2 (M := w.heap.size) (Ne.symm hNM) (.bool b) (.slice A n c)
  have e3 := e2.put2 z1 (.bool b) (.slice A n c)
  generalize ((w2.setCell ⟨w.heap.size, 0, none⟩ (.bool b)).setCell ⟨w.heap.size, 1, none⟩ (.slice A n c)) = w3 at *
  obtain ⟨r4, I5⟩ := run_storeI I4 b' A' n' c'
  have I6 := Ib.other I3 (M := w1.heap.size) hNM (.bool b') (.slice A' n' c')
  have e4 := e3.put2 z2 (.bool b') (.slice A' n' c')
  generalize ((w3.setCell ⟨w1.heap.size, 0, none⟩ (.bool b')).setCell ⟨w1.heap.size, 1, none⟩ (.slice A' n' c')) = w4 at *
  refine Pl.qA_alloc ho1 hp1 hd1 (by rw [hg1]; rfl) r1 (hS _ e1) ?_
  refine Pl.qA_alloc ho2 hp2 hd2 (by rw [hg2]; rfl) r2 (hS _ e2) ?_
  refine Pl.qA_store hq1 hr1 he1 (by rw [hh1]; rfl) ((look_past _ _ hne).trans (look_here _ _ _)) (hx _ _) r3 (hS _ e3) ?_
  exact Pl.qA_store hq2 hr2 he2 (by rw [hh2]; rfl) (look_here _ _ _) (hy _ _) r4 (hS _ e4) (h _ _ _ e4 I6 I5)
section
variable {L : List Oper} {S : World → Prop} {K : List (Nat × Value) → World → Prop} {i m d : Nat} {o : Oper} {x y : Operand} {r : List (Bool × Nat × Nat)} {l : List (Nat × Value)} {w : World} {b b0 : Bool} {A A0 : Option Addr} {n c n0 c0 N : Nat}
/-- A variable's block alone. -/
theorem allocI (ho : Pl.nth L i = some o) (hp : o.op = .alloc 24) (hd : o.dst = some d) (hg : o.guard = none) (hS : ∀ Y, Ext w Y → S Y)
    (h : ∀ N w', Ext w w' → w.heap.size ≤ N → Ib w' N false (.slice none 0 0) → Pl.wpA Tryz.prog L S K r ((d, .pointer (some ⟨N, 0, none⟩)) :: l) w') : Pl.wpA Tryz.prog L S K ((false, i, m) :: r) l w := by
  have e1 := (Ext.refl w).alloc (.cells #[.bool false, .slice none 0 0] 24)
  exact Pl.qA_alloc ho hp hd (by rw [hg]; rfl) (run_allocI w) (hS _ e1) (h _ _ e1 (Nat.le_refl _) (Ib.new w false (.slice none 0 0) 24))
/-- A variable's store alone: what stays. -/
theorem storeI (ho : Pl.nth L i = some o) (hp : o.op = .store 24 x y) (hd : o.dst = none) (hg : o.guard = none) (hx : Pl.opv l x = some (.pointer (some ⟨N, 0, none⟩))) (hy : Pl.opv l y = some (.agg #[.bool b, .slice A n c]))
    (hI : Ib w N b0 (.slice A0 n0 c0)) (hS : ∀ Y, (∀ w0, Ext w0 w → w0.heap.size ≤ N → Ext w0 Y) → S Y)
    (h : ∀ w', (∀ w0, Ext w0 w → w0.heap.size ≤ N → Ext w0 w') → (∀ v z, Zn w v z → Zn w' v z) → (∀ M b m, M ≠ N → Ib w M b m → Ib w' M b m) → Ib w' N b (.slice A n c) → Pl.wpA Tryz.prog L S K r l w') : Pl.wpA Tryz.prog L S K ((false, i, m) :: r) l w := by
  obtain ⟨r1, I1⟩ := run_storeI hI b A n c
  have T1 : ∀ w0, Ext w0 w → w0.heap.size ≤ N → Ext w0 ((w.setCell ⟨N, 0, none⟩ (.bool b)).setCell ⟨N, 1, none⟩ (.slice A n c)) := fun w0 h hN => h.put2 hN _ _
  exact Pl.qA_store ho hp hd (by rw [hg]; rfl) hx hy r1 (hS _ T1) (h _ T1 (fun v z hz => hz.put2 hI (slice_no_int _ _ _) _ _) (fun M b m hne hM => hM.other hne _ _) I1)
end
end Go.Proofs.YtfkcdmbiihkiiaaGreatDoor
/- Rows of whole numbers as arguments, in the walk by plans. -/
namespace Go.Proofs.YtfkcdmbiihkiiaaGreatDoor
open Go.RowKit
set_option linter.unusedVariables false
set_option maxHeartbeats 400000

/-- A struct of this kind in the midst of a block. -/
def Io (w : World) (N o : Nat) (b : Bool) (m : Value) : Prop := N < w.heap.size ∧ w.cell? ⟨N, o, none⟩ = some (.bool b) ∧ w.cell? ⟨N, o + 1, none⟩ = some m
theorem Io.ext {w w' : World} {N o : Nat} {b : Bool} {m : Value} (h : Io w N o b m) (k : Ext w w') : Io w' N o b m := by
  obtain ⟨h0, h1, h2⟩ := h
  exact ⟨Nat.lt_of_lt_of_le h0 k.size, (k.cell (p := ⟨N, o, none⟩) h0).trans h1, (k.cell (p := ⟨N, o + 1, none⟩) h0).trans h2⟩
theorem Io.load {X : World} {N o : Nat} {b : Bool} {m : Value} (h : Io X N o b m) : (Instr.loadAt 24 (.pointer (some ⟨N, o, none⟩))).run Tryz.prog X = .ok (.agg #[.bool b, m]) X := by
  obtain ⟨h0, h1, h2⟩ := h
  go_simp
section
variable {L : List Oper} {S : World → Prop} {K : List (Nat × Value) → World → Prop} {k : Bool} {i m d : Nat} {o : Oper} {x : Operand} {r : List (Bool × Nat × Nat)} {l : List (Nat × Value)} {w : World} {b b1 b2 : Bool} {A A1 A2 : Option Addr} {n c n1 c1 n2 c2 : Nat}
theorem boxS (ho : Pl.nth L i = some o) (hp : o.op = .box 24 x) (hd : o.dst = some d) (hg : o.guard = none) (hx : Pl.opv l x = some (.agg #[.bool b, .slice A n c])) (hS : ∀ Y, Ext w Y → S Y)
    (h : ∀ N w', Ext w w' → Ib w' N b (.slice A n c) → Pl.wpA Tryz.prog L S K r ((d, .pointer (some ⟨N, 0, none⟩)) :: l) w') : Pl.wpA Tryz.prog L S K ((false, i, m) :: r) l w := by
  have e1 := (Ext.refl w).alloc (.cells #[.bool b, .slice A n c] 24)
  refine Pl.pA_val (w' := w.alloc (.cells #[.bool b, .slice A n c] 24)) (v := .pointer (some ⟨w.heap.size, 0, none⟩)) ho hd (by rw [hg]; rfl) (fun ρ hρ => ?_) (hS _ e1) (h _ _ e1 (Ib.new w b _ _))
  unfold execOp; rw [hp]
  refine Pl.run_valW _ ?_
  rw [hρ.opv hx]
  go_simp
theorem boxA3 (ho : Pl.nth L i = some o) (hp : o.op = .box 46 x) (hd : o.dst = some d) (hg : o.guard = none) (hx : Pl.opv l x = some (.agg #[.bool b, .slice A n c, .bool b1, .slice A1 n1 c1, .bool b2, .slice A2 n2 c2])) (hS : ∀ Y, Ext w Y → S Y)
    (h : ∀ N w', Ext w w' → Io w' N 0 b (.slice A n c) → Io w' N 2 b1 (.slice A1 n1 c1) → Io w' N 4 b2 (.slice A2 n2 c2) → Pl.wpA Tryz.prog L S K r ((d, .pointer (some ⟨N, 0, none⟩)) :: l) w') : Pl.wpA Tryz.prog L S K ((false, i, m) :: r) l w := by
  have e1 := (Ext.refl w).alloc (.cells #[.bool b, .slice A n c, .bool b1, .slice A1 n1 c1, .bool b2, .slice A2 n2 c2] 46)
  refine Pl.pA_val (w' := w.alloc (.cells #[.bool b, .slice A n c, .bool b1, .slice A1 n1 c1, .bool b2, .slice A2 n2 c2] 46)) (v := .pointer (some ⟨w.heap.size, 0, none⟩)) ho hd (by rw [hg]; rfl) (fun ρ hρ => ?_) (hS _ e1) (h _ _ e1 ⟨by simp, ?_, ?_⟩ ⟨by simp, ?_, ?_⟩ ⟨by simp, ?_, ?_⟩)
  · unfold execOp; rw [hp]
    refine Pl.run_valW _ ?_
    rw [hρ.opv hx]
    go_simp
  all_goals go_simp
theorem boxA2 (ho : Pl.nth L i = some o) (hp : o.op = .box 55 x) (hd : o.dst = some d) (hg : o.guard = none) (hx : Pl.opv l x = some (.agg #[.bool b, .slice A n c, .bool b1, .slice A1 n1 c1])) (hS : ∀ Y, Ext w Y → S Y)
    (h : ∀ N w', Ext w w' → Io w' N 0 b (.slice A n c) → Io w' N 2 b1 (.slice A1 n1 c1) → Pl.wpA Tryz.prog L S K r ((d, .pointer (some ⟨N, 0, none⟩)) :: l) w') : Pl.wpA Tryz.prog L S K ((false, i, m) :: r) l w := by
  have e1 := (Ext.refl w).alloc (.cells #[.bool b, .slice A n c, .bool b1, .slice A1 n1 c1] 55)
  refine Pl.pA_val (w' := w.alloc (.cells #[.bool b, .slice A n c, .bool b1, .slice A1 n1 c1] 55)) (v := .pointer (some ⟨w.heap.size, 0, none⟩)) ho hd (by rw [hg]; rfl) (fun ρ hρ => ?_) (hS _ e1) (h _ _ e1 ⟨by simp, ?_, ?_⟩ ⟨by simp, ?_, ?_⟩)
  · unfold execOp; rw [hp]
    refine Pl.run_valW _ ?_
    rw [hρ.opv hx]
    go_simp
  all_goals go_simp
theorem idxA {T : TypeId} {y : Operand} {N : Nat} {j : Int} {q : Nat} (hS : S w) (ho : Pl.nth L i = some o) (hp : o.op = .indexAddr T x y) (hd : o.dst = some d) (hg : Pl.gd L l o.guard = some true) (hx : Pl.opv l x = some (.pointer (some ⟨N, 0, none⟩))) (hy : Pl.opv l y = some (.int .i64 j))
    (hr : ∀ X, (Instr.indexAt T (.pointer (some ⟨N, 0, none⟩)) (.int .i64 j)).run Tryz.prog X = .ok (.pointer (some ⟨N, q, none⟩)) X)
    (h : Pl.wpA Tryz.prog L S K r ((d, .pointer (some ⟨N, q, none⟩)) :: l) w) : Pl.wpA Tryz.prog L S K ((k, i, m) :: r) l w :=
  Pl.pA_pure hS ho hd hg (fun ρ hρ X _ => by
    unfold execOp; rw [hp]
    refine Pl.run_val _ X ?_
    rw [hρ.opv hx, hρ.opv hy]
    exact hr X) h
end
theorem ix30 (N : Nat) (X : World) : (Instr.indexAt 46 (.pointer (some ⟨N, 0, none⟩)) (.int .i64 0)).run Tryz.prog X = .ok (.pointer (some ⟨N, 0, none⟩)) X := by go_simp
theorem ix31 (N : Nat) (X : World) : (Instr.indexAt 46 (.pointer (some ⟨N, 0, none⟩)) (.int .i64 1)).run Tryz.prog X = .ok (.pointer (some ⟨N, 2, none⟩)) X := by go_simp
theorem ix32 (N : Nat) (X : World) : (Instr.indexAt 46 (.pointer (some ⟨N, 0, none⟩)) (.int .i64 2)).run Tryz.prog X = .ok (.pointer (some ⟨N, 4, none⟩)) X := by go_simp
theorem ix20 (N : Nat) (X : World) : (Instr.indexAt 55 (.pointer (some ⟨N, 0, none⟩)) (.int .i64 0)).run Tryz.prog X = .ok (.pointer (some ⟨N, 0, none⟩)) X := by go_simp
theorem ix21 (N : Nat) (X : World) : (Instr.indexAt 55 (.pointer (some ⟨N, 0, none⟩)) (.int .i64 1)).run Tryz.prog X = .ok (.pointer (some ⟨N, 2, none⟩)) X := by go_simp
/-- What made cuts: at most so many limbs. -/
theorem Sz.cut {w : World} {v : Value} {xs : List Nat} (u : U w v xs) (b : Bool) (k K : Nat) (hk : k ≤ K) : Sz (sg b (cutN xs k)) K := by
  show (limbs (sg b (cutN xs k)).natAbs).length ≤ K
  rw [sg_abs]
  exact Nat.le_trans (cutN_len xs k u.lim) hk
theorem right_of {z : Int} {K : Nat} (hz : Sz z K) (hK : K ≤ 65536) : (rightB (limbs z.natAbs) && !(decide (z < 0) && decide ((limbs z.natAbs).length = 0))) = true := by
  rw [rightB_limbs (Nat.le_trans hz hK), Bool.true_and, Bool.not_eq_true']
  by_cases h : z < 0
  · have : z.natAbs ≠ 0 := by omega
    rw [limbs_pos this]
    simp
  · rw [decide_eq_false h, Bool.false_and]
end Go.Proofs.YtfkcdmbiihkiiaaGreatDoor
/- Whole numbers as arguments of a statement: opened. -/
namespace Go.Proofs.YtfkcdmbiihkiiaaGreatDoor
open Go.ChangeShapes Go.WideShapes Go.ChangeAt Go.RowKit
set_option linter.unusedVariables false
set_option maxRecDepth 100000
set_option maxHeartbeats 400000

theorem cellsI : Tryz.prog.cellsOf 24 = 2 := by kernel_rfl
theorem cellsL : Tryz.prog.cellsOf 22 = 1 := by kernel_rfl
theorem trod_I {H : Type} {enc : TypeId × Value → H} {W : World} {m : Nat} {c0 c1 : Value} {y : DataW H × List MemPlace} (h : DataW.trod enc Tryz.prog W 0 (fun _ => true) true m 24 [c0, c1] = some y) :
    ∃ (s : Bool) (A : Option Addr) (c : Nat) (xs : List Nat), c0 = .bool s ∧ c1 = .slice A xs.length c ∧ U W (.slice A xs.length c) xs := by
  obtain ⟨ys, n, _, rfl, hl, hlen, hf⟩ := DataW.trod_struct Tryz.underlying24 h
  match ys, hlen, hf with
  | [y0, y1], _, hf =>
    have h0 := hf 0 _ rfl
    have h1 := hf 1 _ rfl
    have cb : Tryz.prog.cellsOf 4 = 1 := by kernel_rfl
    simp [cellsL, cb] at h0 h1
    obtain ⟨s, e0, _⟩ := DataW.trod_bool Tryz.underlying4 h0
    obtain ⟨xs, u⟩ := open_limbs1 h1
    obtain ⟨A, c, rfl, hu⟩ := id u
    simp at e0
    exact ⟨s, A, c, xs, e0, rfl, u⟩
theorem open_I1 {H : Type} {enc : TypeId × Value → H} {W : World} {base : Nat} {v : Value} {d : DataW H} {ps : List MemPlace} (hval : Value.okWide Tryz.prog W .any base 24 v) (h : DataW.Trod enc Tryz.prog W 0 (fun _ => true) true 24 v d ps) :
    ∃ (s : Bool) (A : Option Addr) (c : Nat) (xs : List Nat), v = .agg #[.bool s, .slice A xs.length c] ∧ U W (.slice A xs.length c) xs := by
  obtain ⟨cs, rfl, hsz⟩ := okWide_struct Tryz.underlying24 hval
  rw [cellsI] at hsz
  obtain ⟨l⟩ := cs
  match l, hsz with
  | [c0, c1], _ =>
    obtain ⟨fuel, hf⟩ := h
    obtain ⟨s, A, c, xs, rfl, rfl, u⟩ := trod_I hf
    exact ⟨s, A, c, xs, rfl, u⟩
theorem open_I2 {H : Type} {enc : TypeId × Value → H} {W : World} {base : Nat} {v : Value} {d : DataW H} {ps : List MemPlace} (hval : Value.okWide Tryz.prog W .any base 55 v) (h : DataW.Trod enc Tryz.prog W 0 (fun _ => true) true 55 v d ps) :
    ∃ (s s1 : Bool) (A A1 : Option Addr) (c c1 : Nat) (xs xs1 : List Nat), v = .agg #[.bool s, .slice A xs.length c, .bool s1, .slice A1 xs1.length c1] ∧ U W (.slice A xs.length c) xs ∧ U W (.slice A1 xs1.length c1) xs1 := by
  obtain ⟨cs, rfl, hsz⟩ := okWide_arr' Tryz.underlying55 hval
  rw [show Tryz.prog.cellsOf 55 = 4 by kernel_rfl] at hsz
  obtain ⟨l⟩ := cs
  match l, hsz with
  | [a0, a1, b0, b1], _ =>
    obtain ⟨fuel, hf⟩ := h
    obtain ⟨ys, m1, rfl, hx1, hlen, hn, hel⟩ := DataW.trod_array Tryz.underlying55 hf
    simp only [cellsI] at hel
    match ys, hn, hel with
    | [y0, y1], _, hel =>
      have e0 := hel 0 (by decide)
      have e1 := hel 1 (by decide)
      simp [Value.cells] at e0 e1
      obtain ⟨s, A, c, xs, rfl, rfl, u⟩ := trod_I e0
      obtain ⟨s1, A1, c1, xs1, rfl, rfl, u1⟩ := trod_I e1
      exact ⟨s, s1, A, A1, c, c1, xs, xs1, rfl, u, u1⟩
theorem open_I3 {H : Type} {enc : TypeId × Value → H} {W : World} {base : Nat} {v : Value} {d : DataW H} {ps : List MemPlace} (hval : Value.okWide Tryz.prog W .any base 46 v) (h : DataW.Trod enc Tryz.prog W 0 (fun _ => true) true 46 v d ps) :
    ∃ (s s1 s2 : Bool) (A A1 A2 : Option Addr) (c c1 c2 : Nat) (xs xs1 xs2 : List Nat), v = .agg #[.bool s, .slice A xs.length c, .bool s1, .slice A1 xs1.length c1, .bool s2, .slice A2 xs2.length c2] ∧ U W (.slice A xs.length c) xs ∧ U W (.slice A1 xs1.length c1) xs1 ∧ U W (.slice A2 xs2.length c2) xs2 := by
  obtain ⟨cs, rfl, hsz⟩ := okWide_arr' Tryz.underlying46 hval
  rw [show Tryz.prog.cellsOf 46 = 6 by kernel_rfl] at hsz
  obtain ⟨l⟩ := cs
  match l, hsz with
  | [a0, a1, b0, b1, c0, c1], _ =>
    obtain ⟨fuel, hf⟩ := h
    obtain ⟨ys, m1, rfl, hx1, hlen, hn, hel⟩ := DataW.trod_array Tryz.underlying46 hf
    simp only [cellsI] at hel
    match ys, hn, hel with
    | [y0, y1, y2], _, hel =>
      have e0 := hel 0 (by decide)
      have e1 := hel 1 (by decide)
      have e2 := hel 2 (by decide)
      simp [Value.cells] at e0 e1 e2
      obtain ⟨s, A, c, xs, rfl, rfl, u⟩ := trod_I e0
      obtain ⟨s1, A1, c1, xs1, rfl, rfl, u1⟩ := trod_I e1
      obtain ⟨s2, A2, c2, xs2, rfl, rfl, u2⟩ := trod_I e2
      exact ⟨s, s1, s2, A, A1, A2, c, c1, c2, xs, xs1, xs2, rfl, u, u1, u2⟩
end Go.Proofs.YtfkcdmbiihkiiaaGreatDoor
