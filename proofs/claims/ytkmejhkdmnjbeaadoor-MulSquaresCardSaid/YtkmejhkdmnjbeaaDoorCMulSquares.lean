/- Proved: the statement MulSquares: whatever two rows, number and way: the square of a sum less that of a difference is four products; the greatest naturals of any lengths have the product that their powers of 2 tell. No condition. -/
import Derived.Test.YtkmejhkdmnjbeaaDoorPg

namespace Go.Proofs.YtkmejhkdmnjbeaaDoor
open Go.RowKit
set_option linter.unusedVariables false
set_option maxHeartbeats 400000

theorem sq_math (L S : Nat) (h : S ≤ L) : (L + S) * (L + S) = (L - S) * (L - S) + 4 * (L * S) := by
  obtain ⟨d, rfl⟩ := Nat.exists_eq_add_of_le h
  rw [show S + d - S = d by omega]; grind
theorem cmp_ge {a b : Nat} (h : b ≤ a) : decide (cmpI a b < 0) = false := by
  rw [decide_eq_false_iff_not]
  rcases Nat.lt_or_eq_of_le h with h | h
  · rw [cmpI_gt (by omega)]; decide
  · rw [h, cmpI_eq]; decide
theorem p32_lt {i m : Nat} (e : Nat) (h : i < m) (he : 32 * i = e) : Ltl (2 ^ e) m := by
  subst he
  unfold Ltl
  rw [Nat.pow_mul, show (2 : Nat) ^ 32 = LB from rfl]
  exact Nat.pow_lt_pow_right (by decide) h

set_option maxRecDepth 100000 in
set_option maxHeartbeats 8000000 in
theorem MulSquares_walk (w : World) (hg : Gl w) (r0 : Value) (xa : List Nat) (u0 : U w r0 xa) (r1 : Value) (xb : List Nat) (u1 : U w r1 xb) (n : Nat) (hn : n < 256) (x : Nat) (hx : x < 256) :
    Calls Tryd.prog 9 #[.agg #[r0, r1], .int .u8 (n : Nat), .int .u8 (x : Nat)] w fun e w' => e = .returned (.bool true) ∧ Ext w w' := by
  obtain ⟨a, da⟩ : ∃ a, cutN xa 120 = a := ⟨_, rfl⟩
  have ta : Ltl a 120 := by rw [← da]; exact cut_lt xa 120 u0.lim
  have hMd_a := Lib.hid (fun W h => made_N W r0 xa h a da)
  have L_a := Lib.hid (len398 ta (by decide))
  obtain ⟨b, db⟩ : ∃ b, cutN xb 120 = b := ⟨_, rfl⟩
  have tb : Ltl b 120 := by rw [← db]; exact cut_lt xb 120 u1.lim
  have hMd_b := Lib.hid (fun W h => made_N W r1 xb h b db)
  have L_b := Lib.hid (len398 tb (by decide))
  obtain ⟨A0, c0, e0, hc0⟩ := u0.shape
  subst e0
  obtain ⟨A1, c1, e1, hc1⟩ := u1.shape
  subst e1
  have HB := (Ext.refl w).alloc (.cells #[.slice A0 xa.length c0, .slice A1 xb.length c1] 34)
  have HX := Bx2.new w A0 A1 xa.length c0 xb.length c1
  replace hg := hg.ext HB
  replace u0 := u0.below HB
  replace u1 := u1.below HB
  generalize xa.length = l0 at *
  generalize xb.length = l1 at *
  clear da db hc0 hc1
  go_enter Tryd.func9, Tryd.ntmps9
  go_wp2_with (fail)
  refine (mhead_calls _ hg).mono ?_
  rintro e w1 ⟨rfl, hB⟩
  replace HB := HB.below hB
  replace hg := hg.ext hB
  replace u0 := u0.below hB
  replace u1 := u1.below hB
  replace HX := HX.ext hB
  clear hB
  obtain ⟨b0, b1, b2⟩ := id HX
  go_wp2_with (fail)
  refine (hMd_a.out _ u0).mono ?_
  rintro e w2 ⟨v_a, rfl, h_a, hB⟩
  clear b0 b1 b2
  clear u0
  replace HB := HB.below hB
  replace hg := hg.ext hB
  replace u1 := u1.below hB
  replace HX := HX.ext hB
  clear hB
  obtain ⟨b0, b1, b2⟩ := id HX
  go_wp2_with (fail)
  refine (hMd_b.out _ u1).mono ?_
  rintro e w3 ⟨v_b, rfl, h_b, hB⟩
  clear b0 b1 b2
  clear u1
  clear HX
  replace HB := HB.below hB
  replace hg := hg.ext hB
  replace h_a := U.below (U.asUn h_a) hB
  clear hB
  go_wp2_with (fail)
  refine (cmp_B _ _ _ a b h_a h_b _ rfl).mono ?_
  rintro e w4 ⟨rfl, hB⟩
  replace HB := HB.below hB
  replace hg := hg.ext hB
  replace h_a := U.below (U.asUn h_a) hB
  replace h_b := U.below (U.asUn h_b) hB
  clear hB
  by_cases hab : a < b
  case' pos =>
    have hd0 : decide (cmpI a b < 0) = true := by rw [cmpI_lt (by omega)]; rfl
    have hle : a ≤ b := Nat.le_of_lt hab
    have h_L := h_b
    have h_S := h_a
    have t_L := tb
    have t_S := ta
    clear hab h_a h_b ta tb L_a L_b hMd_a hMd_b
    go_upto_region 6 with (fail)
    clear hd0
    generalize v_b = v_L at *
    generalize v_a = v_S at *
    generalize b = L at *
    generalize a = S at *
  case' neg =>
    have hd0 : decide (cmpI a b < 0) = false := cmp_ge (Nat.le_of_not_lt hab)
    have hle : b ≤ a := Nat.le_of_not_lt hab
    have h_L := h_a
    have h_S := h_b
    have t_L := ta
    have t_S := tb
    clear hab h_a h_b ta tb L_a L_b hMd_a hMd_b
    go_upto_region 6 with (fail)
    clear hd0
    generalize v_a = v_L at *
    generalize v_b = v_S at *
    generalize a = L at *
    generalize b = S at *
  all_goals
    obtain ⟨s, ds⟩ : ∃ s, L + S = s := ⟨_, rfl⟩
    have ts : Ltl s 121 := by rw [← ds]; exact ladd_lt t_L t_S
    have L_s := Lib.hid (len398 ts (by decide))
    have E_s := Lib.hid ds
    obtain ⟨df, ddf⟩ : ∃ df, L - S = df := ⟨_, rfl⟩
    have tdf : Ltl df 120 := by rw [← ddf]; exact t_L.le (Nat.sub_le _ _)
    have L_df := Lib.hid (len398 tdf (by decide))
    have E_df := Lib.hid ddf
    obtain ⟨ss, dss⟩ : ∃ ss, s * s = ss := ⟨_, rfl⟩
    have tss : Ltl ss 242 := by rw [← dss]; exact mul_lt ts ts
    have L_ss := Lib.hid (len398 tss (by decide))
    have E_ss := Lib.hid dss
    obtain ⟨d2, dd2⟩ : ∃ d2, df * df = d2 := ⟨_, rfl⟩
    have td2 : Ltl d2 240 := by rw [← dd2]; exact mul_lt tdf tdf
    have L_d2 := Lib.hid (len398 td2 (by decide))
    have E_d2 := Lib.hid dd2
    obtain ⟨ls, dls⟩ : ∃ ls, L * S = ls := ⟨_, rfl⟩
    have tls : Ltl ls 240 := by rw [← dls]; exact mul_lt t_L t_S
    have L_ls := Lib.hid (len398 tls (by decide))
    have E_ls := Lib.hid dls
    have L_L := Lib.hid (len398 t_L (by decide))
    have L_S := Lib.hid (len398 t_S (by decide))
    have hsq := sq_math L S hle
    rw [ds, ddf, dss, dd2, dls] at hsq
    have HSQ := Lib.hid hsq
    have HLE := Lib.hid hle
    obtain ⟨i0, di0⟩ : ∃ i0, n % 60 = i0 := ⟨_, rfl⟩
    have fi1 : (n : Int) % 60 = (i0 : Int) := by omega
    have fi2 : (n : Int).tmod 60 = (i0 : Int) := by rw [Int.tmod_eq_emod_of_nonneg (by omega)]; exact fi1
    obtain ⟨i, di⟩ : ∃ i, 1 + i0 = i := ⟨_, rfl⟩
    have fi3 : (1 : Int) + (i0 : Int) = (i : Int) := by omega
    have bi : i ≤ 60 := by omega
    obtain ⟨i32, di32⟩ : ∃ i32, 32 * i = i32 := ⟨_, rfl⟩
    have fi4 : (32 : Int) * (i : Int) = (i32 : Int) := by omega
    obtain ⟨k0, dk0⟩ : ∃ k0, x % 50 = k0 := ⟨_, rfl⟩
    have fk1 : (x : Int) % 50 = (k0 : Int) := by omega
    have fk2 : (x : Int).tmod 50 = (k0 : Int) := by rw [Int.tmod_eq_emod_of_nonneg (by omega)]; exact fk1
    obtain ⟨k, dk⟩ : ∃ k, 1 + k0 = k := ⟨_, rfl⟩
    have fk3 : (1 : Int) + (k0 : Int) = (k : Int) := by omega
    have bk : k ≤ 50 := by omega
    obtain ⟨k32, dk32⟩ : ∃ k32, 32 * k = k32 := ⟨_, rfl⟩
    have fk4 : (32 : Int) * (k : Int) = (k32 : Int) := by omega
    obtain ⟨ik, dik⟩ : ∃ ik, i + k = ik := ⟨_, rfl⟩
    have fik : (i : Int) + (k : Int) = (ik : Int) := by omega
    obtain ⟨ik32, dik32⟩ : ∃ ik32, 32 * ik = ik32 := ⟨_, rfl⟩
    have fik4 : (32 : Int) * (ik : Int) = (ik32 : Int) := by omega
    obtain ⟨P, dP⟩ : ∃ P, 2 ^ i32 = P := ⟨_, rfl⟩
    have tP : Ltl P 61 := by rw [← dP]; exact p32_lt (i := i) _ (by omega) di32
    have L_P := Lib.hid (len398 tP (by decide))
    have E_P : Hid (1 * 2 ^ ((i32 : Nat) : Int).toNat = P) := by rw [Hid, Int.toNat_natCast, Nat.one_mul]; exact dP
    have pP : 1 ≤ P := by rw [← dP]; exact Nat.two_pow_pos _
    have bi32 : i32 ≤ 4000 := by omega
    obtain ⟨Q, dQ⟩ : ∃ Q, 2 ^ k32 = Q := ⟨_, rfl⟩
    have tQ : Ltl Q 51 := by rw [← dQ]; exact p32_lt (i := k) _ (by omega) dk32
    have L_Q := Lib.hid (len398 tQ (by decide))
    have E_Q : Hid (1 * 2 ^ ((k32 : Nat) : Int).toNat = Q) := by rw [Hid, Int.toNat_natCast, Nat.one_mul]; exact dQ
    have pQ : 1 ≤ Q := by rw [← dQ]; exact Nat.two_pow_pos _
    have bk32 : k32 ≤ 4000 := by omega
    obtain ⟨R, dR⟩ : ∃ R, 2 ^ ik32 = R := ⟨_, rfl⟩
    have tR : Ltl R 111 := by rw [← dR]; exact p32_lt (i := ik) _ (by omega) dik32
    have L_R := Lib.hid (len398 tR (by decide))
    have E_R : Hid (1 * 2 ^ ((ik32 : Nat) : Int).toNat = R) := by rw [Hid, Int.toNat_natCast, Nat.one_mul]; exact dR
    have pR : 1 ≤ R := by rw [← dR]; exact Nat.two_pow_pos _
    have bik32 : ik32 ≤ 4000 := by omega
    obtain ⟨p, dp⟩ : ∃ p, P - 1 = p := ⟨_, rfl⟩
    obtain ⟨q, dq⟩ : ∃ q, Q - 1 = q := ⟨_, rfl⟩
    have tp : Ltl p 61 := tP.le (by omega)
    have tq : Ltl q 51 := tQ.le (by omega)
    have L_p := Lib.hid (len398 tp (by decide))
    have L_q := Lib.hid (len398 tq (by decide))
    have hpq : p * q + (P + Q) = R + 1 := by
      have h1 : R = P * Q := by rw [← dR, ← dP, ← dQ, ← Nat.pow_add]; congr 1; omega
      rw [h1, show P = p + 1 by omega, show Q = q + 1 by omega]; grind
    obtain ⟨pq, dpq⟩ : ∃ pq, p * q = pq := ⟨_, rfl⟩
    have tpq : Ltl pq 112 := by rw [← dpq]; exact mul_lt tp tq
    have L_pq := Lib.hid (len398 tpq (by decide))
    rw [dpq] at hpq
    have HPQ := Lib.hid hpq
    have E_pq := Lib.hid dpq
    have E_p := Lib.hid dp
    have E_q := Lib.hid dq
    have PP := Lib.hid pP
    have PQ := Lib.hid pQ
    have L_PQ : Hid ((limbs (P + Q)).length ≤ 398) := by
      have h61 : Ltl Q 61 := Nat.lt_of_lt_of_le tQ (Nat.pow_le_pow_right (by decide) (by decide))
      exact len398 (ladd_lt tP h61) (by decide)
    clear ds ddf dss dd2 dls ts tdf tss td2 tls t_L t_S hsq hle di0 dk0 di dk di32 dk32 dik dik32 dP dQ dR tP tQ tR pP pQ pR dp dq tp tq hpq dpq tpq
    have L_one := Lib.hid (len1 (x := 1) (by decide))
    go_wp2_with (fail)
    refine (add_B _ _ _ _ _ h_L h_S (lenG L_L.out) (lenG L_S.out) s E_s.out).mono ?_
    rintro e w5 ⟨v_s, rfl, h_s, hB⟩
    replace HB := HB.below hB
    replace hg := hg.ext hB
    replace h_L := U.below (U.asUn h_L) hB
    replace h_S := U.below (U.asUn h_S) hB
    clear hB
    go_wp2_with (fail)
    refine (sub_B _ _ _ _ _ h_L h_S (lenG L_L.out) true (decide_eq_true HLE.out) df E_df.out).mono ?_
    rintro e w6 ⟨v_df, rfl, h_df, hB⟩
    replace HB := HB.below hB
    replace hg := hg.ext hB
    replace h_L := U.below (U.asUn h_L) hB
    replace h_S := U.below (U.asUn h_S) hB
    replace h_s := U.below (U.asUn h_s) hB
    clear hB
    go_wp2_with (fail)
    refine (by_B x hx _ _ _ _ _ ss hg h_s h_s L_s.out L_s.out E_ss.out).mono ?_
    rintro e w7 ⟨v_m1, rfl, h_m1, hB⟩
    clear h_s
    replace HB := HB.below hB
    replace hg := hg.ext hB
    replace h_L := U.below (U.asUn h_L) hB
    replace h_S := U.below (U.asUn h_S) hB
    replace h_df := U.below (U.asUn h_df) hB
    clear hB
    go_wp2_with (fail)
    refine (by_B x hx _ _ _ _ _ d2 hg h_df h_df L_df.out L_df.out E_d2.out).mono ?_
    rintro e w8 ⟨v_m2, rfl, h_m2, hB⟩
    clear h_df
    replace HB := HB.below hB
    replace hg := hg.ext hB
    replace h_L := U.below (U.asUn h_L) hB
    replace h_S := U.below (U.asUn h_S) hB
    replace h_m1 := U.below (U.asUn h_m1) hB
    clear hB
    go_wp2_with (fail)
    refine (sub_B _ _ _ _ _ h_m1 h_m2 (lenG L_ss.out) true (decide_eq_true (by have := HSQ.out; omega)) (4 * ls) (by have := HSQ.out; omega)).mono ?_
    rintro e w9 ⟨v_m4, rfl, h_m4, hB⟩
    clear h_m1
    clear h_m2
    replace HB := HB.below hB
    replace hg := hg.ext hB
    replace h_L := U.below (U.asUn h_L) hB
    replace h_S := U.below (U.asUn h_S) hB
    clear hB
    go_wp2_with (fail)
    refine (by_B x hx _ _ _ _ _ ls hg h_L h_S L_L.out L_S.out E_ls.out).mono ?_
    rintro e w10 ⟨v_m3, rfl, h_m3, hB⟩
    clear h_L
    clear h_S
    replace HB := HB.below hB
    replace hg := hg.ext hB
    replace h_m4 := U.below (U.asUn h_m4) hB
    clear hB
    go_wp2_with (fail)
    refine (shl_B _ _ _ 2 h_m3 (by decide) (by decide) (lenG L_ls.out) (4 * ls) (by rw [show ((2 : Int).toNat) = 2 from rfl]; omega)).mono ?_
    rintro e w11 ⟨v_m5, rfl, h_m5, hB⟩
    clear h_m3
    replace HB := HB.below hB
    replace hg := hg.ext hB
    replace h_m4 := U.below (U.asUn h_m4) hB
    clear hB
    go_wp2_with (fail)
    refine (same_N _ _ _ _ _ h_m4 h_m5 true (decide_eq_true rfl)).mono ?_
    rintro e w12 ⟨rfl, hB⟩
    clear h_m4
    clear h_m5
    replace HB := HB.below hB
    replace hg := hg.ext hB
    clear hB
    have h_one : Un (w12.alloc (.cells #[.int .u32 1] 35)) (.slice (some ⟨w12.heap.size, 0, none⟩) 1 1) 1 := Un_lit1 w12 _ rfl 1 (by decide) (by decide)
    have hB := (Ext.refl w12).alloc (.cells #[.int .u32 1] 35)
    replace HB := HB.below hB
    replace hg := hg.ext hB
    clear hB
    go_wp2_with (fail)
    refine (shl_B _ _ 1 ((i32 : Nat) : Int) h_one (by omega) (by omega) (lenG L_one.out) P E_P.out).mono ?_
    rintro e w13 ⟨v_y1, rfl, h_y1, hB⟩
    replace HB := HB.below hB
    replace hg := hg.ext hB
    replace h_one := U.below (U.asUn h_one) hB
    clear hB
    go_wp2_with (fail)
    refine (sub_B _ _ _ _ _ h_y1 h_one (lenG L_P.out) true (decide_eq_true PP.out) p E_p.out).mono ?_
    rintro e w14 ⟨v_y2, rfl, h_y2, hB⟩
    clear h_y1
    replace HB := HB.below hB
    replace hg := hg.ext hB
    replace h_one := U.below (U.asUn h_one) hB
    clear hB
    go_wp2_with (fail)
    refine (shl_B _ _ 1 ((k32 : Nat) : Int) h_one (by omega) (by omega) (lenG L_one.out) Q E_Q.out).mono ?_
    rintro e w15 ⟨v_y3, rfl, h_y3, hB⟩
    replace HB := HB.below hB
    replace hg := hg.ext hB
    replace h_one := U.below (U.asUn h_one) hB
    replace h_y2 := U.below (U.asUn h_y2) hB
    clear hB
    go_wp2_with (fail)
    refine (sub_B _ _ _ _ _ h_y3 h_one (lenG L_Q.out) true (decide_eq_true PQ.out) q E_q.out).mono ?_
    rintro e w16 ⟨v_y4, rfl, h_y4, hB⟩
    clear h_y3
    replace HB := HB.below hB
    replace hg := hg.ext hB
    replace h_one := U.below (U.asUn h_one) hB
    replace h_y2 := U.below (U.asUn h_y2) hB
    clear hB
    go_wp2_with (fail)
    refine (by_B x hx _ _ _ _ _ pq hg h_y2 h_y4 L_p.out L_q.out E_pq.out).mono ?_
    rintro e w17 ⟨v_y5, rfl, h_y5, hB⟩
    clear h_y2
    clear h_y4
    replace HB := HB.below hB
    replace hg := hg.ext hB
    replace h_one := U.below (U.asUn h_one) hB
    clear hB
    go_wp2_with (fail)
    refine (shl_B _ _ 1 ((i32 : Nat) : Int) h_one (by omega) (by omega) (lenG L_one.out) P E_P.out).mono ?_
    rintro e w18 ⟨v_y6, rfl, h_y6, hB⟩
    replace HB := HB.below hB
    replace hg := hg.ext hB
    replace h_one := U.below (U.asUn h_one) hB
    replace h_y5 := U.below (U.asUn h_y5) hB
    clear hB
    go_wp2_with (fail)
    refine (shl_B _ _ 1 ((k32 : Nat) : Int) h_one (by omega) (by omega) (lenG L_one.out) Q E_Q.out).mono ?_
    rintro e w19 ⟨v_y7, rfl, h_y7, hB⟩
    replace HB := HB.below hB
    replace hg := hg.ext hB
    replace h_one := U.below (U.asUn h_one) hB
    replace h_y5 := U.below (U.asUn h_y5) hB
    replace h_y6 := U.below (U.asUn h_y6) hB
    clear hB
    go_wp2_with (fail)
    refine (add_B _ _ _ _ _ h_y6 h_y7 (lenG L_P.out) (lenG L_Q.out) (P + Q) rfl).mono ?_
    rintro e w20 ⟨v_y8, rfl, h_y8, hB⟩
    clear h_y6
    clear h_y7
    replace HB := HB.below hB
    replace hg := hg.ext hB
    replace h_one := U.below (U.asUn h_one) hB
    replace h_y5 := U.below (U.asUn h_y5) hB
    clear hB
    go_wp2_with (fail)
    refine (add_B _ _ _ _ _ h_y5 h_y8 (lenG L_pq.out) (lenG L_PQ.out) (R + 1) HPQ.out).mono ?_
    rintro e w21 ⟨v_y9, rfl, h_y9, hB⟩
    clear h_y5
    clear h_y8
    replace HB := HB.below hB
    replace hg := hg.ext hB
    replace h_one := U.below (U.asUn h_one) hB
    clear hB
    go_wp2_with (fail)
    refine (shl_B _ _ 1 ((ik32 : Nat) : Int) h_one (by omega) (by omega) (lenG L_one.out) R E_R.out).mono ?_
    rintro e w22 ⟨v_y10, rfl, h_y10, hB⟩
    replace HB := HB.below hB
    replace hg := hg.ext hB
    replace h_one := U.below (U.asUn h_one) hB
    replace h_y9 := U.below (U.asUn h_y9) hB
    clear hB
    go_wp2_with (fail)
    refine (add_B _ _ _ _ _ h_y10 h_one (lenG L_R.out) (lenG L_one.out) (R + 1) rfl).mono ?_
    rintro e w23 ⟨v_y11, rfl, h_y11, hB⟩
    clear h_y10
    clear h_one
    replace HB := HB.below hB
    replace hg := hg.ext hB
    replace h_y9 := U.below (U.asUn h_y9) hB
    clear hB
    go_wp2_with (fail)
    refine (same_N _ _ _ _ _ h_y9 h_y11 true (decide_eq_true rfl)).mono ?_
    rintro e w24 ⟨rfl, hB⟩
    clear h_y9
    clear h_y11
    replace HB := HB.below hB
    replace hg := hg.ext hB
    clear hB
    go_wp2
    go_ret
    exact ⟨rfl, HB⟩
end Go.Proofs.YtkmejhkdmnjbeaaDoor
/- Proved: the statement MulSquares: whatever two rows, number and way: the square of a sum less that of a difference is four products; the greatest naturals of any lengths have the product that their powers of 2 tell. No condition. -/
namespace Go.Proofs.YtkmejhkdmnjbeaaDoor
open Go.ChangeShapes Go.WideShapes Go.ChangeAt Go.RowKit
set_option linter.unusedVariables false
set_option maxHeartbeats 2000000

set_option maxRecDepth 100000 in
theorem lifted_MulSquares (os : Os) (started : os.Started) (H : Type) (enc : TypeId × Value → H) :
    ReturnsInHanded {} Tryd.checked os 9 .any (fun w args => (Rows.mulSquaresSpec.pre enc Tryd.prog Tryd.f9 [] false w args ∧ laidMetH Tryd.prog laidT w) ∧ sizedMet enc Tryd.prog Tryd.f9 (OpenSpec.ofChange Rows.mulSquaresSpec) false w args)
      (Rows.mulSquaresSpec.post enc Tryd.prog Tryd.f9 false true false false) := by
  refine returnsInHanded_of_change_and (C := Tryd.checked) (X := fun w _ => laidMetH Tryd.prog laidT w) (fun _ _ _ hh h => h.of_heap hh) own started (by kernel_rfl) Tryd.func9
    (ChangeSpec.witness_shaped (enc := enc) (C := Tryd.checked) (os := os) (X := fun w _ => laidMetH Tryd.prog laidT w) false (World.doorLaid Tryd.prog 400 os) #[.agg #[.slice none 0 0, .slice none 0 0], .int .u8 0, .int .u8 0] 8 rfl (World.shaped_of_RefB (by kernel_rfl) (by kernel_rfl)) (by kernel_rfl) (by kernel_rfl) (by kernel_rfl) (door_met os _)) ?_
  intro W base args ds gs before hval0 hW _ _ hL _
  have hval : ∀ (j : Nat) t v, Tryd.f9.params[j]? = some t → args[j]? = some v → Value.okWide Tryd.prog W .any base t v := hval0
  have hW' := hW
  obtain ⟨p, q, hA0, hV, rfl, hfz, hnd⟩ := hW
  have hlt : ∀ x ∈ p ++ q, x.block < W.heap.size := fun x hx => hW'.lt x hx
  have hA : DataW.TrodAll enc Tryd.prog W 0 (fun _ => true) true Tryd.f9.params.toList args.toList ds p := hA0
  rw [Tryd.params9] at hA hval
  clear hA0 hval0
  obtain ⟨v0, vs0, d0, ds0, p0, q0, hargs0, rfl, rfl, h0, r0⟩ := trodAll_cons hA
  obtain ⟨v1, vs1, d1, ds1, p1, q1, hargs1, rfl, rfl, h1, r1⟩ := trodAll_cons r0
  obtain ⟨v2, vs2, d2, ds2, p2, q2, hargs2, rfl, rfl, h2, r2⟩ := trodAll_cons r1
  obtain ⟨hn1, rfl, rfl⟩ := trodAll_nil r2
  subst hn1
  subst hargs2
  subst hargs1
  obtain rfl : args = #[v0, v1, v2] := by cases args; simp_all
  obtain ⟨rfl, rfl⟩ := trodVars_none hV
  obtain ⟨ra0, rb0, xa0, xb0, hv0, ua0, ub0⟩ := open_two (hval 0 34 v0 rfl rfl) h0 (fun x hx => hlt x (by simp [hx]))
  subst hv0
  obtain ⟨z1, rfl, rfl, rfl, hz1⟩ := open_int Tryd.underlying5 (hval 1 5 v1 rfl rfl) h1
  have hb1 := bounds_u8 hz1
  obtain ⟨n1, rfl⟩ := Int.eq_ofNat_of_zero_le (show 0 ≤ z1 by omega)
  obtain ⟨z2, rfl, rfl, rfl, hz2⟩ := open_int Tryd.underlying5 (hval 2 5 v2 rfl rfl) h2
  have hb2 := bounds_u8 hz2
  obtain ⟨n2, rfl⟩ := Int.eq_ofNat_of_zero_le (show 0 ≤ z2 by omega)
  refine (MulSquares_walk W (gl_of_laid hL) _ _ ua0 _ _ ub0 n1 (by omega) n2 (by omega)).mono fun e W' ⟨he, hB⟩ => ?_
  subst he
  exact ⟨_, rfl, law_post hW' rfl (by rw [Tryd.params9]; decide +kernel) rfl rfl rfl rfl hB⟩

theorem mulSquares_said : Rows.MulSquaresSaid :=
  OpenClaim.holds_of_wide 9 Tryd.f9 rfl rfl rfl rfl rfl rfl rfl ⟨rfl, rfl, rfl, rfl, rfl⟩ rfl rfl rfl rfl rfl (by kernel_rfl) Tryd.func9 (by kernel_rfl)
    (of_decide_eq_true (by kernel_rfl)) (by unfold Func.isWrapper; first | (rw [if_pos (by decide +kernel)]; kernel_rfl) | (rw [if_neg (by decide +kernel)]; exact ⟨rfl, rfl⟩))
    (fun os started H enc _ => lifted_MulSquares os started H enc)
/-- The statement: the card, tied. -/
theorem mulSquares_holds : Rows.MulSquaresCardSaid :=
  Claim7.holds_tied_plain_at .later [] [.wider] true Rows.mulSquaresCard.stood.harness false
    mulSquares_said (fun _ h => by cases h) (by kernel_rfl) (fun _ h => by cases h) mulSquares_row_tie rfl ⟨rfl, rfl⟩ (by kernel_rfl) rfl
    (fun f fn hf hfn => by
      obtain rfl : f = 9 := Option.some.inj ((show Tryd.prog.funcNamed "ziggurat/zigguratlaw03.MulSquares" = some 9 by kernel_rfl).symm.trans hf) |>.symm
      obtain rfl : fn = Tryd.f9 := (Option.some.inj (Tryd.func9.symm.trans hfn)).symm
      exact ⟨by kernel_rfl, fun j t ht => by
        rw [Tryd.params9] at ht
        have hm : t ∈ [34, 5, 5] := by simpa using Array.mem_of_getElem? ht
        have hall : ([34, 5, 5].all fun u => !Tryd.prog.wantsStandIn u) = true := by kernel_rfl
        exact (show Tryd.prog.wantsStandIn t = false by simpa using List.all_eq_true.1 hall t hm)⟩)
    (by kernel_rfl)
end Go.Proofs.YtkmejhkdmnjbeaaDoor
