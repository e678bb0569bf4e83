/- Proved: the statement MulShifts: whatever two rows, shift and way: times a power of 2 a natural is shifted; the limbs of a product are the sums of those of its factors' parts, wherever one is cut. No condition. -/
import Derived.Test.YtkmejhkdmnjbeaaDoorPg

namespace Go.Proofs.YtkmejhkdmnjbeaaDoor
open Go.RowKit
set_option linter.unusedVariables false
set_option maxHeartbeats 400000

theorem pk_lt (k m : Nat) (h : k < 32 * m) : Ltl (2 ^ k) m := by
  unfold Ltl
  rw [show LB = 2 ^ 32 from rfl, ← Nat.pow_mul]
  exact Nat.pow_lt_pow_right (by decide) h
theorem cut_ways {w : World} {A : Option Addr} {n c at_ : Nat} {xs : List Nat} (h : U w (.slice A n c) xs) (hn : xs.length = n) (hat : at_ ≤ n) : (n = 0 ∧ at_ = 0) ∨ (0 < n ∧ c = at_) ∨ (0 < n ∧ at_ < c) := by
  obtain ⟨A', c', e, hc, _⟩ := h
  injection e with e1 e2 e3
  subst e1 e2 e3
  omega

set_option maxRecDepth 100000 in
set_option maxHeartbeats 8000000 in
theorem MulShifts_walk (w : World) (hg : Gl w) (r0 : Value) (xa : List Nat) (u0 : U w r0 xa) (r1 : Value) (xb : List Nat) (u1 : U w r1 xb) (n : Nat) (hn : n < 65536) (x : Nat) (hx : x < 256) :
    Calls Tryd.prog 8 #[.agg #[r0, r1], .int .u16 (n : Nat), .int .u8 (x : Nat)] w fun e w' => e = .returned (.bool true) ∧ Ext w w' := by
  obtain ⟨a, da⟩ : ∃ a, cutN xa 120 = a := ⟨_, rfl⟩
  have ta : Ltl a 120 := by rw [← da]; exact cut_lt xa 120 u0.lim
  have hMd_a := Lib.hid (fun W h => made_N W r0 xa h a da)
  have L_a := Lib.hid (len398 ta (by decide))
  obtain ⟨b, db⟩ : ∃ b, cutN xb 120 = b := ⟨_, rfl⟩
  have tb : Ltl b 120 := by rw [← db]; exact cut_lt xb 120 u1.lim
  have hMd_b := Lib.hid (fun W h => made_N W r1 xb h b db)
  have L_b := Lib.hid (len398 tb (by decide))
  obtain ⟨ab, dab⟩ : ∃ ab, a * b = ab := ⟨_, rfl⟩
  have tab : Ltl ab 240 := by rw [← dab]; exact mul_lt ta tb
  have L_ab := Lib.hid (len398 tab (by decide))
  have E_ab := Lib.hid dab
  obtain ⟨k, dk⟩ : ∃ k, n % 700 = k := ⟨_, rfl⟩
  have fk1 : (n : Int) % 700 = (k : Int) := by omega
  have fk2 : (n : Int).tmod 700 = (k : Int) := by rw [Int.tmod_eq_emod_of_nonneg (by omega)]; exact fk1
  have bk : k < 700 := by omega
  obtain ⟨K, dK⟩ : ∃ K, 2 ^ k = K := ⟨_, rfl⟩
  have tK : Ltl K 22 := by rw [← dK]; exact pk_lt k 22 (by omega)
  have L_K := Lib.hid (len398 tK (by decide))
  have E_K := Lib.hid dK
  obtain ⟨aK, daK⟩ : ∃ aK, a * K = aK := ⟨_, rfl⟩
  have E_aK := Lib.hid daK
  obtain ⟨na, dna⟩ : ∃ na, (limbs a).length = na := ⟨_, rfl⟩
  obtain ⟨kq, dkq⟩ : ∃ kq, k / 32 = kq := ⟨_, rfl⟩
  have fkq : (k : Int) / 32 = (kq : Int) := by omega
  obtain ⟨at_, dat⟩ : ∃ at_, min kq na = at_ := ⟨_, rfl⟩
  have fat1 : (if (na : Int) < (kq : Int) then (na : Int) else (kq : Int)) = (at_ : Int) := by split <;> omega
  have fat2 : min (kq : Int) (na : Int) = (at_ : Int) := by omega
  have fat3 : (if na < kq then (na : Int) else (kq : Int)) = (at_ : Int) := by split <;> omega
  have bat : at_ ≤ na := by omega
  have bat2 : at_ ≤ 22 := by omega
  have bna : na ≤ 398 := by rw [← dna]; exact L_a.out
  obtain ⟨s32, ds32⟩ : ∃ s32, 32 * at_ = s32 := ⟨_, rfl⟩
  have fs32 : (32 : Int) * (at_ : Int) = (s32 : Int) := by omega
  obtain ⟨low, dlow⟩ : ∃ low, val ((limbs a).take at_) = low := ⟨_, rfl⟩
  obtain ⟨high, dhigh⟩ : ∃ high, val ((limbs a).drop at_) = high := ⟨_, rfl⟩
  have hcut := val_cut (limbs a) at_ (by rw [dna]; exact bat)
  rw [val_limbs, dlow, dhigh, show LB = 2 ^ 32 from rfl, ← Nat.pow_mul, ds32] at hcut
  have tlow : Ltl low 120 := ta.le (by omega)
  have thigh : Ltl high 120 := ta.le (by rw [hcut]; exact Nat.le_trans (Nat.le_mul_of_pos_left _ (Nat.two_pow_pos _)) (Nat.le_add_left _ _))
  have L_low := Lib.hid (len398 tlow (by decide))
  have L_high := Lib.hid (len398 thigh (by decide))
  obtain ⟨lb2, dlb2⟩ : ∃ lb2, low * b = lb2 := ⟨_, rfl⟩
  obtain ⟨hb2, dhb2⟩ : ∃ hb2, high * b = hb2 := ⟨_, rfl⟩
  obtain ⟨sh, dsh⟩ : ∃ sh, hb2 * 2 ^ s32 = sh := ⟨_, rfl⟩
  have hsum : lb2 + sh = ab := by rw [← dlb2, ← dsh, ← dhb2, ← dab, hcut, Nat.add_mul]; congr 1; rw [Nat.mul_right_comm, Nat.mul_comm high]
  have tlb2 : Ltl lb2 240 := by rw [← dlb2]; exact mul_lt tlow tb
  have thb2 : Ltl hb2 240 := by rw [← dhb2]; exact mul_lt thigh tb
  have tsh : Ltl sh 240 := tab.le (by omega)
  have L_lb2 := Lib.hid (len398 tlb2 (by decide))
  have L_hb2 := Lib.hid (len398 thb2 (by decide))
  have L_sh := Lib.hid (len398 tsh (by decide))
  have E_lb2 := Lib.hid dlb2
  have E_hb2 := Lib.hid dhb2
  have E_sh := Lib.hid dsh
  have E_sum := Lib.hid hsum
  have E_low := Lib.hid dlow
  have E_high := Lib.hid dhigh
  have E_na := Lib.hid dna
  have bs32 : s32 ≤ 1000 := by omega
  have L_one := Lib.hid (len1 (x := 1) (by decide))
  obtain ⟨A0, c0, e0, hc0⟩ := u0.shape
  subst e0
  obtain ⟨A1, c1, e1, hc1⟩ := u1.shape
  subst e1
  have HB := (Ext.refl w).alloc (.cells #[.slice A0 xa.length c0, .slice A1 xb.length c1] 34)
  have HX := Bx2.new w A0 A1 xa.length c0 xb.length c1
  replace hg := hg.ext HB
  replace u0 := u0.below HB
  replace u1 := u1.below HB
  generalize xa.length = l0 at *
  generalize xb.length = l1 at *
  clear da db ta tb dab tab hc0 hc1 dk dK tK daK dna dkq dat ds32 dlow dhigh hcut tlow thigh dlb2 dhb2 dsh hsum tlb2 thb2 tsh
  go_enter Tryd.func8, Tryd.ntmps8
  go_wp2_with (fail)
  refine (mhead_calls _ hg).mono ?_
  rintro e w1 ⟨rfl, hB⟩
  replace HB := HB.below hB
  replace hg := hg.ext hB
  replace u0 := u0.below hB
  replace u1 := u1.below hB
  replace HX := HX.ext hB
  clear hB
  obtain ⟨b0, b1, b2⟩ := id HX
  go_wp2_with (fail)
  refine (hMd_a.out _ u0).mono ?_
  rintro e w2 ⟨v_a, rfl, h_a, hB⟩
  clear b0 b1 b2
  clear u0
  replace HB := HB.below hB
  replace hg := hg.ext hB
  replace u1 := u1.below hB
  replace HX := HX.ext hB
  clear hB
  obtain ⟨b0, b1, b2⟩ := id HX
  go_wp2_with (fail)
  refine (hMd_b.out _ u1).mono ?_
  rintro e w3 ⟨v_b, rfl, h_b, hB⟩
  clear b0 b1 b2
  clear u1
  clear HX
  replace HB := HB.below hB
  replace hg := hg.ext hB
  replace h_a := U.below (U.asUn h_a) hB
  clear hB
  have h_one : Un (w3.alloc (.cells #[.int .u32 1] 35)) (.slice (some ⟨w3.heap.size, 0, none⟩) 1 1) 1 := Un_lit1 w3 _ rfl 1 (by decide) (by decide)
  have hB := (Ext.refl w3).alloc (.cells #[.int .u32 1] 35)
  replace HB := HB.below hB
  replace hg := hg.ext hB
  replace h_a := U.below (U.asUn h_a) hB
  replace h_b := U.below (U.asUn h_b) hB
  clear hB
  go_wp2_with (fail)
  refine (shl_B _ _ 1 ((k : Nat) : Int) h_one (by omega) (by omega) (lenG L_one.out) K (by rw [Int.toNat_natCast, Nat.one_mul]; exact E_K.out)).mono ?_
  rintro e w4 ⟨v_K, rfl, h_K, hB⟩
  clear h_one
  replace HB := HB.below hB
  replace hg := hg.ext hB
  replace h_a := U.below (U.asUn h_a) hB
  replace h_b := U.below (U.asUn h_b) hB
  clear hB
  go_wp2_with (fail)
  refine (by_B x hx _ _ _ _ _ aK hg h_a h_K L_a.out L_K.out E_aK.out).mono ?_
  rintro e w5 ⟨v_q1, rfl, h_q1, hB⟩
  clear h_K
  replace HB := HB.below hB
  replace hg := hg.ext hB
  replace h_a := U.below (U.asUn h_a) hB
  replace h_b := U.below (U.asUn h_b) hB
  clear hB
  go_wp2_with (fail)
  refine (shl_B _ _ a ((k : Nat) : Int) h_a (by omega) (by omega) (lenG L_a.out) aK (by rw [Int.toNat_natCast, E_K.out]; exact E_aK.out)).mono ?_
  rintro e w6 ⟨v_q2, rfl, h_q2, hB⟩
  replace HB := HB.below hB
  replace hg := hg.ext hB
  replace h_a := U.below (U.asUn h_a) hB
  replace h_b := U.below (U.asUn h_b) hB
  replace h_q1 := U.below (U.asUn h_q1) hB
  clear hB
  go_wp2_with (fail)
  refine (same_N _ _ _ _ _ h_q1 h_q2 true (decide_eq_true rfl)).mono ?_
  rintro e w7 ⟨rfl, hB⟩
  clear h_q1
  clear h_q2
  replace HB := HB.below hB
  replace hg := hg.ext hB
  replace h_a := U.below (U.asUn h_a) hB
  replace h_b := U.below (U.asUn h_b) hB
  clear hB
  obtain ⟨A7, c7, hv7, hc7, hx7, hr7⟩ := id (U.asUn h_a)
  rw [E_na.out] at hv7 hc7 hr7
  subst hv7
  go_upto_region 8 with (fail)
  clear fat1 fat2 fat3
  have h_al := h_a
  rcases cut_ways h_a E_na.out bat with ⟨hna0, hat0⟩ | ⟨hpos, hcap⟩ | ⟨hpos, hcap⟩
  case inl =>
    subst hna0 hat0
    have hnil : limbs a = [] := List.length_eq_zero_iff.1 E_na.out
    have hLw : U w7 (.slice A7 0 c7) ((limbs a).take 0) := U.nil_ _ _ _
    go_wp2_with (fail)
    refine (make_B _ _ _ hLw low E_low.out).mono ?_
    rintro e w8 ⟨v_low, rfl, h_low, hB⟩
    replace HB := HB.below hB
    replace hg := hg.ext hB
    replace h_a := U.below (U.asUn h_a) hB
    replace h_al := U.below (U.asUn h_al) hB
    replace h_b := U.below (U.asUn h_b) hB
    clear hB hLw
    go_wp2_with (fail)
    have hs0 : s32 = 0 := by omega
    clear fs32
    subst hs0
    have hHi : U w8 (.slice A7 0 c7) ((limbs a).drop 0) := by rw [List.drop_zero, hnil]; exact U.nil_ _ _ _
    refine (make_B _ _ _ hHi high E_high.out).mono ?_
    rintro e w9 ⟨v_high, rfl, h_high, hB⟩
    replace HB := HB.below hB
    replace hg := hg.ext hB
    replace h_a := U.below (U.asUn h_a) hB
    replace h_b := U.below (U.asUn h_b) hB
    replace h_low := U.below (U.asUn h_low) hB
    clear hB
    clear hHi h_al
    go_wp2_with (fail)
    refine (by_B x hx _ _ _ _ _ ab hg h_a h_b L_a.out L_b.out E_ab.out).mono ?_
    rintro e w21 ⟨v_z0, rfl, h_z0, hB⟩
    clear h_a
    replace HB := HB.below hB
    replace hg := hg.ext hB
    replace h_b := U.below (U.asUn h_b) hB
    replace h_low := U.below (U.asUn h_low) hB
    replace h_high := U.below (U.asUn h_high) hB
    clear hB
    go_wp2_with (fail)
    refine (by_B x hx _ _ _ _ _ lb2 hg h_low h_b L_low.out L_b.out E_lb2.out).mono ?_
    rintro e w22 ⟨v_z1, rfl, h_z1, hB⟩
    clear h_low
    replace HB := HB.below hB
    replace hg := hg.ext hB
    replace h_b := U.below (U.asUn h_b) hB
    replace h_high := U.below (U.asUn h_high) hB
    replace h_z0 := U.below (U.asUn h_z0) hB
    clear hB
    go_wp2_with (fail)
    refine (by_B x hx _ _ _ _ _ hb2 hg h_high h_b L_high.out L_b.out E_hb2.out).mono ?_
    rintro e w23 ⟨v_z2, rfl, h_z2, hB⟩
    clear h_high
    clear h_b
    replace HB := HB.below hB
    replace hg := hg.ext hB
    replace h_z0 := U.below (U.asUn h_z0) hB
    replace h_z1 := U.below (U.asUn h_z1) hB
    clear hB
    go_wp2_with (fail)
    refine (shl_B _ _ hb2 0 h_z2 (by omega) (by omega) (lenG L_hb2.out) sh E_sh.out).mono ?_
    rintro e w24 ⟨v_z3, rfl, h_z3, hB⟩
    clear h_z2
    replace HB := HB.below hB
    replace hg := hg.ext hB
    replace h_z0 := U.below (U.asUn h_z0) hB
    replace h_z1 := U.below (U.asUn h_z1) hB
    clear hB
    go_wp2_with (fail)
    refine (add_B _ _ _ _ _ h_z1 h_z3 (lenG L_lb2.out) (lenG L_sh.out) ab E_sum.out).mono ?_
    rintro e w25 ⟨v_z4, rfl, h_z4, hB⟩
    clear h_z1
    clear h_z3
    replace HB := HB.below hB
    replace hg := hg.ext hB
    replace h_z0 := U.below (U.asUn h_z0) hB
    clear hB
    go_wp2_with (fail)
    refine (same_N _ _ _ _ _ h_z0 h_z4 true (decide_eq_true rfl)).mono ?_
    rintro e w26 ⟨rfl, hB⟩
    clear h_z0
    clear h_z4
    replace HB := HB.below hB
    replace hg := hg.ext hB
    clear hB
    go_wp2
    go_ret
    exact ⟨rfl, HB⟩
  case inr.inl =>
    obtain ⟨ad, rfl, hbk7, hcell7⟩ := hr7 hpos
    have hnn : na = at_ := by omega
    subst hcap
    subst hnn
    have hLw : U w7 (.slice (some ad) na na) ((limbs a).take na) := U.take (U.asUn h_a) (Nat.le_refl _) (Nat.le_refl _)
    go_wp2_with (fail)
    refine (make_B _ _ _ hLw low E_low.out).mono ?_
    rintro e w8 ⟨v_low, rfl, h_low, hB⟩
    replace HB := HB.below hB
    replace hg := hg.ext hB
    replace h_a := U.below (U.asUn h_a) hB
    replace h_al := U.below (U.asUn h_al) hB
    replace h_b := U.below (U.asUn h_b) hB
    clear hB hLw
    go_wp2_with (fail)
    have hHi : U w8 (.slice (some ad) 0 0) ((limbs a).drop na) := by rw [List.drop_of_length_le (by rw [E_na.out]; exact Nat.le_refl _)]; exact U.nil_ _ _ _
    refine (make_B _ _ _ hHi high E_high.out).mono ?_
    rintro e w9 ⟨v_high, rfl, h_high, hB⟩
    replace HB := HB.below hB
    replace hg := hg.ext hB
    replace h_a := U.below (U.asUn h_a) hB
    replace h_b := U.below (U.asUn h_b) hB
    replace h_low := U.below (U.asUn h_low) hB
    clear hB
    clear hHi h_al
    go_wp2_with (fail)
    refine (by_B x hx _ _ _ _ _ ab hg h_a h_b L_a.out L_b.out E_ab.out).mono ?_
    rintro e w21 ⟨v_z0, rfl, h_z0, hB⟩
    clear h_a
    replace HB := HB.below hB
    replace hg := hg.ext hB
    replace h_b := U.below (U.asUn h_b) hB
    replace h_low := U.below (U.asUn h_low) hB
    replace h_high := U.below (U.asUn h_high) hB
    clear hB
    go_wp2_with (fail)
    refine (by_B x hx _ _ _ _ _ lb2 hg h_low h_b L_low.out L_b.out E_lb2.out).mono ?_
    rintro e w22 ⟨v_z1, rfl, h_z1, hB⟩
    clear h_low
    replace HB := HB.below hB
    replace hg := hg.ext hB
    replace h_b := U.below (U.asUn h_b) hB
    replace h_high := U.below (U.asUn h_high) hB
    replace h_z0 := U.below (U.asUn h_z0) hB
    clear hB
    go_wp2_with (fail)
    refine (by_B x hx _ _ _ _ _ hb2 hg h_high h_b L_high.out L_b.out E_hb2.out).mono ?_
    rintro e w23 ⟨v_z2, rfl, h_z2, hB⟩
    clear h_high
    clear h_b
    replace HB := HB.below hB
    replace hg := hg.ext hB
    replace h_z0 := U.below (U.asUn h_z0) hB
    replace h_z1 := U.below (U.asUn h_z1) hB
    clear hB
    go_wp2_with (fail)
    refine (shl_B _ _ hb2 ((s32 : Nat) : Int) h_z2 (by omega) (by omega) (lenG L_hb2.out) sh (by rw [Int.toNat_natCast]; exact E_sh.out)).mono ?_
    rintro e w24 ⟨v_z3, rfl, h_z3, hB⟩
    clear h_z2
    replace HB := HB.below hB
    replace hg := hg.ext hB
    replace h_z0 := U.below (U.asUn h_z0) hB
    replace h_z1 := U.below (U.asUn h_z1) hB
    clear hB
    go_wp2_with (fail)
    refine (add_B _ _ _ _ _ h_z1 h_z3 (lenG L_lb2.out) (lenG L_sh.out) ab E_sum.out).mono ?_
    rintro e w25 ⟨v_z4, rfl, h_z4, hB⟩
    clear h_z1
    clear h_z3
    replace HB := HB.below hB
    replace hg := hg.ext hB
    replace h_z0 := U.below (U.asUn h_z0) hB
    clear hB
    go_wp2_with (fail)
    refine (same_N _ _ _ _ _ h_z0 h_z4 true (decide_eq_true rfl)).mono ?_
    rintro e w26 ⟨rfl, hB⟩
    clear h_z0
    clear h_z4
    replace HB := HB.below hB
    replace hg := hg.ext hB
    clear hB
    go_wp2
    go_ret
    exact ⟨rfl, HB⟩
  case inr.inr =>
    obtain ⟨ad, rfl, hbk7, hcell7⟩ := hr7 hpos
    have hcc : ¬ (c7 = at_) := by omega
    have hci : (at_ : Int) < (c7 : Int) := by omega
    have hci2 : (at_ : Int) ≤ (na : Int) := by omega
    obtain ⟨r7, hr7e⟩ : ∃ r7, na - at_ = r7 := ⟨_, rfl⟩
    have hLw : U w7 (.slice (some ad) at_ c7) ((limbs a).take at_) := U.take (U.asUn h_a) bat (by omega)
    go_wp2_with (fail)
    refine (make_B _ _ _ hLw low E_low.out).mono ?_
    rintro e w8 ⟨v_low, rfl, h_low, hB⟩
    replace HB := HB.below hB
    replace hg := hg.ext hB
    replace h_a := U.below (U.asUn h_a) hB
    replace h_al := U.below (U.asUn h_al) hB
    replace h_b := U.below (U.asUn h_b) hB
    clear hB hLw
    go_wp2_with (fail)
    have hHi : U w8 (.slice (some (ad.add at_)) r7 (c7 - at_)) ((limbs a).drop at_) := U.drop_ (U.asUn h_a) bat hr7e (by omega)
    refine (make_B _ _ _ hHi high E_high.out).mono ?_
    rintro e w9 ⟨v_high, rfl, h_high, hB⟩
    replace HB := HB.below hB
    replace hg := hg.ext hB
    replace h_a := U.below (U.asUn h_a) hB
    replace h_b := U.below (U.asUn h_b) hB
    replace h_low := U.below (U.asUn h_low) hB
    clear hB
    clear hHi h_al
    go_wp2_with (fail)
    refine (by_B x hx _ _ _ _ _ ab hg h_a h_b L_a.out L_b.out E_ab.out).mono ?_
    rintro e w21 ⟨v_z0, rfl, h_z0, hB⟩
    clear h_a
    replace HB := HB.below hB
    replace hg := hg.ext hB
    replace h_b := U.below (U.asUn h_b) hB
    replace h_low := U.below (U.asUn h_low) hB
    replace h_high := U.below (U.asUn h_high) hB
    clear hB
    go_wp2_with (fail)
    refine (by_B x hx _ _ _ _ _ lb2 hg h_low h_b L_low.out L_b.out E_lb2.out).mono ?_
    rintro e w22 ⟨v_z1, rfl, h_z1, hB⟩
    clear h_low
    replace HB := HB.below hB
    replace hg := hg.ext hB
    replace h_b := U.below (U.asUn h_b) hB
    replace h_high := U.below (U.asUn h_high) hB
    replace h_z0 := U.below (U.asUn h_z0) hB
    clear hB
    go_wp2_with (fail)
    refine (by_B x hx _ _ _ _ _ hb2 hg h_high h_b L_high.out L_b.out E_hb2.out).mono ?_
    rintro e w23 ⟨v_z2, rfl, h_z2, hB⟩
    clear h_high
    clear h_b
    replace HB := HB.below hB
    replace hg := hg.ext hB
    replace h_z0 := U.below (U.asUn h_z0) hB
    replace h_z1 := U.below (U.asUn h_z1) hB
    clear hB
    go_wp2_with (fail)
    refine (shl_B _ _ hb2 ((s32 : Nat) : Int) h_z2 (by omega) (by omega) (lenG L_hb2.out) sh (by rw [Int.toNat_natCast]; exact E_sh.out)).mono ?_
    rintro e w24 ⟨v_z3, rfl, h_z3, hB⟩
    clear h_z2
    replace HB := HB.below hB
    replace hg := hg.ext hB
    replace h_z0 := U.below (U.asUn h_z0) hB
    replace h_z1 := U.below (U.asUn h_z1) hB
    clear hB
    go_wp2_with (fail)
    refine (add_B _ _ _ _ _ h_z1 h_z3 (lenG L_lb2.out) (lenG L_sh.out) ab E_sum.out).mono ?_
    rintro e w25 ⟨v_z4, rfl, h_z4, hB⟩
    clear h_z1
    clear h_z3
    replace HB := HB.below hB
    replace hg := hg.ext hB
    replace h_z0 := U.below (U.asUn h_z0) hB
    clear hB
    go_wp2_with (fail)
    refine (same_N _ _ _ _ _ h_z0 h_z4 true (decide_eq_true rfl)).mono ?_
    rintro e w26 ⟨rfl, hB⟩
    clear h_z0
    clear h_z4
    replace HB := HB.below hB
    replace hg := hg.ext hB
    clear hB
    go_wp2
    go_ret
    exact ⟨rfl, HB⟩
end Go.Proofs.YtkmejhkdmnjbeaaDoor
/- Proved: the statement MulShifts: whatever two rows, shift and way: times a power of 2 a natural is shifted; the limbs of a product are the sums of those of its factors' parts, wherever one is cut. No condition. -/
namespace Go.Proofs.YtkmejhkdmnjbeaaDoor
open Go.ChangeShapes Go.WideShapes Go.ChangeAt Go.RowKit
set_option linter.unusedVariables false
set_option maxHeartbeats 2000000

set_option maxRecDepth 100000 in
theorem lifted_MulShifts (os : Os) (started : os.Started) (H : Type) (enc : TypeId × Value → H) :
    ReturnsInHanded {} Tryd.checked os 8 .any (fun w args => (Rows.mulShiftsSpec.pre enc Tryd.prog Tryd.f8 [] false w args ∧ laidMetH Tryd.prog laidT w) ∧ sizedMet enc Tryd.prog Tryd.f8 (OpenSpec.ofChange Rows.mulShiftsSpec) false w args)
      (Rows.mulShiftsSpec.post enc Tryd.prog Tryd.f8 false true false false) := by
  refine returnsInHanded_of_change_and (C := Tryd.checked) (X := fun w _ => laidMetH Tryd.prog laidT w) (fun _ _ _ hh h => h.of_heap hh) own started (by kernel_rfl) Tryd.func8
    (ChangeSpec.witness_shaped (enc := enc) (C := Tryd.checked) (os := os) (X := fun w _ => laidMetH Tryd.prog laidT w) false (World.doorLaid Tryd.prog 400 os) #[.agg #[.slice none 0 0, .slice none 0 0], .int .u16 0, .int .u8 0] 8 rfl (World.shaped_of_RefB (by kernel_rfl) (by kernel_rfl)) (by kernel_rfl) (by kernel_rfl) (by kernel_rfl) (door_met os _)) ?_
  intro W base args ds gs before hval0 hW _ _ hL _
  have hval : ∀ (j : Nat) t v, Tryd.f8.params[j]? = some t → args[j]? = some v → Value.okWide Tryd.prog W .any base t v := hval0
  have hW' := hW
  obtain ⟨p, q, hA0, hV, rfl, hfz, hnd⟩ := hW
  have hlt : ∀ x ∈ p ++ q, x.block < W.heap.size := fun x hx => hW'.lt x hx
  have hA : DataW.TrodAll enc Tryd.prog W 0 (fun _ => true) true Tryd.f8.params.toList args.toList ds p := hA0
  rw [Tryd.params8] at hA hval
  clear hA0 hval0
  obtain ⟨v0, vs0, d0, ds0, p0, q0, hargs0, rfl, rfl, h0, r0⟩ := trodAll_cons hA
  obtain ⟨v1, vs1, d1, ds1, p1, q1, hargs1, rfl, rfl, h1, r1⟩ := trodAll_cons r0
  obtain ⟨v2, vs2, d2, ds2, p2, q2, hargs2, rfl, rfl, h2, r2⟩ := trodAll_cons r1
  obtain ⟨hn1, rfl, rfl⟩ := trodAll_nil r2
  subst hn1
  subst hargs2
  subst hargs1
  obtain rfl : args = #[v0, v1, v2] := by cases args; simp_all
  obtain ⟨rfl, rfl⟩ := trodVars_none hV
  obtain ⟨ra0, rb0, xa0, xb0, hv0, ua0, ub0⟩ := open_two (hval 0 34 v0 rfl rfl) h0 (fun x hx => hlt x (by simp [hx]))
  subst hv0
  obtain ⟨z1, rfl, rfl, rfl, hz1⟩ := open_int Tryd.underlying42 (hval 1 42 v1 rfl rfl) h1
  have hb1 := bounds_u16 hz1
  obtain ⟨n1, rfl⟩ := Int.eq_ofNat_of_zero_le (show 0 ≤ z1 by omega)
  obtain ⟨z2, rfl, rfl, rfl, hz2⟩ := open_int Tryd.underlying5 (hval 2 5 v2 rfl rfl) h2
  have hb2 := bounds_u8 hz2
  obtain ⟨n2, rfl⟩ := Int.eq_ofNat_of_zero_le (show 0 ≤ z2 by omega)
  refine (MulShifts_walk W (gl_of_laid hL) _ _ ua0 _ _ ub0 n1 (by omega) n2 (by omega)).mono fun e W' ⟨he, hB⟩ => ?_
  subst he
  exact ⟨_, rfl, law_post hW' rfl (by rw [Tryd.params8]; decide +kernel) rfl rfl rfl rfl hB⟩

theorem mulShifts_said : Rows.MulShiftsSaid :=
  OpenClaim.holds_of_wide 8 Tryd.f8 rfl rfl rfl rfl rfl rfl rfl ⟨rfl, rfl, rfl, rfl, rfl⟩ rfl rfl rfl rfl rfl (by kernel_rfl) Tryd.func8 (by kernel_rfl)
    (of_decide_eq_true (by kernel_rfl)) (by unfold Func.isWrapper; first | (rw [if_pos (by decide +kernel)]; kernel_rfl) | (rw [if_neg (by decide +kernel)]; exact ⟨rfl, rfl⟩))
    (fun os started H enc _ => lifted_MulShifts os started H enc)
/-- The statement: the card, tied. -/
theorem mulShifts_holds : Rows.MulShiftsCardSaid :=
  Claim7.holds_tied_plain_at .later [] [.wider] true Rows.mulShiftsCard.stood.harness false
    mulShifts_said (fun _ h => by cases h) (by kernel_rfl) (fun _ h => by cases h) mulShifts_row_tie rfl ⟨rfl, rfl⟩ (by kernel_rfl) rfl
    (fun f fn hf hfn => by
      obtain rfl : f = 8 := Option.some.inj ((show Tryd.prog.funcNamed "ziggurat/zigguratlaw03.MulShifts" = some 8 by kernel_rfl).symm.trans hf) |>.symm
      obtain rfl : fn = Tryd.f8 := (Option.some.inj (Tryd.func8.symm.trans hfn)).symm
      exact ⟨by kernel_rfl, fun j t ht => by
        rw [Tryd.params8] at ht
        have hm : t ∈ [34, 42, 5] := by simpa using Array.mem_of_getElem? ht
        have hall : ([34, 42, 5].all fun u => !Tryd.prog.wantsStandIn u) = true := by kernel_rfl
        exact (show Tryd.prog.wantsStandIn t = false by simpa using List.all_eq_true.1 hall t hm)⟩)
    (by kernel_rfl)
end Go.Proofs.YtkmejhkdmnjbeaaDoor
