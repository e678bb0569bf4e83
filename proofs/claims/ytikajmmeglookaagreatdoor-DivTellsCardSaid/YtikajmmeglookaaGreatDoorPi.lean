/- Live questions, whose answers are fixed. -/
import Derived.Test.YtikajmmeglookaaGreatDoorPh
import Derived.Laws.IdiomArrays
import Derived.WideKeyPair
import Derived.WideKeyArr2

namespace Go.Proofs.YtikajmmeglookaaGreatDoor
open Go.RowKit
set_option linter.unusedVariables false
set_option maxHeartbeats 400000

theorem Un_lit1 (w : World) (N : Nat) (hN : w.heap.size = N) (x : Nat) (h0 : x ≠ 0) (h : x < 4294967296) : Un (w.alloc (.cells #[.int .u32 (x : Nat)] 23)) (.slice (some ⟨N, 0, none⟩) 1 1) x := by
  subst hN
  have := U_lit w [x] (by simpa using h) (by simp)
  rw [Un, limbs_small x h0 h]
  exact this
theorem limbs_two (x y : Nat) (h0 : y ≠ 0) (hx : x < 4294967296) (hy : y < 4294967296) (n : Nat) (hn : x + 4294967296 * y = n) : limbs n = [x, y] := by
  rw [limbs_pos (by omega), show n % 4294967296 = x by omega, show n / 4294967296 = y by omega, limbs_small y h0 hy]
theorem Un_lit2 (w : World) (N : Nat) (hN : w.heap.size = N) (x y : Nat) (h0 : y ≠ 0) (hx : x < 4294967296) (hy : y < 4294967296) (n : Nat) (hn : x + 4294967296 * y = n) : Un (w.alloc (.cells #[.int .u32 (x : Nat), .int .u32 (y : Nat)] 23)) (.slice (some ⟨N, 0, none⟩) 2 2) n := by
  subst hN
  have := U_lit w [x, y] (by simp; exact ⟨hx, hy⟩) (by simp)
  rw [Un, limbs_two x y h0 hx hy n hn]
  exact this
theorem len1 {x : Nat} (h : x < 4294967296) : (limbs x).length ≤ 398 := Nat.le_trans (len_of (k := 1) (by unfold LB; omega)) (by decide)
theorem carry_B (w : World) (v : Value) (cs : List Nat) (hu : U3 w v cs) (hcs : ∀ x ∈ cs, x < 79228162514264337593543950336) (hl : cs.length ≤ 100000) (k : Nat) (hk : cval cs = k) :
    Calls Tryz.prog 81 #[v] w fun e w' => ∃ u, e = .returned u ∧ Un w' u k ∧ Ext w w' := by
  refine (carry_calls w v cs hu hcs hl).mono ?_
  rw [hk]
  rintro e w' ⟨⟨u, h1, h2⟩, h3⟩
  exact ⟨u, h1, h2, h3⟩

end Go.Proofs.YtikajmmeglookaaGreatDoor
/- Division by school, and whatever goes to it. -/
namespace Go.Proofs.YtikajmmeglookaaGreatDoor
open Go.RowKit
set_option linter.unusedVariables false
set_option maxHeartbeats 400000

theorem limbs_one {b : Nat} (h : (limbs b).length = 1) : b < 4294967296 ∧ b ≠ 0 ∧ lb (limbs b) 0 = b := by
  have h1 := lt_of_len_le (show (limbs b).length ≤ 1 by omega)
  rw [Nat.pow_one] at h1
  have h0 : b ≠ 0 := by
    intro e; rw [e, limbs_zero] at h; simp at h
  refine ⟨h1, h0, ?_⟩
  rw [lb_limbs, Nat.pow_zero, Nat.div_one, Nat.mod_eq_of_lt h1]
theorem limbs_nz {b : Nat} (h : b ≠ 0) : 0 < (limbs b).length := by
  rcases Nat.eq_zero_or_pos (limbs b).length with e | e
  · exact absurd (limbs_eq_nil.1 (List.length_eq_zero_iff.1 e)) h
  · exact e

/-- A division's answer. -/
def Dv (w w' : World) (e : Ending) (q r : Nat) : Prop := (∃ x y, e = .returned (.tuple #[x, y, .int .i64 0]) ∧ Un w' x q ∧ Un w' y r) ∧ Ext w w'
def Dz (w w' : World) (e : Ending) : Prop := e = .returned (.tuple #[.slice none 0 0, .slice none 0 0, .int .i64 3]) ∧ Ext w w'

set_option maxRecDepth 100000 in
set_option maxHeartbeats 8000000 in
theorem school_D (w : World) (va vb : Value) (a b q r : Nat) (ha : Un w va a) (hb : Un w vb b) (hla : (limbs a).length ≤ 1000) (hlb : (limbs b).length ≤ 1000) (h0 : b ≠ 0) (hq : a / b = q) (hr : a % b = r) :
    Calls Tryz.prog 35 #[va, vb] w fun e w' => Dv w w' e q r := by
  unfold Dv
  have hnz := limbs_nz h0
  obtain ⟨Ab, cb, rfl, hcb⟩ := U.shape (U.asUn hb)
  obtain ⟨L, hL⟩ : ∃ L, (limbs b).length = L := ⟨_, rfl⟩
  obtain ⟨k, hk⟩ : ∃ k, cmpI (a : Int) (b : Int) = k := ⟨_, rfl⟩
  have hCmp := Lib.hid (cmp_B w va _ a b ha hb k hk)
  have hb2 := hb
  rw [hL] at hnz hlb hb2 hCmp ⊢
  have hL0 : ((L : Int) == 0) = false := by rw [beq_eq_false_iff_ne]; omega
  have hL02 : ¬ L = 0 := by omega
  have hEw := Ext.refl w
  rcases Nat.lt_or_ge a b with hlt | hge
  · have hq0 : q = 0 := by rw [← hq]; exact Nat.div_eq_of_lt hlt
    have hr0 : r = a := by rw [← hr]; exact Nat.mod_eq_of_lt hlt
    have hk1 : k = -1 := by rw [← hk]; exact cmpI_lt (by omega)
    subst hq0 hr0 hk1
    clear hq hr hk hlt hb hb2 hL hcb hla hlb
    go_enter Tryz.func35, Tryz.ntmps35
    go_wp2_with (fail)
    refine hCmp.out.mono ?_
    rintro e w1 ⟨rfl, hB⟩
    replace ha := U.below (U.asUn ha) hB
    replace hEw := hEw.below hB
    have HF : Hid (∃ x y, Ending.returned (.tuple #[.slice none 0 0, va, .int .i64 0]) = .returned (.tuple #[x, y, .int .i64 0]) ∧ Un w1 x 0 ∧ Un w1 y r) := ⟨_, _, rfl, Un_nil _, ha⟩
    clear hB hCmp ha
    go_wp2
    go_ret3
    exact ⟨HF.out, hEw⟩
  · have hk1 : ¬ k < 0 := by
      rw [← hk]
      rcases Nat.lt_or_ge b a with h | h
      · rw [cmpI_gt (by omega)]; decide
      · rw [show a = b by omega, cmpI_eq]; decide
    have hk2 : decide (k < 0) = false := by rw [decide_eq_false_iff_not]; exact hk1
    by_cases h1 : L = 1
    · obtain ⟨b1, b2, b3⟩ := limbs_one (hL.trans h1)
      have hS := Lib.hid (fun W (h : Un W va a) => small_calls W va a b h (by omega) b1 h0 q r hq hr)
      have hL1 : ((L : Int) == 1) = true := by rw [beq_iff_eq]; omega
      obtain ⟨ad, rfl, hbk, hcell⟩ : ∃ ad, Ab = some ad ∧ ad.block < w.heap.size ∧ w.cell? ad = some (.int .u32 (b : Nat)) := by
        obtain ⟨A', c', hv, _, _, hr'⟩ := hb
        obtain ⟨ad, e1, e2, e3⟩ := hr' (by omega)
        injection hv with hv1
        have := e3 0 (by omega)
        rw [addr_add_zero, b3] at this
        exact ⟨ad, by rw [hv1, e1], e2, this⟩
      have hrb : r < 4294967296 := by rw [← hr]; exact Nat.lt_trans (Nat.mod_lt _ (by omega)) b1
      have HRB := Lib.hid hrb
      subst h1
      clear hq hr hk hge b1 b2 b3 hb hb2 hL hla hlb h0 hrb hL02
      go_enter Tryz.func35, Tryz.ntmps35
      go_wp2_with (fail)
      refine hCmp.out.mono ?_
      rintro e w1 ⟨rfl, hB⟩
      replace ha := U.below (U.asUn ha) hB
      replace hEw := hEw.below hB
      have hcell1 := (hB.cell (p := ad) hbk).trans hcell
      clear hB hCmp hcell
      go_wp2_with (fail)
      refine (hS.out _ ha).mono ?_
      rintro e w2 ⟨⟨x, rfl, hx⟩, hB⟩
      replace hEw := hEw.below hB
      have HU : Hid (U (w2.alloc (.cells #[.int .u32 (r : Nat)] 23)) (.slice (some ⟨w2.heap.size, 0, none⟩) 1 1) [r]) := U_lit w2 [r] (by simpa using HRB.out) (by simp)
      have HMK : Hid (∀ W v, U W v [r] → Calls Tryz.prog 47 #[v] W fun e w' => ∃ u, e = .returned u ∧ Un w' u r ∧ Ext W w') := fun W v h => make_B W v [r] h r (by simp [val])
      clear hB hS hcell1 ha
      go_wp2_with (fail)
      refine (HMK.out _ _ HU.out).mono ?_
      rintro e w3 ⟨y, rfl, hy, hB⟩
      have HF : Hid (∃ x' y', Ending.returned (.tuple #[x, y, .int .i64 0]) = .returned (.tuple #[x', y', .int .i64 0]) ∧ Un w3 x' q ∧ Un w3 y' r) := ⟨_, _, rfl, U.below (U.alloc (U.asUn hx) _) hB, hy⟩
      have hEF := (hEw.alloc _).below hB
      clear hx hy hB HU HMK hEw
      go_wp2
      go_ret3
      exact ⟨HF.out, hEF⟩
    · have hL1 : ((L : Int) == 1) = false := by rw [beq_eq_false_iff_ne]; omega
      have hW := Lib.hid (fun W (h : Un W va a) (h' : Un W (.slice Ab L cb) b) => words_calls W va _ a b q r h h' hla (by omega) (by omega) hq hr)
      clear hq hr hk hge hb hL hla hlb h0
      go_enter Tryz.func35, Tryz.ntmps35
      go_wp2_with (fail)
      refine hCmp.out.mono ?_
      rintro e w1 ⟨rfl, hB⟩
      replace ha := U.below (U.asUn ha) hB
      replace hb2 := U.below (U.asUn hb2) hB
      replace hEw := hEw.below hB
      clear hB hCmp
      go_wp2_with (fail)
      refine (hW.out _ ha hb2).mono ?_
      rintro e w2 ⟨⟨x, y, rfl, hx, hy⟩, hB⟩
      replace hEw := hEw.below hB
      have HF : Hid (∃ x' y', Ending.returned (.tuple #[x, y, .int .i64 0]) = .returned (.tuple #[x', y', .int .i64 0]) ∧ Un w2 x' q ∧ Un w2 y' r) := ⟨_, _, rfl, hx, hy⟩
      clear hx hy hB hW ha hb2
      go_wp2
      go_ret3
      exact ⟨HF.out, hEw⟩
theorem un_zero {w : World} {v : Value} (h : Un w v 0) : ∃ A c, v = .slice A 0 c := by
  obtain ⟨A, c, rfl, hc⟩ := U.shape (U.asUn h)
  exact ⟨A, c, by rw [limbs_zero]; rfl⟩
theorem school_Z (w : World) (va vb : Value) (hb : Un w vb 0) :
    Calls Tryz.prog 35 #[va, vb] w fun e w' => Dz w w' e := by
  unfold Dz
  obtain ⟨Ab, cb, rfl⟩ := un_zero hb
  have hEw := Ext.refl w
  clear hb
  go_enter Tryz.func35, Tryz.ntmps35
  go_wp2
  go_ret3
  exact ⟨rfl, hEw⟩

set_option maxRecDepth 100000 in
set_option maxHeartbeats 8000000 in
theorem divmod_D (w : World) (va vb : Value) (a b q r : Nat) (ha : Un w va a) (hb : Un w vb b) (hla : (limbs a).length ≤ 1000) (hlb : (limbs b).length ≤ 1000) (h0 : b ≠ 0) (hq : a / b = q) (hr : a % b = r) :
    Calls Tryz.prog 16 #[va, vb] w fun e w' => Dv w w' e q r := by
  have hS := Lib.hid (school_D w va vb a b q r ha hb hla hlb h0 hq hr)
  unfold Dv at *
  obtain ⟨Aa, ca, rfl, hca⟩ := U.shape (U.asUn ha)
  obtain ⟨Ab, cb, rfl, hcb⟩ := U.shape (U.asUn hb)
  clear ha hb hq hr h0
  generalize (limbs a).length = la at *
  generalize (limbs b).length = lb_ at *
  obtain ⟨d, hd⟩ : ∃ d : Int, (la : Int) - (lb_ : Int) = d := ⟨_, rfl⟩
  obtain ⟨mn, hmn⟩ : ∃ mn : Int, (if d < (lb_ : Int) then d else (lb_ : Int)) = mn := ⟨_, rfl⟩
  have hm1 : decide ((1600 : Int) ≤ mn) = false := by rw [decide_eq_false_iff_not]; split at hmn <;> omega
  have hm2 : ¬ (1600 : Int) ≤ mn := by split at hmn <;> omega
  have HA := Lib.hid hca
  clear hca hcb
  go_enter Tryz.func16, Tryz.ntmps16
  go_wp2_with (fail)
  refine hS.out.mono ?_
  rintro e w1 ⟨⟨x, y, rfl, hx, hy⟩, hB⟩
  have HF : Hid (∃ x' y', Ending.returned (.tuple #[x, y, .int .i64 0]) = .returned (.tuple #[x', y', .int .i64 0]) ∧ Un w1 x' q ∧ Un w1 y' r) := ⟨_, _, rfl, hx, hy⟩
  clear hx hy hS
  go_wp2
  go_ret3
  exact ⟨HF.out, hB⟩
theorem divmod_Z (w : World) (va vb : Value) (a : Nat) (ha : Un w va a) (hb : Un w vb 0) (hla : (limbs a).length ≤ 1000) :
    Calls Tryz.prog 16 #[va, vb] w fun e w' => Dz w w' e := by
  have hS := Lib.hid (school_Z w va vb hb)
  unfold Dz at *
  obtain ⟨Aa, ca, rfl, hca⟩ := U.shape (U.asUn ha)
  obtain ⟨Ab, cb, rfl⟩ := un_zero hb
  clear ha hb
  generalize (limbs a).length = la at *
  have hm1 : (if (la : Int) < 0 then (la : Int) else 0) = 0 := if_neg (by omega)
  go_enter Tryz.func16, Tryz.ntmps16
  go_wp2_with (fail)
  refine hS.out.mono ?_
  rintro e w1 ⟨rfl, hB⟩
  clear hS
  go_wp2
  go_ret3
  exact ⟨rfl, hB⟩

set_option maxRecDepth 100000 in
set_option maxHeartbeats 8000000 in
theorem ziegler_D (w : World) (va vb : Value) (a b q r : Nat) (ha : Un w va a) (hb : Un w vb b) (hla : (limbs a).length ≤ 1000) (hlb : (limbs b).length ≤ 700) (h0 : b ≠ 0) (hq : a / b = q) (hr : a % b = r) :
    Calls Tryz.prog 18 #[va, vb] w fun e w' => Dv w w' e q r := by
  have hS := Lib.hid (school_D w va vb a b q r ha hb hla (by omega) h0 hq hr)
  unfold Dv at *
  obtain ⟨Ab, cb, rfl, hcb⟩ := U.shape (U.asUn hb)
  clear ha hb hq hr h0
  generalize (limbs b).length = lb_ at *
  have hm1 : decide ((lb_ : Int) < 800) = true := by rw [decide_eq_true_iff]; omega
  clear hcb
  go_enter Tryz.func18, Tryz.ntmps18
  go_wp2_with (fail)
  refine hS.out.mono ?_
  rintro e w1 ⟨⟨x, y, rfl, hx, hy⟩, hB⟩
  have HF : Hid (∃ x' y', Ending.returned (.tuple #[x, y, .int .i64 0]) = .returned (.tuple #[x', y', .int .i64 0]) ∧ Un w1 x' q ∧ Un w1 y' r) := ⟨_, _, rfl, hx, hy⟩
  clear hx hy hS
  go_wp2
  go_ret3
  exact ⟨HF.out, hB⟩
theorem ziegler_Z (w : World) (va vb : Value) (hb : Un w vb 0) :
    Calls Tryz.prog 18 #[va, vb] w fun e w' => Dz w w' e := by
  have hS := Lib.hid (school_Z w va vb hb)
  unfold Dz at *
  obtain ⟨Ab, cb, rfl⟩ := un_zero hb
  clear hb
  go_enter Tryz.func18, Tryz.ntmps18
  go_wp2_with (fail)
  refine hS.out.mono ?_
  rintro e w1 ⟨rfl, hB⟩
  clear hS
  go_wp2
  go_ret3
  exact ⟨rfl, hB⟩
theorem mulN (w : World) (va vb : Value) (n m k : Nat) (ha : Un w va n) (hb : Un w vb m) (hn : (limbs n).length ≤ 398) (hm : (limbs m).length ≤ 398) (hk : n * m = k) :
    Calls Tryz.prog 39 #[va, vb] w fun e w' => ∃ u, e = .returned u ∧ Un w' u k ∧ Ext w w' := by
  refine (mul_calls' w va vb _ _ ha hb (by omega) (by omega) (by omega)).mono ?_
  rw [val_limbs, val_limbs, hk]
  rintro e w' ⟨⟨u, h1, h2⟩, h3⟩
  exact ⟨u, h1, h2, h3⟩
end Go.Proofs.YtikajmmeglookaaGreatDoor
/- How near a reciprocal by steps comes, and the quotient by it. -/
namespace Go.Proofs.YtikajmmeglookaaGreatDoor
open Go.RowKit
set_option linter.unusedVariables false
set_option maxHeartbeats 400000

theorem bl_cut2 (b O b2 R Y c : Nat) (hO : 0 < O) (hb : b / O + 1 = b2) (hOb : O ≤ b) (hRO : R * O ≤ b) (h : R * b2 ≤ Y) (hc : Y ≤ R * b2 + c * b2) : R * b ≤ Y * O ∧ Y * O ≤ R * b + (2 * c + 1) * b := by
  refine ⟨bl_cut b O b2 R Y hO hb h, ?_⟩
  have h1 : b2 * O ≤ b + O := by
    rw [← hb, Nat.add_mul, Nat.one_mul]
    have := Nat.div_mul_le_self b O
    omega
  have h2 : Y * O ≤ (R + c) * (b2 * O) := by
    have := Nat.mul_le_mul_right O hc
    rw [← Nat.add_mul, Nat.mul_assoc] at this
    exact this
  have h3 : (R + c) * (b2 * O) ≤ (R + c) * (b + O) := Nat.mul_le_mul_left _ h1
  have h4 : (R + c) * (b + O) = R * b + R * O + (c * b + c * O) := by rw [Nat.add_mul, Nat.mul_add, Nat.mul_add]
  have h5 : c * O ≤ c * b := Nat.mul_le_mul_left _ hOb
  have h6 : (2 * c + 1) * b = c * b + c * b + b := by rw [Nat.add_mul, Nat.one_mul, Nat.mul_assoc, Nat.two_mul]
  omega

/-- Of the divisor the first bits: what is so of them is so of it. -/
structure CutP (e b size k b' size' : Nat) : Prop where
  lo : 2 ^ (size' - 1) ≤ b'
  hi : b' ≤ 2 ^ (size' + e + 1)
  one : 1 ≤ size'
  le : size' ≤ size
  lek : size' ≤ k + 4
  back : ∀ R c, R * b' ≤ 2 ^ (size' + k) → 2 ^ (size' + k) ≤ R * b' + c * b' → R * b ≤ 2 ^ (size + k) ∧ 2 ^ (size + k) ≤ R * b + (2 * c + 1) * b
theorem cutp_same (e b size k : Nat) (h1 : 2 ^ (size - 1) ≤ b) (h2 : b ≤ 2 ^ (size + e)) (h3 : 1 ≤ size) (h4 : size ≤ k + 4) : CutP e b size k b size := by
  refine ⟨h1, Nat.le_trans h2 (Nat.pow_le_pow_right (by decide) (by omega)), h3, Nat.le_refl _, h4, fun R c a1 a2 => ⟨a1, Nat.le_trans a2 ?_⟩⟩
  have := Nat.mul_le_mul_right b (show c ≤ 2 * c + 1 by omega)
  omega
theorem cutp_cut (e b size k ov b2 : Nat) (h1 : 2 ^ (size - 1) ≤ b) (h2 : b ≤ 2 ^ (size + e)) (h3 : size = k + 4 + ov) (hb : b / 2 ^ ov + 1 = b2) : CutP e b size k b2 (k + 4) := by
  have hO : 0 < 2 ^ ov := Nat.two_pow_pos _
  have e1 : 2 ^ (size - 1) = 2 ^ (k + 3) * 2 ^ ov := by rw [← Nat.pow_add]; congr 1; omega
  have e2 : 2 ^ (k + 3) ≤ b / 2 ^ ov := (Nat.le_div_iff_mul_le hO).2 (by rw [← e1]; exact h1)
  have e3 : b / 2 ^ ov ≤ 2 ^ (k + 4 + e) := by
    refine Nat.div_le_of_le_mul ?_
    rw [← Nat.pow_add, show ov + (k + 4 + e) = size + e by omega]; exact h2
  refine ⟨by show 2 ^ (k + 3) ≤ b2; omega, ?_, by omega, by omega, Nat.le_refl _, fun R c a1 a2 => ?_⟩
  · have : 2 ^ (k + 4 + e + 1) = 2 ^ (k + 4 + e) * 2 := Nat.pow_succ ..
    have := Nat.two_pow_pos (k + 4 + e)
    omega
  · have f1 : 2 ^ (k + 3) ≤ b2 := by omega
    have f2 : R * 2 ^ (k + 3) ≤ 2 ^ (k + 1) * 2 ^ (k + 3) := by
      rw [← Nat.pow_add, show k + 1 + (k + 3) = k + 4 + k by omega]
      exact Nat.le_trans (Nat.mul_le_mul_left R f1) a1
    have f3 : R ≤ 2 ^ (k + 1) := Nat.le_of_mul_le_mul_right f2 (Nat.two_pow_pos _)
    have f4 : R * 2 ^ ov ≤ b := by
      refine Nat.le_trans (Nat.mul_le_mul_right _ f3) (Nat.le_trans ?_ h1)
      rw [← Nat.pow_add]; exact Nat.pow_le_pow_right (by decide) (by omega)
    have f5 : 2 ^ ov ≤ b := Nat.le_trans (Nat.pow_le_pow_right (by decide) (by omega)) h1
    have f6 := bl_cut2 b (2 ^ ov) b2 R (2 ^ (k + 4 + k)) c hO hb f5 f4 a1 a2
    rw [← Nat.pow_add, show k + 4 + k + ov = size + k by omega] at f6
    exact f6
theorem recip_le (e size k b R : Nat) (h1 : 2 ^ (size - 1) ≤ b) (h3 : 1 ≤ size) (h : R * b ≤ 2 ^ (size + k)) : R ≤ 2 ^ (k + 1) := by
  have f2 : R * 2 ^ (size - 1) ≤ 2 ^ (k + 1) * 2 ^ (size - 1) := by
    rw [← Nat.pow_add, show k + 1 + (size - 1) = size + k by omega]
    exact Nat.le_trans (Nat.mul_le_mul_left R h1) h
  exact Nat.le_of_mul_le_mul_right f2 (Nat.two_pow_pos _)

/-- A step: its answer comes as near. -/
theorem bl_step2 (b r S W X Z over : Nat) (hS : 0 < S) (hX : S * W = X) (hZ : Z * S = X * X) (hrb : r * b ≤ X) (hlow : X ≤ r * b + 3 * b) (hbS : 9 * b ≤ S) (ho : r * r * b / S + 1 = over) (hov : over ≤ 2 * (r * W)) :
    Z ≤ (2 * (r * W) - over) * b + 2 * b := by
  obtain ⟨R, hR⟩ : ∃ R, 2 * (r * W) - over = R := ⟨_, rfl⟩
  rw [hR]
  have h5 : R + over = 2 * (r * W) := by omega
  have h6 : R * S + over * S = 2 * (r * X) := by
    rw [← Nat.add_mul, h5, ← hX, Nat.mul_comm S W, Nat.mul_assoc, Nat.mul_assoc]
  have h4 : over * S ≤ r * r * b + S := by
    rw [← ho, Nat.add_mul, Nat.one_mul]
    have := Nat.div_mul_le_self (r * r * b) S
    omega
  have h7 : 2 * (r * X) ≤ R * S + r * r * b + S := by omega
  have h8 := Nat.mul_le_mul_right b h7
  have h9 : (R * S + r * r * b + S) * b = R * b * S + (r * b) * (r * b) + S * b := by
    rw [Nat.add_mul, Nat.add_mul, Nat.mul_right_comm R S b, Nat.mul_assoc r r b, Nat.mul_comm r (r * b), Nat.mul_assoc (r * b) r b]
  have h10 : 2 * (r * X) * b = 2 * (r * b * X) := by rw [Nat.mul_assoc, Nat.mul_right_comm r X b]
  rw [h9, h10] at h8
  obtain ⟨d, hd⟩ : ∃ d, X = r * b + d := ⟨X - r * b, by omega⟩
  have hd3 : d ≤ 3 * b := by omega
  have h11 : d * d ≤ S * b := by
    have a1 : d * d ≤ (3 * b) * (3 * b) := Nat.mul_le_mul hd3 hd3
    have a2 : (3 * b) * (3 * b) = 9 * b * b := by rw [Nat.mul_mul_mul_comm, Nat.mul_assoc 9 b b]
    have a3 := Nat.mul_le_mul_right b hbS
    omega
  have h12 : X * X + (r * b) * (r * b) = 2 * (r * b * X) + d * d := by
    rw [hd]
    generalize r * b = y
    have b1 : (y + d) * (y + d) = y * y + y * d + (y * d + d * d) := by rw [Nat.add_mul, Nat.mul_add, Nat.mul_add, Nat.mul_comm d y]
    have b2 : y * (y + d) = y * y + y * d := Nat.mul_add _ _ _
    omega
  have h13 : Z * S ≤ (R * b + 2 * b) * S := by
    rw [hZ, Nat.add_mul, Nat.mul_assoc 2 b S, Nat.mul_comm b S]
    omega
  exact Nat.le_of_mul_le_mul_right h13 hS

/-- The quotient by a reciprocal is near. -/
theorem nw_ge (a b S1 K1 R q c : Nat) (hS : 0 < S1) (hK : 0 < K1) (hSb : S1 ≤ b) (ha : a / S1 < K1) (hR : S1 * K1 ≤ R * b + c * b) (hq : a / S1 * R / K1 = q) : a < q * b + (c + 2) * b := by
  have h1 : a / S1 * R < (q + 1) * K1 := by
    rw [← hq, Nat.mul_comm _ K1]; exact Nat.lt_mul_div_succ _ hK
  have h2 : a / S1 * (S1 * K1) ≤ a / S1 * (R * b + c * b) := Nat.mul_le_mul_left _ hR
  have h3 : a / S1 * (R * b + c * b) = a / S1 * R * b + a / S1 * (c * b) := by rw [Nat.mul_add, Nat.mul_assoc]
  have h4 : a / S1 * R * b ≤ (q + 1) * K1 * b := Nat.mul_le_mul_right b (Nat.le_of_lt h1)
  have h5 : a / S1 * (c * b) ≤ K1 * (c * b) := Nat.mul_le_mul_right _ (Nat.le_of_lt ha)
  have h6 : a / S1 * S1 * K1 ≤ ((q + 1) * b + c * b) * K1 := by
    rw [Nat.add_mul, Nat.mul_right_comm (q + 1) b K1, Nat.mul_comm (c * b) K1, Nat.mul_assoc (a / S1) S1 K1]
    omega
  have h7 := Nat.le_of_mul_le_mul_right h6 hK
  have h8 : a < a / S1 * S1 + S1 := by
    have := Nat.lt_mul_div_succ a hS
    rw [Nat.mul_add, Nat.mul_one, Nat.mul_comm] at this
    exact this
  rw [Nat.add_mul, Nat.one_mul] at h7
  rw [Nat.add_mul c 2]
  omega
end Go.Proofs.YtikajmmeglookaaGreatDoor
/- Division by a reciprocal. -/
namespace Go.Proofs.YtikajmmeglookaaGreatDoor
open Go.RowKit
set_option linter.unusedVariables false
set_option maxHeartbeats 400000

theorem len_two {n c : Nat} (h : n < 2 ^ (32 * c)) : (limbs n).length ≤ c := len_le_of_lt (by rw [lb_two]; exact h)
theorem len_two_le {n m : Nat} (c : Nat) (h : n ≤ 2 ^ m) (hm : m < 32 * c) : (limbs n).length ≤ c := len_two (Nat.lt_of_le_of_lt h (Nat.pow_lt_pow_right (by decide) hm))
/-- What is left, and how often the divisor was taken. -/
theorem mend_math (a b q0 R more q r : Nat) (h : R + (q0 + more) * b = a) (hlt : a < q0 * b + 1152921504606846976 * b) (hb : 0 < b) (hq : a / b = q) (hr : a % b = r) : more < 1152921504606846976 ∧ (R < b → q0 + more = q ∧ R = r) := by
  refine ⟨?_, fun hR => ?_⟩
  · rw [Nat.add_mul] at h
    have : more * b < 1152921504606846976 * b := by omega
    exact Nat.lt_of_mul_lt_mul_right this
  · obtain ⟨h1, h2⟩ := dv_done b a (q0 + more) R (by omega) hR
    exact ⟨by rw [← h1, hq], by rw [← h2, hr]⟩

set_option maxRecDepth 100000 in
set_option maxHeartbeats 8000000 in
theorem mend_D (w : World) (va vb vq : Value) (a b q0 q r : Nat) (ha : Un w va a) (hb : Un w vb b) (hq0 : Un w vq q0) (hla : (limbs a).length ≤ 398) (hlb : (limbs b).length ≤ 398) (hlq : (limbs q0).length ≤ 398) (h0 : b ≠ 0)
    (hle : q0 * b ≤ a) (hlt : a < q0 * b + 1152921504606846976 * b) (hq : a / b = q) (hr : a % b = r) :
    Calls Tryz.prog 41 #[va, vb, vq] w fun e w' => (∃ x y, e = .returned (.tuple #[x, y]) ∧ Un w' x q ∧ Un w' y r) ∧ Ext w w' := by
  have hEw := Ext.refl w
  obtain ⟨p, hp⟩ : ∃ p, q0 * b = p := ⟨_, rfl⟩
  obtain ⟨R0, hR0⟩ : ∃ R0, a - p = R0 := ⟨_, rfl⟩
  have HMul := Lib.hid (mulN w vq vb q0 b p hq0 hb hlq hlb hp)
  have HLs := Lib.hid (fun W u (h : Un W va a) (g : Un W u p) => less_B W va u a p R0 h g (by omega) (by omega) hR0)
  have HM := Lib.hid (fun R more h => mend_math a b q0 R more q r h hlt (by omega) hq hr)
  have HR0 : Hid (R0 + (q0 + 0) * b = a) := by show R0 + (q0 + 0) * b = a; rw [Nat.add_zero, hp]; omega
  have HLR : Hid (∀ R, R ≤ a → (limbs R).length ≤ 398) := fun R h => Nat.le_trans (len_mono h) hla
  have HLQ : Hid ((limbs q0).length ≤ 398) := hlq
  have HB0 := Lib.hid (show 0 < b by omega)
  clear hla hlb hlq h0 hle hlt hq hr hp hR0
  go_enter Tryz.func41, Tryz.ntmps41
  go_wp2_with (fail)
  refine HMul.out.mono ?_
  rintro e w1 ⟨vp, rfl, hvp, hB⟩
  replace ha := U.below (U.asUn ha) hB
  replace hb := U.below (U.asUn hb) hB
  replace hq0 := U.below (U.asUn hq0) hB
  replace hEw := hEw.below hB
  clear hB HMul
  go_wp2_with (fail)
  refine (HLs.out _ _ ha hvp).mono ?_
  rintro e w2 ⟨vr, rfl, hvr, hB⟩
  replace hb := U.below (U.asUn hb) hB
  replace hq0 := U.below (U.asUn hq0) hB
  replace hEw := hEw.below hB
  clear hB HLs ha hvp
  go_wp2
  go_loopw [8, 9] (fun s8 s9 wr => ∃ (R more : Nat), Un wr s8 R ∧ s9 = .int .u64 (more : Nat) ∧ Hid (R + (q0 + more) * b = a) ∧ Un wr vb b ∧ Un wr vq q0 ∧ Ext w wr) (fun _ s9 _ => 1152921504606846976 - (intOf s9).toNat)
  case atStart => exact ⟨R0, 0, hvr, rfl, HR0, hb, hq0, hEw⟩
  case round =>
    clear hvr HR0 hb hq0 hEw
    obtain ⟨R, more, hR, rfl, HO, hb, hq0, hE⟩ := hrel
    obtain ⟨hm, hdn⟩ := HM.out R more HO.out
    have hRa : R ≤ a := by have := HO.out; omega
    have hlR := HLR.out R hRa
    obtain ⟨k, hk⟩ : ∃ k, cmpI (R : Int) (b : Int) = k := ⟨_, rfl⟩
    have hCmp := Lib.hid (cmp_B wr _ vb R b hR hb k hk)
    rcases Nat.lt_or_ge R b with hlt | hge
    · obtain ⟨hqe, rfl⟩ := hdn hlt
      obtain rfl : k = -1 := by rw [← hk]; exact cmpI_lt (by omega)
      have HOf := Lib.hid (fun W => of_B W (more : Int) (Int.natCast_nonneg _) (by omega) more (Int.toNat_natCast _))
      have HAd := Lib.hid (fun W u (h : Un W vq q0) (g : Un W u more) => add_B W vq u q0 more h g (by have := HLQ.out; omega) (by have := len_le_of_lt (n := more) (k := 2) (by omega); omega) q hqe)
      clear hm hdn hRa hlR hk hlt hqe HO hb
      go_wp2_with (fail)
      refine hCmp.out.mono ?_
      rintro e w3 ⟨rfl, hB⟩
      replace hR := U.below (U.asUn hR) hB
      replace hq0 := U.below (U.asUn hq0) hB
      replace hE := hE.below hB
      clear hB hCmp
      go_wp2_with (fail)
      refine (HOf.out _).mono ?_
      rintro e w4 ⟨vo, rfl, hvo, hB⟩
      replace hR := U.below (U.asUn hR) hB
      replace hq0 := U.below (U.asUn hq0) hB
      replace hE := hE.below hB
      clear hB HOf
      go_wp2_with (fail)
      refine (HAd.out _ _ hq0 hvo).mono ?_
      rintro e w5 ⟨vs, rfl, hvs, hB⟩
      replace hR := U.below (U.asUn hR) hB
      replace hE := hE.below hB
      have HF : Hid (∃ x y, Ending.returned (.tuple #[vs, u8]) = .returned (.tuple #[x, y]) ∧ Un w5 x q ∧ Un w5 y R) := ⟨_, _, rfl, hvs, hR⟩
      clear hB HAd hq0 hvo hvs hR
      go_wp2
      go_ret2
      exact ⟨HF.out, hE⟩
    · have hk1 : 0 ≤ k := by
        rw [← hk]
        rcases Nat.lt_or_ge b R with h | h
        · rw [cmpI_gt (by omega)]; decide
        · rw [show R = b by omega, cmpI_eq]; decide
      have hk2 : decide (0 ≤ k) = true := by rw [decide_eq_true_iff]; exact hk1
      obtain ⟨R2, hR2⟩ : ∃ R2, R - b = R2 := ⟨_, rfl⟩
      have HLs := Lib.hid (fun W (h : Un W u8 R) (g : Un W vb b) => less_B W u8 vb R b R2 h g (by omega) hge hR2)
      have HST : Hid (R2 + (q0 + (more + 1)) * b = a) := by
        show R2 + (q0 + (more + 1)) * b = a
        rw [← Nat.add_assoc, Nat.add_mul (q0 + more), Nat.one_mul, ← HO.out]; omega
      have f1 : (more : Int) + 1 = ((more + 1 : Nat) : Int) := by omega
      have f2 := u64_fit (show more + 1 < 18446744073709551616 by omega)
      have f3 := u64_mod (show more + 1 < 18446744073709551616 by omega)
      have HMO := Lib.hid hm
      obtain ⟨m2, hm2⟩ : ∃ m2, more + 1 = m2 := ⟨_, rfl⟩
      have HM2 := Lib.hid hm2
      rw [hm2] at f1 f2 f3 HST
      clear hm hdn hRa hlR hk hge hR2 HO hm2
      go_wp2_with (fail)
      refine hCmp.out.mono ?_
      rintro e w3 ⟨rfl, hB⟩
      replace hR := U.below (U.asUn hR) hB
      replace hb := U.below (U.asUn hb) hB
      replace hq0 := U.below (U.asUn hq0) hB
      replace hE := hE.below hB
      clear hB hCmp
      go_wp2_with (fail)
      refine (HLs.out _ hR hb).mono ?_
      rintro e w4 ⟨vr2, rfl, hvr2, hB⟩
      replace hb := U.below (U.asUn hb) hB
      replace hq0 := U.below (U.asUn hq0) hB
      replace hE := hE.below hB
      clear hB HLs hR
      go_wp2
      go_roundw
      case rel => exact ⟨R2, m2, hvr2, by first | rfl | go_num, HST, hb, hq0, hE⟩
      case measure => have := HMO.out; have := HM2.out; simp [intOf]; omega
end Go.Proofs.YtikajmmeglookaaGreatDoor
/- Reciprocals. -/
namespace Go.Proofs.YtikajmmeglookaaGreatDoor
open Go.RowKit
set_option linter.unusedVariables false
set_option maxHeartbeats 400000

theorem pow_lit (w : World) : Un (w.alloc (.cells #[.int .u32 1] 23)) (.slice (some ⟨w.heap.size, 0, none⟩) 1 1) 1 := Un_lit1 w _ rfl 1 (by decide) (by decide)
theorem one_mul_pow (k : Nat) : 1 * 2 ^ k = 2 ^ k := Nat.one_mul _

theorem len_1 : (limbs 1).length ≤ 1000000000 := Nat.le_trans (len1 (by decide)) (by decide)
/-- A reciprocal's answer, c units below at most. -/
def Rc (c : Nat) (w w' : World) (e : Ending) (b size k : Nat) : Prop := ∃ u R, e = .returned u ∧ Un w' u R ∧ (R * b ≤ 2 ^ (size + k) ∧ 2 ^ (size + k) ≤ R * b + c * b) ∧ Ext w w'

set_option maxRecDepth 100000 in
set_option maxHeartbeats 8000000 in
theorem below_S (w : World) (vb : Value) (b size k : Nat) (hb : Un w vb b) (h1 : 2 ^ (size - 1) ≤ b) (h2 : b ≤ 2 ^ (size + 1)) (h3 : 1 ≤ size) (h4 : size ≤ 4100) (hk : k < 2000) :
    Calls Tryz.prog 40 #[vb, .int .i64 (size : Nat), .int .i64 (k : Nat)] w fun e w' => Rc 3 w w' e b size k := by
  unfold Rc
  have hEw := Ext.refl w
  have hlb : (limbs b).length ≤ 129 := len_two_le 129 h2 (by omega)
  have HREST : Hid (∀ b' size', CutP 1 b size k b' size' → b' ≠ 0 ∧ (limbs b').length ≤ 126 ∧ (limbs (2 ^ (size' + k))).length ≤ 900 ∧ (2 ^ (size' + k) / b') * b ≤ 2 ^ (size + k) ∧ 2 ^ (size + k) ≤ (2 ^ (size' + k) / b') * b + 3 * b) := fun b' size' h => by
    have a1 := h.lek
    have a2 := h.one
    have hb0 : 0 < b' := Nat.lt_of_lt_of_le (Nat.two_pow_pos _) h.lo
    refine ⟨by omega, len_two_le 126 h.hi (by omega), len_two_le 900 (Nat.le_refl _) (by omega), ?_⟩
    have := h.back (2 ^ (size' + k) / b') 1 (Nat.div_mul_le_self _ _) (by
      have := Nat.lt_mul_div_succ (2 ^ (size' + k)) hb0
      rw [Nat.mul_add, Nat.mul_one, Nat.mul_comm] at this
      omega)
    simpa using this
  have HCT : Hid (k + 4 < size → CutP 1 b size k (b / 2 ^ (size - (k + 4)) + 1) (k + 4)) := fun h => cutp_cut 1 b size k (size - (k + 4)) _ h1 h2 (by omega) rfl
  have HSM : Hid (size ≤ k + 4 → CutP 1 b size k b size) := fun h => cutp_same 1 b size k h1 h2 h3 h
  have HLB := Lib.hid hlb
  obtain ⟨ov, hov⟩ : ∃ ov : Int, (size : Int) - ((k : Int) + 4) = ov := ⟨_, rfl⟩
  have HOV := Lib.hid hov
  have HH := Lib.hid h4
  clear h1 h2 h3 hlb
  go_enter Tryz.func40, Tryz.ntmps40
  go_upto_if 21 with (fail)
  go_cut [0, 1] from 7 (fun s0 s1 wx => ∃ (b' size' : Nat), Un wx s0 b' ∧ s1 = .int .i64 (size' : Nat) ∧ Hid (CutP 1 b size k b' size') ∧ Ext w wx)
  case first =>
    by_cases h : k + 4 < size
    · obtain ⟨n, hn⟩ : ∃ n, size - (k + 4) = n := ⟨_, rfl⟩
      have hC := HCT.out h
      rw [hn] at hC
      have hov2 : ov = (n : Int) := by omega
      have hp : decide ((0 : Int) < ov) = true := by rw [decide_eq_true_iff]; omega
      have hp2 : 0 < ov := by omega
      obtain ⟨b1, hb1⟩ : ∃ b1, b / 2 ^ n = b1 := ⟨_, rfl⟩
      obtain ⟨b2, hb2⟩ : ∃ b2, b1 + 1 = b2 := ⟨_, rfl⟩
      rw [hb1, hb2] at hC
      have HC := Lib.hid hC
      have hl1 : (limbs b1).length ≤ 129 := Nat.le_trans (len_mono (by rw [← hb1]; exact Nat.div_le_self _ _)) HLB.out
      have HSr := Lib.hid (fun W (h : Un W vb b) => shr_B W vb b ov h (by omega) (by omega) (by have := HLB.out; omega) b1 (by rw [hov2, Int.toNat_natCast]; exact hb1))
      have HAd := Lib.hid (fun W v u (h : Un W v b1) (g : Un W u 1) => add_B W v u b1 1 h g (by omega) len_1 b2 hb2)
      clear h hn hov2 hb1 hb2 hl1 hC hov
      go_wp2_with (fail)
      refine (HSr.out _ hb).mono ?_
      rintro e w1 ⟨v1, rfl, hv1, hB⟩
      replace hEw := hEw.below hB
      have hl := Lib.hid (pow_lit w1)
      clear hB HSr hb
      go_wp2_with (fail)
      refine (HAd.out _ _ _ (U.alloc (U.asUn hv1) _) hl.out).mono ?_
      rintro e w2 ⟨v2, rfl, hv2, hB⟩
      replace hEw := (hEw.alloc _).below hB
      clear hB HAd hv1 hl
      go_wp2_with (fail)
      go_meet
      case rel => exact ⟨b2, k + 4, hv2, by first | rfl | go_num, HC, hEw⟩
    · have hp : decide ((0 : Int) < ov) = false := by rw [decide_eq_false_iff_not]; omega
      have hp2 : ¬ 0 < ov := by omega
      have HC : Hid (CutP 1 b size k b size) := HSM.out (by omega)
      clear h hov
      go_wp2_with (fail)
      go_meet
      case rel => exact ⟨b, size, hb, rfl, HC, hEw⟩
  case rest =>
    obtain ⟨b', size', hb', rfl, HC, hE⟩ := hcut
    obtain ⟨a1, a2, a3, a4⟩ := HREST.out b' size' HC.out
    have a5 := HC.out.lek
    obtain ⟨Y, hY⟩ : ∃ Y, 2 ^ (size' + k) = Y := ⟨_, rfl⟩
    obtain ⟨R, hR⟩ : ∃ R, Y / b' = R := ⟨_, rfl⟩
    rw [hY] at a3 a4
    rw [hR] at a4
    have HA := Lib.hid a4
    have HSl := Lib.hid (fun W v (h : Un W v 1) => shl_B W v 1 ((size' : Int) + (k : Int)) h (by omega) (by omega) len_1 Y (by rw [show ((size' : Int) + (k : Int)).toNat = size' + k by omega, one_mul_pow]; exact hY))
    have HSc := Lib.hid (fun W v u (h : Un W v Y) (g : Un W u b') => school_D W v u Y b' R (Y % b') h g (by omega) (by omega) a1 hR rfl)
    have hl := Lib.hid (pow_lit wc)
    have a6 : size' ≤ 2003 := by omega
    clear a1 a2 a3 a4 a5 hY hR HC HREST HCT HSM hov hEw hb
    go_wp2_with (fail)
    refine (HSl.out _ _ hl.out).mono ?_
    rintro e w1 ⟨v1, rfl, hv1, hB⟩
    replace hb' := U.below (U.alloc (U.asUn hb') _) hB
    replace hE := (hE.alloc _).below hB
    clear hB HSl hl
    go_wp2_with (fail)
    refine (HSc.out _ _ _ hv1 hb').mono ?_
    rintro e w2 ⟨⟨x, y, rfl, hx, hy⟩, hB⟩
    replace hE := hE.below hB
    have HF : Hid (∃ u R, Ending.returned x = .returned u ∧ Un w2 u R ∧ (R * b ≤ 2 ^ (size + k) ∧ 2 ^ (size + k) ≤ R * b + 3 * b) ∧ Ext w w2) := ⟨_, R, rfl, hx, HA.out, hE⟩
    clear hB HSc hv1 hb' hx hy hE HA
    go_wp2
    go_ret
    exact HF.out
end Go.Proofs.YtikajmmeglookaaGreatDoor
/- Reciprocals by a step; Newton's division; reciprocals told. -/
namespace Go.Proofs.YtikajmmeglookaaGreatDoor
open Go.RowKit
set_option linter.unusedVariables false
set_option maxHeartbeats 400000

theorem mul_two {a b m n : Nat} (ha : a ≤ 2 ^ m) (hb : b ≤ 2 ^ n) : a * b ≤ 2 ^ (m + n) := by
  rw [Nat.pow_add]; exact Nat.mul_le_mul ha hb
/-- The numbers of a step. -/
theorem below_math (b size k h r : Nat) (h1 : 2 ^ (size - 1) ≤ b) (h2 : b ≤ 2 ^ (size + 1)) (h3 : 1 ≤ size) (h4 : size ≤ k + 4) (hk1 : 2000 ≤ k) (hk2 : k < 2990) (hh : k / 2 + 4 = h)
    (ha : r * b ≤ 2 ^ (size + h)) (hb : 2 ^ (size + h) ≤ r * b + 3 * b) :
    h < 2000 ∧ (limbs b).length ≤ 100 ∧ (limbs r).length ≤ 100 ∧ (limbs (r * r)).length ≤ 200 ∧ (limbs (r * r * b)).length ≤ 300 ∧ (limbs (r * 2 ^ (k - h + 1))).length ≤ 200 ∧
    r * r * b / 2 ^ (size + 2 * h - k) + 1 ≤ r * 2 ^ (k - h + 1) ∧ (r * 2 ^ (k - h + 1) - (r * r * b / 2 ^ (size + 2 * h - k) + 1)) * b ≤ 2 ^ (size + k) ∧ 2 ^ (size + k) ≤ (r * 2 ^ (k - h + 1) - (r * r * b / 2 ^ (size + 2 * h - k) + 1)) * b + 2 * b := by
  have hr := recip_le 0 size h b r h1 h3 ha
  have e0 : r * 2 ^ (k - h + 1) = 2 * (r * 2 ^ (k - h)) := by rw [Nat.pow_succ, ← Nat.mul_assoc, Nat.mul_comm _ 2]
  have eX : 2 ^ (size + 2 * h - k) * 2 ^ (k - h) = 2 ^ (size + h) := by rw [← Nat.pow_add]; congr 1; omega
  have eZ : 2 ^ (size + k) * 2 ^ (size + 2 * h - k) = 2 ^ (size + h) * 2 ^ (size + h) := by rw [← Nat.pow_add, ← Nat.pow_add]; congr 1; omega
  have hS := Nat.two_pow_pos (size + 2 * h - k)
  have hb0 : 0 < b := Nat.lt_of_lt_of_le (Nat.two_pow_pos _) h1
  have hr1 : 1 ≤ r := by
    rcases Nat.eq_zero_or_pos r with e | e
    · rw [e, Nat.zero_mul, Nat.zero_add] at hb
      have a1 : 3 * b ≤ 2 ^ 2 * 2 ^ (size + 1) := Nat.mul_le_mul (by decide) h2
      rw [← Nat.pow_add] at a1
      have a2 : 2 ^ (2 + (size + 1)) < 2 ^ (size + h) := Nat.pow_lt_pow_right (by decide) (by omega)
      omega
    · exact e
  have hbS : 9 * b ≤ 2 ^ (size + 2 * h - k) := by
    have a1 : 9 * b ≤ 2 ^ 4 * 2 ^ (size + 1) := Nat.mul_le_mul (by decide) h2
    rw [← Nat.pow_add] at a1
    exact Nat.le_trans a1 (Nat.pow_le_pow_right (by decide) (by omega))
  obtain ⟨o1, o2, o3⟩ := bl_step b r (2 ^ (size + 2 * h - k)) (2 ^ (k - h)) (2 ^ (size + h)) (2 ^ (size + k)) _ hS eX eZ hr1 (by
    have : 2 ^ 1 ≤ 2 ^ (k - h) := Nat.pow_le_pow_right (by decide) (by omega)
    exact this) ha rfl
  have o4 := bl_step2 b r (2 ^ (size + 2 * h - k)) (2 ^ (k - h)) (2 ^ (size + h)) (2 ^ (size + k)) _ hS eX eZ ha hb hbS rfl o1
  have hrr := mul_two hr hr
  have hrrb := mul_two hrr h2
  have htw := mul_two hr (Nat.le_refl (2 ^ (k - h + 1)))
  refine ⟨by omega, len_two_le 100 h2 (by omega), len_two_le 100 hr (by omega), len_two_le 200 hrr (by omega), len_two_le 300 hrrb (by omega), len_two_le 200 htw (by omega), ?_, ?_, ?_⟩
  · rw [e0]; exact o1
  · rw [e0]; exact o3
  · rw [e0]; exact o4

set_option maxRecDepth 100000 in
set_option maxHeartbeats 8000000 in
theorem below_B (w : World) (vb : Value) (b size k : Nat) (hb : Un w vb b) (h1 : 2 ^ (size - 1) ≤ b) (h2 : b ≤ 2 ^ size) (h3 : 1 ≤ size) (h4 : size ≤ 4000) (hk1 : 2000 ≤ k) (hk2 : k < 2990) :
    Calls Tryz.prog 40 #[vb, .int .i64 (size : Nat), .int .i64 (k : Nat)] w fun e w' => Rc 5 w w' e b size k := by
  unfold Rc
  have hEw := Ext.refl w
  have hlb : (limbs b).length ≤ 129 := len_two_le 129 h2 (by omega)
  obtain ⟨h, hh⟩ : ∃ h, k / 2 + 4 = h := ⟨_, rfl⟩
  have HCT : Hid (k + 4 < size → CutP 0 b size k (b / 2 ^ (size - (k + 4)) + 1) (k + 4)) := fun h => cutp_cut 0 b size k (size - (k + 4)) _ h1 h2 (by omega) rfl
  have HSM : Hid (size ≤ k + 4 → CutP 0 b size k b size) := fun h => cutp_same 0 b size k h1 h2 h3 h
  have HLB := Lib.hid hlb
  have HKK := Lib.hid (And.intro hk1 (And.intro hk2 (And.intro hh h4)))
  obtain ⟨ov, hov⟩ : ∃ ov : Int, (size : Int) - ((k : Int) + 4) = ov := ⟨_, rfl⟩
  have k1 : decide ((k : Int) < 2000) = false := by rw [decide_eq_false_iff_not]; omega
  have k2 : (k : Int) / 2 + 4 = (h : Int) := by omega
  obtain ⟨kh, hkh⟩ : ∃ kh, k / 2 = kh := ⟨_, rfl⟩
  have k3 : (k : Int) / 2 = (kh : Int) := by omega
  have k4 : (k : Int).tdiv 2 = (kh : Int) := by rw [Int.tdiv_eq_ediv_of_nonneg (by omega)]; exact k3
  have k5 : (kh : Int) + 4 = (h : Int) := by omega
  have k6 : kh ≤ 2000 := by omega
  clear h1 h2 h3 hlb hkh hh k2
  go_enter Tryz.func40, Tryz.ntmps40
  go_upto_if 21 with (fail)
  go_cut [0, 1] from 7 (fun s0 s1 wx => ∃ (b' size' : Nat), Un wx s0 b' ∧ s1 = .int .i64 (size' : Nat) ∧ Hid (CutP 0 b size k b' size') ∧ Ext w wx)
  case first =>
    by_cases h : k + 4 < size
    · obtain ⟨n, hn⟩ : ∃ n, size - (k + 4) = n := ⟨_, rfl⟩
      have hC := HCT.out h
      rw [hn] at hC
      have hov2 : ov = (n : Int) := by omega
      have hp : decide ((0 : Int) < ov) = true := by rw [decide_eq_true_iff]; omega
      have hp2 : 0 < ov := by omega
      obtain ⟨b1, hb1⟩ : ∃ b1, b / 2 ^ n = b1 := ⟨_, rfl⟩
      obtain ⟨b2, hb2⟩ : ∃ b2, b1 + 1 = b2 := ⟨_, rfl⟩
      rw [hb1, hb2] at hC
      have HC := Lib.hid hC
      have hl1 : (limbs b1).length ≤ 129 := Nat.le_trans (len_mono (by rw [← hb1]; exact Nat.div_le_self _ _)) HLB.out
      have HSr := Lib.hid (fun W (h : Un W vb b) => shr_B W vb b ov h (by omega) (by omega) (by have := HLB.out; omega) b1 (by rw [hov2, Int.toNat_natCast]; exact hb1))
      have HAd := Lib.hid (fun W v u (h : Un W v b1) (g : Un W u 1) => add_B W v u b1 1 h g (by omega) len_1 b2 hb2)
      clear h hn hov2 hb1 hb2 hl1 hC hov
      go_wp2_with (fail)
      refine (HSr.out _ hb).mono ?_
      rintro e w1 ⟨v1, rfl, hv1, hB⟩
      replace hEw := hEw.below hB
      have hl := Lib.hid (pow_lit w1)
      clear hB HSr hb
      go_wp2_with (fail)
      refine (HAd.out _ _ _ (U.alloc (U.asUn hv1) _) hl.out).mono ?_
      rintro e w2 ⟨v2, rfl, hv2, hB⟩
      replace hEw := (hEw.alloc _).below hB
      clear hB HAd hv1 hl
      go_wp2_with (fail)
      go_meet
      case rel => exact ⟨b2, k + 4, hv2, by first | rfl | go_num, HC, hEw⟩
    · have hp : decide ((0 : Int) < ov) = false := by rw [decide_eq_false_iff_not]; omega
      have hp2 : ¬ 0 < ov := by omega
      have HC : Hid (CutP 0 b size k b size) := HSM.out (by omega)
      clear h hov
      go_wp2_with (fail)
      go_meet
      case rel => exact ⟨b, size, hb, rfl, HC, hEw⟩
  case rest =>
    obtain ⟨b', z, hb', rfl, HC, hE⟩ := hcut
    obtain ⟨hk1', hk2', hh, hs⟩ := HKK.out
    have c1 := HC.out.lo
    have c2 : b' ≤ 2 ^ (z + 1) := HC.out.hi
    have c3 := HC.out.one
    have c4 := HC.out.lek
    have hh2 : h < 2000 := by omega
    have hzb : z ≤ 3000 := by omega
    have HRec : Hid (∀ W v, Un W v b' → Calls Tryz.prog 40 #[v, .int .i64 (z : Nat), .int .i64 (h : Nat)] W fun e w' => ∃ u R, e = .returned u ∧ Un w' u R ∧ (R * b' ≤ 2 ^ (z + h) ∧ 2 ^ (z + h) ≤ R * b' + 3 * b') ∧ Ext W w') := fun W v g => below_S W v b' z h g c1 c2 c3 (by omega) hh2
    have HM := Lib.hid (fun r a1 a2 => below_math b' z k h r c1 c2 c3 c4 hk1' hk2' hh a1 a2)
    clear hk1' hk2' hh hs c1 c2 c3 c4 HCT HSM hov hEw hb hk1 hh2
    go_wp2_with (fail)
    refine (HRec.out _ _ hb').mono ?_
    rintro e w1 ⟨v1, r, rfl, hv1, hab, hB⟩
    have a1 := hab.1
    have a2 := hab.2
    clear hab
    replace hb' := U.below (U.asUn hb') hB
    replace hE := hE.below hB
    obtain ⟨-, m2, m3, m4, m5, m6, m7, m8, m9⟩ := HM.out r a1 a2
    obtain ⟨hk1', hk2', hh, hs⟩ := HKK.out
    have c4 := HC.out.lek
    obtain ⟨s1, hs1⟩ : ∃ s1, k - h + 1 = s1 := ⟨_, rfl⟩
    obtain ⟨s2, hs2⟩ : ∃ s2, z + 2 * h - k = s2 := ⟨_, rfl⟩
    obtain ⟨T, hT⟩ : ∃ T, r * 2 ^ s1 = T := ⟨_, rfl⟩
    obtain ⟨Q, hQ⟩ : ∃ Q, r * r = Q := ⟨_, rfl⟩
    obtain ⟨P, hP⟩ : ∃ P, Q * b' = P := ⟨_, rfl⟩
    obtain ⟨O1, hO1⟩ : ∃ O1, P / 2 ^ s2 = O1 := ⟨_, rfl⟩
    obtain ⟨O2, hO2⟩ : ∃ O2, O1 + 1 = O2 := ⟨_, rfl⟩
    obtain ⟨R, hR⟩ : ∃ R, T - O2 = R := ⟨_, rfl⟩
    rw [hQ] at m4
    rw [hQ, hP] at m5
    rw [hs1, hT] at m6
    rw [hs1, hs2, hT, hQ, hP, hO1, hO2] at m7
    rw [hs1, hs2, hT, hQ, hP, hO1, hO2, hR] at m8
    rw [hs1, hs2, hT, hQ, hP, hO1, hO2, hR] at m9
    obtain ⟨f1, f2⟩ := HC.out.back R 2 m8 m9
    have HF0 : Hid (R * b ≤ 2 ^ (size + k) ∧ 2 ^ (size + k) ≤ R * b + 5 * b) := ⟨f1, f2⟩
    have lO : (limbs O1).length ≤ 300 := Nat.le_trans (len_mono (by rw [← hO1]; exact Nat.div_le_self _ _)) m5
    have HSl := Lib.hid (fun W (g : Un W v1 r) => shl_B W v1 r (s1 : Int) g (Int.natCast_nonneg _) (by omega) (by omega) T (by rw [Int.toNat_natCast]; exact hT))
    have HM1 := Lib.hid (fun W (g : Un W v1 r) => mulN W v1 v1 r r Q g g (by omega) (by omega) hQ)
    have HM2 := Lib.hid (fun W u v (g : Un W u Q) (g' : Un W v b') => mulN W u v Q b' P g g' (by omega) (by omega) hP)
    have HSr := Lib.hid (fun W u (g : Un W u P) => shr_B W u P (s2 : Int) g (Int.natCast_nonneg _) (by omega) (by omega) O1 (by rw [Int.toNat_natCast]; exact hO1))
    have HAd := Lib.hid (fun W u v (g : Un W u O1) (g' : Un W v 1) => add_B W u v O1 1 g g' (by omega) len_1 O2 hO2)
    have HLs := Lib.hid (fun W u v (g : Un W u T) (g' : Un W v O2) => less_B W u v T O2 R g g' (by omega) m7 hR)
    have g1 : (k : Int) - (h : Int) + 1 = (s1 : Int) := by omega
    obtain ⟨h2, hh2⟩ : ∃ h2, 2 * h = h2 := ⟨_, rfl⟩
    have g2 : (2 : Int) * (h : Int) = (h2 : Int) := by omega
    have g3 : (z : Int) + (h2 : Int) - (k : Int) = (s2 : Int) := by omega
    have g4 : z ≤ 4000 ∧ h2 ≤ 4000 ∧ k ≤ 4000 := by omega
    obtain ⟨g5, g6, g7⟩ := g4
    clear hB HRec HM a1 a2 m2 m3 m4 m5 m6 m7 m8 m9 hk1' hk2' hh hs c4 hs1 hs2 hT hQ hP hO1 hO2 hR f1 f2 lO hh2 HC HKK HLB
    go_wp2_with (fail)
    refine (HSl.out _ hv1).mono ?_
    rintro e w2 ⟨v2, rfl, hv2, hB⟩
    replace hb' := U.below (U.asUn hb') hB
    replace hv1 := U.below (U.asUn hv1) hB
    replace hE := hE.below hB
    clear hB HSl
    go_wp2_with (fail)
    refine (HM1.out _ hv1).mono ?_
    rintro e w3 ⟨v3, rfl, hv3, hB⟩
    replace hb' := U.below (U.asUn hb') hB
    replace hv2 := U.below (U.asUn hv2) hB
    replace hE := hE.below hB
    clear hB HM1 hv1
    go_wp2_with (fail)
    refine (HM2.out _ _ _ hv3 hb').mono ?_
    rintro e w4 ⟨v4, rfl, hv4, hB⟩
    replace hv2 := U.below (U.asUn hv2) hB
    replace hE := hE.below hB
    clear hB HM2 hv3 hb'
    go_wp2_with (fail)
    refine (HSr.out _ _ hv4).mono ?_
    rintro e w5 ⟨v5, rfl, hv5, hB⟩
    replace hv2 := U.below (U.asUn hv2) hB
    replace hE := hE.below hB
    have hl := Lib.hid (pow_lit w5)
    clear hB HSr hv4
    go_wp2_with (fail)
    refine (HAd.out _ _ _ (U.alloc (U.asUn hv5) _) hl.out).mono ?_
    rintro e w6 ⟨v6, rfl, hv6, hB⟩
    replace hv2 := U.below (U.alloc (U.asUn hv2) _) hB
    replace hE := (hE.alloc _).below hB
    clear hB HAd hv5 hl
    go_wp2_with (fail)
    refine (HLs.out _ _ _ hv2 hv6).mono ?_
    rintro e w7 ⟨v7, rfl, hv7, hB⟩
    replace hE := hE.below hB
    have HF : Hid (∃ u R, Ending.returned v7 = .returned u ∧ Un w7 u R ∧ (R * b ≤ 2 ^ (size + k) ∧ 2 ^ (size + k) ≤ R * b + 5 * b) ∧ Ext w w7) := ⟨_, R, rfl, hv7, HF0.out, hE⟩
    clear hB HLs hv2 hv6 hv7 hE HF0
    go_wp2
    go_ret
    exact HF.out
end Go.Proofs.YtikajmmeglookaaGreatDoor
/- Division by a reciprocal, and reciprocals, told. -/
namespace Go.Proofs.YtikajmmeglookaaGreatDoor
open Go.RowKit
set_option linter.unusedVariables false
set_option maxHeartbeats 400000

theorem newton_math (a b size ba k : Nat) (h0 : b ≠ 0) (hge : b ≤ a) (hla : (limbs a).length ≤ 60) (hs : blen b = size) (hba : blen a = ba) (hk : ba - size + 1 = k) :
    size ≤ ba ∧ 2 ^ (size - 1) ≤ b ∧ b ≤ 2 ^ (size + 1) ∧ 1 ≤ size ∧ ba ≤ 1920 ∧
    ∀ R, R * b ≤ 2 ^ (size + k) → 2 ^ (size + k) ≤ R * b + 3 * b → (limbs R).length ≤ 61 ∧ (limbs (a / 2 ^ (size - 1))).length ≤ 60 ∧ (limbs (a / 2 ^ (size - 1) * R)).length ≤ 200 ∧ (limbs (a / 2 ^ (size - 1) * R / 2 ^ (k + 1))).length ≤ 60 ∧
      a / 2 ^ (size - 1) * R / 2 ^ (k + 1) * b ≤ a ∧ a < a / 2 ^ (size - 1) * R / 2 ^ (k + 1) * b + 1152921504606846976 * b := by
  have e1 : size ≤ ba := by rw [← hs, ← hba]; exact blen_mono hge
  have e2 : 2 ^ (size - 1) ≤ b := by rw [← hs]; exact pow_blen_le h0
  have e3 : b ≤ 2 ^ (size + 1) := Nat.le_trans (Nat.le_of_lt (lt_pow_blen b)) (by rw [hs]; exact Nat.pow_le_pow_right (by decide) (by omega))
  have e4 : 1 ≤ size := by rw [← hs]; exact blen_pos h0
  have e5 : ba ≤ 1920 := by rw [← hba]; exact blen_len hla
  refine ⟨e1, e2, e3, e4, e5, fun R a1 a2 => ?_⟩
  have hS := Nat.two_pow_pos (size - 1)
  have hK := Nat.two_pow_pos (k + 1)
  have eSK : 2 ^ (size - 1) * 2 ^ (k + 1) = 2 ^ (size + k) := by rw [← Nat.pow_add]; congr 1; omega
  have hR := recip_le 0 size k b R e2 e4 a1
  have ha1 : a / 2 ^ (size - 1) < 2 ^ k := by
    refine Nat.div_lt_of_lt_mul ?_
    rw [← Nat.pow_add, show size - 1 + k = ba by omega, ← hba]
    exact lt_pow_blen a
  have hle := nw_le a b (2 ^ (size - 1)) (2 ^ (k + 1)) R _ hS hK (by rw [eSK]; exact a1) rfl
  have hge2 := nw_ge a b (2 ^ (size - 1)) (2 ^ (k + 1)) R _ 3 hS hK e2 (Nat.lt_of_lt_of_le ha1 (Nat.pow_le_pow_right (by decide) (by omega))) (by rw [eSK]; exact a2) rfl
  have hM := mul_two (Nat.le_of_lt ha1) hR
  refine ⟨len_two_le 61 hR (by omega), Nat.le_trans (len_mono (Nat.div_le_self _ _)) hla, len_two_le 200 hM (by omega), Nat.le_trans (len_mono (Nat.le_trans (Nat.le_mul_of_pos_right _ (by omega)) hle)) hla, hle, ?_⟩
  omega

set_option maxRecDepth 100000 in
set_option maxHeartbeats 8000000 in
theorem newton_D (w : World) (va vb : Value) (a b q r : Nat) (ha : Un w va a) (hb : Un w vb b) (hla : (limbs a).length ≤ 60) (hlb : (limbs b).length ≤ 60) (h0 : b ≠ 0) (hq : a / b = q) (hr : a % b = r) :
    Calls Tryz.prog 17 #[va, vb] w fun e w' => Dv w w' e q r := by
  unfold Dv
  have hnz := limbs_nz h0
  obtain ⟨Ab, cb, rfl, hcb⟩ := U.shape (U.asUn hb)
  obtain ⟨L, hL⟩ : ∃ L, (limbs b).length = L := ⟨_, rfl⟩
  obtain ⟨k, hk⟩ : ∃ k, cmpI (a : Int) (b : Int) = k := ⟨_, rfl⟩
  have hCmp := Lib.hid (cmp_B w va _ a b ha hb k hk)
  rw [hL] at hnz hlb hb hCmp ⊢
  have hL0 : ((L : Int) == 0) = false := by rw [beq_eq_false_iff_ne]; omega
  have hL02 : ¬ L = 0 := by omega
  have hEw := Ext.refl w
  rcases Nat.lt_or_ge a b with hlt | hge
  · have hq0 : q = 0 := by rw [← hq]; exact Nat.div_eq_of_lt hlt
    have hr0 : r = a := by rw [← hr]; exact Nat.mod_eq_of_lt hlt
    have hk1 : k = -1 := by rw [← hk]; exact cmpI_lt (by omega)
    subst hq0 hr0 hk1
    clear hq hr hk hlt hb hL hcb hla hlb
    go_enter Tryz.func17, Tryz.ntmps17
    go_wp2_with (fail)
    refine hCmp.out.mono ?_
    rintro e w1 ⟨rfl, hB⟩
    replace ha := U.below (U.asUn ha) hB
    replace hEw := hEw.below hB
    have HF : Hid (∃ x y, Ending.returned (.tuple #[.slice none 0 0, va, .int .i64 0]) = .returned (.tuple #[x, y, .int .i64 0]) ∧ Un w1 x 0 ∧ Un w1 y r) := ⟨_, _, rfl, Un_nil _, ha⟩
    clear hB hCmp ha
    go_wp2
    go_ret3
    exact ⟨HF.out, hEw⟩
  · have hk1 : ¬ k < 0 := by
      rw [← hk]
      rcases Nat.lt_or_ge b a with h | h
      · rw [cmpI_gt (by omega)]; decide
      · rw [show a = b by omega, cmpI_eq]; decide
    have hk2 : decide (k < 0) = false := by rw [decide_eq_false_iff_not]; exact hk1
    obtain ⟨size, hs⟩ : ∃ size, blen b = size := ⟨_, rfl⟩
    obtain ⟨ba, hba⟩ : ∃ ba, blen a = ba := ⟨_, rfl⟩
    obtain ⟨kk, hkk⟩ : ∃ kk, ba - size + 1 = kk := ⟨_, rfl⟩
    obtain ⟨m1, m2, m3, m4, m5, m6⟩ := newton_math a b size ba kk h0 hge hla hs hba hkk
    obtain ⟨s1, hs1⟩ : ∃ s1, size - 1 = s1 := ⟨_, rfl⟩
    obtain ⟨k1, hk1e⟩ : ∃ k1, kk + 1 = k1 := ⟨_, rfl⟩
    have HBb := Lib.hid (fun W (h : Un W (.slice Ab L cb) b) => bits_B W _ b h (by omega) (size : Int) (by rw [hs]))
    have HBa := Lib.hid (fun W (h : Un W va a) => bits_B W va a h (by omega) (ba : Int) (by rw [hba]))
    obtain ⟨a1, ha1⟩ : ∃ a1, a / 2 ^ s1 = a1 := ⟨_, rfl⟩
    have HSr := Lib.hid (fun W (h : Un W va a) => shr_B W va a (s1 : Int) h (Int.natCast_nonneg _) (by omega) (by omega) a1 (by rw [Int.toNat_natCast]; exact ha1))
    have HBl : Hid (∀ W v, Un W v b → Calls Tryz.prog 40 #[v, .int .i64 (size : Nat), .int .i64 (kk : Nat)] W fun e w' => ∃ u R, e = .returned u ∧ Un w' u R ∧ (R * b ≤ 2 ^ (size + kk) ∧ 2 ^ (size + kk) ≤ R * b + 3 * b) ∧ Ext W w') := fun W v g => below_S W v b size kk g m2 m3 m4 (by omega) (by omega)
    rw [hs1, hk1e, ha1] at m6
    have HM6 := Lib.hid m6
    have HLL := Lib.hid (And.intro hla (And.intro (show (limbs b).length ≤ 60 by omega) (And.intro h0 (And.intro hq (And.intro hr (show k1 ≤ 2000 by omega))))))
    have f1 : (ba : Int) - (size : Int) + 1 = (kk : Int) := by omega
    have f2 : (size : Int) - 1 = (s1 : Int) := by omega
    have f3 : (kk : Int) + 1 = (k1 : Int) := by omega
    have f4 : size ≤ 1920 := by omega
    have f5 : kk ≤ 1921 := by omega
    clear hq hr hk hge hL hcb hla hlb h0 hs hba hkk m1 m2 m3 m4 m6 hs1 hk1e ha1
    go_enter Tryz.func17, Tryz.ntmps17
    go_wp2_with (fail)
    refine hCmp.out.mono ?_
    rintro e w1 ⟨rfl, hB⟩
    replace ha := U.below (U.asUn ha) hB
    replace hb := U.below (U.asUn hb) hB
    replace hEw := hEw.below hB
    clear hB hCmp
    go_wp2_with (fail)
    refine (HBb.out _ hb).mono ?_
    rintro e w2 ⟨rfl, hB⟩
    replace ha := U.below (U.asUn ha) hB
    replace hb := U.below (U.asUn hb) hB
    replace hEw := hEw.below hB
    clear hB HBb
    go_wp2_with (fail)
    refine (HBa.out _ ha).mono ?_
    rintro e w3 ⟨rfl, hB⟩
    replace ha := U.below (U.asUn ha) hB
    replace hb := U.below (U.asUn hb) hB
    replace hEw := hEw.below hB
    clear hB HBa
    go_wp2_with (fail)
    refine (HSr.out _ ha).mono ?_
    rintro e w4 ⟨v4, rfl, hv4, hB⟩
    replace ha := U.below (U.asUn ha) hB
    replace hb := U.below (U.asUn hb) hB
    replace hEw := hEw.below hB
    clear hB HSr
    go_wp2_with (fail)
    refine (HBl.out _ _ hb).mono ?_
    rintro e w5 ⟨v5, R, rfl, hv5, hab, hB⟩
    replace ha := U.below (U.asUn ha) hB
    replace hb := U.below (U.asUn hb) hB
    replace hv4 := U.below (U.asUn hv4) hB
    replace hEw := hEw.below hB
    obtain ⟨l1, l2, l3, l4, l5, l6⟩ := HM6.out R hab.1 hab.2
    obtain ⟨hla, hlb, h0, hq, hr, hk1b⟩ := HLL.out
    obtain ⟨M1, hM1⟩ : ∃ M1, a1 * R = M1 := ⟨_, rfl⟩
    obtain ⟨q0, hq0⟩ : ∃ q0, M1 / 2 ^ k1 = q0 := ⟨_, rfl⟩
    rw [hM1] at l3
    rw [hM1, hq0] at l4
    rw [hM1, hq0] at l5
    rw [hM1, hq0] at l6
    have HMu := Lib.hid (fun W (h : Un W v4 a1) (g : Un W v5 R) => mulN W v4 v5 a1 R M1 h g (by omega) (by omega) hM1)
    have HS2 := Lib.hid (fun W u (h : Un W u M1) => shr_B W u M1 (k1 : Int) h (Int.natCast_nonneg _) (by omega) (by omega) q0 (by rw [Int.toNat_natCast]; exact hq0))
    have HMe := Lib.hid (fun W u (h : Un W va a) (h' : Un W (.slice Ab L cb) b) (g : Un W u q0) => mend_D W va _ u a b q0 q r h h' g (by omega) (by omega) (by omega) h0 l5 l6 hq hr)
    clear hB HBl hab l1 l2 l3 l4 l5 l6 hla hlb h0 hq hr hM1 hq0 HM6 HLL hk1b
    go_wp2_with (fail)
    refine (HMu.out _ hv4 hv5).mono ?_
    rintro e w6 ⟨v6, rfl, hv6, hB⟩
    replace ha := U.below (U.asUn ha) hB
    replace hb := U.below (U.asUn hb) hB
    replace hEw := hEw.below hB
    clear hB HMu hv4 hv5
    go_wp2_with (fail)
    refine (HS2.out _ _ hv6).mono ?_
    rintro e w7 ⟨v7, rfl, hv7, hB⟩
    replace ha := U.below (U.asUn ha) hB
    replace hb := U.below (U.asUn hb) hB
    replace hEw := hEw.below hB
    clear hB HS2 hv6
    go_wp2_with (fail)
    refine (HMe.out _ _ ha hb hv7).mono ?_
    rintro e w8 ⟨⟨x, y, rfl, hx, hy⟩, hB⟩
    replace hEw := hEw.below hB
    have HF : Hid (∃ x' y', Ending.returned (.tuple #[x, y, .int .i64 0]) = .returned (.tuple #[x', y', .int .i64 0]) ∧ Un w8 x' q ∧ Un w8 y' r) := ⟨_, _, rfl, hx, hy⟩
    clear hx hy hB HMe ha hb hv7
    go_wp2
    go_ret3
    exact ⟨HF.out, hEw⟩
theorem newton_Z (w : World) (va vb : Value) (hb : Un w vb 0) :
    Calls Tryz.prog 17 #[va, vb] w fun e w' => Dz w w' e := by
  unfold Dz
  obtain ⟨Ab, cb, rfl⟩ := un_zero hb
  have hEw := Ext.refl w
  clear hb
  go_enter Tryz.func17, Tryz.ntmps17
  go_wp2
  go_ret3
  exact ⟨rfl, hEw⟩

set_option maxRecDepth 100000 in
set_option maxHeartbeats 8000000 in
theorem recip_D (w : World) (vb : Value) (b n q : Nat) (hb : Un w vb b) (hlb : (limbs b).length ≤ 40) (h0 : b ≠ 0) (hn : n ≤ 2500) (hq : 2 ^ n / b = q) :
    Calls Tryz.prog 20 #[vb, .int .i64 (n : Nat)] w fun e w' => (∃ u, e = .returned (.tuple #[u, .int .i64 0]) ∧ Un w' u q) ∧ Ext w w' := by
  have hnz := limbs_nz h0
  obtain ⟨Ab, cb, rfl, hcb⟩ := U.shape (U.asUn hb)
  obtain ⟨L, hL⟩ : ∃ L, (limbs b).length = L := ⟨_, rfl⟩
  obtain ⟨size, hs⟩ : ∃ size, blen b = size := ⟨_, rfl⟩
  obtain ⟨kz, hkz⟩ : ∃ kz : Int, (n : Int) - (size : Int) = kz := ⟨_, rfl⟩
  obtain ⟨Y, hY⟩ : ∃ Y, 2 ^ n = Y := ⟨_, rfl⟩
  rw [hL] at hnz hlb hb ⊢
  have hL0 : ((L : Int) == 0) = false := by rw [beq_eq_false_iff_ne]; omega
  have hL02 : ¬ L = 0 := by omega
  have hEw := Ext.refl w
  have hs1280 : size ≤ 1280 := by
    have := blen_le_len b
    rw [hs, hL] at this
    omega
  have HBb := Lib.hid (fun W (h : Un W (.slice Ab L cb) b) => bits_B W _ b h (by omega) (size : Int) (by rw [hs]))
  have HSl := Lib.hid (fun W v (h : Un W v 1) => shl_B W v 1 (n : Int) h (Int.natCast_nonneg _) (by omega) len_1 Y (by rw [Int.toNat_natCast, one_mul_pow]; exact hY))
  have hlY : (limbs Y).length ≤ 80 := len_two_le 80 (Nat.le_of_eq hY.symm) (by omega)
  by_cases hk : kz < 2000
  · have HSc := Lib.hid (fun W v (h : Un W v Y) (g : Un W (.slice Ab L cb) b) => school_D W v _ Y b q (Y % b) h g (by omega) (by omega) h0 (by rw [← hY]; exact hq) rfl)
    have hd : decide (kz < 2000) = true := by rw [decide_eq_true_iff]; exact hk
    clear hcb hs hY hlY hq h0 hL hlb
    go_enter Tryz.func20, Tryz.ntmps20
    go_wp2_with (fail)
    refine (HBb.out _ hb).mono ?_
    rintro e w2 ⟨rfl, hB⟩
    replace hb := U.below (U.asUn hb) hB
    replace hEw := hEw.below hB
    have hl := Lib.hid (pow_lit w2)
    clear hB HBb
    go_wp2_with (fail)
    refine (HSl.out _ _ hl.out).mono ?_
    rintro e w3 ⟨v3, rfl, hv3, hB⟩
    replace hb := U.below (U.alloc (U.asUn hb) _) hB
    replace hEw := (hEw.alloc _).below hB
    clear hB HSl hl
    go_wp2_with (fail)
    refine (HSc.out _ _ hv3 hb).mono ?_
    rintro e w4 ⟨⟨x, y, rfl, hx, hy⟩, hB⟩
    replace hEw := hEw.below hB
    have HF : Hid (∃ u, Ending.returned (.tuple #[x, .int .i64 0]) = .returned (.tuple #[u, .int .i64 0]) ∧ Un w4 u q) := ⟨_, rfl, hx⟩
    clear hx hy hB HSc hb hv3
    go_wp2
    go_ret2
    exact ⟨HF.out, hEw⟩
  · have hd : decide (kz < 2000) = false := by rw [decide_eq_false_iff_not]; exact hk
    obtain ⟨k, hke⟩ : ∃ k : Nat, n - size = k := ⟨_, rfl⟩
    obtain rfl : kz = (k : Int) := by omega
    have e1 : n = size + k := by omega
    have m4 : 1 ≤ size := by rw [← hs]; exact blen_pos h0
    have m2 : 2 ^ (size - 1) ≤ b := by rw [← hs]; exact pow_blen_le h0
    have m3 : b ≤ 2 ^ size := by rw [← hs]; exact Nat.le_of_lt (lt_pow_blen b)
    have HBl : Hid (∀ W v, Un W v b → Calls Tryz.prog 40 #[v, .int .i64 (size : Nat), .int .i64 (k : Nat)] W fun e w' => ∃ u R, e = .returned u ∧ Un w' u R ∧ (R * b ≤ Y ∧ Y ≤ R * b + 5 * b) ∧ Ext W w') := fun W v g => by
      have := below_B W v b size k g m2 m3 m4 (by omega) (by omega) (by omega)
      unfold Rc at this
      rw [← e1, hY] at this
      exact this
    have HRL : Hid (∀ R, R * b ≤ Y → (limbs R).length ≤ 80) := fun R h => len_two_le 80 (recip_le 0 size k b R m2 m4 (by rw [← e1, hY]; exact h)) (by omega)
    have HMe := Lib.hid (fun W v u R (a1 : R * b ≤ Y) (a2 : Y ≤ R * b + 5 * b) (l : (limbs R).length ≤ 80) (h : Un W v Y) (h' : Un W (.slice Ab L cb) b) (g : Un W u R) => mend_D W v _ u Y b R q (Y % b) h h' g (by omega) (by omega) (by omega) h0 a1 (by omega) (by rw [← hY]; exact hq) rfl)
    have hk3 : ¬ k < 2000 := by omega
    have hk4 : k ≤ 2500 := by omega
    clear hcb hs hY hlY hq h0 hL hlb hke e1 m2 m3 m4 hk
    go_enter Tryz.func20, Tryz.ntmps20
    go_wp2_with (fail)
    refine (HBb.out _ hb).mono ?_
    rintro e w2 ⟨rfl, hB⟩
    replace hb := U.below (U.asUn hb) hB
    replace hEw := hEw.below hB
    have hl := Lib.hid (pow_lit w2)
    clear hB
    go_wp2_with (fail)
    refine (HSl.out _ _ hl.out).mono ?_
    rintro e w3 ⟨v3, rfl, hv3, hB⟩
    replace hb := U.below (U.alloc (U.asUn hb) _) hB
    replace hEw := (hEw.alloc _).below hB
    clear hB HSl hl
    go_wp2_with (fail)
    refine (HBb.out _ hb).mono ?_
    rintro e w4 ⟨rfl, hB⟩
    replace hb := U.below (U.asUn hb) hB
    replace hv3 := U.below (U.asUn hv3) hB
    replace hEw := hEw.below hB
    clear hB HBb
    go_wp2_with (fail)
    refine (HBl.out _ _ hb).mono ?_
    rintro e w5 ⟨v5, R, rfl, hv5, hab, hB⟩
    replace hb := U.below (U.asUn hb) hB
    replace hv3 := U.below (U.asUn hv3) hB
    replace hEw := hEw.below hB
    have HM2 := Lib.hid (HMe.out w5 v3 v5 R hab.1 hab.2 (HRL.out R hab.1) hv3 hb hv5)
    clear hB HBl hab HRL HMe
    go_wp2_with (fail)
    refine HM2.out.mono ?_
    rintro e w6 ⟨⟨x, y, rfl, hx, hy⟩, hB⟩
    replace hEw := hEw.below hB
    have HF : Hid (∃ u, Ending.returned (.tuple #[x, .int .i64 0]) = .returned (.tuple #[u, .int .i64 0]) ∧ Un w6 u q) := ⟨_, rfl, hx⟩
    clear hx hy hB HM2 hb hv3 hv5
    go_wp2
    go_ret2
    exact ⟨HF.out, hEw⟩
theorem recip_Z (w : World) (vb : Value) (n : Nat) (hb : Un w vb 0) :
    Calls Tryz.prog 20 #[vb, .int .i64 (n : Nat)] w fun e w' => e = .returned (.tuple #[.slice none 0 0, .int .i64 3]) ∧ Ext w w' := by
  obtain ⟨Ab, cb, rfl⟩ := un_zero hb
  have hEw := Ext.refl w
  clear hb
  go_enter Tryz.func20, Tryz.ntmps20
  go_wp2
  go_ret2
  exact ⟨rfl, hEw⟩
end Go.Proofs.YtikajmmeglookaaGreatDoor
/- The arguments of the laws of products. -/
namespace Go.Proofs.YtikajmmeglookaaGreatDoor
open Go.ChangeShapes Go.WideShapes Go.ChangeAt Go.RowKit
set_option linter.unusedVariables false
set_option maxRecDepth 100000
set_option maxHeartbeats 400000

theorem okWide_arr' {P : Program} {k e : TypeId} {n : Nat} {W : World} (hu : P.underlying k = some (.array n e)) {r : Reach} {b0 : Nat} {v : Value} (h : Value.okWide P W r b0 k v) : ∃ xs : Array Value, v = .agg xs ∧ xs.size = P.cellsOf k := by
  simp only [Value.okWide, hu] at h
  obtain ⟨cs, h1, h2, _⟩ := h
  exact ⟨cs, h1, h2⟩
theorem trod_array2 {H : Type} {enc : TypeId × Value → H} {P : Program} {w : World} {base : Nat} {spare : Nat → Bool} {held : Bool} {t e : TypeId} {fuel : Nat} {c0 c1 : Value} {x : DataW H × List MemPlace} (ht : P.underlying t = some (.array 2 e)) (hce : P.cellsOf e = 1)
    (h : DataW.trod enc P w base spare held fuel t [c0, c1] = some x) :
    ∃ y0 y1 n, DataW.trod enc P w base spare held n e [c0] = some y0 ∧ DataW.trod enc P w base spare held n e [c1] = some y1 := by
  cases fuel with
  | zero => simp [DataW.trod] at h
  | succ n =>
    unfold DataW.trod at h
    rw [ht] at h
    have r2 : List.range 2 = [0, 1] := rfl
    simp [r2, hce] at h
    obtain ⟨_, h⟩ := h
    cases h0 : DataW.trod enc P w base spare held n e [c0] with
    | none => simp [h0] at h
    | some y0 =>
      cases h1 : DataW.trod enc P w base spare held n e [c1] with
      | none => simp [h0, h1] at h
      | some y1 => exact ⟨y0, y1, n, h0, h1⟩
def Bx2 (w : World) (B : Nat) (va vb : Value) : Prop := B < w.heap.size ∧ w.cell? ⟨B, 0, none⟩ = some va ∧ w.cell? ⟨B, 1, none⟩ = some vb
theorem Bx2.ext {w w' : World} {B : Nat} {va vb : Value} (h : Bx2 w B va vb) (hB : Ext w w') : Bx2 w' B va vb := by
  obtain ⟨h0, h1, h2⟩ := h
  have hc := fun o => hB.cell (p := ⟨B, o, none⟩) h0
  exact ⟨Nat.lt_of_lt_of_le h0 hB.size, by rw [hc]; exact h1, by rw [hc]; exact h2⟩
def Bx3 (w : World) (B : Nat) (va vb vc : Value) : Prop := B < w.heap.size ∧ w.cell? ⟨B, 0, none⟩ = some va ∧ w.cell? ⟨B, 1, none⟩ = some vb ∧ w.cell? ⟨B, 2, none⟩ = some vc
theorem Bx3.ext {w w' : World} {B : Nat} {va vb vc : Value} (h : Bx3 w B va vb vc) (hB : Ext w w') : Bx3 w' B va vb vc := by
  obtain ⟨h0, h1, h2, h3⟩ := h
  have hc := fun o => hB.cell (p := ⟨B, o, none⟩) h0
  exact ⟨Nat.lt_of_lt_of_le h0 hB.size, by rw [hc]; exact h1, by rw [hc]; exact h2, by rw [hc]; exact h3⟩
/-- At most k limbs. -/
def Ltl (n k : Nat) : Prop := n < LB ^ k
theorem cut_lt (xs : List Nat) (k : Nat) (hx : ∀ x ∈ xs, x < 4294967296) : Ltl (cutN xs k) k := by
  have h := val_lt (xs.take k) (fun x h => hx x (List.mem_of_mem_take h))
  refine Nat.lt_of_lt_of_le h (Nat.pow_le_pow_right (by decide) ?_)
  rw [List.length_take]; omega
theorem mul_lt {n m i j : Nat} (hn : Ltl n i) (hm : Ltl m j) : Ltl (n * m) (i + j) := by
  unfold Ltl at *
  rw [Nat.pow_add]; exact Nat.mul_lt_mul'' hn hm
theorem ladd_lt {n m i : Nat} (hn : Ltl n i) (hm : Ltl m i) : Ltl (n + m) (i + 1) := by
  unfold Ltl at *
  rw [Nat.pow_succ]; unfold LB at *; omega
theorem Ltl.le {n m i : Nat} (hn : Ltl n i) (h : m ≤ n) : Ltl m i := Nat.lt_of_le_of_lt h hn
theorem len398 {n k : Nat} (h : Ltl n k) (hk : k ≤ 398) : (limbs n).length ≤ 398 := Nat.le_trans (len_of h) hk
theorem lenG {n : Nat} (h : (limbs n).length ≤ 398) : (limbs n).length ≤ 1000000000 := Nat.le_trans h (by decide)
end Go.Proofs.YtikajmmeglookaaGreatDoor
/- The document's rests and products. -/
namespace Go.Proofs.YtikajmmeglookaaGreatDoor
open Go.RowKit
set_option linter.unusedVariables false
set_option maxHeartbeats 400000

theorem val_drop_one (xs : List Nat) (i : Nat) (h : i < xs.length) : val (xs.drop i) = lb xs i + 4294967296 * val (xs.drop (i + 1)) := by
  rw [List.drop_eq_getElem_cons h]
  simp only [val]
  congr 1
  unfold lb
  rw [List.getElem?_eq_getElem h]; rfl

set_option maxRecDepth 100000 in
set_option maxHeartbeats 8000000 in
theorem rschool_calls (w : World) (va vb : Value) (as_ bs : List Nat) (na nb : Nat) (ha : U w va as_) (hb : U w vb bs) (hna : as_.length = na) (hnb : bs.length = nb) (hn1 : na ≤ 1000) (hn2 : nb ≤ 1000) :
    Calls Tryz.prog 50 #[va, vb] w fun e w' => (∃ u, e = .returned u ∧ Un w' u (val as_ * val bs)) ∧ Ext w w' := by
  obtain ⟨A, ca, rfl, ⟨hca, hma⟩, hxl, hxr⟩ := id ha
  obtain ⟨A2, cb, rfl, ⟨hcb, hmb⟩, hyl, hyr⟩ := id hb
  have HL : Hid (as_.length = na ∧ bs.length = nb) := ⟨hna, hnb⟩
  have HTX := Lib.hid (fun k => lval_take_succ bs k)
  have HTY := Lib.hid (fun k => lval_take_succ as_ k)
  have HT2 : Hid (bs.take nb = bs ∧ as_.take na = as_) := ⟨by rw [← hnb]; exact List.take_length, by rw [← hna]; exact List.take_length⟩
  rw [hna] at hca hma hxr ⊢
  rw [hnb] at hcb hmb hyr ⊢
  obtain ⟨n, hnn⟩ : ∃ n, na + nb = n := ⟨_, rfl⟩
  have hni : (na : Int) + (nb : Int) = (n : Int) := by omega
  obtain ⟨i0, hi, hz0, hz1, hz2⟩ := info_parts info32
  obtain ⟨B, hB⟩ : ∃ B, w.heap.size = B := ⟨_, rfl⟩
  have HBS := Lib.hid hB
  clear ha hb hna hnb
  go_enter Tryz.func50, Tryz.ntmps50
  go_wp2_with (at_make; refine wpList_make_full _ rfl _ _ 22 rfl w.heap.size 23 i0 (.int .u32 0) 1 Tryz.underlying22 hi hz0 hz1 _ _ _ _ n rfl rfl (by omega) (by omega) (by rw [hz2]; omega) (by unfold maxLen; omega) (Nat.le_refl _) ?_; intro w1 hown hgrow)
  have ho0 : Own w1 w.heap.size (.slice (some ⟨w.heap.size, 0, none⟩) n n) (List.replicate n 0) := by
    have := Own.zeros hown
    rwa [List.length_replicate] at this
  have hE0 : Ext w w1 := (Ext.refl w).grown hgrow (Nat.le_refl _) (fun _ h => by cases h)
  rw [hB] at ho0
  clear hown hgrow hi hz0 hz1 hz2 i0
  have hS0 : Hid (LsI bs as_ n 0 (List.replicate n 0)) := ⟨by simp, fun x hx => by simp at hx; omega, by simp [val_replicate_zero, val], fun m _ => lb_zeros _ _⟩
  go_wp2
  go_loopw [6] (fun t wr => ∃ (i : Nat) (o : List Nat), i ≤ na ∧ t = .int .i64 (i : Nat) ∧ Hid (LsI bs as_ n i o) ∧ Own wr B (.slice (some ⟨B, 0, none⟩) n n) o ∧ Ext w wr) (fun t _ => na - (intOf t).toNat)
  case atStart => exact ⟨0, _, Nat.zero_le _, rfl, hS0, ho0, hE0⟩
  case round =>
    clear hS0 ho0 hE0
    obtain ⟨i, o, hib, rfl, HO, hown, hE⟩ := hrel
    by_cases hlt : i < na
    · obtain ⟨ad, rfl, hb1, hcell1⟩ := hxr (by omega)
      have hyb := lb_lt hxl i
      have hty := HTY.out i (by rw [HL.out.1]; exact hlt)
      obtain ⟨y, hyy⟩ : ∃ y, lb as_ i = y := ⟨_, rfl⟩
      rw [hyy] at hyb hty
      have HY := Lib.hid hyy
      have HS1 : Hid (LwI o n i (val o + LB ^ i * (val (bs.take 0) * y)) 0 o 0) := ⟨HO.out.len, HO.out.lt, by decide, by simp [val], fun m _ => rfl⟩
      have HTYI : Hid (val (as_.take (i + 1)) = val (as_.take i) + LB ^ i * y) := hty
      have hno : Hid (lb o (i + nb) = 0) := HO.out.out _ (by rw [HL.out.2]; exact Nat.le_refl _)
      clear hyy hty
      go_wp2
      go_loopw [8, 7] (fun t s wx => ∃ (j : Nat) (o2 : List Nat) (cy : Nat), j ≤ nb ∧ t = .int .i64 (j : Nat) ∧ s = .int .u64 (cy : Nat) ∧ Hid (LwI o n i (val o + LB ^ i * (val (bs.take j) * y)) j o2 cy) ∧ Own wx B (.slice (some ⟨B, 0, none⟩) n n) o2 ∧ Ext w wx) (fun t _ _ => nb - (intOf t).toNat)
      case atStart => exact ⟨0, o, 0, Nat.zero_le _, rfl, rfl, HS1, hown, hE⟩
      case round =>
        clear HS1 hown hE
        obtain ⟨j, o2, cy, hj, rfl, rfl, HW, hown, hE⟩ := hrel
        by_cases hjt : j < nb
        · obtain ⟨ad2, rfl, hb2, hcell2⟩ := hyr (by omega)
          have hc0 := (hE.cell (p := ad.add i) (by rw [addr_add_block]; exact hb1)).trans (hcell1 i hlt)
          rw [HY.out] at hc0
          have hc1 := (hE.cell (p := ad2.add j) (by rw [addr_add_block]; exact hb2)).trans (hcell2 j hjt)
          have hxb := lb_lt hyl j
          have htk := HTX.out j (by rw [HL.out.2]; exact hjt)
          have hcz := hown.rd.2 (i + j) (by rw [HW.out.len]; omega)
          have hf := hown.frozen' (i + j)
          have hzb := lb_lt HW.out.lt (i + j)
          have hcy := HW.out.cy1
          obtain ⟨x, hxx⟩ : ∃ x, lb bs j = x := ⟨_, rfl⟩
          rw [hxx] at hc1 hxb htk
          obtain ⟨z, hzz⟩ : ∃ z, lb o2 (i + j) = z := ⟨_, rfl⟩
          rw [hzz] at hcz hzb
          obtain ⟨t, ht⟩ : ∃ t, x * y = t := ⟨_, rfl⟩
          have ht1 : t ≤ 18446744065119617025 := by rw [← ht]; exact sq_lt hxb hyb
          have hti : (y : Int) * (x : Int) = (t : Int) := by rw [← ht, Int.natCast_mul, Int.mul_comm]
          obtain ⟨u, hu⟩ : ∃ u, cy + (t + z) = u := ⟨_, rfl⟩
          obtain ⟨s, hs⟩ : ∃ s, u % 4294967296 = s := ⟨_, rfl⟩
          obtain ⟨d, hd⟩ : ∃ d, u / 4294967296 = d := ⟨_, rfl⟩
          obtain ⟨hm, hsb, hdb, hub, htz⟩ := limb_math t z cy s d u ht1 hzb hcy hu hs hd
          have hst := HW.out.step (by omega) t s d (by rw [hzz]; exact hm) hsb hdb
          rw [Nat.add_assoc (val o), Nat.pow_add, Nat.mul_assoc, ← Nat.mul_add, ← ht, ← Nat.mul_assoc, ← Nat.add_mul, ← htk] at hst
          have HST := Lib.hid hst
          have hown2 := hown.set' (i + j) s
          have hE2 := hE.setCell (p := ⟨B, i + j, none⟩) (by rw [HBS.out]; exact Nat.le_refl _) (.int .u32 (s : Nat))
          have q1 : IntKind.u64.wrap (t : Int) = (t : Int) := by rw [IntKind.wrap_u64]; omega
          have q2 : IntKind.u64.wrap ((t : Int) + (z : Int)) = (t : Int) + (z : Int) := by rw [IntKind.wrap_u64]; omega
          have q3 : (t : Int) + (z : Int) + (cy : Int) = (u : Int) := by omega
          have q4 : IntKind.u64.wrap (u : Int) = (u : Int) := by rw [IntKind.wrap_u64]; omega
          have q5 : IntKind.u32.wrap (u : Int) = (s : Int) := by rw [IntKind.wrap_u32]; omega
          have q6 : (u : Int) % 4294967296 = (s : Int) := by omega
          have q7 : (u : Int) / 4294967296 = (d : Int) := by omega
          have q8 : IntKind.u64.wrap (x : Int) = (x : Int) := by rw [IntKind.wrap_u64]; omega
          have q9 : IntKind.u64.wrap (y : Int) = (y : Int) := by rw [IntKind.wrap_u64]; omega
          have q10 : IntKind.u64.wrap (z : Int) = (z : Int) := by rw [IntKind.wrap_u64]; omega
          have q11 : (u : Int) % 18446744073709551616 = (u : Int) := by omega
          have q12 : (t : Int) % 18446744073709551616 = (t : Int) := by omega
          have q13 : ((t : Int) + (z : Int)) % 18446744073709551616 = (t : Int) + (z : Int) := by omega
          have q14 : IntKind.i64.wrap ((i : Int) + (j : Int)) = (i : Int) + (j : Int) := IntWalk.i64_in _ (by omega)
          have q15 : (0 : Int) ≤ (i : Int) + (j : Int) := by omega
          have q16 : (i : Int) + (j : Int) < (n : Int) := by omega
          have q17 : ((i : Int) + (j : Int)).toNat = i + j := by omega
          have q18 : (0 : Int) ≤ (i : Int) := by omega
          have q19 : (i : Int) < (na : Int) := by omega
          have q20 : (0 : Int) ≤ (j : Int) := by omega
          have q21 : (j : Int) < (nb : Int) := by omega
          clear hst htk hxx hzz ht hu hs hd hm HW hxb hzb ht1 hcy hown2 hE2
          have HOWN := Lib.hid hown
          have HEE := Lib.hid hE
          clear hown hE
          go_wp2_with (fail)
          go_quiet (fail)
          have hown2 := (HOWN.out.ext (ext_drewN wr nq)).set' (i + j) s
          have hE2 := (HEE.out.below (ext_drewN wr nq)).setCell (p := ⟨B, i + j, none⟩) (by rw [HBS.out]; exact Nat.le_refl _) (.int .u32 (s : Nat))
          go_wp2
          go_roundw
          case rel => exact ⟨j + 1, _, d, by omega, by go_num, rfl, HST, hown2, hE2⟩
          case measure => simp [intOf]; omega
        · obtain rfl : j = nb := by omega
          have hcz := hown.rd.2 (i + j) (by rw [HW.out.len]; omega)
          have hf := hown.frozen' (i + j)
          have hl0 : lb o2 (i + j) = 0 := by rw [HW.out.out _ (Nat.le_refl _)]; exact hno.out
          have hws := lval_set o2 (i + j) cy (by rw [HW.out.len]; omega)
          rw [hl0, Nat.mul_zero, Nat.add_zero, HW.out.val, HT2.out.1] at hws
          have hcz' : (Value.int .u32 (lb o2 (i + j) : Nat)) = .int .u32 0 := by rw [hl0]; rfl
          rw [hcz'] at hcz
          have hcyb := HW.out.cy1
          have q5 : IntKind.u32.wrap (cy : Int) = (cy : Int) := by rw [IntKind.wrap_u32]; omega
          have q6 : (cy : Int) % 4294967296 = (cy : Int) := by omega
          have hown2 := hown.set' (i + j) cy
          have hE2 := hE.setCell (p := ⟨B, i + j, none⟩) (by rw [HBS.out]; exact Nat.le_refl _) (.int .u32 (cy : Nat))
          have HST : Hid (LsI bs as_ n (i + 1) (o2.set (i + j) cy)) := by
            refine ⟨by rw [List.length_set]; exact HW.out.len, set_lt HW.out.lt hcyb, ?_, fun m hm => ?_⟩
            · rw [hws, HTYI.out, Nat.mul_add, ← HO.out.val, Nat.mul_left_comm]
            · rw [HL.out.2] at hm
              rw [lb_set_other _ (by omega), HW.out.out _ (by omega)]
              exact HO.out.out m (by rw [HL.out.2]; omega)
          have g12 : (i : Int) + (j : Int) < (n : Int) := by omega
          have g13 : i + j < n := by omega
          clear hl0 hws hcz' hown hE HW hcyb HTYI hno
          go_wp2
          go_roundw
          case rel => exact ⟨i + 1, _, by omega, by go_num, HST, hown2, hE2⟩
          case measure => simp [intOf]; omega
    · obtain rfl : i = na := by omega
      have hu := hown.toU HO.out.lt (by rw [HO.out.len]; omega)
      have hvv := HO.out.val
      rw [HT2.out.2, Nat.mul_comm] at hvv
      have HV := Lib.hid hvv
      have hol := HO.out.len
      clear hown HO hvv
      go_wp2_with (fail)
      refine (rmake_calls _ _ _ hu (by omega)).mono ?_
      rintro e w2 ⟨⟨u, rfl, hu2⟩, hB2⟩
      rw [HV.out] at hu2
      have hE2 := hE.below hB2
      have HF : Hid (∃ u', Ending.returned u = .returned u' ∧ Un w2 u' (val as_ * val bs)) := ⟨_, rfl, hu2⟩
      clear hu2 hu hB2
      go_wp2
      go_ret
      exact ⟨HF.out, hE2⟩
end Go.Proofs.YtikajmmeglookaaGreatDoor
/- Sums of products among the arguments of a law. -/
namespace Go.Proofs.YtikajmmeglookaaGreatDoor
open Go.ChangeShapes Go.WideShapes Go.ChangeAt Go.RowKit
set_option linter.unusedVariables false
set_option maxRecDepth 100000
set_option maxHeartbeats 400000

theorem open_sums {H : Type} {enc : TypeId × Value → H} {W : World} {base : Nat} {v : Value} {d : DataW H} {ps : List MemPlace} (hval : Value.okWide Tryz.prog W .any base 85 v) (h : DataW.Trod enc Tryz.prog W 0 (fun _ => true) true 85 v d ps)
    (hlt : ∀ p ∈ ps, p.block < W.heap.size) : ∃ cs : List Nat, U3 W v cs ∧ ∀ x ∈ cs, x < 79228162514264337593543950336 := by
  obtain ⟨a0, len, cap, rfl⟩ := okWide_slice Tryz.underlying85 hval
  obtain ⟨fuel, hf⟩ := h
  rcases DataW.trod_slice Tryz.underlying85 hf with h0 | ⟨a, len', cap', elems, rest, n, _, hcs, _, hb, hl, hm, hlen, hel, hsp, hns⟩
  · have hcs := h0.1
    simp [Value.cells] at hcs
    obtain ⟨rfl, rfl, rfl⟩ := hcs
    exact ⟨[], U3.nil_ _ _ _, by simp⟩
  · simp [Value.cells] at hcs
    obtain ⟨rfl, rfl, rfl⟩ := hcs
    have hce : Tryz.prog.cellsOf 97 = 3 := by kernel_rfl
    have hc1 : Tryz.prog.cellsOf 23 = 1 := by kernel_rfl
    have each : ∀ i, i < len → ∃ S, S < 79228162514264337593543950336 ∧ W.cell? (a.add (i * 3)) = some (.int .u32 (S % 4294967296 : Nat)) ∧ W.cell? (a.add (i * 3 + 1)) = some (.int .u32 (S / 4294967296 % 4294967296 : Nat)) ∧ W.cell? (a.add (i * 3 + 2)) = some (.int .u32 (S / 18446744073709551616 % 4294967296 : Nat)) := by
      intro i hi
      have hi' := hel i hi
      rw [hce] at hi'
      rw [List.getElem?_eq_getElem (by rw [hlen]; exact hi)] at hi'
      obtain ⟨l, hl1, hl2⟩ := Option.bind_eq_some_iff.1 hi'
      obtain ⟨_, hll, hlc⟩ := World.cells?_some hl1
      match l, hll with
      | [c0, c1, c2], _ =>
        obtain ⟨y0, y1, y2, n', _, t0, t1, t2⟩ := trod_array3 Tryz.underlying97 hc1 hl2
        obtain ⟨z0, e0, _, w0⟩ := DataW.trod_int Tryz.underlying23 t0
        obtain ⟨z1, e1, _, w1⟩ := DataW.trod_int Tryz.underlying23 t1
        obtain ⟨z2, e2, _, w2⟩ := DataW.trod_int Tryz.underlying23 t2
        simp at e0 e1 e2
        subst e0 e1 e2
        have b0 := bounds_u32 w0
        have b1 := bounds_u32 w1
        have b2 := bounds_u32 w2
        obtain ⟨n0, rfl⟩ := Int.eq_ofNat_of_zero_le (show 0 ≤ z0 by omega)
        obtain ⟨n1, rfl⟩ := Int.eq_ofNat_of_zero_le (show 0 ≤ z1 by omega)
        obtain ⟨n2, rfl⟩ := Int.eq_ofNat_of_zero_le (show 0 ≤ z2 by omega)
        have k0 := hlc 0 (by decide)
        have k1 := hlc 1 (by decide)
        have k2 := hlc 2 (by decide)
        rw [addr_add_zero] at k0
        rw [addr_add_add] at k1 k2
        have s0 : n0 + 4294967296 * n1 + 18446744073709551616 * n2 < 79228162514264337593543950336 := by omega
        have s1 : (n0 + 4294967296 * n1 + 18446744073709551616 * n2) % 4294967296 = n0 := by omega
        have s2 : (n0 + 4294967296 * n1 + 18446744073709551616 * n2) / 4294967296 % 4294967296 = n1 := by omega
        have s3 : (n0 + 4294967296 * n1 + 18446744073709551616 * n2) / 18446744073709551616 % 4294967296 = n2 := by omega
        refine ⟨n0 + 4294967296 * n1 + 18446744073709551616 * n2, s0, ?_, ?_, ?_⟩
        · rw [s1, k0]; rfl
        · rw [s2, k1]; rfl
        · rw [s3, k2]; rfl
    have hex : ∃ f : Nat → Nat, ∀ i, i < len → f i < 79228162514264337593543950336 ∧ W.cell? (a.add (i * 3)) = some (.int .u32 (f i % 4294967296 : Nat)) ∧ W.cell? (a.add (i * 3 + 1)) = some (.int .u32 (f i / 4294967296 % 4294967296 : Nat)) ∧ W.cell? (a.add (i * 3 + 2)) = some (.int .u32 (f i / 18446744073709551616 % 4294967296 : Nat)) :=
      ⟨fun i => if h : i < len then Classical.choose (each i h) else 0, fun i h => by simp only [dif_pos h]; exact Classical.choose_spec (each i h)⟩
    obtain ⟨f, hfc⟩ := hex
    have hcl : ((List.range len).map f).length = len := by simp
    refine ⟨(List.range len).map f, ⟨some a, cap, by rw [hcl], ⟨by rw [hcl]; exact hl, by rw [hcl]; unfold maxLen at hm; omega⟩, fun h0 => ⟨a, rfl, ?_, fun j hj => ?_⟩⟩, fun x hx => ?_⟩
    · rw [hcl] at h0
      have hc := (hfc 0 h0).2.1
      rw [Nat.zero_mul, addr_add_zero] at hc
      unfold World.cell? at hc
      rcases Nat.lt_or_ge a.block W.heap.size with h | h
      · exact h
      · rw [Array.getElem?_eq_none h] at hc; cases hc
    · rw [hcl] at hj
      have hq : j / 3 < len := by omega
      have hlf := lb_fl ((List.range len).map f) (j / 3) (by rw [hcl]; exact hq)
      have hlm := lb_map len f (j / 3) hq
      rw [hlm] at hlf
      obtain ⟨_, g0, g1, g2⟩ := hfc (j / 3) hq
      rcases (show j = j / 3 * 3 ∨ j = j / 3 * 3 + 1 ∨ j = j / 3 * 3 + 2 by omega) with e | e | e
      · rw [e, hlf.1]; rw [← e] at g0 ⊢; exact g0
      · rw [e, hlf.2.1]; rw [← e] at g1 ⊢; exact g1
      · rw [e, hlf.2.2]; rw [← e] at g2 ⊢; exact g2
    · obtain ⟨i, hi, rfl⟩ := List.mem_map.1 hx
      exact (hfc i (List.mem_range.1 hi)).1
end Go.Proofs.YtikajmmeglookaaGreatDoor
/- Parts of sums of products. -/
namespace Go.Proofs.YtikajmmeglookaaGreatDoor
open Go.RowKit
set_option linter.unusedVariables false
set_option maxHeartbeats 400000

theorem cval_cut (xs : List Nat) (k : Nat) (h : k ≤ xs.length) : cval xs = cval (xs.take k) + LB ^ k * cval (xs.drop k) := by
  conv => lhs; rw [← List.take_append_drop k xs]
  rw [cval_append, List.length_take, Nat.min_eq_left h]
theorem cval_le (xs : List Nat) (h : ∀ x ∈ xs, x < 79228162514264337593543950336) : cval xs + LB ^ 3 ≤ LB ^ (xs.length + 3) := by
  induction xs with
  | nil => simp [cval]
  | cons x xs ih =>
    have h1 := ih fun y hy => h y (List.mem_cons_of_mem _ hy)
    have h2 := h x (List.mem_cons_self ..)
    have e : LB ^ ((x :: xs).length + 3) = LB * LB ^ (xs.length + 3) := by rw [List.length_cons, show xs.length + 1 + 3 = xs.length + 3 + 1 by omega, Nat.pow_succ, Nat.mul_comm]
    rw [e]
    have h3 := Nat.mul_le_mul_left LB h1
    rw [Nat.mul_add] at h3
    have e3 : LB ^ 3 = 79228162514264337593543950336 := by decide
    simp only [cval]
    rw [e3] at *
    unfold LB at *
    omega
theorem cval_ltl (xs : List Nat) (h : ∀ x ∈ xs, x < 79228162514264337593543950336) : Ltl (cval xs) (xs.length + 3) := by
  have := cval_le xs h
  have h3 : 0 < LB ^ 3 := by decide
  unfold Ltl
  omega
theorem fl_take (xs : List Nat) (k : Nat) (m : Nat) (hk : k ≤ xs.length) (hm : m < k * 3) : lb (fl (xs.take k)) m = lb (fl xs) m := by
  have h1 := lb_fl (xs.take k) (m / 3) (by rw [List.length_take]; omega)
  have h2 := lb_fl xs (m / 3) (by omega)
  rw [lb_take (by omega)] at h1
  rcases (show m = m / 3 * 3 ∨ m = m / 3 * 3 + 1 ∨ m = m / 3 * 3 + 2 by omega) with e | e | e
  · rw [e, h1.1, h2.1]
  · rw [e, h1.2.1, h2.2.1]
  · rw [e, h1.2.2, h2.2.2]
theorem fl_drop (xs : List Nat) (k : Nat) (m : Nat) (hm : k * 3 + m < xs.length * 3) : lb (fl (xs.drop k)) m = lb (fl xs) (k * 3 + m) := by
  have h1 := lb_fl (xs.drop k) (m / 3) (by rw [List.length_drop]; omega)
  have h2 := lb_fl xs (k + m / 3) (by omega)
  rw [lb_drop] at h1
  rcases (show m = m / 3 * 3 ∨ m = m / 3 * 3 + 1 ∨ m = m / 3 * 3 + 2 by omega) with e | e | e
  · rw [show k * 3 + m = (k + m / 3) * 3 by omega, h2.1]; rw [← h1.1]; congr 1
  · rw [show k * 3 + m = (k + m / 3) * 3 + 1 by omega, h2.2.1]; rw [← h1.2.1]; congr 1
  · rw [show k * 3 + m = (k + m / 3) * 3 + 2 by omega, h2.2.2]; rw [← h1.2.2]; congr 1
theorem U3.take_ {w : World} {A : Option Addr} {n c : Nat} {xs : List Nat} (h : U3 w (.slice A n c) xs) {k c' : Nat} (hk : k ≤ n) (hc' : k ≤ c') : U3 w (.slice A k c') (xs.take k) := by
  obtain ⟨A', c0, hv, hc, hr⟩ := h
  injection hv with h1 h2 h3
  subst h1 h2 h3
  have hlen : (xs.take k).length = k := by simp; omega
  refine ⟨_, c', by rw [hlen], by omega, fun h0 => ?_⟩
  obtain ⟨ad, hA, hb, hcell⟩ := hr (by omega)
  refine ⟨ad, hA, hb, fun j hj => ?_⟩
  rw [hlen] at hj
  rw [hcell j (by omega), fl_take xs k j hk hj]
theorem U3.drop_ {w : World} {ad : Addr} {n c : Nat} {xs : List Nat} (h : U3 w (.slice (some ad) n c) xs) {k m c' : Nat} (hk : k ≤ n) (hm : n - k = m) (hc' : m ≤ c') : U3 w (.slice (some (ad.add (k * 3))) m c') (xs.drop k) := by
  obtain ⟨A', c0, hv, hc, hr⟩ := h
  injection hv with h1 h2 h3
  subst h1 h2 h3
  have hlen : (xs.drop k).length = m := by simp; omega
  refine ⟨_, c', by rw [hlen], by omega, fun h0 => ?_⟩
  obtain ⟨ad', hA, hb, hcell⟩ := hr (by omega)
  injection hA with hA
  subst hA
  refine ⟨_, rfl, by rw [addr_add_block]; exact hb, fun j hj => ?_⟩
  rw [hlen] at hj
  rw [addr_add_add, hcell (k * 3 + j) (by omega), fl_drop xs k j (by omega)]
theorem U3.shape {w : World} {v : Value} {xs : List Nat} (h : U3 w v xs) : ∃ A c, v = .slice A xs.length c ∧ xs.length ≤ c := by
  obtain ⟨A, c, rfl, hc, _⟩ := h; exact ⟨A, c, rfl, hc.1⟩
end Go.Proofs.YtikajmmeglookaaGreatDoor
/- The document's powers, and carried sums. -/
namespace Go.Proofs.YtikajmmeglookaaGreatDoor
open Go.RowKit
set_option linter.unusedVariables false
set_option maxHeartbeats 400000

theorem rschoolX_B (w : World) (va vb : Value) (n m k : Nat) (ha : Un w va n) (hb : Un w vb m) (hn : (limbs n).length ≤ 398) (hm : (limbs m).length ≤ 398) (hk : n * m = k) :
    Calls Tryz.prog 50 #[va, vb] w fun e w' => ∃ u, e = .returned u ∧ Un w' u k ∧ Ext w w' := by
  refine (rschool_calls w va vb _ _ _ _ ha hb rfl rfl (by omega) (by omega)).mono ?_
  rw [val_limbs, val_limbs, hk]
  rintro e w' ⟨⟨u, h1, h2⟩, h3⟩
  exact ⟨u, h1, h2, h3⟩

/-- The sums of the first i places are carried. -/
structure RcI (cs : List Nat) (m i : Nat) (o : List Nat) : Prop where
  len : o.length = m
  lt : ∀ x ∈ o, x < 4294967296
  val : val o = cval (cs.take i)
theorem rc_math (z t cr u s d : Nat) (hz : z < 4294967296) (ht : t < 4294967296) (hc : cr < 4294967296) (hu : z + cr + t = u) (hs : u % 4294967296 = s) (hd : u / 4294967296 = d) :
    z + t + cr = s + LB * d ∧ s < 4294967296 ∧ d < 4294967296 ∧ u < 18446744073709551616 := by
  unfold LB
  refine ⟨by omega, by omega, by omega, by omega⟩

end Go.Proofs.YtikajmmeglookaaGreatDoor
/- The document's own Add. -/
namespace Go.Proofs.YtikajmmeglookaaGreatDoor
open Go.RowKit
set_option linter.unusedVariables false
set_option maxHeartbeats 400000
attribute [local go_sem ↓] app_shut
attribute [local go_sem] run_append_tok

/-- The value of the first k places. -/
def pv (xs : List Nat) (k : Nat) : Nat := val ((List.range k).map fun j => lb xs j)
theorem pv_zero (xs : List Nat) : pv xs 0 = 0 := rfl
theorem pv_succ (xs : List Nat) (k : Nat) : pv xs (k + 1) = pv xs k + lb xs k * 4294967296 ^ k := by
  unfold pv
  rw [List.range_succ, List.map_append, val_append]
  simp only [List.map_cons, List.map_nil, val, Nat.mul_zero, Nat.add_zero, List.length_map, List.length_range]
  rw [Nat.mul_comm]
theorem pv_all (xs : List Nat) (L : Nat) (h : xs.length ≤ L) : pv xs L = val xs := range_lb xs L h
theorem pv_lt (xs : List Nat) (k : Nat) (h : ∀ x ∈ xs, x < 4294967296) : pv xs k < 4294967296 ^ k := by
  have := val_lt ((List.range k).map fun j => lb xs j) (by intro x hx; obtain ⟨j, _, rfl⟩ := List.mem_map.1 hx; exact lb_lt h j)
  simpa [pv] using this
theorem val_snoc (o : List Nat) (x : Nat) : val (o ++ [x]) = val o + x * 4294967296 ^ o.length := by
  rw [val_append]; simp only [val, Nat.mul_zero, Nat.add_zero]; rw [Nat.mul_comm]

/-- The limbs of a sum so far, and what is carried. -/
structure RAdd (xs ys : List Nat) (k : Nat) (o : List Nat) (c : Nat) : Prop where
  len : o.length = k
  lt : ∀ x ∈ o, x < 4294967296
  carry : c ≤ 1
  val_eq : val o + c * 4294967296 ^ k = pv xs k + pv ys k
theorem RAdd.start (xs ys : List Nat) : RAdd xs ys 0 [] 0 := ⟨rfl, by simp, by omega, rfl⟩
theorem RAdd.step {xs ys : List Nat} {k : Nat} {o : List Nat} {c : Nat} (h : RAdd xs ys k o c) (hx : ∀ x ∈ xs, x < 4294967296) (hy : ∀ x ∈ ys, x < 4294967296) :
    RAdd xs ys (k + 1) (o ++ [(lb xs k + lb ys k + c) % 4294967296]) ((lb xs k + lb ys k + c) / 4294967296) := by
  have h1 := lb_lt hx k
  have h2 := lb_lt hy k
  have h3 := h.carry
  refine ⟨by simp [h.len], snoc_lt h.lt (Nat.mod_lt _ (by decide)), by omega, ?_⟩
  rw [val_snoc, pv_succ, pv_succ, h.len, Nat.pow_succ]
  have e := h.val_eq
  generalize 4294967296 ^ k = B at *
  generalize lb xs k = p at *
  generalize lb ys k = q at *
  have e4 : (p + q + c) * B = (p + q + c) % 4294967296 * B + (p + q + c) / 4294967296 * 4294967296 * B := by
    conv => lhs; rw [show p + q + c = (p + q + c) % 4294967296 + (p + q + c) / 4294967296 * 4294967296 by omega]
    rw [Nat.add_mul]
  rw [Nat.add_mul, Nat.add_mul] at e4
  have e5 : (p + q + c) / 4294967296 * (B * 4294967296) = (p + q + c) / 4294967296 * 4294967296 * B := by
    rw [Nat.mul_comm B 4294967296, ← Nat.mul_assoc]
  rw [e5]
  omega
theorem RAdd.done {xs ys : List Nat} {k : Nat} {o : List Nat} {c : Nat} (h : RAdd xs ys (k + 1) o c) (hx : ∀ x ∈ xs, x < 4294967296) (hy : ∀ x ∈ ys, x < 4294967296) (h1 : xs.length ≤ k) (h2 : ys.length ≤ k) :
    val o = val xs + val ys := by
  have e := h.val_eq
  have a1 := pv_lt xs k hx
  have a2 := pv_lt ys k hy
  rw [pv_all xs _ (by omega)] at e a1
  rw [pv_all ys _ (by omega)] at e a2
  have h3 := h.carry
  rw [Nat.pow_succ] at e
  have hB : 0 < 4294967296 ^ k := Nat.pow_pos (by decide)
  generalize 4294967296 ^ k = B at *
  have : c = 0 ∨ c = 1 := by omega
  rcases this with rfl | rfl <;> omega

/-- One limb more. -/
theorem zpush_own {w0 w : World} (hB : Below w0.heap.size w0 w) {v : Value} {o : List Nat} (hown : Own w w0.heap.size v o) (z : Int) (x : Nat) (hz : z = (x : Int)) (hx : x < 4294967296) (hlen : o.length + 1 ≤ 35184372088832) :
    ∃ v' w', (Builtin.append_ #[22, 22] 22 #[v, .slice (some ⟨w.heap.size, 0, none⟩) 1 1]).run Tryz.prog (w.alloc (.cells #[.int .u32 z] 23)) = .ok v' w' ∧ Own w' w0.heap.size v' (o ++ [x]) ∧ Below w0.heap.size w0 w' := by
  subst hz
  have hu : U (w.alloc (.cells #[.int .u32 (x : Int)] 23)) (.slice (some ⟨w.heap.size, 0, none⟩) 1 1) [x] := U_lit w [x] (by simpa using hx) (by simp)
  have hB1 := hB.alloc hB.size (.cells #[.int .u32 (x : Int)] 23)
  obtain ⟨v', w', hrun, ho, hg⟩ := run_append_U _ w0.heap.size _ o (World.ownsRow.alloc hown _) _ _ hu (by simpa using hlen) hB1.size
  exact ⟨v', w', hrun, ho, hB1.grown hg hB1.size (fun j e => (World.ownsRow.lt hown j e).1)⟩

set_option maxRecDepth 100000 in
theorem radd_calls (w : World) (v u : Value) (xs ys : List Nat) (h : U w v xs) (g : U w u ys) (hl : xs.length ≤ 100000000) (hl2 : ys.length ≤ 100000000) :
    Calls Tryz.prog 28 #[v, u] w fun e w' => (∃ z, e = .returned z ∧ U w' z (limbs (val xs + val ys))) ∧ Below w.heap.size w w' := by
  obtain ⟨A, c, rfl, ⟨hc, hm⟩, hx, hr⟩ := id h
  obtain ⟨A2, c2, rfl, ⟨hc2, hm2⟩, hx2, hr2⟩ := id g
  clear hr hr2
  go_enter Tryz.func28, Tryz.ntmps28
  go_wp2_with (fail)
  have hown0 : Own (w.alloc (.cells #[] 23)) w.heap.size (.slice (some ⟨w.heap.size, 0, none⟩) 0 0) [] := World.ownsRow_lit w #[] 0 (Nat.le_refl _) (Nat.zero_le _) rfl
  have hB0 : Below w.heap.size w (w.alloc (.cells #[] 23)) := (Below.refl _ _).alloc (Nat.le_refl _) _
  go_loopw [5, 6, 7] (fun s cv i wr => ∃ (k cy : Nat) (o : List Nat), k ≤ max xs.length ys.length + 1 ∧ i = .int .i64 k ∧ cv = .int .u64 cy ∧ Hid (RAdd xs ys k o cy) ∧ Own wr w.heap.size s o ∧ Below w.heap.size w wr) (fun _ _ i _ => max xs.length ys.length + 2 - (intOf i).toNat)
  case atStart => exact ⟨0, 0, [], Nat.zero_le _, rfl, rfl, RAdd.start xs ys, hown0, hB0⟩
  case round =>
    clear hown0 hB0
    obtain ⟨k, cy, o, hk, rfl, rfl, HO, hown, hB⟩ := hrel
    by_cases hd1 : k ≤ xs.length
    · have h1 := lb_lt hx k
      have h2 := lb_lt hx2 k
      have h3 := HO.out.carry
      have hlen := HO.out.len
      obtain ⟨x1, hx1⟩ : ∃ x1, (lb xs k + lb ys k + cy) % 4294967296 = x1 := ⟨_, rfl⟩
      obtain ⟨c1, hc1⟩ : ∃ c1, (lb xs k + lb ys k + cy) / 4294967296 = c1 := ⟨_, rfl⟩
      have HO2 : Hid (RAdd xs ys (k + 1) (o ++ [x1]) c1) := by rw [Hid, ← hx1, ← hc1]; exact HO.out.step hx hx2
      obtain ⟨v', w', hrun, hown', hB'⟩ := zpush_own hB hown ((((lb xs k : Nat) : Int) + ((lb ys k : Nat) : Int) + (cy : Int)) % 4294967296) x1 (by rw [← hx1]; omega) (by rw [← hx1]; exact Nat.mod_lt _ (by decide)) (by omega)
      obtain ⟨t1, t2, t3⟩ := app_tok hrun
      have hk2 : k + 1 ≤ max xs.length ys.length + 1 := by omega
      have HC1 : Hid ((((lb xs k : Nat) : Int) + ((lb ys k : Nat) : Int) + (cy : Int)) / 4294967296 = (c1 : Int)) := by rw [Hid, ← hc1]; omega
      clear hrun hx1 hc1 hlen
      go_wp2_with (fail)
      refine (rlimb_at _ _ xs _ k rfl (h.below hB)).mono ?_
      rintro e w' ⟨rfl, rfl⟩
      go_wp2_with (fail)
      refine (rlimb_at _ _ ys _ k rfl (g.below hB)).mono ?_
      rintro e w' ⟨rfl, rfl⟩
      go_wp2_with (fail)
      go_roundw
      case rel => exact ⟨k + 1, c1, _, hk2, by go_num, by rw [HC1.out], HO2, hown', hB'⟩
      case measure => simp [intOf]; omega
    · by_cases hd2 : k ≤ ys.length
      · have h1 := lb_lt hx k
        have h2 := lb_lt hx2 k
        have h3 := HO.out.carry
        have hlen := HO.out.len
        obtain ⟨x1, hx1⟩ : ∃ x1, (lb xs k + lb ys k + cy) % 4294967296 = x1 := ⟨_, rfl⟩
        obtain ⟨c1, hc1⟩ : ∃ c1, (lb xs k + lb ys k + cy) / 4294967296 = c1 := ⟨_, rfl⟩
        have HO2 : Hid (RAdd xs ys (k + 1) (o ++ [x1]) c1) := by rw [Hid, ← hx1, ← hc1]; exact HO.out.step hx hx2
        obtain ⟨v', w', hrun, hown', hB'⟩ := zpush_own hB hown ((((lb xs k : Nat) : Int) + ((lb ys k : Nat) : Int) + (cy : Int)) % 4294967296) x1 (by rw [← hx1]; omega) (by rw [← hx1]; exact Nat.mod_lt _ (by decide)) (by omega)
        obtain ⟨t1, t2, t3⟩ := app_tok hrun
        have hk2 : k + 1 ≤ max xs.length ys.length + 1 := by omega
        have HC1 : Hid ((((lb xs k : Nat) : Int) + ((lb ys k : Nat) : Int) + (cy : Int)) / 4294967296 = (c1 : Int)) := by rw [Hid, ← hc1]; omega
        clear hrun hx1 hc1 hlen
        go_wp2_with (fail)
        refine (rlimb_at _ _ xs _ k rfl (h.below hB)).mono ?_
        rintro e w' ⟨rfl, rfl⟩
        go_wp2_with (fail)
        refine (rlimb_at _ _ ys _ k rfl (g.below hB)).mono ?_
        rintro e w' ⟨rfl, rfl⟩
        go_wp2_with (fail)
        go_roundw
        case rel => exact ⟨k + 1, c1, _, hk2, by go_num, by rw [HC1.out], HO2, hown', hB'⟩
        case measure => simp [intOf]; omega
      · have hlen := HO.out.len
        obtain ⟨j, rfl⟩ : ∃ j, k = j + 1 := ⟨k - 1, by omega⟩
        have HV : Hid (val o = val xs + val ys) := HO.out.done hx hx2 (by omega) (by omega)
        have hu := hown.toU HO.out.lt (by omega)
        have hol : o.length ≤ 1000000000 := by omega
        clear hlen
        go_wp2_with (fail)
        refine (rmake_calls _ _ _ hu hol).mono ?_
        rintro e w' ⟨⟨z, rfl, hz⟩, hB2⟩
        rw [HV.out] at hz
        replace hB := Below.trans hB (Below.mono hB2 hB.size)
        go_wp2
        go_ret
        exact ⟨⟨_, rfl, hz⟩, hB⟩
end Go.Proofs.YtikajmmeglookaaGreatDoor
/- The document's own Sub. -/
namespace Go.Proofs.YtikajmmeglookaaGreatDoor
open Go.RowKit
set_option linter.unusedVariables false
set_option maxHeartbeats 400000
attribute [local go_sem ↓] app_shut
attribute [local go_sem] run_append_tok

/-- The limbs of a difference so far, and what is borrowed. -/
structure RSub (xs ys : List Nat) (k : Nat) (o : List Nat) (c : Nat) : Prop where
  len : o.length = k
  lt : ∀ x ∈ o, x < 4294967296
  carry : c ≤ 1
  val_eq : val o + pv ys k = pv xs k + c * 4294967296 ^ k
theorem RSub.start (xs ys : List Nat) : RSub xs ys 0 [] 0 := ⟨rfl, by simp, by omega, rfl⟩
theorem RSub.step {xs ys : List Nat} {k : Nat} {o : List Nat} {c : Nat} (h : RSub xs ys k o c) (hx : ∀ x ∈ xs, x < 4294967296) (hy : ∀ x ∈ ys, x < 4294967296) :
    RSub xs ys (k + 1) (o ++ [(4294967296 + lb xs k - lb ys k - c) % 4294967296]) (1 - (4294967296 + lb xs k - lb ys k - c) / 4294967296) := by
  have h1 := lb_lt hx k
  have h2 := lb_lt hy k
  have h3 := h.carry
  refine ⟨by simp [h.len], snoc_lt h.lt (Nat.mod_lt _ (by decide)), by omega, ?_⟩
  rw [val_snoc, pv_succ, pv_succ, h.len, Nat.pow_succ]
  have e := h.val_eq
  generalize 4294967296 ^ k = B at *
  generalize lb xs k = p at *
  generalize lb ys k = q at *
  obtain ⟨d, hd⟩ : ∃ d, (4294967296 + p - q - c) % 4294967296 = d := ⟨_, rfl⟩
  obtain ⟨f, hf⟩ : ∃ f, 1 - (4294967296 + p - q - c) / 4294967296 = f := ⟨_, rfl⟩
  have e3 : d + q + c = p + f * 4294967296 := by omega
  rw [hd, hf]
  have e4 : (d + q + c) * B = (p + f * 4294967296) * B := by rw [e3]
  rw [Nat.add_mul, Nat.add_mul, Nat.add_mul] at e4
  have e5 : f * (B * 4294967296) = f * 4294967296 * B := by
    rw [Nat.mul_comm B 4294967296, ← Nat.mul_assoc]
  rw [e5]
  omega
theorem RSub.done {xs ys : List Nat} {o : List Nat} {c : Nat} (h : RSub xs ys xs.length o c) (hl : ys.length ≤ xs.length) (hge : val ys ≤ val xs) : val o = val xs - val ys := by
  have e := h.val_eq
  rw [pv_all xs _ (Nat.le_refl _), pv_all ys _ hl] at e
  have hlt := val_lt o h.lt
  rw [h.len] at hlt
  have hc := h.carry
  generalize 4294967296 ^ xs.length = B at *
  have : c = 0 ∨ c = 1 := by omega
  rcases this with rfl | rfl <;> omega

set_option maxRecDepth 100000 in
theorem rsub_calls (w : World) (v u : Value) (n m : Nat) (h : Un w v n) (g : Un w u m) (hl : (limbs n).length ≤ 100000000) (hl2 : (limbs m).length ≤ 100000000) (b : Bool) (hb : decide (m ≤ n) = b) (d : Nat) (hd : n - m = d) :
    Calls Tryz.prog 34 #[v, u] w fun e w' => (∃ z, e = .returned (.tuple #[z, .bool b]) ∧ Un w' z d) ∧ Below w.heap.size w w' := by
  obtain ⟨A, c, rfl, ⟨hc, hm⟩, hx, hr⟩ := id h
  obtain ⟨A2, c2, rfl, ⟨hc2, hm2⟩, hx2, hr2⟩ := id g
  clear hr hr2
  rcases Nat.lt_or_ge n m with hlt | hge
  · have HF : Hid (cmpI (val (limbs n) : Nat) (val (limbs m) : Nat) = -1) := by rw [Hid, val_limbs, val_limbs]; exact cmpI_lt (Int.ofNat_lt.2 hlt)
    obtain rfl : d = 0 := by omega
    obtain rfl : b = false := by rw [← hb, decide_eq_false_iff_not]; omega
    clear hb hd hlt
    go_enter Tryz.func34, Tryz.ntmps34
    go_wp2_with (fail)
    refine (rcmp_calls _ _ _ _ _ h g (by omega) (by omega)).mono ?_
    rintro e w' ⟨rfl, rfl⟩
    rw [HF.out]
    go_wp2
    go_ret2
    exact ⟨⟨_, rfl, Un_nil _⟩, Below.refl _ _⟩
  · have HF : Hid (0 ≤ cmpI (val (limbs n) : Nat) (val (limbs m) : Nat)) := by
      rw [Hid, val_limbs, val_limbs]
      rcases Nat.lt_or_ge m n with h1 | h1
      · rw [cmpI_gt (Int.ofNat_lt.2 h1)]; decide
      · obtain rfl : n = m := by omega
        rw [cmpI_eq]; decide
    obtain rfl : b = true := by rw [← hb, decide_eq_true_iff]; omega
    have HD := Lib.hid hd
    have HG := Lib.hid hge
    have hll := len_mono hge
    clear hb hd hge
    obtain ⟨K, hK⟩ : ∃ K, cmpI (val (limbs n) : Nat) (val (limbs m) : Nat) = K := ⟨_, rfl⟩
    have hK0 : 0 ≤ K := by rw [← hK]; exact HF.out
    clear HF
    go_enter Tryz.func34, Tryz.ntmps34
    go_wp2_with (fail)
    refine (rcmp_calls _ _ _ _ _ h g (by omega) (by omega)).mono ?_
    rintro e w' ⟨rfl, rfl⟩
    rw [hK]
    clear hK
    go_wp2_with (fail)
    have hown0 : Own (w.alloc (.cells #[] 23)) w.heap.size (.slice (some ⟨w.heap.size, 0, none⟩) 0 0) [] := World.ownsRow_lit w #[] 0 (Nat.le_refl _) (Nat.zero_le _) rfl
    have hB0 : Below w.heap.size w (w.alloc (.cells #[] 23)) := (Below.refl _ _).alloc (Nat.le_refl _) _
    go_loopw [6, 7, 8] (fun s cv i wr => ∃ (k cy : Nat) (o : List Nat), k ≤ (limbs n).length ∧ i = .int .i64 k ∧ cv = .int .u64 cy ∧ Hid (RSub (limbs n) (limbs m) k o cy) ∧ Own wr w.heap.size s o ∧ Below w.heap.size w wr) (fun _ _ i _ => (limbs n).length - (intOf i).toNat)
    case atStart => exact ⟨0, 0, [], Nat.zero_le _, rfl, rfl, RSub.start _ _, hown0, hB0⟩
    case round =>
      clear hown0 hB0
      obtain ⟨k, cy, o, hk, rfl, rfl, HO, hown, hB⟩ := hrel
      by_cases hd1 : k < (limbs n).length
      · have h1 := lb_lt hx k
        have h2 := lb_lt hx2 k
        have h3 := HO.out.carry
        have hlen := HO.out.len
        obtain ⟨x1, hx1⟩ : ∃ x1, (4294967296 + lb (limbs n) k - lb (limbs m) k - cy) % 4294967296 = x1 := ⟨_, rfl⟩
        obtain ⟨c1, hc1⟩ : ∃ c1, 1 - (4294967296 + lb (limbs n) k - lb (limbs m) k - cy) / 4294967296 = c1 := ⟨_, rfl⟩
        have HO2 : Hid (RSub (limbs n) (limbs m) (k + 1) (o ++ [x1]) c1) := by rw [Hid, ← hx1, ← hc1]; exact HO.out.step hx hx2
        obtain ⟨v', w', hrun, hown', hB'⟩ := zpush_own hB hown ((4294967296 + ((lb (limbs n) k : Nat) : Int) - ((lb (limbs m) k : Nat) : Int) - (cy : Int)) % 4294967296) x1 (by rw [← hx1]; omega) (by rw [← hx1]; exact Nat.mod_lt _ (by decide)) (by omega)
        obtain ⟨t1, t2, t3⟩ := app_tok hrun
        have HC1 : Hid (1 - (4294967296 + ((lb (limbs n) k : Nat) : Int) - ((lb (limbs m) k : Nat) : Int) - (cy : Int)) / 4294967296 = (c1 : Int)) := by rw [Hid, ← hc1]; omega
        clear hrun hx1 hc1 hlen
        go_wp2_with (fail)
        refine (rlimb_at _ _ (limbs n) _ k rfl (U.below h hB)).mono ?_
        rintro e w' ⟨rfl, rfl⟩
        go_wp2_with (fail)
        refine (rlimb_at _ _ (limbs m) _ k rfl (U.below g hB)).mono ?_
        rintro e w' ⟨rfl, rfl⟩
        go_wp2_with (fail)
        go_roundw
        case rel => exact ⟨k + 1, c1, _, by omega, by go_num, by rw [HC1.out], HO2, hown', hB'⟩
        case measure => simp [intOf]; omega
      · have hlen := HO.out.len
        obtain rfl : k = (limbs n).length := by omega
        have HV : Hid (val o = d) := by rw [Hid, HO.out.done hll (by rw [val_limbs, val_limbs]; exact HG.out), val_limbs, val_limbs]; exact HD.out
        have hu := hown.toU HO.out.lt (by omega)
        have hol : o.length ≤ 1000000000 := by omega
        clear hlen
        go_wp2_with (fail)
        refine (rmake_calls _ _ _ hu hol).mono ?_
        rintro e w' ⟨⟨z, rfl, hz⟩, hB2⟩
        have hz2 : Un w' z d := by rw [← HV.out]; exact hz
        replace hB := Below.trans hB (Below.mono hB2 hB.size)
        clear hz
        go_wp2
        go_ret2
        exact ⟨⟨_, rfl, hz2⟩, hB⟩
end Go.Proofs.YtikajmmeglookaaGreatDoor
/- The document's own Shl. -/
namespace Go.Proofs.YtikajmmeglookaaGreatDoor
open Go.RowKit
set_option linter.unusedVariables false
set_option maxHeartbeats 400000
attribute [local go_sem ↓] app_shut
attribute [local go_sem] run_append_tok

/-- The limbs of a number times P, behind q noughts, so far, and what is carried. -/
structure RShl (xs : List Nat) (q P k : Nat) (o : List Nat) (c : Nat) : Prop where
  len : o.length = q + k
  lt : ∀ x ∈ o, x < 4294967296
  carry : c < P
  val_eq : val o + c * 4294967296 ^ (q + k) = pv xs k * P * 4294967296 ^ q
theorem RShl.start (xs : List Nat) (q P : Nat) (hP : 0 < P) : RShl xs q P 0 (List.replicate q 0) 0 :=
  ⟨by simp, by intro x hx; have := List.eq_of_mem_replicate hx; omega, hP, by rw [val_replicate_zero, pv_zero]; simp⟩
theorem RShl.step {xs : List Nat} {q P k : Nat} {o : List Nat} {c : Nat} (h : RShl xs q P k o c) (hx : ∀ x ∈ xs, x < 4294967296) :
    RShl xs q P (k + 1) (o ++ [(lb xs k * P + c) % 4294967296]) ((lb xs k * P + c) / 4294967296) := by
  have h1 := lb_lt hx k
  have h3 := h.carry
  have h4 : lb xs k * P + c < 4294967296 * P := by
    have := Nat.mul_le_mul_right P (show lb xs k + 1 ≤ 4294967296 by omega)
    rw [Nat.add_mul] at this; omega
  refine ⟨by simp [h.len]; omega, snoc_lt h.lt (Nat.mod_lt _ (by decide)), by rw [Nat.div_lt_iff_lt_mul (by decide), Nat.mul_comm P]; exact h4, ?_⟩
  rw [val_snoc, pv_succ, h.len, ← Nat.add_assoc, Nat.pow_succ, Nat.pow_add 4294967296 q k]
  have e := h.val_eq
  rw [Nat.pow_add] at e
  generalize 4294967296 ^ k = B at *
  generalize 4294967296 ^ q = C at *
  obtain ⟨X, hX⟩ : ∃ X, lb xs k * P + c = X := ⟨_, rfl⟩
  have e3 : X = X % 4294967296 + X / 4294967296 * 4294967296 := by omega
  have e4 : X * (C * B) = X % 4294967296 * (C * B) + X / 4294967296 * (C * B * 4294967296) := by
    conv => lhs; rw [e3]
    rw [Nat.add_mul, Nat.mul_assoc (X / 4294967296), Nat.mul_comm 4294967296]
  have e5 : X * (C * B) = lb xs k * P * (C * B) + c * (C * B) := by rw [← hX, Nat.add_mul]
  have e6 : lb xs k * P * (C * B) = lb xs k * B * P * C := by
    rw [Nat.mul_comm C B, ← Nat.mul_assoc, Nat.mul_right_comm (lb xs k) P B]
  rw [hX, Nat.add_mul, Nat.add_mul]
  omega
theorem RShl.done {xs : List Nat} {q P k : Nat} {o : List Nat} {c : Nat} (h : RShl xs q P (k + 1) o c) (hx : ∀ x ∈ xs, x < 4294967296) (h1 : xs.length ≤ k) (hP : P < 4294967296) :
    val o = val xs * P * 4294967296 ^ q := by
  have e := h.val_eq
  have a1 := pv_lt xs k hx
  rw [pv_all xs _ (by omega)] at e a1
  have hc : c = 0 := by
    rcases Nat.eq_zero_or_pos c with h0 | h0
    · exact h0
    · exfalso
      have b1 : 4294967296 ^ (q + (k + 1)) ≤ c * 4294967296 ^ (q + (k + 1)) := Nat.le_mul_of_pos_left _ h0
      have b2 : val xs * P < 4294967296 ^ (k + 1) := by
        rw [Nat.pow_succ]
        exact Nat.mul_lt_mul'' a1 hP
      have b3 : val xs * P * 4294967296 ^ q < 4294967296 ^ (k + 1) * 4294967296 ^ q := Nat.mul_lt_mul_of_pos_right b2 (Nat.pow_pos (by decide))
      rw [← Nat.pow_add, Nat.add_comm (k + 1) q] at b3
      omega
  subst hc
  omega

set_option maxRecDepth 100000 in
theorem rshl_calls (w : World) (v : Value) (n : Nat) (k0 : Nat) (hk : k0 ≤ 100000000) (h : Un w v n) (hl : (limbs n).length ≤ 100000000) :
    Calls Tryz.prog 25 #[v, .int .i64 (k0 : Int)] w fun e w' => (∃ u, e = .returned u ∧ Un w' u (n * 2 ^ k0)) ∧ Below w.heap.size w w' := by
  obtain ⟨A, c, rfl, ⟨hc, hm⟩, hx, hr⟩ := id h
  clear hr
  obtain ⟨Q, hQ⟩ : ∃ Q, k0 / 32 = Q := ⟨_, rfl⟩
  obtain ⟨S, hS⟩ : ∃ S, k0 % 32 = S := ⟨_, rfl⟩
  have eQ : (k0 : Int) / 32 = (Q : Int) := by omega
  have eS : (k0 : Int) % 32 = (S : Int) := by omega
  have HK : Hid (k0 = 32 * Q + S) := by rw [Hid]; omega
  have hS32 : S < 32 := by omega
  have hQ1 : Q ≤ 100000000 := by omega
  go_enter Tryz.func25, Tryz.ntmps25
  go_wp2_with (fail)
  have hown0 : Own (w.alloc (.cells #[] 23)) w.heap.size (.slice (some ⟨w.heap.size, 0, none⟩) 0 0) [] := World.ownsRow_lit w #[] 0 (Nat.le_refl _) (Nat.zero_le _) rfl
  have hB0 : Below w.heap.size w (w.alloc (.cells #[] 23)) := (Below.refl _ _).alloc (Nat.le_refl _) _
  go_loopw [5, 8] (fun s i wr => ∃ k : Nat, k ≤ Q ∧ i = .int .i64 k ∧ Own wr w.heap.size s (List.replicate k 0) ∧ Below w.heap.size w wr) (fun _ i _ => Q - (intOf i).toNat)
  case atStart => exact ⟨0, Nat.zero_le _, rfl, hown0, hB0⟩
  case round =>
    clear hown0 hB0
    obtain ⟨k, hk1, rfl, hown, hB⟩ := hrel
    by_cases hd1 : k < Q
    · obtain ⟨v', w', hrun, hown', hB'⟩ := zpush_own hB hown 0 0 rfl (by decide) (by simp; omega)
      obtain ⟨t1, t2, t3⟩ := app_tok hrun
      rw [← List.replicate_succ'] at hown'
      clear hrun
      go_wp2
      go_roundw
      case rel => exact ⟨k + 1, by omega, by go_num, hown', hB'⟩
      case measure => simp [intOf]; omega
    · obtain rfl : k = Q := by omega
      go_wp2_with (fail)
      go_loop [7, 9] (fun b i => ∃ j : Nat, j ≤ S ∧ i = .int .i64 j ∧ b = .int .u64 (2 ^ j : Nat)) (fun _ i => S - (intOf i).toNat)
      case atStart => exact ⟨0, Nat.zero_le _, rfl, rfl⟩
      case round =>
        obtain ⟨j, hj, rfl, rfl⟩ := hrel
        have hp1 : 2 ^ j < 4294967296 := Nat.lt_of_le_of_lt (Nat.pow_le_pow_right (by decide) (show j ≤ 31 by omega)) (by decide)
        by_cases hd2 : j < S
        · have HN : Hid (2 * ((2 ^ j : Nat) : Int) = ((2 ^ (j + 1) : Nat) : Int)) := by rw [Hid, Nat.pow_succ]; omega
          obtain ⟨X, hX⟩ : ∃ X, 2 ^ j = X := ⟨_, rfl⟩
          rw [hX] at HN hp1
          rw [hX]
          clear hX
          go_wp2
          go_round
          case rel => exact ⟨j + 1, by omega, by go_num, by rw [← HN.out]⟩
          case measure => simp [intOf]; omega
        · obtain rfl : j = S := by omega
          have hp0 : 0 < 2 ^ j := Nat.two_pow_pos j
          have HV0 : Hid (n * 2 ^ k0 = n * 2 ^ j * 4294967296 ^ k) := by
            rw [Hid, HK.out, pow32, Nat.pow_add, Nat.mul_comm (2 ^ (32 * k)), ← Nat.mul_assoc]
          obtain ⟨P, hP⟩ : ∃ P, 2 ^ j = P := ⟨_, rfl⟩
          rw [hP] at hp0 hp1 HV0
          rw [hP]
          clear hP
          go_wp2_with (fail)
          have HO0 : Hid (RShl (limbs n) k P 0 (List.replicate k 0) 0) := RShl.start _ _ _ hp0
          go_loopw [5, 6, 10] (fun s cv i wr => ∃ (m cy : Nat) (o : List Nat), m ≤ (limbs n).length + 1 ∧ i = .int .i64 m ∧ cv = .int .u64 cy ∧ Hid (RShl (limbs n) k P m o cy) ∧ Own wr w.heap.size s o ∧ Below w.heap.size w wr) (fun _ _ i _ => (limbs n).length + 1 - (intOf i).toNat)
          case atStart => exact ⟨0, 0, _, Nat.zero_le _, rfl, rfl, HO0, hown, hB⟩
          case round =>
            clear HO0 hown hB
            obtain ⟨m, cy, o, hm1, rfl, rfl, HO, hown, hB⟩ := hrel
            have hlen := HO.out.len
            by_cases hd3 : m ≤ (limbs n).length
            · have h1 := lb_lt hx m
              have h3 := HO.out.carry
              have h4 : lb (limbs n) m * P + cy < 4294967296 * P := by
                have := Nat.mul_le_mul_right P (show lb (limbs n) m + 1 ≤ 4294967296 by omega)
                rw [Nat.add_mul] at this; omega
              have e1 : ((lb (limbs n) m : Nat) : Int) * (P : Int) = ((lb (limbs n) m * P : Nat) : Int) := by rw [Int.natCast_mul]
              have hm3 : ((lb (limbs n) m : Nat) : Int) * (P : Int) + (cy : Int) < 18446744073709551616 := by rw [e1]; omega
              have hm4 : 0 ≤ ((lb (limbs n) m : Nat) : Int) * (P : Int) := by rw [e1]; omega
              obtain ⟨x1, hx1⟩ : ∃ x1, (lb (limbs n) m * P + cy) % 4294967296 = x1 := ⟨_, rfl⟩
              obtain ⟨c1, hc1⟩ : ∃ c1, (lb (limbs n) m * P + cy) / 4294967296 = c1 := ⟨_, rfl⟩
              have HO2 : Hid (RShl (limbs n) k P (m + 1) (o ++ [x1]) c1) := by rw [Hid, ← hx1, ← hc1]; exact HO.out.step hx
              obtain ⟨v', w', hrun, hown', hB'⟩ := zpush_own hB hown ((((lb (limbs n) m : Nat) : Int) * (P : Int) + (cy : Int)) % 4294967296) x1 (by rw [← hx1, e1]; omega) (by rw [← hx1]; exact Nat.mod_lt _ (by decide)) (by omega)
              obtain ⟨t1, t2, t3⟩ := app_tok hrun
              have HC1 : Hid ((((lb (limbs n) m : Nat) : Int) * (P : Int) + (cy : Int)) / 4294967296 = (c1 : Int)) := by rw [Hid, ← hc1, e1]; omega
              clear hrun hx1 hc1 hlen e1 h4
              go_wp2_with (fail)
              refine (rlimb_at _ _ (limbs n) _ m rfl (U.below h hB)).mono ?_
              rintro e w' ⟨rfl, rfl⟩
              go_wp2_with (fail)
              go_roundw
              case rel => exact ⟨m + 1, c1, _, by omega, by go_num, by rw [HC1.out], HO2, hown', hB'⟩
              case measure => simp [intOf]; omega
            · obtain rfl : m = (limbs n).length + 1 := by omega
              have HV : Hid (val o = n * 2 ^ k0) := by rw [Hid, HO.out.done hx (Nat.le_refl _) hp1, val_limbs, HV0.out]
              have hu := hown.toU HO.out.lt (by omega)
              have hol : o.length ≤ 1000000000 := by omega
              clear hlen
              go_wp2_with (fail)
              refine (rmake_calls _ _ _ hu hol).mono ?_
              rintro e w' ⟨⟨z, rfl, hz⟩, hB2⟩
              have hz2 : Un w' z (n * 2 ^ k0) := by rw [← HV.out]; exact hz
              replace hB := Below.trans hB (Below.mono hB2 hB.size)
              clear hz
              go_wp2
              go_ret
              exact ⟨⟨_, rfl, hz2⟩, hB⟩
end Go.Proofs.YtikajmmeglookaaGreatDoor
