/- Powers, however many, as long as they are short. -/
import Derived.Test.YtbdmncpibnligaaGreatDoorBav
import Derived.Test.YtbdmncpibnligaaGreatDoorBau
import Derived.Test.YtbdmncpibnligaaGreatDoorBag

namespace Go.Proofs.YtbdmncpibnligaaGreatDoor
open Go.RowKit
set_option linter.unusedVariables false
set_option maxHeartbeats 400000

set_option maxRecDepth 100000 in
set_option maxHeartbeats 4000000 in
theorem powM (w : World) (va : Value) (a n : Nat) (hu : Un w va a) (hal : (limbs a).length ≤ 398) (hPl0 : ∀ e, e ≤ n → (limbs (a ^ e)).length ≤ 398) (hn : n ≤ 100000) (k : Nat) (hk : a ^ n = k) :
    Calls Tryz.prog 51 #[va, .int .i64 (n : Nat)] w fun e w' => ∃ u, e = .returned u ∧ Un w' u k ∧ Ext w w' := by
  subst hk
  have HAL : Hid (∀ x, x = a → (limbs x).length ≤ 398) := fun x e => by rw [e]; exact hal
  have hPl := Lib.hid hPl0
  clear hPl0
  have hHF := Lib.hid (pow_half a n)
  have hlen := Lib.hid (fun W => len_calls W n (by omega))
  have hbl : n < 2 ^ blen n := lt_pow_blen n
  have hb20 : blen n ≤ 20 := blen_le_of_lt (Nat.lt_of_le_of_lt hn (by decide))
  obtain ⟨L, hL⟩ : ∃ L, blen n = L := ⟨_, rfl⟩
  rw [hL] at hlen hbl hb20
  have hz0 : Hid (n / 2 ^ L = 0) := Nat.div_eq_of_lt hbl
  obtain ⟨A, ca, rfl, hca⟩ := U.shape (U.asUn hu)
  have hmax1 : (if (n : Int) < 0 then (0 : Int) else (n : Int)) = (n : Int) := by split <;> omega
  have hmax2 : max (n : Int) 0 = (n : Int) := by omega
  have hmax3 : (if (0 : Int) < (n : Int) then (n : Int) else 0) = (n : Int) := by split <;> omega
  have hmax4 : (if 0 < n then (n : Int) else 0) = (n : Int) := by split <;> omega
  have hnw : IntKind.u64.wrap (n : Int) = (n : Int) := by rw [IntKind.wrap_u64]; omega
  have hnm : (n : Int) % 18446744073709551616 = (n : Int) := by omega
  have hE0 := (Ext.refl w).alloc (.cells #[.int .u32 1] 36)
  have hone : Un (w.alloc (.cells #[.int .u32 1] 36)) (.slice (some ⟨w.heap.size, 0, none⟩) 1 1) 1 := by
    have := U_lit w [1] (by simp) (by simp)
    rw [Un, limbs_small 1 (by decide) (by decide)]
    exact this
  clear hL hbl hal
  go_enter Tryz.func51, Tryz.ntmps51
  go_wp2_with (fail)
  refine (hlen.out _).mono ?_
  rintro e w1 ⟨rfl, rfl⟩
  generalize (w.alloc (.cells #[.int .u32 1] 36)) = w1 at *
  have hu1 : Un w1 (.slice A (limbs a).length ca) a := U.below (U.asUn hu) hE0
  generalize (limbs a).length = la at *
  clear hu
  go_wp2
  go_loopw [6, 5] (fun t s wr => ∃ (j : Nat), j ≤ L ∧ t = .int .i64 ((j : Int) - 1) ∧ Un wr s (a ^ (n / 2 ^ j)) ∧ Un wr (.slice A la ca) a ∧ Ext w wr) (fun t _ _ => ((intOf t) + 1).toNat)
  case atStart => exact ⟨L, Nat.le_refl _, rfl, by rw [hz0.out, Nat.pow_zero]; exact hone, hu1, hE0⟩
  case round =>
    clear hone hu1 hE0
    obtain ⟨j, hj, rfl, hz, hua, hE⟩ := hrel
    rcases j with _ | i
    · have hd : decide ((0 : Int) ≤ ((0 : Nat) : Int) - 1) = false := by decide
      obtain ⟨A2, c2, rfl, hcc⟩ := U.shape (U.asUn hz)
      have HF : Hid (∃ u', Ending.returned (.slice A2 (limbs (a ^ (n / 2 ^ 0))).length c2) = .returned u' ∧ Un wr u' (a ^ n) ∧ Ext w wr) := ⟨_, rfl, by rw [Nat.pow_zero, Nat.div_one] at hz ⊢; exact hz, hE⟩
      clear hz hE
      go_wp2
      go_ret
      exact HF.out
    · have hi1 : ((i + 1 : Nat) : Int) - 1 = (i : Int) := by omega
      rw [hi1]
      obtain ⟨A2, c2, rfl, hcc⟩ := U.shape (U.asUn hz)
      have hle : n / 2 ^ (i + 1) ≤ n := Nat.div_le_self _ _
      have hle2 : n / 2 ^ i ≤ n := Nat.div_le_self _ _
      obtain ⟨v, hv⟩ : ∃ v, n / 2 ^ i = v := ⟨_, rfl⟩
      obtain ⟨p, hp⟩ : ∃ p, n / 2 ^ (i + 1) = p := ⟨_, rfl⟩
      have hhf := hHF.out i
      rw [hv, hp] at hhf
      rw [hp] at hz hle ⊢
      rw [hv] at hle2
      have hvi : (n : Int) / 2 ^ i = (v : Int) := by rw [← hv, Int.natCast_ediv, Int.natCast_pow]; rfl
      have hand := i64_and1N v (by omega)
      have hpp : (limbs (a ^ p * a ^ p)).length ≤ 398 := by
        rw [← Nat.pow_add]
        refine hPl.out _ ?_
        have : n / 2 ^ (i + 1) = n / 2 ^ i / 2 := by rw [Nat.pow_succ, Nat.div_div_eq_div_mul]
        rw [hp, hv] at this
        omega
      have hM := Lib.hid (mulN wr _ _ (a ^ p) (a ^ p) _ hz hz (hPl.out p hle) (hPl.out p hle) rfl)
      have HV := Lib.hid hv
      generalize (limbs (a ^ p)).length = lz at *
      clear hz hp hv
      by_cases hb : v % 2 = 1
      · rw [hb] at hand
        rw [if_pos hb] at hhf
        have hhf2 := Lib.hid hhf
        have hbe : (bits .and .i64 (v : Int) 1 == 1) = true := by rw [hand]; rfl
        clear hb hhf hand
        go_wp2_with (fail)
        refine hM.out.mono ?_
        rintro e w2 ⟨u, rfl, hu2, hB⟩
        replace hua := U.below (U.asUn hua) hB
        replace hE := hE.below hB
        obtain ⟨A3, c3, rfl, hc3⟩ := U.shape (U.asUn hu2)
        have hM2 := Lib.hid (mulN w2 _ _ (a ^ p * a ^ p) a _ hu2 hua hpp (HAL.out a rfl) rfl)
        clear hM hB hu2
        generalize (limbs (a ^ p * a ^ p)).length = lz2 at *
        go_wp2_with (fail)
        refine hM2.out.mono ?_
        rintro e w3 ⟨u, rfl, hu3, hB⟩
        replace hua := U.below hua hB
        replace hE := hE.below hB
        rw [← hhf2.out] at hu3
        obtain ⟨A4, c4, rfl, hc4⟩ := U.shape (U.asUn hu3)
        have HU : Hid (Un w3 (.slice A4 (limbs (a ^ v)).length c4) (a ^ (n / 2 ^ i))) := by rw [Hid, HV.out]; exact hu3
        generalize (limbs (a ^ v)).length = lz4 at *
        clear hM2 hB hu3 hhf2
        go_wp2
        go_roundw
        case rel => exact ⟨i, by omega, rfl, HU.out, hua, hE⟩
        case measure => simp [intOf]
      · have hb0 : v % 2 = 0 := by omega
        rw [hb0] at hand
        rw [if_neg hb, Nat.mul_one] at hhf
        have hhf2 := Lib.hid hhf
        have hbe : (bits .and .i64 (v : Int) 1 == 1) = false := by rw [hand]; rfl
        clear hb hb0 hhf hand
        go_wp2_with (fail)
        refine hM.out.mono ?_
        rintro e w2 ⟨u, rfl, hu2, hB⟩
        replace hua := U.below (U.asUn hua) hB
        replace hE := hE.below hB
        rw [← hhf2.out] at hu2
        obtain ⟨A3, c3, rfl, hc3⟩ := U.shape (U.asUn hu2)
        have HU : Hid (Un w2 (.slice A3 (limbs (a ^ v)).length c3) (a ^ (n / 2 ^ i))) := by rw [Hid, HV.out]; exact hu2
        generalize (limbs (a ^ v)).length = lz4 at *
        clear hM hB hu2 hhf2
        go_wp2
        go_roundw
        case rel => exact ⟨i, by omega, rfl, HU.out, hua, hE⟩
        case measure => simp [intOf]
set_option maxRecDepth 100000 in
set_option maxHeartbeats 4000000 in
theorem rpowN (w : World) (va : Value) (a n : Nat) (hu : Un w va a) (hal : (limbs a).length ≤ 398) (hPl0 : ∀ e, e ≤ n → (limbs (a ^ e)).length ≤ 398) (hn : n ≤ 100000) (k : Nat) (hk : a ^ n = k) :
    Calls Tryz.prog 31 #[va, .int .i64 (n : Nat)] w fun e w' => ∃ u, e = .returned u ∧ Un w' u k ∧ Ext w w' := by
  subst hk
  have HAL : Hid (∀ x, x = a → (limbs x).length ≤ 398) := fun x e => by rw [e]; exact hal
  have hPl := Lib.hid hPl0
  clear hPl0
  obtain ⟨A, ca, rfl, hca⟩ := U.shape (U.asUn hu)
  have hE0 := (Ext.refl w).alloc (.cells #[.int .u32 1] 36)
  have hone : Un (w.alloc (.cells #[.int .u32 1] 36)) (.slice (some ⟨w.heap.size, 0, none⟩) 1 1) 1 := Un_lit1 w _ rfl 1 (by decide) (by decide)
  have hu1 : Un (w.alloc (.cells #[.int .u32 1] 36)) (.slice A (limbs a).length ca) a := U.below (U.asUn hu) hE0
  clear hal
  generalize (limbs a).length = la at *
  clear hu
  go_enter Tryz.func31, Tryz.ntmps31
  go_wp2
  go_loopw [6, 5] (fun t s wr => ∃ (j : Nat), j ≤ n ∧ t = .int .i64 (j : Nat) ∧ Un wr s (a ^ j) ∧ Un wr (.slice A la ca) a ∧ Ext w wr) (fun t _ _ => n - (intOf t).toNat)
  case atStart => exact ⟨0, Nat.zero_le _, rfl, by rw [Nat.pow_zero]; exact hone, hu1, hE0⟩
  case round =>
    clear hone hu1 hE0
    obtain ⟨j, hj, rfl, hz, hua, hE⟩ := hrel
    obtain ⟨A2, c2, rfl, hcc⟩ := U.shape (U.asUn hz)
    by_cases hlt : j < n
    · have hM := Lib.hid (rschoolX_B wr _ _ (a ^ j) a (a ^ (j + 1)) hz hua (hPl.out j hj) (HAL.out a rfl) (Nat.pow_succ a j).symm)
      generalize (limbs (a ^ j)).length = lz at *
      clear hz
      go_wp2_with (fail)
      refine hM.out.mono ?_
      rintro e w2 ⟨u, rfl, hu2, hB⟩
      replace hua := U.below (U.asUn hua) hB
      replace hE := hE.below hB
      clear hM hB
      go_wp2
      go_roundw
      case rel => exact ⟨j + 1, by omega, by go_num, hu2, hua, hE⟩
      case measure => simp [intOf]; omega
    · obtain rfl : j = n := by omega
      have HF : Hid (∃ u', Ending.returned (.slice A2 (limbs (a ^ j)).length c2) = .returned u' ∧ Un wr u' (a ^ j) ∧ Ext w wr) := ⟨_, rfl, hz, hE⟩
      clear hz hE
      go_wp2
      go_ret
      exact HF.out

end Go.Proofs.YtbdmncpibnligaaGreatDoor
/- Roots as numbers: steps of Newton, Zimmermann's square root, and of which powers a number is one. -/
namespace Go.Proofs.YtbdmncpibnligaaGreatDoor
set_option linter.unusedVariables false
/-! Roots: what is known of them as numbers. -/
namespace Rt
/-- The root of a by k, cut. -/
def Kr (a k r : Nat) : Prop := r ^ k ≤ a ∧ a < (r + 1) ^ k
theorem pow_lt_of {x y k : Nat} (h : x ^ k < y ^ k) : x < y := Nat.lt_of_not_le fun hl => absurd (Nat.pow_le_pow_left hl k) (by omega)
theorem pow_inj {x y k : Nat} (hk : k ≠ 0) (h : x ^ k = y ^ k) : x = y := by
  rcases Nat.lt_trichotomy x y with hl | rfl | hl
  · have := Nat.pow_lt_pow_left hl hk; omega
  · rfl
  · have := Nat.pow_lt_pow_left hl hk; omega
theorem Kr.le {a k r s : Nat} (h : Kr a k r) (hs : s ^ k ≤ a) : s ≤ r := by
  have := pow_lt_of (Nat.lt_of_le_of_lt hs h.2); omega
theorem Kr.lt {a k r s : Nat} (h : Kr a k r) (hs : a < s ^ k) : r < s := pow_lt_of (Nat.lt_of_le_of_lt h.1 hs)
theorem Kr.uniq {a k r s : Nat} (h : Kr a k r) (g : Kr a k s) : r = s := Nat.le_antisymm (g.le h.1) (h.le g.1)
def krG (a k : Nat) : Nat → Nat
  | 0 => 0
  | n + 1 => if (n + 1) ^ k ≤ a then n + 1 else krG a k n
def kr (a k : Nat) : Nat := krG a k a
theorem krG_spec {a k : Nat} (hk : k ≠ 0) : ∀ n, a < (n + 1) ^ k → Kr a k (krG a k n)
  | 0, h => by
    have : (0 : Nat) ^ k = 0 := Nat.zero_pow (by omega)
    exact ⟨by rw [krG, this]; omega, by simpa [krG] using h⟩
  | n + 1, h => by
    unfold krG
    split
    · next h1 => exact ⟨h1, h⟩
    · next h1 => exact krG_spec hk n (by omega)
theorem self_pow (a : Nat) {k : Nat} (hk : k ≠ 0) : a ≤ a ^ k := by
  obtain ⟨m, rfl⟩ : ∃ m, k = m + 1 := ⟨k - 1, by omega⟩
  rcases Nat.eq_zero_or_pos a with rfl | h
  · omega
  · rw [Nat.pow_succ]; exact Nat.le_mul_of_pos_left a (Nat.pow_pos h)
theorem kr_spec (a : Nat) {k : Nat} (hk : k ≠ 0) : Kr a k (kr a k) := krG_spec hk a (Nat.lt_of_lt_of_le (Nat.lt_succ_self a) (self_pow (a + 1) hk))
theorem kr_eq {a k r : Nat} (hk : k ≠ 0) (h1 : r ^ k ≤ a) (h2 : a < (r + 1) ^ k) : kr a k = r := (kr_spec a hk).uniq ⟨h1, h2⟩
theorem kr_le (a : Nat) {k : Nat} (hk : k ≠ 0) : kr a k ^ k ≤ a := (kr_spec a hk).1
theorem kr_lt (a : Nat) {k : Nat} (hk : k ≠ 0) : a < (kr a k + 1) ^ k := (kr_spec a hk).2
theorem le_kr {a k s : Nat} (hk : k ≠ 0) (h : s ^ k ≤ a) : s ≤ kr a k := (kr_spec a hk).le h
theorem kr_zero {k : Nat} (hk : k ≠ 0) : kr 0 k = 0 := kr_eq hk (by rw [Nat.zero_pow (by omega)]; omega) (by simp)
theorem kr_one (a : Nat) : kr a 1 = a := kr_eq (by decide) (by simp) (by simp)
theorem kr_self (a : Nat) {k : Nat} (hk : k ≠ 0) : kr a k ≤ a := Nat.le_trans (self_pow _ hk) (kr_le a hk)
theorem kr_big {a k : Nat} (h0 : a ≠ 0) (h : a < 2 ^ k) : kr a k = 1 := kr_eq (by rintro rfl; simp at h; omega) (by rw [Nat.one_pow]; omega) h
theorem kr_pos {a k : Nat} (hk : k ≠ 0) (h0 : a ≠ 0) : 0 < kr a k := le_kr hk (by rw [Nat.one_pow]; omega)
theorem kr_pow (b : Nat) {k : Nat} (hk : k ≠ 0) : kr (b ^ k) k = b := kr_eq hk (Nat.le_refl _) (Nat.pow_lt_pow_left (Nat.lt_succ_self b) hk)
theorem kr_mono {a b k : Nat} (hk : k ≠ 0) (h : a ≤ b) : kr a k ≤ kr b k := le_kr hk (Nat.le_trans (kr_le a hk) h)
theorem kr_kr (a : Nat) {k m : Nat} (hk : k ≠ 0) (hm : m ≠ 0) : kr (kr a k) m = kr a (k * m) := by
  refine (kr_eq (Nat.mul_ne_zero hk hm) ?_ ?_).symm
  · rw [Nat.mul_comm, Nat.pow_mul]
    exact Nat.le_trans (Nat.pow_le_pow_left (kr_le _ hm) k) (kr_le a hk)
  · rw [Nat.mul_comm, Nat.pow_mul]
    exact Nat.lt_of_lt_of_le (kr_lt a hk) (Nat.pow_le_pow_left (kr_lt _ hm) k)
theorem kr_lt_pow {a k t : Nat} (hk : k ≠ 0) (h : a < 2 ^ (k * t)) : kr a k < 2 ^ t := pow_lt_of (k := k) (by rw [← Nat.pow_mul, Nat.mul_comm]; exact Nat.lt_of_le_of_lt (kr_le a hk) h)
/-- A root of a number without its last bits. -/
theorem kr_cut (a : Nat) {k : Nat} (n : Nat) (hk : k ≠ 0) : kr (a / 2 ^ (k * n)) k = kr a k / 2 ^ n := by
  have h2 := Nat.two_pow_pos n
  refine kr_eq hk ?_ ?_
  · rw [Nat.le_div_iff_mul_le (Nat.two_pow_pos _)]
    refine Nat.le_trans ?_ (kr_le a hk)
    rw [Nat.mul_comm k n, Nat.pow_mul, ← Nat.mul_pow]
    exact Nat.pow_le_pow_left (Nat.div_mul_le_self _ _) k
  · rw [Nat.div_lt_iff_lt_mul (Nat.two_pow_pos _)]
    refine Nat.lt_of_lt_of_le (kr_lt a hk) ?_
    rw [Nat.mul_comm k n, Nat.pow_mul, ← Nat.mul_pow]
    refine Nat.pow_le_pow_left ?_ k
    have := Nat.lt_mul_div_succ (kr a k) h2
    rw [Nat.mul_comm] at this
    omega
theorem rsq2 (x r : Nat) : 2 * r * x ≤ x * x + r * r := by
  rcases Nat.le_total x r with h | h
  · obtain ⟨d, rfl⟩ := Nat.exists_eq_add_of_le h
    have : 2 * (x + d) * x + d * d = x * x + (x + d) * (x + d) := by grind
    omega
  · obtain ⟨d, rfl⟩ := Nat.exists_eq_add_of_le h
    have : 2 * r * (r + d) + d * d = (r + d) * (r + d) + r * r := by grind
    omega
/-- The means of powers. -/
theorem mean (x r : Nat) : ∀ m : Nat, (m + 1) * r * x ^ m ≤ m * x ^ (m + 1) + r ^ (m + 1)
  | 0 => by simp
  | m + 1 => by
    have ih := Nat.mul_le_mul_left r (mean x r m)
    have h2 := Nat.mul_le_mul_left ((m + 1) * x ^ m) (rsq2 x r)
    have e1 : r * ((m + 1) * r * x ^ m) = (m + 1) * x ^ m * (r * r) := by grind
    have e2 : r * (m * x ^ (m + 1) + r ^ (m + 1)) = m * r * x ^ (m + 1) + r ^ (m + 1 + 1) := by grind
    have e3 : (m + 1) * x ^ m * (2 * r * x) = 2 * ((m + 1) * r * x ^ (m + 1)) := by grind
    have e4 : (m + 1) * x ^ m * (x * x + r * r) = (m + 1) * x ^ (m + 1 + 1) + (m + 1) * x ^ m * (r * r) := by grind
    have e5 : (m + 1 + 1) * r * x ^ (m + 1) + m * r * x ^ (m + 1) = 2 * ((m + 1) * r * x ^ (m + 1)) := by grind
    rw [e1, e2] at ih
    rw [e3, e4] at h2
    omega
/-- A step of Newton is not below the root. -/
theorem step_ge {a r x m : Nat} (hr : r ^ (m + 1) ≤ a) (hx : 0 < x) : r ≤ (x * m + a / x ^ m) / (m + 1) := by
  rw [Nat.le_div_iff_mul_le (by omega)]
  rcases Nat.le_total (r * (m + 1)) (x * m) with h | h
  · exact Nat.le_trans h (Nat.le_add_right _ _)
  · have h3 : r * (m + 1) - x * m ≤ a / x ^ m := by
      rw [Nat.le_div_iff_mul_le (Nat.pow_pos hx), Nat.sub_mul]
      have h1 := mean x r m
      have e1 : r * (m + 1) * x ^ m = (m + 1) * r * x ^ m := by grind
      have e2 : x * m * x ^ m = m * x ^ (m + 1) := by grind
      rw [e1, e2]
      omega
    generalize a / x ^ m = Q at *
    omega
theorem step_stop {a x m : Nat} (hx : 0 < x) (h : x ≤ (x * m + a / x ^ m) / (m + 1)) : x ^ (m + 1) ≤ a := by
  rw [Nat.le_div_iff_mul_le (by omega), Nat.mul_add, Nat.mul_one] at h
  have h2 : x ≤ a / x ^ m := by omega
  rw [Nat.le_div_iff_mul_le (Nat.pow_pos hx)] at h2
  rw [Nat.pow_succ, Nat.mul_comm]
  exact h2
theorem step_pos {a x m : Nat} (ha : a ≠ 0) (hx : 0 < x) : 0 < (x * m + a / x ^ m) / (m + 1) := step_ge (r := 1) (by rw [Nat.one_pow]; omega) hx
/-- Zimmermann's square root: what the upper half's root and one division tell. -/
theorem zim {a k t s r q u : Nat} (ht : a / 2 ^ (2 * k) = t) (hs : s * s + r = t) (hq : (r * 2 ^ k + a / 2 ^ k % 2 ^ k) / (2 * s) = q) (hu : (r * 2 ^ k + a / 2 ^ k % 2 ^ k) % (2 * s) = u) (h0 : s ≠ 0) :
    (s * 2 ^ k + q) * (s * 2 ^ k + q) + (u * 2 ^ k + a % 2 ^ k) = a + q * q ∧ a < (s * 2 ^ k + q + 1) * (s * 2 ^ k + q + 1) := by
  have h2 := Nat.two_pow_pos k
  have hlow := Nat.mod_lt a h2
  have hmid := Nat.mod_lt (a / 2 ^ k) h2
  have e1 := Nat.div_add_mod a (2 ^ k)
  have e2 := Nat.div_add_mod (a / 2 ^ k) (2 ^ k)
  rw [Nat.div_div_eq_div_mul, ← Nat.pow_add, ← Nat.two_mul, ht] at e2
  generalize a / 2 ^ k % 2 ^ k = m at *
  generalize a % 2 ^ k = l at *
  generalize a / 2 ^ k = h at *
  generalize 2 ^ k = B at *
  have e3 := Nat.div_add_mod (r * B + m) (2 * s)
  have hul := Nat.mod_lt (r * B + m) (show 0 < 2 * s by omega)
  rw [hq, hu] at e3
  rw [hu] at hul
  subst hs
  subst e2
  have ea : a = B * (B * (s * s + r) + m) + l := e1.symm
  have e4 : B * (r * B + m) = B * (2 * s * q + u) := by rw [e3]
  refine ⟨by grind, ?_⟩
  have e5 : (s * B + q + 1) * (s * B + q + 1) = B * (B * (s * s)) + B * (2 * s * q + 2 * s) + (q + 1) * (q + 1) := by grind
  have e6 : a = B * (B * (s * s)) + B * (2 * s * q + u) + l := by rw [ea]; grind
  have h7 : B * (2 * s * q + u) + B ≤ B * (2 * s * q + 2 * s) := by rw [← Nat.mul_succ]; exact Nat.mul_le_mul_left B (by omega)
  omega
/-- Its steps down. -/
theorem zim_step {a Q s r : Nat} (h : s * s + r = a + Q) (h2 : a < (s + 1) * (s + 1)) (hl : r < Q) : 0 < s ∧ (s - 1) * (s - 1) + (r + (2 * (s - 1) + 1)) = a + Q ∧ a < (s - 1 + 1) * (s - 1 + 1) := by
  have h0 : 0 < s := by
    rcases Nat.eq_zero_or_pos s with rfl | h0
    · omega
    · exact h0
  obtain ⟨x, rfl⟩ : ∃ x, s = x + 1 := ⟨s - 1, by omega⟩
  rw [Nat.add_sub_cancel]
  have e : (x + 1) * (x + 1) = x * x + (2 * x + 1) := by grind
  exact ⟨h0, by omega, by omega⟩
theorem zim_end {a Q s r : Nat} (h : s * s + r = a + Q) (h2 : a < (s + 1) * (s + 1)) (hl : Q ≤ r) : kr a 2 = s ∧ r - Q = a - s * s := by
  refine ⟨kr_eq (by decide) (by rw [Nat.pow_two]; omega) (by rw [Nat.pow_two]; exact h2), by omega⟩
theorem sq_parts (a : Nat) : kr a 2 * kr a 2 + (a - kr a 2 * kr a 2) = a := by
  have := kr_le a (show 2 ≠ 0 by decide)
  rw [Nat.pow_two] at this
  omega
theorem sq_rest (a : Nat) : a - kr a 2 * kr a 2 ≤ 2 * kr a 2 := by
  have := kr_lt a (show 2 ≠ 0 by decide)
  rw [Nat.pow_two] at this
  have e : (kr a 2 + 1) * (kr a 2 + 1) = kr a 2 * kr a 2 + (2 * kr a 2 + 1) := by grind
  omega
/-- A bit more of a root, from above. -/
theorem bit_step {a k x i : Nat} (h2 : a < (x + 2 ^ (i + 1)) ^ k) :
    ((x + 2 ^ i) ^ k ≤ a → ((x + 2 ^ i) ^ k ≤ a ∨ x + 2 ^ i = 0) ∧ a < (x + 2 ^ i + 2 ^ i) ^ k) ∧ (¬ (x + 2 ^ i) ^ k ≤ a → a < (x + 2 ^ i) ^ k) := by
  rw [Nat.pow_succ] at h2
  refine ⟨fun h => ⟨.inl h, ?_⟩, fun h => by omega⟩
  have e : x + 2 ^ i + 2 ^ i = x + 2 ^ i * 2 := by omega
  rw [e]; exact h2
/-! Powers of which a number is one. -/
/-- Is a a k-th power? -/
def isP (a k : Nat) : Prop := kr a k ^ k = a
theorem isP_iff {a k : Nat} (hk : k ≠ 0) : isP a k ↔ ∃ b, b ^ k = a := ⟨fun h => ⟨_, h⟩, fun ⟨b, h⟩ => by unfold isP; rw [← h, kr_pow b hk]⟩
/-- Of two like powers with exponents that have nothing in common, the bases are powers. -/
theorem coprime_base {b c k m : Nat} (hb : 0 < b) (hc : 0 < c) (h : b ^ k = c ^ m) (hk : k ≠ 0) (hm : m ≠ 0) (hg : Nat.gcd k m = 1) : ∃ d, b = d ^ m := by
  obtain ⟨u, v, e⟩ : ∃ u v : Nat, u * k = v * m + 1 := by
    -- Bezout with naturals
    have key : ∀ n k m : Nat, k + m ≤ n → k ≠ 0 → m ≠ 0 → Nat.gcd k m = 1 → ∃ u v : Nat, u * k = v * m + 1 := by
      intro n
      induction n with
      | zero => intro k m h1 h2; omega
      | succ n ih =>
        intro k m h1 h2 h3 h4
        rcases Nat.lt_trichotomy k m with hl | rfl | hl
        · obtain ⟨d, rfl⟩ := Nat.exists_eq_add_of_le (Nat.le_of_lt hl)
          have hg2 : Nat.gcd k d = 1 := by rwa [Nat.gcd_self_add_right] at h4
          obtain ⟨u, v, e⟩ := ih k d (by omega) h2 (by omega) hg2
          exact ⟨u + v, v, by rw [Nat.add_mul, e, Nat.mul_add]; omega⟩
        · rw [Nat.gcd_self] at h4
          subst h4
          exact ⟨1, 0, by omega⟩
        · obtain ⟨d, rfl⟩ := Nat.exists_eq_add_of_le (Nat.le_of_lt hl)
          have hg2 : Nat.gcd d m = 1 := by rwa [Nat.gcd_self_add_left] at h4
          obtain ⟨u, v, e⟩ := ih d m (by omega) (by omega) h3 hg2
          exact ⟨u, u + v, by rw [Nat.mul_add, e, Nat.add_mul]; omega⟩
    exact key _ k m (Nat.le_refl _) hk hm hg
  have h1 : b * (b ^ v) ^ m = (c ^ u) ^ m := by
    rw [← Nat.pow_mul, ← Nat.pow_mul, Nat.mul_comm u m, Nat.pow_mul c m u, ← h, ← Nat.pow_mul, Nat.mul_comm k u, e, Nat.pow_succ, Nat.mul_comm]
  have h2 : (b ^ v) ^ m ∣ (c ^ u) ^ m := ⟨b, by rw [← h1, Nat.mul_comm]⟩
  obtain ⟨d, hd⟩ := (Nat.pow_dvd_pow_iff hm).1 h2
  refine ⟨d, ?_⟩
  rw [hd, Nat.mul_pow] at h1
  exact Nat.eq_of_mul_eq_mul_left (Nat.pow_pos (n := m) (Nat.pow_pos (n := v) hb)) (by rw [Nat.mul_comm, h1])
/-- No power of anything, but once. -/
def Prim (b : Nat) : Prop := ∀ d m, b = d ^ m → m = 1 ∨ b = 1
theorem prim_dvd {b c k m : Nat} (hb : Prim b) (h1 : 1 < b) (hk : k ≠ 0) (hm : m ≠ 0) (h : b ^ k = c ^ m) : ∃ j, k = m * j ∧ c = b ^ j := by
  have hc : 0 < c := Nat.pos_of_ne_zero fun e => by
    rw [e, Nat.zero_pow (by omega)] at h
    have := Nat.pow_pos (n := k) (show 0 < b by omega); omega
  have hg := Nat.gcd_pos_of_pos_left m (show 0 < k by omega)
  obtain ⟨k', ek⟩ := Nat.gcd_dvd_left k m
  obtain ⟨m', em⟩ := Nat.gcd_dvd_right k m
  have hg1 : Nat.gcd k' m' = 1 := by
    have := Nat.gcd_mul_left (Nat.gcd k m) k' m'
    rw [← ek, ← em] at this
    exact Nat.eq_of_mul_eq_mul_left hg (by omega)
  generalize Nat.gcd k m = g at *
  have hk' : k' ≠ 0 := fun e => by rw [e] at ek; omega
  have hm' : m' ≠ 0 := fun e => by rw [e] at em; omega
  have h2 : b ^ k' = c ^ m' := pow_inj (k := g) (by omega) (by rw [← Nat.pow_mul, ← Nat.pow_mul, Nat.mul_comm, ← ek, Nat.mul_comm, ← em]; exact h)
  obtain ⟨d, hd⟩ := coprime_base (by omega) hc h2 hk' hm' hg1
  rcases hb d m' hd with rfl | h3
  · rw [Nat.pow_one] at h2
    exact ⟨k', by rw [em, Nat.mul_one]; exact ek, h2.symm⟩
  · omega
/-- A primitive base tells all powers. -/
theorem prim_isP {b k m : Nat} (hb : Prim b) (h1 : 1 < b) (hk : k ≠ 0) (hm : m ≠ 0) : isP (b ^ k) m ↔ k % m = 0 := by
  rw [isP_iff hm]
  constructor
  · rintro ⟨c, hc⟩
    obtain ⟨j, rfl, _⟩ := prim_dvd hb h1 hk hm hc.symm
    exact Nat.mul_mod_right m j
  · intro h
    obtain ⟨j, rfl⟩ := Nat.dvd_of_mod_eq_zero h
    exact ⟨b ^ j, by rw [← Nat.pow_mul, Nat.mul_comm]⟩
theorem prim_uniq {b c k m : Nat} (hb : Prim b) (h1 : 1 < b) (hc : Prim c) (h2 : 1 < c) (hk : k ≠ 0) (hm : m ≠ 0) (h : b ^ k = c ^ m) : b = c ∧ k = m := by
  obtain ⟨j, rfl, e⟩ := prim_dvd hb h1 hk hm h
  rcases hc b j e with rfl | h3
  · rw [Nat.pow_one] at e; exact ⟨e.symm, Nat.mul_one m⟩
  · omega
/-- It is enough to look at primes. -/
theorem least_factor (m : Nat) (h : 1 < m) : ∃ p, 1 < p ∧ p ∣ m ∧ ∀ d, d ∣ p → d = 1 ∨ d = p := by
  induction m using Nat.strongRecOn with
  | _ m ih =>
    by_cases hp : ∀ d, d ∣ m → d = 1 ∨ d = m
    · exact ⟨m, h, Nat.dvd_refl m, hp⟩
    · have ⟨d, hd⟩ : ∃ d, d ∣ m ∧ ¬ (d = 1 ∨ d = m) := Classical.byContradiction fun hn => hp fun d hd => Classical.byContradiction fun h2 => hn ⟨d, hd, h2⟩
      have hle := Nat.le_of_dvd (by omega) hd.1
      have h0 : d ≠ 0 := fun e => by have := hd.1; rw [e, Nat.zero_dvd] at this; omega
      obtain ⟨p, hp1, hp2, hp3⟩ := ih d (by omega) (by omega)
      exact ⟨p, hp1, Nat.dvd_trans hp2 hd.1, hp3⟩
def Pr (p : Nat) : Prop := 1 < p ∧ ∀ d, d ∣ p → d = 1 ∨ d = p
theorem prim_of {a : Nat} (h : ∀ p c, Pr p → a ≠ c ^ p) : Prim a := fun d m e => by
  rcases Nat.lt_or_ge m 2 with hm | hm
  · rcases Nat.eq_zero_or_pos m with rfl | h0
    · right; rw [e, Nat.pow_zero]
    · left; omega
  · obtain ⟨p, hp1, ⟨j, rfl⟩, hp3⟩ := least_factor m (by omega)
    exact absurd (by rw [e, ← Nat.pow_mul, Nat.mul_comm]) (h p (d ^ j) ⟨hp1, hp3⟩)
end Rt
end Go.Proofs.YtbdmncpibnligaaGreatDoor
/- Fermat's little theorem; odd roots modulo powers of 2; primes by trial. -/
namespace Go.Proofs.YtbdmncpibnligaaGreatDoor
set_option linter.unusedVariables false
/-! Fermat's little theorem; odd roots modulo powers of 2; primes by trial. -/
namespace Rt
def ch : Nat → Nat → Nat
  | _, 0 => 1
  | 0, _ + 1 => 0
  | n + 1, k + 1 => ch n k + ch n (k + 1)
theorem ch_zero (n : Nat) : ch n 0 = 1 := by cases n <;> rfl
theorem ch_big : ∀ {n k : Nat}, n < k → ch n k = 0
  | 0, k + 1, _ => rfl
  | n + 1, k + 1, h => by rw [ch, ch_big (show n < k by omega), ch_big (show n < k + 1 by omega)]
theorem ch_self : ∀ n, ch n n = 1
  | 0 => rfl
  | n + 1 => by rw [ch, ch_self n, ch_big (Nat.lt_succ_self n)]
theorem ch_mul : ∀ n k, (k + 1) * ch (n + 1) (k + 1) = (n + 1) * ch n k
  | 0, 0 => rfl
  | 0, k + 1 => by rw [ch_big (show 0 + 1 < k + 1 + 1 by omega), ch_big (show 0 < k + 1 by omega)]; omega
  | n + 1, 0 => by
    have h1 := ch_mul n 0
    rw [ch_zero] at h1
    rw [ch_zero, ch, ch_zero]
    omega
  | n + 1, k + 1 => by
    have h1 := ch_mul n k
    have h2 := ch_mul n (k + 1)
    rw [ch]
    have e : ch (n + 1) (k + 1) = ch n k + ch n (k + 1) := by rw [ch]
    generalize ch (n + 1) (k + 1 + 1) = A at *
    generalize ch (n + 1) (k + 1) = B at *
    generalize ch n k = C at *
    generalize ch n (k + 1) = D at *
    grind
def bsm (f : Nat → Nat) : Nat → Nat
  | 0 => 0
  | n + 1 => bsm f n + f n
def bT (a n N : Nat) : Nat := bsm (fun k => ch n k * a ^ k) N
theorem bT_step (a n : Nat) : ∀ N, bT a (n + 1) (N + 1) = bT a n (N + 1) + a * bT a n N
  | 0 => by simp [bT, bsm, ch_zero]
  | N + 1 => by
    have ih := bT_step a n N
    have e1 : bT a (n + 1) (N + 1 + 1) = bT a (n + 1) (N + 1) + ch (n + 1) (N + 1) * a ^ (N + 1) := rfl
    have e2 : bT a n (N + 1 + 1) = bT a n (N + 1) + ch n (N + 1) * a ^ (N + 1) := rfl
    have e3 : bT a n (N + 1) = bT a n N + ch n N * a ^ N := rfl
    rw [e1, ih, e2, ch, Nat.add_mul, show a * bT a n (N + 1) = a * bT a n N + ch n N * a ^ (N + 1) by rw [e3]; grind]
    omega
theorem binom (a : Nat) : ∀ n, (a + 1) ^ n = bT a n (n + 1)
  | 0 => by simp [bT, bsm, ch]
  | n + 1 => by
    have e : bT a n (n + 1 + 1) = bT a n (n + 1) + ch n (n + 1) * a ^ (n + 1) := rfl
    rw [bT_step, e, ch_big (Nat.lt_succ_self n), Nat.zero_mul, Nat.add_zero, ← binom a n, Nat.pow_succ]
    grind
theorem Pr.cop {p a : Nat} (hp : Pr p) (h : a % p ≠ 0) : Nat.gcd p a = 1 := by
  rcases hp.2 _ (Nat.gcd_dvd_left p a) with e | e
  · exact e
  · exact absurd (Nat.mod_eq_zero_of_dvd (by have := Nat.gcd_dvd_right p a; rwa [e] at this)) h
theorem Pr.ch_mod {p k : Nat} (hp : Pr p) (h0 : 0 < k) (hk : k < p) : ch p k % p = 0 := by
  obtain ⟨n, rfl⟩ : ∃ n, p = n + 1 := ⟨p - 1, by omega⟩
  obtain ⟨j, rfl⟩ : ∃ j, k = j + 1 := ⟨k - 1, by omega⟩
  have h1 : (n + 1) ∣ (j + 1) * ch (n + 1) (j + 1) := ⟨_, ch_mul n j⟩
  have hc : Nat.Coprime (n + 1) (j + 1) := hp.cop (by rw [Nat.mod_eq_of_lt hk]; omega)
  exact Nat.mod_eq_zero_of_dvd (hc.dvd_of_dvd_mul_left h1)
theorem Pr.bT_mod {p : Nat} (hp : Pr p) (a : Nat) : ∀ N, N < p → bT a p (N + 1) % p = 1 % p
  | 0, _ => by simp [bT, bsm, ch_zero]
  | N + 1, h => by
    have e : bT a p (N + 1 + 1) = bT a p (N + 1) + ch p (N + 1) * a ^ (N + 1) := rfl
    rw [e, Nat.add_mod, hp.bT_mod a N (by omega), Nat.mul_mod, hp.ch_mod (by omega) h, Nat.zero_mul, Nat.zero_mod, Nat.add_zero, Nat.mod_mod]
theorem Pr.frob {p : Nat} (hp : Pr p) (a : Nat) : (a + 1) ^ p % p = (a ^ p + 1) % p := by
  obtain ⟨n, rfl⟩ : ∃ n, p = n + 1 := ⟨p - 1, by have := hp.1; omega⟩
  have e : bT a (n + 1) (n + 1 + 1) = bT a (n + 1) (n + 1) + ch (n + 1) (n + 1) * a ^ (n + 1) := rfl
  rw [binom, e, ch_self, Nat.one_mul, Nat.add_mod, hp.bT_mod a n (by omega), ← Nat.add_mod, Nat.add_comm]
theorem Pr.fermat {p : Nat} (hp : Pr p) : ∀ a, a ^ p % p = a % p
  | 0 => by rw [Nat.zero_pow (by have := hp.1; omega)]
  | a + 1 => by rw [hp.frob, Nat.add_mod, hp.fermat a, ← Nat.add_mod]
theorem mod_of_dvd {x m : Nat} (h : 1 ≤ x) (hd : m ∣ x - 1) : x % m = 1 % m := by
  obtain ⟨c, e⟩ := hd
  rw [show x = 1 + m * c by omega, Nat.add_mul_mod_self_left]
theorem dvd_of_mod {a b m : Nat} (h : a % m = b % m) (hl : b ≤ a) : m ∣ a - b := by
  refine ⟨a / m - b / m, ?_⟩
  have h1 := Nat.div_add_mod a m
  have h2 := Nat.div_add_mod b m
  rw [Nat.mul_sub]
  omega
theorem Pr.fermat1 {p a : Nat} (hp : Pr p) (h : a % p ≠ 0) : a ^ (p - 1) % p = 1 := by
  have h1 := hp.1
  have h2 := hp.fermat a
  have ha : 0 < a := Nat.pos_of_ne_zero fun e => h (by rw [e, Nat.zero_mod])
  obtain ⟨n, rfl⟩ : ∃ n, p = n + 1 := ⟨p - 1, by omega⟩
  rw [Nat.add_sub_cancel]
  have h3 : (n + 1) ∣ a * (a ^ n - 1) := by
    have e : a * (a ^ n - 1) = a ^ (n + 1) - a := by rw [Nat.mul_sub, Nat.mul_one, Nat.pow_succ, Nat.mul_comm]
    rw [e]
    exact dvd_of_mod h2 (Nat.le_self_pow (by omega) a)
  have h4 : (n + 1) ∣ a ^ n - 1 := Nat.Coprime.dvd_of_dvd_mul_left (hp.cop h) h3
  have hge : 1 ≤ a ^ n := Nat.pow_pos ha
  rw [mod_of_dvd hge h4, Nat.mod_eq_of_lt h1]
/-- Rests of a power, by a prime of which the exponent divides one less. -/
theorem Pr.rest {q p a r e : Nat} (hq : Pr q) (he : q = p * e + 1) (h : r ^ p = a) (h0 : a % q ≠ 0) : (a % q) ^ e % q = 1 := by
  rw [← Nat.pow_mod, ← h, ← Nat.pow_mul]
  have h1 : r % q ≠ 0 := fun h1 => h0 (by
    have hp : p ≠ 0 := fun e0 => by rw [e0, Nat.zero_mul] at he; have := hq.1; omega
    rw [← h, Nat.pow_mod, h1, Nat.zero_pow (by omega), Nat.zero_mod])
  have := hq.fermat1 h1
  rwa [he, Nat.add_sub_cancel, ← he] at this
/-! Odd numbers modulo powers of 2. -/
theorem odd_pow {r : Nat} (h : r % 2 = 1) : ∀ i, 2 ^ i ∣ r ^ (2 ^ i) - 1
  | 0 => by rw [Nat.pow_zero]; exact Nat.one_dvd _
  | i + 1 => by
    have ih := odd_pow h i
    have ho : r ^ (2 ^ i) % 2 = 1 := by rw [Nat.pow_mod, h, Nat.one_pow]
    rw [Nat.pow_succ 2 i, Nat.pow_mul r, Nat.pow_two]
    generalize r ^ 2 ^ i = x at *
    have e : x * x - 1 = (x - 1) * (x + 1) := by
      obtain ⟨y, rfl⟩ : ∃ y, x = y + 1 := ⟨x - 1, by omega⟩
      rw [Nat.add_sub_cancel]
      have : (y + 1) * (y + 1) = y * (y + 1 + 1) + 1 := by grind
      omega
    rw [e]
    exact Nat.mul_dvd_mul ih (Nat.dvd_of_mod_eq_zero (by omega))
theorem odd_pow_mod {r : Nat} (h : r % 2 = 1) (i : Nat) (h1 : 0 < i) : r ^ (2 ^ i) % 2 ^ i = 1 := by
  have h2 := odd_pow h i
  have hge : 1 ≤ r ^ (2 ^ i) := Nat.pow_pos (by omega)
  rw [mod_of_dvd hge h2]
  exact Nat.mod_eq_of_lt (Nat.lt_of_lt_of_le (show 1 < 2 ^ 1 by decide) (Nat.pow_le_pow_right (by decide) h1))
theorem low_root {r p v t M : Nat} (hM : M = 64) (h : r % 2 = 1) (e : p * v = 2 ^ M * t + 1) : (r ^ p) ^ v % 2 ^ M = r % 2 ^ M := by
  rw [← Nat.pow_mul, e, Nat.pow_succ, Nat.pow_mul, Nat.mul_mod, Nat.pow_mod, odd_pow_mod h M (by omega), Nat.one_pow]
  have h1 : 1 % 2 ^ M = 1 := Nat.mod_eq_of_lt (Nat.one_lt_two_pow (by omega))
  rw [h1, Nat.one_mul, Nat.mod_mod]
/-- A better inverse. -/
theorem inv_step {p v v' B C : Int} (hC : B * B ∣ C) (hv : v' = (v * ((2 - (p * v) % C) % C)) % C) (h : B ∣ p * v - 1) : B * B ∣ p * v' - 1 := by
  obtain ⟨t, e⟩ := h
  obtain ⟨c, ec⟩ := hC
  have e1 := Int.mul_ediv_add_emod (p * v) C
  have e2 := Int.mul_ediv_add_emod (2 - (p * v) % C) C
  have e3 := Int.mul_ediv_add_emod (v * ((2 - (p * v) % C) % C)) C
  rw [← hv] at e3
  generalize v * ((2 - (p * v) % C) % C) / C = q1 at *
  generalize (2 - (p * v) % C) / C = q2 at *
  generalize hu : (2 - (p * v) % C) % C = u at *
  generalize p * v / C = q3 at *
  generalize (p * v) % C = x at *
  refine ⟨c * (p * v * q3 - p * v * q2 - p * q1) - t * t, ?_⟩
  have h1 : p * v' = p * v * u - p * (C * q1) := by rw [show v' = v * u - C * q1 by omega, Int.mul_sub, ← Int.mul_assoc]
  have h2 : u = 2 - x - C * q2 := by omega
  have h3 : x = p * v - C * q3 := by omega
  have h4 : p * v = B * t + 1 := by omega
  rw [h1, h2, h3, h4, ec]
  grind
/-- Primes by trial. -/
theorem pr_trial {n : Nat} (h : 1 < n) (hn : ∀ d, 2 ≤ d → d * d ≤ n → n % d ≠ 0) : Pr n := by
  obtain ⟨p, h1, ⟨c, e⟩, h3⟩ := least_factor n h
  refine ⟨h, fun d hd => ?_⟩
  have key : ∀ d, 2 ≤ d → d ∣ n → d * d ≤ n → False := fun d h2 hd hl => hn d h2 hl (Nat.mod_eq_zero_of_dvd hd)
  obtain ⟨c, rfl⟩ := hd
  rcases Nat.lt_or_ge d 2 with hd2 | hd2
  · rcases Nat.eq_zero_or_pos d with rfl | h0
    · rw [Nat.zero_mul] at h; omega
    · left; omega
  · rcases Nat.lt_or_ge c 2 with hc2 | hc2
    · rcases Nat.eq_zero_or_pos c with rfl | h0
      · rw [Nat.mul_zero] at h; omega
      · right; rw [show c = 1 by omega, Nat.mul_one]
    · exfalso
      rcases Nat.le_total d c with hl | hl
      · exact key d hd2 ⟨c, rfl⟩ (Nat.mul_le_mul_left d hl)
      · exact key c hc2 ⟨d, Nat.mul_comm d c⟩ (Nat.mul_le_mul_right c hl)
theorem not_pr {n d : Nat} (h2 : 2 ≤ d) (hl : d * d ≤ n) (h : n % d = 0) : ¬ Pr n := fun hp => by
  rcases hp.2 d (Nat.dvd_of_mod_eq_zero h) with e | e
  · omega
  · subst e
    have := Nat.mul_le_mul_left d h2
    have := hp.1
    omega
/-- Is n without a divisor from d on (of fuel many)? -/
def trl (n : Nat) : Nat → Nat → Bool
  | 0, _ => false
  | f + 1, d => match Nat.ble (Nat.succ n) (Nat.mul d d) with
    | true => true
    | false => match Nat.beq (Nat.mod n d) 0 with
      | true => false
      | false => trl n f (Nat.succ d)
theorem trl_spec {n : Nat} : ∀ f d, (∀ x, 2 ≤ x → x < d → n % x ≠ 0) → trl n f d = true → ∀ x, 2 ≤ x → x * x ≤ n → n % x ≠ 0
  | 0, _, _, h, _, _, _ => by cases h
  | f + 1, d, hd, h, x, hx, hl => by
    unfold trl at h
    split at h
    · next h1 =>
      have h1 : n + 1 ≤ d * d := Nat.le_of_ble_eq_true h1
      refine hd x hx (Nat.lt_of_not_le fun hle => ?_)
      have := Nat.mul_le_mul hle hle
      omega
    · split at h
      · cases h
      · next h2 =>
        refine trl_spec f (d + 1) (fun y hy hyd => ?_) h x hx hl
        rcases Nat.lt_or_ge y d with h3 | h3
        · exact hd y hy h3
        · obtain rfl : y = d := by omega
          intro e
          have e' : Nat.mod n y = 0 := e
          rw [e'] at h2
          cases h2
/-- Are there so many primes 2 p j + 1, from j on? -/
def eno (p : Nat) : Nat → Nat → Nat → Bool
  | _, 0, _ => true
  | 0, _ + 1, _ => false
  | f + 1, t + 1, j => match trl (Nat.add (Nat.mul (Nat.mul 2 p) j) 1) 300 2 with
    | true => eno p f t (Nat.succ j)
    | false => eno p f (t + 1) (Nat.succ j)
def allEno (T : Nat → Nat) : Nat → Bool
  | 0 => true
  | 1 => true
  | n + 2 => eno (n + 2) 100 (T (n + 2)) 1 && allEno T (n + 1)
theorem allEno_at {T : Nat → Nat} : ∀ n, allEno T n = true → ∀ p, 2 ≤ p → p ≤ n → eno p 100 (T p) 1 = true
  | 0, _, p, h2, hl => by omega
  | 1, _, p, h2, hl => by omega
  | n + 1 + 1, h, p, h2, hl => by
    rw [allEno, Bool.and_eq_true] at h
    rcases Nat.lt_or_ge p (n + 1 + 1) with h3 | h3
    · exact allEno_at (n + 1) h.2 p h2 (by omega)
    · obtain rfl : p = n + 1 + 1 := by omega
      exact h.1
def tls (p : Nat) : Nat := Nat.add 1 (Nat.div 8 (Nat.succ (Nat.log2 p)))
theorem eno_all : ∀ p, 2 ≤ p → p ≤ 660 → eno p 100 (tls p) 1 = true := allEno_at (T := tls) 660 (by decide +kernel)
end Rt
end Go.Proofs.YtbdmncpibnligaaGreatDoor
