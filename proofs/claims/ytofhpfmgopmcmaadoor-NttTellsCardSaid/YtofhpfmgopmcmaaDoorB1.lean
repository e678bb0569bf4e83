/- Bits turned round. -/
import Derived.Test.YtofhpfmgopmcmaaDoorD3
namespace Go.Proofs.YtofhpfmgopmcmaaDoor
open Go.RowKit
set_option linter.unusedVariables false
set_option maxHeartbeats 400000

theorem rev_bit (s b i : Nat) : (rev s b).testBit i = (decide (i < s) && b.testBit (s - 1 - i)) := by
  induction s generalizing b i with
  | zero => simp [rev]
  | succ s ih =>
    have hlt := rev_lt s (b / 2)
    rw [rev, Nat.add_comm, Nat.mul_comm, Nat.testBit_two_pow_mul_add _ hlt]
    by_cases h : i < s
    · rw [if_pos h, ih, decide_eq_true h, decide_eq_true (show i < s + 1 by omega), Nat.testBit_div_two, show s - 1 - i + 1 = s + 1 - 1 - i by omega]
    · rw [if_neg h]
      by_cases e : i = s
      · subst e
        rw [Nat.sub_self, decide_eq_true (show i < i + 1 by omega), show i + 1 - 1 - i = 0 by omega]
        simp [Nat.testBit_zero]
      · rw [decide_eq_false (show ¬ i < s + 1 by omega), Bool.false_and]
        exact Nat.testBit_lt_two_pow (Nat.lt_of_lt_of_le (Nat.mod_lt _ (by decide)) (by have := Nat.pow_le_pow_right (n := 2) (by decide) (show 1 ≤ i - s by omega); simpa using this))
/-- Groups of s bits exchanged with their neighbours. -/
def swp (m s x : Nat) : Nat := x / 2 ^ s &&& m ||| (x &&& m) * 2 ^ s % 4294967296
theorem swp_lt (m s x : Nat) (hm : m < 4294967296) : swp m s x < 4294967296 := by
  have h1 : x / 2 ^ s &&& m < 2 ^ 32 := Nat.and_lt_two_pow _ (by simpa using hm)
  have h2 : (x &&& m) * 2 ^ s % 4294967296 < 2 ^ 32 := Nat.mod_lt _ (by decide)
  exact Nat.or_lt_two_pow h1 h2
theorem swp_bit (m s x i : Nat) (hi : i < 32) : (swp m s x).testBit i = (x.testBit (i + s) && m.testBit i || (decide (s ≤ i) && (x.testBit (i - s) && m.testBit (i - s)))) := by
  unfold swp
  rw [Nat.testBit_or, Nat.testBit_and, Nat.testBit_div_two_pow, show (4294967296 : Nat) = 2 ^ 32 by rfl, Nat.testBit_mod_two_pow, decide_eq_true hi, Bool.true_and, Nat.testBit_mul_two_pow, Nat.testBit_and]
theorem swp_cast (m s x : Nat) (hm : m < 4294967296) (hx : x < 4294967296) (M S : Int) (hM : M = (m : Int)) (hS : S = ((2 ^ s : Nat) : Int)) :
    bits .or .u32 (bits .and .u32 ((x : Int) / S) M) (bits .and .u32 (x : Int) M * S % 4294967296) = ((swp m s x : Nat) : Int) := by
  subst hM hS
  have e1 : (x : Int) / ((2 ^ s : Nat) : Int) = ((x / 2 ^ s : Nat) : Int) := by rw [Int.natCast_ediv]
  have e2 : ((x &&& m : Nat) : Int) * ((2 ^ s : Nat) : Int) % 4294967296 = (((x &&& m) * 2 ^ s % 4294967296 : Nat) : Int) := by rw [Int.natCast_emod, Int.natCast_mul]; rfl
  rw [e1, u32_and_nat _ _ (Nat.lt_of_le_of_lt (Nat.div_le_self _ _) hx) hm, u32_and_nat _ _ hx hm, e2, u32_or_nat _ _ (Nat.and_lt_two_pow (n := 32) _ hm) (Nat.mod_lt _ (by decide))]
  rfl
def bsw (x : Nat) : Nat := x / 2 ^ 16 ||| x * 2 ^ 16 % 4294967296
theorem bsw_bit (x i : Nat) (hi : i < 32) : (bsw x).testBit i = (x.testBit (i + 16) || (decide (16 ≤ i) && x.testBit (i - 16))) := by
  unfold bsw
  rw [Nat.testBit_or, Nat.testBit_div_two_pow, show (4294967296 : Nat) = 2 ^ 32 by rfl, Nat.testBit_mod_two_pow, decide_eq_true hi, Bool.true_and, Nat.testBit_mul_two_pow]
theorem bsw_cast (x : Nat) (hx : x < 4294967296) : bits .or .u32 ((x : Int) / 65536) ((x : Int) * 65536 % 4294967296) = ((bsw x : Nat) : Int) := by
  have e1 : (x : Int) / 65536 = ((x / 2 ^ 16 : Nat) : Int) := by rw [Int.natCast_ediv]; rfl
  have e2 : (x : Int) * 65536 % 4294967296 = ((x * 2 ^ 16 % 4294967296 : Nat) : Int) := by rw [Int.natCast_emod, Int.natCast_mul]; rfl
  rw [e1, e2, u32_or_nat _ _ (Nat.lt_of_le_of_lt (Nat.div_le_self _ _) hx) (Nat.mod_lt _ (by decide))]
  rfl
theorem m1 (j : Nat) (h : j < 32) : Nat.testBit 1431655765 j = (j % 2 == 0) := (by decide : ∀ j : Fin 32, Nat.testBit 1431655765 j.1 = (j.1 % 2 == 0)) ⟨j, h⟩
theorem m2 (j : Nat) (h : j < 32) : Nat.testBit 858993459 j = decide (j % 4 < 2) := (by decide : ∀ j : Fin 32, Nat.testBit 858993459 j.1 = decide (j.1 % 4 < 2)) ⟨j, h⟩
theorem m3 (j : Nat) (h : j < 32) : Nat.testBit 252645135 j = decide (j % 8 < 4) := (by decide : ∀ j : Fin 32, Nat.testBit 252645135 j.1 = decide (j.1 % 8 < 4)) ⟨j, h⟩
theorem m4 (j : Nat) (h : j < 32) : Nat.testBit 16711935 j = decide (j % 16 < 8) := (by decide : ∀ j : Fin 32, Nat.testBit 16711935 j.1 = decide (j.1 % 16 < 8)) ⟨j, h⟩
theorem r32_eq (x : Nat) (hx : x < 4294967296) : bsw (swp 16711935 8 (swp 252645135 4 (swp 858993459 2 (swp 1431655765 1 x)))) = rev 32 x := by
  apply Nat.eq_of_testBit_eq
  intro i
  rw [rev_bit]
  by_cases h : i < 32
  · rw [decide_eq_true h, Bool.true_and]
    have hz : ∀ y j, y < 4294967296 → 32 ≤ j → y.testBit j = false := fun y j hy hj => Nat.testBit_lt_two_pow (Nat.lt_of_lt_of_le hy (Nat.pow_le_pow_right (n := 2) (by decide) hj))
    have hb := fun j => hz x j hx
    have z1 := fun j => hz _ j (swp_lt 1431655765 1 x (by decide))
    have z2 := fun j => hz _ j (swp_lt 858993459 2 (swp 1431655765 1 x) (by decide))
    have z3 := fun j => hz _ j (swp_lt 252645135 4 (swp 858993459 2 (swp 1431655765 1 x)) (by decide))
    have z4 := fun j => hz _ j (swp_lt 16711935 8 (swp 252645135 4 (swp 858993459 2 (swp 1431655765 1 x))) (by decide))
    clear hz
    rcases (show i = 0 ∨ i = 1 ∨ i = 2 ∨ i = 3 ∨ i = 4 ∨ i = 5 ∨ i = 6 ∨ i = 7 ∨ i = 8 ∨ i = 9 ∨ i = 10 ∨ i = 11 ∨ i = 12 ∨ i = 13 ∨ i = 14 ∨ i = 15 ∨ i = 16 ∨ i = 17 ∨ i = 18 ∨ i = 19 ∨ i = 20 ∨ i = 21 ∨ i = 22 ∨ i = 23 ∨ i = 24 ∨ i = 25 ∨ i = 26 ∨ i = 27 ∨ i = 28 ∨ i = 29 ∨ i = 30 ∨ i = 31 by omega) with rfl | rfl | rfl | rfl | rfl | rfl | rfl | rfl | rfl | rfl | rfl | rfl | rfl | rfl | rfl | rfl | rfl | rfl | rfl | rfl | rfl | rfl | rfl | rfl | rfl | rfl | rfl | rfl | rfl | rfl | rfl | rfl
    all_goals
      clear h
      simp [bsw_bit, swp_bit, m1, m2, m3, m4, z4, z3, z2, z1, hb, -Nat.testBit_zero]
  · rw [decide_eq_false h, Bool.false_and]
    refine Nat.testBit_lt_two_pow (Nat.lt_of_lt_of_le (m := 2 ^ 32) ?_ (Nat.pow_le_pow_right (by decide) (by omega)))
    unfold bsw
    have z4 := swp_lt 16711935 8 (swp 252645135 4 (swp 858993459 2 (swp 1431655765 1 x))) (by decide)
    exact Nat.or_lt_two_pow (Nat.lt_of_le_of_lt (Nat.div_le_self _ _) z4) (Nat.mod_lt _ (by decide))

theorem rb_calls (w : World) (x : Nat) (hx : x < 4294967296) :
    Calls Tryd.prog 57 #[.int .u32 (x : Nat)] w fun e w' => e = .returned (.int .u32 (bsw (swp 16711935 8 x) : Nat)) ∧ w = w' := by
  have h1 := swp_cast 16711935 8 x (by decide) hx 16711935 256 rfl rfl
  have l1 := swp_lt 16711935 8 x (by decide)
  have h2 := bsw_cast (swp 16711935 8 x) l1
  generalize bsw (swp 16711935 8 x) = z at *
  generalize swp 16711935 8 x = y at *
  go_enter Tryd.func57, Tryd.ntmps57
  go_wp2
  go_ret
  exact ⟨ret_int (by first | rfl | rw [h2]), rfl⟩
theorem r32_calls (w : World) (x : Nat) (hx : x < 4294967296) :
    Calls Tryd.prog 56 #[.int .u32 (x : Nat)] w fun e w' => e = .returned (.int .u32 (rev 32 x : Nat)) ∧ w = w' := by
  have h1 := swp_cast 1431655765 1 x (by decide) hx 1431655765 2 rfl rfl
  have l1 := swp_lt 1431655765 1 x (by decide)
  have h2 := swp_cast 858993459 2 (swp 1431655765 1 x) (by decide) l1 858993459 4 rfl rfl
  have l2 := swp_lt 858993459 2 (swp 1431655765 1 x) (by decide)
  have h3 := swp_cast 252645135 4 (swp 858993459 2 (swp 1431655765 1 x)) (by decide) l2 252645135 16 rfl rfl
  have l3 := swp_lt 252645135 4 (swp 858993459 2 (swp 1431655765 1 x)) (by decide)
  have HF := Lib.hid (r32_eq x hx)
  generalize swp 252645135 4 (swp 858993459 2 (swp 1431655765 1 x)) = x3 at *
  generalize swp 858993459 2 (swp 1431655765 1 x) = x2 at *
  generalize swp 1431655765 1 x = x1 at *
  go_enter Tryd.func56, Tryd.ntmps56
  go_wp2_with (fail)
  refine (rb_calls _ x3 l3).mono ?_
  rintro e w' ⟨rfl, rfl⟩
  rw [HF.out]
  go_wp2
  go_ret
  exact ⟨rfl, rfl⟩
end Go.Proofs.YtofhpfmgopmcmaaDoor
