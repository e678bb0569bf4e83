/- Order of limbs: plain lists and naturals. -/
import Derived.Test.YtnjkdplhoihkiaaM2
namespace Go.Proofs.Ytnjkdplhoihkiaa

/-- The first k of L - 1, L - 2, .., 0. -/
def downs (L k : Nat) : List Nat := (List.range k).map fun j => L - 1 - j
theorem downs_succ (L k : Nat) : downs L (k + 1) = downs L k ++ [L - 1 - k] := by simp [downs, List.range_succ]
theorem downs_length (L k : Nat) : (downs L k).length = k := by simp [downs]
theorem mem_downs {L k j : Nat} (hk : k ≤ L) : j ∈ downs L k ↔ L - k ≤ j ∧ j < L := by
  simp only [downs, List.mem_map, List.mem_range]
  constructor
  · rintro ⟨i, hi, rfl⟩; omega
  · intro h; exact ⟨L - 1 - j, by omega, by omega⟩

theorem val_lt_of_top {xs ys : List Nat} (hl : xs.length = ys.length) (hx : ∀ x ∈ xs, x < 4294967296) (hy : ∀ x ∈ ys, x < 4294967296) (p : Nat) (hp : p < xs.length)
    (ht : ∀ j, p < j → j < xs.length → lb xs j = lb ys j) (hlt : lb xs p < lb ys p) : val xs < val ys := by
  induction xs generalizing ys p with
  | nil => simp at hp
  | cons x xs ih =>
    cases ys with
    | nil => simp at hl
    | cons y ys =>
      have e : ∀ (a : Nat) (l : List Nat) j, lb (a :: l) (j + 1) = lb l j := fun a l j => by simp [lb]
      have hl' : xs.length = ys.length := by simpa using hl
      have h1 := hx x (List.mem_cons_self ..)
      have h2 := hy y (List.mem_cons_self ..)
      simp only [val]
      cases p with
      | zero =>
        have : xs = ys := ext_lb hl' fun j hj => by
          have := ht (j + 1) (by omega) (by simpa using hj)
          rwa [e, e] at this
        subst this
        have h3 : lb (x :: xs) 0 = x := by simp [lb]
        have h4 : lb (y :: xs) 0 = y := by simp [lb]
        omega
      | succ p =>
        rw [e, e] at hlt
        have := ih hl' (fun z hz => hx z (List.mem_cons_of_mem _ hz)) (fun z hz => hy z (List.mem_cons_of_mem _ hz)) p (by simpa using hp)
          (fun j h3 h4 => by
            have := ht (j + 1) (by omega) (by simpa using h4)
            rwa [e, e] at this) hlt
        omega

theorem cmpI_lt {x y : Int} (h : x < y) : cmpI x y = -1 := if_pos h
theorem cmpI_gt {x y : Int} (h : y < x) : cmpI x y = 1 := by rw [cmpI, if_neg (by omega), if_pos h]
theorem cmpI_eq (x : Int) : cmpI x x = 0 := by rw [cmpI, if_neg (by omega), if_neg (by omega)]

theorem lt_of_len_lt {n m : Nat} (h : (limbs n).length < (limbs m).length) : n < m := by
  have h1 := lt_pow_len n
  have h2 := le_of_lt_len h
  omega

/-- Numbers whose limbs differ in number stand as these numbers. -/
theorem cmpI_len {n m : Nat} (h : (limbs n).length ≠ (limbs m).length) : cmpI (limbs n).length (limbs m).length = cmpI n m := by
  rcases Nat.lt_or_gt_of_ne h with h | h
  · have := lt_of_len_lt h
    rw [cmpI_lt (by omega), cmpI_lt (by omega)]
  · have := lt_of_len_lt h
    rw [cmpI_gt (by omega), cmpI_gt (by omega)]

/-- Of as many limbs the first unlike ones from the top decide. -/
theorem cmpI_top {n m p : Nat} (hl : (limbs n).length = (limbs m).length) (hp : p < (limbs n).length) (ht : ∀ j, p < j → j < (limbs n).length → lb (limbs n) j = lb (limbs m) j)
    (hne : lb (limbs n) p ≠ lb (limbs m) p) : cmpI (lb (limbs n) p) (lb (limbs m) p) = cmpI n m := by
  rcases Nat.lt_or_gt_of_ne hne with h | h
  · have := val_lt_of_top hl (limbs_lt n) (limbs_lt m) p hp ht h
    rw [val_limbs, val_limbs] at this
    rw [cmpI_lt (by omega), cmpI_lt (by omega)]
  · have := val_lt_of_top hl.symm (limbs_lt m) (limbs_lt n) p (by omega) (fun j h1 h2 => (ht j h1 (by omega)).symm) h
    rw [val_limbs, val_limbs] at this
    rw [cmpI_gt (by omega), cmpI_gt (by omega)]
end Go.Proofs.Ytnjkdplhoihkiaa
