/- Limbs to the base 2^32 and the numbers that they are: plain lists and naturals. -/
namespace Go.Proofs.Ytnjkdplhoihkiaa

/-- The number that limbs are, the lowest first. -/
def val : List Nat → Nat
  | [] => 0
  | x :: xs => x + 4294967296 * val xs

/-- The limbs of a number. -/
def limbs (n : Nat) : List Nat := if h : n = 0 then [] else n % 4294967296 :: limbs (n / 4294967296)
termination_by n
decreasing_by exact Nat.div_lt_self (Nat.pos_of_ne_zero h) (by decide)

theorem limbs_zero : limbs 0 = [] := by rw [limbs]; simp
theorem limbs_pos {n : Nat} (h : n ≠ 0) : limbs n = n % 4294967296 :: limbs (n / 4294967296) := by rw [limbs]; simp [h]

theorem val_limbs (n : Nat) : val (limbs n) = n := by
  induction n using Nat.strongRecOn with
  | _ n ih =>
    by_cases h : n = 0
    · subst h; rw [limbs_zero]; rfl
    · rw [limbs_pos h]
      have := ih (n / 4294967296) (Nat.div_lt_self (Nat.pos_of_ne_zero h) (by decide))
      simp only [val, this]
      omega

theorem limbs_lt (n : Nat) : ∀ x ∈ limbs n, x < 4294967296 := by
  induction n using Nat.strongRecOn with
  | _ n ih =>
    by_cases h : n = 0
    · subst h; rw [limbs_zero]; simp
    · rw [limbs_pos h]
      intro x hx
      rcases List.mem_cons.1 hx with rfl | hx
      · omega
      · exact ih (n / 4294967296) (Nat.div_lt_self (Nat.pos_of_ne_zero h) (by decide)) x hx

theorem val_append (xs ys : List Nat) : val (xs ++ ys) = val xs + 4294967296 ^ xs.length * val ys := by
  induction xs with
  | nil => simp [val]
  | cons x xs ih =>
    simp only [List.cons_append, val, ih, List.length_cons, Nat.pow_succ]
    rw [Nat.mul_add, Nat.add_assoc]
    congr 2
    rw [← Nat.mul_assoc, Nat.mul_comm 4294967296]

theorem val_lt (xs : List Nat) (h : ∀ x ∈ xs, x < 4294967296) : val xs < 4294967296 ^ xs.length := by
  induction xs with
  | nil => simp [val]
  | cons x xs ih =>
    have h1 := ih fun y hy => h y (List.mem_cons_of_mem _ hy)
    have h2 := h x (List.mem_cons_self ..)
    simp only [val, List.length_cons, Nat.pow_succ]
    rw [Nat.mul_comm]
    have : val xs * 4294967296 + 4294967296 ≤ 4294967296 ^ xs.length * 4294967296 := by
      have := Nat.mul_le_mul_right 4294967296 (show val xs + 1 ≤ 4294967296 ^ xs.length from h1)
      rw [Nat.add_mul] at this
      omega
    omega

theorem val_replicate_zero (k : Nat) : val (List.replicate k 0) = 0 := by
  induction k with
  | zero => rfl
  | succ k ih => simp [List.replicate_succ, val, ih]

/-- Limbs whose last one is not 0 are the limbs of their number. -/
theorem limbs_val (xs : List Nat) (h : ∀ x ∈ xs, x < 4294967296) (hl : xs ≠ [] → xs[xs.length - 1]?.getD 0 ≠ 0) : limbs (val xs) = xs := by
  induction xs with
  | nil => rw [val, limbs_zero]
  | cons x xs ih =>
    have h2 := h x (List.mem_cons_self ..)
    have ih' := ih (fun y hy => h y (List.mem_cons_of_mem _ hy)) (fun hne => by
      have := hl (by simp)
      cases xs with
      | nil => exact absurd rfl hne
      | cons y ys => simpa using this)
    have hne : val (x :: xs) ≠ 0 := by
      cases xs with
      | nil => have := hl (by simp); simp [val] at this ⊢; exact this
      | cons y ys =>
        intro h0
        simp only [val] at h0
        have : val (y :: ys) = 0 := by simp only [val]; omega
        rw [this, limbs_zero] at ih'
        cases ih'
    rw [limbs_pos hne]
    have e1 : val (x :: xs) % 4294967296 = x := by simp only [val]; omega
    have e2 : val (x :: xs) / 4294967296 = val xs := by simp only [val]; omega
    rw [e1, e2, ih']

theorem limbs_last {n : Nat} (h : n ≠ 0) : (limbs n)[(limbs n).length - 1]?.getD 0 ≠ 0 := by
  induction n using Nat.strongRecOn with
  | _ n ih =>
    rw [limbs_pos h]
    by_cases h2 : n / 4294967296 = 0
    · rw [h2, limbs_zero]
      simp; omega
    · have := ih _ (Nat.div_lt_self (Nat.pos_of_ne_zero h) (by decide)) h2
      rw [limbs_pos h2] at this ⊢
      simpa using this

theorem limbs_eq_nil {n : Nat} : limbs n = [] ↔ n = 0 := by
  constructor
  · intro h
    have := val_limbs n
    rw [h] at this
    exact this.symm
  · rintro rfl; exact limbs_zero

theorem limbs_inj {n m : Nat} (h : limbs n = limbs m) : n = m := by rw [← val_limbs n, h, val_limbs]

theorem lt_pow_len (n : Nat) : n < 4294967296 ^ (limbs n).length := by
  have := val_lt (limbs n) (limbs_lt n)
  rwa [val_limbs] at this

theorem pow_len_le {n : Nat} (h : n ≠ 0) : 4294967296 ^ ((limbs n).length - 1) ≤ n := by
  induction n using Nat.strongRecOn with
  | _ n ih =>
    rw [limbs_pos h]
    by_cases h2 : n / 4294967296 = 0
    · rw [h2, limbs_zero]
      simp; omega
    · have := ih _ (Nat.div_lt_self (Nat.pos_of_ne_zero h) (by decide)) h2
      have hl : 0 < (limbs (n / 4294967296)).length := by
        rw [limbs_pos h2]; simp
      simp only [List.length_cons, Nat.add_sub_cancel]
      obtain ⟨k, hk⟩ : ∃ k, (limbs (n / 4294967296)).length = k + 1 := ⟨_, (Nat.succ_pred_eq_of_pos hl).symm⟩
      rw [hk] at this ⊢
      simp only [Nat.add_sub_cancel] at this
      rw [Nat.pow_succ]
      have := Nat.mul_le_mul_right 4294967296 this
      omega

theorem len_le_of_lt {n k : Nat} (h : n < 4294967296 ^ k) : (limbs n).length ≤ k := by
  by_cases h0 : n = 0
  · subst h0; rw [limbs_zero]; simp
  · have := pow_len_le h0
    have h1 : 4294967296 ^ ((limbs n).length - 1) < 4294967296 ^ k := Nat.lt_of_le_of_lt this h
    have := (Nat.pow_lt_pow_iff_right (by decide : 1 < 4294967296)).1 h1
    omega

theorem len_mono {n m : Nat} (h : n ≤ m) : (limbs n).length ≤ (limbs m).length :=
  len_le_of_lt (Nat.lt_of_le_of_lt h (lt_pow_len m))

theorem val_take (xs : List Nat) (k : Nat) (h : ∀ j, k ≤ j → j < xs.length → xs[j]?.getD 0 = 0) : val (xs.take k) = val xs := by
  have e : xs = xs.take k ++ xs.drop k := (List.take_append_drop k xs).symm
  have hz : val (xs.drop k) = 0 := by
    have : xs.drop k = List.replicate (xs.drop k).length 0 := by
      apply List.ext_getElem (by simp)
      intro i h1 h2
      have hi : k + i < xs.length := by simp at h1; omega
      have := h (k + i) (by omega) hi
      simp [List.getElem?_eq_getElem hi] at this
      simp [this]
    rw [this, val_replicate_zero]
  conv => rhs; rw [e, val_append, hz]
  simp

/-- What is left when noughts at the end are cut off. -/
theorem limbs_take (xs : List Nat) (k : Nat) (hx : ∀ x ∈ xs, x < 4294967296) (hk : k ≤ xs.length) (h : ∀ j, k ≤ j → j < xs.length → xs[j]?.getD 0 = 0)
    (hl : 0 < k → xs[k - 1]?.getD 0 ≠ 0) : limbs (val xs) = xs.take k := by
  rw [← val_take xs k h]
  apply limbs_val
  · intro x hx'; exact hx x (List.mem_of_mem_take hx')
  · intro hne
    have h0 : 0 < k := by
      rcases Nat.eq_zero_or_pos k with rfl | h0
      · simp at hne
      · exact h0
    have hlen : (xs.take k).length = k := by simp; omega
    rw [hlen, List.getElem?_take, if_pos (by omega)]
    exact hl h0

/-- The j-th limb, 0 beyond. -/
def lb (xs : List Nat) (j : Nat) : Nat := xs[j]?.getD 0

theorem lb_lt {xs : List Nat} (h : ∀ x ∈ xs, x < 4294967296) (j : Nat) : lb xs j < 4294967296 := by
  unfold lb
  by_cases hj : j < xs.length
  · rw [List.getElem?_eq_getElem hj]; exact h _ (List.getElem_mem hj)
  · rw [List.getElem?_eq_none (by omega)]; decide

theorem ext_lb {xs ys : List Nat} (hl : xs.length = ys.length) (h : ∀ j, j < xs.length → lb xs j = lb ys j) : xs = ys := by
  apply List.ext_getElem hl
  intro i h1 h2
  have := h i h1
  unfold lb at this
  rwa [List.getElem?_eq_getElem h1, List.getElem?_eq_getElem h2] at this

theorem lb_take {xs : List Nat} {k j : Nat} (h : j < k) : lb (xs.take k) j = lb xs j := by
  unfold lb; rw [List.getElem?_take, if_pos h]

theorem strip_eq (xs : List Nat) (k : Nat) (hx : ∀ x ∈ xs, x < 4294967296) (hk : k ≤ xs.length) (h : ∀ j, k ≤ j → j < xs.length → lb xs j = 0)
    (hl : 0 < k → lb xs (k - 1) ≠ 0) : limbs (val xs) = xs.take k := limbs_take xs k hx hk h hl

theorem lb_limbs (n j : Nat) : lb (limbs n) j = n / 4294967296 ^ j % 4294967296 := by
  unfold lb
  induction j generalizing n with
  | zero =>
    by_cases h : n = 0
    · subst h; rw [limbs_zero]; simp
    · rw [limbs_pos h]; simp
  | succ j ih =>
    by_cases h : n = 0
    · subst h; rw [limbs_zero]; simp
    · rw [limbs_pos h, Nat.pow_succ', ← Nat.div_div_eq_div_mul, ← ih]
      simp

/-- How two stand to each other: -1, 0, 1. -/
def cmpI (x y : Int) : Int := if x < y then -1 else if y < x then 1 else 0
/-- The least k of which 2^k is above n. -/
def blen (n : Nat) : Nat := if n = 0 then 0 else n.log2 + 1
/-- The i-th bit. -/
def bitN (n : Nat) (i : Int) : Nat := if i < 0 then 0 else n / 2 ^ i.toNat % 2

theorem blen_zero : blen 0 = 0 := rfl
theorem lt_pow_blen (n : Nat) : n < 2 ^ blen n := by
  unfold blen
  split
  · subst_vars; decide
  · exact Nat.lt_log2_self
theorem pow_blen_le {n : Nat} (h : n ≠ 0) : 2 ^ (blen n - 1) ≤ n := by
  unfold blen
  rw [if_neg h, Nat.add_sub_cancel]
  exact Nat.log2_self_le h
theorem blen_pos {n : Nat} (h : n ≠ 0) : 0 < blen n := by unfold blen; rw [if_neg h]; omega
theorem blen_le_of_lt {n k : Nat} (h : n < 2 ^ k) : blen n ≤ k := by
  by_cases h0 : n = 0
  · subst h0; exact Nat.zero_le _
  · have h1 := Nat.lt_of_le_of_lt (pow_blen_le h0) h
    have := (Nat.pow_lt_pow_iff_right (by decide : 1 < 2)).1 h1
    omega
theorem lt_blen_of_le {n k : Nat} (h : 2 ^ k ≤ n) : k < blen n := by
  have h1 := Nat.lt_of_le_of_lt h (lt_pow_blen n)
  exact (Nat.pow_lt_pow_iff_right (by decide : 1 < 2)).1 h1
theorem blen_eq {n k : Nat} (h1 : 2 ^ k ≤ n) (h2 : n < 2 ^ (k + 1)) : blen n = k + 1 := by
  have := lt_blen_of_le h1
  have := blen_le_of_lt h2
  omega
/-- A number's length is that of what lies from bit k on, and k, if anything lies there. -/
theorem blen_shift (n k : Nat) (h : n / 2 ^ k ≠ 0) : blen n = k + blen (n / 2 ^ k) := by
  have hp := blen_pos h
  have h1 := pow_blen_le h
  have h2 := lt_pow_blen (n / 2 ^ k)
  have hk : 0 < 2 ^ k := Nat.two_pow_pos k
  have g1 : 2 ^ (k + blen (n / 2 ^ k) - 1) ≤ n := by
    have : k + blen (n / 2 ^ k) - 1 = (blen (n / 2 ^ k) - 1) + k := by omega
    rw [this, Nat.pow_add]
    exact Nat.le_trans (Nat.mul_le_mul_right _ h1) (Nat.div_mul_le_self n (2 ^ k))
  have g2 : n < 2 ^ (k + blen (n / 2 ^ k)) := by
    rw [Nat.pow_add]
    exact Nat.lt_mul_of_div_lt h2 hk |> fun h => by rwa [Nat.mul_comm] at h
  have a := blen_le_of_lt g2
  have b := lt_blen_of_le g1
  omega

end Go.Proofs.Ytnjkdplhoihkiaa
