/- Shifts, limb by limb: plain lists and naturals. -/
import Derived.Test.YtnjkdplhoihkiaaM
namespace Go.Proofs.Ytnjkdplhoihkiaa

theorem val_set (o : List Nat) (j x : Nat) (h : j < o.length) : val (o.set j x) + lb o j * 4294967296 ^ j = val o + x * 4294967296 ^ j := by
  induction o generalizing j with
  | nil => simp at h
  | cons y ys ih =>
    cases j with
    | zero => simp [val, lb]; omega
    | succ j =>
      have := ih j (by simpa using h)
      have e : lb (y :: ys) (j + 1) = lb ys j := by simp [lb]
      rw [e]
      simp only [List.set_cons_succ, val, Nat.pow_succ]
      have h1 : lb ys j * (4294967296 ^ j * 4294967296) = 4294967296 * (lb ys j * 4294967296 ^ j) := by rw [← Nat.mul_assoc, Nat.mul_comm]
      have h2 : x * (4294967296 ^ j * 4294967296) = 4294967296 * (x * 4294967296 ^ j) := by rw [← Nat.mul_assoc, Nat.mul_comm]
      rw [h1, h2]
      omega

theorem lb_set_same {o : List Nat} {j : Nat} (x : Nat) (h : j < o.length) : lb (o.set j x) j = x := by simp [lb, h]
theorem lb_set_other {o : List Nat} {i j : Nat} (x : Nat) (h : i ≠ j) : lb (o.set i x) j = lb o j := by simp [lb, h]
theorem lb_zeros (n j : Nat) : lb (List.replicate n 0) j = 0 := by
  unfold lb
  by_cases h : j < n <;> simp [h]
theorem lb_out {o : List Nat} {j : Nat} (h : o.length ≤ j) : lb o j = 0 := by simp [lb, List.getElem?_eq_none h]

theorem val_take_succ (xs : List Nat) (i : Nat) (h : i < xs.length) : val (xs.take (i + 1)) = val (xs.take i) + lb xs i * 4294967296 ^ i := by
  rw [List.take_succ_eq_append_getElem h, val_append]
  have e : lb xs i = xs[i] := by simp [lb, h]
  have hl : (xs.take i).length = i := by simp; omega
  simp only [val, hl, e, Nat.mul_zero, Nat.add_zero]
  rw [Nat.mul_comm]

theorem set_lt {o : List Nat} {j x b : Nat} (h : ∀ y ∈ o, y < b) (hx : x < b) : ∀ y ∈ o.set j x, y < b := by
  intro y hy
  rcases List.mem_or_eq_of_mem_set hy with hy | rfl
  · exact h y hy
  · exact hx

/-- Low bits, and bits above them: together their sum. -/
theorem or_eq_add (a b s : Nat) (ha : a < 2 ^ s) : a ||| b * 2 ^ s = a + b * 2 ^ s := by
  have := Nat.two_pow_add_eq_or_of_lt ha b
  rw [Nat.or_comm, Nat.mul_comm, ← this, Nat.add_comm]

theorem shl_low (x s : Nat) (hs : s ≤ 32) : x * 2 ^ s % 4294967296 = x % 2 ^ (32 - s) * 2 ^ s := by
  have e : 4294967296 = 2 ^ (32 - s) * 2 ^ s := by rw [← Nat.pow_add, Nat.sub_add_cancel hs]
  rw [e, Nat.mul_mod_mul_right]
theorem shl_high (x s : Nat) (hs : s ≤ 32) : x / 2 ^ (32 - s) = x * 2 ^ s / 4294967296 := by
  have e : 4294967296 = 2 ^ (32 - s) * 2 ^ s := by rw [← Nat.pow_add, Nat.sub_add_cancel hs]
  rw [e, Nat.mul_div_mul_right _ _ (Nat.two_pow_pos s)]

/-- What 'out' is after i rounds of Shl. -/
structure ShlInv (xs : List Nat) (q s L i : Nat) (o : List Nat) : Prop where
  len : o.length = L
  lt : ∀ x ∈ o, x < 4294967296
  val_eq : val o = val (xs.take i) * (4294967296 ^ q * 2 ^ s)
  low : lb o (q + i) < 2 ^ s
  rest : ∀ j, q + i < j → lb o j = 0

theorem ShlInv.start (xs : List Nat) (q s L : Nat) : ShlInv xs q s L 0 (List.replicate L 0) :=
  ⟨by simp, fun x hx => by rw [List.eq_of_mem_replicate hx]; decide, by simp [val, val_replicate_zero], by rw [lb_zeros]; exact Nat.two_pow_pos s, fun j _ => lb_zeros L j⟩

def shlStep (o : List Nat) (x q s i : Nat) : List Nat := (o.set (q + i) (lb o (q + i) ||| x * 2 ^ s % 4294967296)).set (q + i + 1) (x / 2 ^ (32 - s))

theorem ShlInv.step {xs : List Nat} {q s L i : Nat} {o : List Nat} (h : ShlInv xs q s L i o) (hs : s < 32) (hx : ∀ x ∈ xs, x < 4294967296) (hi : i < xs.length) (hL : L = q + xs.length + 1) :
    ShlInv xs q s L (i + 1) (shlStep o (lb xs i) q s i) := by
  have hxi := lb_lt hx i
  have ho : lb o (q + i) ||| lb xs i * 2 ^ s % 4294967296 = lb o (q + i) + lb xs i * 2 ^ s % 4294967296 := by
    rw [shl_low _ _ (by omega)]; exact or_eq_add _ _ _ h.low
  have hb : lb o (q + i) + lb xs i * 2 ^ s % 4294967296 < 4294967296 := by
    have h1 := shl_low (lb xs i) s (by omega)
    have h2 : lb xs i % 2 ^ (32 - s) + 1 ≤ 2 ^ (32 - s) := Nat.mod_lt _ (Nat.two_pow_pos _)
    have h3 := Nat.mul_le_mul_right (2 ^ s) h2
    rw [← Nat.pow_add, Nat.sub_add_cancel (by omega), Nat.add_mul] at h3
    have := h.low
    rw [h1]
    omega
  have hhi : lb xs i / 2 ^ (32 - s) = lb xs i * 2 ^ s / 4294967296 := shl_high _ _ (by omega)
  have hlow : lb xs i * 2 ^ s / 4294967296 < 2 ^ s := by
    rw [Nat.div_lt_iff_lt_mul (by decide), Nat.mul_comm (2 ^ s)]
    exact Nat.mul_lt_mul_of_pos_right hxi (Nat.two_pow_pos s)
  have hs32 : 2 ^ s ≤ 4294967296 := by
    have := Nat.pow_le_pow_right (show 0 < 2 by decide) (show s ≤ 32 by omega)
    simpa using this
  have e1 := val_set o (q + i) (lb o (q + i) + lb xs i * 2 ^ s % 4294967296) (by rw [h.len]; omega)
  have e2 := val_set (o.set (q + i) (lb o (q + i) + lb xs i * 2 ^ s % 4294967296)) (q + i + 1) (lb xs i * 2 ^ s / 4294967296) (by simp [h.len]; omega)
  rw [lb_set_other _ (by omega), h.rest (q + i + 1) (by omega), Nat.zero_mul, Nat.add_zero] at e2
  unfold shlStep
  rw [ho, hhi]
  refine ⟨by simp [h.len], set_lt (set_lt h.lt hb) (by omega), ?_, ?_, ?_⟩
  · rw [e2, val_take_succ xs i hi, Nat.add_mul, ← h.val_eq]
    have e3 : lb xs i * 4294967296 ^ i * (4294967296 ^ q * 2 ^ s) = (lb xs i * 2 ^ s) * 4294967296 ^ (q + i) := by
      rw [Nat.pow_add]; simp only [Nat.mul_assoc, Nat.mul_left_comm, Nat.mul_comm]
    rw [e3]
    have e4 : lb xs i * 2 ^ s = lb xs i * 2 ^ s % 4294967296 + lb xs i * 2 ^ s / 4294967296 * 4294967296 := by omega
    have e5 : lb xs i * 2 ^ s / 4294967296 * 4294967296 ^ (q + i + 1) = (lb xs i * 2 ^ s / 4294967296 * 4294967296) * 4294967296 ^ (q + i) := by
      rw [Nat.pow_succ]; simp only [Nat.mul_assoc, Nat.mul_left_comm, Nat.mul_comm]
    rw [e5]
    conv => rhs; rw [e4]
    rw [Nat.add_mul] at e1 ⊢
    omega
  · rw [show q + (i + 1) = q + i + 1 by omega, lb_set_same _ (by simp [h.len]; omega)]; exact hlow
  · intro j hj
    rw [lb_set_other _ (by omega), lb_set_other _ (by omega)]
    exact h.rest j (by omega)
theorem pow32 (q : Nat) : 4294967296 ^ q = 2 ^ (32 * q) := by rw [Nat.pow_mul]
theorem ShlInv.done {xs : List Nat} {k L : Nat} {o : List Nat} (h : ShlInv xs (k / 32) (k % 32) L xs.length o) : val o = val xs * 2 ^ k := by
  rw [h.val_eq, List.take_length, pow32, ← Nat.pow_add, Nat.div_add_mod]

theorem val_drop (xs : List Nat) (q : Nat) (hx : ∀ x ∈ xs, x < 4294967296) : val (xs.drop q) = val xs / 4294967296 ^ q := by
  by_cases hq : q ≤ xs.length
  · have e : val xs = val (xs.take q) + 4294967296 ^ q * val (xs.drop q) := by
      have h := val_append (xs.take q) (xs.drop q)
      rw [List.take_append_drop, List.length_take, Nat.min_eq_left hq] at h
      exact h
    have hlt := val_lt (xs.take q) (fun x hx' => hx x (List.mem_of_mem_take hx'))
    rw [List.length_take, Nat.min_eq_left hq] at hlt
    rw [e, Nat.add_mul_div_left _ _ (Nat.pow_pos (by decide)), Nat.div_eq_of_lt hlt, Nat.zero_add]
  · rw [List.drop_eq_nil_of_le (by omega)]
    have := val_lt xs hx
    have h2 : 4294967296 ^ xs.length ≤ 4294967296 ^ q := Nat.pow_le_pow_right (by decide) (by omega)
    rw [Nat.div_eq_of_lt (by omega)]
    rfl

structure ShrInv (ys : List Nat) (s L i : Nat) (o : List Nat) : Prop where
  len : o.length = L
  lt : ∀ x ∈ o, x < 4294967296
  val_eq : val o = val (ys.take i) / 2 ^ s
  low : 0 < i → lb o (i - 1) < 2 ^ (32 - s)
  rest : ∀ j, i ≤ j → lb o j = 0

theorem ShrInv.start (ys : List Nat) (s L : Nat) : ShrInv ys s L 0 (List.replicate L 0) :=
  ⟨by simp, fun x hx => by rw [List.eq_of_mem_replicate hx]; decide, by simp [val, val_replicate_zero], fun h => absurd h (by omega), fun j _ => lb_zeros L j⟩

def shrStep0 (o : List Nat) (x s i : Nat) : List Nat := o.set i (x / 2 ^ s)
def shrStep (o : List Nat) (x s i : Nat) : List Nat := (o.set i (x / 2 ^ s)).set (i - 1) (lb o (i - 1) ||| x * 2 ^ (32 - s) % 4294967296)

theorem shr_top (x s : Nat) (hx : x < 4294967296) (hs : s ≤ 32) : x / 2 ^ s < 2 ^ (32 - s) := by
  rw [Nat.div_lt_iff_lt_mul (Nat.two_pow_pos s), ← Nat.pow_add, Nat.sub_add_cancel hs]
  exact hx

theorem ShrInv.step0 {ys : List Nat} {s L : Nat} {o : List Nat} (h : ShrInv ys s L 0 o) (hs : s < 32) (hx : ∀ x ∈ ys, x < 4294967296) (hi : 0 < ys.length) (hL : L = ys.length) :
    ShrInv ys s L 1 (shrStep0 o (lb ys 0) s 0) := by
  have hxi := lb_lt hx 0
  have hle : lb ys 0 / 2 ^ s ≤ lb ys 0 := Nat.div_le_self _ _
  have e1 := val_set o 0 (lb ys 0 / 2 ^ s) (by rw [h.len]; omega)
  rw [h.rest 0 (Nat.le_refl _), h.val_eq] at e1
  unfold shrStep0
  refine ⟨by simp [h.len], set_lt h.lt (by omega), ?_, fun _ => ?_, fun j hj => ?_⟩
  · have := val_take_succ ys 0 hi
    simp only [List.take_zero, val, Nat.zero_div, Nat.zero_add, Nat.pow_zero, Nat.mul_one] at e1 this
    rw [this]; omega
  · rw [lb_set_same _ (by rw [h.len]; omega)]; exact shr_top _ _ hxi (by omega)
  · rw [lb_set_other _ (by omega)]; exact h.rest j (by omega)

theorem ShrInv.step {ys : List Nat} {s L i : Nat} {o : List Nat} (h : ShrInv ys s L i o) (h0 : 0 < i) (hs : s < 32) (hx : ∀ x ∈ ys, x < 4294967296) (hi : i < ys.length) (hL : L = ys.length) :
    ShrInv ys s L (i + 1) (shrStep o (lb ys i) s i) := by
  obtain ⟨i, rfl⟩ : ∃ j, i = j + 1 := ⟨i - 1, by omega⟩
  have hxi := lb_lt hx (i + 1)
  have hle : lb ys (i + 1) / 2 ^ s ≤ lb ys (i + 1) := Nat.div_le_self _ _
  have hlow := h.low h0
  rw [Nat.add_sub_cancel] at hlow
  have ho : lb o i ||| lb ys (i + 1) * 2 ^ (32 - s) % 4294967296 = lb o i + lb ys (i + 1) * 2 ^ (32 - s) % 4294967296 := by
    rw [shl_low _ _ (by omega)]; exact or_eq_add _ _ _ hlow
  have hb : lb o i + lb ys (i + 1) * 2 ^ (32 - s) % 4294967296 < 4294967296 := by
    have h1 := shl_low (lb ys (i + 1)) (32 - s) (by omega)
    have h2 : lb ys (i + 1) % 2 ^ (32 - (32 - s)) + 1 ≤ 2 ^ (32 - (32 - s)) := Nat.mod_lt _ (Nat.two_pow_pos _)
    have h3 := Nat.mul_le_mul_right (2 ^ (32 - s)) h2
    rw [← Nat.pow_add, Nat.sub_add_cancel (by omega), Nat.add_mul] at h3
    rw [h1]
    omega
  have e1 := val_set o (i + 1) (lb ys (i + 1) / 2 ^ s) (by rw [h.len]; omega)
  rw [h.rest (i + 1) (Nat.le_refl _), Nat.zero_mul, Nat.add_zero] at e1
  have e2 := val_set (o.set (i + 1) (lb ys (i + 1) / 2 ^ s)) i (lb o i + lb ys (i + 1) * 2 ^ (32 - s) % 4294967296) (by simp [h.len]; omega)
  rw [lb_set_other _ (by omega)] at e2
  unfold shrStep
  rw [Nat.add_sub_cancel, ho]
  refine ⟨by simp [h.len], set_lt (set_lt h.lt (by omega)) hb, ?_, fun _ => ?_, fun j hj => ?_⟩
  · have e3 := val_take_succ ys (i + 1) hi
    have e4 : lb ys (i + 1) * 4294967296 ^ (i + 1) = lb ys (i + 1) * 2 ^ (32 - s) * 4294967296 ^ i * 2 ^ s := by
      have : (4294967296 : Nat) = 2 ^ (32 - s) * 2 ^ s := by rw [← Nat.pow_add, Nat.sub_add_cancel (by omega)]
      rw [Nat.pow_succ]
      conv => lhs; rw [show (4294967296 : Nat) ^ i * 4294967296 = 4294967296 ^ i * (2 ^ (32 - s) * 2 ^ s) by rw [← this]]
      simp only [Nat.mul_assoc, Nat.mul_left_comm, Nat.mul_comm]
    rw [e3, e4, Nat.add_mul_div_right _ _ (Nat.two_pow_pos s), ← h.val_eq]
    have e5 : lb ys (i + 1) / 2 ^ s = lb ys (i + 1) * 2 ^ (32 - s) / 4294967296 := by
      have := shl_high (lb ys (i + 1)) (32 - s) (by omega)
      rwa [show 32 - (32 - s) = s by omega] at this
    have e6 : lb ys (i + 1) / 2 ^ s * 4294967296 ^ (i + 1) = (lb ys (i + 1) / 2 ^ s * 4294967296) * 4294967296 ^ i := by
      rw [Nat.pow_succ]; simp only [Nat.mul_assoc, Nat.mul_left_comm, Nat.mul_comm]
    have e7 : lb ys (i + 1) * 2 ^ (32 - s) = lb ys (i + 1) * 2 ^ (32 - s) % 4294967296 + lb ys (i + 1) / 2 ^ s * 4294967296 := by rw [e5]; omega
    rw [e6] at e1
    rw [Nat.add_mul] at e2
    have e8 : lb ys (i + 1) * 2 ^ (32 - s) * 4294967296 ^ i = lb ys (i + 1) * 2 ^ (32 - s) % 4294967296 * 4294967296 ^ i + lb ys (i + 1) / 2 ^ s * 4294967296 * 4294967296 ^ i := by
      rw [← Nat.add_mul, ← e7]
    omega
  · rw [Nat.add_sub_cancel, lb_set_other _ (by omega), lb_set_same _ (by rw [h.len]; omega)]; exact shr_top _ _ hxi (by omega)
  · rw [lb_set_other _ (by omega), lb_set_other _ (by omega)]; exact h.rest j (by omega)

theorem ShrInv.done {xs : List Nat} {k L i : Nat} {o : List Nat} (hx : ∀ x ∈ xs, x < 4294967296) (h : ShrInv (xs.drop (k / 32)) (k % 32) L i o) (hi : i = (xs.drop (k / 32)).length) : val o = val xs / 2 ^ k := by
  subst hi
  rw [h.val_eq, List.take_length, val_drop _ _ hx, pow32, Nat.div_div_eq_div_mul, ← Nat.pow_add, Nat.div_add_mod]

/-- A bit of a number is that bit of its limb. -/
theorem bit_limb (n k : Nat) : lb (limbs n) (k / 32) / 2 ^ (k % 32) % 2 = n / 2 ^ k % 2 := by
  rw [lb_limbs, pow32]
  have hs : k % 32 < 32 := Nat.mod_lt _ (by decide)
  generalize hm : n / 2 ^ (32 * (k / 32)) = m
  have e : (4294967296 : Nat) = 2 ^ (k % 32) * 2 ^ (32 - k % 32) := by rw [← Nat.pow_add, show k % 32 + (32 - k % 32) = 32 by omega]
  rw [e, Nat.mod_mul_right_div_self, Nat.mod_mod_of_dvd _ ⟨2 ^ (32 - k % 32 - 1), by rw [← Nat.pow_succ', show (32 - k % 32 - 1).succ = 32 - k % 32 by omega]⟩, ← hm, Nat.div_div_eq_div_mul, ← Nat.pow_add, Nat.div_add_mod]

theorem bit_out (n k : Nat) (h : (limbs n).length ≤ k / 32) : n / 2 ^ k % 2 = 0 := by
  rw [← bit_limb, lb_out h, Nat.zero_div]

/-- The length in bits is that of the limbs ahead and of the last one. -/
theorem blen_limbs (n : Nat) (h : n ≠ 0) : blen n = 32 * ((limbs n).length - 1) + blen (lb (limbs n) ((limbs n).length - 1)) := by
  have hl := limbs_last h
  have e : lb (limbs n) ((limbs n).length - 1) = n / 2 ^ (32 * ((limbs n).length - 1)) := by
    rw [lb_limbs, ← pow32]
    apply Nat.mod_eq_of_lt
    have := lt_pow_len n
    have hp : 0 < (limbs n).length := by rw [limbs_pos h]; simp
    rw [Nat.div_lt_iff_lt_mul (Nat.pow_pos (by decide)), ← Nat.pow_succ', show ((limbs n).length - 1).succ = (limbs n).length by omega]
    exact this
  rw [e]
  apply blen_shift
  rw [← e]
  exact hl

/-- A number below 2^64 as one; and whether it is below. -/
def lowN (n : Nat) : Nat := if n < 18446744073709551616 then n else 0
def lowB (n : Nat) : Bool := decide (n < 18446744073709551616)
theorem lt_of_len_le {n k : Nat} (h : (limbs n).length ≤ k) : n < 4294967296 ^ k :=
  Nat.lt_of_lt_of_le (lt_pow_len n) (Nat.pow_le_pow_right (by decide) h)
theorem le_of_lt_len {n k : Nat} (h : k < (limbs n).length) : 4294967296 ^ k ≤ n := by
  rcases Nat.lt_or_ge n (4294967296 ^ k) with h1 | h1
  · have := len_le_of_lt h1; omega
  · exact h1
theorem lowB_of_le {n : Nat} (h : (limbs n).length ≤ 2) : lowB n = true := by
  have := lt_of_len_le h
  exact decide_eq_true (by omega)
theorem lowN_of_le {n : Nat} (h : (limbs n).length ≤ 2) : lowN n = n := by
  have := lt_of_len_le h
  exact if_pos (by omega)
theorem lowB_of_gt {n : Nat} (h : 2 < (limbs n).length) : lowB n = false := by
  have := le_of_lt_len h
  exact decide_eq_false (by omega)
theorem lowN_of_gt {n : Nat} (h : 2 < (limbs n).length) : lowN n = 0 := by
  have := le_of_lt_len h
  exact if_neg (by omega)
theorem lb_drop (xs : List Nat) (q i : Nat) : lb (xs.drop q) i = lb xs (q + i) := by unfold lb; rw [List.getElem?_drop]
theorem drop_lt {xs : List Nat} (q : Nat) (hx : ∀ x ∈ xs, x < 4294967296) : ∀ x ∈ xs.drop q, x < 4294967296 := fun x h => hx x (List.mem_of_mem_drop h)
end Go.Proofs.Ytnjkdplhoihkiaa
