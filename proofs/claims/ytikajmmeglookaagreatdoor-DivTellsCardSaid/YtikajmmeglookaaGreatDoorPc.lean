/- Shifts, limb by limb: plain lists and naturals. -/
import Derived.Test.YtikajmmeglookaaGreatDoorPb
import Derived.Deep.CutBlock
import Derived.Test.YtikajmmeglookaaGreatDoorRows
import Derived.Test.YtikajmmeglookaaGreatDoorCards
import Derived.Test.YtikajmmeglookaaGreatDoorTie
import Derived.SevenTiedAt
import Derived.LaidMore
import Derived.Stop.Joined
import Derived.JoinedOf
import Derived.JoinedAt
import Derived.Lib.SmallJoins
import Derived.Laws.BitsLemmas
import Derived.Deep.RegionHeld3
import Derived.Maps.AppendAt

namespace Go.Proofs.YtikajmmeglookaaGreatDoor

theorem val_set (o : List Nat) (j x : Nat) (h : j < o.length) : val (o.set j x) + lb o j * 4294967296 ^ j = val o + x * 4294967296 ^ j := by
  induction o generalizing j with
  | nil => simp at h
  | cons y ys ih =>
    cases j with
    | zero => simp [val, lb]; omega
    | succ j =>
      have := ih j (by simpa using h)
      have e : lb (y :: ys) (j + 1) = lb ys j := by simp [lb]
      rw [e]
      simp only [List.set_cons_succ, val, Nat.pow_succ]
      have h1 : lb ys j * (4294967296 ^ j * 4294967296) = 4294967296 * (lb ys j * 4294967296 ^ j) := by rw [← Nat.mul_assoc, Nat.mul_comm]
      have h2 : x * (4294967296 ^ j * 4294967296) = 4294967296 * (x * 4294967296 ^ j) := by rw [← Nat.mul_assoc, Nat.mul_comm]
      rw [h1, h2]
      omega

theorem val_take_succ (xs : List Nat) (i : Nat) (h : i < xs.length) : val (xs.take (i + 1)) = val (xs.take i) + lb xs i * 4294967296 ^ i := by
  rw [List.take_succ_eq_append_getElem h, val_append]
  have e : lb xs i = xs[i] := by simp [lb, h]
  have hl : (xs.take i).length = i := by simp; omega
  simp only [val, hl, e, Nat.mul_zero, Nat.add_zero]
  rw [Nat.mul_comm]

/-- Low bits, and bits above them: together their sum. -/
theorem or_eq_add (a b s : Nat) (ha : a < 2 ^ s) : a ||| b * 2 ^ s = a + b * 2 ^ s := by
  have := Nat.two_pow_add_eq_or_of_lt ha b
  rw [Nat.or_comm, Nat.mul_comm, ← this, Nat.add_comm]

theorem shl_low (x s : Nat) (hs : s ≤ 32) : x * 2 ^ s % 4294967296 = x % 2 ^ (32 - s) * 2 ^ s := by
  have e : 4294967296 = 2 ^ (32 - s) * 2 ^ s := by rw [← Nat.pow_add, Nat.sub_add_cancel hs]
  rw [e, Nat.mul_mod_mul_right]
theorem shl_high (x s : Nat) (hs : s ≤ 32) : x / 2 ^ (32 - s) = x * 2 ^ s / 4294967296 := by
  have e : 4294967296 = 2 ^ (32 - s) * 2 ^ s := by rw [← Nat.pow_add, Nat.sub_add_cancel hs]
  rw [e, Nat.mul_div_mul_right _ _ (Nat.two_pow_pos s)]

/-- What 'out' is after i rounds of Shl. -/
structure ShlInv (xs : List Nat) (q s L i : Nat) (o : List Nat) : Prop where
  len : o.length = L
  lt : ∀ x ∈ o, x < 4294967296
  val_eq : val o = val (xs.take i) * (4294967296 ^ q * 2 ^ s)
  low : lb o (q + i) < 2 ^ s
  rest : ∀ j, q + i < j → lb o j = 0

theorem ShlInv.start (xs : List Nat) (q s L : Nat) : ShlInv xs q s L 0 (List.replicate L 0) :=
  ⟨by simp, fun x hx => by rw [List.eq_of_mem_replicate hx]; decide, by simp [val, val_replicate_zero], by rw [lb_zeros]; exact Nat.two_pow_pos s, fun j _ => lb_zeros L j⟩

def shlStep (o : List Nat) (x q s i : Nat) : List Nat := (o.set (q + i) (lb o (q + i) ||| x * 2 ^ s % 4294967296)).set (q + i + 1) (x / 2 ^ (32 - s))

theorem ShlInv.step {xs : List Nat} {q s L i : Nat} {o : List Nat} (h : ShlInv xs q s L i o) (hs : s < 32) (hx : ∀ x ∈ xs, x < 4294967296) (hi : i < xs.length) (hL : L = q + xs.length + 1) :
    ShlInv xs q s L (i + 1) (shlStep o (lb xs i) q s i) := by
  have hxi := lb_lt hx i
  have ho : lb o (q + i) ||| lb xs i * 2 ^ s % 4294967296 = lb o (q + i) + lb xs i * 2 ^ s % 4294967296 := by
    rw [shl_low _ _ (by omega)]; exact or_eq_add _ _ _ h.low
  have hb : lb o (q + i) + lb xs i * 2 ^ s % 4294967296 < 4294967296 := by
    have h1 := shl_low (lb xs i) s (by omega)
    have h2 : lb xs i % 2 ^ (32 - s) + 1 ≤ 2 ^ (32 - s) := Nat.mod_lt _ (Nat.two_pow_pos _)
    have h3 := Nat.mul_le_mul_right (2 ^ s) h2
    rw [← Nat.pow_add, Nat.sub_add_cancel (by omega), Nat.add_mul] at h3
    have := h.low
    rw [h1]
    omega
  have hhi : lb xs i / 2 ^ (32 - s) = lb xs i * 2 ^ s / 4294967296 := shl_high _ _ (by omega)
  have hlow : lb xs i * 2 ^ s / 4294967296 < 2 ^ s := by
    rw [Nat.div_lt_iff_lt_mul (by decide), Nat.mul_comm (2 ^ s)]
    exact Nat.mul_lt_mul_of_pos_right hxi (Nat.two_pow_pos s)
  have hs32 : 2 ^ s ≤ 4294967296 := by
    have := Nat.pow_le_pow_right (show 0 < 2 by decide) (show s ≤ 32 by omega)
    simpa using this
  have e1 := val_set o (q + i) (lb o (q + i) + lb xs i * 2 ^ s % 4294967296) (by rw [h.len]; omega)
  have e2 := val_set (o.set (q + i) (lb o (q + i) + lb xs i * 2 ^ s % 4294967296)) (q + i + 1) (lb xs i * 2 ^ s / 4294967296) (by simp [h.len]; omega)
  rw [lb_set_other _ (by omega), h.rest (q + i + 1) (by omega), Nat.zero_mul, Nat.add_zero] at e2
  unfold shlStep
  rw [ho, hhi]
  refine ⟨by simp [h.len], set_lt (set_lt h.lt hb) (by omega), ?_, ?_, ?_⟩
  · rw [e2, val_take_succ xs i hi, Nat.add_mul, ← h.val_eq]
    have e3 : lb xs i * 4294967296 ^ i * (4294967296 ^ q * 2 ^ s) = (lb xs i * 2 ^ s) * 4294967296 ^ (q + i) := by
      rw [Nat.pow_add]; simp only [Nat.mul_assoc, Nat.mul_left_comm, Nat.mul_comm]
    rw [e3]
    have e4 : lb xs i * 2 ^ s = lb xs i * 2 ^ s % 4294967296 + lb xs i * 2 ^ s / 4294967296 * 4294967296 := by omega
    have e5 : lb xs i * 2 ^ s / 4294967296 * 4294967296 ^ (q + i + 1) = (lb xs i * 2 ^ s / 4294967296 * 4294967296) * 4294967296 ^ (q + i) := by
      rw [Nat.pow_succ]; simp only [Nat.mul_assoc, Nat.mul_left_comm, Nat.mul_comm]
    rw [e5]
    conv => rhs; rw [e4]
    rw [Nat.add_mul] at e1 ⊢
    omega
  · rw [show q + (i + 1) = q + i + 1 by omega, lb_set_same _ (by simp [h.len]; omega)]; exact hlow
  · intro j hj
    rw [lb_set_other _ (by omega), lb_set_other _ (by omega)]
    exact h.rest j (by omega)
theorem pow32 (q : Nat) : 4294967296 ^ q = 2 ^ (32 * q) := by rw [Nat.pow_mul]
theorem ShlInv.done {xs : List Nat} {k L : Nat} {o : List Nat} (h : ShlInv xs (k / 32) (k % 32) L xs.length o) : val o = val xs * 2 ^ k := by
  rw [h.val_eq, List.take_length, pow32, ← Nat.pow_add, Nat.div_add_mod]

theorem val_drop (xs : List Nat) (q : Nat) (hx : ∀ x ∈ xs, x < 4294967296) : val (xs.drop q) = val xs / 4294967296 ^ q := by
  by_cases hq : q ≤ xs.length
  · have e : val xs = val (xs.take q) + 4294967296 ^ q * val (xs.drop q) := by
      have h := val_append (xs.take q) (xs.drop q)
      rw [List.take_append_drop, List.length_take, Nat.min_eq_left hq] at h
      exact h
    have hlt := val_lt (xs.take q) (fun x hx' => hx x (List.mem_of_mem_take hx'))
    rw [List.length_take, Nat.min_eq_left hq] at hlt
    rw [e, Nat.add_mul_div_left _ _ (Nat.pow_pos (by decide)), Nat.div_eq_of_lt hlt, Nat.zero_add]
  · rw [List.drop_eq_nil_of_le (by omega)]
    have := val_lt xs hx
    have h2 : 4294967296 ^ xs.length ≤ 4294967296 ^ q := Nat.pow_le_pow_right (by decide) (by omega)
    rw [Nat.div_eq_of_lt (by omega)]
    rfl

structure ShrInv (ys : List Nat) (s L i : Nat) (o : List Nat) : Prop where
  len : o.length = L
  lt : ∀ x ∈ o, x < 4294967296
  val_eq : val o = val (ys.take i) / 2 ^ s
  low : 0 < i → lb o (i - 1) < 2 ^ (32 - s)
  rest : ∀ j, i ≤ j → lb o j = 0

theorem ShrInv.start (ys : List Nat) (s L : Nat) : ShrInv ys s L 0 (List.replicate L 0) :=
  ⟨by simp, fun x hx => by rw [List.eq_of_mem_replicate hx]; decide, by simp [val, val_replicate_zero], fun h => absurd h (by omega), fun j _ => lb_zeros L j⟩

def shrStep0 (o : List Nat) (x s i : Nat) : List Nat := o.set i (x / 2 ^ s)
def shrStep (o : List Nat) (x s i : Nat) : List Nat := (o.set i (x / 2 ^ s)).set (i - 1) (lb o (i - 1) ||| x * 2 ^ (32 - s) % 4294967296)

theorem shr_top (x s : Nat) (hx : x < 4294967296) (hs : s ≤ 32) : x / 2 ^ s < 2 ^ (32 - s) := by
  rw [Nat.div_lt_iff_lt_mul (Nat.two_pow_pos s), ← Nat.pow_add, Nat.sub_add_cancel hs]
  exact hx

theorem ShrInv.step0 {ys : List Nat} {s L : Nat} {o : List Nat} (h : ShrInv ys s L 0 o) (hs : s < 32) (hx : ∀ x ∈ ys, x < 4294967296) (hi : 0 < ys.length) (hL : L = ys.length) :
    ShrInv ys s L 1 (shrStep0 o (lb ys 0) s 0) := by
  have hxi := lb_lt hx 0
  have hle : lb ys 0 / 2 ^ s ≤ lb ys 0 := Nat.div_le_self _ _
  have e1 := val_set o 0 (lb ys 0 / 2 ^ s) (by rw [h.len]; omega)
  rw [h.rest 0 (Nat.le_refl _), h.val_eq] at e1
  unfold shrStep0
  refine ⟨by simp [h.len], set_lt h.lt (by omega), ?_, fun _ => ?_, fun j hj => ?_⟩
  · have := val_take_succ ys 0 hi
    simp only [List.take_zero, val, Nat.zero_div, Nat.zero_add, Nat.pow_zero, Nat.mul_one] at e1 this
    rw [this]; omega
  · rw [lb_set_same _ (by rw [h.len]; omega)]; exact shr_top _ _ hxi (by omega)
  · rw [lb_set_other _ (by omega)]; exact h.rest j (by omega)

theorem ShrInv.step {ys : List Nat} {s L i : Nat} {o : List Nat} (h : ShrInv ys s L i o) (h0 : 0 < i) (hs : s < 32) (hx : ∀ x ∈ ys, x < 4294967296) (hi : i < ys.length) (hL : L = ys.length) :
    ShrInv ys s L (i + 1) (shrStep o (lb ys i) s i) := by
  obtain ⟨i, rfl⟩ : ∃ j, i = j + 1 := ⟨i - 1, by omega⟩
  have hxi := lb_lt hx (i + 1)
  have hle : lb ys (i + 1) / 2 ^ s ≤ lb ys (i + 1) := Nat.div_le_self _ _
  have hlow := h.low h0
  rw [Nat.add_sub_cancel] at hlow
  have ho : lb o i ||| lb ys (i + 1) * 2 ^ (32 - s) % 4294967296 = lb o i + lb ys (i + 1) * 2 ^ (32 - s) % 4294967296 := by
    rw [shl_low _ _ (by omega)]; exact or_eq_add _ _ _ hlow
  have hb : lb o i + lb ys (i + 1) * 2 ^ (32 - s) % 4294967296 < 4294967296 := by
    have h1 := shl_low (lb ys (i + 1)) (32 - s) (by omega)
    have h2 : lb ys (i + 1) % 2 ^ (32 - (32 - s)) + 1 ≤ 2 ^ (32 - (32 - s)) := Nat.mod_lt _ (Nat.two_pow_pos _)
    have h3 := Nat.mul_le_mul_right (2 ^ (32 - s)) h2
    rw [← Nat.pow_add, Nat.sub_add_cancel (by omega), Nat.add_mul] at h3
    rw [h1]
    omega
  have e1 := val_set o (i + 1) (lb ys (i + 1) / 2 ^ s) (by rw [h.len]; omega)
  rw [h.rest (i + 1) (Nat.le_refl _), Nat.zero_mul, Nat.add_zero] at e1
  have e2 := val_set (o.set (i + 1) (lb ys (i + 1) / 2 ^ s)) i (lb o i + lb ys (i + 1) * 2 ^ (32 - s) % 4294967296) (by simp [h.len]; omega)
  rw [lb_set_other _ (by omega)] at e2
  unfold shrStep
  rw [Nat.add_sub_cancel, ho]
  refine ⟨by simp [h.len], set_lt (set_lt h.lt (by omega)) hb, ?_, fun _ => ?_, fun j hj => ?_⟩
  · have e3 := val_take_succ ys (i + 1) hi
    have e4 : lb ys (i + 1) * 4294967296 ^ (i + 1) = lb ys (i + 1) * 2 ^ (32 - s) * 4294967296 ^ i * 2 ^ s := by
      have : (4294967296 : Nat) = 2 ^ (32 - s) * 2 ^ s := by rw [← Nat.pow_add, Nat.sub_add_cancel (by omega)]
      rw [Nat.pow_succ]
      conv => lhs; rw [show (4294967296 : Nat) ^ i * 4294967296 = 4294967296 ^ i * (2 ^ (32 - s) * 2 ^ s) by rw [← this]]
      simp only [Nat.mul_assoc, Nat.mul_left_comm, Nat.mul_comm]
    rw [e3, e4, Nat.add_mul_div_right _ _ (Nat.two_pow_pos s), ← h.val_eq]
    have e5 : lb ys (i + 1) / 2 ^ s = lb ys (i + 1) * 2 ^ (32 - s) / 4294967296 := by
      have := shl_high (lb ys (i + 1)) (32 - s) (by omega)
      rwa [show 32 - (32 - s) = s by omega] at this
    have e6 : lb ys (i + 1) / 2 ^ s * 4294967296 ^ (i + 1) = (lb ys (i + 1) / 2 ^ s * 4294967296) * 4294967296 ^ i := by
      rw [Nat.pow_succ]; simp only [Nat.mul_assoc, Nat.mul_left_comm, Nat.mul_comm]
    have e7 : lb ys (i + 1) * 2 ^ (32 - s) = lb ys (i + 1) * 2 ^ (32 - s) % 4294967296 + lb ys (i + 1) / 2 ^ s * 4294967296 := by rw [e5]; omega
    rw [e6] at e1
    rw [Nat.add_mul] at e2
    have e8 : lb ys (i + 1) * 2 ^ (32 - s) * 4294967296 ^ i = lb ys (i + 1) * 2 ^ (32 - s) % 4294967296 * 4294967296 ^ i + lb ys (i + 1) / 2 ^ s * 4294967296 * 4294967296 ^ i := by
      rw [← Nat.add_mul, ← e7]
    omega
  · rw [Nat.add_sub_cancel, lb_set_other _ (by omega), lb_set_same _ (by rw [h.len]; omega)]; exact shr_top _ _ hxi (by omega)
  · rw [lb_set_other _ (by omega), lb_set_other _ (by omega)]; exact h.rest j (by omega)

theorem ShrInv.done {xs : List Nat} {k L i : Nat} {o : List Nat} (hx : ∀ x ∈ xs, x < 4294967296) (h : ShrInv (xs.drop (k / 32)) (k % 32) L i o) (hi : i = (xs.drop (k / 32)).length) : val o = val xs / 2 ^ k := by
  subst hi
  rw [h.val_eq, List.take_length, val_drop _ _ hx, pow32, Nat.div_div_eq_div_mul, ← Nat.pow_add, Nat.div_add_mod]

/-- A bit of a number is that bit of its limb. -/
theorem bit_limb (n k : Nat) : lb (limbs n) (k / 32) / 2 ^ (k % 32) % 2 = n / 2 ^ k % 2 := by
  rw [lb_limbs, pow32]
  have hs : k % 32 < 32 := Nat.mod_lt _ (by decide)
  generalize hm : n / 2 ^ (32 * (k / 32)) = m
  have e : (4294967296 : Nat) = 2 ^ (k % 32) * 2 ^ (32 - k % 32) := by rw [← Nat.pow_add, show k % 32 + (32 - k % 32) = 32 by omega]
  rw [e, Nat.mod_mul_right_div_self, Nat.mod_mod_of_dvd _ ⟨2 ^ (32 - k % 32 - 1), by rw [← Nat.pow_succ', show (32 - k % 32 - 1).succ = 32 - k % 32 by omega]⟩, ← hm, Nat.div_div_eq_div_mul, ← Nat.pow_add, Nat.div_add_mod]

theorem bit_out (n k : Nat) (h : (limbs n).length ≤ k / 32) : n / 2 ^ k % 2 = 0 := by
  rw [← bit_limb, lb_out h, Nat.zero_div]

/-- The length in bits is that of the limbs ahead and of the last one. -/
theorem blen_limbs (n : Nat) (h : n ≠ 0) : blen n = 32 * ((limbs n).length - 1) + blen (lb (limbs n) ((limbs n).length - 1)) := by
  have hl := limbs_last h
  have e : lb (limbs n) ((limbs n).length - 1) = n / 2 ^ (32 * ((limbs n).length - 1)) := by
    rw [lb_limbs, ← pow32]
    apply Nat.mod_eq_of_lt
    have := lt_pow_len n
    have hp : 0 < (limbs n).length := by rw [limbs_pos h]; simp
    rw [Nat.div_lt_iff_lt_mul (Nat.pow_pos (by decide)), ← Nat.pow_succ', show ((limbs n).length - 1).succ = (limbs n).length by omega]
    exact this
  rw [e]
  apply blen_shift
  rw [← e]
  exact hl

/-- A number below 2^64 as one; and whether it is below. -/
def lowN (n : Nat) : Nat := if n < 18446744073709551616 then n else 0
def lowB (n : Nat) : Bool := decide (n < 18446744073709551616)
theorem lt_of_len_le {n k : Nat} (h : (limbs n).length ≤ k) : n < 4294967296 ^ k :=
  Nat.lt_of_lt_of_le (lt_pow_len n) (Nat.pow_le_pow_right (by decide) h)
theorem le_of_lt_len {n k : Nat} (h : k < (limbs n).length) : 4294967296 ^ k ≤ n := by
  rcases Nat.lt_or_ge n (4294967296 ^ k) with h1 | h1
  · have := len_le_of_lt h1; omega
  · exact h1
theorem lowB_of_le {n : Nat} (h : (limbs n).length ≤ 2) : lowB n = true := by
  have := lt_of_len_le h
  exact decide_eq_true (by omega)
theorem lowN_of_le {n : Nat} (h : (limbs n).length ≤ 2) : lowN n = n := by
  have := lt_of_len_le h
  exact if_pos (by omega)
theorem lowB_of_gt {n : Nat} (h : 2 < (limbs n).length) : lowB n = false := by
  have := le_of_lt_len h
  exact decide_eq_false (by omega)
theorem lowN_of_gt {n : Nat} (h : 2 < (limbs n).length) : lowN n = 0 := by
  have := le_of_lt_len h
  exact if_neg (by omega)
theorem drop_lt {xs : List Nat} (q : Nat) (hx : ∀ x ∈ xs, x < 4294967296) : ∀ x ∈ xs.drop q, x < 4294967296 := fun x h => hx x (List.mem_of_mem_drop h)
end Go.Proofs.YtikajmmeglookaaGreatDoor
/- Order of limbs: plain lists and naturals. -/
namespace Go.Proofs.YtikajmmeglookaaGreatDoor

/-- The first k of L - 1, L - 2, .., 0. -/
def downs (L k : Nat) : List Nat := (List.range k).map fun j => L - 1 - j
theorem downs_succ (L k : Nat) : downs L (k + 1) = downs L k ++ [L - 1 - k] := by simp [downs, List.range_succ]
theorem downs_length (L k : Nat) : (downs L k).length = k := by simp [downs]
theorem mem_downs {L k j : Nat} (hk : k ≤ L) : j ∈ downs L k ↔ L - k ≤ j ∧ j < L := by
  simp only [downs, List.mem_map, List.mem_range]
  constructor
  · rintro ⟨i, hi, rfl⟩; omega
  · intro h; exact ⟨L - 1 - j, by omega, by omega⟩

theorem val_lt_of_top {xs ys : List Nat} (hl : xs.length = ys.length) (hx : ∀ x ∈ xs, x < 4294967296) (hy : ∀ x ∈ ys, x < 4294967296) (p : Nat) (hp : p < xs.length)
    (ht : ∀ j, p < j → j < xs.length → lb xs j = lb ys j) (hlt : lb xs p < lb ys p) : val xs < val ys := by
  induction xs generalizing ys p with
  | nil => simp at hp
  | cons x xs ih =>
    cases ys with
    | nil => simp at hl
    | cons y ys =>
      have e : ∀ (a : Nat) (l : List Nat) j, lb (a :: l) (j + 1) = lb l j := fun a l j => by simp [lb]
      have hl' : xs.length = ys.length := by simpa using hl
      have h1 := hx x (List.mem_cons_self ..)
      have h2 := hy y (List.mem_cons_self ..)
      simp only [val]
      cases p with
      | zero =>
        have : xs = ys := ext_lb hl' fun j hj => by
          have := ht (j + 1) (by omega) (by simpa using hj)
          rwa [e, e] at this
        subst this
        have h3 : lb (x :: xs) 0 = x := by simp [lb]
        have h4 : lb (y :: xs) 0 = y := by simp [lb]
        omega
      | succ p =>
        rw [e, e] at hlt
        have := ih hl' (fun z hz => hx z (List.mem_cons_of_mem _ hz)) (fun z hz => hy z (List.mem_cons_of_mem _ hz)) p (by simpa using hp)
          (fun j h3 h4 => by
            have := ht (j + 1) (by omega) (by simpa using h4)
            rwa [e, e] at this) hlt
        omega

theorem cmpI_lt {x y : Int} (h : x < y) : cmpI x y = -1 := if_pos h
theorem cmpI_gt {x y : Int} (h : y < x) : cmpI x y = 1 := by rw [cmpI, if_neg (by omega), if_pos h]
theorem cmpI_eq (x : Int) : cmpI x x = 0 := by rw [cmpI, if_neg (by omega), if_neg (by omega)]

theorem lt_of_len_lt {n m : Nat} (h : (limbs n).length < (limbs m).length) : n < m := by
  have h1 := lt_pow_len n
  have h2 := le_of_lt_len h
  omega

/-- Numbers whose limbs differ in number stand as these numbers. -/
theorem cmpI_len {n m : Nat} (h : (limbs n).length ≠ (limbs m).length) : cmpI (limbs n).length (limbs m).length = cmpI n m := by
  rcases Nat.lt_or_gt_of_ne h with h | h
  · have := lt_of_len_lt h
    rw [cmpI_lt (by omega), cmpI_lt (by omega)]
  · have := lt_of_len_lt h
    rw [cmpI_gt (by omega), cmpI_gt (by omega)]

/-- Of as many limbs the first unlike ones from the top decide. -/
theorem cmpI_top {n m p : Nat} (hl : (limbs n).length = (limbs m).length) (hp : p < (limbs n).length) (ht : ∀ j, p < j → j < (limbs n).length → lb (limbs n) j = lb (limbs m) j)
    (hne : lb (limbs n) p ≠ lb (limbs m) p) : cmpI (lb (limbs n) p) (lb (limbs m) p) = cmpI n m := by
  rcases Nat.lt_or_gt_of_ne hne with h | h
  · have := val_lt_of_top hl (limbs_lt n) (limbs_lt m) p hp ht h
    rw [val_limbs, val_limbs] at this
    rw [cmpI_lt (by omega), cmpI_lt (by omega)]
  · have := val_lt_of_top hl.symm (limbs_lt m) (limbs_lt n) p (by omega) (fun j h1 h2 => (ht j h1 (by omega)).symm) h
    rw [val_limbs, val_limbs] at this
    rw [cmpI_gt (by omega), cmpI_gt (by omega)]
end Go.Proofs.YtikajmmeglookaaGreatDoor
/- Words to the base 2^64 and the numbers that they are: plain lists and naturals. -/
namespace Go.Proofs.YtikajmmeglookaaGreatDoor
set_option linter.unusedVariables false

/-- The number that words are, the lowest first. -/
def wal : List Nat → Nat
  | [] => 0
  | x :: xs => x + 18446744073709551616 * wal xs
def BB : Nat := 18446744073709551616
theorem wal_append (xs ys : List Nat) : wal (xs ++ ys) = wal xs + BB ^ xs.length * wal ys := by
  induction xs with
  | nil => simp [wal]
  | cons x xs ih =>
    simp only [List.cons_append, wal, ih, List.length_cons, Nat.pow_succ]
    rw [Nat.mul_add, Nat.add_assoc]
    congr 2
    rw [← Nat.mul_assoc, Nat.mul_comm 18446744073709551616]
    rfl
theorem wal_lt (xs : List Nat) (h : ∀ x ∈ xs, x < 18446744073709551616) : wal xs < BB ^ xs.length := by
  induction xs with
  | nil => simp [wal]
  | cons x xs ih =>
    have h1 := ih fun y hy => h y (List.mem_cons_of_mem _ hy)
    have h2 := h x (List.mem_cons_self ..)
    simp only [wal, List.length_cons, Nat.pow_succ]
    have : wal xs * 18446744073709551616 + 18446744073709551616 ≤ BB ^ xs.length * BB := by
      have := Nat.mul_le_mul_right 18446744073709551616 (show wal xs + 1 ≤ BB ^ xs.length from h1)
      rw [Nat.add_mul] at this
      show _ ≤ BB ^ xs.length * 18446744073709551616
      omega
    omega
theorem wal_zeros (n : Nat) : wal (List.replicate n 0) = 0 := by
  induction n with
  | zero => rfl
  | succ n ih => rw [List.replicate_succ, wal, ih]
theorem wal_set (o : List Nat) (i x : Nat) (h : i < o.length) : wal (o.set i x) + BB ^ i * lb o i = wal o + BB ^ i * x := by
  induction o generalizing i with
  | nil => simp at h
  | cons y ys ih =>
    cases i with
    | zero =>
      simp only [List.set_cons_zero, wal, Nat.pow_zero, Nat.one_mul]
      have : lb (y :: ys) 0 = y := rfl
      omega
    | succ i =>
      have := ih i (by simpa using h)
      simp only [List.set_cons_succ, wal]
      have e : lb (y :: ys) (i + 1) = lb ys i := by simp [lb]
      rw [e, Nat.pow_succ, Nat.mul_comm (BB ^ i) BB]
      have h2 : BB * (wal (ys.set i x) + BB ^ i * lb ys i) = BB * (wal ys + BB ^ i * x) := by rw [this]
      rw [Nat.mul_add, Nat.mul_add, ← Nat.mul_assoc, ← Nat.mul_assoc] at h2
      show y + BB * _ + _ = y + BB * _ + _
      omega
theorem wal_take_succ (xs : List Nat) (k : Nat) (h : k < xs.length) : wal (xs.take (k + 1)) = wal (xs.take k) + BB ^ k * lb xs k := by
  have e : xs.take (k + 1) = xs.take k ++ [lb xs k] := by
    rw [List.take_add_one, List.getElem?_eq_getElem h]
    unfold lb
    rw [List.getElem?_eq_getElem h]; rfl
  rw [e, wal_append, List.length_take, Nat.min_eq_left (by omega)]
  simp [wal]
theorem wal_cut (xs : List Nat) (k : Nat) (h : k ≤ xs.length) : wal xs = wal (xs.take k) + BB ^ k * wal (xs.drop k) := by
  conv => lhs; rw [← List.take_append_drop k xs]
  rw [wal_append, List.length_take, Nat.min_eq_left h]
theorem wal_inj {xs ys : List Nat} (hl : xs.length = ys.length) (hx : ∀ x ∈ xs, x < 18446744073709551616) (hy : ∀ x ∈ ys, x < 18446744073709551616) (h : wal xs = wal ys) : xs = ys := by
  induction xs generalizing ys with
  | nil => cases ys with
    | nil => rfl
    | cons _ _ => simp at hl
  | cons x xs ih => cases ys with
    | nil => simp at hl
    | cons y ys =>
      have h1 := hx x (List.mem_cons_self ..)
      have h2 := hy y (List.mem_cons_self ..)
      simp only [wal] at h
      have e1 : x = y := by omega
      have e2 : wal xs = wal ys := by omega
      rw [e1, ih (by simpa using hl) (fun z hz => hx z (List.mem_cons_of_mem _ hz)) (fun z hz => hy z (List.mem_cons_of_mem _ hz)) e2]

/-- Limbs as words. -/
def packL : List Nat → List Nat
  | [] => []
  | [x] => [x]
  | x :: y :: r => (x + 4294967296 * y) :: packL r
theorem packL_len : ∀ xs : List Nat, (packL xs).length = (xs.length + 1) / 2
  | [] => rfl
  | [x] => by simp [packL]
  | x :: y :: r => by rw [packL, List.length_cons, packL_len r]; simp only [List.length_cons]; omega
theorem wal_packL : ∀ xs : List Nat, wal (packL xs) = val xs
  | [] => rfl
  | [x] => rfl
  | x :: y :: r => by rw [packL, wal, wal_packL r]; simp only [val]; omega
theorem lb_packL : ∀ (xs : List Nat) (i : Nat), lb (packL xs) i = lb xs (2 * i) + 4294967296 * lb xs (2 * i + 1)
  | [], i => by simp [packL, lb]
  | [x], i => by
    cases i with
    | zero => simp [packL, lb]
    | succ i => rw [show 2 * (i + 1) = (2 * i + 1) + 1 by omega]; simp [packL, lb]
  | x :: y :: r, i => by
    cases i with
    | zero => simp [packL, lb]
    | succ i =>
      have := lb_packL r i
      have e1 : lb (packL (x :: y :: r)) (i + 1) = lb (packL r) i := by simp [packL, lb]
      have e2 : lb (x :: y :: r) (2 * (i + 1)) = lb r (2 * i) := by rw [show 2 * (i + 1) = 2 * i + 1 + 1 by omega]; simp [lb]
      have e3 : lb (x :: y :: r) (2 * (i + 1) + 1) = lb r (2 * i + 1) := by rw [show 2 * (i + 1) + 1 = 2 * i + 1 + 1 + 1 by omega]; simp [lb]
      rw [e1, e2, e3, this]
theorem packL_lt (xs : List Nat) (h : ∀ x ∈ xs, x < 4294967296) : ∀ x ∈ packL xs, x < 18446744073709551616 := by
  refine mem_of_lb fun j hj => ?_
  rw [lb_packL]
  have h1 := lb_lt h (2 * j)
  have h2 := lb_lt h (2 * j + 1)
  omega
/-- Words as limbs. -/
def unpackL : List Nat → List Nat
  | [] => []
  | x :: r => x % 4294967296 :: x / 4294967296 :: unpackL r
theorem unpackL_len (ws : List Nat) : (unpackL ws).length = 2 * ws.length := by
  induction ws with
  | nil => rfl
  | cons x r ih => simp only [unpackL, List.length_cons, ih]; omega
theorem val_unpackL (ws : List Nat) : val (unpackL ws) = wal ws := by
  induction ws with
  | nil => rfl
  | cons x r ih => simp only [unpackL, val, wal, ih]; omega
theorem unpackL_lt (ws : List Nat) (h : ∀ x ∈ ws, x < 18446744073709551616) : ∀ x ∈ unpackL ws, x < 4294967296 := by
  induction ws with
  | nil => intro x hx; simp [unpackL] at hx
  | cons y r ih =>
    intro x hx
    have h0 := h y (List.mem_cons_self ..)
    simp only [unpackL, List.mem_cons] at hx
    rcases hx with rfl | rfl | hx
    · omega
    · omega
    · exact ih (fun z hz => h z (List.mem_cons_of_mem _ hz)) x hx
theorem lb_unpackL (ws : List Nat) (i : Nat) : lb (unpackL ws) (2 * i) = lb ws i % 4294967296 ∧ lb (unpackL ws) (2 * i + 1) = lb ws i / 4294967296 := by
  induction ws generalizing i with
  | nil => simp [unpackL, lb]
  | cons x r ih =>
    cases i with
    | zero => simp [unpackL, lb]
    | succ i =>
      have := ih i
      have e1 : lb (unpackL (x :: r)) (2 * (i + 1)) = lb (unpackL r) (2 * i) := by rw [show 2 * (i + 1) = 2 * i + 1 + 1 by omega]; simp [unpackL, lb]
      have e2 : lb (unpackL (x :: r)) (2 * (i + 1) + 1) = lb (unpackL r) (2 * i + 1) := by rw [show 2 * (i + 1) + 1 = 2 * i + 1 + 1 + 1 by omega]; simp [unpackL, lb]
      have e3 : lb (x :: r) (i + 1) = lb r i := by simp [lb]
      rw [e1, e2, e3]; exact this

/-- One place more, added. -/
theorem wadd_step (P S S' x y c d A v : Nat) (hset : S' + P * x = S + P * v) (hinv : S + P * c = A) (hd : x + y + c = v + BB * d) : S' + P * BB * d = A + P * y := by
  have h1 : P * (x + y + c) = P * (v + BB * d) := by rw [hd]
  rw [Nat.mul_add, Nat.mul_add, Nat.mul_add, ← Nat.mul_assoc] at h1
  omega
/-- One place more, taken away. -/
theorem wsub_step (P S S' x y c d A T v : Nat) (hset : S' + P * x = S + P * v) (hinv : S + T = A + P * c) (hd : x + BB * d = v + y + c) : S' + (T + P * y) = A + P * BB * d := by
  have h1 : P * (x + BB * d) = P * (v + y + c) := by rw [hd]
  rw [Nat.mul_add, Nat.mul_add, Nat.mul_add, ← Nat.mul_assoc] at h1
  omega
end Go.Proofs.YtikajmmeglookaaGreatDoor
/- The mathematics of a digit of a quotient: the guess by three words and two is right, or one too great. -/
namespace Go.Proofs.YtikajmmeglookaaGreatDoor
open Go.RowKit
set_option linter.unusedVariables false
set_option maxHeartbeats 400000

/-- What is known of a guess: B the base, P the places below the last two words of the divisor, D those two words, T the last three of what is divided. -/
structure GsI (B P D T V U v1 v0 t1 u0 q r : Nat) : Prop where
  inv : q * v1 + r = t1
  top : U < (q + 1) * V
  lt : q < B

theorem gs_first (B P D T V U v1 v0 vr t1 u0 ur q r : Nat) (hD : D = v1 * B + v0) (hT : T = t1 * B + u0) (hV : V = D * P + vr) (hU : U = T * P + ur) (hu0 : u0 < B) (hur : ur < P)
    (hq : q * v1 + r = t1) (hr : r < v1) (hlt : q < B) : GsI B P D T V U v1 v0 t1 u0 q r := by
  refine ⟨hq, ?_, hlt⟩
  have h1 : t1 + 1 ≤ (q + 1) * v1 := by rw [Nat.add_mul, Nat.one_mul]; omega
  have h2 : (t1 + 1) * B ≤ (q + 1) * v1 * B := Nat.mul_le_mul_right B h1
  have h3 : T + 1 ≤ (q + 1) * D := by
    have h4 : (q + 1) * D = (q + 1) * v1 * B + (q + 1) * v0 := by rw [hD, Nat.mul_add, Nat.mul_assoc]
    rw [Nat.add_mul, Nat.one_mul] at h2
    omega
  have h5 : (T + 1) * P ≤ (q + 1) * D * P := Nat.mul_le_mul_right P h3
  have h6 : (q + 1) * V = (q + 1) * D * P + (q + 1) * vr := by rw [hV, Nat.mul_add, Nat.mul_assoc]
  rw [Nat.add_mul, Nat.one_mul] at h5
  omega

theorem gs_full (B P D T V U v1 v0 t1 u0 u1 : Nat) (h1 : t1 = v1 * B + u1) (hB : 0 < B) (hUV : U < B * V) : GsI B P D T V U v1 v0 t1 u0 (B - 1) (u1 + v1) := by
  obtain ⟨b, rfl⟩ : ∃ b, B = b + 1 := ⟨B - 1, by omega⟩
  refine ⟨?_, by simpa using hUV, by omega⟩
  rw [h1, Nat.add_sub_cancel, Nat.mul_add, Nat.mul_one, Nat.mul_comm]
  omega

/-- The test that the program makes tells whether the guess is above the three words. -/
theorem gs_test (B D T v1 v0 t1 u0 q r : Nat) (hD : D = v1 * B + v0) (hT : T = t1 * B + u0) (hq : q * v1 + r = t1) : q * D ≤ T ↔ q * v0 ≤ r * B + u0 := by
  have h1 : q * D = q * v1 * B + q * v0 := by rw [hD, Nat.mul_add, Nat.mul_assoc]
  have h2 : t1 * B = q * v1 * B + r * B := by rw [← hq, Nat.add_mul]
  omega

theorem gs_down (B P D T V U v1 v0 vr t1 u0 ur q r : Nat) (hD : D = v1 * B + v0) (hT : T = t1 * B + u0) (hV : V = D * P + vr) (hU : U = T * P + ur) (hur : ur < P)
    (h : GsI B P D T V U v1 v0 t1 u0 q r) (hgt : r * B + u0 < q * v0) : 1 ≤ q ∧ GsI B P D T V U v1 v0 t1 u0 (q - 1) (r + v1) := by
  have h1 : T < q * D := Nat.lt_of_not_le fun hle => by
    have := (gs_test B D T v1 v0 t1 u0 q r hD hT h.inv).1 hle
    omega
  have hq : 1 ≤ q := by
    rcases Nat.eq_zero_or_pos q with h0 | h0
    · rw [h0, Nat.zero_mul] at h1; omega
    · exact h0
  refine ⟨hq, ?_⟩
  obtain ⟨p, rfl⟩ : ∃ p, q = p + 1 := ⟨q - 1, by omega⟩
  refine ⟨?_, ?_, by have := h.lt; omega⟩
  · have := h.inv
    rw [Nat.add_sub_cancel]
    rw [Nat.add_mul, Nat.one_mul] at this
    omega
  · rw [Nat.add_sub_cancel]
    have h2 : (T + 1) * P ≤ (p + 1) * D * P := Nat.mul_le_mul_right P h1
    have h3 : (p + 1) * V = (p + 1) * D * P + (p + 1) * vr := by rw [hV, Nat.mul_add, Nat.mul_assoc]
    rw [Nat.add_mul T 1, Nat.one_mul] at h2
    omega

/-- At the end: it is right, or one too great. -/
theorem gs_end (B P D T V U v1 v0 vr t1 u0 ur q r : Nat) (hD : D = v1 * B + v0) (hT : T = t1 * B + u0) (hV : V = D * P + vr) (hU : U = T * P + ur) (hvr : vr ≤ P) (hBD : B ≤ D)
    (h : GsI B P D T V U v1 v0 t1 u0 q r) (hle : q * v0 ≤ r * B + u0) : q * V ≤ U + V := by
  have h1 := (gs_test B D T v1 v0 t1 u0 q r hD hT h.inv).2 hle
  have h2 : q * D * P ≤ T * P := Nat.mul_le_mul_right P h1
  have h3 : q * V = q * D * P + q * vr := by rw [hV, Nat.mul_add, Nat.mul_assoc]
  have h4 : q * vr ≤ D * P := Nat.mul_le_mul (by have := h.lt; omega) hvr
  omega

/-- The quotient of one more place: what is divided is below the base times the divisor. -/
theorem dg_right (V U q : Nat) (h1 : U < (q + 1) * V) (h2 : q * V ≤ U) : U / V = q ∧ U % V = U - q * V := by
  have hV : 0 < V := by
    rcases Nat.eq_zero_or_pos V with h | h
    · rw [h, Nat.mul_zero] at h1; omega
    · exact h
  have h3 : U / V = q := by
    apply Nat.div_eq_of_lt_le
    · exact h2
    · exact h1
  refine ⟨h3, ?_⟩
  have h4 := Nat.div_add_mod U V
  rw [h3, Nat.mul_comm] at h4
  omega

theorem dg_over (V U q : Nat) (h1 : q * V ≤ U + V) (h2 : U < q * V) : 1 ≤ q ∧ U / V = q - 1 ∧ U % V = U + V - q * V := by
  obtain ⟨p, rfl⟩ : ∃ p, q = p + 1 := ⟨q - 1, by
    rcases Nat.eq_zero_or_pos q with h | h
    · rw [h, Nat.zero_mul] at h2; omega
    · omega⟩
  rw [Nat.add_mul, Nat.one_mul] at h1 h2 ⊢
  obtain ⟨h3, h4⟩ := dg_right V U p (by rw [Nat.add_mul, Nat.one_mul]; omega) (by omega)
  exact ⟨by omega, h3, by rw [h4]; omega⟩

/-- One word of the product is taken off: the borrow stays a word. -/
theorem ms_step (x q bo v s1 c1 s c2 hi lo b2 : Nat) (hx : x < 18446744073709551616) (hq : q < 18446744073709551616) (hb : bo < 18446744073709551616) (hv : v < 18446744073709551616)
    (hp : x * q = 18446744073709551616 * hi + lo) (hlo : lo < 18446744073709551616)
    (h1 : s1 + lo = v + 18446744073709551616 * c1) (hs1 : s1 < 18446744073709551616) (h2 : s + bo = s1 + 18446744073709551616 * c2) (hs : s < 18446744073709551616) (hb2 : hi + c1 + c2 = b2) :
    v + 18446744073709551616 * b2 = s + x * q + bo ∧ b2 < 18446744073709551616 ∧ hi + c1 < 18446744073709551616 := by
  have h3 : x * q ≤ 18446744073709551615 * 18446744073709551615 := Nat.mul_le_mul (by omega) (by omega)
  refine ⟨by omega, by omega, by omega⟩

/-- A quotient by words, place by place: the next digit, and what is left. -/
theorem dw_step (B P V A Q R d : Nat) (hR : R = A % (V * P)) (hQ : Q = A / (V * P)) (hd : d = R / (V * (P / B))) (hP : B * (P / B) = P) : A = Q * (V * P) + R := by
  rw [hR, hQ, Nat.mul_comm (A / _)]; exact (Nat.div_add_mod _ _).symm
end Go.Proofs.YtikajmmeglookaaGreatDoor
/- The mathematics of bits.Div64 for a divisor whose first bit is set: two digits to the base of 2^32. -/
namespace Go.Proofs.YtikajmmeglookaaGreatDoor
open Go.RowKit
set_option linter.unusedVariables false
set_option maxHeartbeats 400000

/-- A digit of hi B + u by y = y1 B + y0: q is not below it, r is what the first half leaves. -/
structure DvI (B y y1 hi u q r : Nat) : Prop where
  inv : q * y1 + r = hi
  top : hi * B + u < (q + 1) * y

theorem dv_first (B y y1 y0 hi u q r : Nat) (hy : y = y1 * B + y0) (hu : u < B) (h1 : 0 < y1) (hq : hi / y1 = q) (hr : hi % y1 = r) : DvI B y y1 hi u q r ∧ r < y1 := by
  have hlt : r < y1 := by rw [← hr]; exact Nat.mod_lt _ h1
  have hinv : q * y1 + r = hi := by rw [← hq, ← hr, Nat.mul_comm]; exact Nat.div_add_mod _ _
  refine ⟨⟨hinv, ?_⟩, hlt⟩
  have h2 : (hi + 1) * B ≤ (q + 1) * y1 * B := Nat.mul_le_mul_right B (by rw [Nat.add_mul, Nat.one_mul]; omega)
  have h3 : (q + 1) * y = (q + 1) * y1 * B + (q + 1) * y0 := by rw [hy, Nat.mul_add, Nat.mul_assoc]
  rw [Nat.add_mul, Nat.one_mul] at h2
  omega

theorem dv_test (B y y1 y0 hi u q r : Nat) (hy : y = y1 * B + y0) (hq : q * y1 + r = hi) : q * y ≤ hi * B + u ↔ q * y0 ≤ B * r + u := by
  have h1 : q * y = q * y1 * B + q * y0 := by rw [hy, Nat.mul_add, Nat.mul_assoc]
  have h2 : hi * B = q * y1 * B + B * r := by rw [← hq, Nat.add_mul, Nat.mul_comm r B]
  omega

theorem dv_down (B y y1 y0 hi u q r : Nat) (hy : y = y1 * B + y0) (hu : u < B) (hh : hi < y) (h : DvI B y y1 hi u q r) (hc : B ≤ q ∨ B * r + u < q * y0) :
    1 ≤ q ∧ DvI B y y1 hi u (q - 1) (r + y1) := by
  have h1 : hi * B + u < q * y := by
    rcases hc with hc | hc
    · have h2 : (hi + 1) * B ≤ y * B := Nat.mul_le_mul_right B hh
      have h3 : B * y ≤ q * y := Nat.mul_le_mul_right y hc
      rw [Nat.add_mul, Nat.one_mul] at h2
      rw [Nat.mul_comm B y] at h3
      omega
    · exact Nat.lt_of_not_le fun hle => by
        have := (dv_test B y y1 y0 hi u q r hy h.inv).1 hle
        omega
  have hq : 1 ≤ q := by
    rcases Nat.eq_zero_or_pos q with h0 | h0
    · rw [h0, Nat.zero_mul] at h1; omega
    · exact h0
  refine ⟨hq, ?_⟩
  obtain ⟨p, rfl⟩ : ∃ p, q = p + 1 := ⟨q - 1, by omega⟩
  refine ⟨?_, by rw [Nat.add_sub_cancel]; exact h1⟩
  have := h.inv
  rw [Nat.add_sub_cancel]
  rw [Nat.add_mul, Nat.one_mul] at this
  omega

/-- Where the loop is left: the digit is right. -/
theorem dv_end (B y y1 y0 hi u q r : Nat) (hy : y = y1 * B + y0) (h0 : y0 < B) (hh : hi < y) (h : DvI B y y1 hi u q r) (hc : q < B ∧ q * y0 ≤ B * r + u ∨ B ≤ r) :
    q < B ∧ q * y ≤ hi * B + u ∧ hi * B + u < (q + 1) * y := by
  have hinv := h.inv
  have hqB : q < B := by
    rcases hc with hc | hc
    · exact hc.1
    · refine Nat.lt_of_not_le fun hle => ?_
      have h2 : B * y1 ≤ q * y1 := Nat.mul_le_mul_right y1 hle
      rw [Nat.mul_comm B y1] at h2
      omega
  refine ⟨hqB, (dv_test B y y1 y0 hi u q r hy hinv).2 ?_, h.top⟩
  rcases hc with hc | hc
  · exact hc.2
  · have h2 : q * y0 ≤ B * B := Nat.mul_le_mul (by omega) (by omega)
    have h3 : B * B ≤ B * r := Nat.mul_le_mul_left B hc
    omega

/-- Both digits together. -/
theorem dv_both (B y hi u1 u0 q1 q0 m r : Nat) (h1 : q1 * y + m = hi * B + u1) (h0 : q0 * y + r = m * B + u0) : (q1 * B + q0) * y + r = hi * (B * B) + (u1 * B + u0) := by
  have h2 : (q1 * y + m) * B = (hi * B + u1) * B := by rw [h1]
  rw [Nat.add_mul, Nat.add_mul, Nat.mul_assoc hi B B] at h2
  rw [Nat.add_mul, Nat.mul_assoc q1 B y, Nat.mul_comm B y, ← Nat.mul_assoc q1 y B]
  omega

/-- What is left is below the divisor, and so comes out right though each of both products is cut to 64 bits. -/
theorem dv_wrap (B y hi u q m : Nat) (hm : q * y + m = hi * B + u) (hlt : m < 18446744073709551616) :
    ((hi * B % 18446744073709551616 + u) % 18446744073709551616 + 18446744073709551616 - q * y % 18446744073709551616) % 18446744073709551616 = m := by
  generalize hi * B = x at *
  generalize q * y = z at *
  omega

/-- The answer is the quotient and the rest. -/
theorem dv_done (y n q r : Nat) (h : q * y + r = n) (hr : r < y) : n / y = q ∧ n % y = r := by
  subst h
  refine ⟨?_, ?_⟩
  · rw [Nat.mul_comm, Nat.mul_add_div (by omega), Nat.div_eq_of_lt hr, Nat.add_zero]
  · rw [Nat.mul_comm, Nat.mul_add_mod, Nat.mod_eq_of_lt hr]
end Go.Proofs.YtikajmmeglookaaGreatDoor
/- math/bits: a word whose first bit is set has no leading noughts. -/
namespace Go.Proofs.YtikajmmeglookaaGreatDoor
open Go.RowKit
set_option linter.unusedVariables false
set_option maxHeartbeats 400000

theorem len64_top (w : World) (x : Nat) (h : 9223372036854775808 ≤ x) (h2 : x < 18446744073709551616) :
    Calls Tryz.prog 93 #[.int .u64 x] w fun e w' => e = .returned (.int .i64 64) ∧ w = w' := by
  have h32 : decide ((4294967296 : Int) ≤ (x : Nat)) = true := by rw [decide_eq_true_iff]; omega
  have h65 : decide ((65536 : Int) ≤ (x : Nat) / 4294967296) = true := by rw [decide_eq_true_iff]; omega
  have h256 : decide ((256 : Int) ≤ (x : Nat) / 4294967296 / 65536) = true := by rw [decide_eq_true_iff]; omega
  have hI := fun w => idx_tab8 (P := Tryz.prog) 9 Tryz.underlying9 .u8 (x / 4294967296 / 65536 / 256 % 256) (by omega) w
  have hB : blen (x / 4294967296 / 65536 / 256 % 256) = 8 := by
    apply Nat.le_antisymm
    · exact blen_le_of_lt (by omega)
    · exact lt_blen_of_le (by omega)
  have hv : ((x / 4294967296 / 65536 / 256 % 256 : Nat) : Int) = (x : Int) / 4294967296 / 65536 / 256 % 256 := by omega
  rw [hv, hB] at hI
  clear hv hB
  go_enter Tryz.func93, Tryz.ntmps93
  generalize hT : (ByteArray.mk _ : ByteArray) = T
  have hT2 : T = tab8 := by rw [← hT]; exact tab8_eq
  rw [← hT2] at hI
  clear hT hT2 h h2
  go_wp2
  go_ret
  exact ⟨rfl, rfl⟩

theorem lead64_top (w : World) (x : Nat) (h : 9223372036854775808 ≤ x) (h2 : x < 18446744073709551616) :
    Calls Tryz.prog 121 #[.int .u64 x] w fun e w' => e = .returned (.int .i64 0) ∧ w = w' := by
  go_enter Tryz.func121, Tryz.ntmps121
  go_wp2_with (fail)
  refine (len64_top _ x h h2).mono ?_
  rintro e w' ⟨rfl, rfl⟩
  go_wp2
  go_ret
  exact ⟨rfl, rfl⟩
end Go.Proofs.YtikajmmeglookaaGreatDoor
/- math/bits.Div64 for a divisor whose first bit is set. -/
namespace Go.Proofs.YtikajmmeglookaaGreatDoor
open Go.RowKit
set_option linter.unusedVariables false
set_option maxHeartbeats 400000
set_option maxRecDepth 100000

/-- The digit where the loop is left. -/
theorem dv_dig (B y y1 y0 hi u q r : Nat) (hy : y = y1 * B + y0) (h0 : y0 < B) (hh : hi < y) (h : DvI B y y1 hi u q r) (hc : q < B ∧ q * y0 ≤ B * r + u ∨ B ≤ r) (d : Nat) (hd : (hi * B + u) / y = d) : q = d := by
  obtain ⟨_, h1, h2⟩ := dv_end B y y1 y0 hi u q r hy h0 hh h hc
  rw [← hd]
  exact (Nat.div_eq_of_lt_le h1 h2).symm
theorem dv_casts (hi l d y m : Nat) (h : d * y + m = hi * 4294967296 + l) (hm : m < 18446744073709551616) : ∃ x1 x2 x3 : Nat,
    (hi : Int) * 4294967296 % 18446744073709551616 = (x1 : Int) ∧ IntKind.u64.wrap ((hi : Int) * 4294967296) = (x1 : Int) ∧ ((x1 : Int) + (l : Int)) % 18446744073709551616 = (x2 : Int) ∧ IntKind.u64.wrap ((x1 : Int) + (l : Int)) = (x2 : Int) ∧
    (d : Int) * (y : Int) % 18446744073709551616 = (x3 : Int) ∧ IntKind.u64.wrap ((d : Int) * (y : Int)) = (x3 : Int) ∧ ((x2 : Int) - (x3 : Int)) % 18446744073709551616 = (m : Int) ∧ IntKind.u64.wrap ((x2 : Int) - (x3 : Int)) = (m : Int) := by
  have hw := dv_wrap 4294967296 y hi l d m h hm
  obtain ⟨x1, hx1⟩ : ∃ x1, hi * 4294967296 % 18446744073709551616 = x1 := ⟨_, rfl⟩
  obtain ⟨x2, hx2⟩ : ∃ x2, (x1 + l) % 18446744073709551616 = x2 := ⟨_, rfl⟩
  obtain ⟨x3, hx3⟩ : ∃ x3, d * y % 18446744073709551616 = x3 := ⟨_, rfl⟩
  rw [hx1, hx2, hx3] at hw
  have b3 : x3 < 18446744073709551616 := by rw [← hx3]; exact Nat.mod_lt _ (by decide)
  have e1 : (hi : Int) * 4294967296 % 18446744073709551616 = (x1 : Int) := by clear hw hx2 hx3 h; omega
  have e2 : ((x1 : Int) + (l : Int)) % 18446744073709551616 = (x2 : Int) := by clear hw hx1 hx3 h e1; omega
  have e3 : (d : Int) * (y : Int) % 18446744073709551616 = (x3 : Int) := by rw [← hx3, Int.natCast_emod, Int.natCast_mul]; rfl
  have e4 : ((x2 : Int) - (x3 : Int)) % 18446744073709551616 = (m : Int) := by clear hx1 hx2 hx3 h e1 e2 e3; omega
  refine ⟨x1, x2, x3, e1, ?_, e2, ?_, e3, ?_, e4, ?_⟩ <;> rw [IntKind.wrap_u64] <;> assumption
theorem dv_casts2 (m y1 e s : Nat) (he : m / y1 = e) (hs : m % y1 = s) (hm : m < 18446744073709551616) : ∃ p : Nat,
    (m : Int).tdiv (y1 : Int) = (e : Int) ∧ (m : Int) / (y1 : Int) = (e : Int) ∧ IntKind.u64.wrap (e : Int) = (e : Int) ∧ (e : Int) % 18446744073709551616 = (e : Int) ∧
    (e : Int) * (y1 : Int) = (p : Int) ∧ IntKind.u64.wrap (p : Int) = (p : Int) ∧ (p : Int) % 18446744073709551616 = (p : Int) ∧ (m : Int) - (p : Int) = (s : Int) ∧ IntKind.u64.wrap (s : Int) = (s : Int) ∧ (s : Int) % 18446744073709551616 = (s : Int) := by
  have be : e ≤ m := by rw [← he]; exact Nat.div_le_self _ _
  have h1 : (m : Int) / (y1 : Int) = (e : Int) := by rw [← he, Int.natCast_ediv]
  have h0 : (m : Int).tdiv (y1 : Int) = (e : Int) := by rw [Int.tdiv_eq_ediv_of_nonneg (by omega)]; exact h1
  have hm2 : e * y1 + s = m := by rw [← he, ← hs, Nat.mul_comm]; exact Nat.div_add_mod _ _
  obtain ⟨p, hp⟩ : ∃ p, e * y1 = p := ⟨_, rfl⟩
  rw [hp] at hm2
  have h2 : (e : Int) * (y1 : Int) = (p : Int) := by rw [← hp, Int.natCast_mul]
  clear hp he hs
  have h3 : IntKind.u64.wrap (e : Int) = (e : Int) := by rw [IntKind.wrap_u64]; omega
  have h4 : IntKind.u64.wrap (p : Int) = (p : Int) := by rw [IntKind.wrap_u64]; omega
  have h5 : IntKind.u64.wrap (s : Int) = (s : Int) := by rw [IntKind.wrap_u64]; omega
  exact ⟨p, h0, h1, h3, by omega, h2, h4, by omega, by omega, h5, by omega⟩
theorem dv_casts3 (d1 d0 q : Nat) (h : d1 * 4294967296 + d0 = q) (hq : q < 18446744073709551616) : ∃ x7 : Nat,
    (d1 : Int) * 4294967296 = (x7 : Int) ∧ IntKind.u64.wrap (x7 : Int) = (x7 : Int) ∧ (x7 : Int) % 18446744073709551616 = (x7 : Int) ∧ (x7 : Int) + (d0 : Int) = (q : Int) ∧ IntKind.u64.wrap (q : Int) = (q : Int) ∧ (q : Int) % 18446744073709551616 = (q : Int) := by
  obtain ⟨x7, hx7⟩ : ∃ x7, d1 * 4294967296 = x7 := ⟨_, rfl⟩
  refine ⟨x7, by omega, by rw [IntKind.wrap_u64]; omega, by omega, by omega, by rw [IntKind.wrap_u64]; omega, by omega⟩
theorem dv_total (hi lo y l1 l0 d1 d0 m k q r : Nat) (hl1 : lo / 4294967296 = l1) (hl0 : lo % 4294967296 = l0) (hd : d1 * y + m = hi * 4294967296 + l1) (hk : d0 * y + k = m * 4294967296 + l0) (hky : k < y) (hh : hi < y) (hlo : lo < 18446744073709551616)
    (hq : (hi * 18446744073709551616 + lo) / y = q) (hr : (hi * 18446744073709551616 + lo) % y = r) : d1 * 4294967296 + d0 = q ∧ q < 18446744073709551616 ∧ r = k := by
  have hb := dv_both 4294967296 y hi l1 l0 d1 d0 m k hd hk
  rw [show hi * (4294967296 * 4294967296) + (l1 * 4294967296 + l0) = hi * 18446744073709551616 + lo by omega] at hb
  have h := dv_done y _ _ k hb hky
  rw [hq, hr] at h
  refine ⟨h.1.symm, ?_, h.2⟩
  rw [← hq]
  exact Nat.div_lt_of_lt_mul (by have := Nat.mul_le_mul_right 18446744073709551616 (show hi + 1 ≤ y from hh); omega)

set_option maxHeartbeats 8000000 in
theorem div64_calls (w : World) (hi lo y q r : Nat) (hy : 9223372036854775808 ≤ y) (hy2 : y < 18446744073709551616) (hl : lo < 18446744073709551616) (hh : hi < y)
    (hq : (hi * 18446744073709551616 + lo) / y = q) (hr : (hi * 18446744073709551616 + lo) % y = r) :
    Calls Tryz.prog 102 #[.int .u64 hi, .int .u64 lo, .int .u64 y] w fun e w' => e = .returned (.tuple #[.int .u64 q, .int .u64 r]) ∧ Ext w w' := by
  have hy0 : ((y : Int) == 0) = false := by rw [beq_eq_false_iff_ne]; omega
  have hyi0 : ¬ ((y : Int) = 0) := by omega
  have hyh : decide ((y : Int) ≤ (hi : Int)) = false := by rw [decide_eq_false_iff_not]; omega
  by_cases h0 : hi = 0
  · subst h0
    rw [Nat.zero_mul, Nat.zero_add] at hq hr
    have fq : (lo : Int) / (y : Int) = (q : Int) := by rw [← hq, Int.natCast_ediv]
    have fr : (lo : Int) % (y : Int) = (r : Int) := by rw [← hr, Int.natCast_emod]
    have fq2 : (lo : Int).tdiv (y : Int) = (q : Int) := by rw [Int.tdiv_eq_ediv_of_nonneg (by omega)]; exact fq
    have fr2 : (lo : Int).tmod (y : Int) = (r : Int) := by rw [Int.tmod_eq_emod_of_nonneg (by omega)]; exact fr
    have bq : q ≤ lo := by rw [← hq]; exact Nat.div_le_self _ _
    have br : r < y := by rw [← hr]; exact Nat.mod_lt _ (by omega)
    have wq : IntKind.u64.wrap (q : Int) = (q : Int) := by rw [IntKind.wrap_u64]; omega
    have wr : IntKind.u64.wrap (r : Int) = (r : Int) := by rw [IntKind.wrap_u64]; omega
    have mq : (q : Int) % 18446744073709551616 = (q : Int) := by omega
    have mr : (r : Int) % 18446744073709551616 = (r : Int) := by omega
    clear hq hr bq br
    go_enter Tryz.func102, Tryz.ntmps102
    go_wp2_with (go_region)
    all_goals (go_ret2)
    all_goals exact ⟨rfl, (Ext.refl w).drew⟩
  · have hh0 : ((hi : Int) == 0) = false := by rw [beq_eq_false_iff_ne]; omega
    obtain ⟨y1, hy1⟩ : ∃ y1, y / 4294967296 = y1 := ⟨_, rfl⟩
    obtain ⟨y0, hyy0⟩ : ∃ y0, y % 4294967296 = y0 := ⟨_, rfl⟩
    obtain ⟨l1, hl1⟩ : ∃ l1, lo / 4294967296 = l1 := ⟨_, rfl⟩
    obtain ⟨l0, hl0⟩ : ∃ l0, lo % 4294967296 = l0 := ⟨_, rfl⟩
    have fy1 : (y : Int) / 4294967296 = (y1 : Int) := by omega
    have fl1 : (lo : Int) / 4294967296 = (l1 : Int) := by omega
    have fy0 : bits .and .u64 (y : Int) 4294967295 = (y0 : Int) := by
      rw [show (4294967295 : Int) = ((4294967295 : Nat) : Int) from rfl, u64_and_nat _ _ (by omega) (by decide), show (4294967295 : Nat) = 2 ^ 32 - 1 from rfl, Nat.and_two_pow_sub_one_eq_mod, show (2 : Nat) ^ 32 = 4294967296 from rfl, hyy0]
    have fl0 : bits .and .u64 (lo : Int) 4294967295 = (l0 : Int) := by
      rw [show (4294967295 : Int) = ((4294967295 : Nat) : Int) from rfl, u64_and_nat _ _ (by omega) (by decide), show (4294967295 : Nat) = 2 ^ 32 - 1 from rfl, Nat.and_two_pow_sub_one_eq_mod, show (2 : Nat) ^ 32 = 4294967296 from rfl, hl0]
    have fn : bits .or .u64 (hi : Int) ((lo : Int) / 18446744073709551616) = (hi : Int) := by
      rw [show (lo : Int) / 18446744073709551616 = ((0 : Nat) : Int) by omega, u64_or_nat _ _ (by omega) (by decide), Nat.or_zero]
    obtain ⟨q1, hq1⟩ : ∃ q1, hi / y1 = q1 := ⟨_, rfl⟩
    obtain ⟨r1, hr1⟩ : ∃ r1, hi % y1 = r1 := ⟨_, rfl⟩
    obtain ⟨p1, fq1, fq1b, wq1, mq1, fp1, wp1, mp1, fr1, wr1, mr1⟩ := dv_casts2 hi y1 q1 r1 hq1 hr1 (by omega)
    have y1n : ¬ ((y1 : Int) = 0) := by omega
    have yw : IntKind.u64.wrap (y : Int) = (y : Int) := by rw [IntKind.wrap_u64]; omega
    have hiw : IntKind.u64.wrap (hi : Int) = (hi : Int) := by rw [IntKind.wrap_u64]; omega
    have low : IntKind.u64.wrap (lo : Int) = (lo : Int) := by rw [IntKind.wrap_u64]; omega
    have yw2 : (y : Int) % 18446744073709551616 = (y : Int) := by omega
    have hiw2 : (hi : Int) % 18446744073709551616 = (hi : Int) := by omega
    have low2 : (lo : Int) % 18446744073709551616 = (lo : Int) := by omega
    have HY : Hid (y = y1 * 4294967296 + y0) := by show y = y1 * 4294967296 + y0; omega
    have hy1b : y1 < 4294967296 := by omega
    have hl1b : l1 < 4294967296 := by omega
    have hl0b : l0 < 4294967296 := by omega
    have hy0b : y0 < 4294967296 := by omega
    have hy1p : 0 < y1 := by omega
    have hq1b : q1 < 18446744073709551616 := by rw [← hq1]; exact Nat.lt_of_le_of_lt (Nat.div_le_self _ _) (by omega)
    have HDA : Hid (DvI 4294967296 y y1 hi l1 q1 r1 ∧ r1 < y1) := dv_first 4294967296 y y1 y0 hi l1 q1 r1 HY.out hl1b hy1p hq1 hr1
    obtain ⟨d1, hd1⟩ : ∃ d1, (hi * 4294967296 + l1) / y = d1 := ⟨_, rfl⟩
    obtain ⟨m, hmm⟩ : ∃ m, (hi * 4294967296 + l1) % y = m := ⟨_, rfl⟩
    have AD := Lib.hid hd1
    have hmy : m < y := by rw [← hmm]; exact Nat.mod_lt _ (by omega)
    have hm64 : m < 18446744073709551616 := by omega
    have hdm : d1 * y + m = hi * 4294967296 + l1 := by rw [← hd1, ← hmm, Nat.mul_comm]; exact Nat.div_add_mod _ _
    obtain ⟨x1, x2, x3, GA0⟩ := dv_casts hi l1 d1 y m hdm hm64
    have GA := Lib.hid GA0
    obtain ⟨e1, he1⟩ : ∃ e1, m / y1 = e1 := ⟨_, rfl⟩
    obtain ⟨s1, hs1⟩ : ∃ s1, m % y1 = s1 := ⟨_, rfl⟩
    have he1b : e1 < 18446744073709551616 := by rw [← he1]; exact Nat.lt_of_le_of_lt (Nat.div_le_self _ _) hm64
    obtain ⟨p2, GB0⟩ := dv_casts2 m y1 e1 s1 he1 hs1 hm64
    have GB := Lib.hid GB0
    have HDB : Hid (DvI 4294967296 y y1 m l0 e1 s1 ∧ s1 < y1) := dv_first 4294967296 y y1 y0 m l0 e1 s1 HY.out hl0b hy1p he1 hs1
    obtain ⟨d0, hd0⟩ : ∃ d0, (m * 4294967296 + l0) / y = d0 := ⟨_, rfl⟩
    obtain ⟨k, hkk⟩ : ∃ k, (m * 4294967296 + l0) % y = k := ⟨_, rfl⟩
    have BD := Lib.hid hd0
    have hky : k < y := by rw [← hkk]; exact Nat.mod_lt _ (by omega)
    have hdk : d0 * y + k = m * 4294967296 + l0 := by rw [← hd0, ← hkk, Nat.mul_comm]; exact Nat.div_add_mod _ _
    obtain ⟨x4, x5, x6, GC0⟩ := dv_casts m l0 d0 y k hdk (by omega)
    have GC := Lib.hid GC0
    obtain ⟨htq, htb, hkr⟩ := dv_total hi lo y l1 l0 d1 d0 m k q r hl1 hl0 hdm hdk hky hh hl hq hr
    obtain ⟨x7, GD0⟩ := dv_casts3 d1 d0 q htq htb
    have GD := Lib.hid GD0
    subst hkr
    have HN0 := Lib.hid (And.intro hy (And.intro hy2 (And.intro hh (And.intro hmy (And.intro hy1b (And.intro hl1b (And.intro hl0b (And.intro hy0b hy1p))))))))
    have HN1 := Lib.hid (And.intro hq1b he1b)
    clear GA0 GB0 GC0 GD0 hq hr htq htb hdk hdm hd1 hmm hd0 hkk he1 hs1 hq1 hr1 hy1 hyy0 hl1 hl0 hy hy2 hmy hy1b hl1b hl0b hy0b hy1p hq1b he1b hl hm64 hky
    go_enter Tryz.func102, Tryz.ntmps102
    go_wp2_with (fail)
    refine (lead64_top _ y HN0.out.1 HN0.out.2.1).mono ?_
    rintro e w' ⟨rfl, rfl⟩
    go_upto_block 0 with (fail)
    clear yw hiw low yw2 hiw2 low2 hh hy0 hyi0 hyh hh0 fy1 fl1 fy0 fl0 fn fq1 fq1b wq1 mq1 fp1 wp1 mp1 fr1 wr1 mr1
    go_cut [15] from 67 (fun s wx => s = .int .u64 (d1 : Nat) ∧ wx = w)
    case first =>
      go_wp2
      go_loopw [15, 16] (fun t s wr => ∃ (q r : Nat), t = .int .u64 (q : Nat) ∧ s = .int .u64 (r : Nat) ∧ Hid (DvI 4294967296 y y1 hi l1 q r) ∧ r < 4294967296 ∧ q ≤ q1 ∧ wr = w) (fun t _ _ => (intOf t).toNat)
      case atStart => exact ⟨q1, r1, rfl, rfl, HDA.out.1, Nat.lt_trans HDA.out.2 HN0.out.2.2.2.2.1, Nat.le_refl _, rfl⟩
      case round =>
        obtain ⟨q, r, rfl, rfl, HO, hr, hq, rfl⟩ := hrel
        obtain ⟨hy, hy2, hh, hmy, hy1b, hl1b, hl0b, hy0b, hy1p⟩ := HN0.out
        obtain ⟨hq1b, he1b⟩ := HN1.out
        have hrw : IntKind.u64.wrap (r : Int) = (r : Int) := by rw [IntKind.wrap_u64]; omega
        have f1 : 4294967296 * (r : Int) = ((4294967296 * r : Nat) : Int) := by omega
        obtain ⟨x1, hx1⟩ : ∃ x1, 4294967296 * r = x1 := ⟨_, rfl⟩
        rw [hx1] at f1
        have f2 : (x1 : Int) % 18446744073709551616 = (x1 : Int) := by omega
        have f2w : IntKind.u64.wrap (x1 : Int) = (x1 : Int) := by rw [IntKind.wrap_u64]; omega
        obtain ⟨x2, hx2⟩ : ∃ x2, x1 + l1 = x2 := ⟨_, rfl⟩
        have f3 : (x1 : Int) + (l1 : Int) = (x2 : Int) := by omega
        have f4 : (x2 : Int) % 18446744073709551616 = (x2 : Int) := by omega
        have f4w : IntKind.u64.wrap (x2 : Int) = (x2 : Int) := by rw [IntKind.wrap_u64]; omega
        by_cases hc : 4294967296 ≤ q ∨ 4294967296 * r + l1 < q * y0
        · have hdn := dv_down 4294967296 y y1 y0 hi l1 q r HY.out (by omega) hh HO.out hc
          obtain ⟨p, hp⟩ : ∃ p, q - 1 = p := ⟨_, rfl⟩
          rw [hp] at hdn
          obtain ⟨r2, hr2⟩ : ∃ r2, r + y1 = r2 := ⟨_, rfl⟩
          rw [hr2] at hdn
          have hqp := hdn.1
          have HN := Lib.hid hdn.2
          have g1 : (q : Int) - 1 = (p : Int) := by omega
          have g2 : (p : Int) % 18446744073709551616 = (p : Int) := by omega
          have g2w : IntKind.u64.wrap (p : Int) = (p : Int) := by rw [IntKind.wrap_u64]; omega
          have g3 : (r : Int) + (y1 : Int) = (r2 : Int) := by omega
          have g4 : (r2 : Int) % 18446744073709551616 = (r2 : Int) := by omega
          have g4w : IntKind.u64.wrap (r2 : Int) = (r2 : Int) := by rw [IntKind.wrap_u64]; omega
          have HC2 : Hid (4294967296 ≤ q ∨ q < 4294967296 ∧ x2 < q * y0) := by
            rcases Nat.lt_or_ge q 4294967296 with h | h
            · rcases hc with hc | hc
              · omega
              · exact .inr ⟨h, by omega⟩
            · exact .inl h
          have HR2 : Hid (p < q) := by show p < q; omega
          have hpq : p ≤ q1 := by omega
          clear hc hdn hp hr2 hx1 hx2 hqp HO hr hq
          rcases HC2.out with hc | ⟨hc, hc2⟩
          · have hd : decide ((4294967296 : Int) ≤ (q : Int)) = true := by rw [decide_eq_true_iff]; omega
            clear hc
            by_cases he : 4294967296 ≤ r2
            · have hde : decide ((4294967296 : Int) ≤ (r2 : Int)) = true := by rw [decide_eq_true_iff]; omega
              have HF := Lib.hid (dv_dig 4294967296 y y1 y0 hi l1 p r2 HY.out (by omega) hh HN.out (.inr he) d1 AD.out)
              clear he
              clear hy hy2 hh hmy hy1b hl1b hl0b hy0b hy1p hq1b he1b
              go_wp2
              go_meet
              case rel => exact ⟨by rw [HF.out], by first | rfl | trivial⟩
            · have hde : decide ((4294967296 : Int) ≤ (r2 : Int)) = false := by rw [decide_eq_false_iff_not]; omega
              have he2 : r2 < 4294967296 := by omega
              clear he
              clear hy hy2 hh hmy hy1b hl1b hl0b hy0b hy1p hq1b he1b
              go_wp2
              go_roundw
              case rel => exact ⟨p, r2, rfl, rfl, HN, he2, hpq, by first | rfl | trivial⟩
              case measure => have := HR2.out; simp [intOf]; omega
          · have hd : decide ((4294967296 : Int) ≤ (q : Int)) = false := by rw [decide_eq_false_iff_not]; omega
            obtain ⟨z, hz⟩ : ∃ z, q * y0 = z := ⟨_, rfl⟩
            rw [hz] at hc2
            have hzb : z < 18446744073709551616 := by
              rw [← hz]
              exact Nat.lt_of_le_of_lt (Nat.mul_le_mul (show q ≤ 4294967295 by omega) (show y0 ≤ 4294967295 by omega)) (by decide)
            have z1 : (q : Int) * (y0 : Int) = (z : Int) := by rw [← hz, Int.natCast_mul]
            have z2 : (z : Int) % 18446744073709551616 = (z : Int) := by omega
            have z2w : IntKind.u64.wrap (z : Int) = (z : Int) := by rw [IntKind.wrap_u64]; omega
            clear hc hz hzb
            by_cases he : 4294967296 ≤ r2
            · have hde : decide ((4294967296 : Int) ≤ (r2 : Int)) = true := by rw [decide_eq_true_iff]; omega
              have HF := Lib.hid (dv_dig 4294967296 y y1 y0 hi l1 p r2 HY.out (by omega) hh HN.out (.inr he) d1 AD.out)
              clear he
              clear hy hy2 hh hmy hy1b hl1b hl0b hy0b hy1p hq1b he1b
              go_wp2
              go_meet
              case rel => exact ⟨by rw [HF.out], by first | rfl | trivial⟩
            · have hde : decide ((4294967296 : Int) ≤ (r2 : Int)) = false := by rw [decide_eq_false_iff_not]; omega
              have he2 : r2 < 4294967296 := by omega
              clear he
              clear hy hy2 hh hmy hy1b hl1b hl0b hy0b hy1p hq1b he1b
              go_wp2
              go_roundw
              case rel => exact ⟨p, r2, rfl, rfl, HN, he2, hpq, by first | rfl | trivial⟩
              case measure => have := HR2.out; simp [intOf]; omega
        · have hq2 : q < 4294967296 := by omega
          have hq3 : q * y0 ≤ 4294967296 * r + l1 := by omega
          have HF := Lib.hid (dv_dig 4294967296 y y1 y0 hi l1 q r HY.out (by omega) hh HO.out (.inl ⟨hq2, hq3⟩) d1 AD.out)
          have hd : decide ((4294967296 : Int) ≤ (q : Int)) = false := by rw [decide_eq_false_iff_not]; omega
          obtain ⟨z, hz⟩ : ∃ z, q * y0 = z := ⟨_, rfl⟩
          rw [hz] at hq3 hc
          have z1 : (q : Int) * (y0 : Int) = (z : Int) := by rw [← hz, Int.natCast_mul]
          have z2 : (z : Int) % 18446744073709551616 = (z : Int) := by omega
          have z2w : IntKind.u64.wrap (z : Int) = (z : Int) := by rw [IntKind.wrap_u64]; omega
          have hn2 : ¬ x2 < z := by omega
          clear hc hq2 hq3 hz hx1 hx2 HO hr hq
          clear hy hy2 hh hmy hy1b hl1b hl0b hy0b hy1p hq1b he1b
          go_wp2
          go_meet
          case rel => exact ⟨by rw [HF.out], by first | rfl | trivial⟩
    case rest =>
      obtain ⟨rfl, hwc⟩ := hcut; subst wc
      obtain ⟨A1, A1w, A2, A2w, A3, A3w, A4, A4w⟩ := GA.out
      obtain ⟨B1, B1b, B1w, B1m, B2, B2w, B2m, B3, B3w, B3m⟩ := GB.out
      go_upto_block 2 with (fail)
      clear A1 A1w A2 A2w A3 A3w A4 A4w B1 B1b B1w B1m B2 B2w B2m B3 B3w B3m y1n GA GB
      go_cut [18] from 102 (fun s wx => s = .int .u64 (d0 : Nat) ∧ wx = w)
      case first =>
        go_wp2
        go_loopw [18, 16] (fun t s wr => ∃ (q r : Nat), t = .int .u64 (q : Nat) ∧ s = .int .u64 (r : Nat) ∧ Hid (DvI 4294967296 y y1 m l0 q r) ∧ r < 4294967296 ∧ q ≤ e1 ∧ wr = w) (fun t _ _ => (intOf t).toNat)
        case atStart => exact ⟨e1, s1, rfl, rfl, HDB.out.1, Nat.lt_trans HDB.out.2 HN0.out.2.2.2.2.1, Nat.le_refl _, rfl⟩
        case round =>
          obtain ⟨q, r, rfl, rfl, HO, hr, hq, rfl⟩ := hrel
          obtain ⟨hy, hy2, hh, hmy, hy1b, hl1b, hl0b, hy0b, hy1p⟩ := HN0.out
          obtain ⟨hq1b, he1b⟩ := HN1.out
          have hrw : IntKind.u64.wrap (r : Int) = (r : Int) := by rw [IntKind.wrap_u64]; omega
          have f1 : 4294967296 * (r : Int) = ((4294967296 * r : Nat) : Int) := by omega
          obtain ⟨x1, hx1⟩ : ∃ x1, 4294967296 * r = x1 := ⟨_, rfl⟩
          rw [hx1] at f1
          have f2 : (x1 : Int) % 18446744073709551616 = (x1 : Int) := by omega
          have f2w : IntKind.u64.wrap (x1 : Int) = (x1 : Int) := by rw [IntKind.wrap_u64]; omega
          obtain ⟨x2, hx2⟩ : ∃ x2, x1 + l0 = x2 := ⟨_, rfl⟩
          have f3 : (x1 : Int) + (l0 : Int) = (x2 : Int) := by omega
          have f4 : (x2 : Int) % 18446744073709551616 = (x2 : Int) := by omega
          have f4w : IntKind.u64.wrap (x2 : Int) = (x2 : Int) := by rw [IntKind.wrap_u64]; omega
          by_cases hc : 4294967296 ≤ q ∨ 4294967296 * r + l0 < q * y0
          · have hdn := dv_down 4294967296 y y1 y0 m l0 q r HY.out (by omega) hmy HO.out hc
            obtain ⟨p, hp⟩ : ∃ p, q - 1 = p := ⟨_, rfl⟩
            rw [hp] at hdn
            obtain ⟨r2, hr2⟩ : ∃ r2, r + y1 = r2 := ⟨_, rfl⟩
            rw [hr2] at hdn
            have hqp := hdn.1
            have HN := Lib.hid hdn.2
            have g1 : (q : Int) - 1 = (p : Int) := by omega
            have g2 : (p : Int) % 18446744073709551616 = (p : Int) := by omega
            have g2w : IntKind.u64.wrap (p : Int) = (p : Int) := by rw [IntKind.wrap_u64]; omega
            have g3 : (r : Int) + (y1 : Int) = (r2 : Int) := by omega
            have g4 : (r2 : Int) % 18446744073709551616 = (r2 : Int) := by omega
            have g4w : IntKind.u64.wrap (r2 : Int) = (r2 : Int) := by rw [IntKind.wrap_u64]; omega
            have HC2 : Hid (4294967296 ≤ q ∨ q < 4294967296 ∧ x2 < q * y0) := by
              rcases Nat.lt_or_ge q 4294967296 with h | h
              · rcases hc with hc | hc
                · omega
                · exact .inr ⟨h, by omega⟩
              · exact .inl h
            have HR2 : Hid (p < q) := by show p < q; omega
            have hpq : p ≤ e1 := by omega
            clear hc hdn hp hr2 hx1 hx2 hqp HO hr hq
            rcases HC2.out with hc | ⟨hc, hc2⟩
            · have hd : decide ((4294967296 : Int) ≤ (q : Int)) = true := by rw [decide_eq_true_iff]; omega
              clear hc
              by_cases he : 4294967296 ≤ r2
              · have hde : decide ((4294967296 : Int) ≤ (r2 : Int)) = true := by rw [decide_eq_true_iff]; omega
                have HF := Lib.hid (dv_dig 4294967296 y y1 y0 m l0 p r2 HY.out (by omega) hmy HN.out (.inr he) d0 BD.out)
                clear he
                clear hy hy2 hh hmy hy1b hl1b hl0b hy0b hy1p hq1b he1b
                go_wp2
                go_meet
                case rel => exact ⟨by rw [HF.out], by first | rfl | trivial⟩
              · have hde : decide ((4294967296 : Int) ≤ (r2 : Int)) = false := by rw [decide_eq_false_iff_not]; omega
                have he2 : r2 < 4294967296 := by omega
                clear he
                clear hy hy2 hh hmy hy1b hl1b hl0b hy0b hy1p hq1b he1b
                go_wp2
                go_roundw
                case rel => exact ⟨p, r2, rfl, rfl, HN, he2, hpq, by first | rfl | trivial⟩
                case measure => have := HR2.out; simp [intOf]; omega
            · have hd : decide ((4294967296 : Int) ≤ (q : Int)) = false := by rw [decide_eq_false_iff_not]; omega
              obtain ⟨z, hz⟩ : ∃ z, q * y0 = z := ⟨_, rfl⟩
              rw [hz] at hc2
              have hzb : z < 18446744073709551616 := by
                rw [← hz]
                exact Nat.lt_of_le_of_lt (Nat.mul_le_mul (show q ≤ 4294967295 by omega) (show y0 ≤ 4294967295 by omega)) (by decide)
              have z1 : (q : Int) * (y0 : Int) = (z : Int) := by rw [← hz, Int.natCast_mul]
              have z2 : (z : Int) % 18446744073709551616 = (z : Int) := by omega
              have z2w : IntKind.u64.wrap (z : Int) = (z : Int) := by rw [IntKind.wrap_u64]; omega
              clear hc hz hzb
              by_cases he : 4294967296 ≤ r2
              · have hde : decide ((4294967296 : Int) ≤ (r2 : Int)) = true := by rw [decide_eq_true_iff]; omega
                have HF := Lib.hid (dv_dig 4294967296 y y1 y0 m l0 p r2 HY.out (by omega) hmy HN.out (.inr he) d0 BD.out)
                clear he
                clear hy hy2 hh hmy hy1b hl1b hl0b hy0b hy1p hq1b he1b
                go_wp2
                go_meet
                case rel => exact ⟨by rw [HF.out], by first | rfl | trivial⟩
              · have hde : decide ((4294967296 : Int) ≤ (r2 : Int)) = false := by rw [decide_eq_false_iff_not]; omega
                have he2 : r2 < 4294967296 := by omega
                clear he
                clear hy hy2 hh hmy hy1b hl1b hl0b hy0b hy1p hq1b he1b
                go_wp2
                go_roundw
                case rel => exact ⟨p, r2, rfl, rfl, HN, he2, hpq, by first | rfl | trivial⟩
                case measure => have := HR2.out; simp [intOf]; omega
          · have hq2 : q < 4294967296 := by omega
            have hq3 : q * y0 ≤ 4294967296 * r + l0 := by omega
            have HF := Lib.hid (dv_dig 4294967296 y y1 y0 m l0 q r HY.out (by omega) hmy HO.out (.inl ⟨hq2, hq3⟩) d0 BD.out)
            have hd : decide ((4294967296 : Int) ≤ (q : Int)) = false := by rw [decide_eq_false_iff_not]; omega
            obtain ⟨z, hz⟩ : ∃ z, q * y0 = z := ⟨_, rfl⟩
            rw [hz] at hq3 hc
            have z1 : (q : Int) * (y0 : Int) = (z : Int) := by rw [← hz, Int.natCast_mul]
            have z2 : (z : Int) % 18446744073709551616 = (z : Int) := by omega
            have z2w : IntKind.u64.wrap (z : Int) = (z : Int) := by rw [IntKind.wrap_u64]; omega
            have hn2 : ¬ x2 < z := by omega
            clear hc hq2 hq3 hz hx1 hx2 HO hr hq
            clear hy hy2 hh hmy hy1b hl1b hl0b hy0b hy1p hq1b he1b
            go_wp2
            go_meet
            case rel => exact ⟨by rw [HF.out], by first | rfl | trivial⟩
      case rest =>
        obtain ⟨rfl, hwc⟩ := hcut; subst wc
        obtain ⟨C1, C1w, C2, C2w, C3, C3w, C4, C4w⟩ := GC.out
        obtain ⟨D2, D2w, D2m, D3, D3w, D3m⟩ := GD.out
        go_wp2
        go_ret2
        exact ⟨rfl, Ext.refl _⟩
end Go.Proofs.YtikajmmeglookaaGreatDoor
/- The mathematics of reciprocals by steps, of the quotient by a reciprocal, and of the document's division bit by bit. -/
namespace Go.Proofs.YtikajmmeglookaaGreatDoor
open Go.RowKit
set_option linter.unusedVariables false
set_option maxHeartbeats 400000

theorem two_sq (c X : Nat) (h : c ≤ X) : 2 * (c * X) ≤ X * X + c * c := by
  obtain ⟨d, rfl⟩ : ∃ d, X = c + d := ⟨X - c, by omega⟩
  have h1 : c * (c + d) = c * c + c * d := Nat.mul_add _ _ _
  have h2 : (c + d) * (c + d) = c * c + c * d + (c * d + d * d) := by rw [Nat.add_mul, Nat.mul_add, Nat.mul_add, Nat.mul_comm d c]
  omega

/-- A step of a reciprocal: S W = X are powers of 2, Z S = X X; r times b is not above X; then the step's answer times b is not above Z, and not 0. -/
theorem bl_step (b r S W X Z over : Nat) (hS : 0 < S) (hX : S * W = X) (hZ : Z * S = X * X) (hr : 1 ≤ r) (hW : 2 ≤ W) (hrb : r * b ≤ X) (ho : r * r * b / S + 1 = over) :
    over ≤ 2 * (r * W) ∧ 1 ≤ 2 * (r * W) - over ∧ (2 * (r * W) - over) * b ≤ Z := by
  have h1 : r * r * b ≤ r * W * S := by
    have : r * (r * b) ≤ r * X := Nat.mul_le_mul_left r hrb
    rw [← hX, Nat.mul_comm S W, ← Nat.mul_assoc, ← Nat.mul_assoc] at this
    exact this
  have h2 : r * r * b / S ≤ r * W := Nat.div_le_of_le_mul (by rw [Nat.mul_comm S]; exact h1)
  have h3 : 1 * 2 ≤ r * W := Nat.mul_le_mul hr hW
  have h4 : r * r * b < over * S := by
    rw [← ho, Nat.mul_comm _ S]
    exact Nat.lt_mul_div_succ _ hS
  refine ⟨by omega, by omega, ?_⟩
  obtain ⟨R, hR⟩ : ∃ R, 2 * (r * W) - over = R := ⟨_, rfl⟩
  rw [hR]
  have h5 : R + over = 2 * (r * W) := by omega
  have h6 : R * S + over * S = 2 * (r * X) := by
    rw [← Nat.add_mul, h5, ← hX, Nat.mul_comm S W, Nat.mul_assoc, Nat.mul_assoc]
  have h7 : R * S + r * r * b ≤ 2 * (r * X) := by omega
  have h8 := Nat.mul_le_mul_right b h7
  have h9 : (R * S + r * r * b) * b = R * b * S + (r * b) * (r * b) := by
    rw [Nat.add_mul, Nat.mul_right_comm R S b, Nat.mul_assoc r r b, Nat.mul_comm r (r * b), Nat.mul_assoc (r * b) r b]
  have h10 : 2 * (r * X) * b = 2 * (r * b * X) := by rw [Nat.mul_assoc, Nat.mul_right_comm r X b]
  have h11 := two_sq (r * b) X hrb
  rw [h9, h10] at h8
  have h12 : R * b * S ≤ Z * S := by rw [hZ]; omega
  exact Nat.le_of_mul_le_mul_right h12 hS

/-- Of the divisor the first bits, and a unit more: what times that is not above the smaller power, is times the divisor not above the greater one. -/
theorem bl_cut (b O b2 R Y : Nat) (hO : 0 < O) (hb : b / O + 1 = b2) (h : R * b2 ≤ Y) : R * b ≤ Y * O := by
  have h1 : b ≤ b2 * O := by
    have := Nat.lt_mul_div_succ b hO
    rw [Nat.mul_comm, ← hb]
    omega
  have h2 : R * b ≤ R * (b2 * O) := Nat.mul_le_mul_left R h1
  have h3 : R * b2 * O ≤ Y * O := Nat.mul_le_mul_right O h
  rw [Nat.mul_assoc] at h3
  omega

/-- The quotient by a reciprocal is not above the quotient. -/
theorem nw_le (a b S1 K1 R q : Nat) (hS : 0 < S1) (hK : 0 < K1) (hR : R * b ≤ S1 * K1) (hq : a / S1 * R / K1 = q) : q * b ≤ a := by
  have h1 : q * K1 ≤ a / S1 * R := by rw [← hq]; exact Nat.div_mul_le_self _ _
  have h2 : q * K1 * b ≤ a / S1 * R * b := Nat.mul_le_mul_right b h1
  have h3 : a / S1 * (R * b) ≤ a / S1 * (S1 * K1) := Nat.mul_le_mul_left _ hR
  have h4 : a / S1 * S1 * K1 ≤ a * K1 := Nat.mul_le_mul_right K1 (Nat.div_mul_le_self _ _)
  rw [← Nat.mul_assoc, ← Nat.mul_assoc] at h3
  refine Nat.le_of_mul_le_mul_right (c := K1) ?_ hK
  rw [Nat.mul_right_comm]
  omega

/-- The document's division: one bit more. -/
theorem rd_low (A b bit Q r : Nat) (hQ : A / b = Q) (hr : A % b = r) (hlt : 2 * r + bit < b) : (2 * A + bit) / b = 2 * Q ∧ (2 * A + bit) % b = 2 * r + bit := by
  have h := Nat.div_add_mod A b
  rw [hQ, hr] at h
  have h1 : 2 * A + bit = (2 * r + bit) + b * (2 * Q) := by
    rw [Nat.mul_left_comm b 2 Q]; omega
  rw [h1]
  refine ⟨?_, ?_⟩
  · rw [Nat.add_mul_div_left _ _ (by omega), Nat.div_eq_of_lt hlt, Nat.zero_add]
  · rw [Nat.add_mul_mod_self_left, Nat.mod_eq_of_lt hlt]

theorem rd_high (A b bit Q r : Nat) (hb : 0 < b) (hbit : bit ≤ 1) (hQ : A / b = Q) (hr : A % b = r) (hge : b ≤ 2 * r + bit) : (2 * A + bit) / b = 2 * Q + 1 ∧ (2 * A + bit) % b = 2 * r + bit - b := by
  have h := Nat.div_add_mod A b
  have hrl : r < b := by rw [← hr]; exact Nat.mod_lt _ hb
  rw [hQ, hr] at h
  have h1 : 2 * A + bit = (2 * r + bit - b) + b * (2 * Q + 1) := by
    rw [Nat.mul_add, Nat.mul_left_comm b 2 Q]; omega
  rw [h1]
  have hlt : 2 * r + bit - b < b := by omega
  refine ⟨?_, ?_⟩
  · rw [Nat.add_mul_div_left _ _ hb, Nat.div_eq_of_lt hlt, Nat.zero_add]
  · rw [Nat.add_mul_mod_self_left, Nat.mod_eq_of_lt hlt]
end Go.Proofs.YtikajmmeglookaaGreatDoor
/- The calls whose answers the document fixes. -/
namespace Go.Proofs.YtikajmmeglookaaGreatDoor
open Go.RowKit
set_option linter.unusedVariables false

end Go.Proofs.YtikajmmeglookaaGreatDoor
/- What every statement's proof ends with: the table read; the arguments opened, and read again behind the call. -/
namespace Go.Proofs.YtikajmmeglookaaGreatDoor
open Go.ChangeShapes Go.WideShapes Go.ChangeAt Go.RowKit
set_option linter.unusedVariables false
set_option maxRecDepth 100000

theorem own : ownKnob Tryz.prog.godebug = none := by kernel_rfl
theorem laidOut : laidOutB Tryz.prog = true := by kernel_rfl
theorem cells32 : Tryz.prog.cellsOf 23 = 1 := by kernel_rfl
theorem cellsFd : Tryz.prog.cellsOf 99 = 5 := by kernel_rfl
theorem cellsTab : Tryz.prog.cellsOf 100 = 15 := by kernel_rfl
theorem gTab : Tryz.prog.globalNamed "ziggurat/ntt.fields" = some 0 := by kernel_rfl
theorem tTab : (Tryz.prog.globals[0]?).map (·.type) = some 100 := by kernel_rfl
abbrev laidT : List (String × DataW Unit) := [("ziggurat/ntt.fields", Rows.laid_ziggurat_ntt_fields)]

theorem fd_of_trod {H : Type} {enc : TypeId × Value → H} {W : World} {sp : Nat → Bool} {held : Bool} {m : Nat} {cs : List Value} {y : DataW H × List MemPlace}
    (h : DataW.trod enc Tryz.prog W 0 sp held m 99 cs = some y) : ∃ a b c d e : Int, cs = [.int .u32 a, .int .u32 b, .int .u32 c, .int .u32 d, .int .u32 e] ∧ y.1 = .agg [.lit (.int .u32 a), .lit (.int .u32 b), .lit (.int .u32 c), .lit (.int .u32 d), .lit (.int .u32 e)] := by
  obtain ⟨ys, n, _, rfl, hl, hlen, hf⟩ := DataW.trod_struct Tryz.underlying99 h
  rw [cellsFd] at hl
  match cs, hl, ys, hlen, hf with
  | [c0, c1, c2, c3, c4], _, [y0, y1, y2, y3, y4], _, hf =>
    have h0 := hf 0 _ rfl
    have h1 := hf 1 _ rfl
    have h2 := hf 2 _ rfl
    have h3 := hf 3 _ rfl
    have h4 := hf 4 _ rfl
    simp [cells32] at h0 h1 h2 h3 h4
    obtain ⟨a, e0, rfl, _⟩ := DataW.trod_int Tryz.underlying23 h0
    obtain ⟨b, e1, rfl, _⟩ := DataW.trod_int Tryz.underlying23 h1
    obtain ⟨c, e2, rfl, _⟩ := DataW.trod_int Tryz.underlying23 h2
    obtain ⟨d, e3, rfl, _⟩ := DataW.trod_int Tryz.underlying23 h3
    obtain ⟨e, e4, rfl, _⟩ := DataW.trod_int Tryz.underlying23 h4
    simp at e0 e1 e2 e3 e4
    subst e0 e1 e2 e3 e4
    exact ⟨a, b, c, d, e, rfl, rfl⟩

theorem gl_of_laid {W : World} (h : laidMetH Tryz.prog laidT W) : Gl W := by
  rw [MakeChecks.laidMetH_plain _ _ _ (by kernel_rfl)] at h
  obtain ⟨ps, ⟨g0, t0, cs0, f0, p0, q0, hg0, ht0, hv0, hd0, _, _⟩, _⟩ := h
  obtain rfl := Option.some.inj (gTab.symm.trans hg0)
  obtain rfl := Option.some.inj (tTab.symm.trans ht0)
  obtain ⟨xs, m1, rfl, hx1, hlen, hn3, hel⟩ := DataW.trod_array Tryz.underlying100 hd0
  rw [cellsTab] at hlen
  simp only [cellsFd] at hel
  match xs, hn3, hx1, hel with
  | [x0, x1, x2], _, hx1, hel =>
    have e0 := hel 0 (by decide)
    have e1 := hel 1 (by decide)
    have e2 := hel 2 (by decide)
    simp at e0 e1 e2
    obtain ⟨a0, b0, c0, d0, f0, k0, j0⟩ := fd_of_trod e0
    obtain ⟨a1, b1, c1, d1, f1, k1, j1⟩ := fd_of_trod e1
    obtain ⟨a2, b2, c2, d2, f2, k2, j2⟩ := fd_of_trod e2
    simp only [Prod.mk.injEq, DataW.agg.injEq, List.map_cons, List.map_nil, Rows.laid_ziggurat_ntt_fields, List.cons.injEq, j0, j1, j2, DataW.lit.injEq, Lit.int.injEq, and_true, true_and] at hx1
    obtain ⟨⟨⟨rfl, rfl, rfl, rfl, rfl⟩, ⟨rfl, rfl, rfl, rfl, rfl⟩, ⟨rfl, rfl, rfl, rfl, rfl⟩⟩, _⟩ := hx1
    obtain ⟨l⟩ := cs0
    have hl15 : l = [.int .u32 998244353, .int .u32 3, .int .u32 998244351, .int .u32 932051910, .int .u32 0, .int .u32 469762049, .int .u32 3, .int .u32 469762047, .int .u32 460175152, .int .u32 305718167, .int .u32 167772161, .int .u32 3, .int .u32 167772159, .int .u32 40265974, .int .u32 115614034] := by
      have e : l = l.take 5 ++ ((l.drop 5).take 5 ++ (l.drop 10).take 5) := by
        have h10 : l.drop 10 = (l.drop 5).drop 5 := by rw [List.drop_drop]
        have h5 : (l.drop 10).take 5 = l.drop 10 := List.take_of_length_le (by simp at hlen; simp [hlen])
        rw [h5, h10, List.take_append_drop, List.take_append_drop]
      rw [e, k0, k1, k2]; rfl
    subst hl15
    have hc := fun k => World.var?_cell hg0 hv0 k
    refine ⟨?_, ⟨hc 0, hc 1, hc 2, hc 3, hc 4⟩, ⟨hc 5, hc 6, hc 7, hc 8, hc 9⟩, ⟨hc 10, hc 11, hc 12, hc 13, hc 14⟩⟩
    have := World.block_lt_of_cell? W ⟨0, 0, none⟩ (hc 0)
    exact this

/-- The heap that the program's own text lays meets the condition. -/
theorem door_met (os : Os) (args : Array Value) : laidMetH Tryz.prog laidT ((World.doorLaid Tryz.prog 400 os).forCall (fun _ _ => 0) ⟨#[], args, []⟩).memory :=
  laidMetH_of_parts3 (fuel := 8) (laidMet_of_run' 8 (by kernel_rfl) (by kernel_rfl)) (by kernel_rfl) (by kernel_rfl)

/-- All arguments read behind a call that turns nothing as they read before it. -/
theorem trodAll_after {H : Type} {enc : TypeId × Value → H} {W W' : World} {sp : Nat → Bool} (hB : Ext W W') : ∀ {ts : List TypeId} {vs : List Value} {ds : List (DataW H)} {ps : List MemPlace},
    (∀ t ∈ ts, Tryz.prog.readableRec t = true ∧ t < Tryz.prog.types.size) → DataW.TrodAll enc Tryz.prog W 0 (fun _ => true) true ts vs ds ps → (∀ p ∈ ps, p.block < W.heap.size) → (∀ p ∈ ps, sp p.block = true) → DataW.TrodAll enc Tryz.prog W' 0 sp true ts vs ds ps
  | [], [], [], _, _, h, _, _ => h
  | t :: _, _ :: _, _ :: _, _, hT, ⟨p, q, h1, h2, e⟩, hlt, hs => ⟨p, q,
      WideElems.Trod_stays laidOut (hT t (List.mem_cons_self ..)).1 (hT t (List.mem_cons_self ..)).2 h1 (fun x hx => Below.same hB (hlt x (by rw [e]; exact List.mem_append_left _ hx))) (fun x hx => hs x (by rw [e]; exact List.mem_append_left _ hx)),
      trodAll_after hB (fun t ht => hT t (List.mem_cons_of_mem _ ht)) h2 (fun x hx => hlt x (by rw [e]; exact List.mem_append_right _ hx)) (fun x hx => hs x (by rw [e]; exact List.mem_append_right _ hx)), e⟩

/-- WHAT A STATEMENT ASKS BEHIND THE CALL: true; the arguments read as they did. -/
theorem law_post {H : Type} {enc : TypeId × Value → H} {f : Func} {s : ChangeSpec} {apart fresh handsOn again : Bool} {W W' : World} {args : Array Value} {ds gs : List (DataW H)} {before : List MemPlace}
    (hW : DataW.Whole enc Tryz.prog f.params.toList s.vars apart W args.toList ds gs before) (hv : s.vars = []) (hT : ∀ t ∈ f.params.toList, Tryz.prog.readableRec t = true ∧ t < Tryz.prog.types.size)
    (hres : f.resultTypes = #[4]) (hfn : (s.fn H (ds ++ gs)).results = [.lit (.bool true)]) (hfa : (s.fn H (ds ++ gs)).args = ds) (hfv : (s.fn H (ds ++ gs)).vars = []) (hB : Ext W W') :
    s.post enc Tryz.prog f apart fresh handsOn again W args (.bool true) W' := by
  have hlt : ∀ p ∈ before, p.block < W.heap.size := fun p hp => hW.lt p hp
  have hold : ∀ p ∈ before, (fun b => decide (b < W.heap.size)) p.block = true := fun p hp => by simpa using hlt p hp
  have hres' : ∀ (b : Nat) (sp : Nat → Bool) (hd : Bool), DataW.TrodAll enc Tryz.prog W' b sp hd f.resultTypes.toList ((Value.bool true).resultList f.resultTypes.size) (s.fn H (ds ++ gs)).results [] := by
    intro b sp hd
    rw [hres, hfn]
    exact trodAll_mk1 (shut_bool Tryz.underlying4 _)
  have hW2 := hW
  obtain ⟨p, q, hA, hV, hpq, hz, hn⟩ := hW
  rw [hv] at hV
  obtain ⟨_, rfl⟩ := trodVars_none hV
  rw [List.append_nil] at hpq
  subst hpq
  have hargs : ∀ sp : Nat → Bool, (∀ p' ∈ before, sp p'.block = true) → DataW.TrodAll enc Tryz.prog W' 0 sp true f.params.toList args.toList (s.fn H (ds ++ gs)).args before := fun sp hs => by
    rw [hfa]; exact trodAll_after hB hT hA hlt hs
  have hvars : ∀ sp : Nat → Bool, DataW.TrodVars enc Tryz.prog W' sp s.vars (s.fn H (ds ++ gs)).vars [] := fun sp => by rw [hv, hfv]; exact rfl
  refine ⟨ds, gs, before, [], before, [], hW2, hres' _ _ _, hargs _ hold, hvars _, World.keptBut_mono (fun p hp => ⟨hp, ?_⟩) (Below.frame hB (· ∈ before)), fun _ => ?_⟩
  · simpa using hp
  · refine ⟨ok_one hres rfl (okWide_bool_mk Tryz.underlying4 _), _, _, ([] ++ before) ++ [], ⟨[] ++ before, [], trodAll_append (hargs _ (fun _ _ => rfl)) (hres' _ _ _), hvars _, rfl, ?_, ?_⟩, ?_⟩
    · intro b off hp
      have hin : MemPlace.cell b off ∈ before := by simpa using hp
      rw [Below.frozen hB (hlt _ hin)]
      exact hz b off hin
    · intro ha
      have := hn ha
      simpa using this
    · intro p hp _
      simpa using hp

/-- A slice of 32-bit limbs among the arguments. -/
theorem open_limbs {H : Type} {enc : TypeId × Value → H} {W : World} {base : Nat} {v : Value} {d : DataW H} {ps : List MemPlace} (hval : Value.okWide Tryz.prog W .any base 22 v) (h : DataW.Trod enc Tryz.prog W 0 (fun _ => true) true 22 v d ps)
    (hlt : ∀ p ∈ ps, p.block < W.heap.size) : ∃ xs : List Nat, U W v xs := by
  obtain ⟨a0, len, cap, rfl⟩ := okWide_slice Tryz.underlying22 hval
  obtain ⟨fuel, hf⟩ := h
  rcases open_ints Tryz.underlying22 Tryz.underlying23 cells32 hf with ⟨hcs, hx⟩ | ⟨a, len', cap', zs, hcs, _, hl, hm, hz, hx, hcell, hwz⟩
  · simp [Value.cells] at hcs
    obtain ⟨rfl, rfl, rfl⟩ := hcs
    exact ⟨[], U.nil_ _ _ _⟩
  · simp [Value.cells] at hcs
    obtain ⟨rfl, rfl, rfl⟩ := hcs
    simp only [if_true] at hz
    have hlen : ((zs.take len).map Int.toNat).length = len := by simp; omega
    have hb : ∀ z ∈ zs, 0 ≤ z ∧ z < 4294967296 := fun z hzz => by have := bounds_u32 (hwz z hzz); omega
    refine ⟨(zs.take len).map Int.toNat, some a, cap, by rw [hlen], ⟨by rw [hlen]; exact hl, by rw [hlen]; unfold maxLen at hm; omega⟩, ?_, fun h0 => ⟨a, rfl, ?_, fun j hj => ?_⟩⟩
    · intro x hx'
      obtain ⟨z, hz1, rfl⟩ := List.mem_map.1 hx'
      have := hb z (List.mem_of_mem_take hz1)
      omega
    · rw [hlen] at h0
      have hc := hcell 0 (by omega)
      rw [addr_add_zero] at hc
      unfold World.cell? at hc
      rcases Nat.lt_or_ge a.block W.heap.size with h | h
      · exact h
      · rw [Array.getElem?_eq_none h] at hc; cases hc
    · rw [hlen] at hj
      have hjz : j < zs.length := by omega
      have e : lb ((zs.take len).map Int.toNat) j = (zs.getD j 0).toNat := by
        simp [lb, hj, hjz]
      rw [hcell j hjz, e]
      have hmem : zs.getD j 0 ∈ zs := by simp [hjz]
      have := hb _ hmem
      rw [show (((zs.getD j 0).toNat : Nat) : Int) = zs.getD j 0 by omega]
end Go.Proofs.YtikajmmeglookaaGreatDoor
/- The document's own words that every statement of this stage takes: primes, rows of numbers, lengths. -/
namespace Go.Proofs.YtikajmmeglookaaGreatDoor
open Go.ChangeShapes Go.WideShapes Go.ChangeAt Go.RowKit
set_option linter.unusedVariables false
set_option maxHeartbeats 400000

theorem i64_and255 (n : Int) : bits .and .i64 n 255 = n % 256 := by
  have h255 : (BitVec.ofInt 64 255).toNat = 2 ^ 8 - 1 := by decide
  have key : (BitVec.ofInt 64 n &&& BitVec.ofInt 64 255).toNat = (n % ((2 ^ 64 : Nat) : Int)).toNat % 2 ^ 8 := by
    rw [BitVec.toNat_and, BitVec.toNat_ofInt, h255, Nat.and_two_pow_sub_one_eq_mod]
  show IntKind.i64.wrap ((BitVec.ofInt 64 n &&& BitVec.ofInt 64 255).toNat : Nat) = n % 256
  rw [key, IntKind.wrap_i64]
  omega

/-- 2^k numbers below p, made of any ones. -/
def rowv (p k : Nat) (l : List Nat) : List Nat := (List.range (2 ^ k)).map fun t => lb l t % p
theorem rowv_len (p k : Nat) (l : List Nat) : (rowv p k l).length = 2 ^ k := by simp [rowv]
theorem lb_rowv (p k : Nat) (l : List Nat) (j : Nat) (h : j < 2 ^ k) : lb (rowv p k l) j = lb l j % p := lb_map _ _ _ h
theorem rowv_lt (p k : Nat) (l : List Nat) (hp : 0 < p) : ∀ x ∈ rowv p k l, x < p := by
  intro x hx
  obtain ⟨j, _, rfl⟩ := List.mem_map.1 hx
  exact Nat.mod_lt _ hp
structure RowI (p n : Nat) (l : List Nat) (t : Nat) (o : List Nat) : Prop where
  len : o.length = n
  lt : ∀ x ∈ o, x < p
  at_ : ∀ j, lb o j = if j < t then lb l j % p else 0
theorem RowI.start (p n : Nat) (l : List Nat) (hp : 0 < p) : RowI p n l 0 (List.replicate n 0) := ⟨by simp, fun x hx => by simp at hx; omega, fun j => by rw [lb_zeros, if_neg (by omega)]⟩
theorem RowI.step {p n : Nat} {l : List Nat} {t : Nat} {o : List Nat} (H : RowI p n l t o) (hp : 0 < p) (ht : t < n) : RowI p n l (t + 1) (o.set t (lb l t % p)) := by
  refine ⟨by simp [H.len], set_lt H.lt (Nat.mod_lt _ hp), fun j => ?_⟩
  rw [lb_set _ _ _ _ (by rw [H.len]; exact ht), H.at_ j]
  by_cases e : t = j
  · subst e; rw [if_pos rfl, if_pos (by omega)]
  · rw [if_neg e]
    by_cases c : j < t
    · rw [if_pos c, if_pos (by omega)]
    · rw [if_neg c, if_neg (by omega)]
theorem RowI.done {p k : Nat} {l : List Nat} {t : Nat} {o : List Nat} (H : RowI p (2 ^ k) l t o) (ht : t = 2 ^ k ∨ l.length ≤ t) : o = rowv p k l := by
  refine ext_lb (by rw [H.len, rowv_len]) fun j hj => ?_
  rw [H.len] at hj
  rw [lb_rowv _ _ _ _ hj, H.at_ j]
  by_cases c : j < t
  · rw [if_pos c]
  · rw [if_neg c, lb_out (o := l) (by omega), Nat.zero_mod]

end Go.Proofs.YtikajmmeglookaaGreatDoor
/- Lengths of powers of 2; the row of a question; a question among the arguments. -/
namespace Go.Proofs.YtikajmmeglookaaGreatDoor
open Go.ChangeShapes Go.WideShapes Go.ChangeAt Go.RowKit
set_option linter.unusedVariables false
set_option maxHeartbeats 400000

/-- The prime's number, and how many numbers, that a question names. -/
def ri (I : Int) : Nat := (I % 256).toNat % 3
def rk (K : Int) (m : Nat) : Nat := (K % 256).toNat % (m + 1)
theorem ri_lt (I : Int) : ri I < 3 := Nat.mod_lt _ (by decide)
theorem rk_le (K : Int) (m : Nat) : rk K m ≤ m := by have := Nat.mod_lt (K % 256).toNat (show 0 < m + 1 by omega); unfold rk; omega

theorem keepA {w x y : World} {B : Nat} {v0 v1 v2 v3 : Value} (h : (B < x.heap.size ∧ x.cell? ⟨B, 0, none⟩ = some v0 ∧ x.cell? ⟨B, 1, none⟩ = some v1 ∧ x.cell? ⟨B, 2, none⟩ = some v2 ∧ x.cell? ⟨B, 3, none⟩ = some v3) ∧ Ext w x) (hB : Ext x y) :
    (B < y.heap.size ∧ y.cell? ⟨B, 0, none⟩ = some v0 ∧ y.cell? ⟨B, 1, none⟩ = some v1 ∧ y.cell? ⟨B, 2, none⟩ = some v2 ∧ y.cell? ⟨B, 3, none⟩ = some v3) ∧ Ext w y := by
  obtain ⟨⟨h0, h1, h2, h3, h4⟩, h6⟩ := h
  have hc := fun o => hB.cell (p := ⟨B, o, none⟩) h0
  exact ⟨⟨Nat.lt_of_lt_of_le h0 hB.size, by rw [hc]; exact h1, by rw [hc]; exact h2, by rw [hc]; exact h3, by rw [hc]; exact h4⟩, h6.below hB⟩

/-- The transform, either way. -/
def tfl (i k : Nat) (b : Bool) (l : List Nat) : List Nat := if b then trv (fd i).p (bt (fd i) k) (sh (fd i) (2 ^ k)) (2 ^ k) l else trv (fd i).p (rt (fd i) k) 1 (2 ^ k) l
theorem tfl_len (i k : Nat) (b : Bool) (l : List Nat) : (tfl i k b l).length = 2 ^ k := by unfold tfl; split <;> exact trv_len _ _ _ _ _
theorem tfl_lt (i k : Nat) (b : Bool) (l : List Nat) : ∀ x ∈ tfl i k b l, x < (fd i).p := by
  have := (fd_fld i).good.p0
  unfold tfl; split
  · exact trv_lt _ _ _ _ _ (by omega)
  · exact trv_lt _ _ _ _ _ (by omega)
theorem open_limbs1 {H : Type} {enc : TypeId × Value → H} {W : World} {fuel : Nat} {v : Value} {y : DataW H × List MemPlace} (hf : DataW.trod enc Tryz.prog W 0 (fun _ => true) true fuel 22 [v] = some y) :
    ∃ xs : List Nat, U W v xs := by
  rcases open_ints Tryz.underlying22 Tryz.underlying23 cells32 hf with ⟨hcs, hx⟩ | ⟨a, len, cap', zs, hcs, _, hl, hm, hz, hx, hcell, hwz⟩
  · simp at hcs
    subst hcs
    exact ⟨[], U.nil_ _ _ _⟩
  · simp at hcs
    subst hcs
    simp only [if_true] at hz
    have hlen : ((zs.take len).map Int.toNat).length = len := by simp; omega
    have hb : ∀ z ∈ zs, 0 ≤ z ∧ z < 4294967296 := fun z hzz => by have := bounds_u32 (hwz z hzz); omega
    refine ⟨(zs.take len).map Int.toNat, some a, cap', by rw [hlen], ⟨by rw [hlen]; exact hl, by rw [hlen]; unfold maxLen at hm; omega⟩, ?_, fun h0 => ⟨a, rfl, ?_, fun j hj => ?_⟩⟩
    · intro x hx'
      obtain ⟨z, hz1, rfl⟩ := List.mem_map.1 hx'
      have := hb z (List.mem_of_mem_take hz1)
      omega
    · rw [hlen] at h0
      have hc := hcell 0 (by omega)
      rw [addr_add_zero] at hc
      unfold World.cell? at hc
      rcases Nat.lt_or_ge a.block W.heap.size with h | h
      · exact h
      · rw [Array.getElem?_eq_none h] at hc; cases hc
    · rw [hlen] at hj
      have hjz : j < zs.length := by omega
      have e : lb ((zs.take len).map Int.toNat) j = (zs.getD j 0).toNat := by
        simp [lb, hj, hjz]
      rw [hcell j hjz, e]
      have hmem : zs.getD j 0 ∈ zs := by simp [hjz]
      have := hb _ hmem
      rw [show (((zs.getD j 0).toNat : Nat) : Int) = zs.getD j 0 by omega]

end Go.Proofs.YtikajmmeglookaaGreatDoor
/- What a transform undoes, turns, and does to sums and products. -/
namespace Go.Proofs.YtikajmmeglookaaGreatDoor

theorem dft_add (w : Int) (n : Nat) (a b : Nat → Int) (q : Nat) : dft w n (fun i => a i + b i) q = dft w n a q + dft w n b q := by
  unfold dft; rw [← sm_add]; exact sm_congr fun i _ => Int.add_mul _ _ _
theorem dft_mul (w : Int) (n : Nat) (c : Int) (a : Nat → Int) (q : Nat) : dft w n (fun i => c * a i) q = c * dft w n a q := by
  unfold dft; rw [← sm_mul]; exact sm_congr fun i _ => Int.mul_assoc _ _ _
theorem dft_eqm {p w : Int} {n : Nat} {a b : Nat → Int} {q : Nat} (h : ∀ i, i < n → Eqm p (a i) (b i)) : Eqm p (dft w n a q) (dft w n b q) := Eqm.sm fun i hi => (h i hi).mul (Eqm.refl _ _)
theorem mul_pow (a b : Int) (n : Nat) : (a * b) ^ n = a ^ n * b ^ n := by
  induction n with
  | zero => simp
  | succ n ih => rw [Int.pow_succ, Int.pow_succ, Int.pow_succ, ih]; grind
/-- There and back. -/
theorem dft_back {p w v : Int} {k : Nat} (hw : Rt p w k) (hv : Rt p v k) (hwv : Eqm p (w * v) 1) (l : Nat → Int) (t : Nat) (ht : t < 2 ^ k) :
    Eqm p (dft v (2 ^ k) (fun j => dft w (2 ^ k) l j) t) ((2 ^ k : Nat) * l t) := by
  have e1 : dft v (2 ^ k) (fun j => dft w (2 ^ k) l j) t = sm (2 ^ k) fun i => l i * sm (2 ^ k) fun j => (w ^ i * v ^ t) ^ j := by
    unfold dft
    rw [sm_congr (g := fun j => sm (2 ^ k) fun i => l i * (w ^ i * v ^ t) ^ j) (fun j _ => by
      rw [← sm_mul']; exact sm_congr fun i _ => by rw [mul_pow, ← Int.pow_mul, ← Int.pow_mul, Int.mul_assoc, Nat.mul_comm t j])]
    rw [sm_swap]
    exact sm_congr fun i _ => sm_mul _ _ _
  rw [e1]
  have hp : ∀ m, Eqm p (w ^ m * v ^ m) 1 := fun m => by rw [← mul_pow]; have := hwv.pow m; rwa [Int.one_pow] at this
  have key : ∀ i, i < 2 ^ k → Eqm p (l i * sm (2 ^ k) fun j => (w ^ i * v ^ t) ^ j) (if i = t then (2 ^ k : Nat) * l t else 0) := by
    intro i hi
    by_cases e : i = t
    · subst e
      rw [if_pos rfl, Int.mul_comm]
      refine Eqm.mul ?_ (Eqm.refl _ _)
      refine (Eqm.sm (g := fun _ => 1) fun j _ => ?_).trans (Eqm.of_eq ?_)
      · have := (hp i).pow j; rwa [Int.one_pow] at this
      · rw [sm_const, Int.mul_one]
    · rw [if_neg e]
      have h0 : Eqm p (sm (2 ^ k) fun j => (w ^ i * v ^ t) ^ j) 0 := by
        rcases Nat.lt_or_ge t i with h | h
        · have e2 : Eqm p (w ^ i * v ^ t) (w ^ (i - t)) := by
            rw [show w ^ i = w ^ (i - t) * w ^ t by rw [← Int.pow_add]; congr 1; omega, Int.mul_assoc]
            have := (Eqm.refl p (w ^ (i - t))).mul (hp t); rwa [Int.mul_one] at this
          refine (Eqm.sm fun j _ => e2.pow j).trans (geo p w k (i - t) hw ?_)
          intro hd
          have := Nat.le_of_dvd (by omega) hd
          omega
        · have e2 : Eqm p (w ^ i * v ^ t) (v ^ (t - i)) := by
            rw [show v ^ t = v ^ i * v ^ (t - i) by rw [← Int.pow_add]; congr 1; omega, ← Int.mul_assoc]
            have := (hp i).mul (Eqm.refl p (v ^ (t - i))); rwa [Int.one_mul] at this
          refine (Eqm.sm fun j _ => e2.pow j).trans (geo p v k (t - i) hv ?_)
          intro hd
          have := Nat.le_of_dvd (by omega) hd
          omega
      have := (Eqm.refl p (l i)).mul h0
      rwa [Int.mul_zero] at this
  refine (Eqm.sm key).trans (Eqm.of_eq ?_)
  rw [sm_pick _ _ t ht (fun i _ hne => by rw [if_neg hne]), if_pos rfl]
/-- Turned by one place. -/
theorem dft_turn {p w : Int} {n : Nat} (hw : Eqm p (w ^ (n + 1)) 1) (l m : Nat → Int) (h0 : m 0 = l n) (h1 : ∀ i, i < n → m (i + 1) = l i) (q : Nat) :
    Eqm p (dft w (n + 1) m q) (dft w (n + 1) l q * w ^ q) := by
  have e1 : dft w (n + 1) m q = l n + sm n fun i => l i * w ^ ((i + 1) * q) := by
    unfold dft
    rw [show n + 1 = 1 + n by omega, sm_split, sm_one, h0]
    simp only [Nat.zero_mul, Int.pow_zero, Int.mul_one]
    congr 1
    exact sm_congr fun i hi => by rw [show 1 + i = i + 1 by omega, h1 i hi]
  have e2 : dft w (n + 1) l q * w ^ q = (sm n fun i => l i * w ^ ((i + 1) * q)) + l n * w ^ ((n + 1) * q) := by
    unfold dft
    rw [sm_succ, Int.add_mul, ← sm_mul']
    congr 1
    · exact sm_congr fun i _ => by rw [Int.mul_assoc, ← Int.pow_add, Nat.add_mul, Nat.one_mul]
    · rw [Int.mul_assoc, ← Int.pow_add, Nat.add_mul, Nat.one_mul]
  rw [e1, e2, Int.add_comm]
  refine (Eqm.refl p _).add ?_
  have := (Eqm.refl p (l n)).mul (pow_even hw q)
  rw [Int.mul_one] at this
  exact this.symm
/-- The product of transforms, all around. -/
theorem dft_around {p w : Int} {n : Nat} (hw : Eqm p (w ^ n) 1) (a b : Nat → Int) (q : Nat) :
    Eqm p (dft w n a q * dft w n b q) (dft w n (fun k => sm n fun t => a t * b ((k + n - t) % n)) q) := by
  have e1 : dft w n a q * dft w n b q = sm n fun t => a t * w ^ (t * q) * dft w n b q := by
    rw [sm_mul']; rfl
  have e2 : dft w n (fun k => sm n fun t => a t * b ((k + n - t) % n)) q = sm n fun t => a t * w ^ (t * q) * 0 + a t * sm n fun k => b ((k + n - t) % n) * w ^ (k * q) := by
    unfold dft
    rw [sm_congr (g := fun k => sm n fun t => a t * (b ((k + n - t) % n) * w ^ (k * q))) (fun k _ => by rw [← sm_mul']; exact sm_congr fun t _ => Int.mul_assoc _ _ _)]
    rw [sm_swap]
    exact sm_congr fun t _ => by rw [sm_mul, Int.mul_zero, Int.zero_add]
  rw [e1, e2]
  refine Eqm.sm fun t ht => ?_
  rw [Int.mul_zero, Int.zero_add, Int.mul_assoc]
  refine (Eqm.refl p (a t)).mul ?_
  -- the places from t on stand first
  have hs : sm n (fun k => b ((k + n - t) % n) * w ^ (k * q)) = sm t (fun k => b (k + (n - t)) * w ^ (k * q)) + sm (n - t) (fun i => b i * w ^ ((t + i) * q)) := by
    have hn : n = t + (n - t) := by omega
    conv => lhs; rw [hn]
    rw [sm_split]
    rw [← hn]
    congr 1
    · exact sm_congr fun k hk => by rw [show k + n - t = k + (n - t) by omega, Nat.mod_eq_of_lt (by omega)]
    · exact sm_congr fun i hi => by rw [show t + i + n - t = i + n by omega, Nat.add_mod_right, Nat.mod_eq_of_lt (by omega)]
  have hd : w ^ (t * q) * dft w n b q = sm (n - t) (fun i => b i * w ^ ((t + i) * q)) + sm t (fun k => b (n - t + k) * w ^ ((n + k) * q)) := by
    unfold dft
    rw [← sm_mul]
    have hn : n = (n - t) + t := by omega
    conv => lhs; rw [hn]
    rw [sm_split]
    congr 1
    · exact sm_congr fun i hi => by
        rw [show w ^ (t * q) * (b i * w ^ (i * q)) = b i * (w ^ (t * q) * w ^ (i * q)) by grind, ← Int.pow_add, Nat.add_mul]
    · exact sm_congr fun i hi => by
        rw [show w ^ (t * q) * (b (n - t + i) * w ^ ((n - t + i) * q)) = b (n - t + i) * (w ^ (t * q) * w ^ ((n - t + i) * q)) by grind, ← Int.pow_add, ← Nat.add_mul, show t + (n - t + i) = n + i by omega]
  rw [hs, hd, Int.add_comm]
  refine Eqm.add (Eqm.sm fun k hk => ?_) (Eqm.refl _ _)
  rw [Nat.add_comm k]
  refine (Eqm.refl p _).mul ?_
  rw [Nat.add_mul, Nat.add_comm]
  exact pow_mul_one hw _ _
end Go.Proofs.YtikajmmeglookaaGreatDoor
/- What the transform does, number by number. -/
namespace Go.Proofs.YtikajmmeglookaaGreatDoor
open Go.RowKit
set_option linter.unusedVariables false

/-- The root and the share, either way. -/
def tw (i k : Nat) (b : Bool) : Nat := if b then bt (fd i) k else rt (fd i) k
def ts (i k : Nat) (b : Bool) : Nat := if b then sh (fd i) (2 ^ k) else 1
theorem tfl_eq (i k : Nat) (b : Bool) (l : List Nat) : tfl i k b l = trv (fd i).p (tw i k b) (ts i k b) (2 ^ k) l := by cases b <;> rfl
theorem tfl_eqm (i k : Nat) (b : Bool) (l : List Nat) (j : Nat) (hj : j < 2 ^ k) : Eqm ((fd i).p : Int) (seq (tfl i k b l) j) ((ts i k b : Nat) * dft ((tw i k b : Nat) : Int) (2 ^ k) (seq l) j) := by
  unfold seq
  rw [tfl_eq, lb_trv _ _ _ _ _ _ hj]
  exact dv_eqm _ _ _ _ _ _
theorem tw_rt (i k : Nat) (b : Bool) (hk : k ≤ 20) : Rt ((fd i).p : Int) ((tw i k b : Nat) : Int) k := by
  cases b
  · exact (fd_fld i).rt hk
  · exact (fd_fld i).bt hk
theorem tw_inv (i k : Nat) (b : Bool) : Eqm ((fd i).p : Int) (((tw i k b : Nat) : Int) * ((tw i k (!b) : Nat) : Int)) 1 := by
  cases b
  · exact (fd_fld i).wv k
  · rw [Int.mul_comm]; exact (fd_fld i).wv k
theorem ts_inv (i k : Nat) (b : Bool) : Eqm ((fd i).p : Int) (((ts i k b : Nat) : Int) * ((ts i k (!b) : Nat) : Int) * ((2 ^ k : Nat) : Int)) 1 := by
  have := (fd_fld i).share k
  cases b
  · show Eqm _ (((1 : Nat) : Int) * ((sh (fd i) (2 ^ k) : Nat) : Int) * ((2 ^ k : Nat) : Int)) 1
    rw [Int.natCast_one, Int.one_mul, Int.mul_comm]; exact this
  · show Eqm _ (((sh (fd i) (2 ^ k) : Nat) : Int) * ((1 : Nat) : Int) * ((2 ^ k : Nat) : Int)) 1
    rw [Int.natCast_one, Int.mul_one, Int.mul_comm]; exact this
theorem seq_cast (l : List Nat) (j : Nat) : seq l j = ((lb l j : Nat) : Int) := rfl
/-- There and back. -/
theorem tfl_back (i k : Nat) (b : Bool) (l : List Nat) (hk : k ≤ 20) (hl : l.length = 2 ^ k) (hlt : ∀ x ∈ l, x < (fd i).p) : tfl i k (!b) (tfl i k b l) = l := by
  have p0 := (fd_fld i).good.p0
  refine ext_lb (by rw [tfl_len, hl]) fun t ht => ?_
  rw [tfl_len] at ht
  have h1 := tfl_eqm i k (!b) (tfl i k b l) t ht
  have h2 : Eqm ((fd i).p : Int) (dft ((tw i k (!b) : Nat) : Int) (2 ^ k) (seq (tfl i k b l)) t) ((ts i k b : Nat) * ((2 ^ k : Nat) * seq l t)) := by
    refine (dft_eqm fun j hj => tfl_eqm i k b l j hj).trans ?_
    rw [dft_mul]
    refine (Eqm.refl _ _).mul (dft_back (tw_rt i k b hk) (tw_rt i k (!b) hk) (tw_inv i k b) _ t ht)
  have h3 : Eqm ((fd i).p : Int) (seq (tfl i k (!b) (tfl i k b l)) t) (seq l t) := by
    refine h1.trans (((Eqm.refl _ _).mul h2).trans ?_)
    have h4 := (ts_inv i k b).mul (Eqm.refl ((fd i).p : Int) (seq l t))
    rw [Int.one_mul] at h4
    refine Eqm.trans (Eqm.of_eq ?_) h4
    grind
  exact h3.eq (lb_lt_of (by omega) (tfl_lt _ _ _ _) _) (lb_lt_of (by omega) hlt _)
/-- Each number times one, and others added. -/
theorem tfl_lines (i k : Nat) (b : Bool) (l m o : List Nat) (by_ : Nat) (ho : ∀ j, j < 2 ^ k → lb o j = (lb l j * by_ + lb m j) % (fd i).p) (j : Nat) (hj : j < 2 ^ k) :
    lb (tfl i k b o) j = (lb (tfl i k b l) j % (fd i).p * (by_ % (fd i).p) + lb (tfl i k b m) j) % (fd i).p := by
  have p0 := (fd_fld i).good.p0
  have h1 : Eqm ((fd i).p : Int) (seq (tfl i k b o) j) (seq (tfl i k b l) j * (by_ : Int) + seq (tfl i k b m) j) := by
    refine (tfl_eqm i k b o j hj).trans ?_
    have h2 : Eqm ((fd i).p : Int) (dft ((tw i k b : Nat) : Int) (2 ^ k) (seq o) j) ((by_ : Int) * dft ((tw i k b : Nat) : Int) (2 ^ k) (seq l) j + dft ((tw i k b : Nat) : Int) (2 ^ k) (seq m) j) := by
      rw [← dft_mul, ← dft_add]
      refine dft_eqm fun q hq => ?_
      rw [seq_cast, ho q hq]
      refine (Eqm.nat_mod _ _).trans (Eqm.of_eq ?_)
      rw [Int.natCast_add, Int.natCast_mul, seq_cast, seq_cast, Int.mul_comm]
    refine ((Eqm.refl _ _).mul h2).trans ?_
    have h3 := ((tfl_eqm i k b l j hj).mul (Eqm.refl _ (by_ : Int))).add (tfl_eqm i k b m j hj)
    refine Eqm.trans (Eqm.of_eq ?_) h3.symm
    grind
  refine h1.trans ?_ |>.eq (lb_lt_of (by omega) (tfl_lt _ _ _ _) _) (Nat.mod_lt _ (by omega))
  refine Eqm.symm ((Eqm.nat_mod _ _).trans ?_)
  rw [Int.natCast_add, Int.natCast_mul]
  exact ((Eqm.nat_mod _ _).mul (Eqm.nat_mod _ _)).add (Eqm.refl _ _)
/-- Turned by one place. -/
theorem tfl_turn (i k : Nat) (l m : List Nat) (hk : k ≤ 20) (h0 : lb m 0 = lb l (2 ^ k - 1)) (h1 : ∀ j, j + 1 < 2 ^ k → lb m (j + 1) = lb l j) (r : Nat) (hr : rt (fd i) k % (fd i).p = r) (j : Nat) (hj : j < 2 ^ k) :
    lb (tfl i k false m) j = lb (tfl i k false l) j * (r ^ j % (fd i).p) % (fd i).p := by
  have p0 := (fd_fld i).good.p0
  have hn := Nat.two_pow_pos k
  obtain ⟨n, hn2⟩ : ∃ n, 2 ^ k = n + 1 := ⟨2 ^ k - 1, by omega⟩
  have hw := (tw_rt i k false hk).1
  have e1 := tfl_eqm i k false m j hj
  have e2 := tfl_eqm i k false l j hj
  have ht := dft_turn (p := ((fd i).p : Int)) (w := ((tw i k false : Nat) : Int)) (n := n) (by rw [← hn2]; exact hw) (seq l) (seq m) (by rw [seq_cast, seq_cast, h0, show 2 ^ k - 1 = n by omega]) (fun q hq => by rw [seq_cast, seq_cast, h1 q (by omega)]) j
  rw [← hn2] at ht
  have hr1 : Eqm ((fd i).p : Int) ((r : Nat) : Int) ((tw i k false : Nat) : Int) := by rw [← hr]; exact Eqm.nat_mod _ _
  have h2 : Eqm ((fd i).p : Int) (seq (tfl i k false m) j) (seq (tfl i k false l) j * (r : Int) ^ j) := by
    refine e1.trans (((Eqm.refl _ _).mul ht).trans ?_)
    rw [← Int.mul_assoc]
    exact (e2.mul (hr1.pow j)).symm
  refine h2.trans ?_ |>.eq (lb_lt_of (by omega) (tfl_lt _ _ _ _) _) (Nat.mod_lt _ (by omega))
  refine Eqm.symm ((Eqm.nat_mod _ _).trans ?_)
  rw [Int.natCast_mul]
  refine (Eqm.refl _ _).mul ((Eqm.nat_mod _ _).trans ?_)
  rw [Int.natCast_pow]; exact Eqm.refl _ _
/-- The sum of products all around. -/
def arv (p n : Nat) (l m : List Nat) (k : Nat) : Nat := nsum n (fun t => lb l t * lb m ((k + n - t) % n)) % p
theorem tfl_around (i k : Nat) (l m o : List Nat) (hk : k ≤ 20) (ho : ∀ j, j < 2 ^ k → lb o j = lb (tfl i k false l) j * lb (tfl i k false m) j % (fd i).p) (j : Nat) (hj : j < 2 ^ k) :
    lb (tfl i k true o) j = arv (fd i).p (2 ^ k) l m j := by
  have p0 := (fd_fld i).good.p0
  let c : List Nat := (List.range (2 ^ k)).map (arv (fd i).p (2 ^ k) l m)
  have hc : ∀ q, q < 2 ^ k → lb c q = arv (fd i).p (2 ^ k) l m q := fun q hq => lb_map _ _ _ hq
  have hcl : c.length = 2 ^ k := by simp [c]
  have hclt : ∀ x ∈ c, x < (fd i).p := by
    intro x hx
    obtain ⟨q, _, rfl⟩ := List.mem_map.1 hx
    exact Nat.mod_lt _ (by omega)
  have hcs : ∀ q, q < 2 ^ k → Eqm ((fd i).p : Int) (seq c q) (sm (2 ^ k) fun t => seq l t * seq m ((q + 2 ^ k - t) % 2 ^ k)) := fun q hq => by
    rw [seq_cast, hc q hq]
    unfold arv
    refine (Eqm.nat_mod _ _).trans (Eqm.of_eq ?_)
    rw [nsum_cast]
    exact sm_congr fun t _ => by rw [Int.natCast_mul]; rfl
  have e : tfl i k false c = (List.range (2 ^ k)).map (fun q => lb o q % (fd i).p) := by
    refine ext_lb (by rw [tfl_len]; simp) fun q hq => ?_
    rw [tfl_len] at hq
    rw [lb_map _ _ _ hq]
    have h1 : Eqm ((fd i).p : Int) (seq (tfl i k false c) q) ((lb o q : Nat) : Int) := by
      rw [ho q hq]
      refine Eqm.trans ?_ (Eqm.nat_mod _ _).symm
      rw [Int.natCast_mul]
      have h2 := tfl_eqm i k false c q hq
      have h3 := tfl_eqm i k false l q hq
      have h4 := tfl_eqm i k false m q hq
      simp only [show ts i k false = 1 from rfl, Int.natCast_one, Int.one_mul] at h2 h3 h4
      refine h2.trans (Eqm.trans ?_ (h3.mul h4).symm)
      exact (dft_eqm hcs).trans (dft_around (tw_rt i k false hk).1 _ _ _).symm
    exact (h1.trans (Eqm.nat_mod _ _).symm).eq (lb_lt_of (by omega) (tfl_lt _ _ _ _) _) (Nat.mod_lt _ (by omega))
  have e2 : tfl i k true o = tfl i k true (tfl i k false c) := by
    rw [tfl_eq, tfl_eq]
    unfold trv
    refine List.map_congr_left fun q hq => ?_
    unfold dv
    refine congrArg (· % _) (congrArg (_ * ·) (nsum_congr fun t ht => ?_))
    rw [e, lb_map _ _ _ ht, ho t ht, Nat.mod_mod]
  have hb := tfl_back i k false c hk hcl hclt
  rw [show (!false) = true from rfl] at hb
  rw [e2, hb, hc j hj]
end Go.Proofs.YtikajmmeglookaaGreatDoor
/- A question in its box; slices opened. -/
namespace Go.Proofs.YtikajmmeglookaaGreatDoor
open Go.RowKit
set_option linter.unusedVariables false
set_option maxHeartbeats 400000

def Ax (w : World) (B : Nat) (I K : Int) (sl : Value) (bk : Bool) : Prop := B < w.heap.size ∧ w.cell? ⟨B, 0, none⟩ = some (.int .i64 I) ∧ w.cell? ⟨B, 1, none⟩ = some (.int .i64 K) ∧ w.cell? ⟨B, 2, none⟩ = some sl ∧ w.cell? ⟨B, 3, none⟩ = some (.bool bk)
theorem Ax.ext {w w' : World} {B : Nat} {I K : Int} {sl : Value} {bk : Bool} (h : Ax w B I K sl bk) (hB : Ext w w') : Ax w' B I K sl bk := by
  obtain ⟨h0, h1, h2, h3, h4⟩ := h
  have hs := hB.size
  have hc := fun o => hB.cell (p := ⟨B, o, none⟩) h0
  exact ⟨by omega, by rw [hc]; exact h1, by rw [hc]; exact h2, by rw [hc]; exact h3, by rw [hc]; exact h4⟩
theorem U.opened {w : World} {v : Value} {xs : List Nat} (h : U w v xs) {n : Nat} (hn : xs.length = n) (h0 : 0 < n) : ∃ ad c, v = .slice (some ad) n c ∧ n ≤ c ∧ ad.block < w.heap.size ∧ ∀ j, j < n → w.cell? (ad.add j) = some (.int .u32 (lb xs j : Nat)) := by
  obtain ⟨A, c, rfl, ⟨hc, _⟩, _, hr⟩ := h
  subst hn
  obtain ⟨ad, rfl, hb, hcell⟩ := hr h0
  exact ⟨ad, c, rfl, hc, hb, hcell⟩
end Go.Proofs.YtikajmmeglookaaGreatDoor
/- A row that grows while others lie by. -/
namespace Go.Proofs.YtikajmmeglookaaGreatDoor
open Go.RowKit
set_option linter.unusedVariables false
set_option maxHeartbeats 400000

/-- A row in block B or in one that is new. -/
structure Apart (B : Nat) (w0 w : World) (v : Value) (o : List Nat) : Prop where
  own : Own w B v o
  but : But B w0 w
  at_ : ∀ g, v.ownBlock = some g → g = B ∨ w0.heap.size ≤ g
theorem Apart.drew {B : Nat} {w0 w : World} {v : Value} {o : List Nat} (h : Apart B w0 w v o) : Apart B w0 w.drew v o := ⟨h.own.drew, h.but.drew, h.at_⟩
theorem Apart.cell {B : Nat} {w0 w : World} {v : Value} {o : List Nat} (h : Apart B w0 w v o) {p : Addr} (hp : p.block < w0.heap.size) (hne : p.block ≠ B) : w.cell? p = w0.cell? p := h.but.cell hp hne
theorem push_apart {w0 w : World} {B : Nat} (hB0 : B ≤ w0.heap.size) {v : Value} {o : List Nat} (h : Apart B w0 w v o) (z : Int) (x : Nat) (hz : z = (x : Int)) (hx : x < 4294967296) (hlen : o.length + 1 ≤ 35184372088832) :
    ∃ v' w', (Builtin.append_ #[22, 22] 22 #[v, .slice (some ⟨w.heap.size, 0, none⟩) 1 1]).run Tryz.prog (w.alloc (.cells #[.int .u32 z] 23)) = .ok v' w' ∧ Apart B w0 w' v' (o ++ [x]) := by
  subst hz
  obtain ⟨i0, hi, hz0, hz1, hz2⟩ := info_parts info32
  have hs := h.but.size
  have hu : U (w.alloc (.cells #[.int .u32 (x : Int)] 23)) (.slice (some ⟨w.heap.size, 0, none⟩) 1 1) [x] := U_lit w [x] (by simpa using hx) (by simp)
  obtain ⟨ad, c, e1, _, _, hcell⟩ := hu.opened (n := 1) rfl (by decide)
  injection e1 with e1 _ _
  injection e1 with e1
  obtain ⟨v', w', hrun, hown', hg, _, hat⟩ := run_append_own_at (P := Tryz.prog) (w.alloc (.cells #[.int .u32 (x : Int)] 23)) B 22 22 23 i0 (.int .u32 0) 1 4 Tryz.underlying22 hi hz0 hz1 hz2 rfl (by decide) v o.length (L32 o) (World.ownsRow.alloc h.own _) ⟨w.heap.size, 0, none⟩ 1 1 (L32 [x]) rfl
    (fun j u hj => by
      have hj1 : j < 1 := by
        rcases Nat.lt_or_ge j 1 with h | h
        · exact h
        · rw [List.getElem?_eq_none (by rw [L32_length]; exact h)] at hj; cases hj
      rw [e1, hcell j hj1, ← L32_get [x] hj1, hj])
    (by intro u hu; obtain ⟨z, _, rfl⟩ := List.mem_map.1 hu; rfl) (by unfold maxLen; omega) (by omega) (by simp; omega)
  refine ⟨v', w', hrun, ⟨by unfold Own; rw [L32_append, List.length_append]; exact hown', ?_, ?_⟩⟩
  · have h1 : But B w0 (w.alloc (.cells #[.int .u32 (x : Int)] 23)) := h.but.ext ((Ext.refl w).alloc _)
    refine ⟨hg.os.trans h1.os, hg.tape.trans h1.tape, hg.output.trans h1.output, Nat.le_trans h1.size hg.size, fun i hi hne => (hg.block i (Nat.lt_of_lt_of_le hi h1.size) (fun e => ?_)).trans (h1.block i hi hne)⟩
    rcases h.at_ i e.symm with e | e
    · exact hne (by rw [e])
    · omega
  · intro g hgv
    rcases hat with e | e
    · exact h.at_ g (e ▸ hgv)
    · rw [hgv] at e
      injection e with e
      right; rw [e]; simp; omega
theorem bare_cell (w : World) (p : Addr) (t : TypeId) (h : w.heap[p.block]? = some (.cells #[] t)) : w.cell? p = none := by
  unfold World.cell?; simp [h]
end Go.Proofs.YtikajmmeglookaaGreatDoor
