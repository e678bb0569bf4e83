/- Digits to a base, the highest first: plain lists and naturals. -/
import Derived.Test.YtfkcdmbiihkiiaaGreatDoorBaf
import Derived.Test.YtfkcdmbiihkiiaaGreatDoorBam
import Derived.Lib.SlTrimSet
import Derived.Lib.Bytealg
import Derived.Laws.CopyOwn

namespace Go.Proofs.YtfkcdmbiihkiiaaGreatDoor
set_option linter.unusedVariables false
set_option maxHeartbeats 400000

theorem rev_ind {P : List Nat → Prop} (h0 : P []) (h1 : ∀ ds d, P ds → P (ds ++ [d])) (ds : List Nat) : P ds := by
  have : ∀ l : List Nat, P l.reverse := fun l => by
    induction l with
    | nil => exact h0
    | cons x l ih => rw [List.reverse_cons]; exact h1 _ _ ih
  have h := this ds.reverse
  rwa [List.reverse_reverse] at h
/-- What digits are worth. -/
def bval (b : Nat) (ds : List Nat) : Nat := ds.foldl (fun a d => a * b + d) 0
theorem bval_from (b : Nat) (ds : List Nat) (a : Nat) : ds.foldl (fun a d => a * b + d) a = a * b ^ ds.length + bval b ds := by
  induction ds generalizing a with
  | nil => simp [bval]
  | cons d ds ih =>
    have e : bval b (d :: ds) = (0 * b + d) * b ^ ds.length + bval b ds := ih (0 * b + d)
    rw [List.foldl_cons, ih, e, List.length_cons, Nat.pow_succ, Nat.add_mul, Nat.zero_mul, Nat.zero_add, Nat.mul_assoc, Nat.mul_comm b (b ^ ds.length), Nat.add_assoc]
theorem bval_nil (b : Nat) : bval b [] = 0 := rfl
theorem bval_append (b : Nat) (xs ys : List Nat) : bval b (xs ++ ys) = bval b xs * b ^ ys.length + bval b ys := by
  rw [bval, List.foldl_append, bval_from]; rfl
theorem bval_push (b : Nat) (xs : List Nat) (d : Nat) : bval b (xs ++ [d]) = bval b xs * b + d := by
  rw [bval_append]; simp [bval]
theorem bval_lt (b : Nat) (ds : List Nat) (h : ∀ d ∈ ds, d < b) : bval b ds < b ^ ds.length := by
  revert h
  refine rev_ind (P := fun ds => (∀ d ∈ ds, d < b) → bval b ds < b ^ ds.length) (fun _ => by simp [bval]) (fun ds d ih h => ?_) ds
  · have h1 := ih fun x hx => h x (by simp [hx])
    have h2 := h d (by simp)
    rw [bval_push, List.length_append, List.length_singleton, Nat.pow_succ]
    have h3 := Nat.mul_le_mul_right b (show bval b ds + 1 ≤ b ^ ds.length from h1)
    rw [Nat.add_mul, Nat.one_mul] at h3
    omega
theorem bval_zeros (b k : Nat) : bval b (List.replicate k 0) = 0 := by
  induction k with
  | zero => rfl
  | succ k ih => rw [List.replicate_succ', bval_push, ih]; simp

/-- The last k digits of n, with noughts ahead. -/
def bdig (b n : Nat) : Nat → List Nat
  | 0 => []
  | k + 1 => bdig b (n / b) k ++ [n % b]
theorem bdig_len (b n k : Nat) : (bdig b n k).length = k := by
  induction k generalizing n with
  | zero => rfl
  | succ k ih => rw [bdig, List.length_append, ih]; rfl
theorem bdig_lt (b n k : Nat) (hb : 0 < b) : ∀ d ∈ bdig b n k, d < b := by
  induction k generalizing n with
  | zero => intro d h; simp [bdig] at h
  | succ k ih =>
    intro d h
    rw [bdig, List.mem_append] at h
    rcases h with h | h
    · exact ih _ d h
    · simp at h; rw [h]; exact Nat.mod_lt _ hb
theorem bval_bdig (b n k : Nat) : bval b (bdig b n k) = n % b ^ k := by
  induction k generalizing n with
  | zero => rw [Nat.pow_zero, Nat.mod_one]; rfl
  | succ k ih =>
    rw [bdig, bval_push, ih, Nat.pow_succ, Nat.mul_comm (b ^ k) b, Nat.mod_mul, Nat.mul_comm, Nat.add_comm]
theorem bdig_add (b n j k : Nat) : bdig b n (j + k) = bdig b (n / b ^ k) j ++ bdig b (n % b ^ k) k := by
  induction k generalizing n with
  | zero => rw [Nat.pow_zero, Nat.div_one]; simp [bdig]
  | succ k ih =>
    rw [← Nat.add_assoc, bdig, bdig, ih, Nat.pow_succ, Nat.mul_comm (b ^ k) b, Nat.div_div_eq_div_mul, List.append_assoc]
    have h1 : n % (b * b ^ k) / b = n / b % b ^ k := by
      rw [Nat.mod_mul]
      rcases Nat.eq_zero_or_pos b with h | h
      · subst h; simp
      · rw [Nat.add_mul_div_left _ _ h, Nat.div_eq_of_lt (Nat.mod_lt _ h), Nat.zero_add]
    have h2 : n % (b * b ^ k) % b = n % b := Nat.mod_mul_right_mod _ _ _
    rw [h1, h2]
theorem bdig_bval (b : Nat) (ds : List Nat) (h : ∀ d ∈ ds, d < b) : bdig b (bval b ds) ds.length = ds := by
  revert h
  refine rev_ind (P := fun ds => (∀ d ∈ ds, d < b) → bdig b (bval b ds) ds.length = ds) (fun _ => rfl) (fun ds d ih h => ?_) ds
  · have h1 := ih fun x hx => h x (by simp [hx])
    have h2 := h d (by simp)
    have e1 : (bval b ds * b + d) % b = d := by rw [Nat.mul_comm, Nat.mul_add_mod, Nat.mod_eq_of_lt h2]
    have e2 : (bval b ds * b + d) / b = bval b ds := by rw [Nat.mul_comm, Nat.mul_add_div (by omega), Nat.div_eq_of_lt h2, Nat.add_zero]
    rw [List.length_append, List.length_singleton, bdig, bval_push, e1, e2, h1]
end Go.Proofs.YtfkcdmbiihkiiaaGreatDoor
/- Digits without noughts ahead; how many there are. -/
namespace Go.Proofs.YtfkcdmbiihkiiaaGreatDoor
set_option linter.unusedVariables false
set_option maxHeartbeats 400000

/-- Without noughts ahead. -/
def strip0 : List Nat → List Nat
  | [] => []
  | d :: ds => if d = 0 then strip0 ds else d :: ds
theorem strip0_push (ds : List Nat) (d : Nat) : strip0 (ds ++ [d]) = if strip0 ds = [] then (if d = 0 then [] else [d]) else strip0 ds ++ [d] := by
  induction ds with
  | nil => simp [strip0]
  | cons e ds ih =>
    rw [List.cons_append, strip0, strip0]
    by_cases h : e = 0
    · rw [if_pos h, if_pos h]; exact ih
    · rw [if_neg h, if_neg h]; simp
theorem strip0_split (ds : List Nat) : ∃ k, ds = List.replicate k 0 ++ strip0 ds := by
  induction ds with
  | nil => exact ⟨0, rfl⟩
  | cons d ds ih =>
    obtain ⟨k, hk⟩ := ih
    rw [strip0]
    by_cases h : d = 0
    · rw [if_pos h, h]
      exact ⟨k + 1, by rw [List.replicate_succ, List.cons_append, ← hk]⟩
    · rw [if_neg h]; exact ⟨0, rfl⟩
theorem bval_strip0 (b : Nat) (ds : List Nat) : bval b (strip0 ds) = bval b ds := by
  obtain ⟨k, hk⟩ := strip0_split ds
  conv => rhs; rw [hk, bval_append, bval_zeros, Nat.zero_mul, Nat.zero_add]

/-- The digits of a number, none of nought. -/
def nd (b a : Nat) : List Nat := if h : a = 0 ∨ b < 2 then [] else nd b (a / b) ++ [a % b]
termination_by a
decreasing_by exact Nat.div_lt_self (by omega) (by omega)
theorem nd_zero (b : Nat) : nd b 0 = [] := by rw [nd]; simp
theorem nd_pos {b a : Nat} (ha : a ≠ 0) (hb : 2 ≤ b) : nd b a = nd b (a / b) ++ [a % b] := by
  rw [nd, dif_neg (by omega)]
theorem nd_ne {b a : Nat} (ha : a ≠ 0) (hb : 2 ≤ b) : nd b a ≠ [] := by rw [nd_pos ha hb]; simp
theorem strip0_bdig (b : Nat) (hb : 2 ≤ b) (k a : Nat) (h : a < b ^ k) : strip0 (bdig b a k) = nd b a := by
  induction k generalizing a with
  | zero =>
    have : a = 0 := by rw [Nat.pow_zero] at h; omega
    subst this
    rw [nd_zero]; rfl
  | succ k ih =>
    have h1 : a / b < b ^ k := Nat.div_lt_of_lt_mul (by rw [Nat.mul_comm, ← Nat.pow_succ]; exact h)
    rw [bdig, strip0_push, ih _ h1]
    by_cases h0 : a = 0
    · subst h0
      rw [Nat.zero_div, nd_zero, if_pos rfl, Nat.zero_mod, if_pos rfl]
    · rw [nd_pos h0 hb]
      by_cases h2 : a / b = 0
      · rw [h2, nd_zero, if_pos rfl, if_neg, List.nil_append]
        have := Nat.div_add_mod a b
        rw [h2, Nat.mul_zero, Nat.zero_add] at this
        rw [this]; exact h0
      · rw [if_neg (nd_ne h2 hb)]
theorem bval_nd (b : Nat) (hb : 2 ≤ b) (a : Nat) : bval b (nd b a) = a := by
  have h : a < b ^ a := Nat.lt_pow_self (by omega)
  rw [← strip0_bdig b hb a a h, bval_strip0, bval_bdig, Nat.mod_eq_of_lt h]
theorem nd_lt (b : Nat) (hb : 2 ≤ b) (a : Nat) : ∀ d ∈ nd b a, d < b := by
  have h : a < b ^ a := Nat.lt_pow_self (by omega)
  rw [← strip0_bdig b hb a a h]
  intro d hd
  obtain ⟨k, hk⟩ := strip0_split (bdig b a a)
  exact bdig_lt b a a (by omega) d (by rw [hk]; exact List.mem_append_right _ hd)
theorem lt_pow_nd (b : Nat) (hb : 2 ≤ b) (a : Nat) : a < b ^ (nd b a).length := by
  have := bval_lt b (nd b a) (nd_lt b hb a)
  rwa [bval_nd b hb] at this
theorem nd_head (b : Nat) (hb : 2 ≤ b) (a : Nat) : strip0 (nd b a) = nd b a := by
  have h : a < b ^ a := Nat.lt_pow_self (by omega)
  have e := strip0_bdig b hb (nd b a).length a (lt_pow_nd b hb a)
  have e2 : bdig b a (nd b a).length = nd b a := by
    have := bdig_bval b (nd b a) (nd_lt b hb a)
    rwa [bval_nd b hb] at this
  rwa [e2] at e
theorem pow_nd_le (b : Nat) (hb : 2 ≤ b) (a k : Nat) (h : a < b ^ k) : (nd b a).length ≤ k := by
  rw [← strip0_bdig b hb k a h]
  obtain ⟨j, hj⟩ := strip0_split (bdig b a k)
  have := congrArg List.length hj
  rw [bdig_len, List.length_append, List.length_replicate] at this
  omega
/-- The digits of what is read are what was read, without noughts ahead. -/
theorem nd_bval (b : Nat) (hb : 2 ≤ b) (ds : List Nat) (h : ∀ d ∈ ds, d < b) : nd b (bval b ds) = strip0 ds := by
  have h1 := strip0_bdig b hb ds.length (bval b ds) (bval_lt b ds h)
  rwa [bdig_bval b ds h, eq_comm] at h1
/-- Where the number is cut: the digits ahead, and all that are behind. -/
theorem nd_split (b : Nat) (hb : 2 ≤ b) (a k : Nat) (h : b ^ k ≤ a) : nd b a = nd b (a / b ^ k) ++ bdig b (a % b ^ k) k := by
  have hp : 0 < b ^ k := Nat.pow_pos (by omega)
  have hq : a / b ^ k ≠ 0 := by
    have := Nat.div_pos h hp
    omega
  obtain ⟨j, hj⟩ : ∃ j, (nd b (a / b ^ k)).length = j := ⟨_, rfl⟩
  have h1 := lt_pow_nd b hb (a / b ^ k)
  rw [hj] at h1
  have h2 : a < b ^ (j + k) := by
    rw [Nat.pow_add]
    exact (Nat.div_lt_iff_lt_mul hp).1 h1
  rw [← strip0_bdig b hb (j + k) a h2, bdig_add]
  have h3 : bdig b (a / b ^ k) j = nd b (a / b ^ k) := by
    have := bdig_bval b (nd b (a / b ^ k)) (nd_lt b hb _)
    rwa [bval_nd b hb, hj] at this
  rw [h3]
  have h4 := nd_head b hb (a / b ^ k)
  have h5 := nd_ne hq hb
  cases hn : nd b (a / b ^ k) with
  | nil => exact absurd hn h5
  | cons d ds =>
    rw [hn, strip0] at h4
    by_cases h0 : d = 0
    · rw [if_pos h0] at h4
      obtain ⟨i, hi⟩ := strip0_split ds
      have := congrArg List.length hi
      rw [h4, List.length_append, List.length_cons] at this
      omega
    · rw [List.cons_append, strip0, if_neg h0]
end Go.Proofs.YtfkcdmbiihkiiaaGreatDoor
/- Digits as bytes, and back; chunks of digits; the powers that are kept. -/
namespace Go.Proofs.YtfkcdmbiihkiiaaGreatDoor
set_option linter.unusedVariables false
set_option maxHeartbeats 400000

/-- A digit's byte. -/
def digB (d : Nat) : Nat := if d < 10 then 48 + d else 87 + d
/-- What a byte is worth. -/
def worB (c : Nat) : Nat := if 48 ≤ c ∧ c ≤ 57 then c - 48 else if 97 ≤ c ∧ c ≤ 122 then c - 97 + 10 else 99
theorem worB_digB {d : Nat} (h : d < 36) : worB (digB d) = d := by
  unfold worB digB
  split
  · rw [if_pos (by omega)]; omega
  · rw [if_neg (by omega), if_pos (by omega)]; omega
theorem digB_worB {c : Nat} (h : worB c < 36) : digB (worB c) = c := by
  unfold worB at h ⊢
  unfold digB
  by_cases h1 : 48 ≤ c ∧ c ≤ 57
  · rw [if_pos h1, if_pos (by omega)]; omega
  · rw [if_neg h1] at h ⊢
    by_cases h2 : 97 ≤ c ∧ c ≤ 122
    · rw [if_pos h2, if_neg (by omega)]; omega
    · rw [if_neg h2] at h; omega
theorem digB_lt {d : Nat} (h : d < 36) : digB d < 128 := by unfold digB; split <;> omega
theorem digB_zero {d : Nat} : digB d = 48 ↔ d = 0 := by unfold digB; split <;> omega
theorem worB_le (c : Nat) : worB c ≤ 99 := by unfold worB; split <;> (try split) <;> omega

/-- A base, and the greatest power of it that a limb holds. -/
structure Sc (b n p : Nat) : Prop where
  b2 : 2 ≤ b
  b36 : b ≤ 36
  n1 : 1 ≤ n
  pw : p = b ^ n
  fit : p < 4294967296
  most : 4294967296 ≤ p * b
theorem Sc.n32 {b n p : Nat} (h : Sc b n p) : n ≤ 31 := by
  rcases Nat.lt_or_ge n 32 with h1 | h1
  · omega
  · exfalso
    have h2 : 2 ^ 32 ≤ 2 ^ n := Nat.pow_le_pow_right (by decide) h1
    have h3 : 2 ^ n ≤ b ^ n := Nat.pow_le_pow_left h.b2 n
    rw [← h.pw] at h3
    have h4 : (2 : Nat) ^ 32 = 4294967296 := rfl
    have h5 := h.fit
    omega
theorem Sc.p2 {b n p : Nat} (h : Sc b n p) : 2 ≤ p := by
  rw [h.pw]
  have h1 : b ^ 1 ≤ b ^ n := Nat.pow_le_pow_right (by have := h.b2; omega) h.n1
  rw [Nat.pow_one] at h1
  have := h.b2
  omega
/-- The loop that finds it. -/
structure ScI (b n p : Nat) : Prop where
  n1 : 1 ≤ n
  pw : p = b ^ n
  fit : p < 4294967296
theorem ScI.step {b n p : Nat} (h : ScI b n p) (hlt : p * b < 4294967296) : ScI b (n + 1) (p * b) := ⟨by omega, by rw [h.pw, Nat.pow_succ], hlt⟩
theorem ScI.done {b n p : Nat} (h : ScI b n p) (h2 : 2 ≤ b) (h36 : b ≤ 36) (hge : 4294967296 ≤ p * b) : Sc b n p := ⟨h2, h36, h.n1, h.pw, h.fit, hge⟩
theorem ScI.n32 {b n p : Nat} (h : ScI b n p) (h2 : 2 ≤ b) : n ≤ 31 := by
  rcases Nat.lt_or_ge n 32 with h1 | h1
  · omega
  · exfalso
    have h2 : 2 ^ 32 ≤ 2 ^ n := Nat.pow_le_pow_right (by decide) h1
    have h3 : 2 ^ n ≤ b ^ n := Nat.pow_le_pow_left (by omega) n
    rw [← h.pw] at h3
    have h4 : (2 : Nat) ^ 32 = 4294967296 := rfl
    have h5 := h.fit
    omega

/-- The i-th power that is kept. -/
def kp (b n i : Nat) : Nat := b ^ (16 * n * 2 ^ i)
theorem kp_zero (b n p : Nat) (h : p = b ^ n) : kp b n 0 = p ^ 16 := by
  unfold kp; rw [Nat.pow_zero, Nat.mul_one, h, ← Nat.pow_mul, Nat.mul_comm]
theorem kp_succ (b n i : Nat) : kp b n (i + 1) = kp b n i * kp b n i := by
  unfold kp; rw [← Nat.pow_add, Nat.pow_succ, ← Nat.mul_assoc, Nat.mul_two]
/-- A number below the i-th power, split at the one below it. -/
theorem kp_split (b n i a : Nat) (hb : 2 ≤ b) (h : a < kp b n (i + 1)) : a / kp b n i < kp b n i ∧ bdig b a (16 * n * 2 ^ (i + 1)) = bdig b (a / kp b n i) (16 * n * 2 ^ i) ++ bdig b (a % kp b n i) (16 * n * 2 ^ i) := by
  refine ⟨Nat.div_lt_of_lt_mul (by rw [← kp_succ]; exact h), ?_⟩
  rw [show 16 * n * 2 ^ (i + 1) = 16 * n * 2 ^ i + 16 * n * 2 ^ i by rw [Nat.pow_succ, ← Nat.mul_assoc, Nat.mul_two], bdig_add]
  rfl
end Go.Proofs.YtfkcdmbiihkiiaaGreatDoor
/- Digits: their order, their places, bits of them; powers. -/
namespace Go.Proofs.YtfkcdmbiihkiiaaGreatDoor
set_option linter.unusedVariables false
set_option maxHeartbeats 400000

/-- The digits that are written: one nought for nought. -/
def dt (b a : Nat) : List Nat := if a = 0 then [0] else nd b a
theorem dt_zero (b : Nat) : dt b 0 = [0] := rfl
theorem dt_pos {b a : Nat} (h : a ≠ 0) : dt b a = nd b a := if_neg h
theorem bval_dt (b : Nat) (hb : 2 ≤ b) (a : Nat) : bval b (dt b a) = a := by
  unfold dt
  split
  · rename_i h; subst h; simp [bval]
  · exact bval_nd b hb a
theorem dt_lt (b : Nat) (hb : 2 ≤ b) (a : Nat) : ∀ d ∈ dt b a, d < b := by
  unfold dt
  split
  · intro d hd; simp at hd; omega
  · exact nd_lt b hb a
theorem dt_len1 (b : Nat) (hb : 2 ≤ b) (a : Nat) : 1 ≤ (dt b a).length := by
  unfold dt
  split
  · simp
  · rename_i h
    have := nd_ne h hb
    cases e : nd b a with
    | nil => exact absurd e this
    | cons x xs => simp
theorem dt_len_le (b : Nat) (hb : 2 ≤ b) (a k : Nat) (hk : 1 ≤ k) (h : a < b ^ k) : (dt b a).length ≤ k := by
  unfold dt
  split
  · simpa using hk
  · exact pow_nd_le b hb a k h
/-- The digit at a place, from the end. -/
theorem bdig_at (b : Nat) : ∀ (k a i : Nat), i < k → lb (bdig b a k) (k - 1 - i) = a / b ^ i % b
  | k + 1, a, 0, _ => by
    rw [bdig, Nat.pow_zero, Nat.div_one]
    unfold lb
    rw [List.getElem?_append_right (by rw [bdig_len]; omega), bdig_len]
    simp
  | k + 1, a, i + 1, h => by
    have ih := bdig_at b k (a / b) i (by omega)
    rw [bdig]
    unfold lb at *
    rw [List.getElem?_append_left (by rw [bdig_len]; omega), show k + 1 - 1 - (i + 1) = k - 1 - i by omega, ih, Nat.div_div_eq_div_mul, Nat.pow_succ, Nat.mul_comm]
/-- What is read, and written again, is without the noughts ahead. -/
theorem dt_bval (b : Nat) (hb : 2 ≤ b) (ds : List Nat) (h : ∀ d ∈ ds, d < b) : dt b (bval b ds) = if strip0 ds = [] then [0] else strip0 ds := by
  have e := nd_bval b hb ds h
  by_cases h0 : bval b ds = 0
  · rw [h0, dt_zero]
    rw [h0, nd_zero] at e
    rw [if_pos e.symm]
  · rw [dt_pos h0, e, if_neg (by rw [← e]; exact nd_ne h0 hb)]
end Go.Proofs.YtfkcdmbiihkiiaaGreatDoor
/- Texts: digits as bytes of a string. -/
namespace Go.Proofs.YtfkcdmbiihkiiaaGreatDoor
set_option linter.unusedVariables false
set_option maxHeartbeats 400000

/-- The bytes of digits. -/
def byteL (ds : List Nat) : List UInt8 := ds.map fun d => UInt8.ofNat (digB d)
/-- The text of digits. -/
def strD (ds : List Nat) : ByteArray := ⟨(byteL ds).toArray⟩
/-- What the bytes of a text are worth. -/
def worL (s : ByteArray) : List Nat := s.data.toList.map fun c => worB c.toNat
theorem byteL_len (ds : List Nat) : (byteL ds).length = ds.length := by simp [byteL]
theorem byteL_app (xs ys : List Nat) : byteL (xs ++ ys) = byteL xs ++ byteL ys := by simp [byteL]
theorem strD_data (ds : List Nat) : (strD ds).data.toList = byteL ds := rfl
theorem strD_size (ds : List Nat) : (strD ds).size = ds.length := by
  show (byteL ds).toArray.size = ds.length
  rw [List.size_toArray, byteL_len]
theorem strD_app (xs ys : List Nat) : strD xs ++ strD ys = strD (xs ++ ys) := by
  apply ByteArray.ext
  apply Array.toList_inj.1
  rw [strD_data, byteL_app, ByteArray.data_append, Array.toList_append, strD_data, strD_data]
theorem digB_nat {d : Nat} (h : d < 36) : (UInt8.ofNat (digB d)).toNat = digB d := by
  have := digB_lt h
  rw [UInt8.toNat_ofNat', Nat.mod_eq_of_lt (by omega)]
theorem worL_len (s : ByteArray) : (worL s).length = s.size := by simp [worL]
theorem worL_strD (ds : List Nat) (h : ∀ d ∈ ds, d < 36) : worL (strD ds) = ds := by
  unfold worL
  rw [strD_data, byteL, List.map_map]
  conv => rhs; rw [← List.map_id ds]
  apply List.map_congr_left
  intro d hd
  show worB (UInt8.ofNat (digB d)).toNat = d
  rw [digB_nat (h d hd), worB_digB (h d hd)]
/-- A text all of whose bytes are digits is the text of these. -/
theorem strD_worL (s : ByteArray) (h : ∀ d ∈ worL s, d < 36) : strD (worL s) = s := by
  apply ByteArray.ext
  apply Array.toList_inj.1
  rw [strD_data]
  unfold byteL
  unfold worL at h ⊢
  rw [List.map_map]
  conv => rhs; rw [← List.map_id s.data.toList]
  apply List.map_congr_left
  intro c hc
  show UInt8.ofNat (digB (worB c.toNat)) = c
  rw [digB_worB (h _ (List.mem_map_of_mem (f := fun c => worB c.toNat) hc)), UInt8.ofNat_toNat]
/-- The noughts ahead fall. -/
theorem trim_byteL (ds : List Nat) (h : ∀ d ∈ ds, d < 36) : Lib.trimLeftS (byteL ds) [48] = byteL (strip0 ds) := by
  induction ds with
  | nil => rfl
  | cons d ds ih =>
    have h0 := h d (by simp)
    have e := digB_nat h0
    rw [strip0]
    unfold Lib.trimLeftS at ih ⊢
    show List.dropWhile _ (UInt8.ofNat (digB d) :: byteL ds) = _
    rw [List.dropWhile_cons]
    by_cases hd : d = 0
    · subst hd
      rw [if_pos (by decide), if_pos rfl]
      exact ih fun x hx => h x (by simp [hx])
    · have hne : ¬ (UInt8.ofNat (digB d) = 48) := by
        intro e2
        rw [e2] at e
        have := digB_zero.1 (show digB d = 48 by rw [← e]; rfl)
        exact hd this
      rw [if_neg (by simp [hne]), if_neg hd]
      rfl
end Go.Proofs.YtfkcdmbiihkiiaaGreatDoor
/- A base's scale. -/
namespace Go.Proofs.YtfkcdmbiihkiiaaGreatDoor
open Go.RowKit
set_option linter.unusedVariables false
set_option maxHeartbeats 400000

/-- A scale as the program has it. -/
abbrev SV (b n p : Nat) : Value := .agg #[.int .u32 (b : Nat), .int .i64 (n : Nat), .int .u32 (p : Nat)]
theorem piece_calls (w : World) (b n p : Nat) (h : Sc b n p) :
    Calls Tryz.prog 87 #[SV b n p] w fun e w' => e = .returned (.int .i64 (16 * n : Nat)) ∧ Ext w w' := by
  have hn := h.n32
  have hE := (Ext.refl w).alloc (.cells #[.int .u32 (b : Nat), .int .i64 (n : Nat), .int .u32 (p : Nat)] 80)
  go_enter Tryz.func87, Tryz.ntmps87
  go_wp2
  go_ret
  exact ⟨by go_num, hE⟩

/-- A scale in its block. -/
def SBx (w : World) (B b n p : Nat) : Prop := B < w.heap.size ∧ w.cell? ⟨B, 0, none⟩ = some (.int .u32 (b : Nat)) ∧ w.cell? ⟨B, 1, none⟩ = some (.int .i64 (n : Nat)) ∧ w.cell? ⟨B, 2, none⟩ = some (.int .u32 (p : Nat))
theorem SBx.ext {w w' : World} {B b n p : Nat} (h : SBx w B b n p) (hE : Ext w w') : SBx w' B b n p := by
  obtain ⟨h0, h1, h2, h3⟩ := h
  have hc := fun o => hE.cell (p := ⟨B, o, none⟩) h0
  exact ⟨Nat.lt_of_lt_of_le h0 hE.size, by rw [hc]; exact h1, by rw [hc]; exact h2, by rw [hc]; exact h3⟩
theorem SBx.new (w : World) (b n p : Nat) : SBx (w.alloc (.cells #[.int .u32 (b : Nat), .int .i64 (n : Nat), .int .u32 (p : Nat)] 80)) w.heap.size b n p := by
  refine ⟨by simp, ?_, ?_, ?_⟩ <;> go_simp

/-- A block may be written. -/
def Wr (w : World) (B : Nat) : Prop := ∀ j, w.frozen? ⟨B, j, none⟩ = false
theorem Wr.setCell {w : World} {B : Nat} (h : Wr w B) (p : Addr) (v : Value) : Wr (w.setCell p v) B := by
  intro j
  have := h j
  go_simp
/-- The answer's block, before it is written. -/
def ZBx (w : World) (B : Nat) : Prop := B < w.heap.size ∧ w.cell? ⟨B, 0, none⟩ = some (.int .u32 0) ∧ w.cell? ⟨B, 1, none⟩ = some (.int .i64 0) ∧ w.cell? ⟨B, 2, none⟩ = some (.int .u32 0)

set_option maxRecDepth 100000 in
set_option maxHeartbeats 4000000 in
theorem scaleOf_calls (w : World) (b : Nat) (h2 : 2 ≤ b) (h36 : b ≤ 36) :
    Calls Tryz.prog 82 #[.int .i64 (b : Nat)] w fun e w' => (∃ n p, Sc b n p ∧ e = .returned (SV b n p)) ∧ Ext w w' := by
  have hE := ((Ext.refl w).alloc (.cells #[.int .u32 0, .int .i64 0, .int .u32 0] 80)).alloc (.cells #[.int .u32 (b : Nat), .int .i64 1, .int .u32 (b : Nat)] 80)
  have HI : Hid (ScI b 1 b) := ⟨Nat.le_refl _, (Nat.pow_one _).symm, by omega⟩
  have hb1 : (b : Int) % 4294967296 = b := by omega
  have hb2 : (b : Int) % 18446744073709551616 = b := by omega
  go_enter Tryz.func82, Tryz.ntmps82
  go_wp2
  have hZ : ZBx ((w.alloc (.cells #[.int .u32 0, .int .i64 0, .int .u32 0] 80)).alloc (.cells #[.int .u32 (b : Nat), .int .i64 1, .int .u32 (b : Nat)] 80)) w.heap.size := by refine ⟨by simp; omega, ?_, ?_, ?_⟩ <;> go_simp
  have hS : SBx ((w.alloc (.cells #[.int .u32 0, .int .i64 0, .int .u32 0] 80)).alloc (.cells #[.int .u32 (b : Nat), .int .i64 1, .int .u32 (b : Nat)] 80)) (w.heap.size + 1) b 1 b := by refine ⟨by simp, ?_, ?_, ?_⟩ <;> go_simp
  have hF : Wr ((w.alloc (.cells #[.int .u32 0, .int .i64 0, .int .u32 0] 80)).alloc (.cells #[.int .u32 (b : Nat), .int .i64 1, .int .u32 (b : Nat)] 80)) w.heap.size := by intro j; go_simp
  have hG : Wr ((w.alloc (.cells #[.int .u32 0, .int .i64 0, .int .u32 0] 80)).alloc (.cells #[.int .u32 (b : Nat), .int .i64 1, .int .u32 (b : Nat)] 80)) (w.heap.size + 1) := by intro j; go_simp
  go_loopw [10] (fun t wr => ∃ n p : Nat, Wr wr w.heap.size ∧ Wr wr (w.heap.size + 1) ∧ Hid (ScI b n p) ∧ SBx wr (w.heap.size + 1) b n p ∧ ZBx wr w.heap.size ∧ Ext w wr) (fun _ wr => match wr.cell? ⟨w.heap.size + 1, 1, none⟩ with | some v => 32 - (intOf v).toNat | none => 0)
  case atStart => exact ⟨1, b, hF, hG, HI, hS, hZ, hE⟩
  case round =>
    clear HI hS hZ hE hF hG
    obtain ⟨n, p, hF, hG, HO, hS, hZ, hE⟩ := hrel
    have hF0 := hF 0
    have hF1 := hF 1
    have hF2 := hF 2
    have hG1 := hG 1
    have hG2 := hG 2
    have hpf := HO.out.fit
    have hn32 := HO.out.n32 h2
    obtain ⟨s0, s1, s2, s3⟩ := id hS
    obtain ⟨z0, z1, z2, z3⟩ := id hZ
    obtain ⟨q, hq⟩ : ∃ q, p * b = q := ⟨_, rfl⟩
    have hqb : q < 18446744073709551616 := by
      rw [← hq]
      have h3 : p * b ≤ p * 36 := Nat.mul_le_mul_left p h36
      omega
    have o1 : (p : Int) * (b : Int) = (q : Int) := by rw [← hq]; exact (Int.natCast_mul p b).symm
    have o2 : IntKind.u64.wrap (q : Int) = (q : Int) := by rw [IntKind.wrap_u64]; omega
    have o3 : (q : Int) % 18446744073709551616 = (q : Int) := by omega
    have o4 : IntKind.u64.wrap (p : Int) = (p : Int) := by rw [IntKind.wrap_u64]; omega
    have o5 : (p : Int) % 18446744073709551616 = (p : Int) := by omega
    by_cases hlt : q < 4294967296
    · have HST := Lib.hid (HO.out.step (by rw [hq]; exact hlt))
      have o6 : (q : Int) % 4294967296 = q := by omega
      rw [hq] at HST
      have hd : ((q : Int) < 4294967296) := by omega
      clear HO hS hZ
      go_wp2
      go_roundw
      case rel =>
        refine ⟨n + 1, q, (hF.setCell _ _).setCell _ _, (hG.setCell _ _).setCell _ _, HST, ⟨by simp; omega, ?_, ?_, ?_⟩, ⟨by simp; omega, ?_, ?_, ?_⟩, (hE.setCell (by simp) _).setCell (by simp) _⟩ <;> go_simp
      case measure =>
        rw [s2]
        have e : ((wr.setCell { block := w.heap.size + 1, off := 1 } (Value.int IntKind.i64 ((n : Int) + 1))).setCell { block := w.heap.size + 1, off := 2 } (Value.int IntKind.u32 (q : Int))).cell? { block := w.heap.size + 1, off := 1 } = some (.int .i64 ((n : Int) + 1)) := by go_simp
        rw [e]
        show 32 - ((n : Int) + 1).toNat < 32 - (n : Int).toNat
        omega
    · have HD := Lib.hid (HO.out.done h2 h36 (by rw [hq]; omega))
      have hd : ¬ ((q : Int) < 4294967296) := by omega
      clear HO hS hZ
      go_wp2
      (try simp only [Exit.inBlock, Exit.then])
      refine bodyPost_ret (v := SV b n p) (show (results _ _).run _ _ = _ from ?_) rfl ⟨⟨n, p, HD.out, rfl⟩, ((hE.setCell (by simp) _).setCell (by simp) _).setCell (by simp) _⟩
      simp only [results]
      go_simp
end Go.Proofs.YtfkcdmbiihkiiaaGreatDoor
/- Rows of bytes; a chunk of digits, and a row of digits chunk by chunk: plain mathematics and memory. -/
namespace Go.Proofs.YtfkcdmbiihkiiaaGreatDoor
open Go.RowKit
set_option linter.unusedVariables false
set_option maxHeartbeats 400000

def Bv (o : List Nat) : List Value := o.map fun x => Value.int .u8 (x : Nat)
theorem Bv_len (o : List Nat) : (Bv o).length = o.length := by simp [Bv]
theorem Bv_get (o : List Nat) {j : Nat} (h : j < o.length) : (Bv o)[j]? = some (.int .u8 (lb o j : Nat)) := by unfold Bv lb; simp [h]
theorem Bv_set (o : List Nat) (i x : Nat) : Bv (o.set i x) = (Bv o).set i (.int .u8 (x : Nat)) := by simp [Bv, List.map_set]
theorem Bv_splice (o cs : List Nat) (off : Nat) : Bv (splice o off cs) = splice (Bv o) off (Bv cs) := by simp [Bv, splice]
/-- Block g is the row of bytes o, and may be written. -/
def By (T : TypeId) (w : World) (g : Nat) (o : List Nat) : Prop := w.heap[g]? = some (.cells (Bv o).toArray T (0, 0))
theorem By.lt {T : TypeId} {w : World} {g : Nat} {o : List Nat} (h : By T w g o) : g < w.heap.size := (Array.getElem?_eq_some_iff.1 h).1
theorem By.cell {T : TypeId} {w : World} {g : Nat} {o : List Nat} (h : By T w g o) {j : Nat} (hj : j < o.length) : w.cell? ⟨g, j, none⟩ = some (.int .u8 (lb o j : Nat)) := by
  rw [cell_of_row w g j _ _ _ h, List.getElem?_toArray]; exact Bv_get o hj
theorem By.frozen {T : TypeId} {w : World} {g : Nat} {o : List Nat} (h : By T w g o) (j : Nat) : w.frozen? ⟨g, j, none⟩ = false := frozen_of_row w g j _ _ h
theorem By.set_ {T : TypeId} {w : World} {g : Nat} {o : List Nat} (h : By T w g o) (j x : Nat) : By T (w.setCell ⟨g, j, none⟩ (.int .u8 (x : Nat))) g (o.set j x) := by
  have := heap_setCell_same w g j _ _ (.int .u8 (x : Nat)) h
  unfold By
  rw [this, Bv_set, List.setIfInBounds_toArray]
theorem By.other {T : TypeId} {w : World} {g q : Nat} {o : List Nat} (h : By T w g o) (hne : g ≠ q) (j : Nat) (v : Value) : By T (w.setCell ⟨q, j, none⟩ v) g o := by
  unfold By
  rw [heap_setCell_other w ⟨q, j, none⟩ g v hne]; exact h
theorem By.ext {T : TypeId} {w w' : World} {g : Nat} {o : List Nat} (h : By T w g o) (hE : Ext w w') : By T w' g o := by
  unfold By
  rw [hE.block g h.lt]; exact h
theorem By.but {T : TypeId} {w w' : World} {g q : Nat} {o : List Nat} (h : By T w g o) (hE : But q w w') (hne : g ≠ q) : By T w' g o := by
  unfold By
  rw [hE.block g h.lt (fun e => hne (by injection e))]; exact h

/-- A natural's limbs lie in no row of bytes. -/
theorem U.notBy {T : TypeId} {w : World} {v : Value} {xs : List Nat} {g : Nat} {o : List Nat} (h : U w v xs) (hB : By T w g o) : ∃ (A : Option Addr) (c : Nat), v = .slice A xs.length c ∧ (xs.length ≤ c ∧ xs.length ≤ 9223372036854775807) ∧ (∀ x ∈ xs, x < 4294967296) ∧
    (0 < xs.length → ∃ ad, A = some ad ∧ ad.block < w.heap.size ∧ ad.block ≠ g ∧ ∀ j, j < xs.length → w.cell? (ad.add j) = some (.int .u32 (lb xs j : Nat))) := by
  obtain ⟨A, c, rfl, hc, hx, hr⟩ := h
  refine ⟨A, c, rfl, hc, hx, fun h0 => ?_⟩
  obtain ⟨ad, hA, hb, hcell⟩ := hr h0
  refine ⟨ad, hA, hb, fun e => ?_, hcell⟩
  have h1 := hcell 0 h0
  rw [addr_add_zero] at h1
  have hB2 : w.heap[ad.block]? = some (.cells (Bv o).toArray T (0, 0)) := by rw [e]; exact hB
  unfold World.cell? at h1
  rw [hB2] at h1
  simp only at h1
  split at h1
  · cases h1
  · rw [List.getElem?_toArray] at h1
    unfold Bv at h1
    rw [List.getElem?_map] at h1
    cases h2 : o[ad.off]? with
    | none => rw [h2] at h1; cases h1
    | some x => rw [h2] at h1; simp at h1
theorem U.butBy {T : TypeId} {w w' : World} {v : Value} {xs : List Nat} {g : Nat} {o : List Nat} (h : U w v xs) (hB : By T w g o) (hE : But g w w') : U w' v xs := by
  obtain ⟨A, c, rfl, hc, hx, hr⟩ := h.notBy hB
  refine ⟨A, c, rfl, hc, hx, fun h0 => ?_⟩
  obtain ⟨ad, hA, hb, hne, hcell⟩ := hr h0
  exact ⟨ad, hA, Nat.lt_of_lt_of_le hb hE.size, fun j hj => (hE.cell (by rw [addr_add_block]; exact hb) (by rw [addr_add_block]; exact hne)).trans (hcell j hj)⟩
/-- A chunk from behind: the places from k on are written. -/
structure CkI (b n r0 k : Nat) (c : List Nat) (r : Nat) : Prop where
  len : c.length = 32
  at_ : ∀ j, k ≤ j → j < n → lb c j = digB (lb (bdig b r0 n) j)
  rest : r = r0 / b ^ (n - k)
theorem CkI.start (b n r0 : Nat) (c : List Nat) (h : c.length = 32) : CkI b n r0 n c r0 := ⟨h, fun j h1 h2 => by omega, by rw [Nat.sub_self, Nat.pow_zero, Nat.div_one]⟩
theorem CkI.step {b n r0 k : Nat} {c : List Nat} {r : Nat} (h : CkI b n r0 (k + 1) c r) (hk : k < n) (hn : n ≤ 32) : CkI b n r0 k (c.set k (digB (r % b))) (r / b) := by
  refine ⟨by simp [h.len], fun j h1 h2 => ?_, ?_⟩
  · rw [lb_set _ _ _ _ (by rw [h.len]; omega)]
    by_cases e : k = j
    · subst e
      rw [if_pos rfl]
      have := bdig_at b n r0 (n - (k + 1)) (by omega)
      rw [show n - 1 - (n - (k + 1)) = k by omega, ← h.rest] at this
      rw [this]
    · rw [if_neg e]; exact h.at_ j (by omega) h2
  · rw [h.rest, Nat.div_div_eq_div_mul, ← Nat.pow_succ]; congr 2; omega
theorem CkI.done {b n r0 : Nat} {c : List Nat} {r : Nat} (h : CkI b n r0 0 c r) (hn : n ≤ 32) : c.take n = (bdig b r0 n).map digB := by
  have e1 : (c.take n).length = n := by rw [List.length_take, h.len]; omega
  refine ext_lb (by rw [e1, List.length_map, bdig_len]) fun j hj => ?_
  rw [e1] at hj
  rw [lb_take hj, h.at_ j (Nat.zero_le _) hj]
  have hj2 : j < (bdig b r0 n).length := by rw [bdig_len]; exact hj
  unfold lb
  simp [hj2]

/-- Digits that lie low are told by what is low. -/
theorem bdig_mod (b a n k : Nat) (h : k ≤ n) : bdig b (a % b ^ n) k = bdig b a k := by
  obtain ⟨d, rfl⟩ : ∃ d, n = k + d := ⟨n - k, by omega⟩
  clear h
  induction k generalizing a with
  | zero => rfl
  | succ k ih =>
    rw [bdig, bdig]
    have e : k + 1 + d = (k + d) + 1 := by omega
    rw [e, Nat.pow_succ, Nat.mul_comm (b ^ (k + d)) b, Nat.mod_mul_right_div_self, ih, Nat.mod_mul_right_mod]
/-- The row, of which m digits are still to be written. -/
structure WrI (b len a0 : Nat) (pre mid post : List Nat) (m : Nat) (o : List Nat) (a : Nat) : Prop where
  le : m ≤ len
  row : o = pre ++ (mid.take m ++ (((bdig b a0 len).map digB).drop m ++ post))
  rest : a = a0 / b ^ (len - m)
theorem WrI.step {b len a0 n : Nat} {pre mid post : List Nat} {m : Nat} {o : List Nat} {a : Nat} (h : WrI b len a0 pre mid post m o a) (hb : 2 ≤ b) (hmid : mid.length = len) (ha : a0 < b ^ len) (k : Nat) (hk : min n m = k) :
    WrI b len a0 pre mid post (m - k) (splice o (pre.length + (m - k)) ((bdig b (a % b ^ n) k).map digB)) (a / b ^ n) := by
  have hle := h.le
  have hkm : k ≤ m := by omega
  refine ⟨by omega, ?_, ?_⟩
  · rw [bdig_mod b a n k (by omega)]
    have e1 : (bdig b a0 len).drop (m - k) = bdig b a k ++ (bdig b a0 len).drop m := by
      have h1 : bdig b a0 len = bdig b a m ++ bdig b (a0 % b ^ (len - m)) (len - m) := by
        have := bdig_add b a0 m (len - m)
        rw [show m + (len - m) = len by omega] at this
        rw [this, h.rest]
      have h2 : bdig b a m = bdig b (a / b ^ k) (m - k) ++ bdig b a k := by
        have := bdig_add b a (m - k) k
        rw [show m - k + k = m by omega, bdig_mod b a k k (Nat.le_refl _)] at this
        exact this
      rw [h1, List.drop_append_of_le_length (by rw [bdig_len]; omega), List.drop_left' (by rw [bdig_len]), h2, List.drop_left' (by rw [bdig_len])]
    rw [h.row, splice, ← List.map_drop, ← List.map_drop, e1, List.map_append]
    have l1 : ((bdig b a k).map digB).length = k := by rw [List.length_map, bdig_len]
    have l2 : (mid.take m).length = m := by rw [List.length_take]; omega
    rw [l1]
    have t1 : (pre ++ (mid.take m ++ (((bdig b a0 len).drop m).map digB ++ post))).take (pre.length + (m - k)) = pre ++ mid.take (m - k) := by
      rw [List.take_length_add_append, List.take_append_of_le_length (by rw [l2]; omega), List.take_take, Nat.min_eq_left (by omega)]
    have t2 : (pre ++ (mid.take m ++ (((bdig b a0 len).drop m).map digB ++ post))).drop (pre.length + (m - k) + k) = ((bdig b a0 len).drop m).map digB ++ post := by
      rw [show pre.length + (m - k) + k = pre.length + m by omega, List.drop_length_add_append, List.drop_left' l2]
    rw [t1, t2]
    simp only [List.append_assoc]
  · rw [h.rest, Nat.div_div_eq_div_mul, ← Nat.pow_add]
    rcases Nat.le_total n m with h1 | h1
    · congr 2; omega
    · have hz : a0 / b ^ (len - m + n) = 0 := Nat.div_eq_of_lt (Nat.lt_of_lt_of_le ha (Nat.pow_le_pow_right (by omega) (by omega)))
      rw [hz, show len - (m - k) = len by omega, Nat.div_eq_of_lt ha]
end Go.Proofs.YtfkcdmbiihkiiaaGreatDoor
