/- Sums and congruences, and what a transform of a power of 2 of numbers comes to: plain integers. -/
namespace Go.Proofs.YtofhpfmgopmcmaaDoor

/-- The sum of the first n. -/
def sm (n : Nat) (f : Nat → Int) : Int := match n with
  | 0 => 0
  | n + 1 => sm n f + f n
theorem sm_zero (f : Nat → Int) : sm 0 f = 0 := rfl
theorem sm_succ (n : Nat) (f : Nat → Int) : sm (n + 1) f = sm n f + f n := rfl
theorem sm_one (f : Nat → Int) : sm 1 f = f 0 := by rw [sm_succ, sm_zero]; omega
theorem sm_congr {n : Nat} {f g : Nat → Int} (h : ∀ i, i < n → f i = g i) : sm n f = sm n g := by
  induction n with
  | zero => rfl
  | succ n ih => rw [sm_succ, sm_succ, ih fun i hi => h i (by omega), h n (by omega)]
theorem sm_add (n : Nat) (f g : Nat → Int) : sm n (fun i => f i + g i) = sm n f + sm n g := by
  induction n with
  | zero => rfl
  | succ n ih => simp only [sm_succ, ih]; omega
theorem sm_mul (n : Nat) (c : Int) (f : Nat → Int) : sm n (fun i => c * f i) = c * sm n f := by
  induction n with
  | zero => simp [sm_zero]
  | succ n ih => simp only [sm_succ, ih]; rw [Int.mul_add]
theorem sm_mul' (n : Nat) (c : Int) (f : Nat → Int) : sm n (fun i => f i * c) = sm n f * c := by
  rw [Int.mul_comm, ← sm_mul]; exact sm_congr fun i _ => Int.mul_comm _ _
theorem sm_nought (n : Nat) : sm n (fun _ => 0) = 0 := by
  induction n with
  | zero => rfl
  | succ n ih => rw [sm_succ, ih]; rfl
theorem sm_split (m n : Nat) (f : Nat → Int) : sm (m + n) f = sm m f + sm n (fun i => f (m + i)) := by
  induction n with
  | zero => rw [Nat.add_zero, sm_zero]; omega
  | succ n ih => rw [← Nat.add_assoc, sm_succ, sm_succ, ih]; omega
theorem sm_two (h : Nat) (f : Nat → Int) : sm (2 * h) f = sm h (fun i => f i + f (h + i)) := by
  rw [show 2 * h = h + h by omega, sm_split, sm_add]
theorem sm_pairs (h : Nat) (f : Nat → Int) : sm (2 * h) f = sm h (fun i => f (2 * i) + f (2 * i + 1)) := by
  induction h with
  | zero => rfl
  | succ h ih => rw [show 2 * (h + 1) = 2 * h + 1 + 1 by omega, sm_succ, sm_succ, sm_succ, ih]; omega
theorem sm_swap (m n : Nat) (f : Nat → Nat → Int) : sm m (fun i => sm n (fun j => f i j)) = sm n (fun j => sm m (fun i => f i j)) := by
  induction m with
  | zero => simp only [sm_zero, sm_nought]
  | succ m ih => simp only [sm_succ, ih, sm_add]
theorem sm_const (n : Nat) (c : Int) : sm n (fun _ => c) = n * c := by
  induction n with
  | zero => simp [sm_zero]
  | succ n ih => rw [sm_succ, ih]; push_cast; rw [Int.add_mul]; omega
/-- Of one place alone something stands. -/
theorem sm_pick (n : Nat) (f : Nat → Int) (k : Nat) (hk : k < n) (h : ∀ i, i < n → i ≠ k → f i = 0) : sm n f = f k := by
  induction n with
  | zero => omega
  | succ n ih =>
    rw [sm_succ]
    by_cases e : k = n
    · subst e
      have : sm k f = 0 := by rw [sm_congr (g := fun _ => 0) (fun i hi => h i (by omega) (by omega)), sm_nought]
      omega
    · rw [ih (by omega) (fun i hi => h i (by omega)), h n (by omega) (by omega)]; omega

/-- Alike modulo p. -/
def Eqm (p a b : Int) : Prop := ∃ c, a = b + p * c
theorem Eqm.refl (p a : Int) : Eqm p a a := ⟨0, by simp⟩
theorem Eqm.of_eq {p a b : Int} (h : a = b) : Eqm p a b := h ▸ Eqm.refl p a
theorem Eqm.symm {p a b : Int} : Eqm p a b → Eqm p b a := fun ⟨c, h⟩ => ⟨-c, by grind⟩
theorem Eqm.trans {p a b c : Int} : Eqm p a b → Eqm p b c → Eqm p a c := fun ⟨x, h⟩ ⟨y, g⟩ => ⟨x + y, by grind⟩
theorem Eqm.add {p a b c d : Int} : Eqm p a b → Eqm p c d → Eqm p (a + c) (b + d) := fun ⟨x, h⟩ ⟨y, g⟩ => ⟨x + y, by grind⟩
theorem Eqm.sub {p a b c d : Int} : Eqm p a b → Eqm p c d → Eqm p (a - c) (b - d) := fun ⟨x, h⟩ ⟨y, g⟩ => ⟨x - y, by grind⟩
theorem Eqm.mul {p a b c d : Int} : Eqm p a b → Eqm p c d → Eqm p (a * c) (b * d) := fun ⟨x, h⟩ ⟨y, g⟩ => ⟨b * y + x * d + p * x * y, by grind⟩
theorem Eqm.pow {p a b : Int} (h : Eqm p a b) (n : Nat) : Eqm p (a ^ n) (b ^ n) := by
  induction n with
  | zero => rw [Int.pow_zero, Int.pow_zero]; exact Eqm.refl _ _
  | succ n ih => rw [Int.pow_succ, Int.pow_succ]; exact ih.mul h
theorem Eqm.sm {p : Int} {n : Nat} {f g : Nat → Int} (h : ∀ i, i < n → Eqm p (f i) (g i)) : Eqm p (sm n f) (sm n g) := by
  induction n with
  | zero => exact Eqm.refl _ _
  | succ n ih => rw [sm_succ, sm_succ]; exact (ih fun i hi => h i (by omega)).add (h n (by omega))
theorem Eqm.mod (p a : Int) : Eqm p (a % p) a := ⟨-(a / p), by have := Int.emod_add_mul_ediv a p; grind⟩
theorem Eqm.emod {p a b : Int} (h : Eqm p a b) : a % p = b % p := by obtain ⟨c, rfl⟩ := h; rw [Int.add_mul_emod_self_left]
theorem Eqm.of_emod {p a b : Int} (h : a % p = b % p) : Eqm p a b := ((Eqm.mod p a).symm.trans (Eqm.of_eq h)).trans (Eqm.mod p b)
/-- Two naturals below p that are alike are the same. -/
theorem Eqm.eq {p a b : Nat} (h : Eqm (p : Int) (a : Int) (b : Int)) (ha : a < p) (hb : b < p) : a = b := by
  have := h.emod
  rw [Int.emod_eq_of_lt (by omega) (by omega), Int.emod_eq_of_lt (by omega) (by omega)] at this
  omega
theorem Eqm.nat_mod (p a : Nat) : Eqm (p : Int) ((a % p : Nat) : Int) (a : Int) := by
  rw [Int.natCast_emod]; exact Eqm.mod _ _
theorem Eqm.nat_eq {p a b : Nat} (h : Eqm (p : Int) (a : Int) (b : Int)) : a % p = b % p := by
  have := h.emod
  omega
/-- What is alike times a number that has an inverse is alike. -/
theorem Eqm.cancel {p a b u v : Int} (hu : Eqm p (u * v) 1) (h : Eqm p (a * u) (b * u)) : Eqm p a b := by
  have h1 : Eqm p (a * u * v) (b * u * v) := h.mul (Eqm.refl _ v)
  have h2 : Eqm p (a * u * v) a := by have := (Eqm.refl p a).mul hu; rw [Int.mul_one, ← Int.mul_assoc] at this; exact this
  have h3 : Eqm p (b * u * v) b := by have := (Eqm.refl p b).mul hu; rw [Int.mul_one, ← Int.mul_assoc] at this; exact this
  exact h2.symm.trans (h1.trans h3)

/-- The lowest s bits of b, turned round. -/
def rev : Nat → Nat → Nat
  | 0, _ => 0
  | s + 1, b => rev s (b / 2) + b % 2 * 2 ^ s
theorem rev_lt (s b : Nat) : rev s b < 2 ^ s := by
  induction s generalizing b with
  | zero => simp [rev]
  | succ s ih => have := ih (b / 2); simp only [rev, Nat.pow_succ]; have : b % 2 < 2 := Nat.mod_lt _ (by decide); rcases (show b % 2 = 0 ∨ b % 2 = 1 by omega) with e | e <;> rw [e] <;> omega
/-- The other way to say it: the bit ahead comes to be the lowest one. -/
theorem rev_succ (s b : Nat) : rev (s + 1) b = 2 * rev s b + b / 2 ^ s % 2 := by
  induction s generalizing b with
  | zero => simp [rev]
  | succ s ih =>
    rw [rev, ih (b / 2)]
    show _ = 2 * (rev s (b / 2) + b % 2 * 2 ^ s) + _
    rw [Nat.div_div_eq_div_mul, ← Nat.pow_succ', Nat.pow_succ]
    generalize b / (2 ^ s * 2) % 2 = x
    rcases (show b % 2 = 0 ∨ b % 2 = 1 by omega) with e | e <;> rw [e] <;> omega
theorem rev_low (s b _h : Nat) (hb : b < 2 ^ s) : rev (s + 1) b = 2 * rev s b := by
  rw [rev_succ, Nat.div_eq_of_lt hb]; omega
theorem rev_mod (s b c : Nat) : rev s (b + 2 ^ s * c) = rev s b := by
  induction s generalizing b c with
  | zero => rfl
  | succ s ih =>
    have e1 : (b + 2 ^ (s + 1) * c) / 2 = b / 2 + 2 ^ s * c := by rw [Nat.pow_succ', Nat.mul_assoc]; omega
    have e2 : (b + 2 ^ (s + 1) * c) % 2 = b % 2 := by rw [Nat.pow_succ', Nat.mul_assoc]; omega
    rw [rev, rev, e1, e2, ih]
theorem rev_high (s b : Nat) (hb : b < 2 ^ s) : rev (s + 1) (2 ^ s + b) = 2 * rev s b + 1 := by
  rw [rev_succ, show 2 ^ s + b = b + 2 ^ s * 1 by omega, rev_mod, Nat.add_mul_div_left _ _ (Nat.two_pow_pos s), Nat.div_eq_of_lt hb]
theorem rev_even (s b : Nat) : rev (s + 1) (2 * b) = rev s b := by
  rw [rev, show 2 * b / 2 = b by omega, show 2 * b % 2 = 0 by omega]; omega
theorem rev_odd (s b : Nat) : rev (s + 1) (2 * b + 1) = rev s b + 2 ^ s := by
  rw [rev, show (2 * b + 1) / 2 = b by omega, show (2 * b + 1) % 2 = 1 by omega]; omega
theorem rev_rev (s b : Nat) (h : b < 2 ^ s) : rev s (rev s b) = b := by
  induction s generalizing b with
  | zero => simp [rev] at *; omega
  | succ s ih =>
    rw [Nat.pow_succ] at h
    rcases (show b = 2 * (b / 2) ∨ b = 2 * (b / 2) + 1 by omega) with e | e
    · rw [e, rev_even, rev_low _ _ 0 (rev_lt _ _), ih _ (by omega)]
    · rw [e, rev_odd, Nat.add_comm (rev s (b / 2)), rev_high _ _ (rev_lt _ _), ih _ (by omega)]
/-- A sum over turned places. -/
theorem sm_rev (s : Nat) (g : Nat → Int) : sm (2 ^ s) (fun t => g (rev s t)) = sm (2 ^ s) g := by
  induction s generalizing g with
  | zero => simp [sm_one, rev]
  | succ s ih =>
    rw [Nat.pow_succ', sm_two, sm_pairs, ← ih fun q => g (2 * q) + g (2 * q + 1)]
    exact sm_congr fun t ht => by rw [rev_low _ _ 0 ht, rev_high _ _ ht]

theorem pow_even {p u : Int} {n : Nat} (h : Eqm p (u ^ n) 1) (t : Nat) : Eqm p (u ^ (n * t)) 1 := by
  rw [Int.pow_mul]; have := h.pow t; rwa [Int.one_pow] at this
end Go.Proofs.YtofhpfmgopmcmaaDoor
