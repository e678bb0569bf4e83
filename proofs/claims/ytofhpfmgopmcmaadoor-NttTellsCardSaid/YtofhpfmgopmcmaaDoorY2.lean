/- Transforms by halves, downward and upward, and what they undo. -/
import Derived.Test.YtofhpfmgopmcmaaDoorY1
namespace Go.Proofs.YtofhpfmgopmcmaaDoor

/-- w is a root of 1 of the order 2^k modulo p. -/
def Rt (p w : Int) (k : Nat) : Prop := Eqm p (w ^ 2 ^ k) 1 ∧ (0 < k → Eqm p (w ^ 2 ^ (k - 1)) (-1))

/-- What stands in place q of the transform of l. -/
def dft (w : Int) (n : Nat) (l : Nat → Int) (q : Nat) : Int := sm n fun i => l i * w ^ (i * q)

/-- Blocks of 2^s numbers each, on the way down. -/
def Down (p w : Int) (k s : Nat) (l o : Nat → Int) : Prop :=
  s ≤ k ∧ ∀ b t, b < 2 ^ (k - s) → t < 2 ^ s → Eqm p (sm (2 ^ s) fun j => o (b * 2 ^ s + j) * w ^ (2 ^ (k - s) * (j * t))) (dft w (2 ^ k) l (rev (k - s) b + 2 ^ (k - s) * t))

theorem Down.start (p w : Int) (k : Nat) (l : Nat → Int) : Down p w k k l l := by
  refine ⟨Nat.le_refl _, fun b t hb ht => Eqm.of_eq ?_⟩
  rw [Nat.sub_self] at hb ⊢
  obtain rfl : b = 0 := by simpa using hb
  simp only [rev, dft, Nat.pow_zero, Nat.one_mul, Nat.zero_add, Nat.zero_mul]

theorem pow_mul_one {p w : Int} {m : Nat} (h : Eqm p (w ^ m) 1) (x t : Nat) : Eqm p (w ^ (x + m * t)) (w ^ x) := by
  have := (Eqm.refl p (w ^ x)).mul (pow_even h t)
  rwa [Int.mul_one, ← Int.pow_add] at this

theorem Down.step {p w : Int} {k s : Nat} {l o o' : Nat → Int} (hr : Rt p w k) (h : Down p w k (s + 1) l o)
    (h0 : ∀ b j, b < 2 ^ (k - (s + 1)) → j < 2 ^ s → Eqm p (o' (b * 2 ^ (s + 1) + j)) (o (b * 2 ^ (s + 1) + j) + o (b * 2 ^ (s + 1) + 2 ^ s + j)))
    (h1 : ∀ b j, b < 2 ^ (k - (s + 1)) → j < 2 ^ s → Eqm p (o' (b * 2 ^ (s + 1) + 2 ^ s + j)) ((o (b * 2 ^ (s + 1) + j) - o (b * 2 ^ (s + 1) + 2 ^ s + j)) * w ^ (2 ^ (k - (s + 1)) * j))) :
    Down p w k s l o' := by
  obtain ⟨hsk, hd⟩ := h
  have ek : k - s = k - (s + 1) + 1 := by omega
  refine ⟨by omega, fun b t hb ht => ?_⟩
  rw [ek] at hb ⊢
  have hm : 2 ^ (k - (s + 1) + 1) = 2 * 2 ^ (k - (s + 1)) := Nat.pow_succ'
  have hkk : 2 ^ (k - (s + 1)) * 2 ^ s * 2 = 2 ^ k := by rw [← Nat.pow_add, ← Nat.pow_succ]; congr 1; omega
  have hone : Eqm p (w ^ (2 ^ (k - (s + 1)) * 2 ^ s * 2)) 1 := by rw [hkk]; exact hr.1
  have hneg : Eqm p (w ^ (2 ^ (k - (s + 1)) * 2 ^ s)) (-1) := by
    have := hr.2 (by omega)
    rwa [show 2 ^ (k - 1) = 2 ^ (k - (s + 1)) * 2 ^ s by rw [← Nat.pow_add]; congr 1; omega] at this
  have hs2 : 2 ^ (s + 1) = 2 * 2 ^ s := Nat.pow_succ'
  generalize hM : 2 ^ (k - (s + 1)) = M at *
  rw [hm] at hb ⊢
  rcases (show b = 2 * (b / 2) ∨ b = 2 * (b / 2) + 1 by omega) with e | e
  · generalize b / 2 = c at e
    subst e
    have g := hd c (2 * t) (by omega) (by omega)
    rw [hs2, sm_two] at g
    rw [rev_even, show 2 * M * t = M * (2 * t) by rw [Nat.mul_comm 2 M, Nat.mul_assoc]]
    refine Eqm.trans (Eqm.sm fun j hj => ?_) g
    have a := h0 c j (by omega) hj
    rw [hs2] at a
    rw [show 2 * c * 2 ^ s + j = c * (2 * 2 ^ s) + j by rw [Nat.mul_comm 2 c, Nat.mul_assoc]]
    refine (a.mul (Eqm.refl p _)).trans ?_
    rw [Int.add_mul]
    refine Eqm.add (Eqm.of_eq (by congr 2; grind)) ?_
    rw [← Nat.add_assoc]
    refine (Eqm.refl p _).mul ?_
    have := (pow_mul_one hone (M * (j * (2 * t))) t).symm
    rw [show 2 * M * (j * t) = M * (j * (2 * t)) by grind]
    rwa [show M * (j * (2 * t)) + M * 2 ^ s * 2 * t = M * ((2 ^ s + j) * (2 * t)) by grind] at this
  · generalize b / 2 = c at e
    subst e
    have g := hd c (2 * t + 1) (by omega) (by omega)
    rw [hs2, sm_two] at g
    rw [rev_odd, hM, show rev (k - (s + 1)) c + M + 2 * M * t = rev (k - (s + 1)) c + M * (2 * t + 1) by grind]
    refine Eqm.trans (Eqm.sm fun j hj => ?_) g
    have a := h1 c j (by omega) hj
    rw [hs2] at a
    rw [show (2 * c + 1) * 2 ^ s + j = c * (2 * 2 ^ s) + 2 ^ s + j by grind]
    refine (a.mul (Eqm.refl p _)).trans ?_
    rw [Int.mul_assoc, ← Int.pow_add, Int.sub_mul, Int.sub_eq_add_neg]
    refine Eqm.add (Eqm.of_eq (by congr 2; grind)) ?_
    rw [← Nat.add_assoc]
    have e1 : Eqm p (w ^ (M * ((2 ^ s + j) * (2 * t + 1)))) (-(w ^ (M * j + 2 * M * (j * t)))) := by
      rw [show M * ((2 ^ s + j) * (2 * t + 1)) = M * 2 ^ s + (M * j + 2 * M * (j * t)) + M * 2 ^ s * 2 * t by grind]
      refine (pow_mul_one hone _ t).trans ?_
      rw [Int.pow_add]
      have := hneg.mul (Eqm.refl p (w ^ (M * j + 2 * M * (j * t))))
      rwa [Int.neg_mul, Int.one_mul] at this
    have := (Eqm.refl p (o (c * (2 * 2 ^ s) + 2 ^ s + j))).mul e1
    rw [Int.mul_neg] at this
    exact this.symm

theorem Down.done {p w : Int} {k : Nat} {l o : Nat → Int} (h : Down p w k 0 l o) (b : Nat) (hb : b < 2 ^ k) : Eqm p (o b) (dft w (2 ^ k) l (rev k b)) := by
  have := h.2 b 0 (by simpa using hb) (by simp)
  simpa [sm_one] using this

/-- Blocks of 2^s numbers each, on the way up. -/
def Up (p v : Int) (k s : Nat) (F o : Nat → Int) : Prop :=
  s ≤ k ∧ ∀ b j, b < 2 ^ (k - s) → j < 2 ^ s → Eqm p (o (b * 2 ^ s + j)) (sm (2 ^ s) fun t => F (b * 2 ^ s + t) * v ^ (2 ^ (k - s) * (j * rev s t)))

theorem Up.start (p v : Int) (k : Nat) (F : Nat → Int) : Up p v k 0 F F := by
  refine ⟨Nat.zero_le _, fun b j hb hj => Eqm.of_eq ?_⟩
  obtain rfl : j = 0 := by simpa using hj
  simp [sm_one]

theorem Up.step {p v : Int} {k s : Nat} {F o o' : Nat → Int} (hr : Rt p v k) (hsk : s + 1 ≤ k) (h : Up p v k s F o)
    (h0 : ∀ b j, b < 2 ^ (k - (s + 1)) → j < 2 ^ s → Eqm p (o' (b * 2 ^ (s + 1) + j)) (o (b * 2 ^ (s + 1) + j) + o (b * 2 ^ (s + 1) + 2 ^ s + j) * v ^ (2 ^ (k - (s + 1)) * j)))
    (h1 : ∀ b j, b < 2 ^ (k - (s + 1)) → j < 2 ^ s → Eqm p (o' (b * 2 ^ (s + 1) + 2 ^ s + j)) (o (b * 2 ^ (s + 1) + j) - o (b * 2 ^ (s + 1) + 2 ^ s + j) * v ^ (2 ^ (k - (s + 1)) * j))) :
    Up p v k (s + 1) F o' := by
  obtain ⟨_, hd⟩ := h
  have ek : k - s = k - (s + 1) + 1 := by omega
  refine ⟨by omega, fun b j hb hj => ?_⟩
  rw [ek] at hd
  have hm : 2 ^ (k - (s + 1) + 1) = 2 * 2 ^ (k - (s + 1)) := Nat.pow_succ'
  have hkk : 2 ^ (k - (s + 1)) * 2 ^ s * 2 = 2 ^ k := by rw [← Nat.pow_add, ← Nat.pow_succ]; congr 1; omega
  have hone : Eqm p (v ^ (2 ^ (k - (s + 1)) * 2 ^ s * 2)) 1 := by rw [hkk]; exact hr.1
  have hneg : Eqm p (v ^ (2 ^ (k - (s + 1)) * 2 ^ s)) (-1) := by
    have := hr.2 (by omega)
    rwa [show 2 ^ (k - 1) = 2 ^ (k - (s + 1)) * 2 ^ s by rw [← Nat.pow_add]; congr 1; omega] at this
  have hs2 : 2 ^ (s + 1) = 2 * 2 ^ s := Nat.pow_succ'
  generalize hM : 2 ^ (k - (s + 1)) = M at *
  rw [hm] at hd
  rw [hs2, sm_two]
  have low : ∀ i, i < 2 ^ s → Eqm p (o (b * (2 * 2 ^ s) + i)) (sm (2 ^ s) fun t => F (b * (2 * 2 ^ s) + t) * v ^ (2 * M * (i * rev s t))) := fun i hi => by
    have := hd (2 * b) i (by omega) hi
    rwa [show 2 * b * 2 ^ s = b * (2 * 2 ^ s) by grind] at this
  have high : ∀ i, i < 2 ^ s → Eqm p (o (b * (2 * 2 ^ s) + 2 ^ s + i)) (sm (2 ^ s) fun t => F (b * (2 * 2 ^ s) + 2 ^ s + t) * v ^ (2 * M * (i * rev s t))) := fun i hi => by
    have := hd (2 * b + 1) i (by omega) hi
    rwa [show (2 * b + 1) * 2 ^ s = b * (2 * 2 ^ s) + 2 ^ s by grind] at this
  rw [hs2] at h0 h1 hj
  by_cases hj2 : j < 2 ^ s
  · refine (h0 b j hb hj2).trans ?_
    refine (Eqm.add (low j hj2) ((high j hj2).mul (Eqm.refl p _))).trans (Eqm.of_eq ?_)
    rw [← sm_mul', ← sm_add]
    refine sm_congr fun t ht => ?_
    rw [rev_low _ _ 0 ht, rev_high _ _ ht, Int.mul_assoc, ← Int.pow_add]
    congr 1
    · congr 2; grind
    · rw [Nat.add_assoc]; congr 2; grind
  · obtain ⟨i, rfl⟩ : ∃ i, j = 2 ^ s + i := ⟨j - 2 ^ s, by omega⟩
    have hi : i < 2 ^ s := by omega
    have := (h1 b i hb hi).trans (Eqm.sub (low i hi) ((high i hi).mul (Eqm.refl p _)))
    rw [← Nat.add_assoc]
    refine this.trans ?_
    rw [Int.sub_eq_add_neg, ← Int.mul_neg, ← sm_mul', ← sm_add]
    refine Eqm.sm fun t ht => ?_
    rw [rev_low _ _ 0 ht, rev_high _ _ ht, Int.mul_assoc]
    refine Eqm.add ((Eqm.refl p _).mul ?_) ?_
    · have := (pow_mul_one hone (2 * M * (i * rev s t)) (rev s t)).symm
      rwa [show 2 * M * (i * rev s t) + M * 2 ^ s * 2 * rev s t = M * ((2 ^ s + i) * (2 * rev s t)) by grind] at this
    · rw [← Nat.add_assoc]
      refine (Eqm.refl p _).mul ?_
      rw [show M * ((2 ^ s + i) * (2 * rev s t + 1)) = M * 2 ^ s + (2 * M * (i * rev s t) + M * i) + M * 2 ^ s * 2 * rev s t by grind]
      refine Eqm.trans ?_ (pow_mul_one hone _ _).symm
      rw [Int.pow_add v (M * 2 ^ s)]
      have := (hneg.mul (Eqm.refl p (v ^ (2 * M * (i * rev s t) + M * i)))).symm
      rw [Int.neg_mul, Int.one_mul, Int.pow_add] at this
      rw [Int.mul_neg]
      rw [Int.pow_add]
      exact this

theorem Up.done {p v : Int} {k : Nat} {F o : Nat → Int} (h : Up p v k k F o) (j : Nat) (hj : j < 2 ^ k) : Eqm p (o j) (sm (2 ^ k) fun t => F t * v ^ (j * rev k t)) := by
  have := h.2 0 j (by simp) hj
  simpa using this

/-- Powers of a root of 1 are 0 together, but if it is 1 itself. -/
theorem geo (p w : Int) (k e : Nat) (hr : Rt p w k) (he : ¬ 2 ^ k ∣ e) : Eqm p (sm (2 ^ k) fun q => (w ^ e) ^ q) 0 := by
  induction k generalizing w e with
  | zero => exact absurd (Nat.one_dvd _) he
  | succ k ih =>
    have e1 : sm (2 ^ (k + 1)) (fun q => (w ^ e) ^ q) = (1 + (w ^ e) ^ 2 ^ k) * sm (2 ^ k) (fun q => (w ^ e) ^ q) := by
      rw [Nat.pow_succ', sm_two, ← sm_mul]
      exact sm_congr fun q _ => by rw [Int.pow_add (w ^ e)]; grind
    rw [e1]
    have hn := hr.2 (by omega)
    rw [Nat.add_sub_cancel] at hn
    obtain ⟨c, hc⟩ : ∃ c, e = 2 * c ∨ e = 2 * c + 1 := ⟨e / 2, by omega⟩
    rcases hc with rfl | rfl
    · have e2 : ∀ q, (w ^ (2 * c)) ^ q = ((w ^ 2) ^ c) ^ q := fun q => by rw [Int.pow_mul]
      simp only [e2]
      have := ih (w ^ 2) c ⟨by rw [← Int.pow_mul, ← Nat.pow_succ']; exact hr.1, fun h0 => by rw [← Int.pow_mul, ← Nat.pow_succ']; rwa [show (k - 1).succ = k by omega]⟩ (fun ⟨d, hd⟩ => he ⟨d, by rw [hd, Nat.pow_succ']; grind⟩)
      have := (Eqm.refl p (1 + ((w ^ 2) ^ c) ^ 2 ^ k)).mul this
      rwa [Int.mul_zero] at this
    · have e2 : Eqm p ((w ^ (2 * c + 1)) ^ 2 ^ k) (-1) := by
        rw [← Int.pow_mul, Nat.mul_comm, Int.pow_mul]
        refine (hn.pow _).trans (Eqm.of_eq ?_)
        rw [Int.pow_succ, Int.pow_mul, show ((-1 : Int)) ^ 2 = 1 by decide, Int.one_pow]; rfl
      have := ((Eqm.refl p 1).add e2).mul (Eqm.refl p (sm (2 ^ k) fun q => (w ^ (2 * c + 1)) ^ q))
      rwa [show (1 + -1 : Int) = 0 by decide, Int.zero_mul] at this
end Go.Proofs.YtofhpfmgopmcmaaDoor
