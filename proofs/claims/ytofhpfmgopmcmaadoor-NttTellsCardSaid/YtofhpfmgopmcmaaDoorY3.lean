/- What a transform undoes, turns, and does to sums and products. -/
import Derived.Test.YtofhpfmgopmcmaaDoorY2
namespace Go.Proofs.YtofhpfmgopmcmaaDoor

theorem dft_add (w : Int) (n : Nat) (a b : Nat → Int) (q : Nat) : dft w n (fun i => a i + b i) q = dft w n a q + dft w n b q := by
  unfold dft; rw [← sm_add]; exact sm_congr fun i _ => Int.add_mul _ _ _
theorem dft_mul (w : Int) (n : Nat) (c : Int) (a : Nat → Int) (q : Nat) : dft w n (fun i => c * a i) q = c * dft w n a q := by
  unfold dft; rw [← sm_mul]; exact sm_congr fun i _ => Int.mul_assoc _ _ _
theorem dft_eqm {p w : Int} {n : Nat} {a b : Nat → Int} {q : Nat} (h : ∀ i, i < n → Eqm p (a i) (b i)) : Eqm p (dft w n a q) (dft w n b q) := Eqm.sm fun i hi => (h i hi).mul (Eqm.refl _ _)
theorem mul_pow (a b : Int) (n : Nat) : (a * b) ^ n = a ^ n * b ^ n := by
  induction n with
  | zero => simp
  | succ n ih => rw [Int.pow_succ, Int.pow_succ, Int.pow_succ, ih]; grind
/-- There and back. -/
theorem dft_back {p w v : Int} {k : Nat} (hw : Rt p w k) (hv : Rt p v k) (hwv : Eqm p (w * v) 1) (l : Nat → Int) (t : Nat) (ht : t < 2 ^ k) :
    Eqm p (dft v (2 ^ k) (fun j => dft w (2 ^ k) l j) t) ((2 ^ k : Nat) * l t) := by
  have e1 : dft v (2 ^ k) (fun j => dft w (2 ^ k) l j) t = sm (2 ^ k) fun i => l i * sm (2 ^ k) fun j => (w ^ i * v ^ t) ^ j := by
    unfold dft
    rw [sm_congr (g := fun j => sm (2 ^ k) fun i => l i * (w ^ i * v ^ t) ^ j) (fun j _ => by
      rw [← sm_mul']; exact sm_congr fun i _ => by rw [mul_pow, ← Int.pow_mul, ← Int.pow_mul, Int.mul_assoc, Nat.mul_comm t j])]
    rw [sm_swap]
    exact sm_congr fun i _ => sm_mul _ _ _
  rw [e1]
  have hp : ∀ m, Eqm p (w ^ m * v ^ m) 1 := fun m => by rw [← mul_pow]; have := hwv.pow m; rwa [Int.one_pow] at this
  have key : ∀ i, i < 2 ^ k → Eqm p (l i * sm (2 ^ k) fun j => (w ^ i * v ^ t) ^ j) (if i = t then (2 ^ k : Nat) * l t else 0) := by
    intro i hi
    by_cases e : i = t
    · subst e
      rw [if_pos rfl, Int.mul_comm]
      refine Eqm.mul ?_ (Eqm.refl _ _)
      refine (Eqm.sm (g := fun _ => 1) fun j _ => ?_).trans (Eqm.of_eq ?_)
      · have := (hp i).pow j; rwa [Int.one_pow] at this
      · rw [sm_const, Int.mul_one]
    · rw [if_neg e]
      have h0 : Eqm p (sm (2 ^ k) fun j => (w ^ i * v ^ t) ^ j) 0 := by
        rcases Nat.lt_or_ge t i with h | h
        · have e2 : Eqm p (w ^ i * v ^ t) (w ^ (i - t)) := by
            rw [show w ^ i = w ^ (i - t) * w ^ t by rw [← Int.pow_add]; congr 1; omega, Int.mul_assoc]
            have := (Eqm.refl p (w ^ (i - t))).mul (hp t); rwa [Int.mul_one] at this
          refine (Eqm.sm fun j _ => e2.pow j).trans (geo p w k (i - t) hw ?_)
          intro hd
          have := Nat.le_of_dvd (by omega) hd
          omega
        · have e2 : Eqm p (w ^ i * v ^ t) (v ^ (t - i)) := by
            rw [show v ^ t = v ^ i * v ^ (t - i) by rw [← Int.pow_add]; congr 1; omega, ← Int.mul_assoc]
            have := (hp i).mul (Eqm.refl p (v ^ (t - i))); rwa [Int.one_mul] at this
          refine (Eqm.sm fun j _ => e2.pow j).trans (geo p v k (t - i) hv ?_)
          intro hd
          have := Nat.le_of_dvd (by omega) hd
          omega
      have := (Eqm.refl p (l i)).mul h0
      rwa [Int.mul_zero] at this
  refine (Eqm.sm key).trans (Eqm.of_eq ?_)
  rw [sm_pick _ _ t ht (fun i _ hne => by rw [if_neg hne]), if_pos rfl]
/-- Turned by one place. -/
theorem dft_turn {p w : Int} {n : Nat} (hw : Eqm p (w ^ (n + 1)) 1) (l m : Nat → Int) (h0 : m 0 = l n) (h1 : ∀ i, i < n → m (i + 1) = l i) (q : Nat) :
    Eqm p (dft w (n + 1) m q) (dft w (n + 1) l q * w ^ q) := by
  have e1 : dft w (n + 1) m q = l n + sm n fun i => l i * w ^ ((i + 1) * q) := by
    unfold dft
    rw [show n + 1 = 1 + n by omega, sm_split, sm_one, h0]
    simp only [Nat.zero_mul, Int.pow_zero, Int.mul_one]
    congr 1
    exact sm_congr fun i hi => by rw [show 1 + i = i + 1 by omega, h1 i hi]
  have e2 : dft w (n + 1) l q * w ^ q = (sm n fun i => l i * w ^ ((i + 1) * q)) + l n * w ^ ((n + 1) * q) := by
    unfold dft
    rw [sm_succ, Int.add_mul, ← sm_mul']
    congr 1
    · exact sm_congr fun i _ => by rw [Int.mul_assoc, ← Int.pow_add, Nat.add_mul, Nat.one_mul]
    · rw [Int.mul_assoc, ← Int.pow_add, Nat.add_mul, Nat.one_mul]
  rw [e1, e2, Int.add_comm]
  refine (Eqm.refl p _).add ?_
  have := (Eqm.refl p (l n)).mul (pow_even hw q)
  rw [Int.mul_one] at this
  exact this.symm
/-- The product of transforms, all around. -/
theorem dft_around {p w : Int} {n : Nat} (hw : Eqm p (w ^ n) 1) (a b : Nat → Int) (q : Nat) :
    Eqm p (dft w n a q * dft w n b q) (dft w n (fun k => sm n fun t => a t * b ((k + n - t) % n)) q) := by
  have e1 : dft w n a q * dft w n b q = sm n fun t => a t * w ^ (t * q) * dft w n b q := by
    rw [sm_mul']; rfl
  have e2 : dft w n (fun k => sm n fun t => a t * b ((k + n - t) % n)) q = sm n fun t => a t * w ^ (t * q) * 0 + a t * sm n fun k => b ((k + n - t) % n) * w ^ (k * q) := by
    unfold dft
    rw [sm_congr (g := fun k => sm n fun t => a t * (b ((k + n - t) % n) * w ^ (k * q))) (fun k _ => by rw [← sm_mul']; exact sm_congr fun t _ => Int.mul_assoc _ _ _)]
    rw [sm_swap]
    exact sm_congr fun t _ => by rw [sm_mul, Int.mul_zero, Int.zero_add]
  rw [e1, e2]
  refine Eqm.sm fun t ht => ?_
  rw [Int.mul_zero, Int.zero_add, Int.mul_assoc]
  refine (Eqm.refl p (a t)).mul ?_
  -- the places from t on stand first
  have hs : sm n (fun k => b ((k + n - t) % n) * w ^ (k * q)) = sm t (fun k => b (k + (n - t)) * w ^ (k * q)) + sm (n - t) (fun i => b i * w ^ ((t + i) * q)) := by
    have hn : n = t + (n - t) := by omega
    conv => lhs; rw [hn]
    rw [sm_split]
    rw [← hn]
    congr 1
    · exact sm_congr fun k hk => by rw [show k + n - t = k + (n - t) by omega, Nat.mod_eq_of_lt (by omega)]
    · exact sm_congr fun i hi => by rw [show t + i + n - t = i + n by omega, Nat.add_mod_right, Nat.mod_eq_of_lt (by omega)]
  have hd : w ^ (t * q) * dft w n b q = sm (n - t) (fun i => b i * w ^ ((t + i) * q)) + sm t (fun k => b (n - t + k) * w ^ ((n + k) * q)) := by
    unfold dft
    rw [← sm_mul]
    have hn : n = (n - t) + t := by omega
    conv => lhs; rw [hn]
    rw [sm_split]
    congr 1
    · exact sm_congr fun i hi => by
        rw [show w ^ (t * q) * (b i * w ^ (i * q)) = b i * (w ^ (t * q) * w ^ (i * q)) by grind, ← Int.pow_add, Nat.add_mul]
    · exact sm_congr fun i hi => by
        rw [show w ^ (t * q) * (b (n - t + i) * w ^ ((n - t + i) * q)) = b (n - t + i) * (w ^ (t * q) * w ^ ((n - t + i) * q)) by grind, ← Int.pow_add, ← Nat.add_mul, show t + (n - t + i) = n + i by omega]
  rw [hs, hd, Int.add_comm]
  refine Eqm.add (Eqm.sm fun k hk => ?_) (Eqm.refl _ _)
  rw [Nat.add_comm k]
  refine (Eqm.refl p _).mul ?_
  rw [Nat.add_mul, Nat.add_comm]
  exact pow_mul_one hw _ _
end Go.Proofs.YtofhpfmgopmcmaaDoor
