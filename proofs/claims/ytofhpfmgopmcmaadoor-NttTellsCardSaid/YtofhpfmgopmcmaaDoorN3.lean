/- Sums of products: their value, and the other way round. -/
import Derived.Test.YtofhpfmgopmcmaaDoorN2
namespace Go.Proofs.YtofhpfmgopmcmaaDoor
open Go.RowKit
set_option linter.unusedVariables false
set_option maxHeartbeats 400000

theorem sm_more (k r : Nat) (f : Nat → Int) (h : ∀ i, f (k + i) = 0) : sm (k + r) f = sm k f := by
  rw [sm_split, sm_congr (g := fun _ => 0) (fun i _ => h i), sm_nought, Int.add_zero]
theorem sm_turn (n : Nat) (f : Nat → Int) : sm n f = sm n fun t => f (n - 1 - t) := by
  induction n generalizing f with
  | zero => rfl
  | succ n ih =>
    rw [sm_succ, Nat.add_comm n 1, sm_split, sm_one, ih f]
    rw [Int.add_comm]
    congr 1
    · exact congrArg f (by omega)
    · exact sm_congr fun t _ => congrArg f (by omega)
theorem cv_whole (a b : List Nat) (m : Nat) : ((cv a b a.length m : Nat) : Int) = sm (m + 1) fun t => seq a t * seq b (m - t) := by
  rw [cv_sm]
  have h1 := sm_more a.length (m + 1) (fun t => if t ≤ m then seq a t * seq b (m - t) else 0) (fun i => by
    have : seq a (a.length + i) = 0 := by unfold seq; rw [lb_past a _ (by omega)]; rfl
    simp only [this, Int.zero_mul, ite_self])
  have h2 := sm_more (m + 1) a.length (fun t => if t ≤ m then seq a t * seq b (m - t) else 0) (fun i => if_neg (by omega))
  rw [← h1, Nat.add_comm, h2]
  exact sm_congr fun t ht => if_pos (by omega)
theorem cv_comm (a b : List Nat) (m : Nat) : cv a b a.length m = cv b a b.length m := by
  have h : ((cv a b a.length m : Nat) : Int) = ((cv b a b.length m : Nat) : Int) := by
    rw [cv_whole, cv_whole, sm_turn]
    refine sm_congr fun t ht => ?_
    rw [show m + 1 - 1 - t = m - t by omega, show m - (m - t) = t by omega, Int.mul_comm]
  omega
theorem cvs_comm (a b : List Nat) : cvs a b = cvs b a := by
  rcases Nat.eq_zero_or_pos a.length with h | h
  · rw [cvs_nil a b (.inl h), cvs_nil b a (.inr h)]
  · rcases Nat.eq_zero_or_pos b.length with h2 | h2
    · rw [cvs_nil a b (.inr h2), cvs_nil b a (.inl h2)]
    · rw [cvs_pos a b h h2, cvs_pos b a h2 h]
      refine ext_lb (by rw [conv_len, conv_len]; omega) fun m hm => ?_
      rw [conv_len] at hm
      rw [lb_conv a b m hm, lb_conv b a m (by omega), cv_comm]
theorem hv_nsum (l : List Nat) (y p n : Nat) : hv l y p n 0 = nsum n (fun j => lb l j * y ^ j) % p := by
  unfold hv
  rw [Nat.sub_zero, nsum_congr fun j _ => by rw [Nat.zero_add]]
theorem seq_past (l : List Nat) (j : Nat) (h : l.length ≤ j) : seq l j = 0 := by unfold seq; rw [lb_past l _ h]; rfl
/-- The sums as coefficients: the product of both values. -/
theorem value_mul (a b : List Nat) (y p : Nat) (ha : 0 < a.length) (hb : 0 < b.length) :
    hv (conv a b) y p (conv a b).length 0 = hv a y p a.length 0 * hv b y p b.length 0 % p := by
  rw [hv_nsum, hv_nsum, hv_nsum, ← Nat.mul_mod]
  congr 1
  have h : ((nsum (conv a b).length (fun j => lb (conv a b) j * y ^ j) : Nat) : Int) = ((nsum a.length (fun j => lb a j * y ^ j) * nsum b.length (fun j => lb b j * y ^ j) : Nat) : Int) := by
    rw [Int.natCast_mul, nsum_cast, nsum_cast, nsum_cast, conv_len]
    have e1 : sm (a.length + b.length - 1) (fun j => ((lb (conv a b) j * y ^ j : Nat) : Int)) = sm (a.length + b.length - 1) fun j => sm a.length fun t => (if t ≤ j then seq a t * seq b (j - t) else 0) * ((y ^ j : Nat) : Int) := by
      refine sm_congr fun j hj => ?_
      rw [lb_conv a b j hj, Int.natCast_mul, cv_sm, sm_mul']
    rw [e1, sm_swap, ← sm_mul']
    refine sm_congr fun t ht => ?_
    obtain ⟨r, hr⟩ : ∃ r, a.length + b.length - 1 = t + (b.length + r) := ⟨a.length - 1 - t, by omega⟩
    rw [hr, sm_split, sm_congr (n := t) (g := fun _ => 0) (fun j hj => by rw [if_neg (by omega), Int.zero_mul]), sm_nought, Int.zero_add]
    rw [sm_more b.length r _ (fun i => by rw [if_pos (by omega), seq_past b _ (by omega), Int.mul_zero, Int.zero_mul]), ← sm_mul]
    refine sm_congr fun i hi => ?_
    rw [if_pos (by omega), show t + i - t = i by omega, Nat.pow_add]
    unfold seq
    simp only [Int.natCast_mul]
    grind
  exact_mod_cast h
end Go.Proofs.YtofhpfmgopmcmaaDoor
