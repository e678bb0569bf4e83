/- The number below all three primes' product that has three rests. -/
import Derived.Test.YtofhpfmgopmcmaaDoorM3
namespace Go.Proofs.YtofhpfmgopmcmaaDoor
open Go.RowKit
set_option linter.unusedVariables false
set_option maxHeartbeats 400000

/-- One step: what of N is known up to q, and modulo a prime p, gives the next digit. -/
theorem garner {f : Fd} (hf : Good f) (q N low v s : Nat) (hinv : q * f.ahead * f.ri % f.p = 1) (hlow : N % q = low) (hN : N / q < f.p)
    (hs : Eqm (f.p : Int) (s : Int) ((N : Int) - (low : Int))) (hv : v = mm f s f.ahead) : N / q = v := by
  have h1 : (N : Int) = (low : Int) + (q : Int) * ((N / q : Nat) : Int) := by
    have := Nat.mod_add_div N q
    rw [hlow] at this
    omega
  have h2 : Eqm (f.p : Int) ((q : Int) * (f.ahead : Int) * (f.ri : Int)) 1 := by
    have := eqm_of_mod (p := f.p) (a := q * f.ahead * f.ri) (b := 1) (by rw [hinv, Nat.mod_eq_of_lt hf.p0])
    rwa [Int.natCast_mul, Int.natCast_mul] at this
  have h3 : Eqm (f.p : Int) ((mm f s f.ahead : Nat) : Int) ((N / q : Nat) : Int) := by
    refine (mm_eqm f s f.ahead).trans ?_
    have h4 := (hs.mul (Eqm.refl _ (f.ahead : Int))).mul (Eqm.refl _ (f.ri : Int))
    refine h4.trans ?_
    have h5 := h2.mul (Eqm.refl (f.p : Int) ((N / q : Nat) : Int))
    rw [Int.one_mul] at h5
    refine Eqm.trans (Eqm.of_eq ?_) h5
    rw [h1]
    grind
  rw [hv]
  exact (h3.eq (mm_lt f hf _ _) hN).symm
theorem inv1 : F0.p * F1.ahead * F1.ri % F1.p = 1 := by decide +kernel
theorem inv2 : F0.p * F1.p * F2.ahead * F2.ri % F2.p = 1 := by decide +kernel
/-- s is y less x, modulo p. -/
theorem sub_eqm2 (p x y : Nat) (hp : 0 < p) (hx : x < p) : Eqm (p : Int) (((y + p - x) % p : Nat) : Int) ((y : Int) - (x : Int)) :=
  (Eqm.nat_mod _ _).trans (sub_eqm p y x (by omega))
theorem join_math (N x y z : Nat) (hx : N % F0.p = x) (hy : N % F1.p = y) (hz : N % F2.p = z) (hN : N < F0.p * F1.p * F2.p) (v low w : Nat)
    (hv : v = mm F1 ((y + F1.p - x % F1.p) % F1.p) F1.ahead) (hl : low = F0.p * v + x) (hw : w = mm F2 ((z + F2.p - low % F2.p) % F2.p) F2.ahead) :
    N = low + F0.p * F1.p * w ∧ N % (F0.p * F1.p) = low := by
  have g1 := F1_fld.good
  have g2 := F2_fld.good
  have q1 : 0 < F1.p := by decide
  have q2 : 0 < F2.p := by decide
  have hlow : N % (F0.p * F1.p) = low := by
    have h1 : N % (F0.p * F1.p) % F0.p = x := by rw [Nat.mod_mul_right_mod, hx]
    have h2 : N % (F0.p * F1.p) / F0.p = v := by
      refine garner g1 F0.p (N % (F0.p * F1.p)) x v _ inv1 h1 ?_ ?_ hv
      · exact Nat.div_lt_of_lt_mul (Nat.mod_lt _ (by decide))
      · refine (sub_eqm2 F1.p (x % F1.p) y q1 (Nat.mod_lt _ q1)).trans (Eqm.sub ?_ (Eqm.nat_mod _ _))
        rw [← hy]
        refine (Eqm.nat_mod _ _).trans ?_
        have : Eqm (F1.p : Int) ((N % (F0.p * F1.p) : Nat) : Int) (N : Int) := by
          refine (Eqm.nat_mod _ _).symm.trans ?_
          rw [Nat.mod_mul_left_mod]
          exact Eqm.nat_mod _ _
        exact this.symm
    have h3 := Nat.mod_add_div (N % (F0.p * F1.p)) F0.p
    rw [h1, h2] at h3
    omega
  have h4 : N / (F0.p * F1.p) = w := by
    refine garner g2 (F0.p * F1.p) N low w _ inv2 hlow ?_ ?_ hw
    · exact Nat.div_lt_of_lt_mul hN
    · refine (sub_eqm2 F2.p (low % F2.p) z q2 (Nat.mod_lt _ q2)).trans (Eqm.sub ?_ (Eqm.nat_mod _ _))
      rw [← hz]
      exact Eqm.nat_mod _ _
  have h5 := Nat.mod_add_div N (F0.p * F1.p)
  rw [hlow, h4] at h5
  exact ⟨h5.symm, hlow⟩
end Go.Proofs.YtofhpfmgopmcmaaDoor
