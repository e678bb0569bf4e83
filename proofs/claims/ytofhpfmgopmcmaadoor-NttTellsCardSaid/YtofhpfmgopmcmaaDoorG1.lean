/- The three primes, and what their roots do. -/
import Derived.Test.YtofhpfmgopmcmaaDoorB2
namespace Go.Proofs.YtofhpfmgopmcmaaDoor
open Go.RowKit
set_option linter.unusedVariables false

/-- A power modulo p, by squaring. -/
def pm (p : Nat) : Nat → Nat → Nat → Nat
  | 0, _, _ => 1 % p
  | k + 1, b, e => if e % 2 = 1 then b * pm p k (b * b % p) (e / 2) % p else pm p k (b * b % p) (e / 2)
theorem pow_mod2 (a n p : Nat) : (a % p) ^ n % p = a ^ n % p := by rw [← Nat.pow_mod]
theorem pm_eq (p k b e : Nat) (h : e < 2 ^ k) : pm p k b e = b ^ e % p := by
  induction k generalizing b e with
  | zero => simp at h; subst h; simp [pm]
  | succ k ih =>
    rw [Nat.pow_succ] at h
    have hh : e / 2 < 2 ^ k := by omega
    have e2 : b ^ (2 * (e / 2)) % p = (b * b % p) ^ (e / 2) % p := by rw [Nat.pow_mul, pow_mod2, Nat.pow_two]
    rw [pm, ih _ _ hh]
    rcases (show e % 2 = 0 ∨ e % 2 = 1 by omega) with h0 | h1
    · rw [if_neg (by omega), ← e2]; congr 2; omega
    · rw [if_pos h1, ← e2, ← Nat.mul_mod_mod]
      simp only [Nat.mod_mod]
      rw [Nat.mul_mod_mod, Nat.mul_comm, ← Nat.pow_succ]; congr 2; omega

/-- What the three records keep. -/
structure Fld (f : Fd) : Prop where
  good : Good f
  dv : (f.p - 1) % 2 ^ 20 = 0
  half : f.root ^ ((f.p - 1) / 2) % f.p = f.p - 1
  two : 2 ^ (f.p - 1) % f.p = 1
def F0 : Fd := ⟨998244353, 3, 998244351, 932051910, 0, 232013824⟩
def F1 : Fd := ⟨469762049, 3, 469762047, 460175152, 305718167, 51380224⟩
def F2 : Fd := ⟨167772161, 3, 167772159, 40265974, 115614034, 6553600⟩
theorem F0_fld : Fld F0 := by
  refine ⟨⟨by decide, by decide, by decide, by decide +kernel, by decide +kernel, by decide, by decide, by decide +kernel, by decide⟩, by decide +kernel, ?_, ?_⟩
  · rw [← pm_eq _ 30 _ _ (by decide +kernel)]; decide +kernel
  · rw [← pm_eq _ 30 _ _ (by decide +kernel)]; decide +kernel
theorem F1_fld : Fld F1 := by
  refine ⟨⟨by decide, by decide, by decide, by decide +kernel, by decide +kernel, by decide, by decide, by decide +kernel, by decide⟩, by decide +kernel, ?_, ?_⟩
  · rw [← pm_eq _ 30 _ _ (by decide +kernel)]; decide +kernel
  · rw [← pm_eq _ 30 _ _ (by decide +kernel)]; decide +kernel
theorem F2_fld : Fld F2 := by
  refine ⟨⟨by decide, by decide, by decide, by decide +kernel, by decide +kernel, by decide, by decide, by decide +kernel, by decide⟩, by decide +kernel, ?_, ?_⟩
  · rw [← pm_eq _ 30 _ _ (by decide +kernel)]; decide +kernel
  · rw [← pm_eq _ 30 _ _ (by decide +kernel)]; decide +kernel

theorem eqm_of_mod {p a b : Nat} (h : a % p = b % p) : Eqm (p : Int) (a : Int) (b : Int) := by
  apply Eqm.of_emod
  rw [← Int.natCast_emod, ← Int.natCast_emod, h]
theorem Fld.half' {f : Fd} (F : Fld f) : Eqm (f.p : Int) ((f.root : Int) ^ ((f.p - 1) / 2)) (-1) := by
  have p0 := F.good.p0
  have h : Eqm (f.p : Int) ((f.root ^ ((f.p - 1) / 2) : Nat) : Int) ((f.p - 1 : Nat) : Int) := eqm_of_mod (by rw [F.half, Nat.mod_eq_of_lt (by omega)])
  rw [Int.natCast_pow] at h
  exact h.trans ⟨1, by omega⟩
theorem Fld.even {f : Fd} (F : Fld f) : f.p - 1 = 2 * ((f.p - 1) / 2) := by
  have := F.dv
  simp only [Nat.reducePow] at this
  omega
theorem Fld.full {f : Fd} (F : Fld f) : Eqm (f.p : Int) ((f.root : Int) ^ (f.p - 1)) 1 := by
  rw [F.even, Nat.mul_comm, Int.pow_mul]
  have := F.half'.pow 2
  rwa [show ((-1 : Int)) ^ 2 = 1 by decide] at this
theorem Fld.dvk {f : Fd} (F : Fld f) {k : Nat} (hk : k ≤ 20) : (f.p - 1) / 2 ^ k * 2 ^ k = f.p - 1 := by
  apply Nat.div_mul_cancel
  exact Nat.dvd_trans (Nat.pow_dvd_pow 2 hk) (Nat.dvd_of_mod_eq_zero F.dv)
theorem Fld.rt {f : Fd} (F : Fld f) {k : Nat} (hk : k ≤ 20) : Rt (f.p : Int) ((rt f k : Nat) : Int) k := by
  have hd := F.dvk hk
  refine ⟨?_, fun h0 => ?_⟩
  · rw [Go.Proofs.YtofhpfmgopmcmaaDoor.rt, Int.natCast_pow, ← Int.pow_mul, hd]; exact F.full
  · rw [Go.Proofs.YtofhpfmgopmcmaaDoor.rt, Int.natCast_pow, ← Int.pow_mul]
    have : (f.p - 1) / 2 ^ k * 2 ^ (k - 1) = (f.p - 1) / 2 := by
      obtain ⟨j, rfl⟩ : ∃ j, k = j + 1 := ⟨k - 1, by omega⟩
      rw [Nat.add_sub_cancel, ← hd]
      rw [Nat.pow_succ] at hd ⊢
      rw [show (f.p - 1) / (2 ^ j * 2) * (2 ^ j * 2) = (f.p - 1) / (2 ^ j * 2) * 2 ^ j * 2 by rw [Nat.mul_assoc], Nat.mul_div_cancel _ (by decide)]
      rw [show (f.p - 1) / (2 ^ j * 2) * 2 ^ j * 2 = f.p - 1 by rw [Nat.mul_assoc]; exact hd]
    rw [this]; exact F.half'
/-- A power by p - 2 is an inverse. -/
theorem inv_of {f : Fd} (F : Fld f) {x : Nat} (h : Eqm (f.p : Int) ((x : Int) ^ (f.p - 1)) 1) : Eqm (f.p : Int) ((x : Int) * ((x ^ (f.p - 2) : Nat) : Int)) 1 := by
  have p0 := F.good.p0
  rw [Int.natCast_pow, Int.mul_comm, ← Int.pow_succ, show (f.p - 2).succ = f.p - 1 by omega]
  exact h
theorem Fld.rt_full {f : Fd} (F : Fld f) (k : Nat) : Eqm (f.p : Int) (((Go.Proofs.YtofhpfmgopmcmaaDoor.rt f k : Nat) : Int) ^ (f.p - 1)) 1 := by
  rw [Go.Proofs.YtofhpfmgopmcmaaDoor.rt, Int.natCast_pow, ← Int.pow_mul, Nat.mul_comm, Int.pow_mul]
  have := F.full.pow ((f.p - 1) / 2 ^ k)
  rwa [Int.one_pow] at this
theorem Fld.wv {f : Fd} (F : Fld f) (k : Nat) : Eqm (f.p : Int) (((Go.Proofs.YtofhpfmgopmcmaaDoor.rt f k : Nat) : Int) * ((bt f k : Nat) : Int)) 1 := inv_of F (F.rt_full k)
theorem rt_inv {p w v : Int} {k : Nat} (hr : Rt p w k) (h : Eqm p (w * v) 1) : Rt p v k := by
  have key : ∀ n, Eqm p (w ^ n * v ^ n) 1 := fun n => by
    have e : w ^ n * v ^ n = (w * v) ^ n := by
      induction n with
      | zero => simp
      | succ n ih => rw [Int.pow_succ, Int.pow_succ, Int.pow_succ, ← ih]; grind
    rw [e]; have := h.pow n; rwa [Int.one_pow] at this
  refine ⟨?_, fun h0 => ?_⟩
  · have := (hr.1.mul (Eqm.refl p (v ^ 2 ^ k))).symm.trans (key _)
    rwa [Int.one_mul] at this
  · have := ((hr.2 h0).mul (Eqm.refl p (v ^ 2 ^ (k - 1)))).symm.trans (key _)
    have := (Eqm.refl p (-1)).mul this
    rwa [show (-1 : Int) * (-1 * v ^ 2 ^ (k - 1)) = v ^ 2 ^ (k - 1) by grind, Int.mul_one] at this
theorem Fld.bt {f : Fd} (F : Fld f) {k : Nat} (hk : k ≤ 20) : Rt (f.p : Int) ((bt f k : Nat) : Int) k := rt_inv (F.rt hk) (F.wv k)
theorem Fld.share {f : Fd} (F : Fld f) (k : Nat) : Eqm (f.p : Int) (((2 ^ k : Nat) : Int) * ((sh f (2 ^ k) : Nat) : Int)) 1 := by
  have h2 : Eqm (f.p : Int) ((2 : Int) ^ (f.p - 1)) 1 := by
    have p0 := F.good.p0
    have h : Eqm (f.p : Int) ((2 ^ (f.p - 1) : Nat) : Int) ((1 : Nat) : Int) := eqm_of_mod (by rw [F.two, Nat.mod_eq_of_lt p0])
    rwa [Int.natCast_pow] at h
  refine inv_of F ?_
  rw [Int.natCast_pow, ← Int.pow_mul, Nat.mul_comm, Int.pow_mul]
  have := h2.pow k
  rwa [Int.one_pow] at this

/-- What a transform by a root W, each number times S, has in place j. -/
structure TrOut (f : Fd) (k W S : Nat) (l out : List Nat) : Prop where
  len : out.length = 2 ^ k
  lt : ∀ x ∈ out, x < f.p
  at_ : ∀ j, j < 2 ^ k → Eqm (f.p : Int) (seq out j) ((S : Int) * dft (W : Int) (2 ^ k) (seq l) j)
theorem TrOut.of {f : Fd} {k W : Nat} {l o o2 : List Nat} (h1 : DownL f k W l 0 o) (h2 : Sw k f.p (2 ^ k) o o2) : TrOut f k W 1 l o2 := by
  refine ⟨h2.len, h2.lt, fun j hj => ?_⟩
  unfold seq
  rw [h2.at_ j hj, if_pos (.inl hj), Int.natCast_one, Int.one_mul]
  have := h1.down.done (rev k j) (rev_lt k j)
  rw [rev_rev k j hj] at this
  exact this
end Go.Proofs.YtofhpfmgopmcmaaDoor
