/- What the transform does, number by number. -/
import Derived.Test.YtofhpfmgopmcmaaDoorL2
import Derived.Test.YtofhpfmgopmcmaaDoorY3
namespace Go.Proofs.YtofhpfmgopmcmaaDoor
open Go.RowKit
set_option linter.unusedVariables false

/-- The root and the share, either way. -/
def tw (i k : Nat) (b : Bool) : Nat := if b then bt (fd i) k else rt (fd i) k
def ts (i k : Nat) (b : Bool) : Nat := if b then sh (fd i) (2 ^ k) else 1
theorem tfl_eq (i k : Nat) (b : Bool) (l : List Nat) : tfl i k b l = trv (fd i).p (tw i k b) (ts i k b) (2 ^ k) l := by cases b <;> rfl
theorem tfl_eqm (i k : Nat) (b : Bool) (l : List Nat) (j : Nat) (hj : j < 2 ^ k) : Eqm ((fd i).p : Int) (seq (tfl i k b l) j) ((ts i k b : Nat) * dft ((tw i k b : Nat) : Int) (2 ^ k) (seq l) j) := by
  unfold seq
  rw [tfl_eq, lb_trv _ _ _ _ _ _ hj]
  exact dv_eqm _ _ _ _ _ _
theorem tw_rt (i k : Nat) (b : Bool) (hk : k ≤ 20) : Rt ((fd i).p : Int) ((tw i k b : Nat) : Int) k := by
  cases b
  · exact (fd_fld i).rt hk
  · exact (fd_fld i).bt hk
theorem tw_inv (i k : Nat) (b : Bool) : Eqm ((fd i).p : Int) (((tw i k b : Nat) : Int) * ((tw i k (!b) : Nat) : Int)) 1 := by
  cases b
  · exact (fd_fld i).wv k
  · rw [Int.mul_comm]; exact (fd_fld i).wv k
theorem ts_inv (i k : Nat) (b : Bool) : Eqm ((fd i).p : Int) (((ts i k b : Nat) : Int) * ((ts i k (!b) : Nat) : Int) * ((2 ^ k : Nat) : Int)) 1 := by
  have := (fd_fld i).share k
  cases b
  · show Eqm _ (((1 : Nat) : Int) * ((sh (fd i) (2 ^ k) : Nat) : Int) * ((2 ^ k : Nat) : Int)) 1
    rw [Int.natCast_one, Int.one_mul, Int.mul_comm]; exact this
  · show Eqm _ (((sh (fd i) (2 ^ k) : Nat) : Int) * ((1 : Nat) : Int) * ((2 ^ k : Nat) : Int)) 1
    rw [Int.natCast_one, Int.mul_one, Int.mul_comm]; exact this
theorem seq_cast (l : List Nat) (j : Nat) : seq l j = ((lb l j : Nat) : Int) := rfl
/-- There and back. -/
theorem tfl_back (i k : Nat) (b : Bool) (l : List Nat) (hk : k ≤ 20) (hl : l.length = 2 ^ k) (hlt : ∀ x ∈ l, x < (fd i).p) : tfl i k (!b) (tfl i k b l) = l := by
  have p0 := (fd_fld i).good.p0
  refine ext_lb (by rw [tfl_len, hl]) fun t ht => ?_
  rw [tfl_len] at ht
  have h1 := tfl_eqm i k (!b) (tfl i k b l) t ht
  have h2 : Eqm ((fd i).p : Int) (dft ((tw i k (!b) : Nat) : Int) (2 ^ k) (seq (tfl i k b l)) t) ((ts i k b : Nat) * ((2 ^ k : Nat) * seq l t)) := by
    refine (dft_eqm fun j hj => tfl_eqm i k b l j hj).trans ?_
    rw [dft_mul]
    refine (Eqm.refl _ _).mul (dft_back (tw_rt i k b hk) (tw_rt i k (!b) hk) (tw_inv i k b) _ t ht)
  have h3 : Eqm ((fd i).p : Int) (seq (tfl i k (!b) (tfl i k b l)) t) (seq l t) := by
    refine h1.trans (((Eqm.refl _ _).mul h2).trans ?_)
    have h4 := (ts_inv i k b).mul (Eqm.refl ((fd i).p : Int) (seq l t))
    rw [Int.one_mul] at h4
    refine Eqm.trans (Eqm.of_eq ?_) h4
    grind
  exact h3.eq (lb_lt_of (by omega) (tfl_lt _ _ _ _) _) (lb_lt_of (by omega) hlt _)
/-- Each number times one, and others added. -/
theorem tfl_lines (i k : Nat) (b : Bool) (l m o : List Nat) (by_ : Nat) (ho : ∀ j, j < 2 ^ k → lb o j = (lb l j * by_ + lb m j) % (fd i).p) (j : Nat) (hj : j < 2 ^ k) :
    lb (tfl i k b o) j = (lb (tfl i k b l) j % (fd i).p * (by_ % (fd i).p) + lb (tfl i k b m) j) % (fd i).p := by
  have p0 := (fd_fld i).good.p0
  have h1 : Eqm ((fd i).p : Int) (seq (tfl i k b o) j) (seq (tfl i k b l) j * (by_ : Int) + seq (tfl i k b m) j) := by
    refine (tfl_eqm i k b o j hj).trans ?_
    have h2 : Eqm ((fd i).p : Int) (dft ((tw i k b : Nat) : Int) (2 ^ k) (seq o) j) ((by_ : Int) * dft ((tw i k b : Nat) : Int) (2 ^ k) (seq l) j + dft ((tw i k b : Nat) : Int) (2 ^ k) (seq m) j) := by
      rw [← dft_mul, ← dft_add]
      refine dft_eqm fun q hq => ?_
      rw [seq_cast, ho q hq]
      refine (Eqm.nat_mod _ _).trans (Eqm.of_eq ?_)
      rw [Int.natCast_add, Int.natCast_mul, seq_cast, seq_cast, Int.mul_comm]
    refine ((Eqm.refl _ _).mul h2).trans ?_
    have h3 := ((tfl_eqm i k b l j hj).mul (Eqm.refl _ (by_ : Int))).add (tfl_eqm i k b m j hj)
    refine Eqm.trans (Eqm.of_eq ?_) h3.symm
    grind
  refine h1.trans ?_ |>.eq (lb_lt_of (by omega) (tfl_lt _ _ _ _) _) (Nat.mod_lt _ (by omega))
  refine Eqm.symm ((Eqm.nat_mod _ _).trans ?_)
  rw [Int.natCast_add, Int.natCast_mul]
  exact ((Eqm.nat_mod _ _).mul (Eqm.nat_mod _ _)).add (Eqm.refl _ _)
/-- Turned by one place. -/
theorem tfl_turn (i k : Nat) (l m : List Nat) (hk : k ≤ 20) (h0 : lb m 0 = lb l (2 ^ k - 1)) (h1 : ∀ j, j + 1 < 2 ^ k → lb m (j + 1) = lb l j) (r : Nat) (hr : rt (fd i) k % (fd i).p = r) (j : Nat) (hj : j < 2 ^ k) :
    lb (tfl i k false m) j = lb (tfl i k false l) j * (r ^ j % (fd i).p) % (fd i).p := by
  have p0 := (fd_fld i).good.p0
  have hn := Nat.two_pow_pos k
  obtain ⟨n, hn2⟩ : ∃ n, 2 ^ k = n + 1 := ⟨2 ^ k - 1, by omega⟩
  have hw := (tw_rt i k false hk).1
  have e1 := tfl_eqm i k false m j hj
  have e2 := tfl_eqm i k false l j hj
  have ht := dft_turn (p := ((fd i).p : Int)) (w := ((tw i k false : Nat) : Int)) (n := n) (by rw [← hn2]; exact hw) (seq l) (seq m) (by rw [seq_cast, seq_cast, h0, show 2 ^ k - 1 = n by omega]) (fun q hq => by rw [seq_cast, seq_cast, h1 q (by omega)]) j
  rw [← hn2] at ht
  have hr1 : Eqm ((fd i).p : Int) ((r : Nat) : Int) ((tw i k false : Nat) : Int) := by rw [← hr]; exact Eqm.nat_mod _ _
  have h2 : Eqm ((fd i).p : Int) (seq (tfl i k false m) j) (seq (tfl i k false l) j * (r : Int) ^ j) := by
    refine e1.trans (((Eqm.refl _ _).mul ht).trans ?_)
    rw [← Int.mul_assoc]
    exact (e2.mul (hr1.pow j)).symm
  refine h2.trans ?_ |>.eq (lb_lt_of (by omega) (tfl_lt _ _ _ _) _) (Nat.mod_lt _ (by omega))
  refine Eqm.symm ((Eqm.nat_mod _ _).trans ?_)
  rw [Int.natCast_mul]
  refine (Eqm.refl _ _).mul ((Eqm.nat_mod _ _).trans ?_)
  rw [Int.natCast_pow]; exact Eqm.refl _ _
/-- The sum of products all around. -/
def arv (p n : Nat) (l m : List Nat) (k : Nat) : Nat := nsum n (fun t => lb l t * lb m ((k + n - t) % n)) % p
theorem tfl_around (i k : Nat) (l m o : List Nat) (hk : k ≤ 20) (ho : ∀ j, j < 2 ^ k → lb o j = lb (tfl i k false l) j * lb (tfl i k false m) j % (fd i).p) (j : Nat) (hj : j < 2 ^ k) :
    lb (tfl i k true o) j = arv (fd i).p (2 ^ k) l m j := by
  have p0 := (fd_fld i).good.p0
  let c : List Nat := (List.range (2 ^ k)).map (arv (fd i).p (2 ^ k) l m)
  have hc : ∀ q, q < 2 ^ k → lb c q = arv (fd i).p (2 ^ k) l m q := fun q hq => lb_map _ _ _ hq
  have hcl : c.length = 2 ^ k := by simp [c]
  have hclt : ∀ x ∈ c, x < (fd i).p := by
    intro x hx
    obtain ⟨q, _, rfl⟩ := List.mem_map.1 hx
    exact Nat.mod_lt _ (by omega)
  have hcs : ∀ q, q < 2 ^ k → Eqm ((fd i).p : Int) (seq c q) (sm (2 ^ k) fun t => seq l t * seq m ((q + 2 ^ k - t) % 2 ^ k)) := fun q hq => by
    rw [seq_cast, hc q hq]
    unfold arv
    refine (Eqm.nat_mod _ _).trans (Eqm.of_eq ?_)
    rw [nsum_cast]
    exact sm_congr fun t _ => by rw [Int.natCast_mul]; rfl
  have e : tfl i k false c = (List.range (2 ^ k)).map (fun q => lb o q % (fd i).p) := by
    refine ext_lb (by rw [tfl_len]; simp) fun q hq => ?_
    rw [tfl_len] at hq
    rw [lb_map _ _ _ hq]
    have h1 : Eqm ((fd i).p : Int) (seq (tfl i k false c) q) ((lb o q : Nat) : Int) := by
      rw [ho q hq]
      refine Eqm.trans ?_ (Eqm.nat_mod _ _).symm
      rw [Int.natCast_mul]
      have h2 := tfl_eqm i k false c q hq
      have h3 := tfl_eqm i k false l q hq
      have h4 := tfl_eqm i k false m q hq
      simp only [show ts i k false = 1 from rfl, Int.natCast_one, Int.one_mul] at h2 h3 h4
      refine h2.trans (Eqm.trans ?_ (h3.mul h4).symm)
      exact (dft_eqm hcs).trans (dft_around (tw_rt i k false hk).1 _ _ _).symm
    exact (h1.trans (Eqm.nat_mod _ _).symm).eq (lb_lt_of (by omega) (tfl_lt _ _ _ _) _) (Nat.mod_lt _ (by omega))
  have e2 : tfl i k true o = tfl i k true (tfl i k false c) := by
    rw [tfl_eq, tfl_eq]
    unfold trv
    refine List.map_congr_left fun q hq => ?_
    unfold dv
    refine congrArg (· % _) (congrArg (_ * ·) (nsum_congr fun t ht => ?_))
    rw [e, lb_map _ _ _ ht, ho t ht, Nat.mod_mod]
  have hb := tfl_back i k false c hk hcl hclt
  rw [show (!false) = true from rfl] at hb
  rw [e2, hb, hc j hj]
end Go.Proofs.YtofhpfmgopmcmaaDoor
