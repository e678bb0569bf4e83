/- Sums of products by transforms: what the rests are. -/
import Derived.Test.YtofhpfmgopmcmaaDoorM1
namespace Go.Proofs.YtofhpfmgopmcmaaDoor
open Go.RowKit
set_option linter.unusedVariables false
set_option maxHeartbeats 400000

theorem cv_sm (a b : List Nat) (i m : Nat) : ((cv a b i m : Nat) : Int) = sm i fun t => if t ≤ m then seq a t * seq b (m - t) else 0 := by
  induction i with
  | zero => rfl
  | succ i ih =>
    rw [cv, sm_succ, ← ih, Int.natCast_add]
    congr 1
    split
    · rw [Int.natCast_mul]; rfl
    · rfl
/-- All around, with room enough, is as it goes. -/
theorem around_cv (a b : List Nat) (n j : Nat) (hj : j < n) (ha : a.length ≤ n) (hab : a.length + b.length ≤ n + 1) :
    sm n (fun t => seq a t * seq b ((j + n - t) % n)) = ((cv a b a.length j : Nat) : Int) := by
  obtain ⟨r, hr⟩ : ∃ r, n = a.length + r := ⟨n - a.length, by omega⟩
  have e1 : sm n (fun t => seq a t * seq b ((j + n - t) % n)) = sm (a.length + r) (fun t => seq a t * seq b ((j + n - t) % n)) := by rw [← hr]
  rw [e1, sm_split, cv_sm]
  have e2 : sm r (fun i => seq a (a.length + i) * seq b ((j + n - (a.length + i)) % n)) = 0 := by
    rw [← sm_nought r]
    refine sm_congr fun i _ => ?_
    rw [show seq a (a.length + i) = 0 from by unfold seq; rw [lb_past a _ (by omega)]; rfl, Int.zero_mul]
  rw [e2, Int.add_zero]
  refine sm_congr fun t ht => ?_
  by_cases c : t ≤ j
  · rw [if_pos c, show j + n - t = (j - t) + n by omega, Nat.add_mod_right, Nat.mod_eq_of_lt (by omega)]
  · rw [if_neg c, Nat.mod_eq_of_lt (by omega)]
    rw [show seq b (j + n - t) = 0 from by unfold seq; rw [lb_past b _ (by omega)]; rfl, Int.mul_zero]
theorem mm_eqm (f : Fd) (x y : Nat) : Eqm (f.p : Int) ((mm f x y : Nat) : Int) ((x : Int) * (y : Int) * (f.ri : Int)) := by
  unfold mm
  refine (Eqm.nat_mod _ _).trans (Eqm.of_eq ?_)
  rw [Int.natCast_mul, Int.natCast_mul]
theorem ri_eqm (f : Fd) (hf : Good f) : Eqm (f.p : Int) ((f.ri : Int) * 4294967296) 1 := by
  have h := hf.ri
  have := eqm_of_mod (p := f.p) (a := f.ri * 4294967296) (b := 1) (by rw [h, Nat.mod_eq_of_lt hf.p0])
  rwa [Int.natCast_mul] at this
theorem rest_math {f : Fd} (F : Fld f) {k n : Nat} (hk : k ≤ 20) (hn : 2 ^ k = n) (a b : List Nat) (ha : a.length ≤ n) (hab : a.length + b.length ≤ n + 1) {x y z u r : List Nat}
    (hx : DownL f k (rt f k) (ml f n a) 0 x) (hy : DownL f k (rt f k) (ml f n b) 0 y) (hz : ∀ q, q < n → lb z q = mm f (lb x q) (lb y q)) (hu : UpL f k (bt f k) z k u)
    (hr : ∀ q, q < n → lb r q = mm f (lb u q) (sh f n % f.p)) (j : Nat) (hj : j < n) : Eqm (f.p : Int) ((lb r j : Nat) : Int) ((cv a b a.length j : Nat) : Int) := by
  have hG := F.good
  subst hn
  have hri := ri_eqm f hG
  have hw := F.rt hk
  have hv := F.bt hk
  have one : ∀ (l o : List Nat), DownL f k (rt f k) (ml f (2 ^ k) l) 0 o → ∀ q, q < 2 ^ k → Eqm (f.p : Int) (seq o q) (4294967296 * dft ((rt f k : Nat) : Int) (2 ^ k) (seq l) (rev k q)) := by
    intro l o h q hq
    refine (h.down.done q hq).trans ?_
    rw [← dft_mul]
    refine dft_eqm fun i hi => ?_
    unfold seq
    rw [ml_at f _ l i hi]
    unfold mont
    refine (Eqm.nat_mod _ _).trans (Eqm.of_eq ?_)
    rw [Int.natCast_mul, Int.mul_comm]; rfl
  have hzq : ∀ q, q < 2 ^ k → Eqm (f.p : Int) (seq z q) (4294967296 * dft ((rt f k : Nat) : Int) (2 ^ k) (fun q => sm (2 ^ k) fun t => seq a t * seq b ((q + 2 ^ k - t) % 2 ^ k)) (rev k q)) := by
    intro q hq
    have h0 : seq z q = ((mm f (lb x q) (lb y q) : Nat) : Int) := by unfold seq; rw [hz q hq]
    rw [h0]
    have h1 := (one a x hx q hq).mul (one b y hy q hq)
    have h2 := dft_around hw.1 (seq a) (seq b) (rev k q)
    refine (mm_eqm f _ _).trans ((h1.mul (Eqm.refl _ (f.ri : Int))).trans ?_)
    generalize dft ((rt f k : Nat) : Int) (2 ^ k) (seq a) (rev k q) = A at *
    generalize dft ((rt f k : Nat) : Int) (2 ^ k) (seq b) (rev k q) = B at *
    refine Eqm.trans ?_ ((Eqm.refl _ (4294967296 : Int)).mul h2)
    have h3 := hri.mul (Eqm.refl (f.p : Int) (4294967296 * (A * B)))
    rw [Int.one_mul] at h3
    refine Eqm.trans (Eqm.of_eq ?_) h3
    grind
  have huq : Eqm (f.p : Int) (seq u j) (4294967296 * (((2 ^ k : Nat) : Int) * sm (2 ^ k) fun t => seq a t * seq b ((j + 2 ^ k - t) % 2 ^ k))) := by
    refine (hu.up.done j hj).trans ?_
    refine (Eqm.sm fun t ht => (hzq t ht).mul (Eqm.refl _ _)).trans ?_
    rw [sm_rev k (fun t => 4294967296 * dft ((rt f k : Nat) : Int) (2 ^ k) (fun q => sm (2 ^ k) fun t => seq a t * seq b ((q + 2 ^ k - t) % 2 ^ k)) t * ((bt f k : Nat) : Int) ^ (j * t))]
    have e : (sm (2 ^ k) fun t => 4294967296 * dft ((rt f k : Nat) : Int) (2 ^ k) (fun q => sm (2 ^ k) fun t => seq a t * seq b ((q + 2 ^ k - t) % 2 ^ k)) t * ((bt f k : Nat) : Int) ^ (j * t)) = dft ((bt f k : Nat) : Int) (2 ^ k) (fun t => 4294967296 * dft ((rt f k : Nat) : Int) (2 ^ k) (fun q => sm (2 ^ k) fun t => seq a t * seq b ((q + 2 ^ k - t) % 2 ^ k)) t) j := by
      unfold dft
      exact sm_congr fun t _ => by rw [Nat.mul_comm j t]
    rw [e, dft_mul]
    exact (Eqm.refl _ _).mul (dft_back hw hv (F.wv k) _ j hj)
  rw [hr j hj, ← around_cv a b (2 ^ k) j hj ha hab]
  refine (mm_eqm f _ _).trans ?_
  have h1 := huq.mul (Eqm.nat_mod f.p (sh f (2 ^ k)))
  refine (h1.mul (Eqm.refl _ (f.ri : Int))).trans ?_
  generalize (sm (2 ^ k) fun t => seq a t * seq b ((j + 2 ^ k - t) % 2 ^ k)) = C at *
  have h3 := (hri.mul (F.share k)).mul (Eqm.refl (f.p : Int) C)
  rw [Int.one_mul, Int.one_mul] at h3
  refine Eqm.trans (Eqm.of_eq ?_) h3
  grind
end Go.Proofs.YtofhpfmgopmcmaaDoor
