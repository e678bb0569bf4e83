/- The transform. -/
import Derived.Test.YtbdmncpibnligaaGreatDoorBaf
import Derived.Laws.Externs
import Derived.Laws.StructEq
import Derived.Laws.Cover2
import Derived.Laws.Tables
import Derived.Laws.Small

namespace Go.Proofs.YtbdmncpibnligaaGreatDoor
open Go.RowKit
set_option linter.unusedVariables false
set_option maxHeartbeats 400000
attribute [local go_sem ↓] app_shut
attribute [local go_sem] run_append_tok

theorem Gl.at_ {w : World} (h : Gl w) {i : Nat} (hi : i < 3) : GB w (i * 5) (fd i) := by
  rcases (show i = 0 ∨ i = 1 ∨ i = 2 by omega) with rfl | rfl | rfl
  · exact h.2.1
  · exact h.2.2.1
  · exact h.2.2.2

theorem Own.shape {w : World} {base : Nat} {v : Value} {o : List Nat} (h : Own w base v o) (h0 : 0 < o.length) : ∃ g c, v = .slice (some ⟨g, 0, none⟩) o.length c := by
  rcases h.2 with ⟨_, h1⟩ | ⟨g, cap, cur, rfl, _⟩
  · omega
  · exact ⟨g, cap, rfl⟩

end Go.Proofs.YtbdmncpibnligaaGreatDoor
/- The transform, back. -/
namespace Go.Proofs.YtbdmncpibnligaaGreatDoor
open Go.RowKit
set_option linter.unusedVariables false
set_option maxHeartbeats 400000
attribute [local go_sem ↓] app_shut
attribute [local go_sem] run_append_tok

/-- Behind m rounds each of these numbers is times S. -/
structure Bk (f : Fd) (n S m : Nat) (l o : List Nat) : Prop where
  len : o.length = n
  lt : ∀ x ∈ o, x < f.p
  at_ : ∀ i, lb o i = if i < m then mm f (lb l i) (mont f S) else lb l i
theorem Bk.start {f : Fd} {n S : Nat} {l : List Nat} (h : l.length = n) (hl : ∀ x ∈ l, x < f.p) : Bk f n S 0 l l := ⟨h, hl, fun i => by rw [if_neg (by omega)]⟩
theorem Bk.step {f : Fd} {n S m : Nat} {l o : List Nat} (H : Bk f n S m l o) (hf : Good f) (hm : m < n) : Bk f n S (m + 1) l (o.set m (mm f (lb o m) (mont f S))) := by
  refine ⟨by simp [H.len], set_lt H.lt (mm_lt f hf _ _), fun i => ?_⟩
  have e0 : lb o m = lb l m := by rw [H.at_ m, if_neg (Nat.lt_irrefl m)]
  rw [lb_set _ _ _ _ (by rw [H.len]; exact hm), e0]
  by_cases e : m = i
  · subst e; rw [if_pos rfl, if_pos (by omega)]
  · rw [if_neg e, H.at_ i]
    by_cases c : i < m
    · rw [if_pos c, if_pos (by omega)]
    · rw [if_neg c, if_neg (by omega)]
theorem TrOut.times {f : Fd} {k W S : Nat} {l o6 o : List Nat} (h : TrOut f k W 1 l o6) (hf : Good f) (H : Bk f (2 ^ k) S (2 ^ k) o6 o) : TrOut f k W S l o := by
  refine ⟨H.len, H.lt, fun j hj => ?_⟩
  unfold seq
  rw [H.at_ j, if_pos hj]
  refine (mm_mont_eqm f hf _ _).trans ?_
  have := (h.at_ j hj).mul (Eqm.refl (f.p : Int) (S : Int))
  rw [Int.natCast_one, Int.one_mul, Int.mul_comm (dft _ _ _ _)] at this
  exact this

end Go.Proofs.YtbdmncpibnligaaGreatDoor
/- Where there is no transform. -/
namespace Go.Proofs.YtbdmncpibnligaaGreatDoor
open Go.RowKit
set_option linter.unusedVariables false
set_option maxHeartbeats 400000

theorem U.shape {w : World} {v : Value} {xs : List Nat} (h : U w v xs) : ∃ A c, v = .slice A xs.length c ∧ xs.length ≤ c := by
  obtain ⟨A, c, rfl, hc, _⟩ := h; exact ⟨A, c, rfl, hc.1⟩
end Go.Proofs.YtbdmncpibnligaaGreatDoor
/- Sums of products of limbs; rows of three limbs each. -/
namespace Go.Proofs.YtbdmncpibnligaaGreatDoor
open Go.RowKit
set_option linter.unusedVariables false

/-- The sum of a[i'] b[m - i'] over i' below i. -/
def cv (a b : List Nat) : Nat → Nat → Nat
  | 0, _ => 0
  | i + 1, m => cv a b i m + if i ≤ m then lb a i * lb b (m - i) else 0
theorem sq_lt {x y : Nat} (hx : x < 4294967296) (hy : y < 4294967296) : x * y ≤ 18446744065119617025 := Nat.mul_le_mul (show x ≤ 4294967295 by omega) (show y ≤ 4294967295 by omega)
/-- All sums. -/
def conv (a b : List Nat) : List Nat := (List.range (a.length + b.length - 1)).map fun m => cv a b a.length m
theorem lb_map (n : Nat) (f : Nat → Nat) (m : Nat) (h : m < n) : lb ((List.range n).map f) m = f m := by simp [lb, h]
/-- Three limbs of each number. -/
def fl : List Nat → List Nat
  | [] => []
  | c :: cs => c % 4294967296 :: c / 4294967296 % 4294967296 :: c / 18446744073709551616 % 4294967296 :: fl cs
theorem fl_len (cs : List Nat) : (fl cs).length = cs.length * 3 := by
  induction cs with
  | nil => rfl
  | cons c cs ih => simp only [fl, List.length_cons, ih]; omega
theorem fl_set (cs : List Nat) (m c : Nat) (h : m < cs.length) : fl (cs.set m c) = (((fl cs).set (m * 3) (c % 4294967296)).set (m * 3 + 1) (c / 4294967296 % 4294967296)).set (m * 3 + 2) (c / 18446744073709551616 % 4294967296) := by
  induction cs generalizing m with
  | nil => simp at h
  | cons d cs ih =>
    rcases m with _ | m
    · simp [fl]
    · have := ih m (by simpa using h)
      rw [List.set_cons_succ, fl, this]
      rw [show (m + 1) * 3 = m * 3 + 1 + 1 + 1 by omega, show m * 3 + 1 + 1 + 1 + 1 = (m * 3 + 1) + 1 + 1 + 1 by omega, show m * 3 + 1 + 1 + 1 + 2 = (m * 3 + 2) + 1 + 1 + 1 by omega]
      simp only [fl, List.set_cons_succ]
/-- v is a row of the call's own, of three limbs each: the numbers cs. -/
def Own3 (w : World) (base : Nat) (v : Value) (cs : List Nat) : Prop := w.ownsRow base 110 3 v cs.length (L32 (fl cs))
theorem Own3.block {w : World} {base g n c : Nat} {o : List Nat} (h : Own3 w base (.slice (some ⟨g, 0, none⟩) n c) o) : base ≤ g ∧ g < w.heap.size := by
  have h0 : w.ownsRow base 110 3 (.slice (some ⟨g, 0, none⟩) n c) o.length (L32 (fl o)) := h
  exact h0.lt g rfl
theorem Own3.caps {w : World} {base g n c : Nat} {o : List Nat} (h : Own3 w base (.slice (some ⟨g, 0, none⟩) n c) o) : n = o.length ∧ n ≤ c ∧ c ≤ maxLen := by
  rcases h.2 with ⟨h1, _⟩ | ⟨g', cap, cur, h1, hg, hh, h2, h3, h4, h5⟩
  · cases h1
  · injection h1 with e1 e2 e3
    subst e2 e3
    exact ⟨rfl, h2, h3⟩
theorem Own3.below {w w' : World} {base B : Nat} {v : Value} {o : List Nat} (h : Own3 w base v o) (hB : Below B w w') (hv : ∀ g, v.ownBlock = some g → g < B) : Own3 w' base v o := by
  refine ⟨h.1, ?_⟩
  rcases h.2 with hn | ⟨g, cap, cur, rfl, hb, hgg, rest⟩
  · exact .inl hn
  · refine .inr ⟨g, cap, cur, rfl, hb, ?_, rest⟩
    rw [hB.block g (hv g rfl)]
    exact hgg
theorem Own3.ext {w w' : World} {base g n c : Nat} {o : List Nat} (h : Own3 w base (.slice (some ⟨g, 0, none⟩) n c) o) (hB : Ext w w') : Own3 w' base (.slice (some ⟨g, 0, none⟩) n c) o :=
  h.below hB (fun g' hg => by injection hg with hg; subst hg; exact h.block.2)
theorem Own3.cell {w : World} {base g n c : Nat} {o : List Nat} (h : Own3 w base (.slice (some ⟨g, 0, none⟩) n c) o) {j : Nat} (hj : j < o.length * 3) : w.cell? ⟨g, j, none⟩ = some (.int .u32 (lb (fl o) j : Nat)) := by
  obtain ⟨e, _, _⟩ := h.caps
  subst e
  have h0 : w.ownsRow base 110 3 (.slice (some ⟨g, 0, none⟩) o.length c) o.length (L32 (fl o)) := h
  rw [World.ownsRow.cellAt h0 j hj]; exact L32_get _ (by rw [fl_len]; exact hj)
theorem Own3.frozen {w : World} {base g n c : Nat} {o : List Nat} (h : Own3 w base (.slice (some ⟨g, 0, none⟩) n c) o) (j : Nat) : w.frozen? ⟨g, j, none⟩ = false := by
  obtain ⟨e, _, _⟩ := h.caps
  subst e
  have h0 : w.ownsRow base 110 3 (.slice (some ⟨g, 0, none⟩) o.length c) o.length (L32 (fl o)) := h
  exact World.ownsRow.frozenAt h0 j
theorem Own3.set_ {w : World} {base g n c : Nat} {o : List Nat} (h : Own3 w base (.slice (some ⟨g, 0, none⟩) n c) o) (m x : Nat) (hm : m < o.length) :
    Own3 (((w.setCell ⟨g, m * 3, none⟩ (.int .u32 (x % 4294967296 : Nat))).setCell ⟨g, m * 3 + 1, none⟩ (.int .u32 (x / 4294967296 % 4294967296 : Nat))).setCell ⟨g, m * 3 + 2, none⟩ (.int .u32 (x / 18446744073709551616 % 4294967296 : Nat))) base (.slice (some ⟨g, 0, none⟩) n c) (o.set m x) := by
  obtain ⟨e, _, _⟩ := h.caps
  subst e
  have h0 : w.ownsRow base 110 3 (.slice (some ⟨g, 0, none⟩) o.length c) o.length (L32 (fl o)) := h
  have h1 := (World.ownsRow.stored h0 (m * 3) (.int .u32 (x % 4294967296 : Nat))).1
  have h2 := (World.ownsRow.stored h1 (m * 3 + 1) (.int .u32 (x / 4294967296 % 4294967296 : Nat))).1
  have h3 := (World.ownsRow.stored h2 (m * 3 + 2) (.int .u32 (x / 18446744073709551616 % 4294967296 : Nat))).1
  unfold Own3
  rw [List.length_set, fl_set _ _ _ hm, L32_set, L32_set, L32_set]
  exact h3
end Go.Proofs.YtbdmncpibnligaaGreatDoor
/- Are two rows the same; sums of products of short rows. -/
namespace Go.Proofs.YtbdmncpibnligaaGreatDoor
open Go.RowKit
set_option linter.unusedVariables false
set_option maxHeartbeats 400000

/-- A slice of three limbs each that reads as these numbers. -/
def U3 (w : World) (v : Value) (cs : List Nat) : Prop :=
  ∃ (A : Option Addr) (c : Nat), v = .slice A cs.length c ∧ (cs.length ≤ c ∧ cs.length ≤ 9223372036854775807) ∧
    (0 < cs.length → ∃ ad, A = some ad ∧ ad.block < w.heap.size ∧ ∀ j, j < cs.length * 3 → w.cell? (ad.add j) = some (.int .u32 (lb (fl cs) j : Nat)))
theorem U3.below {w w' : World} {v : Value} {cs : List Nat} (h : U3 w v cs) (hb : Below w.heap.size w w') : U3 w' v cs := by
  obtain ⟨A, c, rfl, hc, hr⟩ := h
  refine ⟨A, c, rfl, hc, fun h0 => ?_⟩
  obtain ⟨ad, hA, hbk, hcell⟩ := hr h0
  exact ⟨ad, hA, Nat.lt_of_lt_of_le hbk hb.size, fun j hj => (hb.cell (p := ad.add j) (by rw [addr_add_block]; exact hbk)).trans (hcell j hj)⟩
theorem U3.alloc {w : World} {v : Value} {xs : List Nat} (h : U3 w v xs) (o : Obj) : U3 (w.alloc o) v xs := U3.below h ((Ext.refl w).alloc o)
theorem U3.nil_ (w : World) (A : Option Addr) (c : Nat) : U3 w (.slice A 0 c) [] := ⟨A, c, rfl, ⟨Nat.zero_le _, Nat.zero_le _⟩, fun h => absurd h (by simp)⟩
theorem Own3.toU {w : World} {base g n c : Nat} {o : List Nat} (h : Own3 w base (.slice (some ⟨g, 0, none⟩) n c) o) : U3 w (.slice (some ⟨g, 0, none⟩) n c) o := by
  obtain ⟨e, h1, h2⟩ := h.caps
  subst e
  refine ⟨_, c, rfl, ⟨h1, by unfold maxLen at h2; omega⟩, fun h0 => ⟨_, rfl, h.block.2, fun j hj => ?_⟩⟩
  rw [addr_zero_add]; exact h.cell hj
theorem addr_at (a : Addr) (n : Nat) (h : n ≠ 0) : a.add n = ⟨a.block, a.off + n, none⟩ := by unfold Addr.add; simp [h]
end Go.Proofs.YtbdmncpibnligaaGreatDoor
/- Sums of products of rows of which one is short. -/
namespace Go.Proofs.YtbdmncpibnligaaGreatDoor
open Go.RowKit
set_option linter.unusedVariables false
set_option maxHeartbeats 400000

/-- All sums; none where a row is empty. -/
def cvs (a b : List Nat) : List Nat := if a.length = 0 ∨ b.length = 0 then [] else conv a b
end Go.Proofs.YtbdmncpibnligaaGreatDoor
/- The transform as one row of numbers; the contracts in one form. -/
namespace Go.Proofs.YtbdmncpibnligaaGreatDoor
open Go.RowKit
set_option linter.unusedVariables false
set_option maxHeartbeats 400000

/-- A sum of naturals. -/
def nsum : Nat → (Nat → Nat) → Nat
  | 0, _ => 0
  | n + 1, f => nsum n f + f n
theorem nsum_cast (n : Nat) (f : Nat → Nat) : ((nsum n f : Nat) : Int) = sm n fun i => ((f i : Nat) : Int) := by
  induction n with
  | zero => rfl
  | succ n ih => rw [nsum, sm_succ, ← ih, Int.natCast_add]
theorem nsum_mod (n p : Nat) (f g : Nat → Nat) (h : ∀ i, i < n → f i % p = g i % p) : nsum n f % p = nsum n g % p := by
  induction n with
  | zero => rfl
  | succ n ih => rw [nsum, nsum, Nat.add_mod, ih fun i hi => h i (by omega), h n (by omega), ← Nat.add_mod]
/-- What stands in place j. -/
def dv (p W S n : Nat) (l : List Nat) (j : Nat) : Nat := S * nsum n (fun i => lb l i * W ^ (i * j)) % p
def trv (p W S n : Nat) (l : List Nat) : List Nat := (List.range n).map (dv p W S n l)
theorem trv_len (p W S n : Nat) (l : List Nat) : (trv p W S n l).length = n := by simp [trv]
theorem lb_trv (p W S n : Nat) (l : List Nat) (j : Nat) (h : j < n) : lb (trv p W S n l) j = dv p W S n l j := lb_map _ _ _ h
theorem dv_mod (p W S n : Nat) (l : List Nat) (j : Nat) : dv p W S n l j = dv p (W % p) (S % p) n l j := by
  unfold dv
  rw [mul_mod2, Nat.mul_mod, nsum_mod n p _ (fun i => lb l i * (W % p) ^ (i * j)) (fun i _ => by rw [Nat.mul_mod, ← pow_mod2, ← Nat.mul_mod]), ← Nat.mul_mod]
theorem trv_mod (p W S n : Nat) (l : List Nat) : trv p W S n l = trv p (W % p) (S % p) n l := by
  unfold trv
  exact List.map_congr_left fun j _ => dv_mod p W S n l j
theorem dv_lt (p W S n : Nat) (l : List Nat) (j : Nat) (hp : 0 < p) : dv p W S n l j < p := Nat.mod_lt _ hp
theorem dv_eqm (p W S n : Nat) (l : List Nat) (j : Nat) : Eqm (p : Int) ((dv p W S n l j : Nat) : Int) ((S : Int) * dft (W : Int) n (seq l) j) := by
  unfold dv dft seq
  refine (Eqm.nat_mod _ _).trans (Eqm.of_eq ?_)
  rw [Int.natCast_mul, nsum_cast]
  congr 1
theorem TrOut.eq {f : Fd} {k W S : Nat} {l out : List Nat} (h : TrOut f k W S l out) (hp : 0 < f.p) : out = trv f.p W S (2 ^ k) l := by
  refine ext_lb (by rw [h.len, trv_len]) fun j hj => ?_
  rw [h.len] at hj
  rw [lb_trv _ _ _ _ _ _ hj]
  exact ((h.at_ j hj).trans (dv_eqm _ _ _ _ _ _).symm).eq (lb_lt_of hp h.lt _) (dv_lt _ _ _ _ _ _ hp)

/-- Values by squaring. -/
theorem rt_val (f : Fd) (k v : Nat) (h1 : (f.p - 1) / 2 ^ k < 2 ^ 30) (h : pm f.p 30 f.root ((f.p - 1) / 2 ^ k) = v) : rt f k % f.p = v := by
  unfold rt; rw [← pm_eq _ 30 _ _ h1]; exact h
theorem bt_val (f : Fd) (k r v : Nat) (hr : rt f k % f.p = r) (h1 : f.p - 2 < 2 ^ 30) (h : pm f.p 30 r (f.p - 2) = v) : bt f k % f.p = v := by
  unfold bt; rw [← pow_mod2, hr, ← pm_eq _ 30 _ _ h1]; exact h
theorem sh_val (f : Fd) (n v : Nat) (h1 : f.p - 2 < 2 ^ 30) (h : pm f.p 30 n (f.p - 2) = v) : sh f n % f.p = v := by
  unfold sh; rw [← pm_eq _ 30 _ _ h1]; exact h
theorem tr_val (p W S n : Nat) (l out : List Nat) (W' S' : Nat) (hW : W % p = W') (hS : S % p = S') (h : trv p W' S' n l = out) : trv p W S n l = out := by
  rw [trv_mod, hW, hS]; exact h
theorem rt02 : rt (fd 0) 1 % (fd 0).p = 998244352 := rt_val _ _ _ (by decide +kernel) (by decide +kernel)
theorem rt05 : rt (fd 2) 2 % (fd 2).p = 65249968 := rt_val _ _ _ (by decide +kernel) (by decide +kernel)
theorem rt06 : rt (fd 1) 0 % (fd 1).p = 1 := rt_val _ _ _ (by decide +kernel) (by decide +kernel)
theorem hv1 : trv (fd 0).p (rt (fd 0) 1) 1 (2 ^ 1) [5, 7] = [12, 998244351] := tr_val _ _ _ _ _ _ _ 1 rt02 (by decide +kernel) (by decide +kernel)
theorem hv2 : trv (fd 0).p (bt (fd 0) 1) (sh (fd 0) (2 ^ 1)) (2 ^ 1) [12, 998244351] = [5, 7] :=
  tr_val _ _ _ _ _ _ 998244352 499122177 (bt_val _ _ _ _ rt02 (by decide +kernel) (by decide +kernel)) (sh_val _ _ _ (by decide +kernel) (by decide +kernel)) (by decide +kernel)
theorem hv3 : trv (fd 2).p (rt (fd 2) 2) 1 (2 ^ 2) [1, 2, 3, 4] = [10, 37272223, 167772159, 130499934] := tr_val _ _ _ _ _ _ _ 1 rt05 (by decide +kernel) (by decide +kernel)
theorem hv4 : trv (fd 1).p (bt (fd 1) 0) (sh (fd 1) (2 ^ 0)) (2 ^ 0) [9] = [9] :=
  tr_val _ _ _ _ _ _ 1 1 (bt_val _ _ _ _ rt06 (by decide +kernel) (by decide +kernel)) (sh_val _ _ _ (by decide +kernel) (by decide +kernel)) (by decide +kernel)
theorem hv5 : cvs [4294967295] [4294967295] = [18446744065119617025] := by decide +kernel
theorem hv6 : cvs [1, 2] [3, 4, 5] = [3, 10, 13, 10] := by decide +kernel
end Go.Proofs.YtbdmncpibnligaaGreatDoor
/- Limbs to the base 2^32 and the numbers that they are: plain lists and naturals. -/
namespace Go.Proofs.YtbdmncpibnligaaGreatDoor

/-- The number that limbs are, the lowest first. -/
def val : List Nat → Nat
  | [] => 0
  | x :: xs => x + 4294967296 * val xs

/-- The limbs of a number. -/
def limbs (n : Nat) : List Nat := if h : n = 0 then [] else n % 4294967296 :: limbs (n / 4294967296)
termination_by n
decreasing_by exact Nat.div_lt_self (Nat.pos_of_ne_zero h) (by decide)

theorem limbs_zero : limbs 0 = [] := by rw [limbs]; simp
theorem limbs_pos {n : Nat} (h : n ≠ 0) : limbs n = n % 4294967296 :: limbs (n / 4294967296) := by rw [limbs]; simp [h]

theorem val_limbs (n : Nat) : val (limbs n) = n := by
  induction n using Nat.strongRecOn with
  | _ n ih =>
    by_cases h : n = 0
    · subst h; rw [limbs_zero]; rfl
    · rw [limbs_pos h]
      have := ih (n / 4294967296) (Nat.div_lt_self (Nat.pos_of_ne_zero h) (by decide))
      simp only [val, this]
      omega

theorem limbs_lt (n : Nat) : ∀ x ∈ limbs n, x < 4294967296 := by
  induction n using Nat.strongRecOn with
  | _ n ih =>
    by_cases h : n = 0
    · subst h; rw [limbs_zero]; simp
    · rw [limbs_pos h]
      intro x hx
      rcases List.mem_cons.1 hx with rfl | hx
      · omega
      · exact ih (n / 4294967296) (Nat.div_lt_self (Nat.pos_of_ne_zero h) (by decide)) x hx

theorem val_append (xs ys : List Nat) : val (xs ++ ys) = val xs + 4294967296 ^ xs.length * val ys := by
  induction xs with
  | nil => simp [val]
  | cons x xs ih =>
    simp only [List.cons_append, val, ih, List.length_cons, Nat.pow_succ]
    rw [Nat.mul_add, Nat.add_assoc]
    congr 2
    rw [← Nat.mul_assoc, Nat.mul_comm 4294967296]

theorem val_lt (xs : List Nat) (h : ∀ x ∈ xs, x < 4294967296) : val xs < 4294967296 ^ xs.length := by
  induction xs with
  | nil => simp [val]
  | cons x xs ih =>
    have h1 := ih fun y hy => h y (List.mem_cons_of_mem _ hy)
    have h2 := h x (List.mem_cons_self ..)
    simp only [val, List.length_cons, Nat.pow_succ]
    rw [Nat.mul_comm]
    have : val xs * 4294967296 + 4294967296 ≤ 4294967296 ^ xs.length * 4294967296 := by
      have := Nat.mul_le_mul_right 4294967296 (show val xs + 1 ≤ 4294967296 ^ xs.length from h1)
      rw [Nat.add_mul] at this
      omega
    omega

theorem val_replicate_zero (k : Nat) : val (List.replicate k 0) = 0 := by
  induction k with
  | zero => rfl
  | succ k ih => simp [List.replicate_succ, val, ih]

/-- Limbs whose last one is not 0 are the limbs of their number. -/
theorem limbs_val (xs : List Nat) (h : ∀ x ∈ xs, x < 4294967296) (hl : xs ≠ [] → xs[xs.length - 1]?.getD 0 ≠ 0) : limbs (val xs) = xs := by
  induction xs with
  | nil => rw [val, limbs_zero]
  | cons x xs ih =>
    have h2 := h x (List.mem_cons_self ..)
    have ih' := ih (fun y hy => h y (List.mem_cons_of_mem _ hy)) (fun hne => by
      have := hl (by simp)
      cases xs with
      | nil => exact absurd rfl hne
      | cons y ys => simpa using this)
    have hne : val (x :: xs) ≠ 0 := by
      cases xs with
      | nil => have := hl (by simp); simp [val] at this ⊢; exact this
      | cons y ys =>
        intro h0
        simp only [val] at h0
        have : val (y :: ys) = 0 := by simp only [val]; omega
        rw [this, limbs_zero] at ih'
        cases ih'
    rw [limbs_pos hne]
    have e1 : val (x :: xs) % 4294967296 = x := by simp only [val]; omega
    have e2 : val (x :: xs) / 4294967296 = val xs := by simp only [val]; omega
    rw [e1, e2, ih']

theorem limbs_last {n : Nat} (h : n ≠ 0) : (limbs n)[(limbs n).length - 1]?.getD 0 ≠ 0 := by
  induction n using Nat.strongRecOn with
  | _ n ih =>
    rw [limbs_pos h]
    by_cases h2 : n / 4294967296 = 0
    · rw [h2, limbs_zero]
      simp; omega
    · have := ih _ (Nat.div_lt_self (Nat.pos_of_ne_zero h) (by decide)) h2
      rw [limbs_pos h2] at this ⊢
      simpa using this

theorem limbs_eq_nil {n : Nat} : limbs n = [] ↔ n = 0 := by
  constructor
  · intro h
    have := val_limbs n
    rw [h] at this
    exact this.symm
  · rintro rfl; exact limbs_zero

theorem limbs_inj {n m : Nat} (h : limbs n = limbs m) : n = m := by rw [← val_limbs n, h, val_limbs]

theorem lt_pow_len (n : Nat) : n < 4294967296 ^ (limbs n).length := by
  have := val_lt (limbs n) (limbs_lt n)
  rwa [val_limbs] at this

theorem pow_len_le {n : Nat} (h : n ≠ 0) : 4294967296 ^ ((limbs n).length - 1) ≤ n := by
  induction n using Nat.strongRecOn with
  | _ n ih =>
    rw [limbs_pos h]
    by_cases h2 : n / 4294967296 = 0
    · rw [h2, limbs_zero]
      simp; omega
    · have := ih _ (Nat.div_lt_self (Nat.pos_of_ne_zero h) (by decide)) h2
      have hl : 0 < (limbs (n / 4294967296)).length := by
        rw [limbs_pos h2]; simp
      simp only [List.length_cons, Nat.add_sub_cancel]
      obtain ⟨k, hk⟩ : ∃ k, (limbs (n / 4294967296)).length = k + 1 := ⟨_, (Nat.succ_pred_eq_of_pos hl).symm⟩
      rw [hk] at this ⊢
      simp only [Nat.add_sub_cancel] at this
      rw [Nat.pow_succ]
      have := Nat.mul_le_mul_right 4294967296 this
      omega

theorem len_le_of_lt {n k : Nat} (h : n < 4294967296 ^ k) : (limbs n).length ≤ k := by
  by_cases h0 : n = 0
  · subst h0; rw [limbs_zero]; simp
  · have := pow_len_le h0
    have h1 : 4294967296 ^ ((limbs n).length - 1) < 4294967296 ^ k := Nat.lt_of_le_of_lt this h
    have := (Nat.pow_lt_pow_iff_right (by decide : 1 < 4294967296)).1 h1
    omega

theorem len_mono {n m : Nat} (h : n ≤ m) : (limbs n).length ≤ (limbs m).length :=
  len_le_of_lt (Nat.lt_of_le_of_lt h (lt_pow_len m))

theorem val_take (xs : List Nat) (k : Nat) (h : ∀ j, k ≤ j → j < xs.length → xs[j]?.getD 0 = 0) : val (xs.take k) = val xs := by
  have e : xs = xs.take k ++ xs.drop k := (List.take_append_drop k xs).symm
  have hz : val (xs.drop k) = 0 := by
    have : xs.drop k = List.replicate (xs.drop k).length 0 := by
      apply List.ext_getElem (by simp)
      intro i h1 h2
      have hi : k + i < xs.length := by simp at h1; omega
      have := h (k + i) (by omega) hi
      simp [List.getElem?_eq_getElem hi] at this
      simp [this]
    rw [this, val_replicate_zero]
  conv => rhs; rw [e, val_append, hz]
  simp

/-- What is left when noughts at the end are cut off. -/
theorem limbs_take (xs : List Nat) (k : Nat) (hx : ∀ x ∈ xs, x < 4294967296) (hk : k ≤ xs.length) (h : ∀ j, k ≤ j → j < xs.length → xs[j]?.getD 0 = 0)
    (hl : 0 < k → xs[k - 1]?.getD 0 ≠ 0) : limbs (val xs) = xs.take k := by
  rw [← val_take xs k h]
  apply limbs_val
  · intro x hx'; exact hx x (List.mem_of_mem_take hx')
  · intro hne
    have h0 : 0 < k := by
      rcases Nat.eq_zero_or_pos k with rfl | h0
      · simp at hne
      · exact h0
    have hlen : (xs.take k).length = k := by simp; omega
    rw [hlen, List.getElem?_take, if_pos (by omega)]
    exact hl h0

theorem strip_eq (xs : List Nat) (k : Nat) (hx : ∀ x ∈ xs, x < 4294967296) (hk : k ≤ xs.length) (h : ∀ j, k ≤ j → j < xs.length → lb xs j = 0)
    (hl : 0 < k → lb xs (k - 1) ≠ 0) : limbs (val xs) = xs.take k := limbs_take xs k hx hk h hl

theorem lb_limbs (n j : Nat) : lb (limbs n) j = n / 4294967296 ^ j % 4294967296 := by
  unfold lb
  induction j generalizing n with
  | zero =>
    by_cases h : n = 0
    · subst h; rw [limbs_zero]; simp
    · rw [limbs_pos h]; simp
  | succ j ih =>
    by_cases h : n = 0
    · subst h; rw [limbs_zero]; simp
    · rw [limbs_pos h, Nat.pow_succ', ← Nat.div_div_eq_div_mul, ← ih]
      simp

/-- How two stand to each other: -1, 0, 1. -/
def cmpI (x y : Int) : Int := if x < y then -1 else if y < x then 1 else 0
/-- The i-th bit. -/
def bitN (n : Nat) (i : Int) : Nat := if i < 0 then 0 else n / 2 ^ i.toNat % 2

end Go.Proofs.YtbdmncpibnligaaGreatDoor
/- Shifts, limb by limb: plain lists and naturals. -/
namespace Go.Proofs.YtbdmncpibnligaaGreatDoor

theorem val_set (o : List Nat) (j x : Nat) (h : j < o.length) : val (o.set j x) + lb o j * 4294967296 ^ j = val o + x * 4294967296 ^ j := by
  induction o generalizing j with
  | nil => simp at h
  | cons y ys ih =>
    cases j with
    | zero => simp [val, lb]; omega
    | succ j =>
      have := ih j (by simpa using h)
      have e : lb (y :: ys) (j + 1) = lb ys j := by simp [lb]
      rw [e]
      simp only [List.set_cons_succ, val, Nat.pow_succ]
      have h1 : lb ys j * (4294967296 ^ j * 4294967296) = 4294967296 * (lb ys j * 4294967296 ^ j) := by rw [← Nat.mul_assoc, Nat.mul_comm]
      have h2 : x * (4294967296 ^ j * 4294967296) = 4294967296 * (x * 4294967296 ^ j) := by rw [← Nat.mul_assoc, Nat.mul_comm]
      rw [h1, h2]
      omega

theorem val_take_succ (xs : List Nat) (i : Nat) (h : i < xs.length) : val (xs.take (i + 1)) = val (xs.take i) + lb xs i * 4294967296 ^ i := by
  rw [List.take_succ_eq_append_getElem h, val_append]
  have e : lb xs i = xs[i] := by simp [lb, h]
  have hl : (xs.take i).length = i := by simp; omega
  simp only [val, hl, e, Nat.mul_zero, Nat.add_zero]
  rw [Nat.mul_comm]

/-- Low bits, and bits above them: together their sum. -/
theorem or_eq_add (a b s : Nat) (ha : a < 2 ^ s) : a ||| b * 2 ^ s = a + b * 2 ^ s := by
  have := Nat.two_pow_add_eq_or_of_lt ha b
  rw [Nat.or_comm, Nat.mul_comm, ← this, Nat.add_comm]

theorem shl_low (x s : Nat) (hs : s ≤ 32) : x * 2 ^ s % 4294967296 = x % 2 ^ (32 - s) * 2 ^ s := by
  have e : 4294967296 = 2 ^ (32 - s) * 2 ^ s := by rw [← Nat.pow_add, Nat.sub_add_cancel hs]
  rw [e, Nat.mul_mod_mul_right]
theorem shl_high (x s : Nat) (hs : s ≤ 32) : x / 2 ^ (32 - s) = x * 2 ^ s / 4294967296 := by
  have e : 4294967296 = 2 ^ (32 - s) * 2 ^ s := by rw [← Nat.pow_add, Nat.sub_add_cancel hs]
  rw [e, Nat.mul_div_mul_right _ _ (Nat.two_pow_pos s)]

/-- What 'out' is after i rounds of Shl. -/
structure ShlInv (xs : List Nat) (q s L i : Nat) (o : List Nat) : Prop where
  len : o.length = L
  lt : ∀ x ∈ o, x < 4294967296
  val_eq : val o = val (xs.take i) * (4294967296 ^ q * 2 ^ s)
  low : lb o (q + i) < 2 ^ s
  rest : ∀ j, q + i < j → lb o j = 0

theorem ShlInv.start (xs : List Nat) (q s L : Nat) : ShlInv xs q s L 0 (List.replicate L 0) :=
  ⟨by simp, fun x hx => by rw [List.eq_of_mem_replicate hx]; decide, by simp [val, val_replicate_zero], by rw [lb_zeros]; exact Nat.two_pow_pos s, fun j _ => lb_zeros L j⟩

def shlStep (o : List Nat) (x q s i : Nat) : List Nat := (o.set (q + i) (lb o (q + i) ||| x * 2 ^ s % 4294967296)).set (q + i + 1) (x / 2 ^ (32 - s))

theorem ShlInv.step {xs : List Nat} {q s L i : Nat} {o : List Nat} (h : ShlInv xs q s L i o) (hs : s < 32) (hx : ∀ x ∈ xs, x < 4294967296) (hi : i < xs.length) (hL : L = q + xs.length + 1) :
    ShlInv xs q s L (i + 1) (shlStep o (lb xs i) q s i) := by
  have hxi := lb_lt hx i
  have ho : lb o (q + i) ||| lb xs i * 2 ^ s % 4294967296 = lb o (q + i) + lb xs i * 2 ^ s % 4294967296 := by
    rw [shl_low _ _ (by omega)]; exact or_eq_add _ _ _ h.low
  have hb : lb o (q + i) + lb xs i * 2 ^ s % 4294967296 < 4294967296 := by
    have h1 := shl_low (lb xs i) s (by omega)
    have h2 : lb xs i % 2 ^ (32 - s) + 1 ≤ 2 ^ (32 - s) := Nat.mod_lt _ (Nat.two_pow_pos _)
    have h3 := Nat.mul_le_mul_right (2 ^ s) h2
    rw [← Nat.pow_add, Nat.sub_add_cancel (by omega), Nat.add_mul] at h3
    have := h.low
    rw [h1]
    omega
  have hhi : lb xs i / 2 ^ (32 - s) = lb xs i * 2 ^ s / 4294967296 := shl_high _ _ (by omega)
  have hlow : lb xs i * 2 ^ s / 4294967296 < 2 ^ s := by
    rw [Nat.div_lt_iff_lt_mul (by decide), Nat.mul_comm (2 ^ s)]
    exact Nat.mul_lt_mul_of_pos_right hxi (Nat.two_pow_pos s)
  have hs32 : 2 ^ s ≤ 4294967296 := by
    have := Nat.pow_le_pow_right (show 0 < 2 by decide) (show s ≤ 32 by omega)
    simpa using this
  have e1 := val_set o (q + i) (lb o (q + i) + lb xs i * 2 ^ s % 4294967296) (by rw [h.len]; omega)
  have e2 := val_set (o.set (q + i) (lb o (q + i) + lb xs i * 2 ^ s % 4294967296)) (q + i + 1) (lb xs i * 2 ^ s / 4294967296) (by simp [h.len]; omega)
  rw [lb_set_other _ (by omega), h.rest (q + i + 1) (by omega), Nat.zero_mul, Nat.add_zero] at e2
  unfold shlStep
  rw [ho, hhi]
  refine ⟨by simp [h.len], set_lt (set_lt h.lt hb) (by omega), ?_, ?_, ?_⟩
  · rw [e2, val_take_succ xs i hi, Nat.add_mul, ← h.val_eq]
    have e3 : lb xs i * 4294967296 ^ i * (4294967296 ^ q * 2 ^ s) = (lb xs i * 2 ^ s) * 4294967296 ^ (q + i) := by
      rw [Nat.pow_add]; simp only [Nat.mul_assoc, Nat.mul_left_comm, Nat.mul_comm]
    rw [e3]
    have e4 : lb xs i * 2 ^ s = lb xs i * 2 ^ s % 4294967296 + lb xs i * 2 ^ s / 4294967296 * 4294967296 := by omega
    have e5 : lb xs i * 2 ^ s / 4294967296 * 4294967296 ^ (q + i + 1) = (lb xs i * 2 ^ s / 4294967296 * 4294967296) * 4294967296 ^ (q + i) := by
      rw [Nat.pow_succ]; simp only [Nat.mul_assoc, Nat.mul_left_comm, Nat.mul_comm]
    rw [e5]
    conv => rhs; rw [e4]
    rw [Nat.add_mul] at e1 ⊢
    omega
  · rw [show q + (i + 1) = q + i + 1 by omega, lb_set_same _ (by simp [h.len]; omega)]; exact hlow
  · intro j hj
    rw [lb_set_other _ (by omega), lb_set_other _ (by omega)]
    exact h.rest j (by omega)
theorem pow32 (q : Nat) : 4294967296 ^ q = 2 ^ (32 * q) := by rw [Nat.pow_mul]
theorem ShlInv.done {xs : List Nat} {k L : Nat} {o : List Nat} (h : ShlInv xs (k / 32) (k % 32) L xs.length o) : val o = val xs * 2 ^ k := by
  rw [h.val_eq, List.take_length, pow32, ← Nat.pow_add, Nat.div_add_mod]

theorem val_drop (xs : List Nat) (q : Nat) (hx : ∀ x ∈ xs, x < 4294967296) : val (xs.drop q) = val xs / 4294967296 ^ q := by
  by_cases hq : q ≤ xs.length
  · have e : val xs = val (xs.take q) + 4294967296 ^ q * val (xs.drop q) := by
      have h := val_append (xs.take q) (xs.drop q)
      rw [List.take_append_drop, List.length_take, Nat.min_eq_left hq] at h
      exact h
    have hlt := val_lt (xs.take q) (fun x hx' => hx x (List.mem_of_mem_take hx'))
    rw [List.length_take, Nat.min_eq_left hq] at hlt
    rw [e, Nat.add_mul_div_left _ _ (Nat.pow_pos (by decide)), Nat.div_eq_of_lt hlt, Nat.zero_add]
  · rw [List.drop_eq_nil_of_le (by omega)]
    have := val_lt xs hx
    have h2 : 4294967296 ^ xs.length ≤ 4294967296 ^ q := Nat.pow_le_pow_right (by decide) (by omega)
    rw [Nat.div_eq_of_lt (by omega)]
    rfl

structure ShrInv (ys : List Nat) (s L i : Nat) (o : List Nat) : Prop where
  len : o.length = L
  lt : ∀ x ∈ o, x < 4294967296
  val_eq : val o = val (ys.take i) / 2 ^ s
  low : 0 < i → lb o (i - 1) < 2 ^ (32 - s)
  rest : ∀ j, i ≤ j → lb o j = 0

theorem ShrInv.start (ys : List Nat) (s L : Nat) : ShrInv ys s L 0 (List.replicate L 0) :=
  ⟨by simp, fun x hx => by rw [List.eq_of_mem_replicate hx]; decide, by simp [val, val_replicate_zero], fun h => absurd h (by omega), fun j _ => lb_zeros L j⟩

def shrStep0 (o : List Nat) (x s i : Nat) : List Nat := o.set i (x / 2 ^ s)
def shrStep (o : List Nat) (x s i : Nat) : List Nat := (o.set i (x / 2 ^ s)).set (i - 1) (lb o (i - 1) ||| x * 2 ^ (32 - s) % 4294967296)

theorem shr_top (x s : Nat) (hx : x < 4294967296) (hs : s ≤ 32) : x / 2 ^ s < 2 ^ (32 - s) := by
  rw [Nat.div_lt_iff_lt_mul (Nat.two_pow_pos s), ← Nat.pow_add, Nat.sub_add_cancel hs]
  exact hx

theorem ShrInv.step0 {ys : List Nat} {s L : Nat} {o : List Nat} (h : ShrInv ys s L 0 o) (hs : s < 32) (hx : ∀ x ∈ ys, x < 4294967296) (hi : 0 < ys.length) (hL : L = ys.length) :
    ShrInv ys s L 1 (shrStep0 o (lb ys 0) s 0) := by
  have hxi := lb_lt hx 0
  have hle : lb ys 0 / 2 ^ s ≤ lb ys 0 := Nat.div_le_self _ _
  have e1 := val_set o 0 (lb ys 0 / 2 ^ s) (by rw [h.len]; omega)
  rw [h.rest 0 (Nat.le_refl _), h.val_eq] at e1
  unfold shrStep0
  refine ⟨by simp [h.len], set_lt h.lt (by omega), ?_, fun _ => ?_, fun j hj => ?_⟩
  · have := val_take_succ ys 0 hi
    simp only [List.take_zero, val, Nat.zero_div, Nat.zero_add, Nat.pow_zero, Nat.mul_one] at e1 this
    rw [this]; omega
  · rw [lb_set_same _ (by rw [h.len]; omega)]; exact shr_top _ _ hxi (by omega)
  · rw [lb_set_other _ (by omega)]; exact h.rest j (by omega)

theorem ShrInv.step {ys : List Nat} {s L i : Nat} {o : List Nat} (h : ShrInv ys s L i o) (h0 : 0 < i) (hs : s < 32) (hx : ∀ x ∈ ys, x < 4294967296) (hi : i < ys.length) (hL : L = ys.length) :
    ShrInv ys s L (i + 1) (shrStep o (lb ys i) s i) := by
  obtain ⟨i, rfl⟩ : ∃ j, i = j + 1 := ⟨i - 1, by omega⟩
  have hxi := lb_lt hx (i + 1)
  have hle : lb ys (i + 1) / 2 ^ s ≤ lb ys (i + 1) := Nat.div_le_self _ _
  have hlow := h.low h0
  rw [Nat.add_sub_cancel] at hlow
  have ho : lb o i ||| lb ys (i + 1) * 2 ^ (32 - s) % 4294967296 = lb o i + lb ys (i + 1) * 2 ^ (32 - s) % 4294967296 := by
    rw [shl_low _ _ (by omega)]; exact or_eq_add _ _ _ hlow
  have hb : lb o i + lb ys (i + 1) * 2 ^ (32 - s) % 4294967296 < 4294967296 := by
    have h1 := shl_low (lb ys (i + 1)) (32 - s) (by omega)
    have h2 : lb ys (i + 1) % 2 ^ (32 - (32 - s)) + 1 ≤ 2 ^ (32 - (32 - s)) := Nat.mod_lt _ (Nat.two_pow_pos _)
    have h3 := Nat.mul_le_mul_right (2 ^ (32 - s)) h2
    rw [← Nat.pow_add, Nat.sub_add_cancel (by omega), Nat.add_mul] at h3
    rw [h1]
    omega
  have e1 := val_set o (i + 1) (lb ys (i + 1) / 2 ^ s) (by rw [h.len]; omega)
  rw [h.rest (i + 1) (Nat.le_refl _), Nat.zero_mul, Nat.add_zero] at e1
  have e2 := val_set (o.set (i + 1) (lb ys (i + 1) / 2 ^ s)) i (lb o i + lb ys (i + 1) * 2 ^ (32 - s) % 4294967296) (by simp [h.len]; omega)
  rw [lb_set_other _ (by omega)] at e2
  unfold shrStep
  rw [Nat.add_sub_cancel, ho]
  refine ⟨by simp [h.len], set_lt (set_lt h.lt (by omega)) hb, ?_, fun _ => ?_, fun j hj => ?_⟩
  · have e3 := val_take_succ ys (i + 1) hi
    have e4 : lb ys (i + 1) * 4294967296 ^ (i + 1) = lb ys (i + 1) * 2 ^ (32 - s) * 4294967296 ^ i * 2 ^ s := by
      have : (4294967296 : Nat) = 2 ^ (32 - s) * 2 ^ s := by rw [← Nat.pow_add, Nat.sub_add_cancel (by omega)]
      rw [Nat.pow_succ]
      conv => lhs; rw [show (4294967296 : Nat) ^ i * 4294967296 = 4294967296 ^ i * (2 ^ (32 - s) * 2 ^ s) by rw [← this]]
      simp only [Nat.mul_assoc, Nat.mul_left_comm, Nat.mul_comm]
    rw [e3, e4, Nat.add_mul_div_right _ _ (Nat.two_pow_pos s), ← h.val_eq]
    have e5 : lb ys (i + 1) / 2 ^ s = lb ys (i + 1) * 2 ^ (32 - s) / 4294967296 := by
      have := shl_high (lb ys (i + 1)) (32 - s) (by omega)
      rwa [show 32 - (32 - s) = s by omega] at this
    have e6 : lb ys (i + 1) / 2 ^ s * 4294967296 ^ (i + 1) = (lb ys (i + 1) / 2 ^ s * 4294967296) * 4294967296 ^ i := by
      rw [Nat.pow_succ]; simp only [Nat.mul_assoc, Nat.mul_left_comm, Nat.mul_comm]
    have e7 : lb ys (i + 1) * 2 ^ (32 - s) = lb ys (i + 1) * 2 ^ (32 - s) % 4294967296 + lb ys (i + 1) / 2 ^ s * 4294967296 := by rw [e5]; omega
    rw [e6] at e1
    rw [Nat.add_mul] at e2
    have e8 : lb ys (i + 1) * 2 ^ (32 - s) * 4294967296 ^ i = lb ys (i + 1) * 2 ^ (32 - s) % 4294967296 * 4294967296 ^ i + lb ys (i + 1) / 2 ^ s * 4294967296 * 4294967296 ^ i := by
      rw [← Nat.add_mul, ← e7]
    omega
  · rw [Nat.add_sub_cancel, lb_set_other _ (by omega), lb_set_same _ (by rw [h.len]; omega)]; exact shr_top _ _ hxi (by omega)
  · rw [lb_set_other _ (by omega), lb_set_other _ (by omega)]; exact h.rest j (by omega)

theorem ShrInv.done {xs : List Nat} {k L i : Nat} {o : List Nat} (hx : ∀ x ∈ xs, x < 4294967296) (h : ShrInv (xs.drop (k / 32)) (k % 32) L i o) (hi : i = (xs.drop (k / 32)).length) : val o = val xs / 2 ^ k := by
  subst hi
  rw [h.val_eq, List.take_length, val_drop _ _ hx, pow32, Nat.div_div_eq_div_mul, ← Nat.pow_add, Nat.div_add_mod]

/-- A bit of a number is that bit of its limb. -/
theorem bit_limb (n k : Nat) : lb (limbs n) (k / 32) / 2 ^ (k % 32) % 2 = n / 2 ^ k % 2 := by
  rw [lb_limbs, pow32]
  have hs : k % 32 < 32 := Nat.mod_lt _ (by decide)
  generalize hm : n / 2 ^ (32 * (k / 32)) = m
  have e : (4294967296 : Nat) = 2 ^ (k % 32) * 2 ^ (32 - k % 32) := by rw [← Nat.pow_add, show k % 32 + (32 - k % 32) = 32 by omega]
  rw [e, Nat.mod_mul_right_div_self, Nat.mod_mod_of_dvd _ ⟨2 ^ (32 - k % 32 - 1), by rw [← Nat.pow_succ', show (32 - k % 32 - 1).succ = 32 - k % 32 by omega]⟩, ← hm, Nat.div_div_eq_div_mul, ← Nat.pow_add, Nat.div_add_mod]

theorem bit_out (n k : Nat) (h : (limbs n).length ≤ k / 32) : n / 2 ^ k % 2 = 0 := by
  rw [← bit_limb, lb_out h, Nat.zero_div]

/-- The length in bits is that of the limbs ahead and of the last one. -/
theorem blen_limbs (n : Nat) (h : n ≠ 0) : blen n = 32 * ((limbs n).length - 1) + blen (lb (limbs n) ((limbs n).length - 1)) := by
  have hl := limbs_last h
  have e : lb (limbs n) ((limbs n).length - 1) = n / 2 ^ (32 * ((limbs n).length - 1)) := by
    rw [lb_limbs, ← pow32]
    apply Nat.mod_eq_of_lt
    have := lt_pow_len n
    have hp : 0 < (limbs n).length := by rw [limbs_pos h]; simp
    rw [Nat.div_lt_iff_lt_mul (Nat.pow_pos (by decide)), ← Nat.pow_succ', show ((limbs n).length - 1).succ = (limbs n).length by omega]
    exact this
  rw [e]
  apply blen_shift
  rw [← e]
  exact hl

/-- A number below 2^64 as one; and whether it is below. -/
def lowN (n : Nat) : Nat := if n < 18446744073709551616 then n else 0
def lowB (n : Nat) : Bool := decide (n < 18446744073709551616)
theorem lt_of_len_le {n k : Nat} (h : (limbs n).length ≤ k) : n < 4294967296 ^ k :=
  Nat.lt_of_lt_of_le (lt_pow_len n) (Nat.pow_le_pow_right (by decide) h)
theorem le_of_lt_len {n k : Nat} (h : k < (limbs n).length) : 4294967296 ^ k ≤ n := by
  rcases Nat.lt_or_ge n (4294967296 ^ k) with h1 | h1
  · have := len_le_of_lt h1; omega
  · exact h1
theorem lowB_of_le {n : Nat} (h : (limbs n).length ≤ 2) : lowB n = true := by
  have := lt_of_len_le h
  exact decide_eq_true (by omega)
theorem lowN_of_le {n : Nat} (h : (limbs n).length ≤ 2) : lowN n = n := by
  have := lt_of_len_le h
  exact if_pos (by omega)
theorem lowB_of_gt {n : Nat} (h : 2 < (limbs n).length) : lowB n = false := by
  have := le_of_lt_len h
  exact decide_eq_false (by omega)
theorem lowN_of_gt {n : Nat} (h : 2 < (limbs n).length) : lowN n = 0 := by
  have := le_of_lt_len h
  exact if_neg (by omega)
theorem drop_lt {xs : List Nat} (q : Nat) (hx : ∀ x ∈ xs, x < 4294967296) : ∀ x ∈ xs.drop q, x < 4294967296 := fun x h => hx x (List.mem_of_mem_drop h)
end Go.Proofs.YtbdmncpibnligaaGreatDoor
/- Order of limbs: plain lists and naturals. -/
namespace Go.Proofs.YtbdmncpibnligaaGreatDoor

/-- The first k of L - 1, L - 2, .., 0. -/
def downs (L k : Nat) : List Nat := (List.range k).map fun j => L - 1 - j
theorem downs_succ (L k : Nat) : downs L (k + 1) = downs L k ++ [L - 1 - k] := by simp [downs, List.range_succ]
theorem downs_length (L k : Nat) : (downs L k).length = k := by simp [downs]
theorem mem_downs {L k j : Nat} (hk : k ≤ L) : j ∈ downs L k ↔ L - k ≤ j ∧ j < L := by
  simp only [downs, List.mem_map, List.mem_range]
  constructor
  · rintro ⟨i, hi, rfl⟩; omega
  · intro h; exact ⟨L - 1 - j, by omega, by omega⟩

theorem val_lt_of_top {xs ys : List Nat} (hl : xs.length = ys.length) (hx : ∀ x ∈ xs, x < 4294967296) (hy : ∀ x ∈ ys, x < 4294967296) (p : Nat) (hp : p < xs.length)
    (ht : ∀ j, p < j → j < xs.length → lb xs j = lb ys j) (hlt : lb xs p < lb ys p) : val xs < val ys := by
  induction xs generalizing ys p with
  | nil => simp at hp
  | cons x xs ih =>
    cases ys with
    | nil => simp at hl
    | cons y ys =>
      have e : ∀ (a : Nat) (l : List Nat) j, lb (a :: l) (j + 1) = lb l j := fun a l j => by simp [lb]
      have hl' : xs.length = ys.length := by simpa using hl
      have h1 := hx x (List.mem_cons_self ..)
      have h2 := hy y (List.mem_cons_self ..)
      simp only [val]
      cases p with
      | zero =>
        have : xs = ys := ext_lb hl' fun j hj => by
          have := ht (j + 1) (by omega) (by simpa using hj)
          rwa [e, e] at this
        subst this
        have h3 : lb (x :: xs) 0 = x := by simp [lb]
        have h4 : lb (y :: xs) 0 = y := by simp [lb]
        omega
      | succ p =>
        rw [e, e] at hlt
        have := ih hl' (fun z hz => hx z (List.mem_cons_of_mem _ hz)) (fun z hz => hy z (List.mem_cons_of_mem _ hz)) p (by simpa using hp)
          (fun j h3 h4 => by
            have := ht (j + 1) (by omega) (by simpa using h4)
            rwa [e, e] at this) hlt
        omega

theorem cmpI_lt {x y : Int} (h : x < y) : cmpI x y = -1 := if_pos h
theorem cmpI_gt {x y : Int} (h : y < x) : cmpI x y = 1 := by rw [cmpI, if_neg (by omega), if_pos h]
theorem cmpI_eq (x : Int) : cmpI x x = 0 := by rw [cmpI, if_neg (by omega), if_neg (by omega)]

theorem lt_of_len_lt {n m : Nat} (h : (limbs n).length < (limbs m).length) : n < m := by
  have h1 := lt_pow_len n
  have h2 := le_of_lt_len h
  omega

/-- Numbers whose limbs differ in number stand as these numbers. -/
theorem cmpI_len {n m : Nat} (h : (limbs n).length ≠ (limbs m).length) : cmpI (limbs n).length (limbs m).length = cmpI n m := by
  rcases Nat.lt_or_gt_of_ne h with h | h
  · have := lt_of_len_lt h
    rw [cmpI_lt (by omega), cmpI_lt (by omega)]
  · have := lt_of_len_lt h
    rw [cmpI_gt (by omega), cmpI_gt (by omega)]

/-- Of as many limbs the first unlike ones from the top decide. -/
theorem cmpI_top {n m p : Nat} (hl : (limbs n).length = (limbs m).length) (hp : p < (limbs n).length) (ht : ∀ j, p < j → j < (limbs n).length → lb (limbs n) j = lb (limbs m) j)
    (hne : lb (limbs n) p ≠ lb (limbs m) p) : cmpI (lb (limbs n) p) (lb (limbs m) p) = cmpI n m := by
  rcases Nat.lt_or_gt_of_ne hne with h | h
  · have := val_lt_of_top hl (limbs_lt n) (limbs_lt m) p hp ht h
    rw [val_limbs, val_limbs] at this
    rw [cmpI_lt (by omega), cmpI_lt (by omega)]
  · have := val_lt_of_top hl.symm (limbs_lt m) (limbs_lt n) p (by omega) (fun j h1 h2 => (ht j h1 (by omega)).symm) h
    rw [val_limbs, val_limbs] at this
    rw [cmpI_gt (by omega), cmpI_gt (by omega)]
end Go.Proofs.YtbdmncpibnligaaGreatDoor
