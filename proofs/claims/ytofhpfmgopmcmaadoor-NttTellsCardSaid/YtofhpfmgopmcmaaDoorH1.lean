/- Sums of products of limbs; rows of three limbs each. -/
import Derived.Test.YtofhpfmgopmcmaaDoorG6
namespace Go.Proofs.YtofhpfmgopmcmaaDoor
open Go.RowKit
set_option linter.unusedVariables false

/-- The sum of a[i'] b[m - i'] over i' below i. -/
def cv (a b : List Nat) : Nat → Nat → Nat
  | 0, _ => 0
  | i + 1, m => cv a b i m + if i ≤ m then lb a i * lb b (m - i) else 0
/-- And those of row i up to j. -/
def cvp (a b : List Nat) (i j m : Nat) : Nat := cv a b i m + if i ≤ m ∧ m - i < j then lb a i * lb b (m - i) else 0
theorem cvp_zero (a b : List Nat) (i m : Nat) : cvp a b i 0 m = cv a b i m := by
  unfold cvp; rw [if_neg (by omega)]; rfl
theorem cvp_full (a b : List Nat) (i j m : Nat) (h : b.length ≤ j) : cvp a b i j m = cv a b (i + 1) m := by
  unfold cvp; rw [cv]
  by_cases h1 : i ≤ m
  · rw [if_pos h1]
    by_cases h2 : m - i < j
    · rw [if_pos ⟨h1, h2⟩]
    · rw [if_neg (by omega), lb_out (o := b) (by omega), Nat.mul_zero]
  · rw [if_neg h1, if_neg (by omega)]
theorem cvp_succ (a b : List Nat) (i j m : Nat) : cvp a b i (j + 1) m = cvp a b i j m + if m = i + j then lb a i * lb b j else 0 := by
  unfold cvp
  by_cases h : m = i + j
  · subst h
    rw [if_pos (by omega), if_neg (by omega), if_pos rfl, Nat.add_sub_cancel_left]; rfl
  · rw [if_neg h]
    by_cases h2 : i ≤ m ∧ m - i < j
    · rw [if_pos h2, if_pos (by omega)]; rfl
    · rw [if_neg h2, if_neg (by omega)]
theorem sq_lt {x y : Nat} (hx : x < 4294967296) (hy : y < 4294967296) : x * y ≤ 18446744065119617025 := Nat.mul_le_mul (show x ≤ 4294967295 by omega) (show y ≤ 4294967295 by omega)
theorem cv_le (a b : List Nat) (ha : ∀ x ∈ a, x < 4294967296) (hb : ∀ x ∈ b, x < 4294967296) (i m : Nat) : cv a b i m ≤ i * 18446744065119617025 := by
  induction i with
  | zero => simp [cv]
  | succ i ih =>
    rw [cv]
    have : (if i ≤ m then lb a i * lb b (m - i) else 0) ≤ 18446744065119617025 := by
      split
      · exact sq_lt (lb_lt ha _) (lb_lt hb _)
      · omega
    rw [Nat.add_mul]; omega
/-- All sums. -/
def conv (a b : List Nat) : List Nat := (List.range (a.length + b.length - 1)).map fun m => cv a b a.length m
theorem conv_len (a b : List Nat) : (conv a b).length = a.length + b.length - 1 := by simp [conv]
theorem lb_map (n : Nat) (f : Nat → Nat) (m : Nat) (h : m < n) : lb ((List.range n).map f) m = f m := by simp [lb, h]
theorem lb_conv (a b : List Nat) (m : Nat) (h : m < a.length + b.length - 1) : lb (conv a b) m = cv a b a.length m := lb_map _ _ _ h

/-- Three limbs of each number. -/
def fl : List Nat → List Nat
  | [] => []
  | c :: cs => c % 4294967296 :: c / 4294967296 % 4294967296 :: c / 18446744073709551616 % 4294967296 :: fl cs
theorem fl_len (cs : List Nat) : (fl cs).length = cs.length * 3 := by
  induction cs with
  | nil => rfl
  | cons c cs ih => simp only [fl, List.length_cons, ih]; omega
theorem fl_lt (cs : List Nat) : ∀ x ∈ fl cs, x < 4294967296 := by
  induction cs with
  | nil => simp [fl]
  | cons c cs ih =>
    intro x hx
    simp only [fl, List.mem_cons] at hx
    rcases hx with rfl | rfl | rfl | hx
    · omega
    · omega
    · omega
    · exact ih x hx
theorem lb_cons_succ (x : Nat) (xs : List Nat) (j : Nat) : lb (x :: xs) (j + 1) = lb xs j := by simp [lb]
theorem lb_cons_zero (x : Nat) (xs : List Nat) : lb (x :: xs) 0 = x := by simp [lb]
theorem lb_fl (cs : List Nat) (m : Nat) (h : m < cs.length) : lb (fl cs) (m * 3) = lb cs m % 4294967296 ∧ lb (fl cs) (m * 3 + 1) = lb cs m / 4294967296 % 4294967296 ∧ lb (fl cs) (m * 3 + 2) = lb cs m / 18446744073709551616 % 4294967296 := by
  induction cs generalizing m with
  | nil => simp at h
  | cons c cs ih =>
    rcases m with _ | m
    · simp only [fl, Nat.zero_mul, Nat.zero_add]
      exact ⟨rfl, rfl, rfl⟩
    · have := ih m (by simpa using h)
      rw [show (m + 1) * 3 = m * 3 + 1 + 1 + 1 by omega]
      simp only [fl, lb_cons_succ]
      exact this
theorem fl_set (cs : List Nat) (m c : Nat) (h : m < cs.length) : fl (cs.set m c) = (((fl cs).set (m * 3) (c % 4294967296)).set (m * 3 + 1) (c / 4294967296 % 4294967296)).set (m * 3 + 2) (c / 18446744073709551616 % 4294967296) := by
  induction cs generalizing m with
  | nil => simp at h
  | cons d cs ih =>
    rcases m with _ | m
    · simp [fl]
    · have := ih m (by simpa using h)
      rw [List.set_cons_succ, fl, this]
      rw [show (m + 1) * 3 = m * 3 + 1 + 1 + 1 by omega, show m * 3 + 1 + 1 + 1 + 1 = (m * 3 + 1) + 1 + 1 + 1 by omega, show m * 3 + 1 + 1 + 1 + 2 = (m * 3 + 2) + 1 + 1 + 1 by omega]
      simp only [fl, List.set_cons_succ]
theorem fl_zeros (n : Nat) : fl (List.replicate n 0) = List.replicate (n * 3) 0 := by
  induction n with
  | zero => rfl
  | succ n ih => rw [List.replicate_succ, fl, ih, show (n + 1) * 3 = n * 3 + 1 + 1 + 1 by omega, List.replicate_succ, List.replicate_succ, List.replicate_succ]

/-- v is a row of the call's own, of three limbs each: the numbers cs. -/
def Own3 (w : World) (base : Nat) (v : Value) (cs : List Nat) : Prop := w.ownsRow base 52 3 v cs.length (L32 (fl cs))
theorem Own3.block {w : World} {base g n c : Nat} {o : List Nat} (h : Own3 w base (.slice (some ⟨g, 0, none⟩) n c) o) : base ≤ g ∧ g < w.heap.size := by
  have h0 : w.ownsRow base 52 3 (.slice (some ⟨g, 0, none⟩) n c) o.length (L32 (fl o)) := h
  exact h0.lt g rfl
theorem Own3.caps {w : World} {base g n c : Nat} {o : List Nat} (h : Own3 w base (.slice (some ⟨g, 0, none⟩) n c) o) : n = o.length ∧ n ≤ c ∧ c ≤ maxLen := by
  rcases h.2 with ⟨h1, _⟩ | ⟨g', cap, cur, h1, hg, hh, h2, h3, h4, h5⟩
  · cases h1
  · injection h1 with e1 e2 e3
    subst e2 e3
    exact ⟨rfl, h2, h3⟩
theorem Own3.below {w w' : World} {base B : Nat} {v : Value} {o : List Nat} (h : Own3 w base v o) (hB : Below B w w') (hv : ∀ g, v.ownBlock = some g → g < B) : Own3 w' base v o := by
  refine ⟨h.1, ?_⟩
  rcases h.2 with hn | ⟨g, cap, cur, rfl, hb, hgg, rest⟩
  · exact .inl hn
  · refine .inr ⟨g, cap, cur, rfl, hb, ?_, rest⟩
    rw [hB.block g (hv g rfl)]
    exact hgg
theorem Own3.ext {w w' : World} {base g n c : Nat} {o : List Nat} (h : Own3 w base (.slice (some ⟨g, 0, none⟩) n c) o) (hB : Ext w w') : Own3 w' base (.slice (some ⟨g, 0, none⟩) n c) o :=
  h.below hB (fun g' hg => by injection hg with hg; subst hg; exact h.block.2)
theorem Own3.cell {w : World} {base g n c : Nat} {o : List Nat} (h : Own3 w base (.slice (some ⟨g, 0, none⟩) n c) o) {j : Nat} (hj : j < o.length * 3) : w.cell? ⟨g, j, none⟩ = some (.int .u32 (lb (fl o) j : Nat)) := by
  obtain ⟨e, _, _⟩ := h.caps
  subst e
  have h0 : w.ownsRow base 52 3 (.slice (some ⟨g, 0, none⟩) o.length c) o.length (L32 (fl o)) := h
  rw [World.ownsRow.cellAt h0 j hj]; exact L32_get _ (by rw [fl_len]; exact hj)
theorem Own3.frozen {w : World} {base g n c : Nat} {o : List Nat} (h : Own3 w base (.slice (some ⟨g, 0, none⟩) n c) o) (j : Nat) : w.frozen? ⟨g, j, none⟩ = false := by
  obtain ⟨e, _, _⟩ := h.caps
  subst e
  have h0 : w.ownsRow base 52 3 (.slice (some ⟨g, 0, none⟩) o.length c) o.length (L32 (fl o)) := h
  exact World.ownsRow.frozenAt h0 j
theorem Own3.set_ {w : World} {base g n c : Nat} {o : List Nat} (h : Own3 w base (.slice (some ⟨g, 0, none⟩) n c) o) (m x : Nat) (hm : m < o.length) :
    Own3 (((w.setCell ⟨g, m * 3, none⟩ (.int .u32 (x % 4294967296 : Nat))).setCell ⟨g, m * 3 + 1, none⟩ (.int .u32 (x / 4294967296 % 4294967296 : Nat))).setCell ⟨g, m * 3 + 2, none⟩ (.int .u32 (x / 18446744073709551616 % 4294967296 : Nat))) base (.slice (some ⟨g, 0, none⟩) n c) (o.set m x) := by
  obtain ⟨e, _, _⟩ := h.caps
  subst e
  have h0 : w.ownsRow base 52 3 (.slice (some ⟨g, 0, none⟩) o.length c) o.length (L32 (fl o)) := h
  have h1 := (World.ownsRow.stored h0 (m * 3) (.int .u32 (x % 4294967296 : Nat))).1
  have h2 := (World.ownsRow.stored h1 (m * 3 + 1) (.int .u32 (x / 4294967296 % 4294967296 : Nat))).1
  have h3 := (World.ownsRow.stored h2 (m * 3 + 2) (.int .u32 (x / 18446744073709551616 % 4294967296 : Nat))).1
  unfold Own3
  rw [List.length_set, fl_set _ _ _ hm, L32_set, L32_set, L32_set]
  exact h3
theorem info3 : (Tryd.prog.info? 52).map (fun i => (i.zero, i.size, i.bytes)) = some (some (.agg #[.int .u32 0, .int .u32 0, .int .u32 0]), 3, 12) := by kernel_rfl
theorem madeCells3 (n : Nat) : (madeCells (Value.agg #[.int .u32 0, .int .u32 0, .int .u32 0]).cells (n * 3)).toList = L32 (fl (List.replicate n 0)) := by
  rw [fl_zeros, L32_zeros]
  apply List.ext_getElem?
  intro j
  by_cases hj : j < n * 3
  · have h3 : j % 3 = 0 ∨ j % 3 = 1 ∨ j % 3 = 2 := by omega
    rcases h3 with h | h | h <;> simp [madeCells, Value.cells, hj, h]
  · simp [madeCells, hj]
end Go.Proofs.YtofhpfmgopmcmaaDoor
