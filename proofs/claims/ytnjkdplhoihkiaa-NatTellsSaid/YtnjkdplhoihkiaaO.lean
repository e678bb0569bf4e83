/- Rows of limbs that a call has made itself. -/
import Derived.Test.YtnjkdplhoihkiaaW2
import Derived.Laws.AppendOwn
import Derived.Laws.OwnMore
import Derived.Laws.BitsAllLaws
import Derived.Laws.Bits64
import Derived.OwnWalk
import Derived.Test.YtnjkdplhoihkiaaM2
namespace Go.Proofs.Ytnjkdplhoihkiaa
open Go.RowKit
set_option linter.unusedVariables false

def L32 (o : List Nat) : List Value := o.map fun x => Value.int .u32 (x : Nat)
theorem L32_length (o : List Nat) : (L32 o).length = o.length := by simp [L32]
theorem L32_get (o : List Nat) {j : Nat} (h : j < o.length) : (L32 o)[j]? = some (.int .u32 (lb o j : Nat)) := by
  unfold L32 lb; simp [h]
theorem L32_append (a b : List Nat) : L32 (a ++ b) = L32 a ++ L32 b := by simp [L32]
theorem L32_set (a : List Nat) (i x : Nat) : L32 (a.set i x) = (L32 a).set i (.int .u32 (x : Nat)) := by simp [L32, List.map_set]
theorem L32_zeros (k : Nat) : L32 (List.replicate k 0) = List.replicate k (.int .u32 0) := by simp [L32]

/-- v is a row of the call's own, from block base on: the limbs o. -/
def Own (w : World) (base : Nat) (v : Value) (o : List Nat) : Prop := w.ownsRow base 37 1 v o.length (L32 o)

theorem Own.toU {w : World} {base : Nat} {v : Value} {o : List Nat} (h : Own w base v o) (hx : ∀ x ∈ o, x < 4294967296) (hm : o.length ≤ 9223372036854775807) : U w v o := by
  have h0 : w.ownsRow base 37 1 v o.length (L32 o) := h
  rcases h0.2 with ⟨rfl, h1⟩ | ⟨g, cap, cur, rfl, hg, hh, h1, h2, h3, h4⟩
  · refine ⟨none, 0, by rw [h1], by omega, hx, fun hp => absurd hp (by omega)⟩
  · refine ⟨_, cap, rfl, ⟨h1, hm⟩, hx, fun hp => ⟨_, rfl, (h0.lt g rfl).2, fun j hj => ?_⟩⟩
    exact h0.cells (g := g) rfl j _ (L32_get o hj)
theorem Own.cell {w : World} {base g c : Nat} {o : List Nat} (h : Own w base (.slice (some ⟨g, 0, none⟩) o.length c) o) {j : Nat} (hj : j < o.length) : w.cell? ⟨g, j, none⟩ = some (.int .u32 (lb o j : Nat)) := by
  rw [World.ownsRow.cellAt h j (by omega)]; exact L32_get o hj
theorem Own.frozen {w : World} {base g c : Nat} {o : List Nat} (h : Own w base (.slice (some ⟨g, 0, none⟩) o.length c) o) (j : Nat) : w.frozen? ⟨g, j, none⟩ = false := World.ownsRow.frozenAt h j
theorem Own.set_ {w : World} {base g c : Nat} {o : List Nat} (h : Own w base (.slice (some ⟨g, 0, none⟩) o.length c) o) (j x : Nat) : Own (w.setCell ⟨g, j, none⟩ (.int .u32 (x : Nat))) base (.slice (some ⟨g, 0, none⟩) (o.set j x).length c) (o.set j x) := by
  have := (World.ownsRow.stored h j (.int .u32 (x : Nat))).1
  unfold Own
  rw [L32_set, List.length_set]
  exact this
theorem Own.drew {w : World} {base : Nat} {v : Value} {o : List Nat} (h : Own w base v o) : Own w.drew base v o := h
theorem Own.drewN {w : World} {base : Nat} {v : Value} {o : List Nat} (h : Own w base v o) (n : Nat) : Own (w.drewN n) base v o := h
theorem Own.zeros {w : World} {base g : Nat} {n : Nat} (h : w.ownsRow base 37 1 (.slice (some ⟨g, 0, none⟩) n n) n (madeCells (Value.int .u32 0).cells (n * 1)).toList) :
    Own w base (.slice (some ⟨g, 0, none⟩) (List.replicate n 0).length n) (List.replicate n 0) := by
  have e : (madeCells (Value.int .u32 0).cells (n * 1)).toList = L32 (List.replicate n 0) := by
    rw [L32_zeros, Nat.mul_one]; exact toList_madeCells_one _ _
  rw [e] at h
  unfold Own
  rw [List.length_replicate]
  exact h
theorem cast_shl (x s : Nat) : ((x : Nat) : Int) * 2 ^ s % 4294967296 = ((x * 2 ^ s % 4294967296 : Nat) : Int) := by
  rw [Int.natCast_emod, Int.natCast_mul, Int.natCast_pow]; rfl
theorem cast_shr (x s : Nat) : ((x : Nat) : Int) / 2 ^ s = ((x / 2 ^ s : Nat) : Int) := by
  rw [Int.natCast_ediv, Int.natCast_pow]; rfl
theorem u32_or_cast (a b : Nat) (ha : a < 4294967296) (c : Int) (hc : c = (b : Nat)) (hb : b < 4294967296) : bits .or .u32 (a : Int) c = ((a ||| b : Nat) : Int) := by
  subst hc; exact u32_or_nat a b ha hb
theorem low_step (xs : List Nat) (k : Nat) (hx : ∀ x ∈ xs, x < 4294967296) (hk : k < xs.length) (h2 : xs.length ≤ 2) :
    bits .or .u64 ((val (xs.take k) : Nat) : Int) (IntKind.u64.wrap (IntKind.u64.wrap ((lb xs k : Nat) : Int) * 2 ^ (32 * k))) = ((val (xs.take (k + 1)) : Nat) : Int) := by
  have hl := lb_lt hx k
  have hv := val_lt (xs.take k) (fun x h => hx x (List.mem_of_mem_take h))
  rw [List.length_take, Nat.min_eq_left (by omega)] at hv
  have e0 : IntKind.u64.wrap ((lb xs k : Nat) : Int) = ((lb xs k : Nat) : Int) := by rw [IntKind.wrap_u64]; omega
  have hk1 : k = 0 ∨ k = 1 := by omega
  have hb : lb xs k * 2 ^ (32 * k) < 18446744073709551616 := by
    rcases hk1 with rfl | rfl
    · simp only [Nat.mul_zero, Nat.pow_zero]; omega
    · simp only [Nat.mul_one, Nat.reducePow]; omega
  have e1 : IntKind.u64.wrap (((lb xs k : Nat) : Int) * 2 ^ (32 * k)) = ((lb xs k * 2 ^ (32 * k) : Nat) : Int) := by
    have e : ((lb xs k : Nat) : Int) * 2 ^ (32 * k) = ((lb xs k * 2 ^ (32 * k) : Nat) : Int) := by rw [Int.natCast_mul, Int.natCast_pow]; rfl
    rw [IntKind.wrap_u64, e]
    omega
  have hv2 : val (xs.take k) < 18446744073709551616 := by
    rcases hk1 with rfl | rfl
    · simp only [Nat.pow_zero] at hv; omega
    · simp only [Nat.reducePow] at hv; omega
  rw [e0, e1, u64_or_nat _ _ hv2 hb, or_eq_add _ _ _ (by rw [← pow32]; exact hv), val_take_succ xs k hk, pow32]
end Go.Proofs.Ytnjkdplhoihkiaa
