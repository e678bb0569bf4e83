/- A slice of 32-bit limbs that reads as a list of naturals; kept while what lay in memory is kept. -/
import Derived.Below
import Derived.Laws.OwnMore
import Derived.Deep.AppendLies
import Derived.Deep.Draws
import Derived.Lib.Hide
import Derived.Test.YtnjkdplhoihkiaaM
namespace Go.Proofs.Ytnjkdplhoihkiaa
open Go.RowKit

/-- The value v is a slice of uint32 whose first cells are the limbs xs. -/
def U (w : World) (v : Value) (xs : List Nat) : Prop :=
  ∃ (A : Option Addr) (c : Nat), v = .slice A xs.length c ∧ (xs.length ≤ c ∧ xs.length ≤ 9223372036854775807) ∧ (∀ x ∈ xs, x < 4294967296) ∧
    (0 < xs.length → ∃ ad, A = some ad ∧ ad.block < w.heap.size ∧ ∀ j, j < xs.length → w.cell? (ad.add j) = some (.int .u32 (lb xs j : Nat)))

theorem addr_add_block (a : Addr) (n : Nat) : (a.add n).block = a.block := by unfold Addr.add; split <;> rfl
theorem addr_add_add (a : Addr) (i j : Nat) : (a.add i).add j = a.add (i + j) := by
  unfold Addr.add
  by_cases hi : i = 0 <;> by_cases hj : j = 0 <;> simp [hi, hj, Nat.add_assoc]

theorem addr_add_zero (a : Addr) : a.add 0 = a := by simp [Addr.add]
theorem U.keep {w w' : World} {v : Value} {xs : List Nat} (h : U w v xs) (hs : w.heap.size ≤ w'.heap.size) (hk : ∀ p : Addr, p.block < w.heap.size → w'.cell? p = w.cell? p) : U w' v xs := by
  obtain ⟨A, c, rfl, hc, hx, hr⟩ := h
  refine ⟨A, c, rfl, hc, hx, fun h0 => ?_⟩
  obtain ⟨ad, hA, hb, hcell⟩ := hr h0
  exact ⟨ad, hA, by omega, fun j hj => (hk _ (by rw [addr_add_block]; exact hb)).trans (hcell j hj)⟩
theorem U.below {w w' : World} {v : Value} {xs : List Nat} (h : U w v xs) (hb : Below w.heap.size w w') : U w' v xs := h.keep hb.size fun _ hp => hb.cell hp
theorem U.lim {w : World} {v : Value} {xs : List Nat} (h : U w v xs) : ∀ x ∈ xs, x < 4294967296 := by
  obtain ⟨A, c, rfl, hc, hx, hr⟩ := h; exact hx
theorem U.nil_ (w : World) (A : Option Addr) (c : Nat) : U w (.slice A 0 c) [] := ⟨A, c, rfl, ⟨Nat.zero_le _, Nat.zero_le _⟩, by simp, fun h => absurd h (by simp)⟩
/-- The first k limbs. -/
theorem U.take {w : World} {A : Option Addr} {n c : Nat} {xs : List Nat} (h : U w (.slice A n c) xs) {k c' : Nat} (hk : k ≤ n) (hc' : k ≤ c') : U w (.slice A k c') (xs.take k) := by
  obtain ⟨A, c, hv, hc, hx, hr⟩ := h
  injection hv with h1 h2 h3
  subst h1 h2 h3
  have hlen : (xs.take k).length = k := by simp; omega
  refine ⟨_, c', by rw [hlen], by omega, fun x hx' => hx x (List.mem_of_mem_take hx'), fun h0 => ?_⟩
  obtain ⟨ad, hA, hb, hcell⟩ := hr (by omega)
  refine ⟨ad, hA, hb, fun j hj => ?_⟩
  rw [hcell j (by omega), lb_take (by omega)]
/-- The number n as a slice of its limbs. -/
def Un (w : World) (v : Value) (n : Nat) : Prop := U w v (limbs n)
theorem U.len_le {w : World} {v : Value} {xs : List Nat} (h : U w v xs) : xs.length ≤ 9223372036854775807 := by
  obtain ⟨A, c, rfl, hc, hx, hr⟩ := h; exact hc.2
theorem Un.below {w w' : World} {v : Value} {n : Nat} (h : Un w v n) (hb : Below w.heap.size w w') : Un w' v n := U.below h hb
end Go.Proofs.Ytnjkdplhoihkiaa
