/- A question in its box; slices opened. -/
import Derived.Test.YtofhpfmgopmcmaaDoorL3
namespace Go.Proofs.YtofhpfmgopmcmaaDoor
open Go.RowKit
set_option linter.unusedVariables false
set_option maxHeartbeats 400000

def Ax (w : World) (B : Nat) (I K : Int) (sl : Value) (bk : Bool) : Prop := B < w.heap.size ∧ w.cell? ⟨B, 0, none⟩ = some (.int .i64 I) ∧ w.cell? ⟨B, 1, none⟩ = some (.int .i64 K) ∧ w.cell? ⟨B, 2, none⟩ = some sl ∧ w.cell? ⟨B, 3, none⟩ = some (.bool bk)
theorem Ax.ext {w w' : World} {B : Nat} {I K : Int} {sl : Value} {bk : Bool} (h : Ax w B I K sl bk) (hB : Ext w w') : Ax w' B I K sl bk := by
  obtain ⟨h0, h1, h2, h3, h4⟩ := h
  have hs := hB.size
  have hc := fun o => hB.cell (p := ⟨B, o, none⟩) h0
  exact ⟨by omega, by rw [hc]; exact h1, by rw [hc]; exact h2, by rw [hc]; exact h3, by rw [hc]; exact h4⟩
theorem Ax.new (w : World) (I K : Int) (A : Option Addr) (L c : Nat) (bk : Bool) : Ax (w.alloc (.cells #[.int .i64 I, .int .i64 K, .slice A L c, .bool bk] 24)) w.heap.size I K (.slice A L c) bk := by
  refine ⟨by simp, ?_, ?_, ?_, ?_⟩ <;> go_simp
theorem U.opened {w : World} {v : Value} {xs : List Nat} (h : U w v xs) {n : Nat} (hn : xs.length = n) (h0 : 0 < n) : ∃ ad c, v = .slice (some ad) n c ∧ n ≤ c ∧ ad.block < w.heap.size ∧ ∀ j, j < n → w.cell? (ad.add j) = some (.int .u32 (lb xs j : Nat)) := by
  obtain ⟨A, c, rfl, ⟨hc, _⟩, _, hr⟩ := h
  subst hn
  obtain ⟨ad, rfl, hb, hcell⟩ := hr h0
  exact ⟨ad, c, rfl, hc, hb, hcell⟩
theorem rprime_same (w : World) (i : Nat) (hi : i < 3) :
    Calls Tryd.prog 15 #[.int .i64 (i : Nat)] w fun e w' => e = .returned (.int .u32 ((fd i).p : Nat)) ∧ w' = w :=
  (rprime_calls w i hi).mono fun e w' ⟨h1, h2⟩ => ⟨h1, h2.symm⟩
end Go.Proofs.YtofhpfmgopmcmaaDoor
