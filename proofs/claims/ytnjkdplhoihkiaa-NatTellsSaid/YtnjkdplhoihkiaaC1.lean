/- slices.Backward over limbs, and nat.Cmp. -/
import Derived.RangeFuncNested
import Derived.RangeFuncBound
import Derived.RangeFuncCalls
import Derived.RangeFuncLeaves
import Derived.RangeFuncBox
import Derived.Shelf.Abstract
import Derived.Shelf.RegionOpen
import Derived.WalkKit
import Derived.OwnWalkIn
import Derived.TacticsInMore
import Derived.LoopNIn
import Derived.LoopIn
import Derived.Test.YtnjkdplhoihkiaaW6
import Derived.Test.YtnjkdplhoihkiaaC0
namespace Go.Proofs.Ytnjkdplhoihkiaa
open Go.RowKit Go.Shelf
set_option linter.unusedVariables false
attribute [local go_sem] Oper.semAt_some

abbrev Ix (L : Nat) := { k : Nat // k < L }
abbrev encB (xs : List Nat) (p : Ix xs.length) : Array Value := #[.int .i64 (p.1 : Int), .int .u32 ((lb xs p.1 : Nat) : Int)]

set_option maxRecDepth 100000 in
set_option maxHeartbeats 2000000 in
theorem back1_in (l Bs : Nat) (ad : Addr) (c : Nat) (xs : List Nat) (hm : xs.length ≤ 9223372036854775807) (n₀ : Nat) (hb : ad.block < n₀) (J Jx : List (Ix xs.length) → World → Prop)
    (hY : ∀ pre x W, J pre W → pre.length < xs.length → YieldAt Fence.wide 2 Try.prog l (encB xs x) W fun e W' =>
      (e = .returned (.bool true) ∧ J (pre ++ [x]) W' ∧ Below n₀ W W') ∨ (e = .returned (.bool false) ∧ Jx (pre ++ [x]) W'))
    (W : World) (hBn : Bs < n₀) (hBs : W.cell? ⟨Bs, 0, none⟩ = some (.slice (some ad) xs.length c)) (hc : ∀ j, j < xs.length → W.cell? (ad.add j) = some (.int .u32 ((lb xs j : Nat) : Int))) (h0 : J [] W) :
    CallsIn Fence.wide 3 Try.prog 50 #[.func (.yield l) #[] #[], .pointer (some ⟨Bs, 0, none⟩)] W fun e W' => (∃ v, e = .returned v) ∧
      ((∃ ys, ys.map (·.1) = downs xs.length xs.length ∧ J ys W') ∨ (∃ pre, (∃ k, k ≤ xs.length ∧ pre.map (·.1) = downs xs.length k) ∧ Jx pre W')) := by
  refine callsIn_of_wp Try.func50 rfl trivial ?_ rfl
  simp only [Try.ntmps50, List.size_toArray, List.length_cons, List.length_nil, Nat.reduceAdd, Nat.reduceSub, Array.replicate_succ, Array.replicate_zero, List.push_toArray, List.append_toArray, List.nil_append, List.cons_append]
  gi_wp2
  gi_loopw [3] (fun i wr => ∃ (k : Nat) (pre : List (Ix xs.length)), k ≤ xs.length ∧ i = .int .i64 ((xs.length : Int) - 1 - k) ∧ Hid (pre.map (·.1) = downs xs.length k) ∧ J pre wr ∧ Below n₀ W wr)
    (fun i _ => (intOf i + 1).toNat)
  case atStart => exact ⟨0, [], Nat.zero_le _, by simp, rfl, h0, Below.refl _ _⟩
  case round =>
    obtain ⟨k, pre, hk, rfl, hp, hJs, hnx⟩ := hrel
    by_cases hlt : k < xs.length
    · have hcx := (hnx.cell (p := ad.add (xs.length - 1 - k)) (by rw [addr_add_block]; exact hb)).trans (hc (xs.length - 1 - k) (by omega))
      have hcb := (hnx.cell (p := ⟨Bs, 0, none⟩) hBn).trans hBs
      obtain ⟨fn, tmps, assign, body, hy, hR⟩ := hY pre ⟨xs.length - 1 - k, by omega⟩ wr hJs (by have := congrArg List.length hp.out; simp [downs] at this; omega)
      dsimp only [encB] at hy
      rw [show ((xs.length - 1 - k : Nat) : Int) = (xs.length : Int) - 1 - k by omega] at hy
      gi_wp2
      refine hR.mono ?_
      rintro e W3 (⟨rfl, hJ3, hk3⟩ | ⟨rfl, hJx3⟩)
      · gi_wp2
        go_roundw
        case rel => exact ⟨k + 1, _, by omega, by congr 1; push_cast; omega, by rw [Hid, List.map_append, hp.out, downs_succ]; rfl, hJ3, hnx.trans hk3⟩
        case measure => simp [intOf]; omega
      · gi_wp2
        refine bodyPost_ret (results_none rfl _ _ _) rfl ?_
        exact ⟨⟨_, rfl⟩, .inr ⟨_, ⟨k + 1, by omega, by rw [List.map_append, hp.out, downs_succ]; rfl⟩, hJx3⟩⟩
    · obtain rfl : k = xs.length := by omega
      gi_wp2
      go_end0
      exact ⟨⟨_, rfl⟩, .inl ⟨_, hp.out, hJs⟩⟩

set_option maxRecDepth 100000 in
set_option maxHeartbeats 1000000 in
theorem back1_nil_in (l Bs : Nat) (A : Option Addr) (c : Nat) {α : Type} (J : List α → World → Prop) (W : World) (hBs : W.cell? ⟨Bs, 0, none⟩ = some (.slice A 0 c)) (h0 : J [] W) :
    CallsIn Fence.wide 3 Try.prog 50 #[.func (.yield l) #[] #[], .pointer (some ⟨Bs, 0, none⟩)] W fun e W' => (∃ v, e = .returned v) ∧ J [] W' := by
  refine callsIn_of_wp Try.func50 rfl trivial ?_ rfl
  simp only [Try.ntmps50, List.size_toArray, List.length_cons, List.length_nil, Nat.reduceAdd, Nat.reduceSub, Array.replicate_succ, Array.replicate_zero, List.push_toArray, List.append_toArray, List.nil_append, List.cons_append]
  gi_wp2
  gi_loopw [3] (fun i wr => i = .int .i64 (-1) ∧ J [] wr) (fun _ _ => 0)
  case atStart => exact ⟨rfl, h0⟩
  case round =>
    obtain ⟨rfl, hJs⟩ := hrel
    gi_wp2
    go_end0
    exact ⟨⟨_, rfl⟩, hJs⟩

set_option maxHeartbeats 1000000 in
/-- slices.Backward: the slice is boxed; the function value has captured the box. -/
theorem back_in (a : Option Addr) (len cap : Nat) (w : World) :
    CallsIn Fence.wide 3 Try.prog 41 #[.slice a len cap] w fun e w' => e = .returned (.func (.func 50) #[] #[.pointer (some ⟨w.heap.size, 0, none⟩)]) ∧ w' = w.alloc (.cells #[.slice a len cap] 22) := by
  refine callsIn_of_wp Try.func41 rfl trivial ?_ rfl
  simp only [Try.ntmps41, List.size_toArray, List.length_cons, List.length_nil, Nat.reduceAdd, Nat.reduceSub, Array.replicate_succ, Array.replicate_zero, List.push_toArray, List.append_toArray, List.nil_append, List.cons_append]
  gi_wp2
  go_ret
  exact ⟨rfl, rfl⟩

/-- Its contract: all of the limbs, the last one first; or the first few of these. -/
theorem back_stops (Bs : Nat) (v : Value) (xs : List Nat) (w : World) (hBs : Bs < w.heap.size) (hc : w.cell? ⟨Bs, 0, none⟩ = some v) (hU : U w v xs) :
    SeqStopsK Fence.wide 3 Try.prog 50 #[.pointer (some ⟨Bs, 0, none⟩)] (encB xs) (Below w.heap.size) (fun ys => ys.map (·.1) = downs xs.length xs.length)
      (fun pre => ∃ k, k ≤ xs.length ∧ pre.map (·.1) = downs xs.length k) xs.length w := fun l J Jx W hW _ _ hY h0 => by
  have hc' := (hW.cell (p := ⟨Bs, 0, none⟩) hBs).trans hc
  obtain ⟨A, c, rfl, ⟨h1, h2⟩, hx, hr⟩ := hU
  rcases Nat.eq_zero_or_pos xs.length with h3 | h3
  · rw [h3] at hc'
    refine (back1_nil_in l Bs A c J W hc' h0).mono fun e W' ⟨he, hj⟩ => ⟨he, .inl ⟨[], by rw [h3]; rfl, hj⟩⟩
  · obtain ⟨ad, rfl, hb, hcell⟩ := hr h3
    exact back1_in l Bs ad c xs h2 w.heap.size hb J Jx hY W hBs hc' (fun j hj => (hW.cell (p := ad.add j) (by rw [addr_add_block]; exact hb)).trans (hcell j hj)) h0
end Go.Proofs.Ytnjkdplhoihkiaa
