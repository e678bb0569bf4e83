/- A row that grows while others lie by. -/
import Derived.Test.YtofhpfmgopmcmaaDoorL4
import Derived.Maps.AppendAt
namespace Go.Proofs.YtofhpfmgopmcmaaDoor
open Go.RowKit
set_option linter.unusedVariables false
set_option maxHeartbeats 400000

/-- A row in block B or in one that is new. -/
structure Apart (B : Nat) (w0 w : World) (v : Value) (o : List Nat) : Prop where
  own : Own w B v o
  but : But B w0 w
  at_ : ∀ g, v.ownBlock = some g → g = B ∨ w0.heap.size ≤ g
theorem Apart.drew {B : Nat} {w0 w : World} {v : Value} {o : List Nat} (h : Apart B w0 w v o) : Apart B w0 w.drew v o := ⟨h.own.drew, h.but.drew, h.at_⟩
theorem Apart.cell {B : Nat} {w0 w : World} {v : Value} {o : List Nat} (h : Apart B w0 w v o) {p : Addr} (hp : p.block < w0.heap.size) (hne : p.block ≠ B) : w.cell? p = w0.cell? p := h.but.cell hp hne
theorem push_apart {w0 w : World} {B : Nat} (hB0 : B ≤ w0.heap.size) {v : Value} {o : List Nat} (h : Apart B w0 w v o) (z : Int) (x : Nat) (hz : z = (x : Int)) (hx : x < 4294967296) (hlen : o.length + 1 ≤ 35184372088832) :
    ∃ v' w', (Builtin.append_ #[22, 22] 22 #[v, .slice (some ⟨w.heap.size, 0, none⟩) 1 1]).run Tryd.prog (w.alloc (.cells #[.int .u32 z] 27)) = .ok v' w' ∧ Apart B w0 w' v' (o ++ [x]) := by
  subst hz
  obtain ⟨i0, hi, hz0, hz1, hz2⟩ := info_parts info32
  have hs := h.but.size
  have hu : U (w.alloc (.cells #[.int .u32 (x : Int)] 27)) (.slice (some ⟨w.heap.size, 0, none⟩) 1 1) [x] := U_lit w [x] (by simpa using hx) (by simp)
  obtain ⟨ad, c, e1, _, _, hcell⟩ := hu.opened (n := 1) rfl (by decide)
  injection e1 with e1 _ _
  injection e1 with e1
  obtain ⟨v', w', hrun, hown', hg, _, hat⟩ := run_append_own_at (P := Tryd.prog) (w.alloc (.cells #[.int .u32 (x : Int)] 27)) B 22 22 27 i0 (.int .u32 0) 1 4 Tryd.underlying22 hi hz0 hz1 hz2 rfl (by decide) v o.length (L32 o) (World.ownsRow.alloc h.own _) ⟨w.heap.size, 0, none⟩ 1 1 (L32 [x]) rfl
    (fun j u hj => by
      have hj1 : j < 1 := by
        rcases Nat.lt_or_ge j 1 with h | h
        · exact h
        · rw [List.getElem?_eq_none (by rw [L32_length]; exact h)] at hj; cases hj
      rw [e1, hcell j hj1, ← L32_get [x] hj1, hj])
    (by intro u hu; obtain ⟨z, _, rfl⟩ := List.mem_map.1 hu; rfl) (by unfold maxLen; omega) (by omega) (by simp; omega)
  refine ⟨v', w', hrun, ⟨by unfold Own; rw [L32_append, List.length_append]; exact hown', ?_, ?_⟩⟩
  · have h1 : But B w0 (w.alloc (.cells #[.int .u32 (x : Int)] 27)) := h.but.ext ((Ext.refl w).alloc _)
    refine ⟨hg.os.trans h1.os, hg.tape.trans h1.tape, hg.output.trans h1.output, Nat.le_trans h1.size hg.size, fun i hi hne => (hg.block i (Nat.lt_of_lt_of_le hi h1.size) (fun e => ?_)).trans (h1.block i hi hne)⟩
    rcases h.at_ i e.symm with e | e
    · exact hne (by rw [e])
    · omega
  · intro g hgv
    rcases hat with e | e
    · exact h.at_ g (e ▸ hgv)
    · rw [hgv] at e
      injection e with e
      right; rw [e]; simp; omega
theorem bare_cell (w : World) (p : Addr) (t : TypeId) (h : w.heap[p.block]? = some (.cells #[] t)) : w.cell? p = none := by
  unfold World.cell?; simp [h]
end Go.Proofs.YtofhpfmgopmcmaaDoor
