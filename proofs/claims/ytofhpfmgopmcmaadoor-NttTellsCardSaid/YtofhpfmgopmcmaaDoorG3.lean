/- The table of the primes; a prime, a root. -/
import Derived.Test.YtofhpfmgopmcmaaDoorG2
namespace Go.Proofs.YtofhpfmgopmcmaaDoor
open Go.RowKit
set_option linter.unusedVariables false
set_option maxHeartbeats 400000

/-- A record of the table lies there. -/
def GB (w : World) (o : Nat) (f : Fd) : Prop := w.cell? ⟨0, o, none⟩ = some (.int .u32 (f.p : Int)) ∧ w.cell? ⟨0, o + 1, none⟩ = some (.int .u32 (f.root : Int)) ∧ w.cell? ⟨0, o + 2, none⟩ = some (.int .u32 (f.neg : Int)) ∧ w.cell? ⟨0, o + 3, none⟩ = some (.int .u32 (f.square : Int)) ∧ w.cell? ⟨0, o + 4, none⟩ = some (.int .u32 (f.ahead : Int))
/-- The table of the three primes. -/
def Gl (w : World) : Prop := 0 < w.heap.size ∧ GB w 0 F0 ∧ GB w 5 F1 ∧ GB w 10 F2
theorem GB.keep {w w' : World} {o : Nat} {f : Fd} (h : GB w o f) (hk : ∀ j, w'.cell? ⟨0, j, none⟩ = w.cell? ⟨0, j, none⟩) : GB w' o f := by
  unfold GB at *; simp only [hk]; exact h
theorem Gl.below {w w' : World} {B : Nat} (h : Gl w) (hB : Below B w w') (h0 : 0 < B) : Gl w' := by
  have hk : ∀ j, w'.cell? ⟨0, j, none⟩ = w.cell? ⟨0, j, none⟩ := fun j => hB.cell (p := ⟨0, j, none⟩) h0
  exact ⟨Nat.lt_of_lt_of_le h.1 hB.size, h.2.1.keep hk, h.2.2.1.keep hk, h.2.2.2.keep hk⟩
theorem Gl.ext {w w' : World} (h : Gl w) (hB : Ext w w') : Gl w' := h.below hB h.1

/-- The record of that number. -/
def fd (i : Nat) : Fd := if i = 0 then F0 else if i = 1 then F1 else F2
theorem fd_fld (i : Nat) : Fld (fd i) := by
  unfold fd; split
  · exact F0_fld
  · split
    · exact F1_fld
    · exact F2_fld
theorem prime_calls (w : World) (hg : Gl w) (i : Nat) (hi : i < 3) :
    Calls Tryd.prog 14 #[.int .i64 (i : Nat)] w fun e w' => e = .returned (.int .u32 ((fd i).p : Nat)) ∧ w = w' := by
  obtain ⟨_, ⟨a0, a1, a2, a3, a4⟩, ⟨b0, b1, b2, b3, b4⟩, ⟨c0, c1, c2, c3, c4⟩⟩ := hg
  rcases (show i = 0 ∨ i = 1 ∨ i = 2 by omega) with rfl | rfl | rfl
  · go_enter Tryd.func14, Tryd.ntmps14
    go_wp2
    go_ret
    exact ⟨rfl, rfl⟩
  · go_enter Tryd.func14, Tryd.ntmps14
    go_wp2
    go_ret
    exact ⟨rfl, rfl⟩
  · go_enter Tryd.func14, Tryd.ntmps14
    go_wp2
    go_ret
    exact ⟨rfl, rfl⟩
theorem prime_none (w : World) (i : Int) (hi : i < 0 ∨ 3 ≤ i) :
    Calls Tryd.prog 14 #[.int .i64 i] w fun e w' => e = .returned (.int .u32 0) ∧ w = w' := by
  rcases hi with hi | hi
  · go_enter Tryd.func14, Tryd.ntmps14
    go_wp2
    go_ret
    exact ⟨rfl, rfl⟩
  · have h0 : ¬ i < 0 := by omega
    go_enter Tryd.func14, Tryd.ntmps14
    go_wp2
    go_ret
    exact ⟨rfl, rfl⟩
theorem root_none (w : World) (i k : Int) (hi : i < 0 ∨ 3 ≤ i ∨ k < 0 ∨ 20 < k) :
    Calls Tryd.prog 16 #[.int .i64 i, .int .i64 k] w fun e w' => e = .returned (.int .u32 0) ∧ w = w' := by
  by_cases h1 : i < 0
  · go_enter Tryd.func16, Tryd.ntmps16
    go_wp2
    go_ret
    exact ⟨rfl, rfl⟩
  · by_cases h2 : 3 ≤ i
    · go_enter Tryd.func16, Tryd.ntmps16
      go_wp2
      go_ret
      exact ⟨rfl, rfl⟩
    · by_cases h3 : k < 0
      · go_enter Tryd.func16, Tryd.ntmps16
        go_wp2
        go_ret
        exact ⟨rfl, rfl⟩
      · have h4 : 20 < k := by omega
        go_enter Tryd.func16, Tryd.ntmps16
        go_wp2
        go_ret
        exact ⟨rfl, rfl⟩
theorem keepO {w x y : World} {B o0 o1 o2 o3 o4 : Nat} {v0 v1 v2 v3 v4 : Value} (h : (B < x.heap.size ∧ x.cell? ⟨B, o0, none⟩ = some v0 ∧ x.cell? ⟨B, o1, none⟩ = some v1 ∧ x.cell? ⟨B, o2, none⟩ = some v2 ∧ x.cell? ⟨B, o3, none⟩ = some v3 ∧ x.cell? ⟨B, o4, none⟩ = some v4) ∧ Ext w x) (hB : Ext x y) : (B < y.heap.size ∧ y.cell? ⟨B, o0, none⟩ = some v0 ∧ y.cell? ⟨B, o1, none⟩ = some v1 ∧ y.cell? ⟨B, o2, none⟩ = some v2 ∧ y.cell? ⟨B, o3, none⟩ = some v3 ∧ y.cell? ⟨B, o4, none⟩ = some v4) ∧ Ext w y := by
  obtain ⟨⟨h0, h1, h2, h3, h4, h5⟩, h6⟩ := h
  have hc := fun o => hB.cell (p := ⟨B, o, none⟩) h0
  exact ⟨⟨Nat.lt_of_lt_of_le h0 hB.size, by rw [hc]; exact h1, by rw [hc]; exact h2, by rw [hc]; exact h3, by rw [hc]; exact h4, by rw [hc]; exact h5⟩, h6.below hB⟩
theorem root_calls (w : World) (hg : Gl w) (i k : Nat) (hi : i < 3) (hk : k ≤ 20) :
    Calls Tryd.prog 16 #[.int .i64 (i : Nat), .int .i64 (k : Nat)] w fun e w' => e = .returned (.int .u32 (rt (fd i) k % (fd i).p : Nat)) ∧ Ext w w' := by
  have hE := Ext.refl w
  obtain ⟨h0, ⟨a0, a1, a2, a3, a4⟩, ⟨b0, b1, b2, b3, b4⟩, ⟨c0, c1, c2, c3, c4⟩⟩ := hg
  rcases (show i = 0 ∨ i = 1 ∨ i = 2 by omega) with rfl | rfl | rfl
  · have hG := F0_fld.good
    have hS0 : (0 < w.drew.heap.size ∧ w.drew.cell? ⟨0, 0, none⟩ = some (.int .u32 (F0.p : Int)) ∧ w.drew.cell? ⟨0, 1, none⟩ = some (.int .u32 (F0.root : Int)) ∧ w.drew.cell? ⟨0, 2, none⟩ = some (.int .u32 (F0.neg : Int)) ∧ w.drew.cell? ⟨0, 3, none⟩ = some (.int .u32 (F0.square : Int)) ∧ w.drew.cell? ⟨0, 4, none⟩ = some (.int .u32 (F0.ahead : Int))) ∧ Ext w w.drew := ⟨⟨h0, a0, a1, a2, a3, a4⟩, hE.drew⟩
    go_enter Tryd.func16, Tryd.ntmps16
    go_wp2
    go_region_held3 (fun x => (0 < x.heap.size ∧ x.cell? ⟨0, 0, none⟩ = some (.int .u32 (F0.p : Int)) ∧ x.cell? ⟨0, 1, none⟩ = some (.int .u32 (F0.root : Int)) ∧ x.cell? ⟨0, 2, none⟩ = some (.int .u32 (F0.neg : Int)) ∧ x.cell? ⟨0, 3, none⟩ = some (.int .u32 (F0.square : Int)) ∧ x.cell? ⟨0, 4, none⟩ = some (.int .u32 (F0.ahead : Int))) ∧ Ext w x)
      (first
        | exact hS0
        | exact keepO (by assumption) (by assumption))
      (first
        | (go_at_call 30; ((with_reducible refine (of_calls _ F0 hG k hk).mono ?_); rintro e w1 ⟨rfl, hB⟩))
        | (go_at_call 29; ((with_reducible refine (out_calls _ F0 hG (mont F0 (rt F0 k)) (Nat.lt_trans (mont_lt F0 hG _) (by decide))).mono ?_); rintro e w1 ⟨rfl, hB⟩)))
    go_wp2
    go_ret
    go_split_ands
    exact ⟨ret_int (by rw [mm_one F0 hG]; rfl), by assumption⟩
  · have hG := F1_fld.good
    have hS0 : (0 < w.drew.heap.size ∧ w.drew.cell? ⟨0, 5, none⟩ = some (.int .u32 (F1.p : Int)) ∧ w.drew.cell? ⟨0, 6, none⟩ = some (.int .u32 (F1.root : Int)) ∧ w.drew.cell? ⟨0, 7, none⟩ = some (.int .u32 (F1.neg : Int)) ∧ w.drew.cell? ⟨0, 8, none⟩ = some (.int .u32 (F1.square : Int)) ∧ w.drew.cell? ⟨0, 9, none⟩ = some (.int .u32 (F1.ahead : Int))) ∧ Ext w w.drew := ⟨⟨h0, b0, b1, b2, b3, b4⟩, hE.drew⟩
    go_enter Tryd.func16, Tryd.ntmps16
    go_wp2
    go_region_held3 (fun x => (0 < x.heap.size ∧ x.cell? ⟨0, 5, none⟩ = some (.int .u32 (F1.p : Int)) ∧ x.cell? ⟨0, 6, none⟩ = some (.int .u32 (F1.root : Int)) ∧ x.cell? ⟨0, 7, none⟩ = some (.int .u32 (F1.neg : Int)) ∧ x.cell? ⟨0, 8, none⟩ = some (.int .u32 (F1.square : Int)) ∧ x.cell? ⟨0, 9, none⟩ = some (.int .u32 (F1.ahead : Int))) ∧ Ext w x)
      (first
        | exact hS0
        | exact keepO (by assumption) (by assumption))
      (first
        | (go_at_call 30; ((with_reducible refine (of_calls _ F1 hG k hk).mono ?_); rintro e w1 ⟨rfl, hB⟩))
        | (go_at_call 29; ((with_reducible refine (out_calls _ F1 hG (mont F1 (rt F1 k)) (Nat.lt_trans (mont_lt F1 hG _) (by decide))).mono ?_); rintro e w1 ⟨rfl, hB⟩)))
    go_wp2
    go_ret
    go_split_ands
    exact ⟨ret_int (by rw [mm_one F1 hG]; rfl), by assumption⟩
  · have hG := F2_fld.good
    have hS0 : (0 < w.drew.heap.size ∧ w.drew.cell? ⟨0, 10, none⟩ = some (.int .u32 (F2.p : Int)) ∧ w.drew.cell? ⟨0, 11, none⟩ = some (.int .u32 (F2.root : Int)) ∧ w.drew.cell? ⟨0, 12, none⟩ = some (.int .u32 (F2.neg : Int)) ∧ w.drew.cell? ⟨0, 13, none⟩ = some (.int .u32 (F2.square : Int)) ∧ w.drew.cell? ⟨0, 14, none⟩ = some (.int .u32 (F2.ahead : Int))) ∧ Ext w w.drew := ⟨⟨h0, c0, c1, c2, c3, c4⟩, hE.drew⟩
    go_enter Tryd.func16, Tryd.ntmps16
    go_wp2
    go_region_held3 (fun x => (0 < x.heap.size ∧ x.cell? ⟨0, 10, none⟩ = some (.int .u32 (F2.p : Int)) ∧ x.cell? ⟨0, 11, none⟩ = some (.int .u32 (F2.root : Int)) ∧ x.cell? ⟨0, 12, none⟩ = some (.int .u32 (F2.neg : Int)) ∧ x.cell? ⟨0, 13, none⟩ = some (.int .u32 (F2.square : Int)) ∧ x.cell? ⟨0, 14, none⟩ = some (.int .u32 (F2.ahead : Int))) ∧ Ext w x)
      (first
        | exact hS0
        | exact keepO (by assumption) (by assumption))
      (first
        | (go_at_call 30; ((with_reducible refine (of_calls _ F2 hG k hk).mono ?_); rintro e w1 ⟨rfl, hB⟩))
        | (go_at_call 29; ((with_reducible refine (out_calls _ F2 hG (mont F2 (rt F2 k)) (Nat.lt_trans (mont_lt F2 hG _) (by decide))).mono ?_); rintro e w1 ⟨rfl, hB⟩)))
    go_wp2
    go_ret
    go_split_ands
    exact ⟨ret_int (by rw [mm_one F2 hG]; rfl), by assumption⟩
end Go.Proofs.YtofhpfmgopmcmaaDoor
