/- The document's own Make and Made. -/
import Derived.Test.YtnjkdplhoihkiaaP
namespace Go.Proofs.Ytnjkdplhoihkiaa
open Go.RowKit
set_option linter.unusedVariables false
set_option maxHeartbeats 400000
attribute [local go_sem ↓] app_shut
attribute [local go_sem] run_append_tok

theorem rmake_calls (w : World) (v : Value) (xs : List Nat) (h : U w v xs) (hlen : xs.length ≤ 1000000000) :
    Calls Try.prog 17 #[v] w fun e w' => (∃ u, e = .returned u ∧ U w' u (limbs (val xs))) ∧ Below w.heap.size w w' := by
  have h' := h
  obtain ⟨A, c, rfl, ⟨hc, hm⟩, hx, hr⟩ := h
  go_enter Try.func17, Try.ntmps17
  go_wp2
  go_loop [3] (fun n => ∃ k : Nat, k ≤ xs.length ∧ n = .int .i64 k ∧ Hid (∀ j, k ≤ j → j < xs.length → lb xs j = 0)) (fun n => (intOf n).toNat)
  case atStart => exact ⟨xs.length, Nat.le_refl _, rfl, fun j h1 h2 => by omega⟩
  case round =>
    obtain ⟨k, hk, rfl, hz⟩ := hrel
    have hfin : (0 < k → lb xs (k - 1) ≠ 0) → ∃ v' w', (Builtin.append_ #[22, 22] 22 #[.slice (some ⟨w.heap.size, 0, none⟩) 0 0, .slice A k c]).run Try.prog (w.alloc (.cells #[] 37)) = .ok v' w' ∧ U w' v' (limbs (val xs)) ∧ Below w.heap.size w w' := fun h2 => by
      have hB : Below w.heap.size w (w.alloc (.cells #[] 37)) := (Below.refl _ _).alloc (Nat.le_refl _) _
      have hown : Own (w.alloc (.cells #[] 37)) w.heap.size (.slice (some ⟨w.heap.size, 0, none⟩) 0 0) [] := World.ownsRow_lit w #[] 0 (Nat.le_refl _) (Nat.zero_le _) rfl
      have hu : U w (.slice A k c) (xs.take k) := h'.take hk (by omega)
      have htl : (xs.take k).length = k := by simp; omega
      obtain ⟨v', w', hrun, ho, hg⟩ := run_append_U _ w.heap.size _ [] hown _ _ (hu.below hB) (by rw [htl]; simp; omega) hB.size
      refine ⟨v', w', hrun, ?_, hB.grown hg hB.size (fun j e => by cases e; exact Nat.le_refl _)⟩
      rw [strip_eq xs k hx hk hz.out h2]
      rw [List.nil_append] at ho
      exact ho.toU (fun x hx' => hx x (List.mem_of_mem_take hx')) (by rw [htl]; omega)
    rcases Nat.eq_zero_or_pos k with rfl | h0
    · obtain ⟨v', w', hrun, HU, HB⟩ := hfin (fun h => absurd h (by omega))
      obtain ⟨t1, t2, t3⟩ := app_tok hrun
      clear hfin hrun
      go_wp2
      go_ret
      exact ⟨⟨_, rfl, HU⟩, HB⟩
    · obtain ⟨ad, rfl, hb, hcell⟩ := hr (by omega)
      have hc1 := hcell (k - 1) (by omega)
      by_cases hx0 : lb xs (k - 1) = 0
      · have ht : ((((lb xs (k - 1) : Nat)) : Int) == 0) = true := by rw [hx0]; rfl
        have HX := Lib.hid hx0
        clear hx0 hfin
        go_wp2
        go_round
        case rel => exact ⟨k - 1, by omega, by go_num, fun j h1 h2 => by
          rcases Nat.lt_or_ge j k with h3 | h3
          · have : j = k - 1 := by omega
            subst this; exact HX.out
          · exact hz.out j h3 h2⟩
        case measure => simp [intOf]; omega
      · have ht : ((((lb xs (k - 1) : Nat)) : Int) == 0) = false := by rw [beq_eq_false_iff_ne]; omega
        obtain ⟨v', w', hrun, HU, HB⟩ := hfin (fun _ => hx0)
        obtain ⟨t1, t2, t3⟩ := app_tok hrun
        clear hfin hrun hx0
        go_wp2
        go_ret
        exact ⟨⟨_, rfl, HU⟩, HB⟩
end Go.Proofs.Ytnjkdplhoihkiaa
