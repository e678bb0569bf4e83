/- walks -/
import Derived.Test.YtnjkdplhoihkiaaW1
namespace Go.Proofs.Ytnjkdplhoihkiaa
open Go.RowKit
set_option linter.unusedVariables false
set_option maxHeartbeats 400000

theorem same_calls (w : World) (v u : Value) (xs ys : List Nat) (h : U w v xs) (g : U w u ys) :
    Calls Try.prog 15 #[v, u] w fun e w' => e = .returned (.bool (decide (xs = ys))) ∧ ∃ n, w' = w.drewN n := by
  obtain ⟨A, c, rfl, ⟨hc, hm⟩, hx, hr⟩ := h
  obtain ⟨A2, c2, rfl, ⟨hc2, hm2⟩, hx2, hr2⟩ := g
  by_cases hl : xs.length = ys.length
  · have hl1 : (((xs.length : Nat) : Int) != ((ys.length : Nat) : Int)) = false := by rw [bne_eq_false_iff_eq, hl]
    have HL := Lib.hid hl
    clear hl
    go_enter Try.func15, Try.ntmps15
    go_wp2
    go_loopw [5] (fun n wr => ∃ k : Nat, k ≤ xs.length ∧ n = .int .i64 k ∧ Hid (∀ j, j < k → lb xs j = lb ys j) ∧ ∃ m, wr = w.drewN m) (fun n _ => xs.length - (intOf n).toNat)
    case atStart => exact ⟨0, Nat.zero_le _, rfl, fun j h => by omega, 0, rfl⟩
    case round =>
      obtain ⟨k, hk, rfl, hz, m, rfl⟩ := hrel
      by_cases hlt : k < xs.length
      · obtain ⟨ad, rfl, hb, hcell⟩ := hr (by omega)
        obtain ⟨ad2, rfl, hb2, hcell2⟩ := hr2 (by have := HL.out; omega)
        have hc1 := hcell k hlt
        have hc3 := hcell2 k (by have := HL.out; omega)
        have hk2 : ((k : Nat) : Int) < ys.length := by have := HL.out; omega
        by_cases he : lb xs k = lb ys k
        · have ht : ((((lb xs k : Nat)) : Int) != ((lb ys k : Nat) : Int)) = false := by rw [bne_eq_false_iff_eq, he]
          have HX := Lib.hid he
          clear he
          go_wp2
          go_quiet (fail)
          go_wp2
          go_roundw
          case rel => exact ⟨k + 1, by omega, by go_num, fun j h1 => by
            rcases Nat.lt_or_ge j k with h3 | h3
            · exact hz.out j h3
            · have : j = k := by omega
              subst this; exact HX.out, _, rfl⟩
          case measure => simp [intOf]; omega
        · have ht : ((((lb xs k : Nat)) : Int) != ((lb ys k : Nat) : Int)) = true := by rw [bne_iff_ne]; omega
          have HX := Lib.hid he
          clear he
          have hf : decide (xs = ys) = false := decide_eq_false fun h => HX.out (by rw [h])
          have HF := Lib.hid hf
          clear hf
          go_wp2
          go_quiet (fail)
          go_wp2
          go_ret
          exact ⟨by rw [HF.out]; rfl, _, World.drewN_drewN _ _ _⟩
      · have hf : decide (xs = ys) = true := decide_eq_true (ext_lb HL.out fun j hj => hz.out j (by omega))
        have HF := Lib.hid hf
        clear hf
        go_wp2
        go_ret
        exact ⟨by rw [HF.out]; rfl, _, rfl⟩
  · have hl1 : (((xs.length : Nat) : Int) != ((ys.length : Nat) : Int)) = true := by rw [bne_iff_ne]; omega
    have hf : decide (xs = ys) = false := decide_eq_false fun h => hl (by rw [h])
    have HF := Lib.hid hf
    clear hl hf
    go_enter Try.func15, Try.ntmps15
    go_wp2
    go_ret
    exact ⟨by rw [HF.out]; rfl, 0, rfl⟩
end Go.Proofs.Ytnjkdplhoihkiaa
