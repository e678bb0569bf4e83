/- Where there is no transform. -/
import Derived.Test.YtofhpfmgopmcmaaDoorG5
namespace Go.Proofs.YtofhpfmgopmcmaaDoor
open Go.RowKit
set_option linter.unusedVariables false
set_option maxHeartbeats 400000

theorem U.shape {w : World} {v : Value} {xs : List Nat} (h : U w v xs) : ∃ A c, v = .slice A xs.length c ∧ xs.length ≤ c := by
  obtain ⟨A, c, rfl, hc, _⟩ := h; exact ⟨A, c, rfl, hc.1⟩
theorem trans_i (w : World) (i : Int) (hi : i < 0 ∨ 3 ≤ i) (v : Value) (l : List Nat) (hlen : l.length < 4294967296) (hu : U w v l) (b : Bool) :
    Calls Tryd.prog 21 #[.int .i64 i, v, .bool b] w fun e w' => e = .returned (.tuple #[.slice none 0 0, .int .i64 1]) ∧ w = w' := by
  obtain ⟨A, c, rfl, hc⟩ := hu.shape
  clear hu hc
  generalize l.length = n at *
  by_cases hs : ∃ k, k ≤ 16 ∧ n = 2 ^ k
  · obtain ⟨k, hk, hn⟩ := hs
    have HN := Lib.hid hn
    clear hn
    rcases hi with hi | hi
    · go_enter Tryd.func21, Tryd.ntmps21
      go_wp2_with (fail)
      refine (size_yes _ n k HN.out hk).mono ?_
      rintro e w' ⟨rfl, rfl⟩
      go_wp2
      go_ret2
      exact ⟨rfl, rfl⟩
    · have hi2 : decide (i < 0) = false := by rw [decide_eq_false_iff_not]; omega
      go_enter Tryd.func21, Tryd.ntmps21
      go_wp2_with (fail)
      refine (size_yes _ n k HN.out hk).mono ?_
      rintro e w' ⟨rfl, rfl⟩
      go_wp2
      go_ret2
      exact ⟨rfl, rfl⟩
  · have HS : Hid (∀ k, k ≤ 16 → n ≠ 2 ^ k) := fun k hk e => hs ⟨k, hk, e⟩
    clear hs
    rcases hi with hi | hi
    · go_enter Tryd.func21, Tryd.ntmps21
      go_wp2_with (fail)
      refine (size_no _ n hlen HS.out).mono ?_
      rintro e w' ⟨rfl, rfl⟩
      go_wp2
      go_ret2
      exact ⟨rfl, rfl⟩
    · have hi2 : decide (i < 0) = false := by rw [decide_eq_false_iff_not]; omega
      go_enter Tryd.func21, Tryd.ntmps21
      go_wp2_with (fail)
      refine (size_no _ n hlen HS.out).mono ?_
      rintro e w' ⟨rfl, rfl⟩
      go_wp2
      go_ret2
      exact ⟨rfl, rfl⟩
theorem trans_len (w : World) (i : Int) (hi1 : 0 ≤ i) (hi2 : i < 3) (v : Value) (l : List Nat) (hlen : l.length < 4294967296) (hu : U w v l) (b : Bool) (hs : ∀ k, k ≤ 16 → l.length ≠ 2 ^ k) :
    Calls Tryd.prog 21 #[.int .i64 i, v, .bool b] w fun e w' => e = .returned (.tuple #[.slice none 0 0, .int .i64 1]) ∧ w = w' := by
  obtain ⟨A, c, rfl, hc⟩ := hu.shape
  clear hu hc
  generalize l.length = n at *
  have HS := Lib.hid hs
  clear hs
  have h1 : decide (i < 0) = false := by rw [decide_eq_false_iff_not]; omega
  have h2 : decide (3 ≤ i) = false := by rw [decide_eq_false_iff_not]; omega
  go_enter Tryd.func21, Tryd.ntmps21
  go_wp2_with (fail)
  refine (size_no _ n hlen HS.out).mono ?_
  rintro e w' ⟨rfl, rfl⟩
  go_wp2
  go_ret2
  exact ⟨rfl, rfl⟩
theorem trans_big (w : World) (hg : Gl w) (i k : Nat) (hi : i < 3) (hk : k ≤ 16) (v : Value) (l : List Nat) (hl : l.length = 2 ^ k) (hu : U w v l) (b : Bool) (hbad : ∃ j, j < l.length ∧ (fd i).p ≤ lb l j) :
    Calls Tryd.prog 21 #[.int .i64 (i : Nat), v, .bool b] w fun e w' => e = .returned (.tuple #[.slice none 0 0, .int .i64 1]) ∧ Ext w w' := by
  obtain ⟨g0, g1, g2, g3, g4⟩ := hg.at_ hi
  have hw0 := hg.1
  clear hg
  generalize fd i = f at *
  obtain ⟨n, hn⟩ : ∃ n, 2 ^ k = n := ⟨_, rfl⟩
  have hn1 : n ≤ 65536 := by rw [← hn]; exact Nat.pow_le_pow_right (by decide) hk
  have hn0 : 0 < n := by rw [← hn]; exact Nat.two_pow_pos k
  rw [hn] at hl
  obtain ⟨A, c, rfl, ⟨hc1, hc2⟩, hx, hr⟩ := id hu
  rw [hl] at hr hbad ⊢
  obtain ⟨ad, rfl, hb, hcell⟩ := hr (by omega)
  have HN := Lib.hid hn
  have HB := Lib.hid hbad
  have hi0 : decide ((i : Int) < 0) = false := by rw [decide_eq_false_iff_not]; omega
  have hi3 : decide ((3 : Int) ≤ (i : Int)) = false := by rw [decide_eq_false_iff_not]; omega
  clear hn hl hr hc1 hc2 hbad
  go_enter Tryd.func21, Tryd.ntmps21
  go_wp2_with (fail)
  refine (size_yes _ n k HN.out.symm hk).mono ?_
  rintro e w' ⟨rfl, rfl⟩
  go_wp2_with (fail)
  have HX := Bx.new w f
  obtain ⟨b0, b1, b2, b3, b4, b5⟩ := id HX
  have hE := (Ext.refl w).alloc (.cells #[.int .u32 (f.p : Int), .int .u32 (f.root : Int), .int .u32 (f.neg : Int), .int .u32 (f.square : Int), .int .u32 (f.ahead : Int)] 56)
  have hcell1 : ∀ j, j < n → (w.alloc (.cells #[.int .u32 (f.p : Int), .int .u32 (f.root : Int), .int .u32 (f.neg : Int), .int .u32 (f.square : Int), .int .u32 (f.ahead : Int)] 56)).cell? (ad.add j) = some (.int .u32 (lb l j : Nat)) := fun j hj => (hE.cell (p := ad.add j) (by rw [addr_add_block]; exact hb)).trans (hcell j hj)
  clear hu hcell
  generalize (w.alloc (.cells #[.int .u32 (f.p : Int), .int .u32 (f.root : Int), .int .u32 (f.neg : Int), .int .u32 (f.square : Int), .int .u32 (f.ahead : Int)] 56)) = w1 at *
  go_loop [39] (fun t => ∃ j : Nat, j ≤ n ∧ t = .int .i64 (j : Nat) ∧ Hid (∀ m, m < j → lb l m < f.p)) (fun t => n - (intOf t).toNat)
  case atStart => exact ⟨0, Nat.zero_le _, rfl, fun m hm => absurd hm (by omega)⟩
  case round =>
    obtain ⟨j, hj, rfl, HJ⟩ := hrel
    have hjn : j < n := by
      rcases Nat.lt_or_ge j n with h | h
      · exact h
      · obtain ⟨m, h1, h2⟩ := HB.out
        have := HJ.out m (by omega)
        omega
    have hc1 := hcell1 j hjn
    have hx1 := lb_lt hx j
    by_cases hlj : lb l j < f.p
    · have hd : decide ((f.p : Int) ≤ (lb l j : Nat)) = false := by rw [decide_eq_false_iff_not]; omega
      have HJ2 : Hid (∀ m, m < j + 1 → lb l m < f.p) := fun m hm => by
        by_cases e : m = j
        · subst e; exact hlj
        · exact HJ.out m (by omega)
      generalize lb l j = x at *
      clear hcell1
      go_wp2
      go_round
      case rel => exact ⟨j + 1, by omega, by go_num, HJ2⟩
      case measure => simp [intOf]; omega
    · have hd : decide ((f.p : Int) ≤ (lb l j : Nat)) = true := by rw [decide_eq_true_iff]; omega
      generalize lb l j = x at *
      clear hcell1
      go_wp2
      go_ret2
      exact ⟨rfl, hE⟩
end Go.Proofs.YtofhpfmgopmcmaaDoor
