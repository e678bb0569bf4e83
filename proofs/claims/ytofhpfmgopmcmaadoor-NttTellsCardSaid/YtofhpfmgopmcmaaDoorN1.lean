/- Values and rows of the reference. -/
import Derived.Test.YtofhpfmgopmcmaaDoorM6
import Derived.Test.YtofhpfmgopmcmaaDoorValues
namespace Go.Proofs.YtofhpfmgopmcmaaDoor
open Go.RowKit
set_option linter.unusedVariables false
set_option maxHeartbeats 400000
attribute [local go_sem ↓] app_shut
attribute [local go_sem] run_append_tok

set_option maxRecDepth 100000 in
set_option maxHeartbeats 4000000 in
theorem value_B (w : World) (v : Value) (l : List Nat) (y p : Nat) (hu : U w v l) (hp0 : 0 < p) (hp : p ≤ 4294967296) (hy : y < p) (r : Nat) (hr : hv l y p l.length 0 = r) :
    Calls Tryd.prog 28 #[v, .int .u64 (y : Nat), .int .u64 (p : Nat)] w fun e w' => e = .returned (.int .u64 (r : Nat)) ∧ Ext w w' := by
  obtain ⟨A, c, rfl, ⟨hc1, hc2⟩, hx, hrd⟩ := id hu
  subst hr
  obtain ⟨n, hn⟩ : ∃ n, l.length = n := ⟨_, rfl⟩
  rw [hn] at hc1 hc2 hrd ⊢
  have hpz : ((p : Int) == 0) = false := by rw [beq_eq_false_iff_ne]; omega
  have hp0a : ¬ ((p : Int) = 0) := by omega
  have hp0b : ¬ (p = 0) := by omega
  clear hu hn
  go_enter Tryd.func28, Tryd.ntmps28
  go_wp2_with (fail)
  go_loopw [7, 8] (fun s t wr => ∃ m : Nat, m ≤ n ∧ t = .int .i64 ((m : Int) - 1) ∧ s = .int .u64 (hv l y p n m : Nat) ∧ ∃ k, wr = w.drewN k) (fun _ t _ => (intOf t + 1).toNat)
  case atStart => exact ⟨n, Nat.le_refl _, rfl, by rw [hv_end l y p n hp0]; rfl, 0, rfl⟩
  case round =>
    obtain ⟨m, hm, rfl, rfl, k, rfl⟩ := hrel
    by_cases hlt : 1 ≤ m
    · obtain ⟨q, rfl⟩ : ∃ q, m = q + 1 := ⟨m - 1, by omega⟩
      have hqq : (((q + 1 : Nat) : Int) - 1) = (q : Int) := by omega
      rw [hqq]
      obtain ⟨ad, rfl, hb, hcell⟩ := hrd (by omega)
      have hc := hcell q (by omega)
      have hx1 := lb_lt hx q
      have hst := hv_step l y p n q (by omega)
      have hsp : hv l y p n (q + 1) < p := hv_lt _ _ _ _ _ hp0
      generalize hv l y p n (q + 1) = s at *
      generalize lb l q = x at *
      obtain ⟨z, hz⟩ : ∃ z, s * y = z := ⟨_, rfl⟩
      rw [hz] at hst
      have hzi : (s : Int) * (y : Int) = (z : Int) := by rw [← hz, Int.natCast_mul]
      have hz64 : z ≤ 18446744065119617025 := by rw [← hz]; exact Nat.mul_le_mul (show s ≤ 4294967295 by omega) (show y ≤ 4294967295 by omega)
      have hzw : IntKind.u64.wrap (z : Int) = (z : Int) := by rw [IntKind.wrap_u64]; omega
      have hsw : IntKind.u64.wrap ((z : Int) + (x : Int)) = (z : Int) + (x : Int) := by rw [IntKind.wrap_u64]; omega
      obtain ⟨r, hr⟩ : ∃ r, (z + x) % p = r := ⟨_, rfl⟩
      rw [hr] at hst
      have HST := Lib.hid hst
      have hri : ((z : Int) + (x : Int)) % (p : Int) = (r : Int) := by rw [← hr, Int.natCast_emod, Int.natCast_add]
      have hrt : ((z : Int) + (x : Int)).tmod (p : Int) = (r : Int) := by rw [Int.tmod_eq_emod_of_nonneg (by omega)]; exact hri
      have hrp : r < p := by rw [← hr]; exact Nat.mod_lt _ hp0
      have hrw : IntKind.u64.wrap (r : Int) = (r : Int) := by rw [IntKind.wrap_u64]; omega
      have hxw : IntKind.u64.wrap (x : Int) = (x : Int) := by rw [IntKind.wrap_u64]; omega
      have hj0 : (0 : Int) ≤ (q : Int) := by omega
      have hj1 : (q : Int) < (n : Int) := by omega
      clear hz hr hst hcell hrd
      go_wp2
      go_roundw
      case rel => exact ⟨q, by omega, by go_num, by rw [HST.out], k, rfl⟩
      case measure => simp [intOf]
    · obtain rfl : m = 0 := by omega
      clear hrd
      go_wp2
      go_ret
      exact ⟨rfl, ext_drewN w k⟩

/-- The reference's Limbs: at most so many. -/
theorem limbs_B (w : World) (v : Value) (xs : List Nat) (m : Nat) (hm : m ≤ 1000000) (hu : U w v xs) :
    Calls Tryd.prog 13 #[v, .int .i64 (m : Nat)] w fun e w' => ∃ u, e = .returned u ∧ U w' u (xs.take m) ∧ Ext w w' := by
  obtain ⟨A, c, rfl, ⟨hc1, hc2⟩, hx, hrd⟩ := id hu
  obtain ⟨q, hq⟩ : ∃ q, min xs.length m = q := ⟨_, rfl⟩
  have hown0 : Own (w.alloc (.cells #[] 27)) w.heap.size (.slice (some ⟨w.heap.size, 0, none⟩) 0 0) [] := World.ownsRow_lit w #[] 0 (Nat.le_refl _) (Nat.zero_le _) rfl
  have hE0 : Ext w (w.alloc (.cells #[] 27)) := (Ext.refl w).alloc _
  have hu1 := hu.below hE0
  have htk : xs.take m = xs.take q := by rw [← hq]; rcases Nat.le_total xs.length m with h | h
                                         · rw [Nat.min_eq_left h, List.take_of_length_le h, List.take_length]
                                         · rw [Nat.min_eq_right h]
  rw [htk]
  obtain ⟨v', w', hrun, hown, hg⟩ := run_append_U (w.alloc (.cells #[] 27)) w.heap.size _ [] hown0 (.slice A q c) (xs.take q) (hu1.take (by omega) (by omega)) (by simp; omega) (by simp)
  obtain ⟨t1, t2, t3⟩ := app_tok hrun
  have hB : Ext w w' := Below.grown hE0 hg (by simp) (fun j e => (World.ownsRow.lt hown0 j e).1)
  have hU := hown.toU (fun x h => hx x (by simp at h; exact List.mem_of_mem_take h)) (by simp; omega)
  rw [List.nil_append] at hU
  obtain ⟨L, hL⟩ : ∃ L, xs.length = L := ⟨_, rfl⟩
  rw [hL] at hc1 hc2 hq ⊢
  have hif : (if m < L then (m : Int) else (L : Int)) = (q : Int) := by split <;> omega
  have hmi : min (L : Int) (m : Int) = (q : Int) := by omega
  have hql : q ≤ L := by omega
  have hq0 : (0 : Int) ≤ (q : Int) := by omega
  have hqc : q ≤ c := by omega
  clear hrun hown hg hu hu1 hrd hq htk hx hown0
  go_enter Tryd.func13, Tryd.ntmps13
  go_wp2
  go_ret
  exact ⟨_, rfl, hU, hB⟩

theorem limbs_mod (c q : Nat) (hc : c < 79228162514264337593543950336) : (((c / 18446744073709551616 % 4294967296 % q * 4294967296 + c / 4294967296 % 4294967296) % q) * 4294967296 + c % 4294967296) % q = c % q := by
  have e : c = (c / 18446744073709551616 % 4294967296 * 4294967296 + c / 4294967296 % 4294967296) * 4294967296 + c % 4294967296 := by omega
  have h : c % q = ((c / 18446744073709551616 % 4294967296 * 4294967296 + c / 4294967296 % 4294967296) * 4294967296 + c % 4294967296) % q := by rw [← e]
  rw [h]
  generalize c / 18446744073709551616 % 4294967296 = x2
  generalize c / 4294967296 % 4294967296 = x1
  generalize c % 4294967296 = x0
  rw [Nat.add_mod, mul_mod2, ← Nat.add_mod]
  have a : (x2 % q * 4294967296 + x1) % q = (x2 * 4294967296 + x1) % q := by rw [Nat.add_mod, mul_mod2, ← Nat.add_mod]
  rw [Nat.add_mod, ← mul_mod2 (x2 % q * 4294967296 + x1), a, mul_mod2, ← Nat.add_mod]

end Go.Proofs.YtofhpfmgopmcmaaDoor
