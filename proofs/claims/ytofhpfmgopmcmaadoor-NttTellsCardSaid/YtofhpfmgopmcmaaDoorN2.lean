/- The law's at. -/
import Derived.Test.YtofhpfmgopmcmaaDoorN1
namespace Go.Proofs.YtofhpfmgopmcmaaDoor
open Go.RowKit
set_option linter.unusedVariables false
set_option maxHeartbeats 400000

theorem dig (a b : Nat) (ha : a < 4294967291) (hb : b < 4294967296) (n : Nat) (hn : (a * 4294967296 + b) % 4294967291 = n) :
    IntKind.u64.wrap (a : Int) = (a : Int) ∧ IntKind.u64.wrap ((a : Int) * 4294967296) = (a : Int) * 4294967296 ∧ IntKind.u64.wrap ((a : Int) * 4294967296 + (b : Int)) = (a : Int) * 4294967296 + (b : Int) ∧
    IntKind.u64.wrap (b : Int) = (b : Int) ∧ ((a : Int) * 4294967296 + (b : Int)).tmod 4294967291 = (n : Int) ∧ ((a : Int) * 4294967296 + (b : Int)) % 4294967291 = (n : Int) ∧ n < 4294967291 := by
  have h : ((a : Int) * 4294967296 + (b : Int)) % 4294967291 = (n : Int) := by omega
  refine ⟨by rw [IntKind.wrap_u64]; omega, by rw [IntKind.wrap_u64]; omega, by rw [IntKind.wrap_u64]; omega, by rw [IntKind.wrap_u64]; omega, by rw [Int.tmod_eq_emod_of_nonneg (by omega)]; exact h, h, by omega⟩
theorem dig1 (z n : Nat) (hz : z < 18446744073709551616) (hn : z % 4294967291 = n) :
    IntKind.u64.wrap (z : Int) = (z : Int) ∧ ((z : Int)).tmod 4294967291 = (n : Int) ∧ (z : Int) % 4294967291 = (n : Int) ∧ n < 4294967291 := by
  have h : (z : Int) % 4294967291 = (n : Int) := by omega
  refine ⟨by rw [IntKind.wrap_u64]; omega, by rw [Int.tmod_eq_emod_of_nonneg (by omega)]; exact h, h, by omega⟩
theorem dig2 (a b n : Nat) (ha : a < 4294967291) (hb : b < 4294967291) (hn : (a + b) % 4294967291 = n) :
    IntKind.u64.wrap (a : Int) = (a : Int) ∧ IntKind.u64.wrap ((a : Int) + (b : Int)) = (a : Int) + (b : Int) ∧ IntKind.u64.wrap (b : Int) = (b : Int) ∧
    ((a : Int) + (b : Int)).tmod 4294967291 = (n : Int) ∧ ((a : Int) + (b : Int)) % 4294967291 = (n : Int) ∧ IntKind.u64.wrap (n : Int) = (n : Int) ∧ n < 4294967291 := by
  have h : ((a : Int) + (b : Int)) % 4294967291 = (n : Int) := by omega
  refine ⟨by rw [IntKind.wrap_u64]; omega, by rw [IntKind.wrap_u64]; omega, by rw [IntKind.wrap_u64]; omega, by rw [Int.tmod_eq_emod_of_nonneg (by omega)]; exact h, h, by rw [IntKind.wrap_u64]; omega, by omega⟩

set_option maxRecDepth 100000 in
set_option maxHeartbeats 4000000 in
/-- The law's at: the sums as coefficients. -/
theorem at_B (w : World) (v : Value) (cs : List Nat) (y : Nat) (hu : U3 w v cs) (hcs : ∀ x ∈ cs, x < 79228162514264337593543950336) (hy : y < 4294967291) (r : Nat) (hr : hv cs y 4294967291 cs.length 0 = r) :
    Calls Tryd.prog 27 #[v, .int .u64 (y : Nat)] w fun e w' => e = .returned (.int .u64 (r : Nat)) ∧ Ext w w' := by
  obtain ⟨A, c, rfl, ⟨hc1, hc2⟩, hrd⟩ := id hu
  subst hr
  obtain ⟨n, hn⟩ : ∃ n, cs.length = n := ⟨_, rfl⟩
  have HN := Lib.hid hn
  rw [hn] at hc1 hc2 hrd ⊢
  clear hu hn
  go_enter Tryd.func27, Tryd.ntmps27
  go_wp2_with (fail)
  go_loopw [5, 6] (fun s t wr => ∃ m : Nat, m ≤ n ∧ t = .int .i64 ((m : Int) - 1) ∧ s = .int .u64 (hv cs y 4294967291 n m : Nat) ∧ ∃ k, wr = w.drewN k) (fun _ t _ => (intOf t + 1).toNat)
  case atStart => exact ⟨n, Nat.le_refl _, rfl, by rw [hv_end cs y _ n (by decide)]; rfl, 0, rfl⟩
  case round =>
    obtain ⟨m, hm, rfl, rfl, k, rfl⟩ := hrel
    by_cases hlt : 1 ≤ m
    · obtain ⟨q, rfl⟩ : ∃ q, m = q + 1 := ⟨m - 1, by omega⟩
      have hqq : (((q + 1 : Nat) : Int) - 1) = (q : Int) := by omega
      rw [hqq]
      obtain ⟨ad, rfl, hb, hcell⟩ := hrd (by omega)
      have hl := lb_fl cs q (by rw [HN.out]; omega)
      have k0 := hcell (q * 3) (by omega)
      have k1 := hcell (q * 3 + 1) (by omega)
      have k2 := hcell (q * 3 + 2) (by omega)
      rw [hl.1] at k0
      rw [hl.2.1] at k1
      rw [hl.2.2] at k2
      rw [← addr_add_add, addr_at _ 1 (by decide)] at k1
      rw [← addr_add_add, addr_at _ 2 (by decide)] at k2
      have hx1 : lb cs q < 79228162514264337593543950336 := lb_lt_of (by decide) hcs q
      have hlm := limbs_mod (lb cs q) 4294967291 hx1
      have hst := hv_step cs y 4294967291 n q (by omega)
      have hsp : hv cs y 4294967291 n (q + 1) < 4294967291 := hv_lt _ _ _ _ _ (by decide)
      generalize hv cs y 4294967291 n (q + 1) = s at *
      generalize lb cs q = x at *
      obtain ⟨x0, h0⟩ : ∃ x0, x % 4294967296 = x0 := ⟨_, rfl⟩
      obtain ⟨x1, h1⟩ : ∃ x1, x / 4294967296 % 4294967296 = x1 := ⟨_, rfl⟩
      obtain ⟨x2, h2⟩ : ∃ x2, x / 18446744073709551616 % 4294967296 = x2 := ⟨_, rfl⟩
      rw [h0] at k0 hlm
      rw [h1] at k1 hlm
      rw [h2] at k2 hlm
      have b0 : x0 < 4294967296 := by rw [← h0]; exact Nat.mod_lt _ (by decide)
      have b1 : x1 < 4294967296 := by rw [← h1]; exact Nat.mod_lt _ (by decide)
      have b2 : x2 < 4294967296 := by rw [← h2]; exact Nat.mod_lt _ (by decide)
      clear h0 h1 h2 hl hx1
      obtain ⟨y2, hy2⟩ : ∃ y2, x2 % 4294967291 = y2 := ⟨_, rfl⟩
      rw [hy2] at hlm
      obtain ⟨n1, hn1⟩ : ∃ n1, (y2 * 4294967296 + x1) % 4294967291 = n1 := ⟨_, rfl⟩
      rw [hn1] at hlm
      obtain ⟨n2, hn2⟩ : ∃ n2, (n1 * 4294967296 + x0) % 4294967291 = n2 := ⟨_, rfl⟩
      rw [hn2] at hlm
      obtain ⟨z, hz⟩ : ∃ z, s * y = z := ⟨_, rfl⟩
      rw [hz] at hst
      obtain ⟨z2, hz2⟩ : ∃ z2, z % 4294967291 = z2 := ⟨_, rfl⟩
      obtain ⟨r, hr⟩ : ∃ r, (z2 + n2) % 4294967291 = r := ⟨_, rfl⟩
      have hrst : (z + x) % 4294967291 = r := by rw [← hr, ← hz2, hlm, ← Nat.add_mod]
      rw [hrst] at hst
      have HST := Lib.hid hst
      have hzi : (s : Int) * (y : Int) = (z : Int) := by rw [← hz, Int.natCast_mul]
      have hz64 : z ≤ 4294967291 * 4294967291 := by rw [← hz]; exact Nat.mul_le_mul (Nat.le_of_lt hsp) (Nat.le_of_lt hy)
      obtain ⟨d1, d2, d3, d4⟩ := dig1 x2 y2 (Nat.lt_trans b2 (by decide)) hy2
      obtain ⟨e1, e2, e3, e4, e5, e6, e7⟩ := dig y2 x1 d4 b1 n1 hn1
      obtain ⟨f1, f2, f3, f4, f5, f6, f7⟩ := dig n1 x0 e7 b0 n2 hn2
      obtain ⟨g1, g2, g3, g4⟩ := dig1 z z2 (Nat.lt_of_le_of_lt hz64 (by decide)) hz2
      obtain ⟨k1', k2', k3', k4', k5', k6', k7'⟩ := dig2 z2 n2 r g4 f7 hr
      clear hz hr hst hcell hrd hy2 hn1 hn2 hlm hz2 hrst
      have hj0 : (0 : Int) ≤ (q : Int) := by omega
      have hj1 : (q : Int) < (n : Int) := by omega
      go_wp2
      go_region
      go_wp2
      go_roundw
      case rel => exact ⟨q, by omega, by go_num, by rw [HST.out], k + 1, rfl⟩
      case measure => simp [intOf]
    · obtain rfl : m = 0 := by omega
      clear hrd
      go_wp2
      go_ret
      exact ⟨rfl, ext_drewN w k⟩
end Go.Proofs.YtofhpfmgopmcmaaDoor
