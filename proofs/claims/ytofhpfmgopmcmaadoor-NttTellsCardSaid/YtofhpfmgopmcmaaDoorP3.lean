/- The document's sums of products. -/
import Derived.Test.YtofhpfmgopmcmaaDoorP2
import Derived.Test.YtofhpfmgopmcmaaDoorN3
namespace Go.Proofs.YtofhpfmgopmcmaaDoor
open Go.RowKit
set_option linter.unusedVariables false
set_option maxHeartbeats 400000

theorem u64_and32 (e : Nat) : bits .and .u64 (e : Int) 4294967295 = ((e % 4294967296 : Nat) : Int) := by
  have h1 : (BitVec.ofInt 64 4294967295).toNat = 2 ^ 32 - 1 := by decide
  have key : (BitVec.ofInt 64 (e : Int) &&& BitVec.ofInt 64 4294967295).toNat = ((e : Int) % ((2 ^ 64 : Nat) : Int)).toNat % 2 ^ 32 := by
    rw [BitVec.toNat_and, BitVec.toNat_ofInt, h1, Nat.and_two_pow_sub_one_eq_mod]
  show IntKind.u64.wrap ((BitVec.ofInt 64 (e : Int) &&& BitVec.ofInt 64 4294967295).toNat : Nat) = _
  rw [key, IntKind.wrap_u64]
  omega

theorem put_math (S t s0 s1 s2 t0 t1 : Nat) (hs : S < 79228162514264337593543950336) (ht : t < 18446744073709551616) (hst : S + t < 79228162514264337593543950336)
    (h0 : S % 4294967296 = s0) (h1 : S / 4294967296 % 4294967296 = s1) (h2 : S / 18446744073709551616 % 4294967296 = s2) (h3 : t % 4294967296 = t0) (h4 : t / 4294967296 = t1) (lo mid : Nat) (hl : s0 + t0 = lo) (hm : s1 + t1 + lo / 4294967296 = mid) :
    lo % 4294967296 = (S + t) % 4294967296 ∧ mid % 4294967296 = (S + t) / 4294967296 % 4294967296 ∧ s2 + mid / 4294967296 = (S + t) / 18446744073709551616 % 4294967296 ∧ lo < 8589934592 ∧ mid < 8589934593 := by
  have b0 : s0 < 4294967296 := by rw [← h0]; exact Nat.mod_lt _ (by decide)
  have b1 : s1 < 4294967296 := by rw [← h1]; exact Nat.mod_lt _ (by decide)
  have eS : S = s2 * 18446744073709551616 + s1 * 4294967296 + s0 := by omega
  have b2 : s2 < 4294967296 := by rw [← h2]; exact Nat.mod_lt _ (by decide)
  have c0 : t0 < 4294967296 := by rw [← h3]; exact Nat.mod_lt _ (by decide)
  have eT : t = t1 * 4294967296 + t0 := by omega
  have c1 : t1 < 4294967296 := by omega
  clear h0 h1 h2 h3 h4 hs ht
  obtain ⟨q, hq⟩ : ∃ q, lo / 4294967296 = q := ⟨_, rfl⟩
  obtain ⟨r, hr⟩ : ∃ r, lo % 4294967296 = r := ⟨_, rfl⟩
  have e1 : S + t = s2 * 18446744073709551616 + mid * 4294967296 + r := by omega
  have r1 : r < 4294967296 := by omega
  have m1 : mid < 8589934593 := by omega
  rw [e1] at hst ⊢
  rw [hr]
  have l1 : lo < 8589934592 := by omega
  clear eS eT hl hm hr e1 hq
  exact ⟨by omega, by omega, by omega, l1, m1⟩

/-- Three limbs. -/
abbrev v3 (S : Nat) : Value := .agg #[.int .u32 (S % 4294967296 : Nat), .int .u32 (S / 4294967296 % 4294967296 : Nat), .int .u32 (S / 18446744073709551616 % 4294967296 : Nat)]
set_option maxRecDepth 100000 in
set_option maxHeartbeats 2000000 in
theorem put_calls (w : World) (S x y : Nat) (hx : x < 4294967296) (hy : y < 4294967296) (hs : S + x * y < 79228162514264337593543950336) :
    Calls Tryd.prog 36 #[v3 S, .int .u32 (x : Nat), .int .u32 (y : Nat)] w fun e w' => e = .returned (v3 (S + x * y)) ∧ Ext w w' := by
  unfold v3
  obtain ⟨t, ht⟩ : ∃ t, x * y = t := ⟨_, rfl⟩
  have ht64 : t ≤ 18446744065119617025 := by rw [← ht]; exact sq_lt hx hy
  have hti : (x : Int) * (y : Int) = (t : Int) := by rw [← ht, Int.natCast_mul]
  rw [ht] at hs ⊢
  obtain ⟨s0, hs0⟩ : ∃ s0, S % 4294967296 = s0 := ⟨_, rfl⟩
  obtain ⟨s1, hs1⟩ : ∃ s1, S / 4294967296 % 4294967296 = s1 := ⟨_, rfl⟩
  obtain ⟨s2, hs2⟩ : ∃ s2, S / 18446744073709551616 % 4294967296 = s2 := ⟨_, rfl⟩
  obtain ⟨t0, ht0⟩ : ∃ t0, t % 4294967296 = t0 := ⟨_, rfl⟩
  obtain ⟨t1, ht1⟩ : ∃ t1, t / 4294967296 = t1 := ⟨_, rfl⟩
  obtain ⟨lo, hlo⟩ : ∃ lo, s0 + t0 = lo := ⟨_, rfl⟩
  obtain ⟨mid, hmid⟩ : ∃ mid, s1 + t1 + lo / 4294967296 = mid := ⟨_, rfl⟩
  obtain ⟨e0, e1, e2, e3, e4⟩ := put_math S t s0 s1 s2 t0 t1 (by omega) (by omega) hs hs0 hs1 hs2 ht0 ht1 lo mid hlo hmid
  rw [hs0, hs1, hs2, ← e0, ← e1, ← e2]
  have b0 : s0 < 4294967296 := by rw [← hs0]; exact Nat.mod_lt _ (by decide)
  have b1 : s1 < 4294967296 := by rw [← hs1]; exact Nat.mod_lt _ (by decide)
  have b2 : s2 < 4294967296 := by rw [← hs2]; exact Nat.mod_lt _ (by decide)
  have c0 : t0 < 4294967296 := by rw [← ht0]; exact Nat.mod_lt _ (by decide)
  have c1 : t1 < 4294967296 := by rw [← ht1]; omega
  have hb2 : s2 + mid / 4294967296 < 4294967296 := by rw [e2]; exact Nat.mod_lt _ (by decide)
  obtain ⟨q1, hq1⟩ : ∃ q1, lo / 4294967296 = q1 := ⟨_, rfl⟩
  obtain ⟨q2, hq2⟩ : ∃ q2, mid / 4294967296 = q2 := ⟨_, rfl⟩
  obtain ⟨r0, hr0⟩ : ∃ r0, lo % 4294967296 = r0 := ⟨_, rfl⟩
  obtain ⟨r1, hr1⟩ : ∃ r1, mid % 4294967296 = r1 := ⟨_, rfl⟩
  obtain ⟨r2, hr2⟩ : ∃ r2, s2 + q2 = r2 := ⟨_, rfl⟩
  rw [hq2] at hb2
  rw [hr0, hr1, hq2, hr2]
  have f1 : IntKind.u64.wrap (t : Int) = (t : Int) := by rw [IntKind.wrap_u64]; omega
  have f2 : bits .and .u64 (t : Int) 4294967295 = (t0 : Int) := by rw [u64_and32, ht0]
  have f3 : (s0 : Int) + (t0 : Int) = (lo : Int) := by omega
  have f4 : IntKind.u64.wrap (lo : Int) = (lo : Int) := by rw [IntKind.wrap_u64]; omega
  have f5 : (t : Int) / 4294967296 = (t1 : Int) := by omega
  have f6 : (lo : Int) / 4294967296 = (q1 : Int) := by omega
  have f7 : (s1 : Int) + (t1 : Int) + (q1 : Int) = (mid : Int) := by omega
  have f8 : IntKind.u64.wrap ((s1 : Int) + (t1 : Int)) = (s1 : Int) + (t1 : Int) := by rw [IntKind.wrap_u64]; omega
  have f9 : IntKind.u64.wrap (mid : Int) = (mid : Int) := by rw [IntKind.wrap_u64]; omega
  have f10 : IntKind.u32.wrap (lo : Int) = (r0 : Int) := by rw [IntKind.wrap_u32]; omega
  have f11 : IntKind.u32.wrap (mid : Int) = (r1 : Int) := by rw [IntKind.wrap_u32]; omega
  have f12 : (mid : Int) / 4294967296 = (q2 : Int) := by omega
  have f13 : IntKind.u32.wrap (q2 : Int) = (q2 : Int) := by rw [IntKind.wrap_u32]; omega
  have f14 : (s2 : Int) + (q2 : Int) = (r2 : Int) := by omega
  have f15 : IntKind.u32.wrap (r2 : Int) = (r2 : Int) := by rw [IntKind.wrap_u32]; omega
  have g0 : IntKind.u64.wrap (s0 : Int) = (s0 : Int) := by rw [IntKind.wrap_u64]; omega
  have g1 : IntKind.u64.wrap (s1 : Int) = (s1 : Int) := by rw [IntKind.wrap_u64]; omega
  have hEw := ((Ext.refl w).alloc (.cells #[.int .u32 (s0 : Nat), .int .u32 (s1 : Nat), .int .u32 (s2 : Nat)] 52)).alloc (.cells #[.int .u32 (r0 : Nat), .int .u32 (r1 : Nat), .int .u32 (r2 : Nat)] 52)
  clear hs0 hs1 hs2 ht0 ht1 hlo hmid hq1 hq2 hr0 hr1 hr2 e0 e1 e2 hs ht
  go_enter Tryd.func36, Tryd.ntmps36
  go_wp2
  refine bodyPost_ret (v := .agg #[.int .u32 (r0 : Nat), .int .u32 (r1 : Nat), .int .u32 (r2 : Nat)]) ?_ rfl ⟨rfl, ?_⟩
  · simp [results, Tryd.results36, go_sem, *]
  · exact hEw
end Go.Proofs.YtofhpfmgopmcmaaDoor
