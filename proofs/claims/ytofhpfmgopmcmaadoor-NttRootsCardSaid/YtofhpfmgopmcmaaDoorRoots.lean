/- Proved: the statement NttRoots: whatever prime and root: its square is the next one below, its power of half its order is the prime less 1. No condition. -/
import Derived.Test.YtofhpfmgopmcmaaDoorFr
import Derived.Deep.RegionHeld3
namespace Go.Proofs.YtofhpfmgopmcmaaDoor
open Go.ChangeShapes Go.WideShapes Go.ChangeAt Go.RowKit
set_option linter.unusedVariables false
set_option maxHeartbeats 400000

theorem rt_sq (n m : Nat) (h0 : 0 < m) (hm : m ≤ 20) : rt (fd n) m % (fd n).p * (rt (fd n) m % (fd n).p) % (fd n).p = rt (fd n) (m - 1) % (fd n).p := by
  have F := fd_fld n
  rw [← Nat.mul_mod, ← Nat.pow_two]
  unfold rt
  rw [← Nat.pow_mul]
  congr 2
  have h1 := F.dvk hm
  have h2 := F.dvk (k := m - 1) (by omega)
  obtain ⟨j, rfl⟩ : ∃ j, m = j + 1 := ⟨m - 1, by omega⟩
  rw [Nat.add_sub_cancel] at h2 ⊢
  rw [Nat.pow_succ, ← Nat.mul_assoc, Nat.mul_right_comm] at h1
  have h3 : (f : Nat) → f * 2 ^ j = ((fd n).p - 1) → f = ((fd n).p - 1) / 2 ^ j := fun f hf => by rw [← hf, Nat.mul_div_cancel _ (Nat.two_pow_pos j)]
  rw [Nat.pow_succ]
  exact h3 _ h1
theorem rt_half (n m : Nat) (h0 : 0 < m) (hm : m ≤ 20) : (rt (fd n) m % (fd n).p) ^ 2 ^ (m - 1) % (fd n).p = (fd n).p - 1 := by
  have F := fd_fld n
  have p0 := F.good.p0
  rw [pow_mod2]
  have h := (F.rt hm).2 h0
  have h2 : Eqm ((fd n).p : Int) ((rt (fd n) m ^ 2 ^ (m - 1) : Nat) : Int) (((fd n).p - 1 : Nat) : Int) := by
    rw [Int.natCast_pow]
    exact h.trans (Eqm.symm ⟨1, by omega⟩)
  have := h2.nat_eq
  rw [this, Nat.mod_eq_of_lt (by omega)]

theorem keepX {w x y : World} (h : 0 < x.heap.size ∧ Ext w x) (hB : Ext x y) : 0 < y.heap.size ∧ Ext w y := ⟨Nat.lt_of_lt_of_le h.1 hB.size, h.2.below hB⟩
set_option maxRecDepth 100000 in
set_option maxHeartbeats 2000000 in
theorem NttRoots_walk (w : World) (hg : Gl w) (i : Nat) (hi : i < 256) (k : Nat) (hk : k < 256) :
    Calls Tryd.prog 8 #[.int .u8 (i : Nat), .int .u8 (k : Nat)] w fun e w' => e = .returned (.bool true) ∧ Ext w w' := by
  have HB := Ext.refl w
  obtain ⟨n, hn⟩ : ∃ n, i % 3 = n := ⟨_, rfl⟩
  have hn3 : n < 3 := by omega
  have hni : (i : Int) % 3 = (n : Int) := by omega
  obtain ⟨q, hq⟩ : ∃ q, k % 20 = q := ⟨_, rfl⟩
  have hq20 : q < 20 := by omega
  have hqi : (k : Int) % 20 = (q : Int) := by omega
  obtain ⟨m, hm⟩ : ∃ m, 1 + q = m := ⟨_, rfl⟩
  have hm0 : 0 < m := by omega
  have hm20 : m ≤ 20 := by omega
  have hmi : (1 : Int) + (q : Int) = (m : Int) := by omega
  have hmj : (m : Int) - 1 = ((m - 1 : Nat) : Int) := by omega
  have HS := Lib.hid (rt_sq n m hm0 hm20)
  have HH := Lib.hid (rt_half n m hm0 hm20)
  have p0 := (fd_fld n).good.p0
  have p1 := (fd_fld n).good.p1
  have hP := Lib.hid (fun W hg => prime_B W hg n hn3 (fd n).p rfl)
  have hR := Lib.hid (fun W hg => root_B W hg n m hn3 hm20 _ rfl)
  have hR2 := Lib.hid (fun W hg => root_B W hg n (m - 1) hn3 (by omega) _ rfl)
  have hrp : rt (fd n) m % (fd n).p < (fd n).p := Nat.mod_lt _ (by omega)
  generalize rt (fd n) m % (fd n).p = r at *
  generalize rt (fd n) (m - 1) % (fd n).p = r2 at *
  generalize (fd n).p = p at *
  clear hn hq hm
  obtain ⟨m1, hm1⟩ : ∃ m1, m - 1 = m1 := ⟨_, rfl⟩
  rw [hm1] at hmj HH hR2
  have HM1 := Lib.hid hm1
  have hpz : ((p : Int) == 0) = false := by rw [beq_eq_false_iff_ne]; omega
  have hrd : decide ((p : Int) ≤ (r : Int)) = false := by rw [decide_eq_false_iff_not]; omega
  clear hm1
  go_enter Tryd.func8, Tryd.ntmps8
  go_wp2_with (fail)
  refine (head_calls _ hg).mono ?_
  rintro e w1 ⟨rfl, hB⟩
  replace HB := HB.below hB
  replace hg := hg.ext hB
  clear hB
  go_wp2_with (fail)
  refine (hP.out _ hg).mono ?_
  rintro e w2 ⟨rfl, hB⟩
  replace HB := HB.below hB
  replace hg := hg.ext hB
  clear hB
  go_wp2_with (fail)
  refine (hR.out _ hg).mono ?_
  rintro e w3 ⟨rfl, hB⟩
  replace HB := HB.below hB
  replace hg := hg.ext hB
  clear hB
  go_wp2_with (fail)
  go_loop [10, 11] (fun x t => ∃ j : Nat, 1 ≤ j ∧ j ≤ m ∧ t = .int .i64 (j : Nat) ∧ x = .int .u64 (r ^ 2 ^ (j - 1) % p : Nat)) (fun _ t => m - (intOf t).toNat)
  case atStart => exact ⟨1, Nat.le_refl _, hm0, rfl, by rw [Nat.sub_self, Nat.pow_zero, Nat.pow_one, Nat.mod_eq_of_lt hrp]⟩
  case round =>
    obtain ⟨j, hj1, hj, rfl, rfl⟩ := hrel
    by_cases hlt : j < m
    · obtain ⟨x, hx⟩ : ∃ x, r ^ 2 ^ (j - 1) % p = x := ⟨_, rfl⟩
      have hxp : x < p := by rw [← hx]; exact Nat.mod_lt _ (by omega)
      have HX : Hid (r ^ 2 ^ (j + 1 - 1) % p = x * x % p) := by
        rw [Hid, ← hx, ← Nat.mul_mod, ← Nat.pow_two, ← Nat.pow_mul, ← Nat.pow_succ, show (j - 1).succ = j + 1 - 1 by omega]
      rw [hx]
      clear hx
      obtain ⟨z, hz⟩ : ∃ z, x * x = z := ⟨_, rfl⟩
      have hzi : (x : Int) * (x : Int) = (z : Int) := by rw [← hz, Int.natCast_mul]
      have hz64 : z < 18446744073709551616 := by rw [← hz]; exact Nat.lt_of_le_of_lt (Nat.mul_le_mul (Nat.le_of_lt hxp) (Nat.le_of_lt hxp)) (by have := Nat.mul_le_mul (Nat.le_of_lt p1) (Nat.le_of_lt p1); omega)
      obtain ⟨y, hy⟩ : ∃ y, z % p = y := ⟨_, rfl⟩
      have hyi : (z : Int) % (p : Int) = (y : Int) := by rw [← hy, Int.natCast_emod]
      have HY : Hid (x * x % p = y) := by rw [Hid, hz, hy]
      clear hz hy
      go_wp2
      go_round
      case rel => exact ⟨j + 1, by omega, by omega, by go_num, by rw [HX.out, HY.out, hyi]⟩
      case measure => simp [intOf]; omega
    · obtain rfl : j = m := by omega
      rw [HM1.out, HH.out]
      obtain ⟨z, hz⟩ : ∃ z, r * r = z := ⟨_, rfl⟩
      have hzi : (r : Int) * (r : Int) = (z : Int) := by rw [← hz, Int.natCast_mul]
      have hz64 : z < 18446744073709551616 := by rw [← hz]; exact Nat.lt_of_le_of_lt (Nat.mul_le_mul (Nat.le_of_lt hrp) (Nat.le_of_lt hrp)) (by have := Nat.mul_le_mul (Nat.le_of_lt p1) (Nat.le_of_lt p1); omega)
      have hyi : (z : Int) % (p : Int) = (r2 : Int) := by rw [← HS.out, hz, Int.natCast_emod]
      have hr2 : r2 < p := by rw [← HS.out]; exact Nat.mod_lt _ (by omega)
      have hw2 : IntKind.u32.wrap (r2 : Int) = (r2 : Int) := by rw [IntKind.wrap_u32]; omega
      have hzw : IntKind.u64.wrap (z : Int) = (z : Int) := by rw [IntKind.wrap_u64]; omega
      have hp1 : (p : Int) - 1 = ((p - 1 : Nat) : Int) := by omega
      have hp1w : IntKind.u64.wrap ((p : Int) - 1) = ((p - 1 : Nat) : Int) := by rw [IntKind.wrap_u64]; omega
      have hmw : IntKind.i64.wrap ((j : Int) - 1) = (m1 : Int) := by rw [IntWalk.i64_in _ (by omega)]; exact hmj
      obtain ⟨p2, hp2⟩ : ∃ p2, p - 1 = p2 := ⟨_, rfl⟩
      rw [hp2] at hp1 hp1w ⊢
      have hp2w : IntKind.u64.wrap (p2 : Int) = (p2 : Int) := by rw [IntKind.wrap_u64]; omega
      have hzt : ((z : Int)).tmod (p : Int) = (r2 : Int) := by rw [Int.tmod_eq_emod_of_nonneg (by omega)]; exact hyi
      have hm1w : IntKind.i64.wrap (m1 : Int) = (m1 : Int) := IntWalk.i64_in _ (by omega)
      have hp0a : ¬ ((p : Int) = 0) := by omega
      have hp0b : ¬ (p = 0) := by omega
      clear hz hp2
      have hgD : Gl w3.drew := hg
      have hS0 : 0 < w3.drew.heap.size ∧ Ext w w3.drew := ⟨hgD.1, HB.drew⟩
      go_wp2
      go_region_held3 (fun X => 0 < X.heap.size ∧ Ext w X)
        (first
          | exact hS0
          | exact keepX (by assumption) (by assumption))
        (first
          | (go_at_call 16; ((with_reducible refine (hR2.out _ hgD).mono ?_); rintro e w4 ⟨rfl, hB⟩)))
      go_wp2
      go_ret
      go_split_ands
      exact ⟨rfl, by assumption⟩

end Go.Proofs.YtofhpfmgopmcmaaDoor
