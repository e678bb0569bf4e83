/- The document's powers and roots. -/
import Derived.Test.YtofhpfmgopmcmaaDoorL4
namespace Go.Proofs.YtofhpfmgopmcmaaDoor
open Go.RowKit
set_option linter.unusedVariables false
set_option maxHeartbeats 400000

theorem u64_and1 (e : Nat) : bits .and .u64 (e : Int) 1 = ((e % 2 : Nat) : Int) := by
  have h1 : (BitVec.ofInt 64 1).toNat = 2 ^ 1 - 1 := by decide
  have key : (BitVec.ofInt 64 (e : Int) &&& BitVec.ofInt 64 1).toNat = ((e : Int) % ((2 ^ 64 : Nat) : Int)).toNat % 2 ^ 1 := by
    rw [BitVec.toNat_and, BitVec.toNat_ofInt, h1, Nat.and_two_pow_sub_one_eq_mod]
  show IntKind.u64.wrap ((BitVec.ofInt 64 (e : Int) &&& BitVec.ofInt 64 1).toNat : Nat) = _
  rw [key, IntKind.wrap_u64]
  omega
theorem sqr_step (o b e p : Nat) : o * b ^ e % p = (if e % 2 = 1 then o * b % p else o) * (b * b % p) ^ (e / 2) % p := by
  have h : b ^ e = (if e % 2 = 1 then b else 1) * (b * b) ^ (e / 2) := by
    rw [← Nat.pow_two, ← Nat.pow_mul]
    split
    · rw [← Nat.pow_succ']; congr 1; omega
    · rw [Nat.one_mul]; congr 1; omega
  rw [h]
  split
  · rw [← Nat.mul_assoc]
    conv => lhs; rw [Nat.mul_mod, ← pow_mod2 (b * b)]
    conv => rhs; rw [Nat.mul_mod, Nat.mod_mod]
  · rw [Nat.one_mul]
    conv => lhs; rw [Nat.mul_mod, ← pow_mod2 (b * b)]
    conv => rhs; rw [Nat.mul_mod]

theorem rpow_B (w : World) (b e p : Nat) (hp1 : 1 < p) (hp : p ≤ 4294967296) (hb : b < 18446744073709551616) (he : e < 18446744073709551616) (r : Nat) (hr : b ^ e % p = r) :
    Calls Tryd.prog 31 #[.int .u64 (b : Nat), .int .u64 (e : Nat), .int .u64 (p : Nat)] w fun x w' => x = .returned (.int .u64 (r : Nat)) ∧ Ext w w' := by
  obtain ⟨b1, hb1⟩ : ∃ b1, b % p = b1 := ⟨_, rfl⟩
  have hbt : ((b : Nat) : Int).tmod (p : Int) = (b1 : Int) := by rw [Int.tmod_eq_emod_of_nonneg (by omega), ← hb1, Int.natCast_emod]
  have hbe : ((b : Nat) : Int) % (p : Int) = (b1 : Int) := by rw [← hb1, Int.natCast_emod]
  have hb1p : b1 < p := by rw [← hb1]; exact Nat.mod_lt _ (by omega)
  have hR : Hid (1 * b1 ^ e % p = r) := by rw [Hid, Nat.one_mul, ← hb1, pow_mod2, hr]
  have hpz : ((p : Int) == 0) = false := by rw [beq_eq_false_iff_ne]; omega
  have hp0a : ¬ ((p : Int) = 0) := by omega
  have hp0b : ¬ (p = 0) := by omega
  clear hr hb1
  go_enter Tryd.func31, Tryd.ntmps31
  go_wp2
  go_loop [0, 1, 7] (fun s0 s1 s7 => ∃ x y o : Nat, s0 = .int .u64 (x : Nat) ∧ s1 = .int .u64 (y : Nat) ∧ s7 = .int .u64 (o : Nat) ∧ x < p ∧ y < 18446744073709551616 ∧ o < p ∧ Hid (o * x ^ y % p = r)) (fun _ s1 _ => (intOf s1).toNat)
  case atStart => exact ⟨b1, e, 1, rfl, rfl, rfl, hb1p, he, by omega, hR⟩
  case round =>
    obtain ⟨x, y, o, rfl, rfl, rfl, hx, hy, ho, HO⟩ := hrel
    by_cases h0 : 0 < y
    · have hs := sqr_step o x y p
      have hbit := u64_and1 y
      obtain ⟨y2, hy2⟩ : ∃ y2, y / 2 = y2 := ⟨_, rfl⟩
      have hyi : (y : Int) / 2 = (y2 : Int) := by omega
      have hyb : y2 < y := by omega
      obtain ⟨z, hz⟩ : ∃ z, x * x = z := ⟨_, rfl⟩
      have hzi : (x : Int) * (x : Int) = (z : Int) := by rw [← hz, Int.natCast_mul]
      have hz64 : z < 18446744073709551616 := by
        rw [← hz]; exact Nat.lt_of_le_of_lt (Nat.mul_le_mul (show x ≤ 4294967295 by omega) (show x ≤ 4294967295 by omega)) (by decide)
      have hzw : IntKind.u64.wrap (z : Int) = (z : Int) := by rw [IntKind.wrap_u64]; omega
      obtain ⟨x2, hx2⟩ : ∃ x2, z % p = x2 := ⟨_, rfl⟩
      have hx2i : (z : Int) % (p : Int) = (x2 : Int) := by rw [← hx2, Int.natCast_emod]
      have hx2t : ((z : Int)).tmod (p : Int) = (x2 : Int) := by rw [Int.tmod_eq_emod_of_nonneg (by omega)]; exact hx2i
      have hx2p : x2 < p := by rw [← hx2]; exact Nat.mod_lt _ (by omega)
      rw [hz, hx2, hy2] at hs
      by_cases h : y % 2 = 1
      · rw [if_pos h] at hs
        rw [h] at hbit
        have ht : (bits .and .u64 (y : Int) 1 == 1) = true := by rw [hbit]; rfl
        obtain ⟨v, hv⟩ : ∃ v, o * x = v := ⟨_, rfl⟩
        have hvi : (o : Int) * (x : Int) = (v : Int) := by rw [← hv, Int.natCast_mul]
        have hv64 : v < 18446744073709551616 := by
          rw [← hv]; exact Nat.lt_of_le_of_lt (Nat.mul_le_mul (show o ≤ 4294967295 by omega) (show x ≤ 4294967295 by omega)) (by decide)
        have hvw : IntKind.u64.wrap (v : Int) = (v : Int) := by rw [IntKind.wrap_u64]; omega
        obtain ⟨o2, ho2⟩ : ∃ o2, v % p = o2 := ⟨_, rfl⟩
        have ho2i : (v : Int) % (p : Int) = (o2 : Int) := by rw [← ho2, Int.natCast_emod]
        have ho2t : ((v : Int)).tmod (p : Int) = (o2 : Int) := by rw [Int.tmod_eq_emod_of_nonneg (by omega)]; exact ho2i
        have ho2p : o2 < p := by rw [← ho2]; exact Nat.mod_lt _ (by omega)
        rw [hv, ho2] at hs
        have HS : Hid (o2 * x2 ^ y2 % p = r) := by rw [Hid, ← hs, HO.out]
        clear hbit h hs hv ho2 hx2 hz hy2
        go_wp2
        go_round
        case rel => exact ⟨x2, y2, o2, rfl, rfl, rfl, hx2p, by omega, ho2p, HS⟩
        case measure => simp [intOf]; omega
      · rw [if_neg h] at hs
        have ht : (bits .and .u64 (y : Int) 1 == 1) = false := by rw [hbit, beq_eq_false_iff_ne]; omega
        have HS : Hid (o * x2 ^ y2 % p = r) := by rw [Hid, ← hs, HO.out]
        clear hbit h hs hx2 hz hy2
        go_wp2
        go_round
        case rel => exact ⟨x2, y2, o, rfl, rfl, rfl, hx2p, by omega, ho, HS⟩
        case measure => simp [intOf]; omega
    · obtain rfl : y = 0 := by omega
      have h1 := HO.out
      rw [Nat.pow_zero, Nat.mul_one] at h1
      have hoi : ((o : Nat) : Int) % (p : Int) = (r : Int) := by rw [← h1, Int.natCast_emod]
      have hot : ((o : Nat) : Int).tmod (p : Int) = (r : Int) := by rw [Int.tmod_eq_emod_of_nonneg (by omega)]; exact hoi
      clear h1
      go_wp2
      go_ret
      exact ⟨rfl, Ext.refl w⟩

theorem fd_root (i : Nat) (hi : i < 3) : (fd i).root = 3 := by
  rcases (show i = 0 ∨ i = 1 ∨ i = 2 by omega) with rfl | rfl | rfl <;> rfl

theorem rprimeN_B (w : World) (i : Int) (hi : i < 0 ∨ 3 ≤ i) :
    Calls Tryd.prog 15 #[.int .i64 i] w fun e w' => e = .returned (.int .u32 0) ∧ Ext w w' := by
  have h0 : (i == 0) = false := by rw [beq_eq_false_iff_ne]; omega
  have h1 : (i == 1) = false := by rw [beq_eq_false_iff_ne]; omega
  have h2 : (i == 2) = false := by rw [beq_eq_false_iff_ne]; omega
  clear hi
  go_enter Tryd.func15, Tryd.ntmps15
  go_wp2
  go_ret
  exact ⟨rfl, Ext.refl w⟩

theorem rroot_B (w : World) (i k : Nat) (hi : i < 3) (hk : k ≤ 20) (r : Nat) (hr : rt (fd i) k % (fd i).p = r) :
    Calls Tryd.prog 17 #[.int .i64 (i : Nat), .int .i64 (k : Nat)] w fun e w' => e = .returned (.int .u32 (r : Nat)) ∧ Ext w w' := by
  have p0 := (fd_fld i).good.p0
  have p1 := (fd_fld i).good.p1
  have hP := Lib.hid (fun W => rprime_B W i hi (fd i).p rfl)
  obtain ⟨e, he⟩ : ∃ e, ((fd i).p - 1) / 2 ^ k = e := ⟨_, rfl⟩
  have hei : ((((fd i).p : Nat) : Int) - 1) / 2 ^ k = (e : Int) := by
    rw [← he, Int.natCast_ediv, Int.natCast_pow, Int.natCast_sub (by omega)]; rfl
  have heb : e < 18446744073709551616 := by rw [← he]; exact Nat.lt_of_le_of_lt (Nat.div_le_self _ _) (by omega)
  have hW := Lib.hid (fun W => rpow_B W 3 e (fd i).p p0 (by omega) (by decide) heb r (by rw [← hr, ← he]; unfold rt; rw [fd_root i hi]))
  have hrb : r < 4294967296 := by rw [← hr]; exact Nat.lt_trans (Nat.mod_lt _ (by omega)) (by omega)
  generalize (fd i).p = p at *
  have hpz : ((p : Int) == 0) = false := by rw [beq_eq_false_iff_ne]; omega
  have hpw : IntKind.u64.wrap (p : Int) = (p : Int) := by rw [IntKind.wrap_u64]; omega
  have hkw : IntKind.u64.wrap (k : Int) = (k : Int) := by rw [IntKind.wrap_u64]; omega
  have hrw : IntKind.u32.wrap (r : Int) = (r : Int) := by rw [IntKind.wrap_u32]; omega
  have HB := Ext.refl w
  clear he hr
  go_enter Tryd.func17, Tryd.ntmps17
  go_wp2_with (fail)
  refine (hP.out _).mono ?_
  rintro x w1 ⟨rfl, hB⟩
  replace HB := HB.below hB
  clear hB
  go_wp2_with (fail)
  refine (hW.out _).mono ?_
  rintro x w2 ⟨rfl, hB⟩
  replace HB := HB.below hB
  clear hB
  go_wp2
  go_ret
  exact ⟨rfl, HB⟩
end Go.Proofs.YtofhpfmgopmcmaaDoor
