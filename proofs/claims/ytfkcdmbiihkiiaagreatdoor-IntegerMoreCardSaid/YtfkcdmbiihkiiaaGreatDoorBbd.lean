/- A base that is none. -/
import Derived.Test.YtfkcdmbiihkiiaaGreatDoorBam
import Derived.Test.YtfkcdmbiihkiiaaGreatDoorBax
import Derived.Test.YtfkcdmbiihkiiaaGreatDoorBbc
import Derived.Test.YtfkcdmbiihkiiaaGreatDoorBaq
import Derived.Test.YtfkcdmbiihkiiaaGreatDoorBba
import Derived.Test.YtfkcdmbiihkiiaaGreatDoorBav
import Derived.Test.YtfkcdmbiihkiiaaGreatDoorBau
import Derived.Test.YtfkcdmbiihkiiaaGreatDoorBaz
import Derived.Test.YtfkcdmbiihkiiaaGreatDoorBaw
import Derived.Lay
import Derived.LaidOnce

namespace Go.Proofs.YtfkcdmbiihkiiaaGreatDoor
open Go.RowKit
set_option linter.unusedVariables false
set_option maxHeartbeats 1000000

set_option maxRecDepth 100000 in
theorem read_bad (w : World) (v : Value) (b : Int) (h : b < 2 ∨ 36 < b) :
    Calls Tryz.prog 68 #[v, .int .i64 b] w fun e w' => e = .returned (.tuple #[.slice none 0 0, .int .i64 0, .int .i64 1]) ∧ w' = w := by
  rcases h with h | h
  · go_enter Tryz.func68, Tryz.ntmps68
    go_wp2
    go_ret3
    exact ⟨rfl, rfl⟩
  · have h2 : ¬ b < 2 := by omega
    go_enter Tryz.func68, Tryz.ntmps68
    go_wp2
    go_ret3
    exact ⟨rfl, rfl⟩
end Go.Proofs.YtfkcdmbiihkiiaaGreatDoor
/- What is written, what is read: the laws' own questions. -/
namespace Go.Proofs.YtfkcdmbiihkiiaaGreatDoor
open Go.RowKit
set_option linter.unusedVariables false
set_option maxHeartbeats 400000

/-- Digits are read. -/
theorem read_good (w : World) (S : ByteArray) (b n : Nat) (h2 : 2 ≤ b) (h36 : b ≤ 36) (hl : S.size ≤ 19000) (hM : (limbs (b ^ S.size)).length ≤ 398) (h0 : S.size ≠ 0) (hd : ∀ d ∈ worL S, d < b) (hn : bval b (worL S) = n) :
    Calls Tryz.prog 68 #[.string S, .int .i64 (b : Nat)] w fun e w' => ∃ u, e = .returned (.tuple #[u, .int .i64 0, .int .i64 0]) ∧ Un w' u n ∧ Ext w w' := by
  refine (read_calls w S b h2 h36 hl hM).mono fun e w' h => ?_
  rcases h with ⟨i, hi, _, hb, _⟩ | ⟨h, _⟩ | ⟨_, _, u, he, hu, hE⟩
  · exfalso
    have := hd _ (lb_mem (worL S) i (by rw [worL_len]; exact hi))
    omega
  · exact absurd h h0
  · exact ⟨u, he, by rw [← hn]; exact hu, hE⟩
/-- A text with a byte that is no digit. -/
theorem read_wrong (w : World) (S : ByteArray) (b i : Nat) (h2 : 2 ≤ b) (h36 : b ≤ 36) (hl : S.size ≤ 19000) (hM : (limbs (b ^ S.size)).length ≤ 398) (hi : i < S.size) (h1 : ∀ j, j < i → lb (worL S) j < b) (hb : b ≤ lb (worL S) i) :
    Calls Tryz.prog 68 #[.string S, .int .i64 (b : Nat)] w fun e w' => e = .returned (.tuple #[.slice none 0 0, .int .i64 (i : Nat), .int .i64 50]) ∧ w' = w := by
  refine (read_calls w S b h2 h36 hl hM).mono fun e w' h => ?_
  rcases h with ⟨j, hj, hj1, hjb, he, hw⟩ | ⟨h, _⟩ | ⟨_, hd, _⟩
  · have : i = j := by
      rcases Nat.lt_trichotomy i j with h | h | h
      · have := hj1 i h; omega
      · exact h
      · have := h1 j h; omega
    subst this
    exact ⟨he, hw⟩
  · omega
  · exfalso
    have := hd _ (lb_mem (worL S) i (by rw [worL_len]; exact hi))
    omega
theorem dt_lit (b a : Nat) (ds : List Nat) (hb : 2 ≤ b) (hd : ∀ d ∈ ds, d < b) (hv : bval b ds = a) (h0 : strip0 ds = ds) (hne : ds ≠ []) (S : ByteArray) (hS : strD ds = S) : strD (dt b a) = S := by
  rw [← hv, dt_bval b hb ds hd, h0, if_neg hne, hS]
end Go.Proofs.YtfkcdmbiihkiiaaGreatDoor
/- The laws' head: questions whose answers are fixed. -/
namespace Go.Proofs.YtfkcdmbiihkiiaaGreatDoor
open Go.RowKit
set_option linter.unusedVariables false
set_option maxHeartbeats 400000

theorem ext_eq {w w' : World} (h : w' = w) : Ext w w' := by rw [h]; exact Ext.refl w
theorem pow36 (b k : Nat) (hb : b ≤ 36) (hk : k ≤ 2000) : (limbs (b ^ k)).length ≤ 398 := by
  have h1 : b ^ k ≤ (2 ^ 6) ^ k := Nat.pow_le_pow_left (Nat.le_trans hb (by decide)) k
  rw [← Nat.pow_mul] at h1
  obtain ⟨q, hq⟩ : ∃ q, 398 = q := ⟨_, rfl⟩
  rw [hq]
  refine len_of (k := q) ?_
  have e0 : LB = 2 ^ 32 := rfl
  rw [e0, ← Nat.pow_mul]
  exact Nat.lt_of_le_of_lt h1 (Nat.pow_lt_pow_right (by decide) (by omega))
end Go.Proofs.YtfkcdmbiihkiiaaGreatDoor
/- Numbers of the laws: how long a text is; what is written is read. -/
namespace Go.Proofs.YtfkcdmbiihkiiaaGreatDoor
open Go.RowKit
set_option linter.unusedVariables false
set_option maxHeartbeats 400000

theorem dt_len_bound (b a : Nat) (hb : 2 ≤ b) (hl : (limbs a).length ≤ 390) : (dt b a).length ≤ 12480 := by
  obtain ⟨E, hE⟩ : ∃ E, 12480 = E := ⟨_, rfl⟩
  rw [hE]
  refine dt_len_le b hb a E (by omega) ?_
  have h3 : a < 4294967296 ^ (limbs a).length := lt_of_len_le (Nat.le_refl _)
  have e0 : (4294967296 : Nat) = 2 ^ 32 := rfl
  rw [e0, ← Nat.pow_mul] at h3
  have h4 : 2 ^ (32 * (limbs a).length) ≤ 2 ^ E := Nat.pow_le_pow_right (by decide) (by omega)
  have h5 : 2 ^ E ≤ b ^ E := Nat.pow_le_pow_left hb E
  omega
end Go.Proofs.YtfkcdmbiihkiiaaGreatDoor
/- What every statement's proof ends with: the three variables that are laid. -/
namespace Go.Proofs.YtfkcdmbiihkiiaaGreatDoor
open Go.ChangeShapes Go.WideShapes Go.ChangeAt Go.RowKit
set_option linter.unusedVariables false
set_option maxRecDepth 100000

abbrev laidV : List (String × DataW Unit) := [("unicode/utf8.acceptRanges", Rows.laid_unicode_utf8_acceptRanges), ("ziggurat/ntt.fields", Rows.laid_ziggurat_ntt_fields), ("unicode/utf8.first", Rows.laid_unicode_utf8_first)]
theorem laid_met (os : Os) (args : Array Value) : laidMetH Tryz.prog laidV ((World.laidAll Tryz.prog os laidV).forCall (fun _ _ => 0) ⟨#[], args, []⟩).memory := by
  rw [MakeChecks.laidMetH_plain _ _ _ (by kernel_rfl)]
  exact laidMet_laidAll _ (by kernel_rfl) (by kernel_rfl)
end Go.Proofs.YtfkcdmbiihkiiaaGreatDoor
/- Powers, however many, as long as they are short. -/
namespace Go.Proofs.YtfkcdmbiihkiiaaGreatDoor
open Go.RowKit
set_option linter.unusedVariables false
set_option maxHeartbeats 400000

theorem pow_len_all {a n k : Nat} (h : (limbs (a ^ n)).length ≤ k) (hk : 1 ≤ k) : ∀ e, e ≤ n → (limbs (a ^ e)).length ≤ k := by
  intro e he
  by_cases h0 : a = 0
  · subst h0
    refine Nat.le_trans (len_mono (m := 1) ?_) (Nat.le_trans (len_of (k := 1) (by unfold LB; decide)) hk)
    rcases Nat.eq_zero_or_pos e with h | h
    · subst h; exact Nat.le_refl _
    · rw [Nat.zero_pow h]; exact Nat.zero_le _
  · exact Nat.le_trans (len_mono (Nat.pow_le_pow_right (by omega) he)) h
set_option maxRecDepth 100000 in
set_option maxHeartbeats 4000000 in
theorem powM (w : World) (va : Value) (a n : Nat) (hu : Un w va a) (hal : (limbs a).length ≤ 398) (hPl0 : ∀ e, e ≤ n → (limbs (a ^ e)).length ≤ 398) (hn : n ≤ 100000) (k : Nat) (hk : a ^ n = k) :
    Calls Tryz.prog 70 #[va, .int .i64 (n : Nat)] w fun e w' => ∃ u, e = .returned u ∧ Un w' u k ∧ Ext w w' := by
  subst hk
  have HAL : Hid (∀ x, x = a → (limbs x).length ≤ 398) := fun x e => by rw [e]; exact hal
  have hPl := Lib.hid hPl0
  clear hPl0
  have hHF := Lib.hid (pow_half a n)
  have hlen := Lib.hid (fun W => len_calls W n (by omega))
  have hbl : n < 2 ^ blen n := lt_pow_blen n
  have hb20 : blen n ≤ 20 := blen_le_of_lt (Nat.lt_of_le_of_lt hn (by decide))
  obtain ⟨L, hL⟩ : ∃ L, blen n = L := ⟨_, rfl⟩
  rw [hL] at hlen hbl hb20
  have hz0 : Hid (n / 2 ^ L = 0) := Nat.div_eq_of_lt hbl
  obtain ⟨A, ca, rfl, hca⟩ := U.shape (U.asUn hu)
  have hmax1 : (if (n : Int) < 0 then (0 : Int) else (n : Int)) = (n : Int) := by split <;> omega
  have hmax2 : max (n : Int) 0 = (n : Int) := by omega
  have hmax3 : (if (0 : Int) < (n : Int) then (n : Int) else 0) = (n : Int) := by split <;> omega
  have hmax4 : (if 0 < n then (n : Int) else 0) = (n : Int) := by split <;> omega
  have hnw : IntKind.u64.wrap (n : Int) = (n : Int) := by rw [IntKind.wrap_u64]; omega
  have hnm : (n : Int) % 18446744073709551616 = (n : Int) := by omega
  have hE0 := (Ext.refl w).alloc (.cells #[.int .u32 1] 56)
  have hone : Un (w.alloc (.cells #[.int .u32 1] 56)) (.slice (some ⟨w.heap.size, 0, none⟩) 1 1) 1 := by
    have := U_lit w [1] (by simp) (by simp)
    rw [Un, limbs_small 1 (by decide) (by decide)]
    exact this
  clear hL hbl hal
  go_enter Tryz.func70, Tryz.ntmps70
  go_wp2_with (fail)
  refine (hlen.out _).mono ?_
  rintro e w1 ⟨rfl, rfl⟩
  generalize (w.alloc (.cells #[.int .u32 1] 56)) = w1 at *
  have hu1 : Un w1 (.slice A (limbs a).length ca) a := U.below (U.asUn hu) hE0
  generalize (limbs a).length = la at *
  clear hu
  go_wp2
  go_loopw [6, 5] (fun t s wr => ∃ (j : Nat), j ≤ L ∧ t = .int .i64 ((j : Int) - 1) ∧ Un wr s (a ^ (n / 2 ^ j)) ∧ Un wr (.slice A la ca) a ∧ Ext w wr) (fun t _ _ => ((intOf t) + 1).toNat)
  case atStart => exact ⟨L, Nat.le_refl _, rfl, by rw [hz0.out, Nat.pow_zero]; exact hone, hu1, hE0⟩
  case round =>
    clear hone hu1 hE0
    obtain ⟨j, hj, rfl, hz, hua, hE⟩ := hrel
    rcases j with _ | i
    · have hd : decide ((0 : Int) ≤ ((0 : Nat) : Int) - 1) = false := by decide
      obtain ⟨A2, c2, rfl, hcc⟩ := U.shape (U.asUn hz)
      have HF : Hid (∃ u', Ending.returned (.slice A2 (limbs (a ^ (n / 2 ^ 0))).length c2) = .returned u' ∧ Un wr u' (a ^ n) ∧ Ext w wr) := ⟨_, rfl, by rw [Nat.pow_zero, Nat.div_one] at hz ⊢; exact hz, hE⟩
      clear hz hE
      go_wp2
      go_ret
      exact HF.out
    · have hi1 : ((i + 1 : Nat) : Int) - 1 = (i : Int) := by omega
      rw [hi1]
      obtain ⟨A2, c2, rfl, hcc⟩ := U.shape (U.asUn hz)
      have hle : n / 2 ^ (i + 1) ≤ n := Nat.div_le_self _ _
      have hle2 : n / 2 ^ i ≤ n := Nat.div_le_self _ _
      obtain ⟨v, hv⟩ : ∃ v, n / 2 ^ i = v := ⟨_, rfl⟩
      obtain ⟨p, hp⟩ : ∃ p, n / 2 ^ (i + 1) = p := ⟨_, rfl⟩
      have hhf := hHF.out i
      rw [hv, hp] at hhf
      rw [hp] at hz hle ⊢
      rw [hv] at hle2
      have hvi : (n : Int) / 2 ^ i = (v : Int) := by rw [← hv, Int.natCast_ediv, Int.natCast_pow]; rfl
      have hand := i64_and1N v (by omega)
      have hpp : (limbs (a ^ p * a ^ p)).length ≤ 398 := by
        rw [← Nat.pow_add]
        refine hPl.out _ ?_
        have : n / 2 ^ (i + 1) = n / 2 ^ i / 2 := by rw [Nat.pow_succ, Nat.div_div_eq_div_mul]
        rw [hp, hv] at this
        omega
      have hM := Lib.hid (mulN wr _ _ (a ^ p) (a ^ p) _ hz hz (hPl.out p hle) (hPl.out p hle) rfl)
      have HV := Lib.hid hv
      generalize (limbs (a ^ p)).length = lz at *
      clear hz hp hv
      by_cases hb : v % 2 = 1
      · rw [hb] at hand
        rw [if_pos hb] at hhf
        have hhf2 := Lib.hid hhf
        have hbe : (bits .and .i64 (v : Int) 1 == 1) = true := by rw [hand]; rfl
        clear hb hhf hand
        go_wp2_with (fail)
        refine hM.out.mono ?_
        rintro e w2 ⟨u, rfl, hu2, hB⟩
        replace hua := U.below (U.asUn hua) hB
        replace hE := hE.below hB
        obtain ⟨A3, c3, rfl, hc3⟩ := U.shape (U.asUn hu2)
        have hM2 := Lib.hid (mulN w2 _ _ (a ^ p * a ^ p) a _ hu2 hua hpp (HAL.out a rfl) rfl)
        clear hM hB hu2
        generalize (limbs (a ^ p * a ^ p)).length = lz2 at *
        go_wp2_with (fail)
        refine hM2.out.mono ?_
        rintro e w3 ⟨u, rfl, hu3, hB⟩
        replace hua := U.below hua hB
        replace hE := hE.below hB
        rw [← hhf2.out] at hu3
        obtain ⟨A4, c4, rfl, hc4⟩ := U.shape (U.asUn hu3)
        have HU : Hid (Un w3 (.slice A4 (limbs (a ^ v)).length c4) (a ^ (n / 2 ^ i))) := by rw [Hid, HV.out]; exact hu3
        generalize (limbs (a ^ v)).length = lz4 at *
        clear hM2 hB hu3 hhf2
        go_wp2
        go_roundw
        case rel => exact ⟨i, by omega, rfl, HU.out, hua, hE⟩
        case measure => simp [intOf]
      · have hb0 : v % 2 = 0 := by omega
        rw [hb0] at hand
        rw [if_neg hb, Nat.mul_one] at hhf
        have hhf2 := Lib.hid hhf
        have hbe : (bits .and .i64 (v : Int) 1 == 1) = false := by rw [hand]; rfl
        clear hb hb0 hhf hand
        go_wp2_with (fail)
        refine hM.out.mono ?_
        rintro e w2 ⟨u, rfl, hu2, hB⟩
        replace hua := U.below (U.asUn hua) hB
        replace hE := hE.below hB
        rw [← hhf2.out] at hu2
        obtain ⟨A3, c3, rfl, hc3⟩ := U.shape (U.asUn hu2)
        have HU : Hid (Un w2 (.slice A3 (limbs (a ^ v)).length c3) (a ^ (n / 2 ^ i))) := by rw [Hid, HV.out]; exact hu2
        generalize (limbs (a ^ v)).length = lz4 at *
        clear hM hB hu2 hhf2
        go_wp2
        go_roundw
        case rel => exact ⟨i, by omega, rfl, HU.out, hua, hE⟩
        case measure => simp [intOf]
set_option maxRecDepth 100000 in
set_option maxHeartbeats 4000000 in
theorem rpowN (w : World) (va : Value) (a n : Nat) (hu : Un w va a) (hal : (limbs a).length ≤ 398) (hPl0 : ∀ e, e ≤ n → (limbs (a ^ e)).length ≤ 398) (hn : n ≤ 100000) (k : Nat) (hk : a ^ n = k) :
    Calls Tryz.prog 71 #[va, .int .i64 (n : Nat)] w fun e w' => ∃ u, e = .returned u ∧ Un w' u k ∧ Ext w w' := by
  subst hk
  have HAL : Hid (∀ x, x = a → (limbs x).length ≤ 398) := fun x e => by rw [e]; exact hal
  have hPl := Lib.hid hPl0
  clear hPl0
  obtain ⟨A, ca, rfl, hca⟩ := U.shape (U.asUn hu)
  have hE0 := (Ext.refl w).alloc (.cells #[.int .u32 1] 56)
  have hone : Un (w.alloc (.cells #[.int .u32 1] 56)) (.slice (some ⟨w.heap.size, 0, none⟩) 1 1) 1 := Un_lit1 w _ rfl 1 (by decide) (by decide)
  have hu1 : Un (w.alloc (.cells #[.int .u32 1] 56)) (.slice A (limbs a).length ca) a := U.below (U.asUn hu) hE0
  clear hal
  generalize (limbs a).length = la at *
  clear hu
  go_enter Tryz.func71, Tryz.ntmps71
  go_wp2
  go_loopw [6, 5] (fun t s wr => ∃ (j : Nat), j ≤ n ∧ t = .int .i64 (j : Nat) ∧ Un wr s (a ^ j) ∧ Un wr (.slice A la ca) a ∧ Ext w wr) (fun t _ _ => n - (intOf t).toNat)
  case atStart => exact ⟨0, Nat.zero_le _, rfl, by rw [Nat.pow_zero]; exact hone, hu1, hE0⟩
  case round =>
    clear hone hu1 hE0
    obtain ⟨j, hj, rfl, hz, hua, hE⟩ := hrel
    obtain ⟨A2, c2, rfl, hcc⟩ := U.shape (U.asUn hz)
    by_cases hlt : j < n
    · have hM := Lib.hid (rschoolX_B wr _ _ (a ^ j) a (a ^ (j + 1)) hz hua (hPl.out j hj) (HAL.out a rfl) (Nat.pow_succ a j).symm)
      generalize (limbs (a ^ j)).length = lz at *
      clear hz
      go_wp2_with (fail)
      refine hM.out.mono ?_
      rintro e w2 ⟨u, rfl, hu2, hB⟩
      replace hua := U.below (U.asUn hua) hB
      replace hE := hE.below hB
      clear hM hB
      go_wp2
      go_roundw
      case rel => exact ⟨j + 1, by omega, by go_num, hu2, hua, hE⟩
      case measure => simp [intOf]; omega
    · obtain rfl : j = n := by omega
      have HF : Hid (∃ u', Ending.returned (.slice A2 (limbs (a ^ j)).length c2) = .returned u' ∧ Un wr u' (a ^ j) ∧ Ext w wr) := ⟨_, rfl, hz, hE⟩
      clear hz hE
      go_wp2
      go_ret
      exact HF.out

end Go.Proofs.YtfkcdmbiihkiiaaGreatDoor
/- Whole numbers: exact quotients, powers. -/
namespace Go.Proofs.YtfkcdmbiihkiiaaGreatDoor
open Go.RowKit
set_option linter.unusedVariables false
set_option maxHeartbeats 400000

theorem abs_mod (a b : Int) : a % b = 0 ↔ a.natAbs % b.natAbs = 0 := by
  rw [← Int.dvd_iff_emod_eq_zero, ← Nat.dvd_iff_mod_eq_zero, Int.natAbs_dvd_natAbs]

set_option maxRecDepth 100000 in
set_option maxHeartbeats 8000000 in
theorem zexact_no (w : World) (va vb : Value) (a b : Int) (ha : Zn w va a) (hb : Zn w vb b) (hl : (limbs a.natAbs).length ≤ 1000) (hl2 : (limbs b.natAbs).length ≤ 1000) (h0 : b = 0 ∨ a % b ≠ 0) :
    Calls Tryz.prog 16 #[va, vb] w fun e w' => e = .returned (.tuple #[.agg #[.bool false, .slice none 0 0], .bool false]) ∧ Ext w w' := by
  have hab := abs_mod a b
  obtain ⟨p, A, L, c, n, rfl, hu, hL, hz, -, hza, hzn⟩ := ha.open
  obtain ⟨q, B, K, d, m, rfl, hv, hK, hz2, -, hza2, hzn2⟩ := hb.open
  rw [hza, hza2] at hab
  rw [hza] at hl
  rw [hza2] at hl2
  have hE0 := (((Ext.refl w).alloc (.cells #[.bool p, .slice A L c] 24)).alloc (.cells #[.bool q, .slice B K d] 24)).alloc (.cells #[.bool false, .slice none 0 0] 24)
  have hI0 := Ib.new3 w (.cells #[.bool p, .slice A L c] 24) (.cells #[.bool q, .slice B K d] 24) false (.slice none 0 0) 24
  by_cases hm0 : m = 0
  · subst hm0
    have hD := Lib.hid (divmod_Z _ (.slice A L c) (.slice B K d) n (hu.below hE0) (hv.below hE0) hl)
    clear hl hl2 hza hzn hza2 hzn2 hz hz2 hL hK ha hb hu hv h0 hab
    unfold Dz at hD
    go_enter Tryz.func16, Tryz.ntmps16
    go_wp2_with (go_at_call 50; refine hD.out.mono ?_; rintro e w2 ⟨rfl, hE2⟩; obtain ⟨i0, i1, i2, i3, i4⟩ := hI0.ext hE2)
    (try simp only [Exit.inBlock, Exit.then])
    refine bodyPost_ret (v := .tuple #[.agg #[.bool false, .slice none 0 0], .bool false]) (show (results _ _).run _ _ = _ from ?_) rfl ⟨rfl, (hE0.below hE2).put2 (by omega) _ _⟩
    simp only [results]
    go_simp
  · obtain ⟨Q, hQ⟩ : ∃ Q, n / m = Q := ⟨_, rfl⟩
    obtain ⟨R, hR⟩ : ∃ R, n % m = R := ⟨_, rfl⟩
    have hD := Lib.hid (divmod_D _ (.slice A L c) (.slice B K d) n m Q R (hu.below hE0) (hv.below hE0) hl hl2 hm0 hQ hR)
    have hR0 : R ≠ 0 := by
      rw [hR] at hab
      intro e
      rcases h0 with h | h
      · omega
      · exact h (hab.2 e)
    have hcs := len_cases R
    obtain ⟨LR, hLR⟩ : ∃ L, (limbs R).length = L := ⟨_, rfl⟩
    have HLR := Lib.hid hLR
    rw [hLR] at hcs
    have hlr : 0 < LR := by omega
    have hlr2 : (0 : Int) < (LR : Int) := by omega
    clear hl hl2 hza hzn hza2 hzn2 hz hz2 hL hK ha hb hu hv h0 hab hQ hR hR0 hm0 hcs hLR
    unfold Dv at hD
    go_enter Tryz.func16, Tryz.ntmps16
    go_wp2_with (go_at_call 50; refine hD.out.mono ?_; rintro e w2 ⟨⟨vq, vr, rfl, hvq, hvr⟩, hE2⟩; obtain ⟨A2, c2, rfl, -⟩ := Un.sh hvq; obtain ⟨A3, c3, rfl, -⟩ := Un.sh hvr; rw [HLR.out] at hvr ⊢; obtain ⟨i0, i1, i2, i3, i4⟩ := hI0.ext hE2)
    (try simp only [Exit.inBlock, Exit.then])
    refine bodyPost_ret (v := .tuple #[.agg #[.bool false, .slice none 0 0], .bool false]) (show (results _ _).run _ _ = _ from ?_) rfl ⟨rfl, (hE0.below hE2).put2 (by omega) _ _⟩
    simp only [results]
    go_simp

set_option maxRecDepth 100000 in
set_option maxHeartbeats 8000000 in
theorem zexact_yes (w : World) (va vb : Value) (a b : Int) (ha : Zn w va a) (hb : Zn w vb b) (hl : (limbs a.natAbs).length ≤ 1000) (hl2 : (limbs b.natAbs).length ≤ 1000) (h0 : b ≠ 0) (hr : a % b = 0) (x : Int) (hx : a / b = x) :
    Calls Tryz.prog 16 #[va, vb] w fun e w' => ∃ u, e = .returned (.tuple #[u, .bool true]) ∧ Zn w' u x ∧ Ext w w' := by
  have hab := abs_mod a b
  obtain ⟨p, A, L, c, n, rfl, hu, hL, hz, -, hza, hzn⟩ := ha.open
  obtain ⟨q, B, K, d, m, rfl, hv, hK, hz2, -, hza2, hzn2⟩ := hb.open
  rw [hza, hza2] at hab
  rw [hza] at hl
  rw [hza2] at hl2
  have hR : n % m = 0 := hab.1 hr
  have hm0 : m ≠ 0 := by omega
  have k1 := (sg_divmod p q n m hm0 (.inr hR)).1
  rw [← hz, ← hz2, hx] at k1
  have hE0 := (((Ext.refl w).alloc (.cells #[.bool p, .slice A L c] 24)).alloc (.cells #[.bool q, .slice B K d] 24)).alloc (.cells #[.bool false, .slice none 0 0] 24)
  have hI0 := Ib.new3 w (.cells #[.bool p, .slice A L c] 24) (.cells #[.bool q, .slice B K d] 24) false (.slice none 0 0) 24
  have hP0 := (Ib.new w p (.slice A L c) 24).ext (((Ext.refl _).alloc (.cells #[.bool q, .slice B K d] 24)).alloc (.cells #[.bool false, .slice none 0 0] 24))
  have hQ0 := (Ib.new2 w (.cells #[.bool p, .slice A L c] 24) q (.slice B K d) 24).ext ((Ext.refl _).alloc (.cells #[.bool false, .slice none 0 0] 24))
  obtain ⟨Q, hQ⟩ : ∃ Q, n / m = Q := ⟨_, rfl⟩
  have hD := Lib.hid (divmod_D _ (.slice A L c) (.slice B K d) n m Q 0 (hu.below hE0) (hv.below hE0) hl hl2 hm0 hQ hR)
  rw [hQ] at k1
  have hM1 := Lib.hid (fun W v (h : Un W v Q) => zmake W (!(p == q)) v (limbs Q) h Q (val_limbs _) x k1)
  have HL0 : Hid ((limbs 0).length = 0) := by show _ = _; rw [limbs_zero]; rfl
  clear hl hl2 hza hzn hza2 hzn2 hz hz2 hL hK ha hb hu hv h0 hab hR hr hm0 hQ k1 hx
  unfold Dv at hD
  go_enter Tryz.func16, Tryz.ntmps16
  go_wp2_with (first
    | (go_at_call 50; refine hD.out.mono ?_; rintro e w2 ⟨⟨vq, vr, rfl, hvq, hvr⟩, hE2⟩; obtain ⟨A2, c2, rfl, -⟩ := Un.sh hvq; obtain ⟨A3, c3, rfl, -⟩ := Un.sh hvr; rw [HL0.out] at hvr ⊢; obtain ⟨p0, p1, p2, p3, p4⟩ := hP0.ext hE2; obtain ⟨q0, q1, q2, q3, q4⟩ := hQ0.ext hE2)
    | (go_at_call 21; refine (hM1.out _ _ hvq).mono ?_; rintro e w3 ⟨u, rfl, hz3, hE3⟩; obtain ⟨b3, A4, L3, c4, rfl⟩ := hz3.sh; have hI3 := (hI0.ext hE2).ext hE3; obtain ⟨i0, i1, i2, i3, i4⟩ := id hI3))
  (try simp only [Exit.inBlock, Exit.then])
  refine bodyPost_ret (v := .tuple #[.agg #[.bool b3, .slice A4 L3 c4], .bool true]) (show (results _ _).run _ _ = _ from ?_) rfl ⟨_, rfl, hz3.put2 hI3 (slice_no_int _ _ _) _ _, ((hE0.below hE2).below hE3).put2 (by omega) _ _⟩
  simp only [results]
  go_simp

theorem sg_pow (p : Bool) (n k : Nat) : sg (p && decide (k % 2 = 1)) (n ^ k) = (sg p n) ^ k := by
  cases p
  · show ((n ^ k : Nat) : Int) = (n : Int) ^ k
    exact Int.natCast_pow n k
  · rw [Bool.true_and]
    induction k with
    | zero => simp [sg]
    | succ k ih =>
      rw [Int.pow_succ, ← ih, Nat.pow_succ]
      rcases Nat.mod_two_eq_zero_or_one k with h | h
      · rw [decide_eq_true (show (k + 1) % 2 = 1 by omega), decide_eq_false (show ¬ (k % 2 = 1) by omega)]
        show -((n ^ k * n : Nat) : Int) = ((n ^ k : Nat) : Int) * -(n : Int)
        rw [Int.natCast_mul, Int.mul_neg]
      · rw [decide_eq_false (show ¬ ((k + 1) % 2 = 1) by omega), decide_eq_true (show k % 2 = 1 by omega)]
        show ((n ^ k * n : Nat) : Int) = -((n ^ k : Nat) : Int) * -(n : Int)
        rw [Int.natCast_mul, Int.neg_mul_neg]

set_option maxRecDepth 100000 in
set_option maxHeartbeats 8000000 in
theorem zpow (w : World) (va : Value) (a : Int) (k : Nat) (ha : Zn w va a) (hl : (limbs a.natAbs).length ≤ 398) (hl2 : (limbs (a.natAbs ^ k)).length ≤ 398) (hk : k ≤ 100000) (y : Int) (hy : a ^ k = y) :
    Calls Tryz.prog 38 #[va, .int .i64 (k : Nat)] w fun e w' => ∃ u, e = .returned u ∧ Zn w' u y ∧ Ext w w' := by
  obtain ⟨p, A, L, c, n, rfl, hu, hL, hz, -, hza, hzn⟩ := ha.open
  rw [hza] at hl hl2
  have hpl := pow_len_all hl2 (by decide)
  obtain ⟨P, hP⟩ : ∃ P, n ^ k = P := ⟨_, rfl⟩
  have k1 := sg_pow p n k
  rw [hP, ← hz, hy] at k1
  obtain ⟨r, hr⟩ : ∃ r, k % 2 = r := ⟨_, rfl⟩
  rw [hr] at k1
  have hE0 := ((Ext.refl w).alloc (.cells #[.bool p, .slice A L c] 24)).alloc (.cells #[.bool false, .slice none 0 0] 24)
  have hI0 := Ib.new2 w (.cells #[.bool p, .slice A L c] 24) false (.slice none 0 0) 24
  have hP0 := (Ib.new w p (.slice A L c) 24).ext ((Ext.refl _).alloc (.cells #[.bool false, .slice none 0 0] 24))
  have hPw := Lib.hid (powM _ (.slice A L c) n k (hu.below hE0) hl hpl hk P hP)
  obtain ⟨b, hb⟩ : ∃ b, (p && decide (r = 1)) = b := ⟨_, rfl⟩
  rw [hb] at k1
  have hM1 := Lib.hid (fun W v (h : Un W v P) => zmake W b v (limbs P) h P (val_limbs _) y k1)
  have t1 : (k : Int).tmod 2 = (r : Int) := by rw [Int.tmod_eq_emod_of_nonneg (Int.natCast_nonneg _)]; omega
  have t2 : (k : Int) % 2 = (r : Int) := by omega
  have hr2 : r = 0 ∨ r = 1 := by omega
  obtain ⟨p0, p1, p2, p3, p4⟩ := hP0
  clear hl hl2 hza hzn hz hL ha hu hpl hP hr hy k1
  rcases hr2 with rfl | rfl
  all_goals (
    cases p
    all_goals (
      simp at hb
      subst hb
      go_enter Tryz.func38, Tryz.ntmps38
      go_wp2_with (first
        | (go_at_call 70; refine hPw.out.mono ?_; rintro e w2 ⟨u, rfl, hu2, hE2⟩; obtain ⟨A2, c2, rfl, -⟩ := Un.sh hu2)
        | (go_at_call 21; refine (hM1.out _ _ hu2).mono ?_; rintro e w3 ⟨u, rfl, hz3, hE3⟩; obtain ⟨b3, A4, L3, c4, rfl⟩ := hz3.sh; have hI3 := (hI0.ext hE2).ext hE3; obtain ⟨i0, i1, i2, i3, i4⟩ := id hI3))
      (try simp only [Exit.inBlock, Exit.then])
      refine bodyPost_ret (v := .agg #[.bool b3, .slice A4 L3 c4]) (show (results _ _).run _ _ = _ from ?_) rfl ⟨_, rfl, hz3.put2 hI3 (slice_no_int _ _ _) _ _, ((hE0.below hE2).below hE3).put2 (by omega) _ _⟩
      simp only [results]
      go_simp))
end Go.Proofs.YtfkcdmbiihkiiaaGreatDoor
