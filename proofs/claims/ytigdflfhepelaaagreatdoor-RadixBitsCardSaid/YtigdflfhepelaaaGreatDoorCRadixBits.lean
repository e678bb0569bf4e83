/- Proved: the statement RadixBits: for any row (of at most 60 limbs) and each of the bases 2, 4, 8, 16 and 32: each digit is a group of bits. No condition. -/
import Derived.Test.YtigdflfhepelaaaGreatDoorPk
import Derived.Deep.QuietTactic
import Derived.BigQuiet

namespace Go.Proofs.YtigdflfhepelaaaGreatDoor
open Go.RowKit
set_option linter.unusedVariables false
set_option maxHeartbeats 400000

/-- The bits of a number in its limbs, and in its digits. -/
theorem bit_in_limb (a i x : Nat) (hx : lb (limbs a) (i / 32) = x) : x / 2 ^ (i % 32) % 2 = a / 2 ^ i % 2 := by
  rw [← hx]; exact bit_limb a i
theorem bit_in_digit (W a i d : Nat) (hW : 0 < W) (hd : a / (2 ^ W) ^ (i / W) % 2 ^ W = d) : d / 2 ^ (i % W) % 2 = a / 2 ^ i % 2 := by
  rw [← hd, bit_digit W a (i / W) (i % W) (Nat.mod_lt _ hW), Nat.div_add_mod]
theorem bits_len (a W : Nat) (hW : 1 ≤ W) (h : 2 ≤ 2 ^ W) (h0 : a ≠ 0) : 32 * ((limbs a).length - 1) < W * (dt (2 ^ W) a).length := by
  have h1 := lt_pow_dt (2 ^ W) h a
  rw [← Nat.pow_mul] at h1
  have h2 : 2 ^ (32 * ((limbs a).length - 1)) ≤ a := by
    rcases Nat.lt_or_ge a (2 ^ (32 * ((limbs a).length - 1))) with h3 | h3
    · exfalso
      have e0 : LB = 2 ^ 32 := rfl
      rw [Nat.pow_mul, ← e0] at h3
      have h4 := len_of h3
      have := limbs_nz h0
      omega
    · exact h3
  rcases Nat.lt_or_ge (32 * ((limbs a).length - 1)) (W * (dt (2 ^ W) a).length) with h3 | h3
  · exact h3
  · have := Nat.pow_le_pow_right (n := 2) (by decide) h3
    omega
theorem bits_past (a W i : Nat) (hW : 1 ≤ W) (h : 2 ≤ 2 ^ W) (hi : W * (dt (2 ^ W) a).length ≤ i) : a / 2 ^ i % 2 = 0 := by
  have h1 := lt_pow_dt (2 ^ W) h a
  rw [← Nat.pow_mul] at h1
  have := Nat.pow_le_pow_right (n := 2) (by decide) hi
  rw [Nat.div_eq_of_lt (by omega)]
theorem bits_past2 (a i : Nat) (hi : 32 * (limbs a).length ≤ i) : a / 2 ^ i % 2 = 0 := by
  have h3 : a < 4294967296 ^ (limbs a).length := lt_of_len_le (Nat.le_refl _)
  have e0 : (4294967296 : Nat) = 2 ^ 32 := rfl
  rw [e0, ← Nat.pow_mul] at h3
  have := Nat.pow_le_pow_right (n := 2) (by decide) hi
  rw [Nat.div_eq_of_lt (by omega)]

set_option maxRecDepth 100000 in
set_option maxHeartbeats 8000000 in
theorem RadixBits_walk (w : World) (r0 : Value) (xs : List Nat) (u0 : U w r0 xs) (n : Nat) (hn : n < 256) :
    Calls Tryz.prog 9 #[r0, .int .u8 (n : Nat)] w fun e w' => e = .returned (.bool true) ∧ Ext w w' := by
  obtain ⟨a, ha⟩ : ∃ a, val (xs.take 60) = a := ⟨_, rfl⟩
  have hla : (limbs a).length ≤ 60 := by rw [← ha]; exact cutK_len xs 60 u0.lim
  obtain ⟨m, hm⟩ : ∃ m, min xs.length 60 = m := ⟨_, rfl⟩
  have hNt := Lib.hid (fun W h => rnat_z W r0 xs h 60 m a 60 rfl (by omega) hm ha)
  obtain ⟨W, hW⟩ : ∃ W, 1 + n % 5 = W := ⟨_, rfl⟩
  have hW1 : 1 ≤ W := by omega
  have hW5 : W ≤ 5 := by omega
  have o1 : (n : Int).tmod 5 = ((n % 5 : Nat) : Int) := by rw [Int.tmod_eq_emod_of_nonneg (Int.natCast_nonneg _)]; omega
  have o2 : (n : Int) % 5 = ((n % 5 : Nat) : Int) := by omega
  have o3 : (1 : Int) + ((n % 5 : Nat) : Int) = (W : Int) := by omega
  generalize n % 5 = n5 at *
  obtain ⟨B, hB⟩ : ∃ B, 2 ^ W = B := ⟨_, rfl⟩
  have hB2 : 2 ≤ B := by
    rw [← hB]
    have := Nat.pow_le_pow_right (n := 2) (by decide) hW1
    simpa using this
  have hB32 : B ≤ 32 := by
    rw [← hB]
    have := Nat.pow_le_pow_right (n := 2) (by decide) hW5
    simpa using this
  have hTx := Lib.hid (fun W v h => text_calls W v a B h (Nat.le_trans hla (by decide)) hB2 (Nat.le_trans hB32 (by decide)))
  obtain ⟨la, hlla⟩ : ∃ la, (limbs a).length = la := ⟨_, rfl⟩
  rw [hlla] at hla
  have hds := dt_lt B hB2 a
  have hdl := dt_len_bound B a hB2 (by omega)
  have hsz := strD_size (dt B a)
  have hat := Lib.hid (strD_at (dt B a) (fun d h => by have := hds d h; omega))
  obtain ⟨ls, hls⟩ : ∃ ls, (dt B a).length = ls := ⟨_, rfl⟩
  have hl1 := dt_len1 B hB2 a
  rw [hls] at hsz hdl hl1
  obtain ⟨Q, hQ⟩ : ∃ Q, ls * W = Q := ⟨_, rfl⟩
  have hQ6 : Q ≤ 12480 * 5 := by rw [← hQ]; exact Nat.mul_le_mul hdl hW5
  have o5 : (ls : Int) * (W : Int) = (Q : Int) := by rw [← hQ]; exact (Int.natCast_mul ls W).symm
  have o5b : (W : Int) * (ls : Int) = (Q : Int) := by rw [Int.mul_comm]; exact o5
  obtain ⟨M, hM⟩ : ∃ M, 32 * la = M := ⟨_, rfl⟩
  have o6 : 32 * (la : Int) = (M : Int) := by omega
  have o7 : ¬ ((Q : Int) < 32 * ((la : Int) - 1)) := by
    by_cases h0 : a = 0
    · subst h0
      rw [limbs_zero] at hlla
      simp at hlla
      omega
    · have := bits_len a W hW1 (by rw [hB]; exact hB2) h0
      rw [hlla, hB, hls, Nat.mul_comm W, hQ] at this
      omega
  have hdig := Lib.hid (fun j (hj : j < ls) => dt_at B hB2 a j (by rw [hls]; exact hj))
  have hBH := Lib.hid hB
  have hin := Lib.hid (fun i d (h : a / B ^ (i / W) % B = d) => bit_in_digit W a i d (by omega) (by rw [hB]; exact h))
  have hpast := Lib.hid (fun i (h : Q ≤ i) => bits_past a W i hW1 (by rw [hB]; exact hB2) (by rw [hB, hls, Nat.mul_comm, hQ]; exact h))
  have hpast2 := Lib.hid (fun i (h : M ≤ i) => bits_past2 a i (by rw [hlla, hM]; exact h))
  have hlim := Lib.hid (fun i x (h : lb (limbs a) (i / 32) = x) => bit_in_limb a i x h)
  have hMQ := Lib.hid (And.intro hM (And.intro hQ hls))
  have HLA := Lib.hid hlla
  have hM2 : M ≤ 1920 := by omega
  obtain ⟨A, l, c, rfl⟩ := U.sl u0
  have o4 : wrap64 ((2 : Int) ^ W) = (B : Int) := by
    have : ((2 : Int) ^ W) = (B : Int) := by rw [← hB]; simp
    rw [this]
    exact IntWalk.wrap64_in _ (by clear hB this; omega)
  clear ha hm hB hW hlla hls hds hQ hM
  generalize strD (dt B a) = T at *
  go_enter Tryz.func9, Tryz.ntmps9
  go_wp2_with (first
    | (go_at_call 12; refine (xhead_calls _).mono ?_; rintro e w1 ⟨rfl, hE1⟩; have u1 := u0.below hE1)
    | (go_at_call 13; refine (hNt.out _ u1).mono ?_; rintro e w2 ⟨⟨v2, rfl, hv2⟩, hE2⟩; obtain ⟨A2, c2, rfl, hc2⟩ := U.shape (U.asUn hv2); rw [HLA.out] at hv2 ⊢)
    | (go_at_call 14; refine (hTx.out _ _ hv2).mono ?_; rintro e w3 ⟨rfl, hE3⟩))
  have hE := (hE1.below hE2).below hE3
  have hv3 := Un.below hv2 hE3
  obtain ⟨A3, c3, hA3, ⟨hc3, hm3⟩, hx3, hr3⟩ := id hv3
  rw [HLA.out] at hA3 hr3 hc3
  obtain ⟨rfl, -, rfl⟩ : A2 = A3 ∧ True ∧ c2 = c3 := by
    simp only [Value.slice.injEq] at hA3
    exact ⟨hA3.1, trivial, hA3.2.2⟩
  clear hE1 hE2 hE3 hv2 hv3 u1 u0 hNt hTx o1 o2 o3 o4 o7 hA3 hl1
  go_loopw [10] (fun t wr => ∃ i : Nat, (i ≤ M ∨ i ≤ Q) ∧ t = .int .i64 (i : Nat) ∧ Ext w3 wr) (fun t _ => 100000 - (intOf t).toNat)
  case atStart => exact ⟨0, .inl (Nat.zero_le _), rfl, Ext.refl _⟩
  case round =>
    obtain ⟨i, hi, rfl, hEr⟩ := hrel
    have hi9 : i ≤ 62400 := by omega
    obtain ⟨B1, hB1⟩ : ∃ B1, a / 2 ^ i % 2 = B1 := ⟨_, rfl⟩
    have hB1b : B1 < 2 := by rw [← hB1]; exact Nat.mod_lt _ (by decide)
    obtain ⟨j, hj⟩ : ∃ j, i / W = j := ⟨_, rfl⟩
    obtain ⟨s, hs⟩ : ∃ s, i % W = s := ⟨_, rfl⟩
    have v1 : (i : Int).tdiv (W : Int) = (j : Int) := by rw [Int.tdiv_eq_ediv_of_nonneg (Int.natCast_nonneg _), ← hj, Int.natCast_ediv]
    have v2 : (i : Int) / (W : Int) = (j : Int) := by rw [← hj, Int.natCast_ediv]
    have v3 : (i : Int).tmod (W : Int) = (s : Int) := by rw [Int.tmod_eq_emod_of_nonneg (Int.natCast_nonneg _), ← hs, Int.natCast_emod]
    have v4 : (i : Int) % (W : Int) = (s : Int) := by rw [← hs, Int.natCast_emod]
    have v5 : ¬ ((W : Int) = 0) := by omega
    have v5a : ¬ (W = 0) := by omega
    have v5b : ((W : Int) == 0) = false := by rw [beq_eq_false_iff_ne]; omega
    have v8 : j ≤ 62400 := by rw [← hj]; exact Nat.le_trans (Nat.div_le_self _ _) hi9
    have v9 : Q ≤ i → ls ≤ j := fun h => by rw [← hj]; exact (Nat.le_div_iff_mul_le (by omega)).2 (by rw [hMQ.out.2.1]; exact h)
    have hs5 : s < 5 := by rw [← hs]; exact Nat.lt_of_lt_of_le (Nat.mod_lt _ (by omega)) hW5
    by_cases hM1 : i < M
    · have m1 : (i : Int) < (M : Int) := by omega
      obtain ⟨k, hk⟩ : ∃ k, i / 32 = k := ⟨_, rfl⟩
      obtain ⟨r, hr⟩ : ∃ r, i % 32 = r := ⟨_, rfl⟩
      have hkl : k < la := by have := hMQ.out.1; omega
      have t1 : (i : Int).tdiv 32 = (k : Int) := by rw [Int.tdiv_eq_ediv_of_nonneg (Int.natCast_nonneg _)]; omega
      have t2 : (i : Int) / 32 = (k : Int) := by omega
      have t3 : (i : Int).tmod 32 = (r : Int) := by rw [Int.tmod_eq_emod_of_nonneg (Int.natCast_nonneg _)]; omega
      have t4 : (i : Int) % 32 = (r : Int) := by omega
      obtain ⟨ad, rfl, hbk, hcell⟩ := hr3 (by omega)
      have hc1 := (hEr.cell (p := ad.add k) (by rw [addr_add_block]; exact hbk)).trans (hcell k hkl)
      have hL := lb_lt hx3 k
      obtain ⟨x, hx⟩ : ∃ x, lb (limbs a) k = x := ⟨_, rfl⟩
      have hbit := hlim.out i x (by rw [hk]; exact hx)
      rw [hB1, hr] at hbit
      rw [hx] at hc1 hL
      have hbt : bits .and .u32 ((x : Int) / 2 ^ r) 1 = (B1 : Int) := by
        rw [cast_shr, ← hbit]
        have := u32_and_nat (x / 2 ^ r) 1 (Nat.lt_of_le_of_lt (Nat.div_le_self _ _) hL) (by decide)
        rw [Nat.and_one_is_mod] at this
        exact this
      have m2 : (k : Int) < (la : Int) := by omega
      have hr32 : r < 32 := by omega
      clear hk hr hx hbit hcell hL hr3
      by_cases hQ1 : i < Q
      · have n1 : (i : Int) < (Q : Int) := by omega
        have hjl : j < ls := by
          have h1 := hMQ.out.2.1
          rw [← hj]
          exact Nat.div_lt_of_lt_mul (by rw [Nat.mul_comm, h1]; exact hQ1)
        have v6 : (j : Int) < (ls : Int) := by omega
        obtain ⟨q, hq⟩ : ∃ q, ls - 1 - j = q := ⟨_, rfl⟩
        have v7 : (ls : Int) - 1 - (j : Int) = (q : Int) := by omega
        have hqT : q < T.size := by omega
        have hqT2 : q < ls := by omega
        have hqT3 : (q : Int) < (ls : Int) := by omega
        have hdg := hdig.out j hjl
        rw [hMQ.out.2.2, hq] at hdg
        have hcl := hat.out q hqT
        rw [hdg] at hcl
        have hin2 := hin.out i _ (by rw [hj])
        obtain ⟨d, hd⟩ : ∃ d, a / B ^ j % B = d := ⟨_, rfl⟩
        rw [hd] at hcl hin2
        rw [hB1, hs] at hin2
        have hd36 : d < 36 := by rw [← hd]; exact Nat.lt_of_lt_of_le (Nat.mod_lt _ (by omega)) (Nat.le_trans hB32 (by decide))
        have hs5 : s < 5 := by rw [← hs]; exact Nat.lt_of_lt_of_le (Nat.mod_lt _ (by omega)) hW5
        have hbt2 : bits .and .i64 ((d : Int) / 2 ^ s) 1 = (B1 : Int) := by
          rw [cast_shr, ← hin2]
          exact i64_and1N _ (Nat.lt_of_le_of_lt (Nat.div_le_self _ _) (by omega))
        clear hd hdg hj hs hq hin2
        go_upto_region 13 with (fail)
        go_quiet (first | (go_at_call 24; refine Calls.quiet_of_same (digit_at _ _ d hd36 rfl)))
        have HEN : Ext w3 (wr.drewN nq) := hEr.below (ext_drewN wr nq)
        go_wp2
        go_roundw
        case rel => first | exact ⟨i + 1, by omega, by go_num, HEN⟩ | ((repeat apply Exists.intro); refine ⟨⟨i + 1, by omega, ?_, HEN⟩, rfl⟩; go_num)
        case measure => simp [intOf]; omega
      · have n1 : ¬ ((i : Int) < (Q : Int)) := by omega
        have n2 : ¬ ((j : Int) < (ls : Int)) := by have := v9 (by omega); omega
        have hz2 := hpast.out i (by omega)
        rw [hB1] at hz2
        rw [hz2] at hbt
        clear v9 hj hs
        go_wp2
        go_roundw
        case rel => first | exact ⟨i + 1, by omega, by go_num, hEr⟩ | ((repeat apply Exists.intro); refine ⟨⟨i + 1, by omega, ?_, hEr⟩, rfl⟩; go_num)
        case measure => simp [intOf]; omega
    · have m1 : ¬ ((i : Int) < (M : Int)) := by omega
      have hz := hpast2.out i (by omega)
      rw [hB1] at hz
      by_cases hQ1 : i < Q
      · have n1 : (i : Int) < (Q : Int) := by omega
        have hjl : j < ls := by
          have h1 := hMQ.out.2.1
          rw [← hj]
          exact Nat.div_lt_of_lt_mul (by rw [Nat.mul_comm, h1]; exact hQ1)
        have v6 : (j : Int) < (ls : Int) := by omega
        obtain ⟨q, hq⟩ : ∃ q, ls - 1 - j = q := ⟨_, rfl⟩
        have v7 : (ls : Int) - 1 - (j : Int) = (q : Int) := by omega
        have hqT : q < T.size := by omega
        have hqT2 : q < ls := by omega
        have hqT3 : (q : Int) < (ls : Int) := by omega
        have hdg := hdig.out j hjl
        rw [hMQ.out.2.2, hq] at hdg
        have hcl := hat.out q hqT
        rw [hdg] at hcl
        have hin2 := hin.out i _ (by rw [hj])
        obtain ⟨d, hd⟩ : ∃ d, a / B ^ j % B = d := ⟨_, rfl⟩
        rw [hd] at hcl hin2
        rw [hB1, hs] at hin2
        have hd36 : d < 36 := by rw [← hd]; exact Nat.lt_of_lt_of_le (Nat.mod_lt _ (by omega)) (Nat.le_trans hB32 (by decide))
        have hs5 : s < 5 := by rw [← hs]; exact Nat.lt_of_lt_of_le (Nat.mod_lt _ (by omega)) hW5
        have hbt2 : bits .and .i64 ((d : Int) / 2 ^ s) 1 = (B1 : Int) := by
          rw [cast_shr, ← hin2]
          exact i64_and1N _ (Nat.lt_of_le_of_lt (Nat.div_le_self _ _) (by omega))
        clear hd hdg hj hs hq hin2
        rw [hz] at hbt2
        go_upto_region 13 with (fail)
        go_quiet (first | (go_at_call 24; refine Calls.quiet_of_same (digit_at _ _ d hd36 rfl)))
        have HEN : Ext w3 (wr.drewN nq) := hEr.below (ext_drewN wr nq)
        go_wp2
        go_roundw
        case rel => first | exact ⟨i + 1, by omega, by go_num, HEN⟩ | ((repeat apply Exists.intro); refine ⟨⟨i + 1, by omega, ?_, HEN⟩, rfl⟩; go_num)
        case measure => simp [intOf]; omega
      · have n1 : ¬ ((i : Int) < (Q : Int)) := by omega
        clear v9 hj hs
        go_wp2
        go_ret
        exact ⟨by first | rfl | simp, hE.below hEr⟩
end Go.Proofs.YtigdflfhepelaaaGreatDoor
/- Proved: the statement RadixBits: for any row (of at most 60 limbs) and each of the bases 2, 4, 8, 16 and 32: each digit is a group of bits. No condition. -/
namespace Go.Proofs.YtigdflfhepelaaaGreatDoor
open Go.ChangeShapes Go.WideShapes Go.ChangeAt Go.RowKit
set_option linter.unusedVariables false
set_option maxHeartbeats 2000000

set_option maxRecDepth 100000 in
theorem lifted_RadixBits (os : Os) (started : os.Started) (H : Type) (enc : TypeId × Value → H) :
    ReturnsInHanded {} Tryz.checked os 9 .any (fun w args => (Rows.radixBitsSpec.pre enc Tryz.prog Tryz.f9 [] false w args ∧ laidMetH Tryz.prog laidV w) ∧ sizedMet enc Tryz.prog Tryz.f9 (OpenSpec.ofChange Rows.radixBitsSpec) false w args)
      (Rows.radixBitsSpec.post enc Tryz.prog Tryz.f9 false true false false) := by
  refine returnsInHanded_of_change_and (C := Tryz.checked) (X := fun w _ => laidMetH Tryz.prog laidV w) (fun _ _ _ hh h => h.of_heap hh) own started (by kernel_rfl) Tryz.func9
    (ChangeSpec.witness_shaped (enc := enc) (C := Tryz.checked) (os := os) (X := fun w _ => laidMetH Tryz.prog laidV w) false (World.laidAll Tryz.prog os laidV) #[.slice none 0 0, .int .u8 0] 8 (World.laidAll_os _ _ _) (World.shaped_of_ZipB (by kernel_rfl) (by kernel_rfl)) (by kernel_rfl) (by kernel_rfl) (by kernel_rfl) (laid_met os _)) ?_
  intro W base args ds gs before hval0 hW _ _ hL _
  have hval : ∀ (j : Nat) t v, Tryz.f9.params[j]? = some t → args[j]? = some v → Value.okWide Tryz.prog W .any base t v := hval0
  have hW' := hW
  obtain ⟨p, q, hA0, hV, rfl, hfz, hnd⟩ := hW
  have hlt : ∀ x ∈ p ++ q, x.block < W.heap.size := fun x hx => hW'.lt x hx
  have hA : DataW.TrodAll enc Tryz.prog W 0 (fun _ => true) true Tryz.f9.params.toList args.toList ds p := hA0
  rw [Tryz.params9] at hA hval
  clear hA0 hval0
  obtain ⟨v0, vs0, d0, ds0, p0, q0, hargs0, rfl, rfl, h0, r0⟩ := trodAll_cons hA
  obtain ⟨v1, vs1, d1, ds1, p1, q1, hargs1, rfl, rfl, h1, r1⟩ := trodAll_cons r0
  obtain ⟨hn1, rfl, rfl⟩ := trodAll_nil r1
  subst hn1
  subst hargs1
  obtain rfl : args = #[v0, v1] := by cases args; simp_all
  obtain ⟨rfl, rfl⟩ := trodVars_none hV
  obtain ⟨xs0, u0⟩ := open_limbs (hval 0 22 v0 rfl rfl) h0 (fun x hx => hlt x (by simp [hx]))
  obtain ⟨z1, rfl, rfl, rfl, hz1⟩ := open_int Tryz.underlying5 (hval 1 5 v1 rfl rfl) h1
  have hb1 := bounds_u8 hz1
  obtain ⟨n1, rfl⟩ := Int.eq_ofNat_of_zero_le (show 0 ≤ z1 by omega)
  refine (RadixBits_walk W _ _ u0 n1 (by omega)).mono fun e W' ⟨he, hB⟩ => ?_
  subst he
  exact ⟨_, rfl, law_post hW' rfl (by rw [Tryz.params9]; decide +kernel) rfl rfl rfl rfl hB⟩

theorem radixBits_said : Rows.RadixBitsSaid :=
  OpenClaim.holds_of_wide 9 Tryz.f9 rfl rfl rfl rfl rfl rfl rfl ⟨rfl, rfl, rfl, rfl, rfl⟩ rfl rfl rfl rfl rfl (by kernel_rfl) Tryz.func9 (by kernel_rfl)
    (of_decide_eq_true (by kernel_rfl)) (by unfold Func.isWrapper; first | (rw [if_pos (by decide +kernel)]; kernel_rfl) | (rw [if_neg (by decide +kernel)]; exact ⟨rfl, rfl⟩))
    (fun os started H enc _ => lifted_RadixBits os started H enc)
/-- The statement: the card, tied. -/
theorem radixBits_holds : Rows.RadixBitsCardSaid :=
  Claim7.holds_tied_plain_at .later [] [.data, .wider, .pinned] true Rows.radixBitsCard.stood.harness false
    radixBits_said (fun _ h => by cases h) (by kernel_rfl) (fun _ h => by cases h) radixBits_row_tie rfl ⟨rfl, rfl⟩ (by kernel_rfl) rfl
    (fun f fn hf hfn => by
      obtain rfl : f = 9 := Option.some.inj ((show Tryz.prog.funcNamed "ziggurat/zigguratlaw05.RadixBits" = some 9 by kernel_rfl).symm.trans hf) |>.symm
      obtain rfl : fn = Tryz.f9 := (Option.some.inj (Tryz.func9.symm.trans hfn)).symm
      exact ⟨by kernel_rfl, fun j t ht => by
        rw [Tryz.params9] at ht
        have hm : t ∈ [22, 5] := by simpa using Array.mem_of_getElem? ht
        have hall : ([22, 5].all fun u => !Tryz.prog.wantsStandIn u) = true := by kernel_rfl
        exact (show Tryz.prog.wantsStandIn t = false by simpa using List.all_eq_true.1 hall t hm)⟩)
    (by kernel_rfl)
end Go.Proofs.YtigdflfhepelaaaGreatDoor
