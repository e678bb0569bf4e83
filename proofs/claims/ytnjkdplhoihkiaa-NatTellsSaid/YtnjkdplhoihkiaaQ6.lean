/- The document's own Shr. -/
import Derived.Test.YtnjkdplhoihkiaaQ5
namespace Go.Proofs.Ytnjkdplhoihkiaa
open Go.RowKit
set_option linter.unusedVariables false
set_option maxHeartbeats 400000
attribute [local go_sem ↓] app_shut
attribute [local go_sem] run_append_tok

theorem val_digits (o : List Nat) (N : Nat) (h : ∀ j, j < o.length → lb o j = N / 4294967296 ^ j % 4294967296) : val o = N % 4294967296 ^ o.length := by
  have key : ∀ j, j ≤ o.length → val (o.take j) = N % 4294967296 ^ j := by
    intro j
    induction j with
    | zero => intro _; simp [val, Nat.mod_one]
    | succ j ih =>
      intro hj
      rw [val_take_succ o j (by omega), ih (by omega), h j (by omega), Nat.mod_pow_succ, Nat.mul_comm]
  have := key o.length (Nat.le_refl _)
  rwa [List.take_length] at this

theorem shr_digit (n q S k : Nat) (hS : S < 32) :
    (lb (limbs n) (q + k) + 4294967296 * (lb (limbs n) (q + k + 1) % 2 ^ S)) / 2 ^ S % 4294967296 = n / 2 ^ (32 * q + S) / 4294967296 ^ k % 4294967296 := by
  rw [lb_limbs, lb_limbs]
  have e1 : n / 2 ^ (32 * q + S) / 4294967296 ^ k = n / 4294967296 ^ (q + k) / 2 ^ S := by
    rw [Nat.div_div_eq_div_mul, Nat.div_div_eq_div_mul, Nat.pow_add 2, ← pow32, Nat.pow_add 4294967296, Nat.mul_right_comm]
  have e2 : n / 4294967296 ^ (q + k + 1) = n / 4294967296 ^ (q + k) / 4294967296 := by
    rw [Nat.pow_succ, Nat.div_div_eq_div_mul]
  rw [e1, e2]
  generalize n / 4294967296 ^ (q + k) = V
  have hd : 2 ^ S ∣ 4294967296 := ⟨2 ^ (32 - S), by rw [← Nat.pow_add, show S + (32 - S) = 32 by omega]⟩
  rw [Nat.mod_mod_of_dvd _ hd]
  have hp : 0 < 2 ^ S := Nat.two_pow_pos S
  generalize 2 ^ S = P at *
  have e3 : V = V % 4294967296 + 4294967296 * (V / 4294967296 % P) + P * (4294967296 * (V / 4294967296 / P)) := by
    have a1 := Nat.div_add_mod V 4294967296
    have a2 := Nat.div_add_mod (V / 4294967296) P
    have a3 : 4294967296 * (V / 4294967296) = P * (4294967296 * (V / 4294967296 / P)) + 4294967296 * (V / 4294967296 % P) := by
      conv => lhs; rw [← a2]
      rw [Nat.mul_add, Nat.mul_left_comm]
    omega
  conv => rhs; rw [e3]
  rw [Nat.add_mul_div_left _ _ hp, Nat.add_mul_mod_self_left]

theorem shr_val (a b P : Nat) (ha : a < 4294967296) (hP0 : 0 < P) (hP : P < 4294967296) :
    (IntKind.u64.wrap ((IntKind.u64.wrap ((a : Int) + IntKind.u64.wrap (4294967296 * ((b : Int) % (P : Int))))).tdiv (P : Int))).tmod 4294967296 % 4294967296 = (((a + 4294967296 * (b % P)) / P % 4294967296 : Nat) : Int) := by
  have hr : b % P < P := Nat.mod_lt _ hP0
  rw [← Int.natCast_emod]
  generalize b % P = r at *
  rw [show IntKind.u64.wrap (4294967296 * (r : Int)) = 4294967296 * (r : Int) by rw [IntKind.wrap_u64]; omega]
  rw [show IntKind.u64.wrap ((a : Int) + 4294967296 * (r : Int)) = ((a + 4294967296 * r : Nat) : Int) by rw [IntKind.wrap_u64]; omega]
  have hX : a + 4294967296 * r < 18446744073709551616 := by omega
  generalize a + 4294967296 * r = X at *
  have hY : X / P < 18446744073709551616 := Nat.lt_of_le_of_lt (Nat.div_le_self _ _) hX
  rw [Int.tdiv_eq_ediv_of_nonneg (by omega), ← Int.natCast_ediv]
  generalize X / P = Y at *
  rw [IntKind.wrap_u64, Int.tmod_eq_emod_of_nonneg (by omega)]
  omega

set_option maxRecDepth 100000 in
theorem rshr_calls (w : World) (v : Value) (n : Nat) (k0 : Nat) (hk : k0 ≤ 100000000) (h : Un w v n) (hl : (limbs n).length ≤ 100000000) :
    Calls Try.prog 33 #[v, .int .i64 (k0 : Int)] w fun e w' => (∃ u, e = .returned u ∧ Un w' u (n / 2 ^ k0)) ∧ Below w.heap.size w w' := by
  obtain ⟨A, c, rfl, ⟨hc, hm⟩, hx, hr⟩ := id h
  clear hr
  obtain ⟨Q, hQ⟩ : ∃ Q, k0 / 32 = Q := ⟨_, rfl⟩
  obtain ⟨S, hS⟩ : ∃ S, k0 % 32 = S := ⟨_, rfl⟩
  have eQ : (k0 : Int) / 32 = (Q : Int) := by omega
  have eS : (k0 : Int) % 32 = (S : Int) := by omega
  have HK : Hid (k0 = 32 * Q + S) := by rw [Hid]; omega
  have hS32 : S < 32 := by omega
  have hQ1 : Q ≤ 100000000 := by omega
  go_enter Try.func33, Try.ntmps33
  go_wp2_with (fail)
  have hown0 : Own (w.alloc (.cells #[] 37)) w.heap.size (.slice (some ⟨w.heap.size, 0, none⟩) 0 0) [] := World.ownsRow_lit w #[] 0 (Nat.le_refl _) (Nat.zero_le _) rfl
  have hB0 : Below w.heap.size w (w.alloc (.cells #[] 37)) := (Below.refl _ _).alloc (Nat.le_refl _) _
  go_loop [6, 7] (fun b i => ∃ j : Nat, j ≤ S ∧ i = .int .i64 j ∧ b = .int .u64 (2 ^ j : Nat)) (fun _ i => S - (intOf i).toNat)
  case atStart => exact ⟨0, Nat.zero_le _, rfl, rfl⟩
  case round =>
    obtain ⟨j, hj, rfl, rfl⟩ := hrel
    have hp1 : 2 ^ j < 4294967296 := Nat.lt_of_le_of_lt (Nat.pow_le_pow_right (by decide) (show j ≤ 31 by omega)) (by decide)
    by_cases hd2 : j < S
    · have HN : Hid (2 * ((2 ^ j : Nat) : Int) = ((2 ^ (j + 1) : Nat) : Int)) := by rw [Hid, Nat.pow_succ]; omega
      obtain ⟨X, hX⟩ : ∃ X, 2 ^ j = X := ⟨_, rfl⟩
      rw [hX] at HN hp1
      rw [hX]
      clear hX
      go_wp2
      go_round
      case rel => exact ⟨j + 1, by omega, by go_num, by rw [← HN.out]⟩
      case measure => simp [intOf]; omega
    · obtain rfl : j = S := by omega
      have hp0 : 0 < 2 ^ j := Nat.two_pow_pos j
      have HD : Hid (∀ k, (lb (limbs n) (Q + k) + 4294967296 * (lb (limbs n) (Q + k + 1) % 2 ^ j)) / 2 ^ j % 4294967296 = n / 2 ^ k0 / 4294967296 ^ k % 4294967296) := fun k => by
        rw [HK.out]; exact shr_digit n Q j k hS32
      have HT : Hid (n / 2 ^ k0 < 4294967296 ^ ((limbs n).length - Q)) := by
        rw [Hid, Nat.div_lt_iff_lt_mul (Nat.two_pow_pos _)]
        refine Nat.lt_of_lt_of_le (lt_pow_len n) ?_
        rw [HK.out, Nat.pow_add, ← pow32, ← Nat.mul_assoc, ← Nat.pow_add]
        exact Nat.le_trans (Nat.pow_le_pow_right (by decide) (show (limbs n).length ≤ (limbs n).length - Q + Q by omega)) (Nat.le_mul_of_pos_right _ hp0)
      obtain ⟨P, hP⟩ : ∃ P, 2 ^ j = P := ⟨_, rfl⟩
      rw [hP] at hp0 hp1 HD
      rw [hP]
      clear hP
      go_wp2_with (fail)
      go_loopw [5, 8] (fun s i wr => ∃ (m : Nat) (o : List Nat), (m = 0 ∨ Q + m ≤ (limbs n).length) ∧ i = .int .i64 ((Q + m : Nat) : Int) ∧ Hid (o.length = m ∧ (∀ x ∈ o, x < 4294967296) ∧ ∀ t, t < m → lb o t = n / 2 ^ k0 / 4294967296 ^ t % 4294967296) ∧ Own wr w.heap.size s o ∧ Below w.heap.size w wr) (fun _ i _ => (limbs n).length - (intOf i).toNat)
      case atStart => exact ⟨0, [], Or.inl rfl, rfl, ⟨rfl, by simp, fun t ht => by omega⟩, hown0, hB0⟩
      case round =>
        clear hown0 hB0
        obtain ⟨m, o, hm1, rfl, HO, hown, hB⟩ := hrel
        have hlen := HO.out.1
        by_cases hd3 : Q + m < (limbs n).length
        · have h1 := lb_lt hx (Q + m)
          have h2 := lb_lt hx (Q + m + 1)
          obtain ⟨x1, hx1⟩ : ∃ x1, (lb (limbs n) (Q + m) + 4294967296 * (lb (limbs n) (Q + m + 1) % P)) / P % 4294967296 = x1 := ⟨_, rfl⟩
          have hxl : x1 < 4294967296 := by rw [← hx1]; exact Nat.mod_lt _ (by decide)
          have HO2 : Hid ((o ++ [x1]).length = m + 1 ∧ (∀ x ∈ o ++ [x1], x < 4294967296) ∧ ∀ t, t < m + 1 → lb (o ++ [x1]) t = n / 2 ^ k0 / 4294967296 ^ t % 4294967296) := by
            refine ⟨by simp [hlen], snoc_lt HO.out.2.1 hxl, fun t ht => ?_⟩
            rcases Nat.lt_or_ge t m with h6 | h6
            · rw [← HO.out.2.2 t h6]; unfold lb; rw [List.getElem?_append_left (by omega)]
            · obtain rfl : t = m := by omega
              rw [← HD.out t, hx1]; unfold lb; rw [List.getElem?_append_right (by omega), hlen, Nat.sub_self]; rfl
          have e2 : (IntKind.u64.wrap ((IntKind.u64.wrap (((lb (limbs n) (Q + m) : Nat) : Int) + IntKind.u64.wrap (4294967296 * (((lb (limbs n) (Q + m + 1) : Nat) : Int) % (P : Int))))).tdiv (P : Int))).tmod 4294967296 % 4294967296 = (x1 : Int) := by rw [← hx1]; exact shr_val _ _ _ h1 hp0 hp1
          obtain ⟨v', w', hrun, hown', hB'⟩ := push_own hB hown ((IntKind.u64.wrap ((IntKind.u64.wrap (((lb (limbs n) (Q + m) : Nat) : Int) + IntKind.u64.wrap (4294967296 * (((lb (limbs n) (Q + m + 1) : Nat) : Int) % (P : Int))))).tdiv (P : Int))).tmod 4294967296 % 4294967296) x1 e2 hxl (by omega)
          obtain ⟨t1, t2, t3⟩ := app_tok hrun
          clear hrun hx1 e2 hlen hxl h2 hown hm1
          go_wp2_with (fail)
          refine (limb_calls _ _ (limbs n) _ (Q + m) (by omega) (U.below h hB)).mono ?_
          rintro e w' ⟨rfl, rfl⟩
          go_wp2_with (fail)
          refine (limb_calls _ _ (limbs n) _ (Q + m + 1) (by omega) (U.below h hB)).mono ?_
          rintro e w' ⟨rfl, rfl⟩
          go_wp2_with (fail)
          go_roundw
          case rel => exact ⟨m + 1, _, Or.inr (by omega), by go_num, HO2, hown', hB'⟩
          case measure => simp [intOf]; omega
        · have HV : Hid (val o = n / 2 ^ k0) := by
            rw [Hid, val_digits o (n / 2 ^ k0) (fun t ht => HO.out.2.2 t (by omega))]
            apply Nat.mod_eq_of_lt
            refine Nat.lt_of_lt_of_le HT.out (Nat.pow_le_pow_right (by decide) (by omega))
          have hu := hown.toU HO.out.2.1 (by omega)
          have hol : o.length ≤ 1000000000 := by omega
          clear hlen
          go_wp2_with (fail)
          refine (rmake_calls _ _ _ hu hol).mono ?_
          rintro e w' ⟨⟨z, rfl, hz⟩, hB2⟩
          have hz2 : Un w' z (n / 2 ^ k0) := by rw [← HV.out]; exact hz
          replace hB := Below.trans hB (Below.mono hB2 hB.size)
          clear hz
          go_wp2
          go_ret
          exact ⟨⟨_, rfl, hz2⟩, hB⟩
end Go.Proofs.Ytnjkdplhoihkiaa
