/- The document's own Shr. -/
import Derived.Test.YtikajmmeglookaaGreatDoorPi

namespace Go.Proofs.YtikajmmeglookaaGreatDoor
open Go.RowKit
set_option linter.unusedVariables false
set_option maxHeartbeats 400000
attribute [local go_sem ↓] app_shut
attribute [local go_sem] run_append_tok

theorem val_digits (o : List Nat) (N : Nat) (h : ∀ j, j < o.length → lb o j = N / 4294967296 ^ j % 4294967296) : val o = N % 4294967296 ^ o.length := by
  have key : ∀ j, j ≤ o.length → val (o.take j) = N % 4294967296 ^ j := by
    intro j
    induction j with
    | zero => intro _; simp [val, Nat.mod_one]
    | succ j ih =>
      intro hj
      rw [val_take_succ o j (by omega), ih (by omega), h j (by omega), Nat.mod_pow_succ, Nat.mul_comm]
  have := key o.length (Nat.le_refl _)
  rwa [List.take_length] at this

theorem shr_digit (n q S k : Nat) (hS : S < 32) :
    (lb (limbs n) (q + k) + 4294967296 * (lb (limbs n) (q + k + 1) % 2 ^ S)) / 2 ^ S % 4294967296 = n / 2 ^ (32 * q + S) / 4294967296 ^ k % 4294967296 := by
  rw [lb_limbs, lb_limbs]
  have e1 : n / 2 ^ (32 * q + S) / 4294967296 ^ k = n / 4294967296 ^ (q + k) / 2 ^ S := by
    rw [Nat.div_div_eq_div_mul, Nat.div_div_eq_div_mul, Nat.pow_add 2, ← pow32, Nat.pow_add 4294967296, Nat.mul_right_comm]
  have e2 : n / 4294967296 ^ (q + k + 1) = n / 4294967296 ^ (q + k) / 4294967296 := by
    rw [Nat.pow_succ, Nat.div_div_eq_div_mul]
  rw [e1, e2]
  generalize n / 4294967296 ^ (q + k) = V
  have hd : 2 ^ S ∣ 4294967296 := ⟨2 ^ (32 - S), by rw [← Nat.pow_add, show S + (32 - S) = 32 by omega]⟩
  rw [Nat.mod_mod_of_dvd _ hd]
  have hp : 0 < 2 ^ S := Nat.two_pow_pos S
  generalize 2 ^ S = P at *
  have e3 : V = V % 4294967296 + 4294967296 * (V / 4294967296 % P) + P * (4294967296 * (V / 4294967296 / P)) := by
    have a1 := Nat.div_add_mod V 4294967296
    have a2 := Nat.div_add_mod (V / 4294967296) P
    have a3 : 4294967296 * (V / 4294967296) = P * (4294967296 * (V / 4294967296 / P)) + 4294967296 * (V / 4294967296 % P) := by
      conv => lhs; rw [← a2]
      rw [Nat.mul_add, Nat.mul_left_comm]
    omega
  conv => rhs; rw [e3]
  rw [Nat.add_mul_div_left _ _ hp, Nat.add_mul_mod_self_left]

theorem shr_val (a b P : Nat) (ha : a < 4294967296) (hP0 : 0 < P) (hP : P < 4294967296) :
    (IntKind.u64.wrap ((IntKind.u64.wrap ((a : Int) + IntKind.u64.wrap (4294967296 * ((b : Int) % (P : Int))))).tdiv (P : Int))).tmod 4294967296 % 4294967296 = (((a + 4294967296 * (b % P)) / P % 4294967296 : Nat) : Int) := by
  have hr : b % P < P := Nat.mod_lt _ hP0
  rw [← Int.natCast_emod]
  generalize b % P = r at *
  rw [show IntKind.u64.wrap (4294967296 * (r : Int)) = 4294967296 * (r : Int) by rw [IntKind.wrap_u64]; omega]
  rw [show IntKind.u64.wrap ((a : Int) + 4294967296 * (r : Int)) = ((a + 4294967296 * r : Nat) : Int) by rw [IntKind.wrap_u64]; omega]
  have hX : a + 4294967296 * r < 18446744073709551616 := by omega
  generalize a + 4294967296 * r = X at *
  have hY : X / P < 18446744073709551616 := Nat.lt_of_le_of_lt (Nat.div_le_self _ _) hX
  rw [Int.tdiv_eq_ediv_of_nonneg (by omega), ← Int.natCast_ediv]
  generalize X / P = Y at *
  rw [IntKind.wrap_u64, Int.tmod_eq_emod_of_nonneg (by omega)]
  omega

set_option maxRecDepth 100000 in
theorem rshr_calls (w : World) (v : Value) (n : Nat) (k0 : Nat) (hk : k0 ≤ 100000000) (h : Un w v n) (hl : (limbs n).length ≤ 100000000) :
    Calls Tryz.prog 30 #[v, .int .i64 (k0 : Int)] w fun e w' => (∃ u, e = .returned u ∧ Un w' u (n / 2 ^ k0)) ∧ Below w.heap.size w w' := by
  obtain ⟨A, c, rfl, ⟨hc, hm⟩, hx, hr⟩ := id h
  clear hr
  obtain ⟨Q, hQ⟩ : ∃ Q, k0 / 32 = Q := ⟨_, rfl⟩
  obtain ⟨S, hS⟩ : ∃ S, k0 % 32 = S := ⟨_, rfl⟩
  have eQ : (k0 : Int) / 32 = (Q : Int) := by omega
  have eS : (k0 : Int) % 32 = (S : Int) := by omega
  have HK : Hid (k0 = 32 * Q + S) := by rw [Hid]; omega
  have hS32 : S < 32 := by omega
  have hQ1 : Q ≤ 100000000 := by omega
  go_enter Tryz.func30, Tryz.ntmps30
  go_wp2_with (fail)
  have hown0 : Own (w.alloc (.cells #[] 23)) w.heap.size (.slice (some ⟨w.heap.size, 0, none⟩) 0 0) [] := World.ownsRow_lit w #[] 0 (Nat.le_refl _) (Nat.zero_le _) rfl
  have hB0 : Below w.heap.size w (w.alloc (.cells #[] 23)) := (Below.refl _ _).alloc (Nat.le_refl _) _
  go_loop [6, 7] (fun b i => ∃ j : Nat, j ≤ S ∧ i = .int .i64 j ∧ b = .int .u64 (2 ^ j : Nat)) (fun _ i => S - (intOf i).toNat)
  case atStart => exact ⟨0, Nat.zero_le _, rfl, rfl⟩
  case round =>
    obtain ⟨j, hj, rfl, rfl⟩ := hrel
    have hp1 : 2 ^ j < 4294967296 := Nat.lt_of_le_of_lt (Nat.pow_le_pow_right (by decide) (show j ≤ 31 by omega)) (by decide)
    by_cases hd2 : j < S
    · have HN : Hid (2 * ((2 ^ j : Nat) : Int) = ((2 ^ (j + 1) : Nat) : Int)) := by rw [Hid, Nat.pow_succ]; omega
      obtain ⟨X, hX⟩ : ∃ X, 2 ^ j = X := ⟨_, rfl⟩
      rw [hX] at HN hp1
      rw [hX]
      clear hX
      go_wp2
      go_round
      case rel => exact ⟨j + 1, by omega, by go_num, by rw [← HN.out]⟩
      case measure => simp [intOf]; omega
    · obtain rfl : j = S := by omega
      have hp0 : 0 < 2 ^ j := Nat.two_pow_pos j
      have HD : Hid (∀ k, (lb (limbs n) (Q + k) + 4294967296 * (lb (limbs n) (Q + k + 1) % 2 ^ j)) / 2 ^ j % 4294967296 = n / 2 ^ k0 / 4294967296 ^ k % 4294967296) := fun k => by
        rw [HK.out]; exact shr_digit n Q j k hS32
      have HT : Hid (n / 2 ^ k0 < 4294967296 ^ ((limbs n).length - Q)) := by
        rw [Hid, Nat.div_lt_iff_lt_mul (Nat.two_pow_pos _)]
        refine Nat.lt_of_lt_of_le (lt_pow_len n) ?_
        rw [HK.out, Nat.pow_add, ← pow32, ← Nat.mul_assoc, ← Nat.pow_add]
        exact Nat.le_trans (Nat.pow_le_pow_right (by decide) (show (limbs n).length ≤ (limbs n).length - Q + Q by omega)) (Nat.le_mul_of_pos_right _ hp0)
      obtain ⟨P, hP⟩ : ∃ P, 2 ^ j = P := ⟨_, rfl⟩
      rw [hP] at hp0 hp1 HD
      rw [hP]
      clear hP
      go_wp2_with (fail)
      go_loopw [5, 8] (fun s i wr => ∃ (m : Nat) (o : List Nat), (m = 0 ∨ Q + m ≤ (limbs n).length) ∧ i = .int .i64 ((Q + m : Nat) : Int) ∧ Hid (o.length = m ∧ (∀ x ∈ o, x < 4294967296) ∧ ∀ t, t < m → lb o t = n / 2 ^ k0 / 4294967296 ^ t % 4294967296) ∧ Own wr w.heap.size s o ∧ Below w.heap.size w wr) (fun _ i _ => (limbs n).length - (intOf i).toNat)
      case atStart => exact ⟨0, [], Or.inl rfl, rfl, ⟨rfl, by simp, fun t ht => by omega⟩, hown0, hB0⟩
      case round =>
        clear hown0 hB0
        obtain ⟨m, o, hm1, rfl, HO, hown, hB⟩ := hrel
        have hlen := HO.out.1
        by_cases hd3 : Q + m < (limbs n).length
        · have h1 := lb_lt hx (Q + m)
          have h2 := lb_lt hx (Q + m + 1)
          obtain ⟨x1, hx1⟩ : ∃ x1, (lb (limbs n) (Q + m) + 4294967296 * (lb (limbs n) (Q + m + 1) % P)) / P % 4294967296 = x1 := ⟨_, rfl⟩
          have hxl : x1 < 4294967296 := by rw [← hx1]; exact Nat.mod_lt _ (by decide)
          have HO2 : Hid ((o ++ [x1]).length = m + 1 ∧ (∀ x ∈ o ++ [x1], x < 4294967296) ∧ ∀ t, t < m + 1 → lb (o ++ [x1]) t = n / 2 ^ k0 / 4294967296 ^ t % 4294967296) := by
            refine ⟨by simp [hlen], snoc_lt HO.out.2.1 hxl, fun t ht => ?_⟩
            rcases Nat.lt_or_ge t m with h6 | h6
            · rw [← HO.out.2.2 t h6]; unfold lb; rw [List.getElem?_append_left (by omega)]
            · obtain rfl : t = m := by omega
              rw [← HD.out t, hx1]; unfold lb; rw [List.getElem?_append_right (by omega), hlen, Nat.sub_self]; rfl
          have e2 : (IntKind.u64.wrap ((IntKind.u64.wrap (((lb (limbs n) (Q + m) : Nat) : Int) + IntKind.u64.wrap (4294967296 * (((lb (limbs n) (Q + m + 1) : Nat) : Int) % (P : Int))))).tdiv (P : Int))).tmod 4294967296 % 4294967296 = (x1 : Int) := by rw [← hx1]; exact shr_val _ _ _ h1 hp0 hp1
          obtain ⟨v', w', hrun, hown', hB'⟩ := zpush_own hB hown ((IntKind.u64.wrap ((IntKind.u64.wrap (((lb (limbs n) (Q + m) : Nat) : Int) + IntKind.u64.wrap (4294967296 * (((lb (limbs n) (Q + m + 1) : Nat) : Int) % (P : Int))))).tdiv (P : Int))).tmod 4294967296 % 4294967296) x1 e2 hxl (by omega)
          obtain ⟨t1, t2, t3⟩ := app_tok hrun
          clear hrun hx1 e2 hlen hxl h2 hown hm1
          go_wp2_with (fail)
          refine (rlimb_at _ _ (limbs n) _ (Q + m) (by omega) (U.below h hB)).mono ?_
          rintro e w' ⟨rfl, rfl⟩
          go_wp2_with (fail)
          refine (rlimb_at _ _ (limbs n) _ (Q + m + 1) (by omega) (U.below h hB)).mono ?_
          rintro e w' ⟨rfl, rfl⟩
          go_wp2_with (fail)
          go_roundw
          case rel => exact ⟨m + 1, _, Or.inr (by omega), by go_num, HO2, hown', hB'⟩
          case measure => simp [intOf]; omega
        · have HV : Hid (val o = n / 2 ^ k0) := by
            rw [Hid, val_digits o (n / 2 ^ k0) (fun t ht => HO.out.2.2 t (by omega))]
            apply Nat.mod_eq_of_lt
            refine Nat.lt_of_lt_of_le HT.out (Nat.pow_le_pow_right (by decide) (by omega))
          have hu := hown.toU HO.out.2.1 (by omega)
          have hol : o.length ≤ 1000000000 := by omega
          clear hlen
          go_wp2_with (fail)
          refine (rmake_calls _ _ _ hu hol).mono ?_
          rintro e w' ⟨⟨z, rfl, hz⟩, hB2⟩
          have hz2 : Un w' z (n / 2 ^ k0) := by rw [← HV.out]; exact hz
          replace hB := Below.trans hB (Below.mono hB2 hB.size)
          clear hz
          go_wp2
          go_ret
          exact ⟨⟨_, rfl, hz2⟩, hB⟩
end Go.Proofs.YtikajmmeglookaaGreatDoor
/- The contracts of the document's own functions, in one form. -/
namespace Go.Proofs.YtikajmmeglookaaGreatDoor
open Go.RowKit
set_option linter.unusedVariables false

theorem rright_B (w : World) (v : Value) (xs : List Nat) (h : U w v xs) (b : Bool) (hb : rightB xs = b) :
    Calls Tryz.prog 29 #[v] w fun e w' => e = .returned (.bool b) ∧ Ext w w' :=
  (rright_calls w v xs h).mono fun e w' ⟨he, hw⟩ => ⟨by rw [he, hb], by rw [← hw]; exact Ext.refl w⟩
theorem rmake_B (w : World) (v : Value) (xs : List Nat) (h : U w v xs) (hl : xs.length ≤ 1000000000) (n : Nat) (hn : val xs = n) :
    Calls Tryz.prog 32 #[v] w fun e w' => ∃ u, e = .returned u ∧ Un w' u n ∧ Ext w w' :=
  (rmake_calls w v xs h hl).mono fun e w' ⟨⟨u, he, hu⟩, hw⟩ => ⟨u, he, by rw [Un, ← hn]; exact hu, hw⟩
theorem rlow_B (w : World) (v : Value) (n : Nat) (h : Un w v n) (k : Int) (b : Bool) (hk : ((lowN n : Nat) : Int) = k) (hb : lowB n = b) :
    Calls Tryz.prog 48 #[v] w fun e w' => e = .returned (.tuple #[.int .u64 k, .bool b]) ∧ Ext w w' :=
  (rlow_calls w v n h).mono fun e w' ⟨he, hw⟩ => ⟨by rw [he, hk, hb], by rw [← hw]; exact Ext.refl w⟩
theorem rbits_B (w : World) (v : Value) (n : Nat) (h : Un w v n) (hl : (limbs n).length ≤ 1000000000) (k : Int) (hk : ((blen n : Nat) : Int) = k) :
    Calls Tryz.prog 31 #[v] w fun e w' => e = .returned (.int .i64 k) ∧ Ext w w' :=
  (rbits_calls w v n h hl).mono fun e w' ⟨he, m, hw⟩ => ⟨by rw [he, hk], by rw [hw]; exact ext_drewN w m⟩
theorem rbit_B (w : World) (v : Value) (n : Nat) (i : Int) (h : Un w v n) (hi0 : -9000000000000 ≤ i) (hi1 : i ≤ 9000000000000) (k : Int) (hk : ((bitN n i : Nat) : Int) = k) :
    Calls Tryz.prog 33 #[v, .int .i64 i] w fun e w' => e = .returned (.int .u32 k) ∧ Ext w w' :=
  (rbit_calls w v n i hi0 hi1 h).mono fun e w' ⟨he, hw⟩ => ⟨by rw [he, hk], by rw [← hw]; exact Ext.refl w⟩
theorem rcmp_B (w : World) (v u : Value) (n m : Nat) (h : Un w v n) (g : Un w u m) (hl : (limbs n).length ≤ 1000000000) (hl2 : (limbs m).length ≤ 1000000000) (k : Int) (hk : cmpI n m = k) :
    Calls Tryz.prog 27 #[v, u] w fun e w' => e = .returned (.int .i64 k) ∧ Ext w w' :=
  (rcmp_calls w v u _ _ h g hl hl2).mono fun e w' ⟨he, hw⟩ => ⟨by rw [he, val_limbs, val_limbs, hk], by rw [← hw]; exact Ext.refl w⟩
theorem radd_B (w : World) (v u : Value) (n m : Nat) (h : Un w v n) (g : Un w u m) (hm : (limbs n).length ≤ 100000000) (hm2 : (limbs m).length ≤ 100000000) (s : Nat) (hs : n + m = s) :
    Calls Tryz.prog 28 #[v, u] w fun e w' => ∃ z, e = .returned z ∧ Un w' z s ∧ Ext w w' := by
  subst hs
  have := radd_calls w v u _ _ h g hm hm2
  rw [val_limbs, val_limbs] at this
  exact this.mono fun e w' ⟨⟨z, he, hz⟩, hb⟩ => ⟨z, he, hz, hb⟩
theorem rsub_B (w : World) (v u : Value) (n m : Nat) (h : Un w v n) (g : Un w u m) (hm : (limbs n).length ≤ 100000000) (hm2 : (limbs m).length ≤ 100000000) (b : Bool) (hb : decide (m ≤ n) = b) (d : Nat) (hd : n - m = d) :
    Calls Tryz.prog 34 #[v, u] w fun e w' => ∃ z, e = .returned (.tuple #[z, .bool b]) ∧ Un w' z d ∧ Ext w w' :=
  (rsub_calls w v u n m h g hm hm2 b hb d hd).mono fun e w' ⟨⟨z, he, hz⟩, hb⟩ => ⟨z, he, hz, hb⟩
theorem rshl_B (w : World) (v : Value) (n : Nat) (k : Nat) (h : Un w v n) (hk1 : k ≤ 100000000) (hl : (limbs n).length ≤ 100000000) (s : Nat) (hs : n * 2 ^ k = s) :
    Calls Tryz.prog 25 #[v, .int .i64 (k : Int)] w fun e w' => ∃ z, e = .returned z ∧ Un w' z s ∧ Ext w w' := by
  subst hs
  exact (rshl_calls w v n k hk1 h hl).mono fun e w' ⟨⟨z, he, hz⟩, hb⟩ => ⟨z, he, hz, hb⟩
theorem rshr_B (w : World) (v : Value) (n : Nat) (k : Nat) (h : Un w v n) (hk1 : k ≤ 100000000) (hl : (limbs n).length ≤ 100000000) (s : Nat) (hs : n / 2 ^ k = s) :
    Calls Tryz.prog 30 #[v, .int .i64 (k : Int)] w fun e w' => ∃ z, e = .returned z ∧ Un w' z s ∧ Ext w w' := by
  subst hs
  exact (rshr_calls w v n k hk1 h hl).mono fun e w' ⟨⟨z, he, hz⟩, hb⟩ => ⟨z, he, hz, hb⟩
end Go.Proofs.YtikajmmeglookaaGreatDoor
/- The document's calls in the laws of division, and live questions, whose answers are fixed. -/
namespace Go.Proofs.YtikajmmeglookaaGreatDoor
open Go.RowKit
set_option linter.unusedVariables false
set_option maxHeartbeats 400000

theorem same1 (w : World) (v u : Value) (n m : Nat) (h : Un w v n) (g : Un w u m) (b : Bool) (hb : decide (n = m) = b) :
    Calls Tryz.prog 19 #[v, u] w fun e w' => e = .returned (.bool b) ∧ Ext w w' := by
  refine same_B w v u _ _ h g b ?_
  rw [← hb]
  refine decide_eq_decide.2 ⟨fun e => ?_, fun e => by rw [e]⟩
  have := congrArg val e
  rwa [val_limbs, val_limbs] at this
theorem sameT (w : World) (v u : Value) (n : Nat) (h : Un w v n) (g : Un w u n) :
    Calls Tryz.prog 19 #[v, u] w fun e w' => e = .returned (.bool true) ∧ Ext w w' := same1 w v u n n h g true (decide_eq_true rfl)
theorem rmul_B (w : World) (va vb : Value) (n m k : Nat) (ha : Un w va n) (hb : Un w vb m) (hn : (limbs n).length ≤ 398) (hm : (limbs m).length ≤ 398) (hk : n * m = k) :
    Calls Tryz.prog 26 #[va, vb] w fun e w' => ∃ u, e = .returned u ∧ Un w' u k ∧ Ext w w' := by
  have h0 := Lib.hid (rschoolX_B w va vb n m k ha hb hn hm hk)
  clear ha hb hn hm hk
  go_enter Tryz.func26, Tryz.ntmps26
  go_wp2_with (fail)
  refine h0.out.mono ?_
  rintro e w1 ⟨u, rfl, hu, hB⟩
  have HF : Hid (∃ u', Ending.returned u = .returned u' ∧ Un w1 u' k ∧ Ext w w1) := ⟨_, rfl, hu, hB⟩
  clear hu hB h0
  go_wp2
  go_ret
  exact HF.out
theorem rightB_limb {n : Nat} (h : (limbs n).length ≤ 65536) : rightB (limbs n) = true := by
  unfold rightB
  by_cases h0 : n = 0
  · subst h0; rw [limbs_zero]; rfl
  · have := limbs_last h0
    rw [decide_eq_true h, Bool.true_and, Bool.or_eq_true]
    right
    rw [bne_iff_ne]
    exact this
theorem rrightT (w : World) (v : Value) (n : Nat) (h : Un w v n) (hl : (limbs n).length ≤ 1000) :
    Calls Tryz.prog 29 #[v] w fun e w' => e = .returned (.bool true) ∧ Ext w w' := rright_B w v (limbs n) h true (rightB_limb (by omega))
theorem Un_lit (w : World) (N : Nat) (hN : w.heap.size = N) (xs : List Nat) (n : Nat) (hx : ∀ x ∈ xs, x < 4294967296) (hm : xs.length ≤ 1000000) (hv : limbs n = xs) : Un (w.alloc (.cells (L32 xs).toArray 23)) (.slice (some ⟨N, 0, none⟩) xs.length xs.length) n := by
  rw [Un, hv]; exact U_lit2 w N hN xs hx hm
theorem lim3 : limbs 18446744073709551616 = [0, 0, 1] := by
  rw [limbs_pos (by decide), show 18446744073709551616 % 4294967296 = 0 from rfl, show 18446744073709551616 / 4294967296 = 4294967296 from rfl, limbs_two 0 1 (by decide) (by decide) (by decide) 4294967296 (by decide)]
theorem lim2a : limbs 4294967296 = [0, 1] := limbs_two 0 1 (by decide) (by decide) (by decide) _ (by decide)
theorem lim2b : limbs 4294967297 = [1, 1] := limbs_two 1 1 (by decide) (by decide) (by decide) _ (by decide)
theorem lim2c : limbs 1844674407370955161 = [2576980377, 429496729] := limbs_two 2576980377 429496729 (by decide) (by decide) (by decide) _ (by decide)
theorem lenc {n k c : Nat} (h : (limbs n).length ≤ k) (hk : k ≤ c) : (limbs n).length ≤ c := Nat.le_trans h hk
theorem len_3 : (limbs 18446744073709551616).length ≤ 3 := by rw [lim3]; decide
theorem len_2 : (limbs 4294967296).length ≤ 3 := by rw [lim2a]; decide
theorem len_s {n : Nat} (h0 : n ≠ 0) (h : n < 4294967296) : (limbs n).length ≤ 3 := by rw [limbs_small n h0 h]; simp
end Go.Proofs.YtikajmmeglookaaGreatDoor
/- Live questions of the laws of division, whose answers are fixed. -/
namespace Go.Proofs.YtikajmmeglookaaGreatDoor
open Go.RowKit
set_option linter.unusedVariables false
set_option maxHeartbeats 400000

set_option maxRecDepth 100000 in
set_option maxHeartbeats 8000000 in
theorem dhead_calls (w : World) : Calls Tryz.prog 13 #[] w fun e w' => e = .returned (.bool true) ∧ Ext w w' := by
  have HB := Ext.refl w
  go_enter Tryz.func13, Tryz.ntmps13
  go_wp2_with (fail)
  refine (divmod_D _ _ _ 18446744073709551616 4294967295 4294967297 1 (U.alloc (U.asUn (Un_lit _ (w.heap.size) (by simp) [0, 0, 1] 18446744073709551616 (by decide) (by decide) lim3)) _) (Un_lit _ (w.heap.size + 1) (by simp) [4294967295] 4294967295 (by decide) (by decide) (limbs_small 4294967295 (by decide) (by decide))) (lenc len_3 (by decide)) (lenc (len_s (by decide) (by decide)) (by decide)) (by decide) (by decide) (by decide)).mono ?_
  rintro e w1 ⟨⟨v_q, v_r, rfl, h_q, h_r⟩, hB⟩
  replace HB := ((HB.alloc _).alloc _).below hB
  have h_a := U.below (U.asUn (U.alloc (U.asUn (Un_lit _ (w.heap.size) (by simp) [0, 0, 1] 18446744073709551616 (by decide) (by decide) lim3)) _)) hB
  clear hB
  go_wp2_with (fail)
  refine (newton_D _ _ _ 5 7 0 5 (U.alloc (U.asUn (Un_lit _ (w1.heap.size) (by simp) [5] 5 (by decide) (by decide) (limbs_small 5 (by decide) (by decide)))) _) (Un_lit _ (w1.heap.size + 1) (by simp) [7] 7 (by decide) (by decide) (limbs_small 7 (by decide) (by decide))) (lenc (len_s (by decide) (by decide)) (by decide)) (lenc (len_s (by decide) (by decide)) (by decide)) (by decide) (by decide) (by decide)).mono ?_
  rintro e w2 ⟨⟨v_s, v_t, rfl, h_s, h_t⟩, hB⟩
  replace h_q := U.below (U.alloc (U.alloc (U.asUn h_q) _) _) hB
  replace h_r := U.below (U.alloc (U.alloc (U.asUn h_r) _) _) hB
  replace h_a := U.below (U.alloc (U.alloc (U.asUn h_a) _) _) hB
  replace HB := ((HB.alloc _).alloc _).below hB
  clear hB
  obtain ⟨As, cs, rfl⟩ := un_zero h_s
  clear h_s
  go_wp2_with (fail)
  refine (ziegler_D _ _ _ 18446744073709551616 4294967296 4294967296 0 (U.alloc (U.asUn h_a) _) (Un_lit _ (w2.heap.size) (by simp) [0, 1] 4294967296 (by decide) (by decide) lim2a) (lenc len_3 (by decide)) (lenc len_2 (by decide)) (by decide) (by decide) (by decide)).mono ?_
  rintro e w3 ⟨⟨v_u, v_v, rfl, h_u, h_v⟩, hB⟩
  replace h_q := U.below (U.alloc (U.asUn h_q) _) hB
  replace h_r := U.below (U.alloc (U.asUn h_r) _) hB
  replace h_a := U.below (U.alloc (U.asUn h_a) _) hB
  replace h_t := U.below (U.alloc (U.asUn h_t) _) hB
  replace HB := (HB.alloc _).below hB
  clear hB
  obtain ⟨Av, cv, rfl⟩ := un_zero h_v
  clear h_v
  go_wp2_with (fail)
  refine (divmod_Z _ _ _ _ h_a (Un_nil _) (lenc len_3 (by decide))).mono ?_
  rintro e w4 ⟨rfl, hB⟩
  replace h_q := U.below (U.asUn h_q) hB
  replace h_r := U.below (U.asUn h_r) hB
  replace h_a := U.below (U.asUn h_a) hB
  replace h_t := U.below (U.asUn h_t) hB
  replace h_u := U.below (U.asUn h_u) hB
  replace HB := HB.below hB
  clear hB
  go_wp2_with (fail)
  refine (newton_Z _ _ _ (Un_nil _)).mono ?_
  rintro e w5 ⟨rfl, hB⟩
  replace h_q := U.below (U.asUn h_q) hB
  replace h_r := U.below (U.asUn h_r) hB
  replace h_a := U.below (U.asUn h_a) hB
  replace h_t := U.below (U.asUn h_t) hB
  replace h_u := U.below (U.asUn h_u) hB
  replace HB := HB.below hB
  clear hB
  go_wp2_with (fail)
  refine (ziegler_Z _ _ _ (Un_nil _)).mono ?_
  rintro e w6 ⟨rfl, hB⟩
  replace h_q := U.below (U.asUn h_q) hB
  replace h_r := U.below (U.asUn h_r) hB
  replace h_a := U.below (U.asUn h_a) hB
  replace h_t := U.below (U.asUn h_t) hB
  replace h_u := U.below (U.asUn h_u) hB
  replace HB := HB.below hB
  clear hB
  go_wp2_with (fail)
  refine (recip_D _ _ 3 8 85 (Un_lit _ (w6.heap.size) (by simp) [3] 3 (by decide) (by decide) (limbs_small 3 (by decide) (by decide))) (lenc (len_s (by decide) (by decide)) (by decide)) (by decide) (by decide) (by decide)).mono ?_
  rintro e w7 ⟨⟨v_w, rfl, h_w⟩, hB⟩
  replace h_q := U.below (U.alloc (U.asUn h_q) _) hB
  replace h_r := U.below (U.alloc (U.asUn h_r) _) hB
  replace h_a := U.below (U.alloc (U.asUn h_a) _) hB
  replace h_t := U.below (U.alloc (U.asUn h_t) _) hB
  replace h_u := U.below (U.alloc (U.asUn h_u) _) hB
  replace HB := (HB.alloc _).below hB
  clear hB
  go_wp2_with (fail)
  refine (recip_Z _ _ 8 (Un_nil _)).mono ?_
  rintro e w8 ⟨rfl, hB⟩
  replace h_q := U.below (U.asUn h_q) hB
  replace h_r := U.below (U.asUn h_r) hB
  replace h_a := U.below (U.asUn h_a) hB
  replace h_t := U.below (U.asUn h_t) hB
  replace h_u := U.below (U.asUn h_u) hB
  replace h_w := U.below (U.asUn h_w) hB
  replace HB := HB.below hB
  clear hB
  go_wp2_with (fail)
  refine (small_calls _ _ 18446744073709551616 10 h_a (lenc len_3 (by decide)) (by decide) (by decide) 1844674407370955161 6 (by decide) (by decide)).mono ?_
  rintro e w9 ⟨⟨v_x, rfl, h_x⟩, hB⟩
  replace h_q := U.below (U.asUn h_q) hB
  replace h_r := U.below (U.asUn h_r) hB
  replace h_a := U.below (U.asUn h_a) hB
  replace h_t := U.below (U.asUn h_t) hB
  replace h_u := U.below (U.asUn h_u) hB
  replace h_w := U.below (U.asUn h_w) hB
  replace HB := HB.below hB
  clear hB
  go_wp2_with (fail)
  refine (small_zero _ _).mono ?_
  rintro e w10 ⟨rfl, hB⟩
  clear h_a
  replace h_q := U.below (U.asUn h_q) hB
  replace h_r := U.below (U.asUn h_r) hB
  replace h_t := U.below (U.asUn h_t) hB
  replace h_u := U.below (U.asUn h_u) hB
  replace h_w := U.below (U.asUn h_w) hB
  replace h_x := U.below (U.asUn h_x) hB
  replace HB := HB.below hB
  clear hB
  go_wp2_with (fail)
  refine (sameT _ _ _ 4294967297 (U.alloc (U.asUn h_q) _) (Un_lit _ (w10.heap.size) (by simp) [1, 1] 4294967297 (by decide) (by decide) lim2b)).mono ?_
  rintro e w11 ⟨rfl, hB⟩
  clear h_q
  replace h_r := U.below (U.alloc (U.asUn h_r) _) hB
  replace h_t := U.below (U.alloc (U.asUn h_t) _) hB
  replace h_u := U.below (U.alloc (U.asUn h_u) _) hB
  replace h_w := U.below (U.alloc (U.asUn h_w) _) hB
  replace h_x := U.below (U.alloc (U.asUn h_x) _) hB
  replace HB := (HB.alloc _).below hB
  clear hB
  go_wp2_with (fail)
  refine (sameT _ _ _ 1 (U.alloc (U.asUn h_r) _) (Un_lit _ (w11.heap.size) (by simp) [1] 1 (by decide) (by decide) (limbs_small 1 (by decide) (by decide)))).mono ?_
  rintro e w12 ⟨rfl, hB⟩
  clear h_r
  replace h_t := U.below (U.alloc (U.asUn h_t) _) hB
  replace h_u := U.below (U.alloc (U.asUn h_u) _) hB
  replace h_w := U.below (U.alloc (U.asUn h_w) _) hB
  replace h_x := U.below (U.alloc (U.asUn h_x) _) hB
  replace HB := (HB.alloc _).below hB
  clear hB
  go_wp2_with (fail)
  refine (sameT _ _ _ 5 (U.alloc (U.asUn h_t) _) (Un_lit _ (w12.heap.size) (by simp) [5] 5 (by decide) (by decide) (limbs_small 5 (by decide) (by decide)))).mono ?_
  rintro e w13 ⟨rfl, hB⟩
  clear h_t
  replace h_u := U.below (U.alloc (U.asUn h_u) _) hB
  replace h_w := U.below (U.alloc (U.asUn h_w) _) hB
  replace h_x := U.below (U.alloc (U.asUn h_x) _) hB
  replace HB := (HB.alloc _).below hB
  clear hB
  go_wp2_with (fail)
  refine (sameT _ _ _ 4294967296 (U.alloc (U.asUn h_u) _) (Un_lit _ (w13.heap.size) (by simp) [0, 1] 4294967296 (by decide) (by decide) lim2a)).mono ?_
  rintro e w14 ⟨rfl, hB⟩
  clear h_u
  replace h_w := U.below (U.alloc (U.asUn h_w) _) hB
  replace h_x := U.below (U.alloc (U.asUn h_x) _) hB
  replace HB := (HB.alloc _).below hB
  clear hB
  go_wp2_with (fail)
  refine (sameT _ _ _ 85 (U.alloc (U.asUn h_w) _) (Un_lit _ (w14.heap.size) (by simp) [85] 85 (by decide) (by decide) (limbs_small 85 (by decide) (by decide)))).mono ?_
  rintro e w15 ⟨rfl, hB⟩
  clear h_w
  replace h_x := U.below (U.alloc (U.asUn h_x) _) hB
  replace HB := (HB.alloc _).below hB
  clear hB
  go_wp2_with (fail)
  refine (sameT _ _ _ 1844674407370955161 (U.alloc (U.asUn h_x) _) (Un_lit _ (w15.heap.size) (by simp) [2576980377, 429496729] 1844674407370955161 (by decide) (by decide) lim2c)).mono ?_
  rintro e w16 ⟨rfl, hB⟩
  clear h_x
  replace HB := (HB.alloc _).below hB
  clear hB
  go_wp2
  go_ret
  exact ⟨rfl, HB⟩
end Go.Proofs.YtikajmmeglookaaGreatDoor
/- A quotient and a rest that fit. -/
namespace Go.Proofs.YtikajmmeglookaaGreatDoor
open Go.RowKit
set_option linter.unusedVariables false
set_option maxHeartbeats 400000

set_option maxRecDepth 100000 in
set_option maxHeartbeats 8000000 in
theorem fits_B (w : World) (va vb vq vr : Value) (a b q r : Nat) (h_a : Un w va a) (h_b : Un w vb b) (h_q : Un w vq q) (h_r : Un w vr r) (la : (limbs a).length ≤ 390) (lb_ : (limbs b).length ≤ 390) (lq : (limbs q).length ≤ 390) (lr : (limbs r).length ≤ 390) (h : q * b + r = a) (hlt : r < b) :
    Calls Tryz.prog 24 #[va, vb, vq, vr] w fun e w' => e = .returned (.bool true) ∧ Ext w w' := by
  have HB := Ext.refl w
  have hCmp := cmpI_lt (show (r : Int) < (b : Int) by omega)
  obtain ⟨p, hp⟩ : ∃ p, q * b = p := ⟨_, rfl⟩
  have hpl : (limbs p).length ≤ 390 := Nat.le_trans (len_mono (by rw [hp] at h; omega)) la
  rw [hp] at h
  have HC : Hid (cmpI (r : Int) (b : Int) = -1) := hCmp
  have HP := Lib.hid hp
  have HS := Lib.hid h
  have LL := Lib.hid (And.intro la (And.intro lb_ (And.intro lq (And.intro lr hpl))))
  clear hCmp hp h hlt la lb_ lq lr hpl
  go_enter Tryz.func24, Tryz.ntmps24
  go_wp2_with (fail)
  refine (rcmp_B _ _ _ _ _ h_r h_b (by have := LL.out; omega) (by have := LL.out; omega) (-1) HC.out).mono ?_
  rintro e w1 ⟨rfl, hB⟩
  replace h_a := U.below (U.asUn h_a) hB
  replace h_b := U.below (U.asUn h_b) hB
  replace h_q := U.below (U.asUn h_q) hB
  replace h_r := U.below (U.asUn h_r) hB
  replace HB := HB.below hB
  clear hB
  go_wp2_with (fail)
  refine (rmul_B _ _ _ _ _ p h_q h_b (by have := LL.out; omega) (by have := LL.out; omega) HP.out).mono ?_
  rintro e w2 ⟨v_p, rfl, h_p, hB⟩
  clear h_b
  replace h_a := U.below (U.asUn h_a) hB
  replace h_q := U.below (U.asUn h_q) hB
  replace h_r := U.below (U.asUn h_r) hB
  replace HB := HB.below hB
  clear hB
  go_wp2_with (fail)
  refine (radd_B _ _ _ _ _ h_p h_r (by have := LL.out; omega) (by have := LL.out; omega) a HS.out).mono ?_
  rintro e w3 ⟨v_s, rfl, h_s, hB⟩
  clear h_p
  replace h_a := U.below (U.asUn h_a) hB
  replace h_q := U.below (U.asUn h_q) hB
  replace h_r := U.below (U.asUn h_r) hB
  replace HB := HB.below hB
  clear hB
  go_wp2_with (fail)
  refine (sameT _ _ _ _ h_s h_a).mono ?_
  rintro e w4 ⟨rfl, hB⟩
  clear h_s
  clear h_a
  replace h_q := U.below (U.asUn h_q) hB
  replace h_r := U.below (U.asUn h_r) hB
  replace HB := HB.below hB
  clear hB
  go_wp2_with (fail)
  refine (rrightT _ _ _ h_q (by have := LL.out; omega)).mono ?_
  rintro e w5 ⟨rfl, hB⟩
  clear h_q
  replace h_r := U.below (U.asUn h_r) hB
  replace HB := HB.below hB
  clear hB
  go_wp2_with (fail)
  refine (rrightT _ _ _ h_r (by have := LL.out; omega)).mono ?_
  rintro e w6 ⟨rfl, hB⟩
  clear h_r
  replace HB := HB.below hB
  clear hB
  go_wp2
  go_ret
  exact ⟨rfl, HB⟩
/-- A quotient and its rest. -/
theorem dm_all {a b q r k : Nat} (h0 : b ≠ 0) (hq : a / b = q) (hr : a % b = r) (hl : (limbs a).length ≤ k) : q * b + r = a ∧ r < b ∧ (limbs q).length ≤ k ∧ (limbs r).length ≤ k := by
  refine ⟨by rw [← hq, ← hr, Nat.mul_comm]; exact Nat.div_add_mod _ _, by rw [← hr]; exact Nat.mod_lt _ (by omega), ?_, ?_⟩
  · rw [← hq]; exact Nat.le_trans (len_mono (Nat.div_le_self _ _)) hl
  · rw [← hr]; exact Nat.le_trans (len_mono (Nat.mod_le _ _)) hl
end Go.Proofs.YtikajmmeglookaaGreatDoor
