/- Proved: the statement NttValues: whatever numbers: in each place of a transform stands their value, as a polynomial's coefficients, at that power of the root; the first one is their sum. No condition. -/
import Derived.Test.YtofhpfmgopmcmaaDoorL4
namespace Go.Proofs.YtofhpfmgopmcmaaDoor
open Go.RowKit
set_option linter.unusedVariables false
set_option maxHeartbeats 400000

theorem nsum_shift (n : Nat) (f : Nat → Nat) : nsum (n + 1) f = f 0 + nsum n fun q => f (q + 1) := by
  induction n with
  | zero => simp [nsum]
  | succ n ih => rw [nsum, ih, nsum]; omega
theorem nsum_mul (n c : Nat) (f : Nat → Nat) : nsum n (fun q => c * f q) = c * nsum n f := by
  induction n with
  | zero => simp [nsum]
  | succ n ih => rw [nsum, nsum, ih, Nat.mul_add]
/-- The value of the numbers from place m on. -/
def hv (l : List Nat) (y p n m : Nat) : Nat := nsum (n - m) (fun q => lb l (m + q) * y ^ q) % p
theorem hv_end (l : List Nat) (y p n : Nat) (hp : 0 < p) : hv l y p n n = 0 := by unfold hv; rw [Nat.sub_self]; exact Nat.zero_mod _
theorem hv_step (l : List Nat) (y p n m : Nat) (h : m < n) : hv l y p n m = (hv l y p n (m + 1) * y + lb l m) % p := by
  unfold hv
  rw [show n - m = (n - (m + 1)) + 1 by omega, nsum_shift]
  have e : nsum (n - (m + 1)) (fun q => lb l (m + (q + 1)) * y ^ (q + 1)) = y * nsum (n - (m + 1)) (fun q => lb l (m + 1 + q) * y ^ q) := by
    rw [← nsum_mul]; exact nsum_congr fun q _ => by rw [Nat.pow_succ, show m + (q + 1) = m + 1 + q by omega]; grind
  rw [e, Nat.pow_zero, Nat.mul_one, Nat.add_zero, Nat.add_comm, Nat.add_mod, Nat.mul_comm y, ← mul_mod2, ← Nat.add_mod]
theorem hv_one (l : List Nat) (p n m : Nat) (h : m < n) : hv l 1 p n m = (hv l 1 p n (m + 1) + lb l m) % p := by
  rw [hv_step l 1 p n m h, Nat.mul_one]
theorem hv_lt (l : List Nat) (y p n m : Nat) (hp : 0 < p) : hv l y p n m < p := Nat.mod_lt _ hp
theorem tfl_value (i k : Nat) (l : List Nat) (r : Nat) (hr : rt (fd i) k % (fd i).p = r) (j : Nat) (hj : j < 2 ^ k) : lb (tfl i k false l) j = hv l (r ^ j % (fd i).p) (fd i).p (2 ^ k) 0 := by
  rw [tfl_eq, lb_trv _ _ _ _ _ _ hj]
  unfold dv hv
  rw [show ts i k false = 1 from rfl, Nat.one_mul, Nat.sub_zero]
  refine nsum_mod _ _ _ _ fun q _ => ?_
  rw [Nat.zero_add, Nat.mul_mod, show tw i k false = rt (fd i) k from rfl, Nat.mul_comm q j, Nat.pow_mul, ← pow_mod2 (rt (fd i) k ^ j), ← pow_mod2 (rt (fd i) k), hr, ← Nat.mul_mod]
theorem tfl_sum (i k : Nat) (l : List Nat) (hn : 0 < 2 ^ k) : lb (tfl i k false l) 0 = hv l 1 (fd i).p (2 ^ k) 0 := by
  rw [tfl_eq, lb_trv _ _ _ _ _ _ hn]
  unfold dv hv
  rw [show ts i k false = 1 from rfl, Nat.one_mul, Nat.sub_zero]
  refine nsum_mod _ _ _ _ fun q _ => ?_
  rw [Nat.zero_add, Nat.mul_zero, Nat.pow_zero, Nat.one_pow]

theorem keepE {w x y : World} (h : 0 < x.heap.size ∧ Ext w x) (hB : Ext x y) : 0 < y.heap.size ∧ Ext w y := ⟨Nat.lt_of_lt_of_le h.1 hB.size, h.2.below hB⟩

set_option maxRecDepth 100000 in
set_option maxHeartbeats 4000000 in
theorem NttValues_walk (w : World) (hg : Gl w) (I K : Int) (sl : Value) (bk : Bool) (xs : List Nat) (hI : (Lit.int .i64 I).wf = true) (hK : (Lit.int .i64 K).wf = true) (hu : U w sl xs) (at_ : Nat) (hat : at_ < 65536) :
    Calls Tryd.prog 9 #[.agg #[.int .i64 I, .int .i64 K, sl, .bool bk], .int .u16 (at_ : Nat)] w fun e w' => e = .returned (.bool true) ∧ Ext w w' := by
  obtain ⟨A, c, hsl, hc⟩ := hu.shape
  subst hsl
  obtain ⟨i, hi⟩ : ∃ i, ri I = i := ⟨_, rfl⟩
  obtain ⟨k, hk⟩ : ∃ k, rk K 10 = k := ⟨_, rfl⟩
  have hi3 : i < 3 := by rw [← hi]; exact ri_lt I
  have hk10 : k ≤ 10 := by rw [← hk]; exact rk_le K 10
  obtain ⟨n, hn⟩ : ∃ n, 2 ^ k = n := ⟨_, rfl⟩
  have hn0 : 0 < n := by rw [← hn]; exact Nat.two_pow_pos k
  have hn1 : n ≤ 1024 := by rw [← hn]; exact Nat.pow_le_pow_right (n := 2) (by decide) hk10
  have p0 := (fd_fld i).good.p0
  have p1 := (fd_fld i).good.p1
  have HI := Lib.hid hi
  have HK := Lib.hid hk
  have HN := Lib.hid hn
  obtain ⟨j, hj⟩ : ∃ j, at_ % n = j := ⟨_, rfl⟩
  have hjn : j < n := by rw [← hj]; exact Nat.mod_lt _ hn0
  have hjt : ((at_ : Nat) : Int).tmod (n : Int) = (j : Int) := by rw [Int.tmod_eq_emod_of_nonneg (by omega), ← hj, Int.natCast_emod]
  have hje : ((at_ : Nat) : Int) % (n : Int) = (j : Int) := by rw [← hj, Int.natCast_emod]
  have hE0 := (Ext.refl w).alloc (.cells #[.int .i64 I, .int .i64 K, .slice A xs.length c, .bool bk] 24)
  have HX := Ax.new w I K A xs.length c bk
  have HB := hE0
  replace hu := hu.below hE0
  replace hg := hg.ext hE0
  clear hi hk hn hE0 hj
  generalize xs.length = L at *
  go_enter Tryd.func9, Tryd.ntmps9
  go_wp2_with (fail)
  refine (head_calls _ hg).mono ?_
  rintro e w1 ⟨rfl, hB⟩
  replace HB := HB.below hB
  replace hg := hg.ext hB
  replace hu := hu.below hB
  replace HX := HX.ext hB
  clear hB
  obtain ⟨b0, b1, b2, b3, b4⟩ := id HX
  go_wp2_with (fail)
  refine (row_B _ I K _ bk xs hI hK hu 10 (by decide) i k HI.out HK.out).mono ?_
  rintro e w2 ⟨u1, rfl, hu1, hB⟩
  replace HB := HB.below hB
  replace hg := hg.ext hB
  clear hB b0 b1 b2 b3 b4 hu HX
  have HL1 := Lib.hid (rowv_len (fd i).p k xs)
  have HL2 := Lib.hid (rowv_lt (fd i).p k xs (by omega))
  generalize rowv (fd i).p k xs = l at *
  obtain ⟨ad1, c1, hv1, hcc1, hb1, hce1⟩ := hu1.opened (by rw [HL1.out, HN.out]) hn0
  subst hv1
  clear hce1
  have hP := Lib.hid (fun W => rprime_calls W i hi3)
  have hLg := Lib.hid (fun W => log_calls W n k HN.out.symm (by omega))
  have hR := Lib.hid (fun W hg => root_B W hg i k hi3 (by omega) _ rfl)
  have HTv := Lib.hid (fun r hr => tfl_value i k l r hr j (by rw [HN.out]; exact hjn))
  have HTs := Lib.hid (tfl_sum i k l (by rw [HN.out]; exact hn0))
  have hrp : rt (fd i) k % (fd i).p < (fd i).p := Nat.mod_lt _ (by omega)
  obtain ⟨r, hr⟩ : ∃ r, rt (fd i) k % (fd i).p = r := ⟨_, rfl⟩
  rw [hr] at hR hrp
  have HV := Lib.hid (HTv.out r hr)
  rw [HN.out] at HV HTs
  clear hr HTv
  have hTA := Lib.hid (fun W hg hu => tA_B W hg i k hi3 (by omega) (.slice (some ad1) n c1) l HL1.out HL2.out hu false)
  have HA1 := Lib.hid (tfl_len i k false l)
  have HA2 := Lib.hid (tfl_lt i k false l)
  generalize tfl i k false l = a at *
  obtain ⟨p, hpp⟩ : ∃ p, (fd i).p = p := ⟨_, rfl⟩
  rw [hpp] at p0 p1 HL2 hP HTs HV hrp HA2
  clear hpp
  have hgD : Gl w2.drew := hg
  have hS0 : 0 < w2.drew.heap.size ∧ Ext w w2.drew := ⟨hgD.1, HB.drew⟩
  have hatw : IntKind.i64.wrap ((at_ : Nat) : Int) = (at_ : Int) := IntWalk.i64_in _ (by omega)
  have hjw : IntKind.i64.wrap (j : Int) = (j : Int) := IntWalk.i64_in _ (by omega)
  have hpw : IntKind.u64.wrap (p : Int) = (p : Int) := by rw [IntKind.wrap_u64]; omega
  have hrw : IntKind.u64.wrap (r : Int) = (r : Int) := by rw [IntKind.wrap_u64]; omega
  have hn0a : ¬ ((n : Int) = 0) := by omega
  have hn0b : ¬ (n = 0) := by omega
  have hn0c : ((n : Int) == 0) = false := by rw [beq_eq_false_iff_ne]; omega
  go_wp2
  go_region_held3 (fun X => 0 < X.heap.size ∧ Ext w X)
    (first
      | exact hS0
      | assumption
      | exact keepE (by assumption) (by assumption))
    (first
      | (go_at_call 15; ((with_reducible refine (hP.out _).mono ?_); rintro e w' ⟨rfl, rfl⟩))
      | (go_at_call 26; ((with_reducible refine (hLg.out _).mono ?_); rintro e w' ⟨rfl, rfl⟩))
      | (go_at_call 16; ((with_reducible refine (hR.out _ hgD).mono ?_); rintro e w3 ⟨rfl, hB⟩)))
  have hB2 : Ext w2 w3 := ((Ext.refl w2).drew).below hB
  replace HB := HB.below hB2
  replace hg := hg.ext hB2
  replace hu1 := hu1.below hB2
  clear hB hB2 hgD hS0 hb1 hjt hje hatw hn0a hn0b hn0c hat
  go_wp2_with (fail)
  refine (hTA.out _ hg hu1).mono ?_
  rintro e w4 ⟨u2, rfl, hu2, hB⟩
  replace HB := HB.below hB
  replace hu1 := hu1.below hB
  clear hB hg
  obtain ⟨ad2, c2, hv2, hcc2, hb2, hce2⟩ := hu2.opened (by rw [HA1.out, HN.out]) hn0
  subst hv2
  obtain ⟨ad3, c3, hv3, hcc3, hb3, hce3⟩ := hu1.opened (by rw [HL1.out, HN.out]) hn0
  injection hv3 with q1 q2 q3
  injection q1 with q1
  subst q1 q3
  clear q2 hTA hR hLg hP hu1 hu2
  have hnn : ((n : Int) != (n : Int)) = false := by simp
  have hpz : ((p : Int) == 0) = false := by rw [beq_eq_false_iff_ne]; omega
  go_wp2
  go_loop [13, 14] (fun y t => ∃ m : Nat, m ≤ j ∧ t = .int .i64 (m : Nat) ∧ y = .int .u64 (r ^ m % p : Nat)) (fun _ t => j - (intOf t).toNat)
  case atStart => exact ⟨0, Nat.zero_le _, rfl, by rw [Nat.pow_zero, Nat.mod_eq_of_lt (by omega)]; rfl⟩
  case round =>
    obtain ⟨m, hm, rfl, rfl⟩ := hrel
    obtain ⟨x, hx⟩ : ∃ x, r ^ m % p = x := ⟨_, rfl⟩
    have hxp : x < p := by rw [← hx]; exact Nat.mod_lt _ (by omega)
    by_cases hlt : m < j
    · obtain ⟨z, hz⟩ : ∃ z, x * r = z := ⟨_, rfl⟩
      have hzi : (x : Int) * (r : Int) = (z : Int) := by rw [← hz, Int.natCast_mul]
      have hz64 : z < 18446744073709551616 := by rw [← hz]; exact Nat.lt_of_le_of_lt (Nat.mul_le_mul (Nat.le_of_lt hxp) (Nat.le_of_lt hrp)) (by have := Nat.mul_le_mul (Nat.le_of_lt p1) (Nat.le_of_lt p1); omega)
      have HX2 : Hid (r ^ (m + 1) % p = z % p) := by rw [Hid, ← hz, ← hx, Nat.pow_succ, mul_mod2]
      obtain ⟨y, hy⟩ : ∃ y, z % p = y := ⟨_, rfl⟩
      have hyi : (z : Int) % (p : Int) = (y : Int) := by rw [← hy, Int.natCast_emod]
      have HY := Lib.hid hy
      rw [hx]
      clear hz hy hx hce2 hce3
      go_wp2
      go_round
      case rel => exact ⟨m + 1, by omega, by go_num, by rw [HX2.out, HY.out, hyi]⟩
      case measure => simp [intOf]; omega
    · obtain rfl : m = j := by omega
      have hce1 := hce3 
      rw [hx]
      rw [hx] at HV
      clear hx hlt
      have hni : (n : Int) - 1 = ((n : Int) - 1) := rfl
      go_wp2
      go_loop [15, 16, 17] (fun y s t => ∃ q : Nat, q ≤ n ∧ t = .int .i64 ((q : Int) - 1) ∧ y = .int .u64 (hv l x p n q : Nat) ∧ s = .int .u64 (hv l 1 p n q : Nat)) (fun _ _ t => (intOf t + 1).toNat)
      case atStart => exact ⟨n, Nat.le_refl _, rfl, by rw [hv_end _ _ _ _ (by omega)]; rfl, by rw [hv_end _ _ _ _ (by omega)]; rfl⟩
      case round =>
        obtain ⟨q, hq, rfl, rfl, rfl⟩ := hrel
        rcases q with _ | q
        · have ha1 := hce2 m hjn
          have ha2 := hce2 0 hn0
          rw [addr_add_zero] at ha2
          rw [HV.out] at ha1
          rw [HTs.out] at ha2
          have l1 := hv_lt l x p n 0 (by omega)
          have l2 := hv_lt l 1 p n 0 (by omega)
          generalize hv l x p n 0 = V1 at *
          generalize hv l 1 p n 0 = V2 at *
          clear hce2 hce3 hce1
          go_wp2
          go_ret
          exact ⟨rfl, HB⟩
        · have hc1 := hce3 q (by omega)
          have s1 := hv_step l x p n q (by omega)
          have s2 := hv_one l p n q (by omega)
          have l1 := hv_lt l x p n (q + 1) (by omega)
          have l2 := hv_lt l 1 p n (q + 1) (by omega)
          have l3 : lb l q < p := lb_lt_of (by omega) HL2.out _
          have hqi : (((q + 1 : Nat) : Int) - 1) = (q : Int) := by omega
          rw [hqi]
          generalize hv l x p n (q + 1) = V1 at *
          generalize hv l 1 p n (q + 1) = V2 at *
          generalize lb l q = x0 at *
          obtain ⟨z, hz⟩ : ∃ z, V1 * x = z := ⟨_, rfl⟩
          have hzi : (V1 : Int) * (x : Int) = (z : Int) := by rw [← hz, Int.natCast_mul]
          have hz64 : z < 1152921504606846976 := by rw [← hz]; exact Nat.lt_of_lt_of_le (Nat.mul_lt_mul'' l1 hxp) (Nat.le_trans (Nat.mul_le_mul (Nat.le_of_lt p1) (Nat.le_of_lt p1)) (by decide))
          have y1 : ((z : Int) + (x0 : Int)) % (p : Int) = (hv l x p n q : Int) := by rw [s1, hz, Int.natCast_emod, Int.natCast_add]
          have y2 : ((V2 : Int) + (x0 : Int)) % (p : Int) = (hv l 1 p n q : Int) := by rw [s2, Int.natCast_emod, Int.natCast_add]
          obtain ⟨W1, hW1⟩ : ∃ W1, hv l x p n q = W1 := ⟨_, rfl⟩
          obtain ⟨W2, hW2⟩ : ∃ W2, hv l 1 p n q = W2 := ⟨_, rfl⟩
          rw [hW1] at y1
          rw [hW2] at y2
          have HW1 := Lib.hid hW1
          have HW2 := Lib.hid hW2
          clear hW1 hW2
          clear hce2 hce3 hce1 s1 s2 hz hqi
          go_wp2
          go_round
          case rel => exact ⟨q, by omega, rfl, by rw [HW1.out, y1], by rw [HW2.out, y2]⟩
          case measure => simp [intOf]
end Go.Proofs.YtofhpfmgopmcmaaDoor
