/- Proved: the statement NttTurn: whatever numbers: turned by one place, their transform is theirs, the j-th number times the j-th power of the root. No condition. -/
import Derived.Test.YtofhpfmgopmcmaaDoorL4
namespace Go.Proofs.YtofhpfmgopmcmaaDoor
open Go.RowKit
set_option linter.unusedVariables false
set_option maxHeartbeats 400000
attribute [local go_sem ↓] app_shut
attribute [local go_sem] run_append_tok

theorem turn_len (l : List Nat) (n : Nat) (hl : l.length = n) (h0 : 0 < n) : ([lb l (n - 1)] ++ l.take (n - 1)).length = n := by simp; omega
theorem turn_zero (l : List Nat) (n : Nat) : lb ([lb l (n - 1)] ++ l.take (n - 1)) 0 = lb l (n - 1) := rfl
theorem turn_succ (l : List Nat) (n j : Nat) (hj : j + 1 < n) : lb ([lb l (n - 1)] ++ l.take (n - 1)) (j + 1) = lb l j := by
  rw [lb_append, if_neg (by simp), List.length_singleton, Nat.add_sub_cancel, lb_take (by omega)]
theorem turn_lt (l : List Nat) (n p : Nat) (hp : 0 < p) (hl : ∀ x ∈ l, x < p) : ∀ x ∈ [lb l (n - 1)] ++ l.take (n - 1), x < p := by
  intro x hx
  rcases List.mem_append.1 hx with h | h
  · obtain rfl := List.mem_singleton.1 h; exact lb_lt_of hp hl _
  · exact hl x (List.mem_of_mem_take h)

set_option maxRecDepth 100000 in
set_option maxHeartbeats 4000000 in
theorem NttTurn_walk (w : World) (hg : Gl w) (I K : Int) (sl : Value) (bk : Bool) (xs : List Nat) (hI : (Lit.int .i64 I).wf = true) (hK : (Lit.int .i64 K).wf = true) (hu : U w sl xs) :
    Calls Tryd.prog 6 #[.agg #[.int .i64 I, .int .i64 K, sl, .bool bk]] w fun e w' => e = .returned (.bool true) ∧ Ext w w' := by
  obtain ⟨A, c, hsl, hc⟩ := hu.shape
  subst hsl
  obtain ⟨i, hi⟩ : ∃ i, ri I = i := ⟨_, rfl⟩
  obtain ⟨k, hk⟩ : ∃ k, rk K 9 = k := ⟨_, rfl⟩
  have hi3 : i < 3 := by rw [← hi]; exact ri_lt I
  have hk10 : k ≤ 9 := by rw [← hk]; exact rk_le K 9
  obtain ⟨n, hn⟩ : ∃ n, 2 ^ k = n := ⟨_, rfl⟩
  have hn0 : 0 < n := by rw [← hn]; exact Nat.two_pow_pos k
  have hn1 : n ≤ 512 := by rw [← hn]; exact Nat.pow_le_pow_right (n := 2) (by decide) hk10
  have p0 := (fd_fld i).good.p0
  have p1 := (fd_fld i).good.p1
  have HI := Lib.hid hi
  have HK := Lib.hid hk
  have HN := Lib.hid hn
  have hE0 := (Ext.refl w).alloc (.cells #[.int .i64 I, .int .i64 K, .slice A xs.length c, .bool bk] 24)
  have HX := Ax.new w I K A xs.length c bk
  have HB := hE0
  replace hu := hu.below hE0
  replace hg := hg.ext hE0
  clear hi hk hn hE0
  generalize xs.length = L at *
  go_enter Tryd.func6, Tryd.ntmps6
  go_wp2_with (fail)
  refine (head_calls _ hg).mono ?_
  rintro e w1 ⟨rfl, hB⟩
  replace HB := HB.below hB
  replace hg := hg.ext hB
  replace hu := hu.below hB
  replace HX := HX.ext hB
  clear hB
  obtain ⟨b0, b1, b2, b3, b4⟩ := id HX
  go_wp2_with (fail)
  refine (row_B _ I K _ bk xs hI hK hu 9 (by decide) i k HI.out HK.out).mono ?_
  rintro e w2 ⟨u1, rfl, hu1, hB⟩
  replace HB := HB.below hB
  replace hg := hg.ext hB
  clear hB b0 b1 b2 b3 b4 hu HX
  have HL1 := Lib.hid (rowv_len (fd i).p k xs)
  have HL2 := Lib.hid (rowv_lt (fd i).p k xs (by omega))
  generalize rowv (fd i).p k xs = l at *
  obtain ⟨ad1, c1, hv1, hcc1, hb1, hce1⟩ := hu1.opened (by rw [HL1.out, HN.out]) hn0
  subst hv1
  have hn1i : (n : Int) - 1 = ((n - 1 : Nat) : Int) := by omega
  have hcl := hce1 (n - 1) (by omega)
  have hTL := Lib.hid (turn_len l n (by rw [HL1.out, HN.out]) hn0)
  have hTZ := Lib.hid (turn_zero l n)
  have hTS := Lib.hid (fun j => turn_succ l n j)
  have hTP := Lib.hid (turn_lt l n (fd i).p (by omega) HL2.out)
  have hx1 : lb l (n - 1) < (fd i).p := lb_lt_of (by omega) HL2.out _
  have hown0 : Own (w2.alloc (.cells #[] 27)) w2.heap.size (.slice (some ⟨w2.heap.size, 0, none⟩) 0 0) [] := World.ownsRow_lit w2 #[] 0 (Nat.le_refl _) (Nat.zero_le _) rfl
  have hB0 : Below w2.heap.size w2 (w2.alloc (.cells #[] 27)) := (Below.refl _ _).alloc (Nat.le_refl _) _
  obtain ⟨x, hxx⟩ : ∃ x, lb l (n - 1) = x := ⟨_, rfl⟩
  obtain ⟨m, hmm⟩ : ∃ m, [lb l (n - 1)] ++ l.take (n - 1) = m := ⟨_, rfl⟩
  obtain ⟨n1, hn1n⟩ : ∃ n1, n - 1 = n1 := ⟨_, rfl⟩
  rw [hmm] at hTL hTP
  obtain ⟨v', w3, hrun, hown3, hB3⟩ := push_own (Nat.le_refl _) hB0 hown0 (x : Int) x rfl (by omega) (by simp)
  rw [show (w2.alloc (.cells #[] 27)).heap.size = w2.heap.size + 1 by simp] at hrun
  obtain ⟨t1, t2, t3⟩ := app_tok hrun
  have hu3 := hu1.below hB3
  obtain ⟨v'', w4, hrun2, hown4, hg4⟩ := run_append_U w3 w2.heap.size v' _ hown3 (.slice (some ad1) n1 c1) (l.take n1) (hu3.take (by omega) (by omega)) (by simp; omega) hB3.size
  obtain ⟨s1, s2, s3⟩ := app_tok hrun2
  have hB4 : Below w2.heap.size w2 w4 := hB3.grown hg4 hB3.size (fun j e => (World.ownsRow.lt hown3 j e).1)
  have hm2 : [] ++ [x] ++ l.take n1 = m := by rw [← hmm, hxx, hn1n]; rfl
  rw [hm2] at hown4
  rw [hxx, hn1n] at hcl
  rw [hn1n] at hn1i
  have HMM := Lib.hid hmm
  have HN1 := Lib.hid hn1n
  have hcl0 : (w2.alloc (.cells #[] 27)).cell? (ad1.add n1) = some (.int .u32 (x : Nat)) := (hB0.cell (p := ad1.add n1) (by rw [addr_add_block]; exact hb1)).trans hcl
  obtain ⟨g, c4, hv''⟩ := hown4.shape (by rw [hTL.out]; exact hn0)
  rw [hTL.out] at hv''
  subst hv''
  replace HB := HB.below hB4
  replace hg := hg.ext hB4
  replace hu1 := hu1.below hB4
  have hu5 := hown4.toU (fun y hy => Nat.lt_trans (hTP.out y hy) (by omega)) (by rw [hTL.out]; omega)
  clear hce1 hm2 hmm hxx hn1n hrun hrun2 hown3 hown4 hg4 hB3 hB4 hB0 hown0 hu3 hb1
  obtain ⟨r, hr⟩ : ∃ r, rt (fd i) k % (fd i).p = r := ⟨_, rfl⟩
  have hrp : r < (fd i).p := by rw [← hr]; exact Nat.mod_lt _ (by omega)
  have hR := Lib.hid (fun W hg => root_B W hg i k hi3 (by omega) r hr)
  have HTT := Lib.hid (fun j hj => tfl_turn i k l m (by omega) (by rw [HN.out, HN1.out, ← HMM.out, hTZ.out, HN1.out]) (fun q hq => by rw [← HMM.out]; exact hTS.out q (by rw [← HN.out]; exact hq)) r hr j hj)
  have hTA := Lib.hid (fun W hg hu => tA_B W hg i k hi3 (by omega) (.slice (some ad1) n c1) l HL1.out HL2.out hu false)
  have hTC := Lib.hid (fun W hg hu => tA_B W hg i k hi3 (by omega) (.slice (some ⟨g, 0, none⟩) n c4) m (by rw [hTL.out, HN.out]) hTP.out hu false)
  have HA1 := Lib.hid (tfl_len i k false l)
  have HA2 := Lib.hid (tfl_lt i k false l)
  have HC1 := Lib.hid (tfl_len i k false m)
  have HC2 := Lib.hid (tfl_lt i k false m)
  obtain ⟨p, hpp⟩ : ∃ p, (fd i).p = p := ⟨_, rfl⟩
  have hP := Lib.hid (fun W => rprime_B W i hi3 p hpp)
  rw [hpp] at HTT hrp HA2 HC2 p0 p1
  generalize tfl i k false l = a at *
  generalize tfl i k false m = b at *
  clear hr hpp hTZ hTS hTP hTL HMM hx1
  go_wp2_with (fail)
  refine (hP.out _).mono ?_
  rintro e w5 ⟨rfl, hB⟩
  replace HB := HB.below hB
  replace hg := hg.ext hB
  replace hu1 := hu1.below hB
  replace hu5 := hu5.below hB
  clear hB t1 t2 t3 s1 s2 s3 hcl hcl0
  go_wp2_with (fail)
  refine (log_B _ n k HN.out.symm (by omega)).mono ?_
  rintro e w6 ⟨rfl, hB⟩
  replace HB := HB.below hB
  replace hg := hg.ext hB
  replace hu1 := hu1.below hB
  replace hu5 := hu5.below hB
  clear hB
  go_wp2_with (fail)
  refine (hR.out _ hg).mono ?_
  rintro e w7 ⟨rfl, hB⟩
  replace HB := HB.below hB
  replace hg := hg.ext hB
  replace hu1 := hu1.below hB
  replace hu5 := hu5.below hB
  clear hB
  go_wp2_with (fail)
  refine (hTA.out _ hg hu1).mono ?_
  rintro e w8 ⟨u2, rfl, hu2, hB⟩
  replace HB := HB.below hB
  replace hg := hg.ext hB
  replace hu1 := hu1.below hB
  replace hu5 := hu5.below hB
  clear hB
  obtain ⟨ad2, c2, hv2, hcc2, hb2, hce2⟩ := hu2.opened (by rw [HA1.out, HN.out]) hn0
  subst hv2
  clear hce2 hb2
  go_wp2_with (fail)
  refine (hTC.out _ hg hu5).mono ?_
  rintro e w9 ⟨u3, rfl, hu6, hB⟩
  replace HB := HB.below hB
  replace hu2 := hu2.below hB
  clear hB hg hu1 hu5
  obtain ⟨ad3, c3, hv3, hcc3, hb3, hce3⟩ := hu6.opened (by rw [HC1.out, HN.out]) hn0
  subst hv3
  obtain ⟨ad4, c5, hv4, hcc4, hb4, hce2⟩ := hu2.opened (by rw [HA1.out, HN.out]) hn0
  injection hv4 with q1 q2 q3
  injection q1 with q1
  subst q1 q3
  clear q2 hu2 hu6
  have hnn : ((n : Int) != (n : Int)) = false := by simp
  have hpz : ((p : Int) == 0) = false := by rw [beq_eq_false_iff_ne]; omega
  have hp0a : ¬ ((p : Int) = 0) := by omega
  have hp0b : ¬ (p = 0) := by omega
  go_wp2
  go_loopw [9, 14] (fun y t wr => ∃ j : Nat, j ≤ n ∧ t = .int .i64 (j : Nat) ∧ y = .int .u64 (r ^ j % p : Nat) ∧ ∃ m, wr = w9.drewN m) (fun _ t _ => n - (intOf t).toNat)
  case atStart => exact ⟨0, Nat.zero_le _, rfl, by rw [Nat.pow_zero, Nat.mod_eq_of_lt (by omega)]; rfl, 0, rfl⟩
  case round =>
    obtain ⟨j, hj, rfl, rfl, m', rfl⟩ := hrel
    by_cases hlt : j < n
    · have hca := hce2 j hlt
      have hcb := hce3 j hlt
      have ht := HTT.out j (by rw [HN.out]; exact hlt)
      have ha : lb a j < p := lb_lt_of (by omega) HA2.out _
      obtain ⟨x1, hx⟩ : ∃ x1, r ^ j % p = x1 := ⟨_, rfl⟩
      have hxp : x1 < p := by rw [← hx]; exact Nat.mod_lt _ (by omega)
      have hbp : lb b j < p := lb_lt_of (by omega) HC2.out _
      rw [hx] at ht ⊢
      generalize lb a j = a1 at *
      generalize lb b j = b1 at *
      obtain ⟨z, hz⟩ : ∃ z, a1 * x1 = z := ⟨_, rfl⟩
      have hzi : (a1 : Int) * (x1 : Int) = (z : Int) := by rw [← hz, Int.natCast_mul]
      have hz64 : z < 18446744073709551616 := by rw [← hz]; exact Nat.lt_of_le_of_lt (Nat.mul_le_mul (Nat.le_of_lt ha) (Nat.le_of_lt hxp)) (by have := Nat.mul_le_mul (Nat.le_of_lt p1) (Nat.le_of_lt p1); omega)
      have hzw : IntKind.u64.wrap (z : Int) = (z : Int) := by rw [IntKind.wrap_u64]; omega
      have hzm : (z : Int) % (p : Int) = (b1 : Int) := by rw [ht, hz, Int.natCast_emod]
      have hzt : ((z : Int)).tmod (p : Int) = (b1 : Int) := by rw [Int.tmod_eq_emod_of_nonneg (by omega)]; exact hzm
      have hbw : IntKind.u64.wrap (b1 : Int) = (b1 : Int) := by rw [IntKind.wrap_u64]; omega
      have haw : IntKind.u64.wrap (a1 : Int) = (a1 : Int) := by rw [IntKind.wrap_u64]; omega
      have hbb : ((b1 : Int) != (b1 : Int)) = false := by simp
      obtain ⟨z2, hz2⟩ : ∃ z2, x1 * r = z2 := ⟨_, rfl⟩
      have hz2i : (x1 : Int) * (r : Int) = (z2 : Int) := by rw [← hz2, Int.natCast_mul]
      have hz264 : z2 < 18446744073709551616 := by rw [← hz2]; exact Nat.lt_of_le_of_lt (Nat.mul_le_mul (Nat.le_of_lt hxp) (Nat.le_of_lt hrp)) (by have := Nat.mul_le_mul (Nat.le_of_lt p1) (Nat.le_of_lt p1); omega)
      have HX2 : Hid (r ^ (j + 1) % p = z2 % p) := by rw [Hid, ← hz2, ← hx, Nat.pow_succ, mul_mod2]
      obtain ⟨y2, hy2⟩ : ∃ y2, z2 % p = y2 := ⟨_, rfl⟩
      have hyi : (z2 : Int) % (p : Int) = (y2 : Int) := by rw [← hy2, Int.natCast_emod]
      have HY := Lib.hid hy2
      have hj0 : (0 : Int) ≤ (j : Int) := by omega
      have hj1 : (j : Int) < (n : Int) := by omega
      clear hx ht hz hz2 hy2 hce2 hce3
      go_wp2
      go_region
      go_wp2
      go_roundw
      case rel => exact ⟨j + 1, by omega, by go_num, by rw [HX2.out, HY.out, hyi], m' + 1, rfl⟩
      case measure => simp [intOf]; omega
    · have hE5 : Ext w9 (w9.drewN m') := ext_drewN w9 m'
      replace HB := HB.below hE5
      clear hce2 hce3 hE5
      go_wp2
      go_ret
      exact ⟨rfl, HB⟩
end Go.Proofs.YtofhpfmgopmcmaaDoor
