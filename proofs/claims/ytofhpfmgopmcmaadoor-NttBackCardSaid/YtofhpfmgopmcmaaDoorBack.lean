/- Proved: the statement NttBack: whatever numbers: there and back, and back and there, they are as they were; each is below the prime between. No condition. -/
import Derived.Test.YtofhpfmgopmcmaaDoorL4
namespace Go.Proofs.YtofhpfmgopmcmaaDoor
open Go.RowKit
set_option linter.unusedVariables false
set_option maxHeartbeats 400000

set_option maxRecDepth 100000 in
set_option maxHeartbeats 4000000 in
theorem NttBack_walk (w : World) (hg : Gl w) (I K : Int) (sl : Value) (bk : Bool) (xs : List Nat) (hI : (Lit.int .i64 I).wf = true) (hK : (Lit.int .i64 K).wf = true) (hu : U w sl xs) :
    Calls Tryd.prog 4 #[.agg #[.int .i64 I, .int .i64 K, sl, .bool bk]] w fun e w' => e = .returned (.bool true) ∧ Ext w w' := by
  obtain ⟨A, c, hsl, hc⟩ := hu.shape
  subst hsl
  obtain ⟨i, hi⟩ : ∃ i, ri I = i := ⟨_, rfl⟩
  obtain ⟨k, hk⟩ : ∃ k, rk K 10 = k := ⟨_, rfl⟩
  have hi3 : i < 3 := by rw [← hi]; exact ri_lt I
  have hk10 : k ≤ 10 := by rw [← hk]; exact rk_le K 10
  obtain ⟨n, hn⟩ : ∃ n, 2 ^ k = n := ⟨_, rfl⟩
  have hn0 : 0 < n := by rw [← hn]; exact Nat.two_pow_pos k
  have hn1 : n ≤ 1024 := by rw [← hn]; exact Nat.pow_le_pow_right (n := 2) (by decide) hk10
  have p0 := (fd_fld i).good.p0
  have p1 := (fd_fld i).good.p1
  have HI := Lib.hid hi
  have HK := Lib.hid hk
  have HN := Lib.hid hn
  have hE0 := (Ext.refl w).alloc (.cells #[.int .i64 I, .int .i64 K, .slice A xs.length c, .bool bk] 24)
  have HX := Ax.new w I K A xs.length c bk
  have HB := hE0
  replace hu := hu.below hE0
  replace hg := hg.ext hE0
  clear hi hk hn hE0
  generalize xs.length = L at *
  go_enter Tryd.func4, Tryd.ntmps4
  go_wp2_with (fail)
  refine (head_calls _ hg).mono ?_
  rintro e w1 ⟨rfl, hB⟩
  replace HB := HB.below hB
  replace hg := hg.ext hB
  replace hu := hu.below hB
  replace HX := HX.ext hB
  clear hB
  obtain ⟨b0, b1, b2, b3, b4⟩ := id HX
  go_wp2_with (fail)
  refine (row_B _ I K _ bk xs hI hK hu 10 (by decide) i k HI.out HK.out).mono ?_
  rintro e w2 ⟨u1, rfl, hu1, hB⟩
  replace HB := HB.below hB
  replace hg := hg.ext hB
  replace HX := HX.ext hB
  clear hB b0 b1 b2 b3 b4 hu
  have HL1 := Lib.hid (rowv_len (fd i).p k xs)
  have HL2 := Lib.hid (rowv_lt (fd i).p k xs (by omega))
  generalize rowv (fd i).p k xs = l at *
  obtain ⟨ad1, c1, hv1, hcc1, hb1, hce1⟩ := hu1.opened (by rw [HL1.out, HN.out]) hn0
  subst hv1
  clear hce1
  obtain ⟨b0, b1, b2, b3, b4⟩ := id HX
  go_wp2_with (fail)
  refine (tA_B _ hg i k hi3 (by omega) _ l HL1.out HL2.out hu1 bk).mono ?_
  rintro e w3 ⟨u2, rfl, hu2, hB⟩
  replace HB := HB.below hB
  replace hg := hg.ext hB
  replace HX := HX.ext hB
  replace hu1 := hu1.below hB
  clear hB b0 b1 b2 b3 b4 hb1
  have HA1 := Lib.hid (tfl_len i k bk l)
  have HA2 := Lib.hid (tfl_lt i k bk l)
  have HBK := Lib.hid (tfl_back i k bk l (by omega) HL1.out HL2.out)
  generalize tfl i k bk l = a at *
  obtain ⟨ad2, c2, hv2, hcc2, hb2, hce2⟩ := hu2.opened (by rw [HA1.out, HN.out]) hn0
  subst hv2
  clear hce2 hb2
  obtain ⟨b0, b1, b2, b3, b4⟩ := id HX
  go_wp2_with (fail)
  refine (tA_B _ hg i k hi3 (by omega) _ a HA1.out HA2.out hu2 (!bk)).mono ?_
  rintro e w4 ⟨u3, rfl, hu3, hB⟩
  rw [HBK.out] at hu3
  replace HB := HB.below hB
  replace hu1 := hu1.below hB
  replace hu2 := hu2.below hB
  clear hB b0 b1 b2 b3 b4 HX hg
  obtain ⟨ad3, c3, hv3, hcc3, hb3, hce3⟩ := hu3.opened (by rw [HL1.out, HN.out]) hn0
  subst hv3
  clear hce3 hb3
  obtain ⟨ad4, c4, hv4, hcc4, hb4, hce4⟩ := hu2.opened (by rw [HA1.out, HN.out]) hn0
  injection hv4 with q1 q2 q3
  injection q1 with q1
  subst q1 q3
  have hnn : ((n : Int) != (n : Int)) = false := by simp
  have hSame := Lib.hid (fun W (h1 : U W (.slice (some ad3) n c3) l) (h2 : U W (.slice (some ad1) n c1) l) => same_B W _ _ l l h1 h2 true (decide_eq_true rfl))
  clear q2
  go_wp2
  go_loopw [10] (fun t wr => ∃ j : Nat, j ≤ n ∧ t = .int .i64 (j : Nat) ∧ ∃ m, wr = w4.drewN m) (fun t _ => n - (intOf t).toNat)
  case atStart => exact ⟨0, Nat.zero_le _, rfl, 0, rfl⟩
  case round =>
    obtain ⟨j, hj, rfl, m, rfl⟩ := hrel
    by_cases hlt : j < n
    · have hc1 := hce4 j hlt
      have hx1 : lb a j < (fd i).p := lb_lt_of (by omega) HA2.out _
      generalize lb a j = x at *
      have hP := Lib.hid (fun W => rprime_calls W i hi3)
      generalize (fd i).p = p at *
      have hd : decide ((p : Int) ≤ (x : Int)) = false := by rw [decide_eq_false_iff_not]; omega
      have hj0 : (0 : Int) ≤ (j : Int) := by omega
      have hj1 : (j : Int) < (n : Int) := by omega
      clear hce4
      go_wp2
      have hcD : ((w4.drewN m).drew).cell? (ad2.add j) = some (.int .u32 (x : Nat)) := hc1
      go_region_held3 (fun X => X.cell? (ad2.add j) = some (.int .u32 (x : Nat)))
        (first
          | exact hcD
          | assumption)
        (first
          | (go_at_call 15; ((with_reducible refine (hP.out _).mono ?_); rintro e w' ⟨rfl, rfl⟩)))
      go_wp2
      go_roundw
      case rel => exact ⟨j + 1, by omega, by go_num, m + 1, rfl⟩
      case measure => simp [intOf]; omega
    · have hE5 : Ext w4 (w4.drewN m) := ext_drewN w4 m
      replace HB := HB.below hE5
      replace hu1 := hu1.below hE5
      replace hu3 := hu3.below hE5
      clear hce4 hE5
      go_wp2_with (fail)
      refine (hSame.out _ hu3 hu1).mono ?_
      rintro e w5 ⟨rfl, hB⟩
      replace HB := HB.below hB
      clear hB
      go_wp2
      go_ret
      exact ⟨rfl, HB⟩
end Go.Proofs.YtofhpfmgopmcmaaDoor
