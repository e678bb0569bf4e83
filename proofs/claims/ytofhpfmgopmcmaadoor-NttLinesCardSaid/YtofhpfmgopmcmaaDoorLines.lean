/- Proved: the statement NttLines: whatever numbers: the transform of numbers, each times one, and others added, is their transforms, times it, and added. No condition. -/
import Derived.Test.YtofhpfmgopmcmaaDoorL4
import Derived.Deep.AppendLies
namespace Go.Proofs.YtofhpfmgopmcmaaDoor
open Go.RowKit
set_option linter.unusedVariables false
set_option maxHeartbeats 400000
attribute [local go_sem ↓] app_shut
attribute [local go_sem] run_append_tok

/-- The first j numbers, each times one, and others added. -/
structure BothI (p b : Nat) (l m : List Nat) (j : Nat) (o : List Nat) : Prop where
  len : o.length = j
  lt : ∀ x ∈ o, x < p
  at_ : ∀ q, q < j → lb o q = (lb l q * b + lb m q) % p
theorem BothI.start (p b : Nat) (l m : List Nat) : BothI p b l m 0 [] := ⟨rfl, by simp, fun q hq => by omega⟩
theorem BothI.step {p b : Nat} {l m : List Nat} {j : Nat} {o : List Nat} (H : BothI p b l m j o) (hp : 0 < p) : BothI p b l m (j + 1) (o ++ [(lb l j * b + lb m j) % p]) := by
  refine ⟨by simp [H.len], snoc_lt H.lt (Nat.mod_lt _ hp), fun q hq => ?_⟩
  rw [lb_snoc, H.len]
  by_cases e : q = j
  · subst e; rw [if_pos rfl]
  · rw [if_neg e]; exact H.at_ q (by omega)

set_option maxRecDepth 100000 in
set_option maxHeartbeats 4000000 in
theorem NttLines_walk (w : World) (hg : Gl w) (I K : Int) (sl : Value) (bk : Bool) (xs : List Nat) (hI : (Lit.int .i64 I).wf = true) (hK : (Lit.int .i64 K).wf = true) (hu : U w sl xs) (vm : Value) (ms : List Nat) (hm : U w vm ms) (by_ : Nat) (hby : by_ < 4294967296) :
    Calls Tryd.prog 5 #[.agg #[.int .i64 I, .int .i64 K, sl, .bool bk], vm, .int .u32 (by_ : Nat)] w fun e w' => e = .returned (.bool true) ∧ Ext w w' := by
  obtain ⟨A, c, hsl, hc⟩ := hu.shape
  subst hsl
  obtain ⟨i, hi⟩ : ∃ i, ri I = i := ⟨_, rfl⟩
  obtain ⟨k, hk⟩ : ∃ k, rk K 9 = k := ⟨_, rfl⟩
  have hi3 : i < 3 := by rw [← hi]; exact ri_lt I
  have hk10 : k ≤ 9 := by rw [← hk]; exact rk_le K 9
  obtain ⟨n, hn⟩ : ∃ n, 2 ^ k = n := ⟨_, rfl⟩
  have hn0 : 0 < n := by rw [← hn]; exact Nat.two_pow_pos k
  have hn1 : n ≤ 512 := by rw [← hn]; exact Nat.pow_le_pow_right (n := 2) (by decide) hk10
  have p0 := (fd_fld i).good.p0
  have p1 := (fd_fld i).good.p1
  have HI := Lib.hid hi
  have HK := Lib.hid hk
  have HN := Lib.hid hn
  have hE0 := (Ext.refl w).alloc (.cells #[.int .i64 I, .int .i64 K, .slice A xs.length c, .bool bk] 24)
  have HX := Ax.new w I K A xs.length c bk
  have HB := hE0
  replace hu := hu.below hE0
  replace hg := hg.ext hE0
  replace hm := hm.below hE0
  clear hi hk hn hE0
  generalize xs.length = L at *
  go_enter Tryd.func5, Tryd.ntmps5
  go_wp2_with (fail)
  refine (head_calls _ hg).mono ?_
  rintro e w1 ⟨rfl, hB⟩
  replace HB := HB.below hB
  replace hg := hg.ext hB
  replace hm := hm.below hB
  replace hu := hu.below hB
  replace HX := HX.ext hB
  clear hB
  obtain ⟨b0, b1, b2, b3, b4⟩ := id HX
  go_wp2_with (fail)
  refine (row_B _ I K _ bk xs hI hK hu 9 (by decide) i k HI.out HK.out).mono ?_
  rintro e w2 ⟨u1, rfl, hu1, hB⟩
  replace HB := HB.below hB
  replace hg := hg.ext hB
  replace hm := hm.below hB
  replace HX := HX.ext hB
  clear hB b0 b1 b2 b3 b4 hu
  have HL1 := Lib.hid (rowv_len (fd i).p k xs)
  have HL2 := Lib.hid (rowv_lt (fd i).p k xs (by omega))
  generalize rowv (fd i).p k xs = l at *
  obtain ⟨ad1, c1, hv1, hcc1, hb1, hce1⟩ := hu1.opened (by rw [HL1.out, HN.out]) hn0
  subst hv1
  clear hce1
  obtain ⟨p, hpp⟩ : ∃ p, (fd i).p = p := ⟨_, rfl⟩
  have hP := Lib.hid (fun W => rprime_B W i hi3 p hpp)
  have HPP := Lib.hid hpp
  have hRR := Lib.hid (fun W hu => rrow_B W i k hi3 (by omega) vm ms hu)
  have HM1 := Lib.hid (rowv_len (fd i).p k ms)
  have HM2 := Lib.hid (rowv_lt (fd i).p k ms (by omega))
  have HTL := Lib.hid (fun m o ho j hj => tfl_lines i k bk l m o by_ ho j hj)
  generalize rowv (fd i).p k ms = m at *
  have hTA := Lib.hid (fun W hg hu => tA_B W hg i k hi3 (by omega) (.slice (some ad1) n c1) l HL1.out HL2.out hu bk)
  have HA1 := Lib.hid (tfl_len i k bk l)
  have HA2 := Lib.hid (tfl_lt i k bk l)
  have HC1 := Lib.hid (tfl_len i k bk m)
  have HC2 := Lib.hid (tfl_lt i k bk m)
  have HTL2 := Lib.hid (fun o ho j hj => HTL.out m o ho j hj)
  rw [hpp] at p0 p1 HL2 HM2 HA2 HC2 HTL2
  clear hpp HTL
  go_wp2_with (fail)
  refine (hP.out _).mono ?_
  rintro e w3 ⟨rfl, hB⟩
  replace HX := HX.ext hB
  replace HB := HB.below hB
  replace hg := hg.ext hB
  replace hm := hm.below hB
  replace hu1 := hu1.below hB
  clear hB hb1
  go_wp2_with (fail)
  refine (log_B _ n k HN.out.symm (by omega)).mono ?_
  rintro e w4 ⟨rfl, hB⟩
  replace HX := HX.ext hB
  replace HB := HB.below hB
  replace hg := hg.ext hB
  replace hm := hm.below hB
  replace hu1 := hu1.below hB
  clear hB
  go_wp2_with (fail)
  refine (hRR.out _ hm).mono ?_
  rintro e w5 ⟨u2, rfl, hu2, hB⟩
  replace HX := HX.ext hB
  replace HB := HB.below hB
  replace hg := hg.ext hB
  replace hu1 := hu1.below hB
  clear hB hm
  obtain ⟨ad2, c2, hv2, hcc2, hb2, hce2⟩ := hu2.opened (by rw [HM1.out, HN.out]) hn0
  subst hv2
  obtain ⟨ad9, c9, hv9, hcc9, hb1, hce1⟩ := hu1.opened (by rw [HL1.out, HN.out]) hn0
  injection hv9 with q1 q2 q3
  injection q1 with q1
  subst q1 q3
  clear q2
  have hTC := Lib.hid (fun W hg hu => tA_B W hg i k hi3 (by omega) (.slice (some ad2) n c2) m HM1.out (by rw [HPP.out]; exact HM2.out) hu bk)
  have hown0 : Own (w5.alloc (.cells #[] 27)) w5.heap.size (.slice (some ⟨w5.heap.size, 0, none⟩) 0 0) [] := World.ownsRow_lit w5 #[] 0 (Nat.le_refl _) (Nat.zero_le _) rfl
  have hB0 : Below w5.heap.size w5 (w5.alloc (.cells #[] 27)) := (Below.refl _ _).alloc (Nat.le_refl _) _
  go_wp2_with (fail)
  go_loopw [12, 13] (fun s t wr => ∃ (j : Nat) (o : List Nat), j ≤ n ∧ t = .int .i64 (j : Nat) ∧ Hid (BothI p by_ l m j o) ∧ Own wr w5.heap.size s o ∧ Below w5.heap.size w5 wr) (fun _ t _ => n - (intOf t).toNat)
  case atStart => exact ⟨0, [], Nat.zero_le _, rfl, BothI.start p by_ l m, hown0, hB0⟩
  case round =>
    clear hown0 hB0
    obtain ⟨j, o, hj, rfl, HO, hown, hB⟩ := hrel
    by_cases hlt : j < n
    · have hca := (hB.cell (p := ad1.add j) (by rw [addr_add_block]; exact hb1)).trans (hce1 j hlt)
      have hcb := (hB.cell (p := ad2.add j) (by rw [addr_add_block]; exact hb2)).trans (hce2 j hlt)
      have HST := Lib.hid (HO.out.step (by omega))
      have hx1 : lb l j < p := lb_lt_of (by omega) HL2.out _
      have hy1 : lb m j < p := lb_lt_of (by omega) HM2.out _
      have hol : o.length = j := HO.out.len
      generalize lb l j = x at *
      generalize lb m j = y at *
      obtain ⟨z, hz⟩ : ∃ z, x * by_ = z := ⟨_, rfl⟩
      have hzi : (x : Int) * (by_ : Int) = (z : Int) := by rw [← hz, Int.natCast_mul]
      have hz64 : z < 4611686018427387904 := by rw [← hz]; exact Nat.lt_of_le_of_lt (Nat.mul_le_mul (Nat.le_of_lt hx1) (Nat.le_of_lt hby)) (by omega)
      obtain ⟨v, hv⟩ : ∃ v, (z + y) % p = v := ⟨_, rfl⟩
      rw [hz, hv] at HST
      have hvp : v < p := by rw [← hv]; exact Nat.mod_lt _ (by omega)
      have hzw : IntKind.u64.wrap (z : Int) = (z : Int) := by rw [IntKind.wrap_u64]; omega
      have hsw : IntKind.u64.wrap ((z : Int) + (y : Int)) = (z : Int) + (y : Int) := by rw [IntKind.wrap_u64]; omega
      have hse : ((z : Int) + (y : Int)) % (p : Int) = (v : Int) := by rw [← hv, Int.natCast_emod, Int.natCast_add]
      have hst : ((z : Int) + (y : Int)).tmod (p : Int) = (v : Int) := by rw [Int.tmod_eq_emod_of_nonneg (by omega)]; exact hse
      have hvw : IntKind.u64.wrap (v : Int) = (v : Int) := by rw [IntKind.wrap_u64]; omega
      have hvw2 : IntKind.u32.wrap (v : Int) = (v : Int) := by rw [IntKind.wrap_u32]; omega
      have hxw : IntKind.u64.wrap (x : Int) = (x : Int) := by rw [IntKind.wrap_u64]; omega
      have hyw : IntKind.u64.wrap (y : Int) = (y : Int) := by rw [IntKind.wrap_u64]; omega
      have hbw : IntKind.u64.wrap (by_ : Int) = (by_ : Int) := by rw [IntKind.wrap_u64]; omega
      have hp0a : ¬ ((p : Int) = 0) := by omega
      have hp0b : ¬ (p = 0) := by omega
      have hpz : ((p : Int) == 0) = false := by rw [beq_eq_false_iff_ne]; omega
      have hj0 : (0 : Int) ≤ (j : Int) := by omega
      have hj1 : (j : Int) < (n : Int) := by omega
      obtain ⟨v', w', hrun, hown', hB'⟩ := push_own (w := wr.drew) (Nat.le_refl _) hB.drew hown.drew (v : Int) v rfl (by omega) (by omega)
      have hrun2 : (Builtin.append_ #[22, 22] 22 #[_, .slice (some ⟨wr.heap.size, 0, none⟩) 1 1]).run Tryd.prog ((wr.alloc (.cells #[.int .u32 (v : Int)] 27)).drew) = .ok v' w' := hrun
      obtain ⟨t1, t2, t3⟩ := app_tok hrun2
      clear hz hv hrun hrun2 hce1 hce2 HO hol
      go_wp2
      go_region
      go_wp2
      go_roundw
      case rel => exact ⟨j + 1, _, by omega, by go_num, HST, hown', hB'⟩
      case measure => simp [intOf]; omega
    · have hjn : j = n := by omega
      subst hjn
      clear hlt hj hce1 hce2
      have HO1 := Lib.hid HO.out.len
      have HO2 := Lib.hid HO.out.lt
      have HO3 := Lib.hid HO.out.at_
      have HT2 := Lib.hid (fun q hq => HTL2.out o (fun t ht => HO3.out t (by rw [← HN.out]; exact ht)) q hq)
      obtain ⟨g, c3, hv3⟩ := hown.shape (by rw [HO1.out]; exact hn0)
      rw [HO1.out] at hv3
      subst hv3
      have hu3 := hown.toU (fun y hy => Nat.lt_trans (HO2.out y hy) (by omega)) (by rw [HO1.out]; omega)
      have hTE := Lib.hid (fun W hg hu => tA_B W hg i k hi3 (by omega) (.slice (some ⟨g, 0, none⟩) j c3) o (by rw [HO1.out, HN.out]) (by rw [HPP.out]; exact HO2.out) hu bk)
      have HE1 := Lib.hid (tfl_len i k bk o)
      have HE2 := Lib.hid (tfl_lt i k bk o)
      rw [HPP.out] at HE2
      replace HB := HB.below hB
      replace hg := hg.ext hB
      replace HX := HX.ext hB
      replace hu1 := hu1.below hB
      replace hu2 := hu2.below hB
      generalize tfl i k bk l = a at *
      generalize tfl i k bk m = b at *
      generalize tfl i k bk o = d at *
      clear hB hown hb1 hb2 HO HTL2 
      obtain ⟨b0, b1, b2, b3, b4⟩ := id HX
      go_wp2_with (fail)
      refine (hTA.out _ hg hu1).mono ?_
      rintro e w6 ⟨u4, rfl, hu4, hB⟩
      replace HB := HB.below hB
      replace hg := hg.ext hB
      replace HX := HX.ext hB
      replace hu2 := hu2.below hB
      replace hu3 := hu3.below hB
      clear hB b0 b1 b2 b3 b4 hu1
      obtain ⟨ad4, c4, hv4, hcc4, hb4, hce4⟩ := hu4.opened (by rw [HA1.out, HN.out]) hn0
      subst hv4
      clear hce4 hb4
      obtain ⟨b0, b1, b2, b3, b4⟩ := id HX
      go_wp2_with (fail)
      refine (hTC.out _ hg hu2).mono ?_
      rintro e w7 ⟨u5, rfl, hu5, hB⟩
      replace HB := HB.below hB
      replace hg := hg.ext hB
      replace HX := HX.ext hB
      replace hu3 := hu3.below hB
      replace hu4 := hu4.below hB
      clear hB b0 b1 b2 b3 b4 hu2
      obtain ⟨ad5, c5, hv5, hcc5, hb5, hce5⟩ := hu5.opened (by rw [HC1.out, HN.out]) hn0
      subst hv5
      clear hce5 hb5
      obtain ⟨b0, b1, b2, b3, b4⟩ := id HX
      go_wp2_with (fail)
      refine (hTE.out _ hg hu3).mono ?_
      rintro e w8 ⟨u6, rfl, hu6, hB⟩
      replace HB := HB.below hB
      replace hu4 := hu4.below hB
      replace hu5 := hu5.below hB
      clear hB b0 b1 b2 b3 b4 hu3 hg HX
      obtain ⟨ad6, c6, hv6, hcc6, hb6, hce6⟩ := hu6.opened (by rw [HE1.out, HN.out]) hn0
      subst hv6
      obtain ⟨ad7, c7, hv7, hcc7, hb7, hce4⟩ := hu4.opened (by rw [HA1.out, HN.out]) hn0
      injection hv7 with q1 q2 q3
      injection q1 with q1
      subst q1 q3
      clear q2 hu4
      obtain ⟨ad8, c8, hv8, hcc8, hb8, hce5⟩ := hu5.opened (by rw [HC1.out, HN.out]) hn0
      injection hv8 with q1 q2 q3
      injection q1 with q1
      subst q1 q3
      clear q2 hu5 hu6
      have hnn : ((j : Int) != (j : Int)) = false := by simp
      have hpz : ((p : Int) == 0) = false := by rw [beq_eq_false_iff_ne]; omega
      have hp0a : ¬ ((p : Int) = 0) := by omega
      have hp0b : ¬ (p = 0) := by omega
      go_wp2
      go_loopw [20] (fun t wr => ∃ q : Nat, q ≤ j ∧ t = .int .i64 (q : Nat) ∧ ∃ m, wr = w8.drewN m) (fun t _ => j - (intOf t).toNat)
      case atStart => exact ⟨0, Nat.zero_le _, rfl, 0, rfl⟩
      case round =>
        obtain ⟨q, hq, rfl, m', rfl⟩ := hrel
        by_cases hlt : q < j
        · have hca := hce4 q hlt
          have hcb := hce5 q hlt
          have hcd := hce6 q hlt
          have ht := HT2.out q (by rw [HN.out]; exact hlt)
          have ha : lb a q < p := lb_lt_of (by omega) HA2.out _
          have hbp : lb b q < p := lb_lt_of (by omega) HC2.out _
          have hdp : lb d q < p := lb_lt_of (by omega) HE2.out _
          generalize lb a q = x at *
          generalize lb b q = y at *
          generalize lb d q = v at *
          rw [Nat.mod_eq_of_lt ha] at ht
          obtain ⟨r, hr⟩ : ∃ r, by_ % p = r := ⟨_, rfl⟩
          have hrp : r < p := by rw [← hr]; exact Nat.mod_lt _ (by omega)
          rw [hr] at ht
          obtain ⟨z, hz⟩ : ∃ z, x * r = z := ⟨_, rfl⟩
          rw [hz] at ht
          have hzi : (x : Int) * (r : Int) = (z : Int) := by rw [← hz, Int.natCast_mul]
          have hz64 : z < 4611686018427387904 := by rw [← hz]; exact Nat.lt_of_le_of_lt (Nat.mul_le_mul (Nat.le_of_lt ha) (Nat.le_of_lt hrp)) (by have := Nat.mul_le_mul (Nat.le_of_lt p1) (Nat.le_of_lt p1); omega)
          have hri : (by_ : Int) % (p : Int) = (r : Int) := by rw [← hr, Int.natCast_emod]
          have hrt : ((by_ : Int)).tmod (p : Int) = (r : Int) := by rw [Int.tmod_eq_emod_of_nonneg (by omega)]; exact hri
          have hxi : (x : Int) % (p : Int) = (x : Int) := Int.emod_eq_of_lt (by omega) (by omega)
          have hxt : ((x : Int)).tmod (p : Int) = (x : Int) := by rw [Int.tmod_eq_emod_of_nonneg (by omega)]; exact hxi
          have hzw : IntKind.u64.wrap (z : Int) = (z : Int) := by rw [IntKind.wrap_u64]; omega
          have hsw : IntKind.u64.wrap ((z : Int) + (y : Int)) = (z : Int) + (y : Int) := by rw [IntKind.wrap_u64]; omega
          have hse : ((z : Int) + (y : Int)) % (p : Int) = (v : Int) := by rw [ht, Int.natCast_emod, Int.natCast_add]
          have hst : ((z : Int) + (y : Int)).tmod (p : Int) = (v : Int) := by rw [Int.tmod_eq_emod_of_nonneg (by omega)]; exact hse
          have hvw : IntKind.u64.wrap (v : Int) = (v : Int) := by rw [IntKind.wrap_u64]; omega
          have hxw : IntKind.u64.wrap (x : Int) = (x : Int) := by rw [IntKind.wrap_u64]; omega
          have hyw : IntKind.u64.wrap (y : Int) = (y : Int) := by rw [IntKind.wrap_u64]; omega
          have hrw : IntKind.u64.wrap (r : Int) = (r : Int) := by rw [IntKind.wrap_u64]; omega
          have hbw : IntKind.u64.wrap (by_ : Int) = (by_ : Int) := by rw [IntKind.wrap_u64]; omega
          have hvv : ((v : Int) != (v : Int)) = false := by simp
          have hj0 : (0 : Int) ≤ (q : Int) := by omega
          have hj1 : (q : Int) < (j : Int) := by omega
          clear ht hz hr hce4 hce5 hce6
          go_wp2
          go_region
          go_wp2
          go_roundw
          case rel => exact ⟨q + 1, by omega, by go_num, m' + 1, rfl⟩
          case measure => simp [intOf]; omega
        · have hE5 : Ext w8 (w8.drewN m') := ext_drewN w8 m'
          replace HB := HB.below hE5
          clear hce4 hce5 hce6 hE5
          go_wp2
          go_ret
          exact ⟨rfl, HB⟩
end Go.Proofs.YtofhpfmgopmcmaaDoor
