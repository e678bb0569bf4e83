/- The document's sums of products, of rows that are not empty. -/
import Derived.Test.YtofhpfmgopmcmaaDoorP3
import Derived.Deep.RegionHeld3
namespace Go.Proofs.YtofhpfmgopmcmaaDoor
open Go.RowKit
set_option linter.unusedVariables false
set_option maxHeartbeats 400000

set_option maxRecDepth 100000 in
set_option maxHeartbeats 4000000 in
theorem rconv_pos (w : World) (v u : Value) (a b : List Nat) (h : U w v a) (g : U w u b) (ha0 : 0 < a.length) (hb0 : 0 < b.length) (hal : a.length ≤ 1000000) (hbl : b.length ≤ 1000000) :
    Calls Tryd.prog 20 #[v, u] w fun e w' => (∃ gg, e = .returned (.slice (some ⟨gg, 0, none⟩) (conv a b).length (conv a b).length) ∧ Own3 w' w.heap.size (.slice (some ⟨gg, 0, none⟩) (conv a b).length (conv a b).length) (conv a b)) ∧ Ext w w' := by
  obtain ⟨A, c, rfl, ⟨hc, hm⟩, hx, hr⟩ := id h
  obtain ⟨A2, c2, rfl, ⟨hc2, hm2⟩, hx2, hr2⟩ := id g
  obtain ⟨ad, rfl, hb, hcell⟩ := hr ha0
  obtain ⟨ad2, rfl, hb2, hcell2⟩ := hr2 hb0
  clear hr hr2
  have hcl := conv_len a b
  have HCV := Lib.hid (fun m => lb_conv a b m)
  obtain ⟨i0, hi, hz0, hz1, hz2⟩ := info_parts info3
  obtain ⟨na, hna⟩ : ∃ na, a.length = na := ⟨_, rfl⟩
  obtain ⟨nb, hnb⟩ : ∃ nb, b.length = nb := ⟨_, rfl⟩
  rw [hna, hnb] at hcl
  rw [hna] at hc hm hcell ha0 hal ⊢
  rw [hnb] at hc2 hm2 hcell2 hb0 hbl ⊢
  obtain ⟨n, hn⟩ : ∃ n, na + nb - 1 = n := ⟨_, rfl⟩
  have hnn : (na : Int) + (nb : Int) - 1 = (n : Int) := by omega
  have hz : (((na : Nat) : Int) == 0) = false := by rw [beq_eq_false_iff_ne]; omega
  have hz' : (((nb : Nat) : Int) == 0) = false := by rw [beq_eq_false_iff_ne]; omega
  rw [hn] at hcl
  have HCL := Lib.hid hcl
  have HNA := Lib.hid hna
  have HNB := Lib.hid hnb
  have HN := Lib.hid hn
  clear hcl hna hnb h g
  go_enter Tryd.func20, Tryd.ntmps20
  go_wp2_with (at_make; refine wpList_make_full _ rfl _ _ 31 rfl (w.heap.size) 52 i0 (.agg #[.int .u32 0, .int .u32 0, .int .u32 0]) 3 Tryd.underlying31 hi hz0 hz1 _ _ _ _ n rfl rfl (by omega) (by omega) (by rw [hz2]; omega) (by unfold maxLen; omega) (Nat.le_refl _) ?_; intro w1 hown hgrow)
  have ho0 : Own3 w1 w.heap.size (.slice (some ⟨w.heap.size, 0, none⟩) n n) (List.replicate n 0) := by
    have := hown
    rw [madeCells3] at this
    unfold Own3
    rw [List.length_replicate]
    exact this
  have hB0 : Ext w w1 := (Ext.refl w).grown hgrow (Nat.le_refl _) (fun _ h => by cases h)
  clear hown hgrow hi hz0 hz1 hz2 i0
  obtain ⟨B, hB⟩ : ∃ B, w.heap.size = B := ⟨_, rfl⟩
  have HBB := Lib.hid hB
  rw [hB] at hb hb2 ho0 ⊢
  clear hB
  go_loopw [6] (fun t wr => ∃ (i : Nat) (o : List Nat), i ≤ na ∧ t = .int .i64 (i : Nat) ∧ Hid (o.length = n ∧ ∀ m, m < n → lb o m = cv a b i m) ∧ Own3 wr B (.slice (some ⟨B, 0, none⟩) n n) o ∧ Ext w wr) (fun t _ => na - (intOf t).toNat)
  case atStart => exact ⟨0, _, Nat.zero_le _, rfl, ⟨by simp, fun m hm => by rw [lb_zeros]; rfl⟩, ho0, hB0⟩
  case round =>
    clear ho0 hB0
    obtain ⟨i, o, hi, rfl, HO, hown, hE⟩ := hrel
    by_cases hlt : i < na
    · have hc1 := (hE.cell (p := ad.add i) (by rw [addr_add_block]; have := HBB.out; omega)).trans (hcell i hlt)
      have hx1 := lb_lt hx i
      obtain ⟨x, hxx⟩ : ∃ x, lb a i = x := ⟨_, rfl⟩
      rw [hxx] at hc1 hx1
      have HXX := Lib.hid hxx
      clear hxx
      go_wp2
      go_loopw [7] (fun t wr => ∃ (j : Nat) (o : List Nat), j ≤ nb ∧ t = .int .i64 (j : Nat) ∧ Hid (o.length = n ∧ ∀ m, m < n → lb o m = cvp a b i j m) ∧ Own3 wr B (.slice (some ⟨B, 0, none⟩) n n) o ∧ Ext w wr) (fun t _ => nb - (intOf t).toNat)
      case atStart => exact ⟨0, o, Nat.zero_le _, rfl, ⟨HO.out.1, fun m hm => by rw [HO.out.2 m hm, cvp_zero]⟩, hown, hE⟩
      case round =>
        clear hown hE HO hc1
        obtain ⟨j, o, hj, rfl, HO, hown, hE⟩ := hrel
        by_cases hjt : j < nb
        · have hc1 := (hE.cell (p := ad.add i) (by rw [addr_add_block]; have := HBB.out; omega)).trans (hcell i hlt)
          rw [HXX.out] at hc1
          have hc2 := (hE.cell (p := ad2.add j) (by rw [addr_add_block]; have := HBB.out; omega)).trans (hcell2 j hjt)
          have hy1 := lb_lt hx2 j
          obtain ⟨y, hyy⟩ : ∃ y, lb b j = y := ⟨_, rfl⟩
          rw [hyy] at hc2 hy1
          have HYY := Lib.hid hyy
          clear hyy
          have hij : i + j < n := by have := HN.out; omega
          obtain ⟨t, htt⟩ : ∃ t, x * y = t := ⟨_, rfl⟩
          have ht : t < 18446744073709551616 := by rw [← htt]; have := sq_lt hx1 hy1; omega
          have htI : (x : Int) * (y : Int) = (t : Int) := by rw [← htt, Int.natCast_mul]
          have hl := lb_fl o (i + j) (by rw [HO.out.1]; exact hij)
          obtain ⟨S, hS⟩ : ∃ S, lb o (i + j) = S := ⟨_, rfl⟩
          rw [hS] at hl
          have hS1 : S + t < 79228162514264337593543950336 := by
            have h1 := cv_le a b hx hx2 i (i + j)
            have h2 := HO.out.2 (i + j) hij
            rw [hS] at h2
            unfold cvp at h2
            have h3 : (if i ≤ i + j ∧ i + j - i < j then lb a i * lb b (i + j - i) else 0) ≤ 18446744065119617025 := by
              split
              · exact sq_lt (lb_lt hx _) (lb_lt hx2 _)
              · omega
            have h4 := sq_lt hx1 hy1
            omega
          have HTT := Lib.hid htt
          have k0 := hown.cell (j := (i + j) * 3) (by rw [HO.out.1]; omega)
          have k1 := hown.cell (j := (i + j) * 3 + 1) (by rw [HO.out.1]; omega)
          have k2 := hown.cell (j := (i + j) * 3 + 2) (by rw [HO.out.1]; omega)
          have f0 := hown.frozen ((i + j) * 3)
          have f1 := hown.frozen ((i + j) * 3 + 1)
          have f2 := hown.frozen ((i + j) * 3 + 2)
          rw [hl.1] at k0
          rw [hl.2.1] at k1
          rw [hl.2.2] at k2
          obtain ⟨s0, hs0⟩ : ∃ s0, S % 4294967296 = s0 := ⟨_, rfl⟩
          obtain ⟨s1, hs1⟩ : ∃ s1, S / 4294967296 % 4294967296 = s1 := ⟨_, rfl⟩
          obtain ⟨s2, hs2⟩ : ∃ s2, S / 18446744073709551616 % 4294967296 = s2 := ⟨_, rfl⟩
          obtain ⟨n0, hn0⟩ : ∃ n0, (S + t) % 4294967296 = n0 := ⟨_, rfl⟩
          obtain ⟨n1, hn1⟩ : ∃ n1, (S + t) / 4294967296 % 4294967296 = n1 := ⟨_, rfl⟩
          obtain ⟨n2, hn2⟩ : ∃ n2, (S + t) / 18446744073709551616 % 4294967296 = n2 := ⟨_, rfl⟩
          have hPut : Hid (∀ W, Calls Tryd.prog 36 #[.agg #[.int .u32 (s0 : Nat), .int .u32 (s1 : Nat), .int .u32 (s2 : Nat)], .int .u32 (x : Nat), .int .u32 (y : Nat)] W fun e w' => e = .returned (.agg #[.int .u32 (n0 : Nat), .int .u32 (n1 : Nat), .int .u32 (n2 : Nat)]) ∧ Ext W w') := by
            intro W
            have := put_calls W S x y hx1 hy1 (by rw [htt]; exact hS1)
            unfold v3 at this
            rw [hs0, hs1, hs2, htt, hn0, hn1, hn2] at this
            exact this
          rw [hs0] at k0
          rw [hs1] at k1
          rw [hs2] at k2
          have HN012 : Hid ((S + t) % 4294967296 = n0 ∧ (S + t) / 4294967296 % 4294967296 = n1 ∧ (S + t) / 18446744073709551616 % 4294967296 = n2) := ⟨hn0, hn1, hn2⟩
          have hi0 : (0 : Int) ≤ (i : Int) := by omega
          have hi1 : (i : Int) < (na : Int) := by omega
          have hj0 : (0 : Int) ≤ (j : Int) := by omega
          have hj1 : (j : Int) < (nb : Int) := by omega
          have hij1 : (i : Int) + (j : Int) < (n : Int) := by omega
          clear hl hs0 hs1 hs2 htt hn0 hn1 hn2
          have HO2 : Hid ((o.set (i + j) (S + t)).length = n ∧ ∀ m, m < n → lb (o.set (i + j) (S + t)) m = cvp a b i (j + 1) m) := by
            refine ⟨by rw [List.length_set]; exact HO.out.1, fun m hm => ?_⟩
            rw [lb_set _ _ _ _ (by rw [HO.out.1]; exact hij), cvp_succ, ← HO.out.2 m hm]
            by_cases e : i + j = m
            · rw [if_pos e, if_pos e.symm, ← e, hS, HXX.out, HYY.out, HTT.out]
            · rw [if_neg e, if_neg (Ne.symm e)]; rfl
          clear hS
          go_wp2_with (fail)
          have hownd : Own3 wr.drew B (.slice (some ⟨B, 0, none⟩) n n) o := hown
          have hn50 : n ≤ 2000000 := by have := HN.out; omega
          have hsw : IntKind.i64.wrap ((i : Int) + (j : Int)) = (i : Int) + (j : Int) := IntWalk.i64_in _ (by omega)
          have hs0 : (0 : Int) ≤ (i : Int) + (j : Int) := by omega
          have hst : ((i : Int) + (j : Int)).toNat = i + j := by omega
          go_region_with (go_at_call 36; refine (hPut.out _).mono ?_; rintro e w' ⟨rfl, hEp⟩; have hownp := hownd.ext hEp; have k0' := hownp.cell (j := (i + j) * 3) (by rw [HO.out.1]; omega); have k1' := hownp.cell (j := (i + j) * 3 + 1) (by rw [HO.out.1]; omega); have k2' := hownp.cell (j := (i + j) * 3 + 2) (by rw [HO.out.1]; omega); have f0' := hownp.frozen ((i + j) * 3); have f1' := hownp.frozen ((i + j) * 3 + 1); have f2' := hownp.frozen ((i + j) * 3 + 2))
          all_goals
            have hnew := hownp.set_ (i + j) (S + t) (by rw [HO.out.1]; exact hij)
            have hE2 := (((hE.drew.below hEp).setCell (p := ⟨B, (i + j) * 3, none⟩) (by show w.heap.size ≤ B; have := HBB.out; omega) (.int .u32 (n0 : Nat))).setCell (p := ⟨B, (i + j) * 3 + 1, none⟩) (by show w.heap.size ≤ B; have := HBB.out; omega) (.int .u32 (n1 : Nat))).setCell (p := ⟨B, (i + j) * 3 + 2, none⟩) (by show w.heap.size ≤ B; have := HBB.out; omega) (.int .u32 (n2 : Nat))
            rw [HN012.out.1, HN012.out.2.1, HN012.out.2.2] at hnew
            have HNEW := Lib.hid hnew
            clear hownp k0' k1' k2' f0' f1' f2' hnew hE
            go_wp2
            go_roundw
            case rel => exact ⟨j + 1, _, by omega, by go_num, HO2, HNEW.out, hE2⟩
            case measure => simp [intOf]; omega
        · obtain rfl : j = nb := by omega
          have HO3 : Hid (o.length = n ∧ ∀ m, m < n → lb o m = cv a b (i + 1) m) := ⟨HO.out.1, fun m hm => by rw [HO.out.2 m hm, cvp_full _ _ _ _ _ (by rw [HNB.out]; exact Nat.le_refl _)]⟩
          clear HO
          go_wp2
          go_roundw
          case rel => exact ⟨i + 1, o, by omega, by go_num, HO3, hown, hE⟩
          case measure => simp [intOf]; omega
    · obtain rfl : i = na := by omega
      have hcv : o = conv a b := by
        refine ext_lb (by rw [HO.out.1, HCL.out]) fun m hm => ?_
        rw [HO.out.1] at hm
        rw [HO.out.2 m hm, HCV.out m (by rw [HNA.out, HNB.out, HN.out]; exact hm), HNA.out]
      have HF : Hid (∃ gg, Ending.returned (.slice (some ⟨B, 0, none⟩) n n) = .returned (.slice (some ⟨gg, 0, none⟩) (conv a b).length (conv a b).length) ∧ Own3 wr w.heap.size (.slice (some ⟨gg, 0, none⟩) (conv a b).length (conv a b).length) (conv a b)) := by
        refine ⟨B, by rw [HCL.out], ?_⟩
        rw [hcv] at hown
        rw [HCL.out, HBB.out]; exact hown
      clear HO hown hcv
      go_wp2
      go_ret
      exact ⟨HF.out, hE⟩
end Go.Proofs.YtofhpfmgopmcmaaDoor
