/- Sums of products, one by one. -/
import Derived.Test.YtofhpfmgopmcmaaDoorH1
import Derived.Laws.Externs
namespace Go.Proofs.YtofhpfmgopmcmaaDoor
open Go.RowKit
set_option linter.unusedVariables false
set_option maxHeartbeats 400000

theorem run_add (x y : Nat) (w : World) :
    (callFunc 47 #[.int .u64 (x : Nat), .int .u64 (y : Nat), .int .u64 0]).run Tryd.prog w = .ok (.value (.tuple #[.int .u64 ((x + y) % 18446744073709551616 : Nat), .int .u64 ((x + y) / 18446744073709551616 : Nat)])) w := by
  rw [run_callFunc_extern Tryd.func47 (by kernel_rfl) (by kernel_rfl) (by kernel_rfl) (e := add64Entry) (by kernel_rfl), run_add64 x y 0 (by omega) (by omega) (by omega) (by omega)]
  simp only [Result.andThen]
  congr 5 <;> omega

/-- One product more, in three limbs. -/
theorem limbs3 (s t : Nat) (hs : s < 79228162514264337593543950336) (ht : t < 18446744073709551616) (hst : s + t < 79228162514264337593543950336) :
    (s / 4294967296 % 4294967296 * 4294967296 + s % 4294967296 + t) % 18446744073709551616 % 4294967296 = (s + t) % 4294967296 ∧
    (s / 4294967296 % 4294967296 * 4294967296 + s % 4294967296 + t) % 18446744073709551616 / 4294967296 = (s + t) / 4294967296 % 4294967296 ∧
    s / 18446744073709551616 % 4294967296 + (s / 4294967296 % 4294967296 * 4294967296 + s % 4294967296 + t) / 18446744073709551616 = (s + t) / 18446744073709551616 % 4294967296 := by
  refine ⟨?_, ?_, ?_⟩ <;> omega

set_option maxRecDepth 100000 in
set_option maxHeartbeats 4000000 in
theorem direct_calls (w : World) (v u : Value) (a b : List Nat) (h : U w v a) (g : U w u b) (ha0 : 0 < a.length) (hb0 : 0 < b.length) (hal : a.length ≤ 1000000) (hbl : b.length ≤ 1000000) :
    Calls Tryd.prog 32 #[v, u] w fun e w' => (∃ gg, e = .returned (.slice (some ⟨gg, 0, none⟩) (conv a b).length (conv a b).length) ∧ Own3 w' w.heap.size (.slice (some ⟨gg, 0, none⟩) (conv a b).length (conv a b).length) (conv a b)) ∧ Ext w w' := by
  obtain ⟨A, c, rfl, ⟨hc, hm⟩, hx, hr⟩ := id h
  obtain ⟨A2, c2, rfl, ⟨hc2, hm2⟩, hx2, hr2⟩ := id g
  obtain ⟨ad, rfl, hb, hcell⟩ := hr ha0
  obtain ⟨ad2, rfl, hb2, hcell2⟩ := hr2 hb0
  clear hr hr2
  have hcl := conv_len a b
  have HCV := Lib.hid (fun m => lb_conv a b m)
  obtain ⟨i0, hi, hz0, hz1, hz2⟩ := info_parts info3
  obtain ⟨na, hna⟩ : ∃ na, a.length = na := ⟨_, rfl⟩
  obtain ⟨nb, hnb⟩ : ∃ nb, b.length = nb := ⟨_, rfl⟩
  rw [hna, hnb] at hcl
  rw [hna] at hc hm hcell ha0 hal ⊢
  rw [hnb] at hc2 hm2 hcell2 hb0 hbl ⊢
  obtain ⟨n, hn⟩ : ∃ n, na + nb - 1 = n := ⟨_, rfl⟩
  have hnn : (na : Int) + (nb : Int) - 1 = (n : Int) := by omega
  rw [hn] at hcl
  have HCL := Lib.hid hcl
  have HNA := Lib.hid hna
  have HNB := Lib.hid hnb
  have HN := Lib.hid hn
  clear hcl hna hnb h g
  go_enter Tryd.func32, Tryd.ntmps32
  go_wp2_with (at_make; refine wpList_make_full _ rfl _ _ 31 rfl (w.heap.size) 52 i0 (.agg #[.int .u32 0, .int .u32 0, .int .u32 0]) 3 Tryd.underlying31 hi hz0 hz1 _ _ _ _ n rfl rfl (by omega) (by omega) (by rw [hz2]; omega) (by unfold maxLen; omega) (Nat.le_refl _) ?_; intro w1 hown hgrow)
  have ho0 : Own3 w1 w.heap.size (.slice (some ⟨w.heap.size, 0, none⟩) n n) (List.replicate n 0) := by
    have := hown
    rw [madeCells3] at this
    unfold Own3
    rw [List.length_replicate]
    exact this
  have hB0 : Ext w w1 := (Ext.refl w).grown hgrow (Nat.le_refl _) (fun _ h => by cases h)
  clear hown hgrow hi hz0 hz1 hz2 i0
  obtain ⟨B, hB⟩ : ∃ B, w.heap.size = B := ⟨_, rfl⟩
  have HBB := Lib.hid hB
  rw [hB] at hb hb2 ho0 ⊢
  clear hB
  go_loopw [23] (fun t wr => ∃ (i : Nat) (o : List Nat), i ≤ na ∧ t = .int .i64 (i : Nat) ∧ Hid (o.length = n ∧ ∀ m, m < n → lb o m = cv a b i m) ∧ Own3 wr B (.slice (some ⟨B, 0, none⟩) n n) o ∧ Ext w wr) (fun t _ => na - (intOf t).toNat)
  case atStart => exact ⟨0, _, Nat.zero_le _, rfl, ⟨by simp, fun m hm => by rw [lb_zeros]; rfl⟩, ho0, hB0⟩
  case round =>
    clear ho0 hB0
    obtain ⟨i, o, hi, rfl, HO, hown, hE⟩ := hrel
    by_cases hlt : i < na
    · have hc1 := (hE.cell (p := ad.add i) (by rw [addr_add_block]; have := HBB.out; omega)).trans (hcell i hlt)
      have hx1 := lb_lt hx i
      obtain ⟨x, hxx⟩ : ∃ x, lb a i = x := ⟨_, rfl⟩
      rw [hxx] at hc1 hx1
      have HXX := Lib.hid hxx
      clear hxx
      go_wp2
      go_loopw [30] (fun t wr => ∃ (j : Nat) (o : List Nat), j ≤ nb ∧ t = .int .i64 (j : Nat) ∧ Hid (o.length = n ∧ ∀ m, m < n → lb o m = cvp a b i j m) ∧ Own3 wr B (.slice (some ⟨B, 0, none⟩) n n) o ∧ Ext w wr) (fun t _ => nb - (intOf t).toNat)
      case atStart => exact ⟨0, o, Nat.zero_le _, rfl, ⟨HO.out.1, fun m hm => by rw [HO.out.2 m hm, cvp_zero]⟩, hown, hE⟩
      case round =>
        clear hown hE HO hc1
        obtain ⟨j, o, hj, rfl, HO, hown, hE⟩ := hrel
        by_cases hjt : j < nb
        · have hc2 := (hE.cell (p := ad2.add j) (by rw [addr_add_block]; have := HBB.out; omega)).trans (hcell2 j hjt)
          have hy1 := lb_lt hx2 j
          obtain ⟨y, hyy⟩ : ∃ y, lb b j = y := ⟨_, rfl⟩
          rw [hyy] at hc2 hy1
          have HYY := Lib.hid hyy
          clear hyy
          have hij : i + j < n := by have := HN.out; omega
          obtain ⟨t, htt⟩ : ∃ t, x * y = t := ⟨_, rfl⟩
          have ht : t < 18446744073709551616 := by rw [← htt]; have := sq_lt hx1 hy1; omega
          have htI : (x : Int) * (y : Int) = (t : Int) := by rw [← htt, Int.natCast_mul]
          have hl := lb_fl o (i + j) (by rw [HO.out.1]; exact hij)
          obtain ⟨S, hS⟩ : ∃ S, lb o (i + j) = S := ⟨_, rfl⟩
          rw [hS] at hl
          have hS1 : S + t < 79228162514264337593543950336 := by
            have h1 := cv_le a b hx hx2 i (i + j)
            have h2 := HO.out.2 (i + j) hij
            rw [hS] at h2
            unfold cvp at h2
            have h3 : (if i ≤ i + j ∧ i + j - i < j then lb a i * lb b (i + j - i) else 0) ≤ 18446744065119617025 := by
              split
              · exact sq_lt (lb_lt hx _) (lb_lt hx2 _)
              · omega
            have h4 := sq_lt hx1 hy1
            omega
          have HTT := Lib.hid htt
          have k0 := hown.cell (j := (i + j) * 3) (by rw [HO.out.1]; omega)
          have k1 := hown.cell (j := (i + j) * 3 + 1) (by rw [HO.out.1]; omega)
          have k2 := hown.cell (j := (i + j) * 3 + 2) (by rw [HO.out.1]; omega)
          have f0 := hown.frozen ((i + j) * 3)
          have f1 := hown.frozen ((i + j) * 3 + 1)
          have f2 := hown.frozen ((i + j) * 3 + 2)
          rw [hl.1] at k0
          rw [hl.2.1] at k1
          rw [hl.2.2] at k2
          have hnew := hown.set_ (i + j) (S + t) (by rw [HO.out.1]; exact hij)
          have H3 := Lib.hid (limbs3 S t (by omega) ht hS1)
          obtain ⟨s0, hs0⟩ : ∃ s0, S % 4294967296 = s0 := ⟨_, rfl⟩
          obtain ⟨s1, hs1⟩ : ∃ s1, S / 4294967296 % 4294967296 = s1 := ⟨_, rfl⟩
          obtain ⟨s2, hs2⟩ : ∃ s2, S / 18446744073709551616 % 4294967296 = s2 := ⟨_, rfl⟩
          rw [hs0] at k0 H3
          rw [hs1] at k1 H3
          rw [hs2] at k2 H3
          have b0 : s0 < 4294967296 := by rw [← hs0]; exact Nat.mod_lt _ (by decide)
          have b1 : s1 < 4294967296 := by rw [← hs1]; exact Nat.mod_lt _ (by decide)
          have b2 : s2 < 4294967296 := by rw [← hs2]; exact Nat.mod_lt _ (by decide)
          obtain ⟨m, hm⟩ : ∃ m, s1 * 4294967296 = m := ⟨_, rfl⟩
          have hmI : (s1 : Int) * 4294967296 = (m : Int) := by omega
          have hmw : IntKind.u64.wrap ((s1 : Int) * 4294967296) = (m : Int) := by rw [IntKind.wrap_u64]; omega
          obtain ⟨lo, hlo⟩ : ∃ lo, m + s0 = lo := ⟨_, rfl⟩
          have hor : bits .or .u64 (m : Int) (s0 : Int) = (lo : Int) := by
            rw [u64_or_nat _ _ (by omega) (by omega), nat_join 32 m s0 (by rw [← hm]; exact Nat.mul_mod_left _ _) b0, hlo]
          have hlow : IntKind.u64.wrap (lo : Int) = (lo : Int) := by rw [IntKind.wrap_u64]; omega
          have hadd := fun w => run_add lo t w
          rw [hm, hlo] at H3
          obtain ⟨l1, hl1⟩ : ∃ l1, (lo + t) % 18446744073709551616 = l1 := ⟨_, rfl⟩
          obtain ⟨c1, hc1⟩ : ∃ c1, (lo + t) / 18446744073709551616 = c1 := ⟨_, rfl⟩
          rw [hl1, hc1] at hadd H3
          have bl : l1 < 18446744073709551616 := by rw [← hl1]; exact Nat.mod_lt _ (by decide)
          have bc : c1 ≤ 1 := by omega
          clear hl hs0 hs1 hs2 hm hlo hl1 hc1 htt
          obtain ⟨n0, hn0⟩ : ∃ n0, (S + t) % 4294967296 = n0 := ⟨_, rfl⟩
          obtain ⟨n1, hn1⟩ : ∃ n1, (S + t) / 4294967296 % 4294967296 = n1 := ⟨_, rfl⟩
          obtain ⟨n2, hn2⟩ : ∃ n2, (S + t) / 18446744073709551616 % 4294967296 = n2 := ⟨_, rfl⟩
          rw [hn0, hn1, hn2] at hnew H3
          have d0 : n0 < 4294967296 := by rw [← hn0]; exact Nat.mod_lt _ (by decide)
          have d1 : n1 < 4294967296 := by rw [← hn1]; exact Nat.mod_lt _ (by decide)
          have d2 : n2 < 4294967296 := by rw [← hn2]; exact Nat.mod_lt _ (by decide)
          obtain ⟨e0, e1, e2⟩ := H3.out
          have i0 : (l1 : Int) % 4294967296 = (n0 : Int) := by omega
          have i0w : IntKind.u32.wrap (l1 : Int) = (n0 : Int) := by rw [IntKind.wrap_u32]; omega
          have i1 : (l1 : Int) / 4294967296 = (n1 : Int) := by omega
          have i1w : IntKind.u32.wrap (n1 : Int) = (n1 : Int) := by rw [IntKind.wrap_u32]; omega
          have i1m : (n1 : Int) % 4294967296 = (n1 : Int) := by omega
          have i2 : (s2 : Int) + (c1 : Int) = (n2 : Int) := by omega
          have i2w : IntKind.u32.wrap ((s2 : Int) + (c1 : Int)) = (n2 : Int) := by rw [IntKind.wrap_u32]; omega
          have i2n : IntKind.u32.wrap (n2 : Int) = (n2 : Int) := by rw [IntKind.wrap_u32]; omega
          have i2m : (n2 : Int) % 4294967296 = (n2 : Int) := by omega
          have icw : IntKind.u32.wrap (c1 : Int) = (c1 : Int) := by rw [IntKind.wrap_u32]; omega
          have icm : (c1 : Int) % 4294967296 = (c1 : Int) := by omega
          clear H3 e0 e1 e2 hn0 hn1 hn2
          have HO2 : Hid ((o.set (i + j) (S + t)).length = n ∧ ∀ m, m < n → lb (o.set (i + j) (S + t)) m = cvp a b i (j + 1) m) := by
            refine ⟨by rw [List.length_set]; exact HO.out.1, fun m hm => ?_⟩
            rw [lb_set _ _ _ _ (by rw [HO.out.1]; exact hij), cvp_succ, ← HO.out.2 m hm]
            by_cases e : i + j = m
            · rw [if_pos e, if_pos e.symm, ← e, hS, HXX.out, HYY.out, HTT.out]
            · rw [if_neg e, if_neg (Ne.symm e)]; rfl
          have HNEW := Lib.hid hnew
          have hE2 := ((hE.setCell (p := ⟨B, (i + j) * 3, none⟩) (by show w.heap.size ≤ B; have := HBB.out; omega) (.int .u32 (n0 : Nat))).setCell (p := ⟨B, (i + j) * 3 + 1, none⟩) (by show w.heap.size ≤ B; have := HBB.out; omega) (.int .u32 (n1 : Nat))).setCell (p := ⟨B, (i + j) * 3 + 2, none⟩) (by show w.heap.size ≤ B; have := HBB.out; omega) (.int .u32 (n2 : Nat))
          clear hS hnew
          go_wp2
          go_region
          go_wp2
          go_region
          go_wp2
          go_roundw
          case rel => exact ⟨j + 1, _, by omega, by go_num, HO2, HNEW.out, hE2.drew.drew⟩
          case measure => simp [intOf]; omega
        · obtain rfl : j = nb := by omega
          have HO3 : Hid (o.length = n ∧ ∀ m, m < n → lb o m = cv a b (i + 1) m) := ⟨HO.out.1, fun m hm => by rw [HO.out.2 m hm, cvp_full _ _ _ _ _ (by rw [HNB.out]; exact Nat.le_refl _)]⟩
          clear HO
          go_wp2
          go_roundw
          case rel => exact ⟨i + 1, o, by omega, by go_num, HO3, hown, hE⟩
          case measure => simp [intOf]; omega
    · obtain rfl : i = na := by omega
      have hcv : o = conv a b := by
        refine ext_lb (by rw [HO.out.1, HCL.out]) fun m hm => ?_
        rw [HO.out.1] at hm
        rw [HO.out.2 m hm, HCV.out m (by rw [HNA.out, HNB.out, HN.out]; exact hm), HNA.out]
      have HF : Hid (∃ gg, Ending.returned (.slice (some ⟨B, 0, none⟩) n n) = .returned (.slice (some ⟨gg, 0, none⟩) (conv a b).length (conv a b).length) ∧ Own3 wr w.heap.size (.slice (some ⟨gg, 0, none⟩) (conv a b).length (conv a b).length) (conv a b)) := by
        refine ⟨B, by rw [HCL.out], ?_⟩
        rw [hcv] at hown
        rw [HCL.out, HBB.out]; exact hown
      clear HO hown hcv
      go_wp2
      go_ret
      exact ⟨HF.out, hE⟩
end Go.Proofs.YtofhpfmgopmcmaaDoor
