/- The document's rests and products. -/
import Derived.Test.YtfkcdmbiihkiiaaGreatDoorBat

namespace Go.Proofs.YtfkcdmbiihkiiaaGreatDoor
open Go.RowKit
set_option linter.unusedVariables false
set_option maxHeartbeats 400000

theorem val_drop_one (xs : List Nat) (i : Nat) (h : i < xs.length) : val (xs.drop i) = lb xs i + 4294967296 * val (xs.drop (i + 1)) := by
  rw [List.drop_eq_getElem_cons h]
  simp only [val]
  congr 1
  unfold lb
  rw [List.getElem?_eq_getElem h]; rfl

set_option maxRecDepth 100000 in
set_option maxHeartbeats 4000000 in
theorem rest_B (w : World) (v : Value) (n m r : Nat) (h : Un w v n) (hm0 : 0 < m) (hm : m < 4294967296) (hl : (limbs n).length ≤ 1000000) (hr : n % m = r) :
    Calls Tryz.prog 49 #[v, .int .u32 (m : Nat)] w fun e w' => e = .returned (.int .u32 (r : Nat)) ∧ Ext w w' := by
  obtain ⟨A, c, rfl, hcc, hx, hrr⟩ := id (U.asUn h)
  have HV : Hid (val (limbs n) % m = r) := by rw [Hid, val_limbs]; exact hr
  obtain ⟨xs, hxs⟩ : ∃ xs, limbs n = xs := ⟨_, rfl⟩
  rw [hxs] at hcc hx hrr HV hl ⊢
  have HD := Lib.hid (fun i h => val_drop_one xs i h)
  obtain ⟨la, hla⟩ : ∃ la, xs.length = la := ⟨_, rfl⟩
  have HL := Lib.hid hla
  rw [hla] at hcc hrr hl ⊢
  have hE := Ext.refl w
  have hmw : IntKind.u64.wrap (m : Int) = (m : Int) := by rw [IntKind.wrap_u64]; omega
  have hmi0 : ¬ ((m : Int) = 0) := by omega
  have hmi1 : ¬ (m = 0) := by omega
  have hmi2 : ((m : Int) == 0) = false := by rw [beq_eq_false_iff_ne]; omega
  clear h hxs hla hr
  go_enter Tryz.func49, Tryz.ntmps49
  go_wp2
  go_loop [6, 5] (fun t s => ∃ (j q : Nat), j ≤ la ∧ t = .int .i64 ((j : Int) - 1) ∧ s = .int .u64 (q : Nat) ∧ Hid (val (xs.drop j) % m = q)) (fun t _ => ((intOf t) + 1).toNat)
  case atStart => exact ⟨la, 0, Nat.le_refl _, rfl, rfl, by rw [Hid, List.drop_of_length_le (by rw [HL.out]; exact Nat.le_refl _)]; exact Nat.zero_mod m⟩
  case round =>
    obtain ⟨j, q, hj, rfl, rfl, HQ⟩ := hrel
    rcases j with _ | i
    · have hd : decide ((0 : Int) ≤ ((0 : Nat) : Int) - 1) = false := by decide
      have hq : q = r := by rw [← HQ.out, ← HV.out]; rfl
      subst hq
      have hqm : q < m := by rw [← HQ.out]; exact Nat.mod_lt _ hm0
      have hqw : IntKind.u32.wrap (q : Int) = (q : Int) := by rw [IntKind.wrap_u32]; omega
      have hqm2 : (q : Int) % 4294967296 = (q : Int) := by omega
      go_wp2
      go_ret
      exact ⟨rfl, hE⟩
    · have hi1 : ((i + 1 : Nat) : Int) - 1 = (i : Int) := by omega
      rw [hi1]
      obtain ⟨ad, rfl, hb, hcell⟩ := hrr (by omega)
      have hc := hcell i (by omega)
      have hxb := lb_lt hx i
      have hdr := HD.out i (by rw [HL.out]; omega)
      obtain ⟨x, hxx⟩ : ∃ x, lb xs i = x := ⟨_, rfl⟩
      rw [hxx] at hc hxb hdr
      have hqm : q < m := by rw [← HQ.out]; exact Nat.mod_lt _ hm0
      obtain ⟨q2, hq2⟩ : ∃ q2, (q * 4294967296 + x) % m = q2 := ⟨_, rfl⟩
      have HQ2 : Hid (val (xs.drop i) % m = q2) := by
        rw [Hid, hdr, ← hq2, ← HQ.out, Nat.add_comm, Nat.mul_comm 4294967296, Nat.add_mod, Nat.mul_mod]
        conv => rhs; rw [Nat.add_mod, Nat.mul_mod, Nat.mod_mod]
      obtain ⟨u, hu⟩ : ∃ u, q * 4294967296 + x = u := ⟨_, rfl⟩
      rw [hu] at hq2
      have f1 : IntKind.u64.wrap ((q : Int) * 4294967296) = (q : Int) * 4294967296 := by rw [IntKind.wrap_u64]; omega
      have f1' : ((q : Int) * 4294967296) % 18446744073709551616 = (q : Int) * 4294967296 := by omega
      have f2 : (q : Int) * 4294967296 + (x : Int) = (u : Int) := by omega
      have f3 : IntKind.u64.wrap (u : Int) = (u : Int) := by rw [IntKind.wrap_u64]; omega
      have f3' : (u : Int) % 18446744073709551616 = (u : Int) := by omega
      have f4 : IntKind.u64.wrap (x : Int) = (x : Int) := by rw [IntKind.wrap_u64]; omega
      have f5 : (u : Int) % (m : Int) = (q2 : Int) := by rw [← hq2, Int.natCast_emod]
      have f6 : (u : Int).tmod (m : Int) = (q2 : Int) := by rw [Int.tmod_eq_emod_of_nonneg (by omega)]; exact f5
      have hij : (i : Int) < (la : Int) := by omega
      clear hdr hxx hq2 hu HQ hcell
      go_wp2
      go_round
      case rel => exact ⟨i, q2, by omega, rfl, rfl, HQ2⟩
      case measure => simp [intOf]

set_option maxRecDepth 100000 in
set_option maxHeartbeats 8000000 in
theorem rschool_calls (w : World) (va vb : Value) (as_ bs : List Nat) (na nb : Nat) (ha : U w va as_) (hb : U w vb bs) (hna : as_.length = na) (hnb : bs.length = nb) (hn1 : na ≤ 1000) (hn2 : nb ≤ 1000) :
    Calls Tryz.prog 102 #[va, vb] w fun e w' => (∃ u, e = .returned u ∧ Un w' u (val as_ * val bs)) ∧ Ext w w' := by
  obtain ⟨A, ca, rfl, ⟨hca, hma⟩, hxl, hxr⟩ := id ha
  obtain ⟨A2, cb, rfl, ⟨hcb, hmb⟩, hyl, hyr⟩ := id hb
  have HL : Hid (as_.length = na ∧ bs.length = nb) := ⟨hna, hnb⟩
  have HTX := Lib.hid (fun k => lval_take_succ bs k)
  have HTY := Lib.hid (fun k => lval_take_succ as_ k)
  have HT2 : Hid (bs.take nb = bs ∧ as_.take na = as_) := ⟨by rw [← hnb]; exact List.take_length, by rw [← hna]; exact List.take_length⟩
  rw [hna] at hca hma hxr ⊢
  rw [hnb] at hcb hmb hyr ⊢
  obtain ⟨n, hnn⟩ : ∃ n, na + nb = n := ⟨_, rfl⟩
  have hni : (na : Int) + (nb : Int) = (n : Int) := by omega
  obtain ⟨i0, hi, hz0, hz1, hz2⟩ := info_parts info32
  obtain ⟨B, hB⟩ : ∃ B, w.heap.size = B := ⟨_, rfl⟩
  have HBS := Lib.hid hB
  clear ha hb hna hnb
  go_enter Tryz.func102, Tryz.ntmps102
  go_wp2_with (at_make; refine wpList_make_full _ rfl _ _ 22 rfl w.heap.size 56 i0 (.int .u32 0) 1 Tryz.underlying22 hi hz0 hz1 _ _ _ _ n rfl rfl (by omega) (by omega) (by rw [hz2]; omega) (by unfold maxLen; omega) (Nat.le_refl _) ?_; intro w1 hown hgrow)
  have ho0 : Own w1 w.heap.size (.slice (some ⟨w.heap.size, 0, none⟩) n n) (List.replicate n 0) := by
    have := Own.zeros hown
    rwa [List.length_replicate] at this
  have hE0 : Ext w w1 := (Ext.refl w).grown hgrow (Nat.le_refl _) (fun _ h => by cases h)
  rw [hB] at ho0
  clear hown hgrow hi hz0 hz1 hz2 i0
  have hS0 : Hid (LsI bs as_ n 0 (List.replicate n 0)) := ⟨by simp, fun x hx => by simp at hx; omega, by simp [val_replicate_zero, val], fun m _ => lb_zeros _ _⟩
  go_wp2
  go_loopw [6] (fun t wr => ∃ (i : Nat) (o : List Nat), i ≤ na ∧ t = .int .i64 (i : Nat) ∧ Hid (LsI bs as_ n i o) ∧ Own wr B (.slice (some ⟨B, 0, none⟩) n n) o ∧ Ext w wr) (fun t _ => na - (intOf t).toNat)
  case atStart => exact ⟨0, _, Nat.zero_le _, rfl, hS0, ho0, hE0⟩
  case round =>
    clear hS0 ho0 hE0
    obtain ⟨i, o, hib, rfl, HO, hown, hE⟩ := hrel
    by_cases hlt : i < na
    · obtain ⟨ad, rfl, hb1, hcell1⟩ := hxr (by omega)
      have hyb := lb_lt hxl i
      have hty := HTY.out i (by rw [HL.out.1]; exact hlt)
      obtain ⟨y, hyy⟩ : ∃ y, lb as_ i = y := ⟨_, rfl⟩
      rw [hyy] at hyb hty
      have HY := Lib.hid hyy
      have HS1 : Hid (LwI o n i (val o + LB ^ i * (val (bs.take 0) * y)) 0 o 0) := ⟨HO.out.len, HO.out.lt, by decide, by simp [val], fun m _ => rfl⟩
      have HTYI : Hid (val (as_.take (i + 1)) = val (as_.take i) + LB ^ i * y) := hty
      have hno : Hid (lb o (i + nb) = 0) := HO.out.out _ (by rw [HL.out.2]; exact Nat.le_refl _)
      clear hyy hty
      go_wp2
      go_loopw [8, 7] (fun t s wx => ∃ (j : Nat) (o2 : List Nat) (cy : Nat), j ≤ nb ∧ t = .int .i64 (j : Nat) ∧ s = .int .u64 (cy : Nat) ∧ Hid (LwI o n i (val o + LB ^ i * (val (bs.take j) * y)) j o2 cy) ∧ Own wx B (.slice (some ⟨B, 0, none⟩) n n) o2 ∧ Ext w wx) (fun t _ _ => nb - (intOf t).toNat)
      case atStart => exact ⟨0, o, 0, Nat.zero_le _, rfl, rfl, HS1, hown, hE⟩
      case round =>
        clear HS1 hown hE
        obtain ⟨j, o2, cy, hj, rfl, rfl, HW, hown, hE⟩ := hrel
        by_cases hjt : j < nb
        · obtain ⟨ad2, rfl, hb2, hcell2⟩ := hyr (by omega)
          have hc0 := (hE.cell (p := ad.add i) (by rw [addr_add_block]; exact hb1)).trans (hcell1 i hlt)
          rw [HY.out] at hc0
          have hc1 := (hE.cell (p := ad2.add j) (by rw [addr_add_block]; exact hb2)).trans (hcell2 j hjt)
          have hxb := lb_lt hyl j
          have htk := HTX.out j (by rw [HL.out.2]; exact hjt)
          have hcz := hown.rd.2 (i + j) (by rw [HW.out.len]; omega)
          have hf := hown.frozen' (i + j)
          have hzb := lb_lt HW.out.lt (i + j)
          have hcy := HW.out.cy1
          obtain ⟨x, hxx⟩ : ∃ x, lb bs j = x := ⟨_, rfl⟩
          rw [hxx] at hc1 hxb htk
          obtain ⟨z, hzz⟩ : ∃ z, lb o2 (i + j) = z := ⟨_, rfl⟩
          rw [hzz] at hcz hzb
          obtain ⟨t, ht⟩ : ∃ t, x * y = t := ⟨_, rfl⟩
          have ht1 : t ≤ 18446744065119617025 := by rw [← ht]; exact sq_lt hxb hyb
          have hti : (y : Int) * (x : Int) = (t : Int) := by rw [← ht, Int.natCast_mul, Int.mul_comm]
          obtain ⟨u, hu⟩ : ∃ u, cy + (t + z) = u := ⟨_, rfl⟩
          obtain ⟨s, hs⟩ : ∃ s, u % 4294967296 = s := ⟨_, rfl⟩
          obtain ⟨d, hd⟩ : ∃ d, u / 4294967296 = d := ⟨_, rfl⟩
          obtain ⟨hm, hsb, hdb, hub, htz⟩ := limb_math t z cy s d u ht1 hzb hcy hu hs hd
          have hst := HW.out.step (by omega) t s d (by rw [hzz]; exact hm) hsb hdb
          rw [Nat.add_assoc (val o), Nat.pow_add, Nat.mul_assoc, ← Nat.mul_add, ← ht, ← Nat.mul_assoc, ← Nat.add_mul, ← htk] at hst
          have HST := Lib.hid hst
          have hown2 := hown.set' (i + j) s
          have hE2 := hE.setCell (p := ⟨B, i + j, none⟩) (by rw [HBS.out]; exact Nat.le_refl _) (.int .u32 (s : Nat))
          have q1 : IntKind.u64.wrap (t : Int) = (t : Int) := by rw [IntKind.wrap_u64]; omega
          have q2 : IntKind.u64.wrap ((t : Int) + (z : Int)) = (t : Int) + (z : Int) := by rw [IntKind.wrap_u64]; omega
          have q3 : (t : Int) + (z : Int) + (cy : Int) = (u : Int) := by omega
          have q4 : IntKind.u64.wrap (u : Int) = (u : Int) := by rw [IntKind.wrap_u64]; omega
          have q5 : IntKind.u32.wrap (u : Int) = (s : Int) := by rw [IntKind.wrap_u32]; omega
          have q6 : (u : Int) % 4294967296 = (s : Int) := by omega
          have q7 : (u : Int) / 4294967296 = (d : Int) := by omega
          have q8 : IntKind.u64.wrap (x : Int) = (x : Int) := by rw [IntKind.wrap_u64]; omega
          have q9 : IntKind.u64.wrap (y : Int) = (y : Int) := by rw [IntKind.wrap_u64]; omega
          have q10 : IntKind.u64.wrap (z : Int) = (z : Int) := by rw [IntKind.wrap_u64]; omega
          have q11 : (u : Int) % 18446744073709551616 = (u : Int) := by omega
          have q12 : (t : Int) % 18446744073709551616 = (t : Int) := by omega
          have q13 : ((t : Int) + (z : Int)) % 18446744073709551616 = (t : Int) + (z : Int) := by omega
          have q14 : IntKind.i64.wrap ((i : Int) + (j : Int)) = (i : Int) + (j : Int) := IntWalk.i64_in _ (by omega)
          have q15 : (0 : Int) ≤ (i : Int) + (j : Int) := by omega
          have q16 : (i : Int) + (j : Int) < (n : Int) := by omega
          have q17 : ((i : Int) + (j : Int)).toNat = i + j := by omega
          have q18 : (0 : Int) ≤ (i : Int) := by omega
          have q19 : (i : Int) < (na : Int) := by omega
          have q20 : (0 : Int) ≤ (j : Int) := by omega
          have q21 : (j : Int) < (nb : Int) := by omega
          clear hst htk hxx hzz ht hu hs hd hm HW hxb hzb ht1 hcy hown2 hE2
          have HOWN := Lib.hid hown
          have HEE := Lib.hid hE
          clear hown hE
          go_wp2_with (fail)
          go_quiet (fail)
          have hown2 := (HOWN.out.ext (ext_drewN wr nq)).set' (i + j) s
          have hE2 := (HEE.out.below (ext_drewN wr nq)).setCell (p := ⟨B, i + j, none⟩) (by rw [HBS.out]; exact Nat.le_refl _) (.int .u32 (s : Nat))
          go_wp2
          go_roundw
          case rel => exact ⟨j + 1, _, d, by omega, by go_num, rfl, HST, hown2, hE2⟩
          case measure => simp [intOf]; omega
        · obtain rfl : j = nb := by omega
          have hcz := hown.rd.2 (i + j) (by rw [HW.out.len]; omega)
          have hf := hown.frozen' (i + j)
          have hl0 : lb o2 (i + j) = 0 := by rw [HW.out.out _ (Nat.le_refl _)]; exact hno.out
          have hws := lval_set o2 (i + j) cy (by rw [HW.out.len]; omega)
          rw [hl0, Nat.mul_zero, Nat.add_zero, HW.out.val, HT2.out.1] at hws
          have hcz' : (Value.int .u32 (lb o2 (i + j) : Nat)) = .int .u32 0 := by rw [hl0]; rfl
          rw [hcz'] at hcz
          have hcyb := HW.out.cy1
          have q5 : IntKind.u32.wrap (cy : Int) = (cy : Int) := by rw [IntKind.wrap_u32]; omega
          have q6 : (cy : Int) % 4294967296 = (cy : Int) := by omega
          have hown2 := hown.set' (i + j) cy
          have hE2 := hE.setCell (p := ⟨B, i + j, none⟩) (by rw [HBS.out]; exact Nat.le_refl _) (.int .u32 (cy : Nat))
          have HST : Hid (LsI bs as_ n (i + 1) (o2.set (i + j) cy)) := by
            refine ⟨by rw [List.length_set]; exact HW.out.len, set_lt HW.out.lt hcyb, ?_, fun m hm => ?_⟩
            · rw [hws, HTYI.out, Nat.mul_add, ← HO.out.val, Nat.mul_left_comm]
            · rw [HL.out.2] at hm
              rw [lb_set_other _ (by omega), HW.out.out _ (by omega)]
              exact HO.out.out m (by rw [HL.out.2]; omega)
          have g12 : (i : Int) + (j : Int) < (n : Int) := by omega
          have g13 : i + j < n := by omega
          clear hl0 hws hcz' hown hE HW hcyb HTYI hno
          go_wp2
          go_roundw
          case rel => exact ⟨i + 1, _, by omega, by go_num, HST, hown2, hE2⟩
          case measure => simp [intOf]; omega
    · obtain rfl : i = na := by omega
      have hu := hown.toU HO.out.lt (by rw [HO.out.len]; omega)
      have hvv := HO.out.val
      rw [HT2.out.2, Nat.mul_comm] at hvv
      have HV := Lib.hid hvv
      have hol := HO.out.len
      clear hown HO hvv
      go_wp2_with (fail)
      refine (rmake_calls _ _ _ hu (by omega)).mono ?_
      rintro e w2 ⟨⟨u, rfl, hu2⟩, hB2⟩
      rw [HV.out] at hu2
      have hE2 := hE.below hB2
      have HF : Hid (∃ u', Ending.returned u = .returned u' ∧ Un w2 u' (val as_ * val bs)) := ⟨_, rfl, hu2⟩
      clear hu2 hu hB2
      go_wp2
      go_ret
      exact ⟨HF.out, hE2⟩
end Go.Proofs.YtfkcdmbiihkiiaaGreatDoor
/- Parts of sums of products. -/
namespace Go.Proofs.YtfkcdmbiihkiiaaGreatDoor
open Go.RowKit
set_option linter.unusedVariables false
set_option maxHeartbeats 400000

theorem U3.shape {w : World} {v : Value} {xs : List Nat} (h : U3 w v xs) : ∃ A c, v = .slice A xs.length c ∧ xs.length ≤ c := by
  obtain ⟨A, c, rfl, hc, _⟩ := h; exact ⟨A, c, rfl, hc.1⟩
end Go.Proofs.YtfkcdmbiihkiiaaGreatDoor
/- The document's powers, and carried sums. -/
namespace Go.Proofs.YtfkcdmbiihkiiaaGreatDoor
open Go.RowKit
set_option linter.unusedVariables false
set_option maxHeartbeats 400000

theorem rschoolX_B (w : World) (va vb : Value) (n m k : Nat) (ha : Un w va n) (hb : Un w vb m) (hn : (limbs n).length ≤ 398) (hm : (limbs m).length ≤ 398) (hk : n * m = k) :
    Calls Tryz.prog 102 #[va, vb] w fun e w' => ∃ u, e = .returned u ∧ Un w' u k ∧ Ext w w' := by
  refine (rschool_calls w va vb _ _ _ _ ha hb rfl rfl (by omega) (by omega)).mono ?_
  rw [val_limbs, val_limbs, hk]
  rintro e w' ⟨⟨u, h1, h2⟩, h3⟩
  exact ⟨u, h1, h2, h3⟩

end Go.Proofs.YtfkcdmbiihkiiaaGreatDoor
