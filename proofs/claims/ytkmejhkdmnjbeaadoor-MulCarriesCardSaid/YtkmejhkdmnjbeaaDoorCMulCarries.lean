/- Proved: the statement MulCarries: whatever row, exponent and sums: powers and carried sums are the document's. No condition. -/
import Derived.Test.YtkmejhkdmnjbeaaDoorPg

namespace Go.Proofs.YtkmejhkdmnjbeaaDoor
open Go.RowKit
set_option linter.unusedVariables false
set_option maxHeartbeats 400000

theorem val_drop_one (xs : List Nat) (i : Nat) (h : i < xs.length) : val (xs.drop i) = lb xs i + 4294967296 * val (xs.drop (i + 1)) := by
  rw [List.drop_eq_getElem_cons h]
  simp only [val]
  congr 1
  unfold lb
  rw [List.getElem?_eq_getElem h]; rfl

set_option maxRecDepth 100000 in
set_option maxHeartbeats 4000000 in
theorem rest_B (w : World) (v : Value) (n m r : Nat) (h : Un w v n) (hm0 : 0 < m) (hm : m < 4294967296) (hl : (limbs n).length ≤ 1000000) (hr : n % m = r) :
    Calls Tryd.prog 28 #[v, .int .u32 (m : Nat)] w fun e w' => e = .returned (.int .u32 (r : Nat)) ∧ Ext w w' := by
  obtain ⟨A, c, rfl, hcc, hx, hrr⟩ := id (U.asUn h)
  have HV : Hid (val (limbs n) % m = r) := by rw [Hid, val_limbs]; exact hr
  obtain ⟨xs, hxs⟩ : ∃ xs, limbs n = xs := ⟨_, rfl⟩
  rw [hxs] at hcc hx hrr HV hl ⊢
  have HD := Lib.hid (fun i h => val_drop_one xs i h)
  obtain ⟨la, hla⟩ : ∃ la, xs.length = la := ⟨_, rfl⟩
  have HL := Lib.hid hla
  rw [hla] at hcc hrr hl ⊢
  have hE := Ext.refl w
  have hmw : IntKind.u64.wrap (m : Int) = (m : Int) := by rw [IntKind.wrap_u64]; omega
  have hmi0 : ¬ ((m : Int) = 0) := by omega
  have hmi1 : ¬ (m = 0) := by omega
  have hmi2 : ((m : Int) == 0) = false := by rw [beq_eq_false_iff_ne]; omega
  clear h hxs hla hr
  go_enter Tryd.func28, Tryd.ntmps28
  go_wp2
  go_loop [6, 5] (fun t s => ∃ (j q : Nat), j ≤ la ∧ t = .int .i64 ((j : Int) - 1) ∧ s = .int .u64 (q : Nat) ∧ Hid (val (xs.drop j) % m = q)) (fun t _ => ((intOf t) + 1).toNat)
  case atStart => exact ⟨la, 0, Nat.le_refl _, rfl, rfl, by rw [Hid, List.drop_of_length_le (by rw [HL.out]; exact Nat.le_refl _)]; exact Nat.zero_mod m⟩
  case round =>
    obtain ⟨j, q, hj, rfl, rfl, HQ⟩ := hrel
    rcases j with _ | i
    · have hd : decide ((0 : Int) ≤ ((0 : Nat) : Int) - 1) = false := by decide
      have hq : q = r := by rw [← HQ.out, ← HV.out]; rfl
      subst hq
      have hqm : q < m := by rw [← HQ.out]; exact Nat.mod_lt _ hm0
      have hqw : IntKind.u32.wrap (q : Int) = (q : Int) := by rw [IntKind.wrap_u32]; omega
      have hqm2 : (q : Int) % 4294967296 = (q : Int) := by omega
      go_wp2
      go_ret
      exact ⟨rfl, hE⟩
    · have hi1 : ((i + 1 : Nat) : Int) - 1 = (i : Int) := by omega
      rw [hi1]
      obtain ⟨ad, rfl, hb, hcell⟩ := hrr (by omega)
      have hc := hcell i (by omega)
      have hxb := lb_lt hx i
      have hdr := HD.out i (by rw [HL.out]; omega)
      obtain ⟨x, hxx⟩ : ∃ x, lb xs i = x := ⟨_, rfl⟩
      rw [hxx] at hc hxb hdr
      have hqm : q < m := by rw [← HQ.out]; exact Nat.mod_lt _ hm0
      obtain ⟨q2, hq2⟩ : ∃ q2, (q * 4294967296 + x) % m = q2 := ⟨_, rfl⟩
      have HQ2 : Hid (val (xs.drop i) % m = q2) := by
        rw [Hid, hdr, ← hq2, ← HQ.out, Nat.add_comm, Nat.mul_comm 4294967296, Nat.add_mod, Nat.mul_mod]
        conv => rhs; rw [Nat.add_mod, Nat.mul_mod, Nat.mod_mod]
      obtain ⟨u, hu⟩ : ∃ u, q * 4294967296 + x = u := ⟨_, rfl⟩
      rw [hu] at hq2
      have f1 : IntKind.u64.wrap ((q : Int) * 4294967296) = (q : Int) * 4294967296 := by rw [IntKind.wrap_u64]; omega
      have f1' : ((q : Int) * 4294967296) % 18446744073709551616 = (q : Int) * 4294967296 := by omega
      have f2 : (q : Int) * 4294967296 + (x : Int) = (u : Int) := by omega
      have f3 : IntKind.u64.wrap (u : Int) = (u : Int) := by rw [IntKind.wrap_u64]; omega
      have f3' : (u : Int) % 18446744073709551616 = (u : Int) := by omega
      have f4 : IntKind.u64.wrap (x : Int) = (x : Int) := by rw [IntKind.wrap_u64]; omega
      have f5 : (u : Int) % (m : Int) = (q2 : Int) := by rw [← hq2, Int.natCast_emod]
      have f6 : (u : Int).tmod (m : Int) = (q2 : Int) := by rw [Int.tmod_eq_emod_of_nonneg (by omega)]; exact f5
      have hij : (i : Int) < (la : Int) := by omega
      clear hdr hxx hq2 hu HQ hcell
      go_wp2
      go_round
      case rel => exact ⟨i, q2, by omega, rfl, rfl, HQ2⟩
      case measure => simp [intOf]

set_option maxRecDepth 100000 in
set_option maxHeartbeats 8000000 in
theorem rschool_calls (w : World) (va vb : Value) (as_ bs : List Nat) (na nb : Nat) (ha : U w va as_) (hb : U w vb bs) (hna : as_.length = na) (hnb : bs.length = nb) (hn1 : na ≤ 1000) (hn2 : nb ≤ 1000) :
    Calls Tryd.prog 14 #[va, vb] w fun e w' => (∃ u, e = .returned u ∧ Un w' u (val as_ * val bs)) ∧ Ext w w' := by
  obtain ⟨A, ca, rfl, ⟨hca, hma⟩, hxl, hxr⟩ := id ha
  obtain ⟨A2, cb, rfl, ⟨hcb, hmb⟩, hyl, hyr⟩ := id hb
  have HL : Hid (as_.length = na ∧ bs.length = nb) := ⟨hna, hnb⟩
  have HTX := Lib.hid (fun k => lval_take_succ bs k)
  have HTY := Lib.hid (fun k => lval_take_succ as_ k)
  have HT2 : Hid (bs.take nb = bs ∧ as_.take na = as_) := ⟨by rw [← hnb]; exact List.take_length, by rw [← hna]; exact List.take_length⟩
  rw [hna] at hca hma hxr ⊢
  rw [hnb] at hcb hmb hyr ⊢
  obtain ⟨n, hnn⟩ : ∃ n, na + nb = n := ⟨_, rfl⟩
  have hni : (na : Int) + (nb : Int) = (n : Int) := by omega
  obtain ⟨i0, hi, hz0, hz1, hz2⟩ := info_parts info32
  obtain ⟨B, hB⟩ : ∃ B, w.heap.size = B := ⟨_, rfl⟩
  have HBS := Lib.hid hB
  clear ha hb hna hnb
  go_enter Tryd.func14, Tryd.ntmps14
  go_wp2_with (at_make; refine wpList_make_full _ rfl _ _ 22 rfl w.heap.size 35 i0 (.int .u32 0) 1 Tryd.underlying22 hi hz0 hz1 _ _ _ _ n rfl rfl (by omega) (by omega) (by rw [hz2]; omega) (by unfold maxLen; omega) (Nat.le_refl _) ?_; intro w1 hown hgrow)
  have ho0 : Own w1 w.heap.size (.slice (some ⟨w.heap.size, 0, none⟩) n n) (List.replicate n 0) := by
    have := Own.zeros hown
    rwa [List.length_replicate] at this
  have hE0 : Ext w w1 := (Ext.refl w).grown hgrow (Nat.le_refl _) (fun _ h => by cases h)
  rw [hB] at ho0
  clear hown hgrow hi hz0 hz1 hz2 i0
  have hS0 : Hid (LsI bs as_ n 0 (List.replicate n 0)) := ⟨by simp, fun x hx => by simp at hx; omega, by simp [val_replicate_zero, val], fun m _ => lb_zeros _ _⟩
  go_wp2
  go_loopw [6] (fun t wr => ∃ (i : Nat) (o : List Nat), i ≤ na ∧ t = .int .i64 (i : Nat) ∧ Hid (LsI bs as_ n i o) ∧ Own wr B (.slice (some ⟨B, 0, none⟩) n n) o ∧ Ext w wr) (fun t _ => na - (intOf t).toNat)
  case atStart => exact ⟨0, _, Nat.zero_le _, rfl, hS0, ho0, hE0⟩
  case round =>
    clear hS0 ho0 hE0
    obtain ⟨i, o, hib, rfl, HO, hown, hE⟩ := hrel
    by_cases hlt : i < na
    · obtain ⟨ad, rfl, hb1, hcell1⟩ := hxr (by omega)
      have hyb := lb_lt hxl i
      have hty := HTY.out i (by rw [HL.out.1]; exact hlt)
      obtain ⟨y, hyy⟩ : ∃ y, lb as_ i = y := ⟨_, rfl⟩
      rw [hyy] at hyb hty
      have HY := Lib.hid hyy
      have HS1 : Hid (LwI o n i (val o + LB ^ i * (val (bs.take 0) * y)) 0 o 0) := ⟨HO.out.len, HO.out.lt, by decide, by simp [val], fun m _ => rfl⟩
      have HTYI : Hid (val (as_.take (i + 1)) = val (as_.take i) + LB ^ i * y) := hty
      have hno : Hid (lb o (i + nb) = 0) := HO.out.out _ (by rw [HL.out.2]; exact Nat.le_refl _)
      clear hyy hty
      go_wp2
      go_loopw [8, 7] (fun t s wx => ∃ (j : Nat) (o2 : List Nat) (cy : Nat), j ≤ nb ∧ t = .int .i64 (j : Nat) ∧ s = .int .u64 (cy : Nat) ∧ Hid (LwI o n i (val o + LB ^ i * (val (bs.take j) * y)) j o2 cy) ∧ Own wx B (.slice (some ⟨B, 0, none⟩) n n) o2 ∧ Ext w wx) (fun t _ _ => nb - (intOf t).toNat)
      case atStart => exact ⟨0, o, 0, Nat.zero_le _, rfl, rfl, HS1, hown, hE⟩
      case round =>
        clear HS1 hown hE
        obtain ⟨j, o2, cy, hj, rfl, rfl, HW, hown, hE⟩ := hrel
        by_cases hjt : j < nb
        · obtain ⟨ad2, rfl, hb2, hcell2⟩ := hyr (by omega)
          have hc0 := (hE.cell (p := ad.add i) (by rw [addr_add_block]; exact hb1)).trans (hcell1 i hlt)
          rw [HY.out] at hc0
          have hc1 := (hE.cell (p := ad2.add j) (by rw [addr_add_block]; exact hb2)).trans (hcell2 j hjt)
          have hxb := lb_lt hyl j
          have htk := HTX.out j (by rw [HL.out.2]; exact hjt)
          have hcz := hown.rd.2 (i + j) (by rw [HW.out.len]; omega)
          have hf := hown.frozen' (i + j)
          have hzb := lb_lt HW.out.lt (i + j)
          have hcy := HW.out.cy1
          obtain ⟨x, hxx⟩ : ∃ x, lb bs j = x := ⟨_, rfl⟩
          rw [hxx] at hc1 hxb htk
          obtain ⟨z, hzz⟩ : ∃ z, lb o2 (i + j) = z := ⟨_, rfl⟩
          rw [hzz] at hcz hzb
          obtain ⟨t, ht⟩ : ∃ t, x * y = t := ⟨_, rfl⟩
          have ht1 : t ≤ 18446744065119617025 := by rw [← ht]; exact sq_lt hxb hyb
          have hti : (y : Int) * (x : Int) = (t : Int) := by rw [← ht, Int.natCast_mul, Int.mul_comm]
          obtain ⟨u, hu⟩ : ∃ u, cy + (t + z) = u := ⟨_, rfl⟩
          obtain ⟨s, hs⟩ : ∃ s, u % 4294967296 = s := ⟨_, rfl⟩
          obtain ⟨d, hd⟩ : ∃ d, u / 4294967296 = d := ⟨_, rfl⟩
          obtain ⟨hm, hsb, hdb, hub, htz⟩ := limb_math t z cy s d u ht1 hzb hcy hu hs hd
          have hst := HW.out.step (by omega) t s d (by rw [hzz]; exact hm) hsb hdb
          rw [Nat.add_assoc (val o), Nat.pow_add, Nat.mul_assoc, ← Nat.mul_add, ← ht, ← Nat.mul_assoc, ← Nat.add_mul, ← htk] at hst
          have HST := Lib.hid hst
          have hown2 := hown.set' (i + j) s
          have hE2 := hE.setCell (p := ⟨B, i + j, none⟩) (by rw [HBS.out]; exact Nat.le_refl _) (.int .u32 (s : Nat))
          have q1 : IntKind.u64.wrap (t : Int) = (t : Int) := by rw [IntKind.wrap_u64]; omega
          have q2 : IntKind.u64.wrap ((t : Int) + (z : Int)) = (t : Int) + (z : Int) := by rw [IntKind.wrap_u64]; omega
          have q3 : (t : Int) + (z : Int) + (cy : Int) = (u : Int) := by omega
          have q4 : IntKind.u64.wrap (u : Int) = (u : Int) := by rw [IntKind.wrap_u64]; omega
          have q5 : IntKind.u32.wrap (u : Int) = (s : Int) := by rw [IntKind.wrap_u32]; omega
          have q6 : (u : Int) % 4294967296 = (s : Int) := by omega
          have q7 : (u : Int) / 4294967296 = (d : Int) := by omega
          have q8 : IntKind.u64.wrap (x : Int) = (x : Int) := by rw [IntKind.wrap_u64]; omega
          have q9 : IntKind.u64.wrap (y : Int) = (y : Int) := by rw [IntKind.wrap_u64]; omega
          have q10 : IntKind.u64.wrap (z : Int) = (z : Int) := by rw [IntKind.wrap_u64]; omega
          have q11 : (u : Int) % 18446744073709551616 = (u : Int) := by omega
          have q12 : (t : Int) % 18446744073709551616 = (t : Int) := by omega
          have q13 : ((t : Int) + (z : Int)) % 18446744073709551616 = (t : Int) + (z : Int) := by omega
          have q14 : IntKind.i64.wrap ((i : Int) + (j : Int)) = (i : Int) + (j : Int) := IntWalk.i64_in _ (by omega)
          have q15 : (0 : Int) ≤ (i : Int) + (j : Int) := by omega
          have q16 : (i : Int) + (j : Int) < (n : Int) := by omega
          have q17 : ((i : Int) + (j : Int)).toNat = i + j := by omega
          have q18 : (0 : Int) ≤ (i : Int) := by omega
          have q19 : (i : Int) < (na : Int) := by omega
          have q20 : (0 : Int) ≤ (j : Int) := by omega
          have q21 : (j : Int) < (nb : Int) := by omega
          clear hst htk hxx hzz ht hu hs hd hm HW hxb hzb ht1 hcy hown2 hE2
          have HOWN := Lib.hid hown
          have HEE := Lib.hid hE
          clear hown hE
          go_wp2_with (fail)
          go_quiet (fail)
          have hown2 := (HOWN.out.ext (ext_drewN wr nq)).set' (i + j) s
          have hE2 := (HEE.out.below (ext_drewN wr nq)).setCell (p := ⟨B, i + j, none⟩) (by rw [HBS.out]; exact Nat.le_refl _) (.int .u32 (s : Nat))
          go_wp2
          go_roundw
          case rel => exact ⟨j + 1, _, d, by omega, by go_num, rfl, HST, hown2, hE2⟩
          case measure => simp [intOf]; omega
        · obtain rfl : j = nb := by omega
          have hcz := hown.rd.2 (i + j) (by rw [HW.out.len]; omega)
          have hf := hown.frozen' (i + j)
          have hl0 : lb o2 (i + j) = 0 := by rw [HW.out.out _ (Nat.le_refl _)]; exact hno.out
          have hws := lval_set o2 (i + j) cy (by rw [HW.out.len]; omega)
          rw [hl0, Nat.mul_zero, Nat.add_zero, HW.out.val, HT2.out.1] at hws
          have hcz' : (Value.int .u32 (lb o2 (i + j) : Nat)) = .int .u32 0 := by rw [hl0]; rfl
          rw [hcz'] at hcz
          have hcyb := HW.out.cy1
          have q5 : IntKind.u32.wrap (cy : Int) = (cy : Int) := by rw [IntKind.wrap_u32]; omega
          have q6 : (cy : Int) % 4294967296 = (cy : Int) := by omega
          have hown2 := hown.set' (i + j) cy
          have hE2 := hE.setCell (p := ⟨B, i + j, none⟩) (by rw [HBS.out]; exact Nat.le_refl _) (.int .u32 (cy : Nat))
          have HST : Hid (LsI bs as_ n (i + 1) (o2.set (i + j) cy)) := by
            refine ⟨by rw [List.length_set]; exact HW.out.len, set_lt HW.out.lt hcyb, ?_, fun m hm => ?_⟩
            · rw [hws, HTYI.out, Nat.mul_add, ← HO.out.val, Nat.mul_left_comm]
            · rw [HL.out.2] at hm
              rw [lb_set_other _ (by omega), HW.out.out _ (by omega)]
              exact HO.out.out m (by rw [HL.out.2]; omega)
          have g12 : (i : Int) + (j : Int) < (n : Int) := by omega
          have g13 : i + j < n := by omega
          clear hl0 hws hcz' hown hE HW hcyb HTYI hno
          go_wp2
          go_roundw
          case rel => exact ⟨i + 1, _, by omega, by go_num, HST, hown2, hE2⟩
          case measure => simp [intOf]; omega
    · obtain rfl : i = na := by omega
      have hu := hown.toU HO.out.lt (by rw [HO.out.len]; omega)
      have hvv := HO.out.val
      rw [HT2.out.2, Nat.mul_comm] at hvv
      have HV := Lib.hid hvv
      have hol := HO.out.len
      clear hown HO hvv
      go_wp2_with (fail)
      refine (rmake_calls _ _ _ hu (by omega)).mono ?_
      rintro e w2 ⟨⟨u, rfl, hu2⟩, hB2⟩
      rw [HV.out] at hu2
      have hE2 := hE.below hB2
      have HF : Hid (∃ u', Ending.returned u = .returned u' ∧ Un w2 u' (val as_ * val bs)) := ⟨_, rfl, hu2⟩
      clear hu2 hu hB2
      go_wp2
      go_ret
      exact ⟨HF.out, hE2⟩
end Go.Proofs.YtkmejhkdmnjbeaaDoor
/- Sums of products among the arguments of a law. -/
namespace Go.Proofs.YtkmejhkdmnjbeaaDoor
open Go.ChangeShapes Go.WideShapes Go.ChangeAt Go.RowKit
set_option linter.unusedVariables false
set_option maxRecDepth 100000
set_option maxHeartbeats 400000

theorem open_sums {H : Type} {enc : TypeId × Value → H} {W : World} {base : Nat} {v : Value} {d : DataW H} {ps : List MemPlace} (hval : Value.okWide Tryd.prog W .any base 27 v) (h : DataW.Trod enc Tryd.prog W 0 (fun _ => true) true 27 v d ps)
    (hlt : ∀ p ∈ ps, p.block < W.heap.size) : ∃ cs : List Nat, U3 W v cs ∧ ∀ x ∈ cs, x < 79228162514264337593543950336 := by
  obtain ⟨a0, len, cap, rfl⟩ := okWide_slice Tryd.underlying27 hval
  obtain ⟨fuel, hf⟩ := h
  rcases DataW.trod_slice Tryd.underlying27 hf with h0 | ⟨a, len', cap', elems, rest, n, _, hcs, _, hb, hl, hm, hlen, hel, hsp, hns⟩
  · have hcs := h0.1
    simp [Value.cells] at hcs
    obtain ⟨rfl, rfl, rfl⟩ := hcs
    exact ⟨[], U3.nil_ _ _ _, by simp⟩
  · simp [Value.cells] at hcs
    obtain ⟨rfl, rfl, rfl⟩ := hcs
    have hce : Tryd.prog.cellsOf 50 = 3 := by kernel_rfl
    have hc1 : Tryd.prog.cellsOf 35 = 1 := by kernel_rfl
    have each : ∀ i, i < len → ∃ S, S < 79228162514264337593543950336 ∧ W.cell? (a.add (i * 3)) = some (.int .u32 (S % 4294967296 : Nat)) ∧ W.cell? (a.add (i * 3 + 1)) = some (.int .u32 (S / 4294967296 % 4294967296 : Nat)) ∧ W.cell? (a.add (i * 3 + 2)) = some (.int .u32 (S / 18446744073709551616 % 4294967296 : Nat)) := by
      intro i hi
      have hi' := hel i hi
      rw [hce] at hi'
      rw [List.getElem?_eq_getElem (by rw [hlen]; exact hi)] at hi'
      obtain ⟨l, hl1, hl2⟩ := Option.bind_eq_some_iff.1 hi'
      obtain ⟨_, hll, hlc⟩ := World.cells?_some hl1
      match l, hll with
      | [c0, c1, c2], _ =>
        obtain ⟨y0, y1, y2, n', _, t0, t1, t2⟩ := trod_array3 Tryd.underlying50 hc1 hl2
        obtain ⟨z0, e0, _, w0⟩ := DataW.trod_int Tryd.underlying35 t0
        obtain ⟨z1, e1, _, w1⟩ := DataW.trod_int Tryd.underlying35 t1
        obtain ⟨z2, e2, _, w2⟩ := DataW.trod_int Tryd.underlying35 t2
        simp at e0 e1 e2
        subst e0 e1 e2
        have b0 := bounds_u32 w0
        have b1 := bounds_u32 w1
        have b2 := bounds_u32 w2
        obtain ⟨n0, rfl⟩ := Int.eq_ofNat_of_zero_le (show 0 ≤ z0 by omega)
        obtain ⟨n1, rfl⟩ := Int.eq_ofNat_of_zero_le (show 0 ≤ z1 by omega)
        obtain ⟨n2, rfl⟩ := Int.eq_ofNat_of_zero_le (show 0 ≤ z2 by omega)
        have k0 := hlc 0 (by decide)
        have k1 := hlc 1 (by decide)
        have k2 := hlc 2 (by decide)
        rw [addr_add_zero] at k0
        rw [addr_add_add] at k1 k2
        have s0 : n0 + 4294967296 * n1 + 18446744073709551616 * n2 < 79228162514264337593543950336 := by omega
        have s1 : (n0 + 4294967296 * n1 + 18446744073709551616 * n2) % 4294967296 = n0 := by omega
        have s2 : (n0 + 4294967296 * n1 + 18446744073709551616 * n2) / 4294967296 % 4294967296 = n1 := by omega
        have s3 : (n0 + 4294967296 * n1 + 18446744073709551616 * n2) / 18446744073709551616 % 4294967296 = n2 := by omega
        refine ⟨n0 + 4294967296 * n1 + 18446744073709551616 * n2, s0, ?_, ?_, ?_⟩
        · rw [s1, k0]; rfl
        · rw [s2, k1]; rfl
        · rw [s3, k2]; rfl
    have hex : ∃ f : Nat → Nat, ∀ i, i < len → f i < 79228162514264337593543950336 ∧ W.cell? (a.add (i * 3)) = some (.int .u32 (f i % 4294967296 : Nat)) ∧ W.cell? (a.add (i * 3 + 1)) = some (.int .u32 (f i / 4294967296 % 4294967296 : Nat)) ∧ W.cell? (a.add (i * 3 + 2)) = some (.int .u32 (f i / 18446744073709551616 % 4294967296 : Nat)) :=
      ⟨fun i => if h : i < len then Classical.choose (each i h) else 0, fun i h => by simp only [dif_pos h]; exact Classical.choose_spec (each i h)⟩
    obtain ⟨f, hfc⟩ := hex
    have hcl : ((List.range len).map f).length = len := by simp
    refine ⟨(List.range len).map f, ⟨some a, cap, by rw [hcl], ⟨by rw [hcl]; exact hl, by rw [hcl]; unfold maxLen at hm; omega⟩, fun h0 => ⟨a, rfl, ?_, fun j hj => ?_⟩⟩, fun x hx => ?_⟩
    · rw [hcl] at h0
      have hc := (hfc 0 h0).2.1
      rw [Nat.zero_mul, addr_add_zero] at hc
      unfold World.cell? at hc
      rcases Nat.lt_or_ge a.block W.heap.size with h | h
      · exact h
      · rw [Array.getElem?_eq_none h] at hc; cases hc
    · rw [hcl] at hj
      have hq : j / 3 < len := by omega
      have hlf := lb_fl ((List.range len).map f) (j / 3) (by rw [hcl]; exact hq)
      have hlm := lb_map len f (j / 3) hq
      rw [hlm] at hlf
      obtain ⟨_, g0, g1, g2⟩ := hfc (j / 3) hq
      rcases (show j = j / 3 * 3 ∨ j = j / 3 * 3 + 1 ∨ j = j / 3 * 3 + 2 by omega) with e | e | e
      · rw [e, hlf.1]; rw [← e] at g0 ⊢; exact g0
      · rw [e, hlf.2.1]; rw [← e] at g1 ⊢; exact g1
      · rw [e, hlf.2.2]; rw [← e] at g2 ⊢; exact g2
    · obtain ⟨i, hi, rfl⟩ := List.mem_map.1 hx
      exact (hfc i (List.mem_range.1 hi)).1
end Go.Proofs.YtkmejhkdmnjbeaaDoor
/- Parts of sums of products. -/
namespace Go.Proofs.YtkmejhkdmnjbeaaDoor
open Go.RowKit
set_option linter.unusedVariables false
set_option maxHeartbeats 400000

theorem cval_cut (xs : List Nat) (k : Nat) (h : k ≤ xs.length) : cval xs = cval (xs.take k) + LB ^ k * cval (xs.drop k) := by
  conv => lhs; rw [← List.take_append_drop k xs]
  rw [cval_append, List.length_take, Nat.min_eq_left h]
theorem cval_le (xs : List Nat) (h : ∀ x ∈ xs, x < 79228162514264337593543950336) : cval xs + LB ^ 3 ≤ LB ^ (xs.length + 3) := by
  induction xs with
  | nil => simp [cval]
  | cons x xs ih =>
    have h1 := ih fun y hy => h y (List.mem_cons_of_mem _ hy)
    have h2 := h x (List.mem_cons_self ..)
    have e : LB ^ ((x :: xs).length + 3) = LB * LB ^ (xs.length + 3) := by rw [List.length_cons, show xs.length + 1 + 3 = xs.length + 3 + 1 by omega, Nat.pow_succ, Nat.mul_comm]
    rw [e]
    have h3 := Nat.mul_le_mul_left LB h1
    rw [Nat.mul_add] at h3
    have e3 : LB ^ 3 = 79228162514264337593543950336 := by decide
    simp only [cval]
    rw [e3] at *
    unfold LB at *
    omega
theorem cval_ltl (xs : List Nat) (h : ∀ x ∈ xs, x < 79228162514264337593543950336) : Ltl (cval xs) (xs.length + 3) := by
  have := cval_le xs h
  have h3 : 0 < LB ^ 3 := by decide
  unfold Ltl
  omega
theorem fl_take (xs : List Nat) (k : Nat) (m : Nat) (hk : k ≤ xs.length) (hm : m < k * 3) : lb (fl (xs.take k)) m = lb (fl xs) m := by
  have h1 := lb_fl (xs.take k) (m / 3) (by rw [List.length_take]; omega)
  have h2 := lb_fl xs (m / 3) (by omega)
  rw [lb_take (by omega)] at h1
  rcases (show m = m / 3 * 3 ∨ m = m / 3 * 3 + 1 ∨ m = m / 3 * 3 + 2 by omega) with e | e | e
  · rw [e, h1.1, h2.1]
  · rw [e, h1.2.1, h2.2.1]
  · rw [e, h1.2.2, h2.2.2]
theorem fl_drop (xs : List Nat) (k : Nat) (m : Nat) (hm : k * 3 + m < xs.length * 3) : lb (fl (xs.drop k)) m = lb (fl xs) (k * 3 + m) := by
  have h1 := lb_fl (xs.drop k) (m / 3) (by rw [List.length_drop]; omega)
  have h2 := lb_fl xs (k + m / 3) (by omega)
  rw [lb_drop] at h1
  rcases (show m = m / 3 * 3 ∨ m = m / 3 * 3 + 1 ∨ m = m / 3 * 3 + 2 by omega) with e | e | e
  · rw [show k * 3 + m = (k + m / 3) * 3 by omega, h2.1]; rw [← h1.1]; congr 1
  · rw [show k * 3 + m = (k + m / 3) * 3 + 1 by omega, h2.2.1]; rw [← h1.2.1]; congr 1
  · rw [show k * 3 + m = (k + m / 3) * 3 + 2 by omega, h2.2.2]; rw [← h1.2.2]; congr 1
theorem U3.take_ {w : World} {A : Option Addr} {n c : Nat} {xs : List Nat} (h : U3 w (.slice A n c) xs) {k c' : Nat} (hk : k ≤ n) (hc' : k ≤ c') : U3 w (.slice A k c') (xs.take k) := by
  obtain ⟨A', c0, hv, hc, hr⟩ := h
  injection hv with h1 h2 h3
  subst h1 h2 h3
  have hlen : (xs.take k).length = k := by simp; omega
  refine ⟨_, c', by rw [hlen], by omega, fun h0 => ?_⟩
  obtain ⟨ad, hA, hb, hcell⟩ := hr (by omega)
  refine ⟨ad, hA, hb, fun j hj => ?_⟩
  rw [hlen] at hj
  rw [hcell j (by omega), fl_take xs k j hk hj]
theorem U3.drop_ {w : World} {ad : Addr} {n c : Nat} {xs : List Nat} (h : U3 w (.slice (some ad) n c) xs) {k m c' : Nat} (hk : k ≤ n) (hm : n - k = m) (hc' : m ≤ c') : U3 w (.slice (some (ad.add (k * 3))) m c') (xs.drop k) := by
  obtain ⟨A', c0, hv, hc, hr⟩ := h
  injection hv with h1 h2 h3
  subst h1 h2 h3
  have hlen : (xs.drop k).length = m := by simp; omega
  refine ⟨_, c', by rw [hlen], by omega, fun h0 => ?_⟩
  obtain ⟨ad', hA, hb, hcell⟩ := hr (by omega)
  injection hA with hA
  subst hA
  refine ⟨_, rfl, by rw [addr_add_block]; exact hb, fun j hj => ?_⟩
  rw [hlen] at hj
  rw [addr_add_add, hcell (k * 3 + j) (by omega), fl_drop xs k j (by omega)]
theorem U3.shape {w : World} {v : Value} {xs : List Nat} (h : U3 w v xs) : ∃ A c, v = .slice A xs.length c ∧ xs.length ≤ c := by
  obtain ⟨A, c, rfl, hc, _⟩ := h; exact ⟨A, c, rfl, hc.1⟩
end Go.Proofs.YtkmejhkdmnjbeaaDoor
/- The document's powers, and carried sums. -/
namespace Go.Proofs.YtkmejhkdmnjbeaaDoor
open Go.RowKit
set_option linter.unusedVariables false
set_option maxHeartbeats 400000

theorem rschoolX_B (w : World) (va vb : Value) (n m k : Nat) (ha : Un w va n) (hb : Un w vb m) (hn : (limbs n).length ≤ 398) (hm : (limbs m).length ≤ 398) (hk : n * m = k) :
    Calls Tryd.prog 14 #[va, vb] w fun e w' => ∃ u, e = .returned u ∧ Un w' u k ∧ Ext w w' := by
  refine (rschool_calls w va vb _ _ _ _ ha hb rfl rfl (by omega) (by omega)).mono ?_
  rw [val_limbs, val_limbs, hk]
  rintro e w' ⟨⟨u, h1, h2⟩, h3⟩
  exact ⟨u, h1, h2, h3⟩

set_option maxRecDepth 100000 in
set_option maxHeartbeats 4000000 in
theorem rpow_B' (w : World) (va : Value) (a q n : Nat) (hu : Un w va a) (ha : a < LB ^ q) (hq : q * n ≤ 380) (hq2 : q ≤ 390) (hn : n ≤ 1000) (k : Nat) (hk : a ^ n = k) :
    Calls Tryd.prog 23 #[va, .int .i64 (n : Nat)] w fun e w' => ∃ u, e = .returned u ∧ Un w' u k ∧ Ext w w' := by
  subst hk
  have hal : (limbs a).length ≤ 398 := Nat.le_trans (len_of ha) (by omega)
  have HAL : Hid (∀ x, x = a → (limbs x).length ≤ 398) := fun x e => by rw [e]; exact hal
  have hPl := Lib.hid (fun e (he : e ≤ n) => Nat.le_trans (pow_limbs (e := e) ha he) (show q * n + 1 ≤ 398 by omega))
  obtain ⟨A, ca, rfl, hca⟩ := U.shape (U.asUn hu)
  have hE0 := (Ext.refl w).alloc (.cells #[.int .u32 1] 35)
  have hone : Un (w.alloc (.cells #[.int .u32 1] 35)) (.slice (some ⟨w.heap.size, 0, none⟩) 1 1) 1 := Un_lit1 w _ rfl 1 (by decide) (by decide)
  have hu1 : Un (w.alloc (.cells #[.int .u32 1] 35)) (.slice A (limbs a).length ca) a := U.below (U.asUn hu) hE0
  clear ha hal
  generalize (limbs a).length = la at *
  clear hu
  go_enter Tryd.func23, Tryd.ntmps23
  go_wp2
  go_loopw [6, 5] (fun t s wr => ∃ (j : Nat), j ≤ n ∧ t = .int .i64 (j : Nat) ∧ Un wr s (a ^ j) ∧ Un wr (.slice A la ca) a ∧ Ext w wr) (fun t _ _ => n - (intOf t).toNat)
  case atStart => exact ⟨0, Nat.zero_le _, rfl, by rw [Nat.pow_zero]; exact hone, hu1, hE0⟩
  case round =>
    clear hone hu1 hE0
    obtain ⟨j, hj, rfl, hz, hua, hE⟩ := hrel
    obtain ⟨A2, c2, rfl, hcc⟩ := U.shape (U.asUn hz)
    by_cases hlt : j < n
    · have hM := Lib.hid (rschoolX_B wr _ _ (a ^ j) a (a ^ (j + 1)) hz hua (hPl.out j hj) (HAL.out a rfl) (Nat.pow_succ a j).symm)
      generalize (limbs (a ^ j)).length = lz at *
      clear hz
      go_wp2_with (fail)
      refine hM.out.mono ?_
      rintro e w2 ⟨u, rfl, hu2, hB⟩
      replace hua := U.below (U.asUn hua) hB
      replace hE := hE.below hB
      clear hM hB
      go_wp2
      go_roundw
      case rel => exact ⟨j + 1, by omega, by go_num, hu2, hua, hE⟩
      case measure => simp [intOf]; omega
    · obtain rfl : j = n := by omega
      have HF : Hid (∃ u', Ending.returned (.slice A2 (limbs (a ^ j)).length c2) = .returned u' ∧ Un wr u' (a ^ j) ∧ Ext w wr) := ⟨_, rfl, hz, hE⟩
      clear hz hE
      go_wp2
      go_ret
      exact HF.out

/-- The sums of the first i places are carried. -/
structure RcI (cs : List Nat) (m i : Nat) (o : List Nat) : Prop where
  len : o.length = m
  lt : ∀ x ∈ o, x < 4294967296
  val : val o = cval (cs.take i)
theorem rc_math (z t cr u s d : Nat) (hz : z < 4294967296) (ht : t < 4294967296) (hc : cr < 4294967296) (hu : z + cr + t = u) (hs : u % 4294967296 = s) (hd : u / 4294967296 = d) :
    z + t + cr = s + LB * d ∧ s < 4294967296 ∧ d < 4294967296 ∧ u < 18446744073709551616 := by
  unfold LB
  refine ⟨by omega, by omega, by omega, by omega⟩

set_option maxRecDepth 100000 in
set_option maxHeartbeats 16000000 in
theorem rcarry_B (w : World) (v : Value) (cs : List Nat) (hu : U3 w v cs) (hcs : ∀ x ∈ cs, x < 79228162514264337593543950336) (hl : cs.length ≤ 10000) (kk : Nat) (hkk : cval cs = kk) :
    Calls Tryd.prog 25 #[v] w fun e w' => ∃ u, e = .returned u ∧ Un w' u kk ∧ Ext w w' := by
  obtain ⟨A, c, rfl, hcc⟩ := hu.shape
  obtain ⟨n, hn⟩ : ∃ n, cs.length = n := ⟨_, rfl⟩
  have HN := Lib.hid hn
  have HTK := Lib.hid (fun k => cval_take_succ cs k)
  have HT2 : Hid (cs.take n = cs) := by rw [Hid, ← hn]; exact List.take_length
  have HCS := Lib.hid (lb_lt_of (xs := cs) (by decide) hcs)
  have HLE : Hid (∀ i, cval (cs.take i) < LB ^ (i + 3)) := fun i => by
    have h := cval_ltl (cs.take i) (fun x hx => hcs x (List.mem_of_mem_take hx))
    refine Nat.lt_of_lt_of_le h (Nat.pow_le_pow_right (by decide) ?_)
    rw [List.length_take]; omega
  have HKK := Lib.hid hkk
  rw [hn] at hu hcc hl ⊢
  clear hn hkk
  obtain ⟨m, hm⟩ : ∃ m, n + 4 = m := ⟨_, rfl⟩
  have hmi : (n : Int) + 4 = (m : Int) := by omega
  obtain ⟨i0, hi, hz0, hz1, hz2⟩ := info_parts info32
  obtain ⟨B, hB⟩ : ∃ B, w.heap.size = B := ⟨_, rfl⟩
  have HBS := Lib.hid hB
  go_enter Tryd.func25, Tryd.ntmps25
  go_wp2_with (at_make; refine wpList_make_full _ rfl _ _ 22 rfl w.heap.size 35 i0 (.int .u32 0) 1 Tryd.underlying22 hi hz0 hz1 _ _ _ _ m rfl rfl (by omega) (by omega) (by rw [hz2]; omega) (by unfold maxLen; omega) (Nat.le_refl _) ?_; intro w1 hown hgrow)
  have ho0 : Own w1 w.heap.size (.slice (some ⟨w.heap.size, 0, none⟩) m m) (List.replicate m 0) := by
    have := Own.zeros hown
    rwa [List.length_replicate] at this
  have hE0 : Ext w w1 := (Ext.refl w).grown hgrow (Nat.le_refl _) (fun _ h => by cases h)
  rw [hB] at ho0
  clear hown hgrow hi hz0 hz1 hz2 i0
  have hS0 : Hid (RcI cs m 0 (List.replicate m 0)) := ⟨by simp, fun x hx => by simp at hx; omega, by simp [val_replicate_zero, cval]⟩
  go_wp2
  go_loopw [4] (fun t wr => ∃ (i : Nat) (o : List Nat), i ≤ n ∧ t = .int .i64 (i : Nat) ∧ Hid (RcI cs m i o) ∧ Own wr B (.slice (some ⟨B, 0, none⟩) m m) o ∧ Ext w wr) (fun t _ => n - (intOf t).toNat)
  case atStart => exact ⟨0, _, Nat.zero_le _, rfl, hS0, ho0, hE0⟩
  case round =>
    clear hS0 ho0 hE0
    obtain ⟨i, o, hin, rfl, HO, hown, hE⟩ := hrel
    by_cases hlt : i < n
    · obtain ⟨ad, rfl, hbk, hcell⟩ := hu.cells3 (by omega)
      obtain ⟨g0, g1, g2⟩ := hcell i hlt
      have hSb := HCS.out i
      have htk := HTK.out i (by rw [HN.out]; exact hlt)
      obtain ⟨S, hS⟩ : ∃ S, lb cs i = S := ⟨_, rfl⟩
      rw [hS] at g0 g1 g2 hSb htk
      obtain ⟨s0, hs0⟩ : ∃ s0, S % 4294967296 = s0 := ⟨_, rfl⟩
      obtain ⟨s1, hs1⟩ : ∃ s1, S / 4294967296 % 4294967296 = s1 := ⟨_, rfl⟩
      obtain ⟨s2, hs2⟩ : ∃ s2, S / 18446744073709551616 % 4294967296 = s2 := ⟨_, rfl⟩
      rw [hs0] at g0
      rw [hs1] at g1
      rw [hs2] at g2
      have b0 : s0 < 4294967296 := by rw [← hs0]; exact Nat.mod_lt _ (by decide)
      have b1 : s1 < 4294967296 := by rw [← hs1]; exact Nat.mod_lt _ (by decide)
      have b2 : s2 < 4294967296 := by rw [← hs2]; exact Nat.mod_lt _ (by decide)
      have HDV : Hid (val [s0, s1, s2] = S) := by simp only [Hid, val]; omega
      have HDT := Lib.hid (fun k => lval_take_succ [s0, s1, s2] k)
      have HTKI : Hid (cval (cs.take (i + 1)) = cval (cs.take i) + LB ^ i * S) := htk
      have hS1 : Hid (LwI o m i (val o + LB ^ i * val ([s0, s1, s2].take 0)) 0 o 0) := ⟨HO.out.len, HO.out.lt, by decide, by simp [val], fun m _ => rfl⟩
      clear hcell hS hs0 hs1 hs2 htk hSb
      go_wp2
      go_loopw [6, 5] (fun t s wx => ∃ (k : Nat) (o2 : List Nat) (cy : Nat), i + k ≤ m ∧ t = .int .i64 (k : Nat) ∧ s = .int .u64 (cy : Nat) ∧ Hid (LwI o m i (val o + LB ^ i * val ([s0, s1, s2].take k)) k o2 cy) ∧ Own wx B (.slice (some ⟨B, 0, none⟩) m m) o2 ∧ Ext w wx) (fun t _ _ => m - i - (intOf t).toNat)
      case atStart => exact ⟨0, o, 0, by omega, rfl, rfl, hS1, hown, hE⟩
      case round =>
        clear hS1 hown hE
        obtain ⟨k, o2, cy, hkm, rfl, rfl, HW, hown, hE⟩ := hrel
        by_cases hjt : i + k < m
        · have hcz := hown.rd.2 (i + k) (by rw [HW.out.len]; omega)
          have hf := hown.frozen' (i + k)
          have hzb := lb_lt HW.out.lt (i + k)
          have hcy := HW.out.cy1
          obtain ⟨z, hzz⟩ : ∃ z, lb o2 (i + k) = z := ⟨_, rfl⟩
          rw [hzz] at hcz hzb
          replace g0 := (hE.cell (p := ad.add (i * 3)) (by rw [addr_add_block]; exact hbk)).trans g0
          replace g1 := (hE.cell (p := ⟨(ad.add (i * 3)).block, (ad.add (i * 3)).off + 1, none⟩) (by rw [addr_add_block]; exact hbk)).trans g1
          replace g2 := (hE.cell (p := ⟨(ad.add (i * 3)).block, (ad.add (i * 3)).off + 2, none⟩) (by rw [addr_add_block]; exact hbk)).trans g2
          have p1 : (i : Int) + (k : Int) < (m : Int) := by omega
          have p2 : (i : Int) < (n : Int) := by omega
          obtain ⟨t, htt⟩ : ∃ t, lb [s0, s1, s2] k = t := ⟨_, rfl⟩
          have htb : t < 4294967296 := by rw [← htt]; exact lb_lt (by simp; exact ⟨b0, b1, b2⟩) k
          have hA : val o + LB ^ i * val ([s0, s1, s2].take k) + LB ^ (i + k) * t = val o + LB ^ i * val ([s0, s1, s2].take (k + 1)) := by
            rcases Nat.lt_or_ge k 3 with h3 | h3
            · rw [HDT.out k (by simpa using h3), htt, Nat.mul_add, ← Nat.mul_assoc, ← Nat.pow_add, Nat.add_assoc]
            · have ht0 : t = 0 := by rw [← htt]; exact lb_out (by simpa using h3)
              rw [List.take_of_length_le (by simpa using h3), List.take_of_length_le (by simp; omega), ht0, Nat.mul_zero, Nat.add_zero]
          obtain ⟨u, hu'⟩ : ∃ u, z + cy + t = u := ⟨_, rfl⟩
          obtain ⟨s, hs⟩ : ∃ s, u % 4294967296 = s := ⟨_, rfl⟩
          obtain ⟨d, hd⟩ : ∃ d, u / 4294967296 = d := ⟨_, rfl⟩
          obtain ⟨hmm, hsb, hdb, hub⟩ := rc_math z t cy u s d hzb htb hcy hu' hs hd
          have hst := HW.out.step hjt t s d (by rw [hzz]; exact hmm) hsb hdb
          rw [hA] at hst
          have HST := Lib.hid hst
          have hown2 := hown.set' (i + k) s
          have hE2 := hE.setCell (p := ⟨B, i + k, none⟩) (by rw [HBS.out]; exact Nat.le_refl _) (.int .u32 (s : Nat))
          have q1 : IntKind.u64.wrap (z : Int) = (z : Int) := by rw [IntKind.wrap_u64]; omega
          have q2 : IntKind.u64.wrap ((z : Int) + (cy : Int)) = (z : Int) + (cy : Int) := by rw [IntKind.wrap_u64]; omega
          have q2' : ((z : Int) + (cy : Int)) % 18446744073709551616 = (z : Int) + (cy : Int) := by omega
          have q3 : (z : Int) + (cy : Int) + (t : Int) = (u : Int) := by omega
          have q4 : IntKind.u64.wrap (u : Int) = (u : Int) := by rw [IntKind.wrap_u64]; omega
          have q4' : (u : Int) % 18446744073709551616 = (u : Int) := by omega
          have q5 : IntKind.u32.wrap (u : Int) = (s : Int) := by rw [IntKind.wrap_u32]; omega
          have q6 : (u : Int) % 4294967296 = (s : Int) := by omega
          have q7 : (u : Int) / 4294967296 = (d : Int) := by omega
          have q8 : IntKind.u64.wrap (t : Int) = (t : Int) := by rw [IntKind.wrap_u64]; omega
          have hnb : (ad.add (i * 3)).block ≠ B := by rw [addr_add_block]; have := HBS.out; omega
          rcases (show k = 0 ∨ k = 1 ∨ k = 2 ∨ 3 ≤ k by omega) with rfl | rfl | rfl | h3
          case' inl =>
            obtain rfl : s0 = t := htt
            rw [Nat.add_zero] at hcz hf
            replace p1 : (i : Int) < (m : Int) := by omega
          case' inr.inl => obtain rfl : s1 = t := htt
          case' inr.inr.inl => obtain rfl : s2 = t := htt
          case' inr.inr.inr =>
            have ht0 : t = 0 := by rw [← htt]; exact lb_out (by simpa using h3)
            have hk3 : decide ((k : Int) < 3) = false := by rw [decide_eq_false_iff_not]; omega
            have q9 : (z : Int) + (cy : Int) = (u : Int) := by omega
            clear htt
          all_goals
            clear hzz htb hA hu' hs hd hmm hst hown hE HW hzb hcy
            go_wp2
            go_roundw
            case rel => exact ⟨_, _, d, by omega, by go_num, rfl, HST, hown2, hE2⟩
            case measure => simp [intOf]; omega
        · have hkk2 : i + k = m := by omega
          have hk4 : 4 ≤ k := by omega
          have hval := HW.out.val
          rw [List.take_of_length_le (by simp; omega), HDV.out, HO.out.val, ← HTKI.out, hkk2] at hval
          have hcy0 : cy = 0 := by
            have h1 := HLE.out (i + 1)
            have h2 : LB ^ (i + 1 + 3) ≤ LB ^ m := Nat.pow_le_pow_right (by decide) (by omega)
            rcases Nat.eq_zero_or_pos cy with h | h
            · exact h
            · have h3 := Nat.mul_le_mul_left (LB ^ m) h
              rw [Nat.mul_one] at h3
              omega
          rw [hcy0, Nat.mul_zero, Nat.add_zero] at hval
          have HST : Hid (RcI cs m (i + 1) o2) := ⟨HW.out.len, HW.out.lt, hval⟩
          have p1 : decide ((i : Int) + (k : Int) < (m : Int)) = false := by rw [decide_eq_false_iff_not]; omega
          clear hval HW hcy0 hk4
          go_wp2
          go_roundw
          case rel => exact ⟨i + 1, _, by omega, by go_num, HST, hown, hE⟩
          case measure => simp [intOf]; omega
    · obtain rfl : i = n := by omega
      have hu2 := hown.toU HO.out.lt (by rw [HO.out.len]; omega)
      have hvv := HO.out.val
      rw [HT2.out, HKK.out] at hvv
      have HV := Lib.hid hvv
      have hol := HO.out.len
      clear hown HO hvv
      go_wp2_with (fail)
      refine (rmake_calls _ _ _ hu2 (by omega)).mono ?_
      rintro e w2 ⟨⟨u, rfl, hu3⟩, hB2⟩
      rw [HV.out] at hu3
      have hE2 := hE.below hB2
      have HF : Hid (∃ u', Ending.returned u = .returned u' ∧ Un w2 u' kk ∧ Ext w w2) := ⟨_, rfl, hu3, hE2⟩
      clear hu3 hu2 hB2
      go_wp2
      go_ret
      exact HF.out
end Go.Proofs.YtkmejhkdmnjbeaaDoor
/- Proved: the statement MulCarries: whatever row, exponent and sums: powers and carried sums are the document's. No condition. -/
namespace Go.Proofs.YtkmejhkdmnjbeaaDoor
open Go.RowKit
set_option linter.unusedVariables false
set_option maxHeartbeats 400000

set_option maxRecDepth 100000 in
set_option maxHeartbeats 8000000 in
theorem MulCarries_walk (w : World) (hg : Gl w) (r0 : Value) (xa : List Nat) (u0 : U w r0 xa) (n : Nat) (hn : n < 256) (vc : Value) (cs : List Nat) (uc : U3 w vc cs) (hcs : ∀ x ∈ cs, x < 79228162514264337593543950336) :
    Calls Tryd.prog 4 #[r0, .int .u8 (n : Nat), vc] w fun e w' => e = .returned (.bool true) ∧ Ext w w' := by
  obtain ⟨a, da⟩ : ∃ a, cutN xa 4 = a := ⟨_, rfl⟩
  have ta : Ltl a 4 := by rw [← da]; exact cut_lt xa 4 u0.lim
  have hMd_a := Lib.hid (fun W h => made_B W r0 xa 4 h (by decide) (by decide) a da)
  have L_a := Lib.hid (len398 ta (by decide))
  obtain ⟨A3, c3, hvc, hcc3⟩ := uc.shape
  subst hvc
  obtain ⟨nc, hnc⟩ : ∃ nc, cs.length = nc := ⟨_, rfl⟩
  rw [hnc] at uc hcc3 ⊢
  have HNC := Lib.hid hnc
  have HCS := Lib.hid hcs
  obtain ⟨i, di⟩ : ∃ i, n % 40 = i := ⟨_, rfl⟩
  have fi1 : (n : Int) % 40 = (i : Int) := by omega
  have fi2 : (n : Int).tmod 40 = (i : Int) := by rw [Int.tmod_eq_emod_of_nonneg (by omega)]; exact fi1
  have bi : i ≤ 39 := by omega
  obtain ⟨ai, dai⟩ : ∃ ai, a ^ i = ai := ⟨_, rfl⟩
  have HPA := Lib.hid (fun W v hg h => pow_B W hg v a 4 i h ta (show 4 * i ≤ 380 by omega) (by decide) (by omega) ai dai)
  have HPR := Lib.hid (fun W v h => rpow_B' W v a 4 i h ta (show 4 * i ≤ 380 by omega) (by decide) (by omega) ai dai)
  obtain ⟨CC, dCC⟩ : ∃ CC, cval cs = CC := ⟨_, rfl⟩
  have DC := Lib.hid dCC
  have HB := Ext.refl w
  clear da ta di dai dCC hnc hcs
  go_enter Tryd.func4, Tryd.ntmps4
  go_wp2_with (fail)
  refine (mhead_calls _ hg).mono ?_
  rintro e w1 ⟨rfl, hB⟩
  replace HB := HB.below hB
  replace hg := hg.ext hB
  replace u0 := u0.below hB
  replace uc := uc.below hB
  clear hB
  go_wp2_with (fail)
  refine (hMd_a.out _ u0).mono ?_
  rintro e w2 ⟨v_a, rfl, h_a, hB⟩
  clear u0
  replace HB := HB.below hB
  replace hg := hg.ext hB
  replace uc := uc.below hB
  clear hB
  by_cases h200 : 200 < nc
  · have hd : decide ((200 : Int) < (nc : Int)) = true := by rw [decide_eq_true_iff]; omega
    have hd2 : decide (200 < nc) = true := by rw [decide_eq_true_iff]; exact h200
    go_wp2
    go_ret
    exact ⟨rfl, HB⟩
  · have hd : decide ((200 : Int) < (nc : Int)) = false := by rw [decide_eq_false_iff_not]; omega
    have hd2 : decide (200 < nc) = false := by rw [decide_eq_false_iff_not]; exact h200
    go_wp2_with (fail)
    refine (HPA.out _ _ hg h_a).mono ?_
    rintro e w3 ⟨v_p1, rfl, h_p1, hB⟩
    replace HB := HB.below hB
    replace hg := hg.ext hB
    replace h_a := U.below (U.asUn h_a) hB
    replace uc := uc.below hB
    clear hB
    go_wp2_with (fail)
    refine (HPR.out _ _ h_a).mono ?_
    rintro e w4 ⟨v_p2, rfl, h_p2, hB⟩
    clear h_a
    replace HB := HB.below hB
    replace hg := hg.ext hB
    replace h_p1 := U.below (U.asUn h_p1) hB
    replace uc := uc.below hB
    clear hB
    go_wp2_with (fail)
    refine (same_N _ _ _ _ _ h_p1 h_p2 true (decide_eq_true rfl)).mono ?_
    rintro e w5 ⟨rfl, hB⟩
    clear h_p1
    clear h_p2
    replace HB := HB.below hB
    replace hg := hg.ext hB
    replace uc := uc.below hB
    clear hB
    go_wp2_with (fail)
    refine (carry_B _ _ cs uc HCS.out (by rw [HNC.out]; omega) CC DC.out).mono ?_
    rintro e w6 ⟨v_q1, rfl, h_q1, hB⟩
    replace HB := HB.below hB
    replace hg := hg.ext hB
    replace uc := uc.below hB
    clear hB
    go_wp2_with (fail)
    refine (rcarry_B _ _ cs uc HCS.out (by rw [HNC.out]; omega) CC DC.out).mono ?_
    rintro e w7 ⟨v_q2, rfl, h_q2, hB⟩
    replace HB := HB.below hB
    replace hg := hg.ext hB
    replace h_q1 := U.below (U.asUn h_q1) hB
    replace uc := uc.below hB
    clear hB
    go_wp2_with (fail)
    refine (same_N _ _ _ _ _ h_q1 h_q2 true (decide_eq_true rfl)).mono ?_
    rintro e w8 ⟨rfl, hB⟩
    clear h_q1
    clear h_q2
    replace HB := HB.below hB
    replace hg := hg.ext hB
    replace uc := uc.below hB
    clear hB
    go_wp2
    go_ret
    exact ⟨rfl, HB⟩
end Go.Proofs.YtkmejhkdmnjbeaaDoor
/- Proved: the statement MulCarries: whatever row, exponent and sums: powers and carried sums are the document's. No condition. -/
namespace Go.Proofs.YtkmejhkdmnjbeaaDoor
open Go.ChangeShapes Go.WideShapes Go.ChangeAt Go.RowKit
set_option linter.unusedVariables false
set_option maxHeartbeats 2000000

set_option maxRecDepth 100000 in
theorem lifted_MulCarries (os : Os) (started : os.Started) (H : Type) (enc : TypeId × Value → H) :
    ReturnsInHanded {} Tryd.checked os 4 .any (fun w args => (Rows.mulCarriesSpec.pre enc Tryd.prog Tryd.f4 [] false w args ∧ laidMetH Tryd.prog laidT w) ∧ sizedMet enc Tryd.prog Tryd.f4 (OpenSpec.ofChange Rows.mulCarriesSpec) false w args)
      (Rows.mulCarriesSpec.post enc Tryd.prog Tryd.f4 false true false false) := by
  refine returnsInHanded_of_change_and (C := Tryd.checked) (X := fun w _ => laidMetH Tryd.prog laidT w) (fun _ _ _ hh h => h.of_heap hh) own started (by kernel_rfl) Tryd.func4
    (ChangeSpec.witness_shaped (enc := enc) (C := Tryd.checked) (os := os) (X := fun w _ => laidMetH Tryd.prog laidT w) false (World.doorLaid Tryd.prog 400 os) #[.slice none 0 0, .int .u8 0, .slice none 0 0] 8 rfl (World.shaped_of_RefB (by kernel_rfl) (by kernel_rfl)) (by kernel_rfl) (by kernel_rfl) (by kernel_rfl) (door_met os _)) ?_
  intro W base args ds gs before hval0 hW _ _ hL _
  have hval : ∀ (j : Nat) t v, Tryd.f4.params[j]? = some t → args[j]? = some v → Value.okWide Tryd.prog W .any base t v := hval0
  have hW' := hW
  obtain ⟨p, q, hA0, hV, rfl, hfz, hnd⟩ := hW
  have hlt : ∀ x ∈ p ++ q, x.block < W.heap.size := fun x hx => hW'.lt x hx
  have hA : DataW.TrodAll enc Tryd.prog W 0 (fun _ => true) true Tryd.f4.params.toList args.toList ds p := hA0
  rw [Tryd.params4] at hA hval
  clear hA0 hval0
  obtain ⟨v0, vs0, d0, ds0, p0, q0, hargs0, rfl, rfl, h0, r0⟩ := trodAll_cons hA
  obtain ⟨v1, vs1, d1, ds1, p1, q1, hargs1, rfl, rfl, h1, r1⟩ := trodAll_cons r0
  obtain ⟨v2, vs2, d2, ds2, p2, q2, hargs2, rfl, rfl, h2, r2⟩ := trodAll_cons r1
  obtain ⟨hn1, rfl, rfl⟩ := trodAll_nil r2
  subst hn1
  subst hargs2
  subst hargs1
  obtain rfl : args = #[v0, v1, v2] := by cases args; simp_all
  obtain ⟨rfl, rfl⟩ := trodVars_none hV
  obtain ⟨xs0, u0⟩ := open_limbs (hval 0 22 v0 rfl rfl) h0 (fun x hx => hlt x (by simp [hx]))
  obtain ⟨z1, rfl, rfl, rfl, hz1⟩ := open_int Tryd.underlying5 (hval 1 5 v1 rfl rfl) h1
  have hb1 := bounds_u8 hz1
  obtain ⟨n1, rfl⟩ := Int.eq_ofNat_of_zero_le (show 0 ≤ z1 by omega)
  obtain ⟨cs2, u2, hcs2⟩ := open_sums (hval 2 27 v2 rfl rfl) h2 (fun x hx => hlt x (by simp [hx]))
  refine (MulCarries_walk W (gl_of_laid hL) _ _ u0 n1 (by omega) _ _ u2 hcs2).mono fun e W' ⟨he, hB⟩ => ?_
  subst he
  exact ⟨_, rfl, law_post hW' rfl (by rw [Tryd.params4]; decide +kernel) rfl rfl rfl rfl hB⟩

theorem mulCarries_said : Rows.MulCarriesSaid :=
  OpenClaim.holds_of_wide 4 Tryd.f4 rfl rfl rfl rfl rfl rfl rfl ⟨rfl, rfl, rfl, rfl, rfl⟩ rfl rfl rfl rfl rfl (by kernel_rfl) Tryd.func4 (by kernel_rfl)
    (of_decide_eq_true (by kernel_rfl)) (by unfold Func.isWrapper; first | (rw [if_pos (by decide +kernel)]; kernel_rfl) | (rw [if_neg (by decide +kernel)]; exact ⟨rfl, rfl⟩))
    (fun os started H enc _ => lifted_MulCarries os started H enc)
/-- The statement: the card, tied. -/
theorem mulCarries_holds : Rows.MulCarriesCardSaid :=
  Claim7.holds_tied_plain_at .later [] [.wider] true Rows.mulCarriesCard.stood.harness false
    mulCarries_said (fun _ h => by cases h) (by kernel_rfl) (fun _ h => by cases h) mulCarries_row_tie rfl ⟨rfl, rfl⟩ (by kernel_rfl) rfl
    (fun f fn hf hfn => by
      obtain rfl : f = 4 := Option.some.inj ((show Tryd.prog.funcNamed "ziggurat/zigguratlaw03.MulCarries" = some 4 by kernel_rfl).symm.trans hf) |>.symm
      obtain rfl : fn = Tryd.f4 := (Option.some.inj (Tryd.func4.symm.trans hfn)).symm
      exact ⟨by kernel_rfl, fun j t ht => by
        rw [Tryd.params4] at ht
        have hm : t ∈ [22, 5, 27] := by simpa using Array.mem_of_getElem? ht
        have hall : ([22, 5, 27].all fun u => !Tryd.prog.wantsStandIn u) = true := by kernel_rfl
        exact (show Tryd.prog.wantsStandIn t = false by simpa using List.all_eq_true.1 hall t hm)⟩)
    (by kernel_rfl)
end Go.Proofs.YtkmejhkdmnjbeaaDoor
