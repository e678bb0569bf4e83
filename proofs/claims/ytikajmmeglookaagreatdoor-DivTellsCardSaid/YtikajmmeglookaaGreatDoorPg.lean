/- A word of a quotient, and what is left. -/
import Derived.Test.YtikajmmeglookaaGreatDoorPf
import Derived.Laws.Bits64
import Derived.Deep.RegionHeld3

namespace Go.Proofs.YtikajmmeglookaaGreatDoor
open Go.RowKit
set_option linter.unusedVariables false
set_option maxHeartbeats 400000

theorem addr_off (g off j : Nat) : (⟨g, off, none⟩ : Addr).add j = ⟨g, off + j, none⟩ := by
  unfold Addr.add
  by_cases h : j = 0 <;> simp [h]
/-- A part of a row is read. -/
theorem Ow.part {w : World} {base g n c : Nat} {pre s post : List Nat} (h : Ow w base (.slice (some ⟨g, 0, none⟩) n c) (Sg pre s post)) {off m zc : Nat} (hpre : pre.length = off) (hs : s.length = m) (hx : ∀ x ∈ s, x < 18446744073709551616) (hn : n ≤ 1000000) (hzc : m ≤ zc) (q : Nat) (hq : g ≠ q) :
    V q w (.slice (some ⟨g, off, none⟩) m zc) s := by
  obtain ⟨e, h1, h2⟩ := h.caps
  rw [sg_len] at e
  refine ⟨_, zc, by rw [hs], ⟨by omega, by omega⟩, hx, fun h0 => ⟨_, rfl, h.block.2, hq, fun j hj => ?_⟩⟩
  rw [addr_off, h.cell (j := off + j) (by omega), sg_lb _ _ _ _ _ hpre hj]
theorem sg_lt {pre s post : List Nat} {b : Nat} (h : ∀ x ∈ Sg pre s post, x < b) : ∀ x ∈ s, x < b := fun x hx => h x (by unfold Sg; simp [hx])

theorem dg_lt (n T : Nat) (s0 s : List Nat) (bo t : Nat) (h : DgI (n + 1) (wal s0) T n s0 s bo) (ht : lb s0 n = t) (hb : t < bo) : wal s0 < T := by
  have h1 := wal_lt_top s n h.len h.lt
  rw [h.out n (Nat.le_refl _), ht] at h1
  have h2 := h.val
  have h3 : BB ^ n * (t + 1) ≤ BB ^ n * bo := Nat.mul_le_mul_left _ hb
  omega
/-- What is left at the end, either way. -/
theorem dg_end1 (V q A S : Nat) (h : S + V * q = A) (ht : A < (q + 1) * V) : q * V + S = A ∧ S < V := by
  rw [Nat.mul_comm V q] at h
  rw [Nat.add_mul, Nat.one_mul] at ht
  omega
theorem dg_end2 (V q1 A S : Nat) (h : S + q1 * V = A) (ht : A < V * (q1 + 1)) : q1 * V + S = A ∧ S < V := by
  rw [Nat.mul_add, Nat.mul_one, Nat.mul_comm V q1] at ht
  omega

set_option maxRecDepth 100000 in
set_option maxHeartbeats 8000000 in
theorem digit_calls (w : World) (g base N c off zc : Nat) (pre s post vs : List Nat) (vv : Value) (hown : Ow w base (.slice (some ⟨g, 0, none⟩) N c) (Sg pre s post)) (hx : ∀ x ∈ s, x < 18446744073709551616) (hpre : pre.length = off)
    (m k : Nat) (hk : m = k + 1) (hs : s.length = m + 1) (hvs : vs.length = m) (hzc : m + 1 ≤ zc) (hN : N ≤ 1000000) (hv : V g w vv vs) (top : 9223372036854775808 ≤ lb vs k) (hlt : wal s < BB * wal vs) :
    Calls Tryz.prog 66 #[.slice (some ⟨g, off, none⟩) (m + 1 : Nat) zc, vv] w fun e w' => (∃ q s', e = .returned (.int .u64 (q : Nat)) ∧ q < 18446744073709551616 ∧ s'.length = m + 1 ∧ (∀ x ∈ s', x < 18446744073709551616) ∧ q * wal vs + wal s' = wal s ∧ wal s' < wal vs ∧
      Ow w' base (.slice (some ⟨g, 0, none⟩) N c) (Sg pre s' post)) ∧ But g w w' := by
  obtain ⟨hcap, hcap1, hcap2⟩ := hown.caps
  rw [sg_len, hpre, hs] at hcap
  have hu : V (g + 1) w (.slice (some ⟨g, off, none⟩) (m + 1) zc) s := hown.part hpre hs hx hN hzc (g + 1) (by omega)
  have hGu := Lib.hid (guess_calls w (g + 1) g _ vv s vs hu hv m k hk hs hvs (by omega) top hlt)
  have hgb := hown.block.2
  have HPRE := Lib.hid hpre
  have HS := Lib.hid hs
  have hxv := hv.lim
  have HXV : Hid (∀ j, lb vs j < 18446744073709551616) := fun j => lb_lt_of (by decide) hxv j
  have HTK := Lib.hid (fun j (h : j < m) => wal_take_succ vs j (by omega))
  have HT2 : Hid (vs.take m = vs) := by rw [Hid, ← hvs]; exact List.take_length
  have HD0 : Hid (∀ q, DgI (m + 1) (wal s) (wal (vs.take 0) * q) 0 s s 0) := fun q => ⟨hs, hx, by decide, by simp [wal], fun m _ => rfl⟩
  have HT0 : Hid (lb s m < 18446744073709551616) := lb_lt_of (by decide) hx m
  obtain ⟨t, ht⟩ : ∃ t, lb s m = t := ⟨_, rfl⟩
  have HT := Lib.hid ht
  have hoff : off + m < N := by omega
  have hm1 : m ≤ 1000000 := by omega
  obtain ⟨av, cv, rfl, hcv, hbv, hgv, hcellv⟩ := hv.opened (n := m) hvs (by omega)
  have hmi : ((m + 1 : Nat) : Int) = (m : Int) + 1 := by omega
  have e3 : (m : Int) < (m : Int) + 1 := by omega
  have e4 : m ≤ zc := by omega
  have e5 : (m : Int) ≤ (zc : Int) := by omega
  clear hu hv hx hpre hs hvs top hlt hcap hcap1 hcap2 ht hxv hk
  go_enter Tryz.func66, Tryz.ntmps66
  go_wp2_with (fail)
  refine hGu.out.mono ?_
  rintro e w1 ⟨⟨q, rfl, hq, hq1, hq2⟩, hB⟩
  have hB0 : But g w w1 := (But.refl g w).ext hB
  replace hown := hown.ext hB
  have HQ1 := Lib.hid hq1
  have HQ2 := Lib.hid hq2
  clear hB hq1 hq2 hGu
  go_wp2
  go_loopw [29, 7] (fun t7 s7 wr => ∃ (i : Nat) (s' : List Nat) (bo : Nat), i ≤ m ∧ t7 = .int .i64 (i : Nat) ∧ s7 = .int .u64 (bo : Nat) ∧ Hid (DgI (m + 1) (wal s) (wal (vs.take i) * q) i s s' bo) ∧ Ow wr base (.slice (some ⟨g, 0, none⟩) N c) (Sg pre s' post) ∧ But g w wr) (fun t7 _ _ => m - (intOf t7).toNat)
  case atStart => exact ⟨0, s, 0, Nat.zero_le _, rfl, rfl, HD0.out q, hown, hB0⟩
  case round =>
    clear hown hB0
    obtain ⟨i, s', bo, hi, rfl, rfl, HO, hown, hB⟩ := hrel
    by_cases hlt : i < m
    · have hc0 := (hB.cell (p := av.add i) (by rw [addr_add_block]; exact hbv) (by rw [addr_add_block]; exact hgv)).trans (hcellv i hlt)
      have hy := HXV.out i
      have htk := HTK.out i hlt
      have hl := HO.out.len
      have hcz := hown.cell (j := off + i) (by omega)
      rw [sg_lb _ _ _ _ _ HPRE.out (by omega)] at hcz
      have hf := hown.frozen (off + i)
      have hx1 : lb s' i < 18446744073709551616 := lb_lt_of (by decide) HO.out.lt _
      have hcy := HO.out.b1
      obtain ⟨x, hxx⟩ : ∃ x, lb vs i = x := ⟨_, rfl⟩
      rw [hxx] at hc0 hy htk
      obtain ⟨z, hzz⟩ : ∃ z, lb s' i = z := ⟨_, rfl⟩
      rw [hzz] at hcz hx1
      obtain ⟨p, hp⟩ : ∃ p, x * q = p := ⟨_, rfl⟩
      have hp1 : p ≤ 340282366920938463426481119284349108225 := by rw [← hp]; exact sq64 hy hq
      obtain ⟨ph, hph⟩ : ∃ ph, p / 18446744073709551616 = ph := ⟨_, rfl⟩
      obtain ⟨pl, hpl⟩ : ∃ pl, p % 18446744073709551616 = pl := ⟨_, rfl⟩
      obtain ⟨s1, hs1⟩ : ∃ s1, (z + 18446744073709551616 - pl - 0) % 18446744073709551616 = s1 := ⟨_, rfl⟩
      obtain ⟨c1, hc1⟩ : ∃ c1, (if z < pl + 0 then 1 else 0) = c1 := ⟨_, rfl⟩
      obtain ⟨s2, hs2⟩ : ∃ s2, (s1 + 18446744073709551616 - bo - 0) % 18446744073709551616 = s2 := ⟨_, rfl⟩
      obtain ⟨c2, hc2⟩ : ∃ c2, (if s1 < bo + 0 then 1 else 0) = c2 := ⟨_, rfl⟩
      have hplb : pl < 18446744073709551616 := by rw [← hpl]; exact Nat.mod_lt _ (by decide)
      have hs1b : s1 < 18446744073709551616 := by rw [← hs1]; exact Nat.mod_lt _ (by decide)
      have hs2b : s2 < 18446744073709551616 := by rw [← hs2]; exact Nat.mod_lt _ (by decide)
      have q1 : s1 + pl = z + 18446744073709551616 * c1 := sub_one z pl s1 c1 hx1 hplb hs1 hc1
      have q2 : s2 + bo = s1 + 18446744073709551616 * c2 := sub_one s1 bo s2 c2 hs1b hcy hs2 hc2
      obtain ⟨hst1, hst2, hst3⟩ := ms_step x q bo z s1 c1 s2 c2 ph pl (ph + c1 + c2) hy hq hcy hx1 (by rw [hp, ← hph, ← hpl]; exact (Nat.div_add_mod _ _).symm) hplb q1 hs1b q2 hs2b rfl
      have hst := HO.out.step (by omega) p s2 (ph + c1 + c2) (by rw [hzz, ← hp]; exact hst1) hs2b hst2
      rw [← hp, ← Nat.mul_assoc, ← Nat.add_mul, ← htk] at hst
      have HST := Lib.hid hst
      have hown2 := hown.set_ (off + i) s2
      rw [sg_set _ _ _ _ _ _ HPRE.out (by omega)] at hown2
      have hB2 := hB.setCell (off + i) (.int .u64 (s2 : Nat))
      have hMul : Hid (∀ W, Calls Tryz.prog 87 #[.int .u64 (x : Nat), .int .u64 (q : Nat)] W fun e w' => e = .returned (.tuple #[.int .u64 (ph : Nat), .int .u64 (pl : Nat)]) ∧ w' = W) := by
        intro W
        have := mul64_calls x q hy hq W
        rw [hp, hph, hpl] at this
        exact this
      have hadd1 : ∀ w, (callFunc 88 #[.int .u64 (z : Nat), .int .u64 (pl : Nat), .int .u64 0]).run Tryz.prog w = .ok (.value (.tuple #[.int .u64 (s1 : Nat), .int .u64 (c1 : Nat)])) w := run_subc z pl 0 s1 c1 (Nat.zero_le _) hs1 hc1
      have hadd2 : ∀ w, (callFunc 88 #[.int .u64 (s1 : Nat), .int .u64 (bo : Nat), .int .u64 0]).run Tryz.prog w = .ok (.value (.tuple #[.int .u64 (s2 : Nat), .int .u64 (c2 : Nat)])) w := run_subc s1 bo 0 s2 c2 (Nat.zero_le _) hs2 hc2
      obtain ⟨d1, hd1⟩ : ∃ d1, ph + c1 = d1 := ⟨_, rfl⟩
      obtain ⟨d, hd⟩ : ∃ d, d1 + c2 = d := ⟨_, rfl⟩
      rw [hd1] at hst3 HST hst2
      rw [hd] at HST hst2
      have f1 : (ph : Int) + (c1 : Int) = (d1 : Int) := by rw [← hd1]; rfl
      have f2 : (d1 : Int) + (c2 : Int) = (d : Int) := by rw [← hd]; rfl
      have f3 := u64_fit hst3
      have f4 := u64_fit hst2
      have f5 := u64_mod hst3
      have f6 := u64_mod hst2
      clear hst htk hxx hzz hp hph hpl hs1 hc1 hs2 hc2 hown hB HO hd hd1 hp1 hst1 hst2 hst3 q1 q2 hplb hs1b hs2b hy hx1 hcy hl
      go_wp2_with (fail)
      refine (hMul.out _).mono ?_
      rintro e w' ⟨rfl, rfl⟩
      clear hMul
      go_wp2
      go_roundw
      case rel => exact ⟨i + 1, _, d, by omega, by go_num, rfl, HST, hown2, hB2⟩
      case measure => simp [intOf]; omega
    · obtain rfl : i = m := by omega
      rw [HT2.out] at HO
      have hl := HO.out.len
      have hcz := hown.cell (j := off + i) (by omega)
      rw [sg_lb _ _ _ _ _ HPRE.out (by omega), HO.out.out _ (Nat.le_refl _), HT.out] at hcz
      have hf := hown.frozen (off + i)
      have hbo := HO.out.b1
      have htb := HT0.out
      rw [HT.out] at htb
      by_cases hab : t < bo
      · obtain ⟨x, hx⟩ : ∃ x, t + 18446744073709551616 - bo = x := ⟨_, rfl⟩
        have hxb : x < 18446744073709551616 := by omega
        obtain ⟨r1, r2⟩ := dg_over1 i (wal vs * q) s s' bo t x HO.out HT.out (by unfold BB; omega) hab
        have r5 := dg_lt i (wal vs * q) s s' bo t HO.out HT.out hab
        have hq0 : 1 ≤ q := by
          rcases Nat.eq_zero_or_pos q with h | h
          · rw [h, Nat.mul_zero] at r5; omega
          · exact h
        obtain ⟨qq, hqq⟩ : ∃ qq, q - 1 = qq := ⟨_, rfl⟩
        have hqe : q = qq + 1 := by omega
        have hqb : qq < 18446744073709551616 := by omega
        have HEND : Hid (∀ s2 c, AdI (i + 1) 0 (wal (s'.set i x) + wal vs) i s2 c → lb s2 i + c = BB ∧ qq * wal vs + wal (s2.set i 0) = wal s ∧ wal (s2.set i 0) < wal vs) := fun s2 c h => by
          rw [hqe] at r1 r5
          obtain ⟨a, b⟩ := dg_over2 i (wal vs * (qq + 1)) (wal vs) qq (wal s) (wal (s'.set i x)) s2 c r1 (by rw [Nat.mul_add, Nat.mul_one, Nat.mul_comm qq]) (by have := HQ2.out; rw [hqe, Nat.add_mul, Nat.one_mul] at this; omega) h
          exact ⟨a, dg_end2 (wal vs) qq (wal s) _ b r5⟩
        have hown2 := hown.set_ (off + i) x
        rw [sg_set _ _ _ _ _ _ HPRE.out (by omega)] at hown2
        have hB2 := hB.setCell (off + i) (.int .u64 (x : Nat))
        have HA0 : Hid (AdI (i + 1) 0 (wal (s'.set i x) + wal (vs.take 0)) 0 (s'.set i x) 0) := ⟨by rw [List.length_set]; exact hl, r2, Nat.zero_le _, by simp [wal]⟩
        have f1 : ((t : Int) - (bo : Int)) % 18446744073709551616 = (x : Int) := by omega
        have f2 : IntKind.u64.wrap ((t : Int) - (bo : Int)) = (x : Int) := by rw [IntKind.wrap_u64]; exact f1
        have f3 := u64_fit hxb
        have g1 : (q : Int) - 1 = (qq : Int) := by omega
        have g2 := u64_fit hqb
        have g3 := u64_mod hqb
        clear r1 r2 r5 hq0 hqe hown hB HO hl hbo htb hx hxb HD0
        go_wp2
        generalize hWW : wr.setCell ⟨g, off + i, none⟩ (.int .u64 (x : Nat)) = w2 at *
        clear hWW
        go_loopw [84, 16] (fun t7 s7 wx => ∃ (j : Nat) (s2 : List Nat) (cy : Nat), j ≤ i ∧ t7 = .int .i64 (j : Nat) ∧ s7 = .int .u64 (cy : Nat) ∧ Hid (AdI (i + 1) 0 (wal (s'.set i x) + wal (vs.take j)) j s2 cy) ∧ Ow wx base (.slice (some ⟨g, 0, none⟩) N c) (Sg pre s2 post) ∧ But g w wx) (fun t7 _ _ => i - (intOf t7).toNat)
        case atStart => exact ⟨0, _, 0, Nat.zero_le _, rfl, rfl, HA0, hown2, hB2⟩
        case round =>
          clear hown2 hB2 HA0
          obtain ⟨j, s2, cy, hj, rfl, rfl, HO, hown, hB⟩ := hrel
          have hl := HO.out.len
          have hcy := HO.out.cy1
          by_cases hlt : j < i
          · have hc0 := (hB.cell (p := av.add j) (by rw [addr_add_block]; exact hbv) (by rw [addr_add_block]; exact hgv)).trans (hcellv j hlt)
            have hy := HXV.out j
            have htk := HTK.out j hlt
            have hcz := hown.cell (j := off + j) (by omega)
            rw [sg_lb _ _ _ _ _ HPRE.out (by omega)] at hcz
            have hf := hown.frozen (off + j)
            have hx1 : lb s2 j < 18446744073709551616 := lb_lt_of (by decide) HO.out.lt _
            obtain ⟨y, hyy⟩ : ∃ y, lb vs j = y := ⟨_, rfl⟩
            rw [hyy] at hc0 hy htk
            obtain ⟨z, hzz⟩ : ∃ z, lb s2 j = z := ⟨_, rfl⟩
            obtain ⟨s3, hs3⟩ : ∃ s3, (z + y + cy) % 18446744073709551616 = s3 := ⟨_, rfl⟩
            obtain ⟨d, hd⟩ : ∃ d, (z + y + cy) / 18446744073709551616 = d := ⟨_, rfl⟩
            have hst := HO.out.step (by omega) y s3 d hy (by rw [Nat.zero_add, hzz]; exact hs3) (by rw [Nat.zero_add, hzz]; exact hd)
            rw [Nat.zero_add, Nat.add_assoc, ← htk] at hst
            have HST := Lib.hid hst
            rw [hzz] at hcz hx1
            have hown2 := hown.set_ (off + j) s3
            rw [sg_set _ _ _ _ _ _ HPRE.out (by omega)] at hown2
            have hB2 := hB.setCell (off + j) (.int .u64 (s3 : Nat))
            have hadd := run_addc z y cy s3 d hcy hs3 hd
            clear hst htk hyy hs3 hd hzz hown hB HO hy hx1 hcy hl
            go_wp2
            go_roundw
            case rel => exact ⟨j + 1, _, d, by omega, by go_num, rfl, HST, hown2, hB2⟩
            case measure => simp [intOf]; omega
          · obtain rfl : j = i := by omega
            rw [HT2.out] at HO
            obtain ⟨a1, a2, a3⟩ := HEND.out s2 cy HO.out
            have hcz := hown.cell (j := off + j) (by omega)
            rw [sg_lb _ _ _ _ _ HPRE.out (by omega)] at hcz
            have hf := hown.frozen (off + j)
            obtain ⟨z, hzz⟩ : ∃ z, lb s2 j = z := ⟨_, rfl⟩
            rw [hzz] at hcz a1
            have f1 : ((z : Int) + (cy : Int)) % 18446744073709551616 = 0 := by unfold BB at a1; omega
            have f2 : IntKind.u64.wrap ((z : Int) + (cy : Int)) = 0 := by rw [IntKind.wrap_u64]; exact f1
            have hown2 := hown.set_ (off + j) 0
            rw [sg_set _ _ _ _ _ _ HPRE.out (by omega)] at hown2
            have hB2 := hB.setCell (off + j) (.int .u64 (0 : Nat))
            have HFN : Hid (∃ q' s3, Ending.returned (.int .u64 (qq : Nat)) = .returned (.int .u64 (q' : Nat)) ∧ q' < 18446744073709551616 ∧ s3.length = j + 1 ∧ (∀ x ∈ s3, x < 18446744073709551616) ∧ q' * wal vs + wal s3 = wal s ∧ wal s3 < wal vs ∧
              Ow (wr.setCell ⟨g, off + j, none⟩ (.int .u64 0)) base (.slice (some ⟨g, 0, none⟩) N c) (Sg pre s3 post)) := ⟨qq, _, rfl, hqb, by rw [List.length_set]; exact hl, set_lt HO.out.lt (by decide), a2, a3, hown2⟩
            have hE : Hid (But g w (wr.setCell ⟨g, off + j, none⟩ (.int .u64 0))) := hB2
            clear a1 a2 a3 hown2 hown hB hB2 HO hl hcy hzz hq hqb HEND
            go_wp2
            go_ret
            exact ⟨HFN.out, hE.out⟩
      · obtain ⟨x, hx⟩ : ∃ x, t - bo = x := ⟨_, rfl⟩
        have hxb : x < 18446744073709551616 := by omega
        obtain ⟨r1, r2⟩ := dg_fit i (wal vs * q) s s' bo t x HO.out HT.out (by omega)
        obtain ⟨r3, r4⟩ := dg_end1 (wal vs) q (wal s) _ r1 HQ1.out
        have hown2 := hown.set_ (off + i) x
        rw [sg_set _ _ _ _ _ _ HPRE.out (by omega)] at hown2
        have hB2 := hB.setCell (off + i) (.int .u64 (x : Nat))
        have f1 : (t : Int) - (bo : Int) = (x : Int) := by omega
        have f2 := u64_fit hxb
        have f3 := u64_mod hxb
        have HFN : Hid (∃ q' s2, Ending.returned (.int .u64 (q : Nat)) = .returned (.int .u64 (q' : Nat)) ∧ q' < 18446744073709551616 ∧ s2.length = i + 1 ∧ (∀ x ∈ s2, x < 18446744073709551616) ∧ q' * wal vs + wal s2 = wal s ∧ wal s2 < wal vs ∧
          Ow (wr.setCell ⟨g, off + i, none⟩ (.int .u64 (x : Nat))) base (.slice (some ⟨g, 0, none⟩) N c) (Sg pre s2 post)) := ⟨q, _, rfl, hq, by rw [List.length_set]; exact hl, r2, r3, r4, hown2⟩
        have hE : Hid (But g w (wr.setCell ⟨g, off + i, none⟩ (.int .u64 (x : Nat)))) := hB2
        clear r1 r2 r3 r4 hown2 hown hB hB2 HO hl hbo htb hx hxb hq
        go_wp2
        go_ret
        exact ⟨HFN.out, hE.out⟩
end Go.Proofs.YtikajmmeglookaaGreatDoor
/- Differences; limbs in words of 64 bits and back. -/
namespace Go.Proofs.YtikajmmeglookaaGreatDoor
open Go.RowKit
set_option linter.unusedVariables false
set_option maxHeartbeats 400000

theorem less_B (w : World) (v u : Value) (n m d : Nat) (h : Un w v n) (g : Un w u m) (hl : (limbs n).length ≤ 1000000) (hle : m ≤ n) (hd : n - m = d) :
    Calls Tryz.prog 44 #[v, u] w fun e w' => ∃ z, e = .returned z ∧ Un w' z d ∧ Ext w w' := by
  have h0 := Lib.hid (sub_B w v u n m h g (by omega) true (by rw [decide_eq_true_iff]; exact hle) d hd)
  clear h g hle hd
  go_enter Tryz.func44, Tryz.ntmps44
  go_wp2_with (fail)
  refine h0.out.mono ?_
  rintro e w1 ⟨z, rfl, hz, hB⟩
  have HF : Hid (∃ z', Ending.returned z = .returned z' ∧ Un w1 z' d ∧ Ext w w1) := ⟨_, rfl, hz, hB⟩
  clear hz hB h0
  go_wp2
  go_ret
  exact HF.out

set_option maxRecDepth 100000 in
set_option maxHeartbeats 4000000 in
theorem dpack_calls (w : World) (v : Value) (xs : List Nat) (h : U w v xs) (hl : xs.length ≤ 100000) (n : Nat) (hn : (xs.length + 1) / 2 ≤ n) (hn2 : n ≤ 100000) :
    Calls Tryz.prog 65 #[v, .int .i64 (n : Nat)] w fun e w' => e = .returned (.slice (some ⟨w.heap.size, 0, none⟩) n n) ∧ (∃ o, Ow w' w.heap.size (.slice (some ⟨w.heap.size, 0, none⟩) n n) o ∧ wal o = val xs ∧ (∀ x ∈ o, x < 18446744073709551616) ∧ o.length = n) ∧ Ext w w' := by
  obtain ⟨A, c, rfl, ⟨hc, hmx⟩, hx, hr⟩ := h
  obtain ⟨i0, hi, hz0, hz1, hz2⟩ := info_parts info64
  obtain ⟨L, hL⟩ : ∃ L, xs.length = L := ⟨_, rfl⟩
  rw [hL] at hc hmx hr hl hn ⊢
  have HDN : Hid (∀ o, PcI xs n L o → wal o = val xs ∧ ∀ x ∈ o, x < 18446744073709551616) := fun o h => h.done hL hn hx
  obtain ⟨B, hB⟩ : ∃ B, w.heap.size = B := ⟨_, rfl⟩
  rw [hB]
  have hP0 : Hid (PcI xs n 0 (List.replicate n 0)) := PcI.start xs n
  clear hL
  go_enter Tryz.func65, Tryz.ntmps65
  go_wp2_with (at_make; refine wpList_make_full _ rfl _ _ 69 rfl w.heap.size 56 i0 (.int .u64 0) 1 Tryz.underlying69 hi hz0 hz1 _ _ _ _ n rfl rfl (by omega) (by omega) (by rw [hz2]; omega) (by unfold maxLen; omega) (Nat.le_refl _) ?_; intro w1 hown hgrow)
  have ho0 := Ow.zeros hown
  have hE0 : Ext w w1 := (Ext.refl w).grown hgrow (Nat.le_refl _) (fun _ h => by cases h)
  rw [hB] at ho0
  clear hown hgrow hi hz0 hz1 hz2 i0
  go_wp2
  go_loopw [12] (fun t wr => ∃ (i : Nat) (o : List Nat), i ≤ L ∧ t = .int .i64 (i : Nat) ∧ Hid (PcI xs n i o) ∧ Ow wr B (.slice (some ⟨B, 0, none⟩) n n) o ∧ Ext w wr) (fun t _ => L - (intOf t).toNat)
  case atStart => exact ⟨0, _, Nat.zero_le _, rfl, hP0, ho0, hE0⟩
  case round =>
    clear ho0 hE0 hP0
    obtain ⟨i, o, hiq, rfl, HO, hown, hE⟩ := hrel
    by_cases hlt : i < L
    · obtain ⟨ad, rfl, hb, hcell⟩ := hr (by omega)
      have hc0 := (hE.cell (p := ad.add i) (by rw [addr_add_block]; exact hb)).trans (hcell i (by omega))
      have hxb := lb_lt hx i
      obtain ⟨x, hx0⟩ : ∃ x, lb xs i = x := ⟨_, rfl⟩
      rw [hx0] at hc0 hxb
      have hxw := u64_fit (show x < 18446744073709551616 by omega)
      have hxm := u64_mod (show x < 18446744073709551616 by omega)
      have hbn : (ad.add i).block ≠ B := by rw [addr_add_block]; omega
      obtain ⟨k, hk⟩ : ∃ k, i / 2 = k := ⟨_, rfl⟩
      have k1 : (i : Int) / 2 = (k : Int) := by omega
      have k2 : (i : Int).tdiv 2 = (k : Int) := by rw [Int.tdiv_eq_ediv_of_nonneg (by omega)]; exact k1
      have k3 : (k : Int) < (n : Int) := by omega
      have k4 : (0 : Int) ≤ (k : Int) := Int.natCast_nonneg k
      have k5 := i64_fit (show k ≤ 1000000 by omega)
      have k6 : k < n := by omega
      have hf := hown.frozen k
      have hcz := hown.cell (j := k) k6
      rcases (show i = 2 * k ∨ i = 2 * k + 1 by omega) with e | e
      · obtain ⟨p1, p2⟩ := HO.out.low k e k6 x hx0
        rw [p1] at hcz
        have HST := Lib.hid p2
        have m1 : (i : Int) % 2 = 0 := by omega
        have m2 : (i : Int).tmod 2 = 0 := by rw [Int.tmod_eq_emod_of_nonneg (by omega)]; exact m1
        have o1 : bits .or .u64 0 (x : Int) = (x : Int) := by
          have := u64_or_nat 0 x (by decide) (by omega)
          rw [Nat.zero_or] at this
          exact this
        have hown2 := hown.set_ k x
        have hE2 := hE.setCell (p := ⟨B, k, none⟩) (by rw [hB]; exact Nat.le_refl _) (.int .u64 (x : Nat))
        clear hx0 hk e p1 p2 hown HO hE hxb
        go_wp2
        go_region
        all_goals
          go_wp2
          go_roundw
          case rel => exact ⟨i + 1, _, by omega, by go_num, HST, hown2.drew, hE2.drew⟩
          case measure => simp [intOf]; omega
      · obtain ⟨p1, p2⟩ := HO.out.high k e k6 x hx0
        have hyb := lb_lt hx (2 * k)
        obtain ⟨y, hy0⟩ : ∃ y, lb o k = y := ⟨_, rfl⟩
        rw [hy0] at hcz p1 p2
        rw [← p1] at hyb
        obtain ⟨z, hz⟩ : ∃ z, y + 4294967296 * x = z := ⟨_, rfl⟩
        rw [hz] at p2
        have HST := Lib.hid p2
        have m1 : (i : Int) % 2 = 1 := by omega
        have m2 : (i : Int).tmod 2 = 1 := by rw [Int.tmod_eq_emod_of_nonneg (by omega)]; exact m1
        have o1 := u64_or32 y x z hyb hxb hz
        have o2 : (x : Int) * 4294967296 = ((4294967296 * x : Nat) : Int) := by omega
        have o3 := u64_fit (show 4294967296 * x < 18446744073709551616 by omega)
        have o4 := u64_mod (show 4294967296 * x < 18446744073709551616 by omega)
        have hown2 := hown.set_ k z
        have hE2 := hE.setCell (p := ⟨B, k, none⟩) (by rw [hB]; exact Nat.le_refl _) (.int .u64 (z : Nat))
        generalize 4294967296 * x = x2 at *
        clear hx0 hk e p1 p2 hown HO hE hxb hyb hy0 hz
        go_wp2
        go_region
        all_goals
          go_wp2
          go_roundw
          case rel => exact ⟨i + 1, _, by omega, by go_num, HST, hown2.drew, hE2.drew⟩
          case measure => simp [intOf]; omega
    · obtain rfl : i = L := by omega
      obtain ⟨d1, d2⟩ := HDN.out o HO.out
      have HF : Hid (∃ o, Ow wr B (.slice (some ⟨B, 0, none⟩) n n) o ∧ wal o = val xs ∧ (∀ x ∈ o, x < 18446744073709551616) ∧ o.length = n) := ⟨o, hown, d1, d2, HO.out.len⟩
      clear d1 d2 hown HO
      go_wp2
      go_ret
      exact ⟨rfl, HF.out, hE⟩

set_option maxRecDepth 100000 in
set_option maxHeartbeats 4000000 in
theorem dunpack_calls (w : World) (g0 : Nat) (v : Value) (ws : List Nat) (h : V g0 w v ws) (hl : ws.length ≤ 1000000) (k : Nat) (hk : wal ws = k) :
    Calls Tryz.prog 67 #[v] w fun e w' => (∃ u, e = .returned u ∧ Un w' u k) ∧ Ext w w' := by
  obtain ⟨A, c, rfl, ⟨hc, hmx⟩, hx, hr⟩ := h
  obtain ⟨i0, hi, hz0, hz1, hz2⟩ := info_parts info32
  obtain ⟨n, hn⟩ : ∃ n, ws.length = n := ⟨_, rfl⟩
  rw [hn] at hc hmx hr hl ⊢
  obtain ⟨m, hm⟩ : ∃ m, 2 * n = m := ⟨_, rfl⟩
  have HM : Hid ((unpackL ws).length = m) := by rw [Hid, unpackL_len, hn]; exact hm
  have hmi : (2 : Int) * (n : Int) = (m : Int) := by omega
  obtain ⟨B, hB⟩ : ∃ B, w.heap.size = B := ⟨_, rfl⟩
  have hm1 : m ≤ 2000000 := by omega
  have HW := Lib.hid (unpackL_lt ws hx)
  have HTR := Lib.hid (fun W v h => make_B W v (unpackL ws) h k (by rw [val_unpackL]; exact hk))
  clear hn hk
  go_enter Tryz.func67, Tryz.ntmps67
  go_wp2_with (at_make; refine wpList_make_full _ rfl _ _ 22 rfl w.heap.size 23 i0 (.int .u32 0) 1 Tryz.underlying22 hi hz0 hz1 _ _ _ _ m rfl rfl (by omega) (by omega) (by rw [hz2]; omega) (by unfold maxLen; omega) (Nat.le_refl _) ?_; intro w1 hown hgrow)
  have ho0 : Own w1 w.heap.size (.slice (some ⟨w.heap.size, 0, none⟩) m m) (List.replicate m 0) := by
    have := Own.zeros hown
    rwa [List.length_replicate] at this
  have hE0 : Ext w w1 := (Ext.refl w).grown hgrow (Nat.le_refl _) (fun _ h => by cases h)
  rw [hB] at ho0
  clear hown hgrow hi hz0 hz1 hz2 i0
  go_wp2
  go_loopw [12] (fun t wr => ∃ (i : Nat) (o : List Nat), i ≤ n ∧ t = .int .i64 (i : Nat) ∧ Hid (UnI ws m i o) ∧ Own wr B (.slice (some ⟨B, 0, none⟩) m m) o ∧ Ext w wr) (fun t _ => n - (intOf t).toNat)
  case atStart => exact ⟨0, _, Nat.zero_le _, rfl, ⟨by simp, fun j hj => absurd hj (by omega)⟩, ho0, hE0⟩
  case round =>
    clear ho0 hE0
    obtain ⟨i, o, hiq, rfl, HO, hown, hE⟩ := hrel
    by_cases hlt : i < n
    · obtain ⟨ad, rfl, hb, hne, hcell⟩ := hr (by omega)
      have hc0 := (hE.cell (p := ad.add i) (by rw [addr_add_block]; exact hb)).trans (hcell i hlt)
      have hb0 : lb ws i < 18446744073709551616 := lb_lt_of (by decide) hx i
      obtain ⟨x, hx0⟩ : ∃ x, lb ws i = x := ⟨_, rfl⟩
      rw [hx0] at hc0 hb0
      have HST : Hid (UnI ws m (i + 1) ((o.set (2 * i) (x % 4294967296)).set (2 * i + 1) (x / 4294967296))) := HO.out.step (by omega) x hx0
      have hol := HO.out.len
      have hf0 := hown.frozen' (2 * i)
      have hf1 := hown.frozen' (2 * i + 1)
      have hk0 := hown.rd.2 (2 * i) (by omega)
      have hk1 := hown.rd.2 (2 * i + 1) (by omega)
      have hown2 := (hown.set' (2 * i) (x % 4294967296)).set' (2 * i + 1) (x / 4294967296)
      have hE2 := (hE.setCell (p := ⟨B, 2 * i, none⟩) (by rw [hB]; exact Nat.le_refl _) (.int .u32 (x % 4294967296 : Nat))).setCell (p := ⟨B, 2 * i + 1, none⟩) (by rw [hB]; exact Nat.le_refl _) (.int .u32 (x / 4294967296 : Nat))
      obtain ⟨x0, hxx0⟩ : ∃ x0, x % 4294967296 = x0 := ⟨_, rfl⟩
      obtain ⟨x1, hxx1⟩ : ∃ x1, x / 4294967296 = x1 := ⟨_, rfl⟩
      rw [hxx0, hxx1] at HST hown2 hE2
      have f0 : IntKind.u32.wrap (x : Int) = (x0 : Int) := by rw [IntKind.wrap_u32]; omega
      have f00 : (x : Int) % 4294967296 = (x0 : Int) := by omega
      have f1 : (x : Int) / 4294967296 = (x1 : Int) := by omega
      have hx1b : x1 < 4294967296 := by omega
      have f2 : IntKind.u32.wrap (x1 : Int) = (x1 : Int) := by rw [IntKind.wrap_u32]; omega
      have f3 : (x1 : Int) % 4294967296 = (x1 : Int) := by omega
      have h2a : (0 : Int) ≤ 2 * (i : Int) := by omega
      have h2b : 2 * (i : Int) < (m : Int) := by omega
      have h2c : 2 * (i : Int) + 1 < (m : Int) := by omega
      have h2d : (2 * (i : Int)).toNat = 2 * i := by omega
      have h2e : (2 * (i : Int) + 1).toNat = 2 * i + 1 := by omega
      have hbn : (ad.add i).block ≠ B := by rw [addr_add_block]; omega
      clear hx0 hb0 hxx0 hxx1 hown HO hE hol
      go_wp2
      go_roundw
      case rel => exact ⟨i + 1, _, by omega, by go_num, HST, hown2, hE2⟩
      case measure => simp [intOf]; omega
    · obtain rfl : i = n := by omega
      have hdone := HO.out.done HM.out hm
      rw [hdone] at hown
      have hu := hown.toU HW.out (by rw [HM.out]; omega)
      clear hdone HO hown
      go_wp2_with (fail)
      refine (HTR.out _ _ hu).mono ?_
      rintro e w2 ⟨u, rfl, hu2, hB2⟩
      have HF : Hid (∃ u', Ending.returned u = .returned u' ∧ Un w2 u' k) := ⟨_, rfl, hu2⟩
      replace hE := hE.below hB2
      clear hu2 hu hB2
      go_wp2
      go_ret
      exact ⟨HF.out, hE⟩
end Go.Proofs.YtikajmmeglookaaGreatDoor
/- The document's own Right, limb, Bit, Bits, Low, Cmp. -/
namespace Go.Proofs.YtikajmmeglookaaGreatDoor
open Go.RowKit
set_option linter.unusedVariables false
set_option maxHeartbeats 400000
set_option maxRecDepth 100000

theorem rright_calls (w : World) (v : Value) (xs : List Nat) (h : U w v xs) :
    Calls Tryz.prog 29 #[v] w fun e w' => e = .returned (.bool (rightB xs)) ∧ w = w' := by
  obtain ⟨A, c, rfl, ⟨hc, hm⟩, hx, hr⟩ := h
  by_cases hlen : xs.length ≤ 65536
  · rcases Nat.eq_zero_or_pos xs.length with h0 | h0
    · obtain rfl := List.eq_nil_of_length_eq_zero h0
      go_enter Tryz.func29, Tryz.ntmps29
      go_wp2
      go_ret
      exact ⟨rfl, rfl⟩
    · obtain ⟨ad, rfl, hb, hcell⟩ := hr h0
      have hc1 := hcell (xs.length - 1) (by omega)
      have hne : (((xs.length : Nat) : Int) == 0) = false := by rw [beq_eq_false_iff_ne]; omega
      have hres : rightB xs = (lb xs (xs.length - 1) != 0) := by
        unfold rightB
        have : xs.isEmpty = false := by cases xs <;> simp_all
        simp [hlen, this]
      have HR := Lib.hid hres
      clear hres
      go_enter Tryz.func29, Tryz.ntmps29
      go_wp2
      go_ret
      exact ⟨by rw [HR.out, ← bne_cast]; rfl, rfl⟩
  · have hres : rightB xs = false := by unfold rightB; simp [hlen]
    have hne : (((xs.length : Nat) : Int) == 0) = false := by rw [beq_eq_false_iff_ne]; omega
    have HR := Lib.hid hres
    clear hres
    go_enter Tryz.func29, Tryz.ntmps29
    go_wp2
    go_ret
    exact ⟨by rw [HR.out]; rfl, rfl⟩

theorem rlimb_calls (w : World) (v : Value) (xs : List Nat) (k : Nat) (h : U w v xs) :
    Calls Tryz.prog 49 #[v, .int .i64 (k : Int)] w fun e w' => e = .returned (.int .u64 (lb xs k : Nat)) ∧ w = w' := by
  obtain ⟨A, c, rfl, ⟨hc, hm⟩, hx, hr⟩ := h
  have hkn : decide (((k : Nat) : Int) < 0) = false := by rw [decide_eq_false_iff_not]; omega
  by_cases h1 : k < xs.length
  · obtain ⟨ad, rfl, hb, hcell⟩ := hr (by omega)
    have hc1 := hcell k h1
    have hL := lb_lt hx k
    have hw : IntKind.u64.wrap ((lb xs k : Nat) : Int) = ((lb xs k : Nat) : Int) := by rw [IntKind.wrap_u64]; omega
    go_enter Tryz.func49, Tryz.ntmps49
    go_wp2
    go_ret
    exact ⟨by first | rfl | rw [hw], rfl⟩
  · have HF : Hid (lb xs k = 0) := lb_out (by omega)
    have hd : decide ((xs.length : Int) ≤ (k : Int)) = true := by rw [decide_eq_true_iff]; omega
    go_enter Tryz.func49, Tryz.ntmps49
    go_wp2
    go_ret
    exact ⟨by rw [HF.out]; rfl, rfl⟩

theorem rbit_calls (w : World) (v : Value) (n : Nat) (i : Int) (hi0 : -9000000000000 ≤ i) (hi1 : i ≤ 9000000000000) (h : Un w v n) :
    Calls Tryz.prog 33 #[v, .int .i64 i] w fun e w' => e = .returned (.int .u32 (bitN n i : Nat)) ∧ w = w' := by
  obtain ⟨A, c, rfl, ⟨hc, hm⟩, hx, hr⟩ := h
  by_cases h0 : i < 0
  · have HF : Hid (bitN n i = 0) := if_pos h0
    go_enter Tryz.func33, Tryz.ntmps33
    go_wp2
    go_ret
    exact ⟨by rw [HF.out]; rfl, rfl⟩
  · obtain ⟨k, rfl⟩ := Int.eq_ofNat_of_zero_le (show 0 ≤ i by omega)
    have hkn : decide (((k : Nat) : Int) < 0) = false := by rw [decide_eq_false_iff_not]; omega
    have HB : Hid (bitN n (k : Int) = n / 2 ^ k % 2) := by rw [Hid, bitN, if_neg h0, Int.toNat_natCast]
    by_cases h1 : k / 32 < (limbs n).length
    · obtain ⟨ad, rfl, hb, hcell⟩ := hr (by omega)
      have hc1 := hcell (k / 32) h1
      have HL := Lib.hid (lb_lt hx (k / 32))
      have HF : Hid (bitN n (k : Int) = lb (limbs n) (k / 32) / 2 ^ (k % 32) % 2) := by
        rw [Hid, HB.out, bit_limb n k]
      clear HB
      go_enter Tryz.func33, Tryz.ntmps33
      go_wp2_with (fail)
      go_loop [5, 6] (fun x j => ∃ m : Nat, m ≤ k % 32 ∧ j = .int .i64 m ∧ x = .int .u32 (lb (limbs n) (k / 32) / 2 ^ m : Nat)) (fun x j => k % 32 - (intOf j).toNat)
      case atStart => exact ⟨0, Nat.zero_le _, rfl, by simp⟩
      case round =>
        obtain ⟨m, hm2, rfl, rfl⟩ := hrel
        have hq : lb (limbs n) (k / 32) / 2 ^ m < 4294967296 := Nat.lt_of_le_of_lt (Nat.div_le_self _ _) HL.out
        by_cases hlt : m < k % 32
        · have HN : Hid (((lb (limbs n) (k / 32) / 2 ^ m : Nat) : Int) / 2 = ((lb (limbs n) (k / 32) / 2 ^ (m + 1) : Nat) : Int)) := by
            rw [Hid, Nat.pow_succ, ← Nat.div_div_eq_div_mul]; omega
          generalize lb (limbs n) (k / 32) / 2 ^ m = X at *
          go_wp2
          go_round
          case rel => exact ⟨m + 1, by omega, by go_num, by rw [HN.out]⟩
          case measure => simp [intOf]; omega
        · obtain rfl : m = k % 32 := by omega
          generalize lb (limbs n) (k / 32) / 2 ^ (k % 32) = X at *
          go_wp2
          go_ret
          exact ⟨by rw [HF.out]; rfl, rfl⟩
    · have HF : Hid (bitN n (k : Int) = 0) := by rw [Hid, HB.out]; exact bit_out n k (by omega)
      go_enter Tryz.func33, Tryz.ntmps33
      go_wp2
      go_ret
      exact ⟨by rw [HF.out]; rfl, rfl⟩

theorem blen_halves {t j : Nat} (h0 : t / 2 ^ j = 0) (h1 : 0 < j → t / 2 ^ (j - 1) ≠ 0) : blen t = j := by
  have a : t < 2 ^ j := by
    rcases Nat.lt_or_ge t (2 ^ j) with h | h
    · exact h
    · have := Nat.div_pos h (Nat.two_pow_pos j); omega
  rcases Nat.eq_zero_or_pos j with rfl | hj
  · have : t = 0 := by simpa using a
    subst this; rfl
  · have b : 2 ^ (j - 1) ≤ t := by
      rcases Nat.lt_or_ge t (2 ^ (j - 1)) with h | h
      · exact absurd (Nat.div_eq_of_lt h) (h1 hj)
      · exact h
    have := blen_eq b (by rwa [show j - 1 + 1 = j by omega])
    omega

theorem rbits_calls (w : World) (v : Value) (n : Nat) (h : Un w v n) (hl : (limbs n).length ≤ 1000000000) :
    Calls Tryz.prog 31 #[v] w fun e w' => e = .returned (.int .i64 (blen n : Nat)) ∧ ∃ m, w' = w.drewN m := by
  obtain ⟨A, c, rfl, ⟨hc, hm⟩, hx, hr⟩ := h
  by_cases h0 : n = 0
  · subst h0
    have hz : limbs 0 = [] := limbs_zero
    rw [hz]
    clear hz hr hx hm hl hc
    have HF : Hid (blen 0 = 0) := rfl
    go_enter Tryz.func31, Tryz.ntmps31
    go_wp2
    go_ret
    exact ⟨by rw [HF.out]; rfl, 0, rfl⟩
  · have HF := Lib.hid (blen_limbs n h0)
    have hlen : 0 < (limbs n).length := by rw [limbs_pos h0]; simp
    obtain ⟨ad, rfl, hb, hcell⟩ := hr hlen
    have hc1 := hcell ((limbs n).length - 1) (by omega)
    have hne : (((limbs n).length : Int) == 0) = false := by rw [beq_eq_false_iff_ne]; omega
    have hL := lb_lt hx ((limbs n).length - 1)
    have HL := Lib.hid hL
    clear hL
    go_enter Tryz.func31, Tryz.ntmps31
    go_wp2_with (fail)
    go_region
    go_wp2_with (fail)
    clear hc1 hcell hr
    generalize ht : lb (limbs n) ((limbs n).length - 1) = T at *
    clear ht
    go_loop [3, 4] (fun m x => ∃ j : Nat, j ≤ 32 ∧ m = .int .i64 j ∧ x = .int .u32 (T / 2 ^ j : Nat) ∧ Hid (0 < j → T / 2 ^ (j - 1) ≠ 0)) (fun m x => 33 - (intOf m).toNat)
    case atStart => exact ⟨0, Nat.zero_le _, rfl, by simp, fun h => absurd h (by omega)⟩
    case round =>
      obtain ⟨j, hj, rfl, rfl, HZ⟩ := hrel
      have hq : T / 2 ^ j < 4294967296 := Nat.lt_of_le_of_lt (Nat.div_le_self _ _) HL.out
      have HN : Hid (((T / 2 ^ j : Nat) : Int) / 2 = ((T / 2 ^ (j + 1) : Nat) : Int)) := by
        rw [Hid, Nat.pow_succ, ← Nat.div_div_eq_div_mul]; omega
      rcases Nat.eq_zero_or_pos (T / 2 ^ j) with h0 | h0
      · have HT : Hid (blen T = j) := blen_halves h0 HZ.out
        rw [h0]
        clear h0 hq HN
        go_wp2
        go_ret
        exact ⟨by rw [HF.out, HT.out]; exact ret_int (by omega), 1, rfl⟩
      · have HP : Hid (T / 2 ^ j ≠ 0) := by rw [Hid]; omega
        have HJ : Hid (j < 32) := by
          rw [Hid]
          rcases Nat.lt_or_ge j 32 with h | h
          · exact h
          · have := Nat.pow_le_pow_right (n := 2) (by decide) h
            have h2 := HL.out
            exact absurd (Nat.div_eq_of_lt (Nat.lt_of_lt_of_le (by simpa using h2) this)) HP.out
        have HP' : Hid (T / 2 ^ j ≠ 0) := HP
        obtain ⟨X, hX⟩ : ∃ X, T / 2 ^ j = X := ⟨_, rfl⟩
        rw [hX] at HN HP hq h0
        rw [hX]
        clear hX
        go_wp2
        go_round
        case rel => exact ⟨j + 1, by have := HJ.out; omega, by go_num, by rw [HN.out], fun _ => by rw [Nat.add_sub_cancel]; exact HP'.out⟩
        case measure => have := HJ.out; simp [intOf]; omega
end Go.Proofs.YtikajmmeglookaaGreatDoor
/- The document's own Low and Cmp. -/
namespace Go.Proofs.YtikajmmeglookaaGreatDoor
open Go.RowKit
set_option linter.unusedVariables false
set_option maxHeartbeats 400000
set_option maxRecDepth 100000

theorem rlimb_at (w : World) (v : Value) (xs : List Nat) (i : Int) (k : Nat) (hi : i = (k : Int)) (h : U w v xs) :
    Calls Tryz.prog 49 #[v, .int .i64 i] w fun e w' => e = .returned (.int .u64 (lb xs k : Nat)) ∧ w = w' := by
  subst hi; exact rlimb_calls w v xs k h

theorem val_cons_drop (xs : List Nat) (k : Nat) (h : k < xs.length) : val (xs.drop k) = lb xs k + 4294967296 * val (xs.drop (k + 1)) := by
  rw [List.drop_eq_getElem_cons h]
  have : lb xs k = xs[k] := by simp [lb, h]
  rw [this]; rfl

theorem rlow_calls (w : World) (v : Value) (n : Nat) (h : Un w v n) :
    Calls Tryz.prog 48 #[v] w fun e w' => e = .returned (.tuple #[.int .u64 (lowN n : Nat), .bool (lowB n)]) ∧ w = w' := by
  obtain ⟨A, c, rfl, ⟨hc, hm⟩, hx, hr⟩ := h
  by_cases h2 : (limbs n).length ≤ 2
  · have HB := Lib.hid (lowB_of_le h2)
    have HN := Lib.hid (lowN_of_le h2)
    have HL2 := Lib.hid h2
    go_enter Tryz.func48, Tryz.ntmps48
    go_wp2_with (fail)
    go_loop [4, 5] (fun s i => ∃ k : Nat, k ≤ (limbs n).length ∧ i = .int .i64 ((k : Int) - 1) ∧ s = .int .u64 (val ((limbs n).drop k) : Nat)) (fun s i => (intOf i + 1).toNat)
    case atStart => exact ⟨(limbs n).length, Nat.le_refl _, rfl, by rw [List.drop_length]; rfl⟩
    case round =>
      obtain ⟨k, hk, rfl, rfl⟩ := hrel
      rcases Nat.eq_zero_or_pos k with rfl | h0
      · have HV : Hid (lowN n = val ((limbs n).drop 0)) := by rw [Hid, HN.out, List.drop_zero, val_limbs]
        clear HN
        go_wp2
        go_ret2
        exact ⟨by rw [HV.out, HB.out]; rfl, rfl⟩
      · obtain ⟨ad, rfl, hb, hcell⟩ := hr (by omega)
        have hc1 := hcell (k - 1) (by omega)
        have HW : Hid (IntKind.u64.wrap (IntKind.u64.wrap (((val ((limbs n).drop k) : Nat) : Int) * 4294967296) + IntKind.u64.wrap ((lb (limbs n) (k - 1) : Nat) : Int)) = ((val ((limbs n).drop (k - 1)) : Nat) : Int)) := by
          rw [Hid, val_cons_drop _ (k - 1) (by omega), show k - 1 + 1 = k by omega]
          have h1 := lb_lt hx (k - 1)
          have h3 := val_lt ((limbs n).drop k) (fun x h => hx x (List.mem_of_mem_drop h))
          have h4 : ((limbs n).drop k).length ≤ 1 := by rw [List.length_drop]; omega
          have h5 := Nat.pow_le_pow_right (n := 4294967296) (by decide) h4
          rw [Nat.pow_one] at h5
          rw [IntKind.wrap_u64, IntKind.wrap_u64, IntKind.wrap_u64]
          omega
        clear h2
        go_wp2
        go_round
        case rel => exact ⟨k - 1, by omega, by go_num, by rw [← HW.out]⟩
        case measure => simp [intOf]; omega
  · have HB : Hid (lowB n = false) := lowB_of_gt (by omega)
    have HN : Hid (lowN n = 0) := lowN_of_gt (by omega)
    go_enter Tryz.func48, Tryz.ntmps48
    go_wp2
    go_ret2
    exact ⟨by rw [HN.out, HB.out]; rfl, rfl⟩

theorem cmp_top {xs ys : List Nat} (hx : ∀ x ∈ xs, x < 4294967296) (hy : ∀ x ∈ ys, x < 4294967296) (p L : Nat) (h1 : xs.length ≤ L) (h2 : ys.length ≤ L) (hp : p < L)
    (ht : ∀ j, p < j → j < L → lb xs j = lb ys j) (hlt : lb xs p < lb ys p) : val xs < val ys := by
  rw [← range_lb xs L h1, ← range_lb ys L h2]
  have e : ∀ (zs : List Nat) j, j < L → lb ((List.range L).map fun j => lb zs j) j = lb zs j := fun zs j hj => by
    simp [lb, hj]
  refine val_lt_of_top (by simp) ?_ ?_ p (by simp; exact hp) ?_ ?_
  · intro x hx'; obtain ⟨j, _, rfl⟩ := List.mem_map.1 hx'; exact lb_lt hx j
  · intro x hx'; obtain ⟨j, _, rfl⟩ := List.mem_map.1 hx'; exact lb_lt hy j
  · intro j h3 h4; simp at h4; rw [e xs j h4, e ys j h4]; exact ht j h3 h4
  · rw [e xs p hp, e ys p hp]; exact hlt
theorem val_eq_of_lb {xs ys : List Nat} (L : Nat) (h1 : xs.length ≤ L) (h2 : ys.length ≤ L) (ht : ∀ j, j < L → lb xs j = lb ys j) : val xs = val ys := by
  rw [← range_lb xs L h1, ← range_lb ys L h2]
  congr 1
  apply List.map_congr_left
  intro j hj
  exact ht j (by simpa using hj)

theorem rcmp_calls (w : World) (v u : Value) (xs ys : List Nat) (h : U w v xs) (g : U w u ys) (hl : xs.length ≤ 1000000000) (hl2 : ys.length ≤ 1000000000) :
    Calls Tryz.prog 27 #[v, u] w fun e w' => e = .returned (.int .i64 (cmpI (val xs : Nat) (val ys : Nat))) ∧ w = w' := by
  obtain ⟨A, c, rfl, ⟨hc, hm⟩, hx, hr⟩ := id h
  obtain ⟨A2, c2, rfl, ⟨hc2, hm2⟩, hx2, hr2⟩ := id g
  rcases Nat.lt_or_ge xs.length ys.length with hlen | hlen
  · have HL1 : Hid (xs.length ≤ ys.length) := by rw [Hid]; omega
    have HL2 : Hid (ys.length ≤ ys.length) := by rw [Hid]; omega
    go_enter Tryz.func27, Tryz.ntmps27
    go_wp2_with (fail)
    go_loop [5] (fun i => ∃ k : Nat, k ≤ ys.length ∧ i = .int .i64 ((k : Int) - 1) ∧ Hid (∀ j, k ≤ j → j < ys.length → lb xs j = lb ys j)) (fun i => (intOf i + 1).toNat)
    case atStart => exact ⟨ys.length, Nat.le_refl _, rfl, fun j h1 h2 => by omega⟩
    case round =>
      obtain ⟨k, hk, rfl, HE⟩ := hrel
      rcases Nat.eq_zero_or_pos k with rfl | h0
      · have HF : Hid (cmpI (val xs : Nat) (val ys : Nat) = 0) := by
          rw [Hid, val_eq_of_lb (ys.length) HL1.out HL2.out (fun j hj => HE.out j (Nat.zero_le _) hj)]; exact cmpI_eq _
        go_wp2
        go_ret
        exact ⟨by rw [HF.out]; rfl, rfl⟩
      · rcases Nat.lt_trichotomy (lb xs (k - 1)) (lb ys (k - 1)) with hc1 | hc1 | hc1
        · have HF : Hid (cmpI (val xs : Nat) (val ys : Nat) = -1) := cmpI_lt (Int.ofNat_lt.2 (cmp_top hx hx2 (k - 1) (ys.length) HL1.out HL2.out (by omega) (fun j h1 h2 => HE.out j (by omega) h2) hc1))
          have hd : decide (((lb xs (k - 1) : Nat) : Int) < ((lb ys (k - 1) : Nat) : Int)) = true := by rw [decide_eq_true_iff]; omega
          go_wp2_with (fail)
          refine (rlimb_at _ _ xs _ (k - 1) (by omega) h).mono ?_
          rintro e w' ⟨rfl, rfl⟩
          go_wp2_with (fail)
          refine (rlimb_at _ _ ys _ (k - 1) (by omega) g).mono ?_
          rintro e w' ⟨rfl, rfl⟩
          go_wp2_with (fail)
          go_ret
          exact ⟨by rw [HF.out]; rfl, rfl⟩
        · have hd : decide (((lb xs (k - 1) : Nat) : Int) < ((lb ys (k - 1) : Nat) : Int)) = false := by rw [decide_eq_false_iff_not]; omega
          have hd2 : decide (((lb ys (k - 1) : Nat) : Int) < ((lb xs (k - 1) : Nat) : Int)) = false := by rw [decide_eq_false_iff_not]; omega
          have HC := Lib.hid hc1
          have hle1 : ¬ lb xs (k - 1) < lb ys (k - 1) := by omega
          have hle2 : ¬ lb ys (k - 1) < lb xs (k - 1) := by omega
          clear hc1
          go_wp2_with (fail)
          refine (rlimb_at _ _ xs _ (k - 1) (by omega) h).mono ?_
          rintro e w' ⟨rfl, rfl⟩
          go_wp2_with (fail)
          refine (rlimb_at _ _ ys _ (k - 1) (by omega) g).mono ?_
          rintro e w' ⟨rfl, rfl⟩
          go_wp2_with (fail)
          refine (rlimb_at _ _ xs _ (k - 1) (by omega) h).mono ?_
          rintro e w' ⟨rfl, rfl⟩
          go_wp2_with (fail)
          refine (rlimb_at _ _ ys _ (k - 1) (by omega) g).mono ?_
          rintro e w' ⟨rfl, rfl⟩
          go_wp2_with (fail)
          go_round
          case rel => exact ⟨k - 1, by omega, by go_num, fun j h1 h2 => by
            rcases Nat.lt_or_ge j k with h3 | h3
            · have ej : j = k - 1 := by omega
              rw [ej]
              exact HC.out
            · exact HE.out j h3 h2⟩
          case measure => simp [intOf]; omega
        · have HF : Hid (cmpI (val xs : Nat) (val ys : Nat) = 1) := cmpI_gt (Int.ofNat_lt.2 (cmp_top hx2 hx (k - 1) (ys.length) HL2.out HL1.out (by omega) (fun j h1 h2 => by have := HE.out j (by omega) h2; exact this.symm) hc1))
          have hd : decide (((lb xs (k - 1) : Nat) : Int) < ((lb ys (k - 1) : Nat) : Int)) = false := by rw [decide_eq_false_iff_not]; omega
          have hd2 : decide (((lb ys (k - 1) : Nat) : Int) < ((lb xs (k - 1) : Nat) : Int)) = true := by rw [decide_eq_true_iff]; omega
          go_wp2_with (fail)
          refine (rlimb_at _ _ xs _ (k - 1) (by omega) h).mono ?_
          rintro e w' ⟨rfl, rfl⟩
          go_wp2_with (fail)
          refine (rlimb_at _ _ ys _ (k - 1) (by omega) g).mono ?_
          rintro e w' ⟨rfl, rfl⟩
          go_wp2_with (fail)
          refine (rlimb_at _ _ xs _ (k - 1) (by omega) h).mono ?_
          rintro e w' ⟨rfl, rfl⟩
          go_wp2_with (fail)
          refine (rlimb_at _ _ ys _ (k - 1) (by omega) g).mono ?_
          rintro e w' ⟨rfl, rfl⟩
          go_wp2_with (fail)
          go_ret
          exact ⟨by rw [HF.out]; rfl, rfl⟩
  · have HL1 : Hid (xs.length ≤ xs.length) := by rw [Hid]; omega
    have HL2 : Hid (ys.length ≤ xs.length) := by rw [Hid]; omega
    go_enter Tryz.func27, Tryz.ntmps27
    go_wp2_with (fail)
    go_loop [5] (fun i => ∃ k : Nat, k ≤ xs.length ∧ i = .int .i64 ((k : Int) - 1) ∧ Hid (∀ j, k ≤ j → j < xs.length → lb xs j = lb ys j)) (fun i => (intOf i + 1).toNat)
    case atStart => exact ⟨xs.length, Nat.le_refl _, rfl, fun j h1 h2 => by omega⟩
    case round =>
      obtain ⟨k, hk, rfl, HE⟩ := hrel
      rcases Nat.eq_zero_or_pos k with rfl | h0
      · have HF : Hid (cmpI (val xs : Nat) (val ys : Nat) = 0) := by
          rw [Hid, val_eq_of_lb (xs.length) HL1.out HL2.out (fun j hj => HE.out j (Nat.zero_le _) hj)]; exact cmpI_eq _
        go_wp2
        go_ret
        exact ⟨by rw [HF.out]; rfl, rfl⟩
      · rcases Nat.lt_trichotomy (lb xs (k - 1)) (lb ys (k - 1)) with hc1 | hc1 | hc1
        · have HF : Hid (cmpI (val xs : Nat) (val ys : Nat) = -1) := cmpI_lt (Int.ofNat_lt.2 (cmp_top hx hx2 (k - 1) (xs.length) HL1.out HL2.out (by omega) (fun j h1 h2 => HE.out j (by omega) h2) hc1))
          have hd : decide (((lb xs (k - 1) : Nat) : Int) < ((lb ys (k - 1) : Nat) : Int)) = true := by rw [decide_eq_true_iff]; omega
          go_wp2_with (fail)
          refine (rlimb_at _ _ xs _ (k - 1) (by omega) h).mono ?_
          rintro e w' ⟨rfl, rfl⟩
          go_wp2_with (fail)
          refine (rlimb_at _ _ ys _ (k - 1) (by omega) g).mono ?_
          rintro e w' ⟨rfl, rfl⟩
          go_wp2_with (fail)
          go_ret
          exact ⟨by rw [HF.out]; rfl, rfl⟩
        · have hd : decide (((lb xs (k - 1) : Nat) : Int) < ((lb ys (k - 1) : Nat) : Int)) = false := by rw [decide_eq_false_iff_not]; omega
          have hd2 : decide (((lb ys (k - 1) : Nat) : Int) < ((lb xs (k - 1) : Nat) : Int)) = false := by rw [decide_eq_false_iff_not]; omega
          have HC := Lib.hid hc1
          have hle1 : ¬ lb xs (k - 1) < lb ys (k - 1) := by omega
          have hle2 : ¬ lb ys (k - 1) < lb xs (k - 1) := by omega
          clear hc1
          go_wp2_with (fail)
          refine (rlimb_at _ _ xs _ (k - 1) (by omega) h).mono ?_
          rintro e w' ⟨rfl, rfl⟩
          go_wp2_with (fail)
          refine (rlimb_at _ _ ys _ (k - 1) (by omega) g).mono ?_
          rintro e w' ⟨rfl, rfl⟩
          go_wp2_with (fail)
          refine (rlimb_at _ _ xs _ (k - 1) (by omega) h).mono ?_
          rintro e w' ⟨rfl, rfl⟩
          go_wp2_with (fail)
          refine (rlimb_at _ _ ys _ (k - 1) (by omega) g).mono ?_
          rintro e w' ⟨rfl, rfl⟩
          go_wp2_with (fail)
          go_round
          case rel => exact ⟨k - 1, by omega, by go_num, fun j h1 h2 => by
            rcases Nat.lt_or_ge j k with h3 | h3
            · have ej : j = k - 1 := by omega
              rw [ej]
              exact HC.out
            · exact HE.out j h3 h2⟩
          case measure => simp [intOf]; omega
        · have HF : Hid (cmpI (val xs : Nat) (val ys : Nat) = 1) := cmpI_gt (Int.ofNat_lt.2 (cmp_top hx2 hx (k - 1) (xs.length) HL2.out HL1.out (by omega) (fun j h1 h2 => by have := HE.out j (by omega) h2; exact this.symm) hc1))
          have hd : decide (((lb xs (k - 1) : Nat) : Int) < ((lb ys (k - 1) : Nat) : Int)) = false := by rw [decide_eq_false_iff_not]; omega
          have hd2 : decide (((lb ys (k - 1) : Nat) : Int) < ((lb xs (k - 1) : Nat) : Int)) = true := by rw [decide_eq_true_iff]; omega
          go_wp2_with (fail)
          refine (rlimb_at _ _ xs _ (k - 1) (by omega) h).mono ?_
          rintro e w' ⟨rfl, rfl⟩
          go_wp2_with (fail)
          refine (rlimb_at _ _ ys _ (k - 1) (by omega) g).mono ?_
          rintro e w' ⟨rfl, rfl⟩
          go_wp2_with (fail)
          refine (rlimb_at _ _ xs _ (k - 1) (by omega) h).mono ?_
          rintro e w' ⟨rfl, rfl⟩
          go_wp2_with (fail)
          refine (rlimb_at _ _ ys _ (k - 1) (by omega) g).mono ?_
          rintro e w' ⟨rfl, rfl⟩
          go_wp2_with (fail)
          go_ret
          exact ⟨by rw [HF.out]; rfl, rfl⟩
end Go.Proofs.YtikajmmeglookaaGreatDoor
/- Quotient and rest by a limb. -/
namespace Go.Proofs.YtikajmmeglookaaGreatDoor
open Go.RowKit
set_option linter.unusedVariables false
set_option maxHeartbeats 400000

theorem u64_or32' (x y z : Nat) (hx : x < 4294967296) (hy : y < 4294967296) (hz : 4294967296 * y + x = z) : bits .or .u64 ((4294967296 * y : Nat) : Int) (x : Int) = (z : Int) := by
  rw [u64_or_nat _ _ (by omega) (by omega), nat_join 32 _ x (Nat.mul_mod_right _ _) hx, hz]
theorem u32_fit {k : Nat} (h : k < 4294967296) : IntKind.u32.wrap (k : Int) = (k : Int) := by rw [IntKind.wrap_u32]; omega
theorem u32_mod {k : Nat} (h : k < 4294967296) : (k : Int) % 4294967296 = (k : Int) := by omega

/-- The limbs from k on are divided. -/
structure SmI (xs : List Nat) (m k : Nat) (o : List Nat) (r : Nat) : Prop where
  len : o.length = xs.length
  lt : ∀ x ∈ o, x < 4294967296
  val : val (xs.drop k) = val (o.drop k) * m + r
  small : r < m
theorem SmI.step {xs : List Nat} {m k : Nat} {o : List Nat} {r : Nat} (h : SmI xs m (k + 1) o r) (hk : k < xs.length) (x z q s : Nat) (hx : lb xs k = x) (hz : 4294967296 * r + x = z) (hxb : x < 4294967296) (hq : z / m = q) (hs : z % m = s) : q < 4294967296 ∧ SmI xs m k (o.set k q) s := by
  have hm := h.small
  have hqb : q < 4294967296 := by
    rw [← hq]
    exact Nat.div_lt_of_lt_mul (by have := Nat.mul_le_mul_right 4294967296 (show r + 1 ≤ m from hm); omega)
  refine ⟨hqb, by simp [h.len], set_lt h.lt hqb, ?_, by rw [← hs]; exact Nat.mod_lt _ (by omega)⟩
  have h1 := val_cons_drop xs k hk
  have h2 := val_cons_drop (o.set k q) k (by simp [h.len]; exact hk)
  rw [lb_set_same _ (by rw [h.len]; exact hk), List.drop_set_of_lt (show k < k + 1 by omega)] at h2
  have h3 : q * m + s = z := by rw [← hq, ← hs, Nat.mul_comm]; exact Nat.div_add_mod _ _
  rw [h1, h2, hx, h.val, Nat.add_mul, Nat.mul_add, Nat.mul_assoc]
  omega

set_option maxRecDepth 100000 in
set_option maxHeartbeats 4000000 in
theorem small_calls (w : World) (v : Value) (a m : Nat) (h : Un w v a) (hl : (limbs a).length ≤ 1000000) (hm : m < 4294967296) (h0 : m ≠ 0) (q r : Nat) (hq : a / m = q) (hr : a % m = r) :
    Calls Tryz.prog 22 #[v, .int .u32 (m : Nat)] w fun e w' => (∃ u, e = .returned (.tuple #[u, .int .u32 (r : Nat), .int .i64 0]) ∧ Un w' u q) ∧ Ext w w' := by
  have hva := val_limbs a
  have h' : U w v (limbs a) := h
  generalize limbs a = xs at *
  clear h
  obtain ⟨A, c, rfl, ⟨hc, hmx⟩, hx, hr0⟩ := h'
  obtain ⟨i0, hi, hz0, hz1, hz2⟩ := info_parts info32
  obtain ⟨L, hL⟩ : ∃ L, xs.length = L := ⟨_, rfl⟩
  have HL := Lib.hid hL
  rw [hL] at hc hmx hr0 hl ⊢
  have HDN : Hid (∀ o s, SmI xs m 0 o s → val o = q ∧ s = r) := fun o s h => by
    have h1 := h.val
    rw [List.drop_zero, List.drop_zero, hva] at h1
    obtain ⟨a1, a2⟩ := dv_done m a (val o) s h1.symm h.small
    exact ⟨by rw [← hq, a1], by rw [← hr, a2]⟩
  have HS0 : Hid (SmI xs m L (List.replicate L 0) 0) := ⟨by simp [hL], by simp, by rw [List.drop_eq_nil_of_le (by omega), List.drop_eq_nil_of_le (by simp)]; simp [val], by omega⟩
  obtain ⟨B, hB⟩ : ∃ B, w.heap.size = B := ⟨_, rfl⟩
  have hmz : ((m : Int) == 0) = false := by rw [beq_eq_false_iff_ne]; omega
  have hmz2 : ¬ ((m : Int) = 0) := by omega
  have hmw := u64_fit (show m < 18446744073709551616 by omega)
  have hmw2 := u64_mod (show m < 18446744073709551616 by omega)
  have HM := Lib.hid hm
  have hrb : r < 4294967296 := by rw [← hr]; exact Nat.lt_trans (Nat.mod_lt _ (by omega)) hm
  have HRB := Lib.hid hrb
  clear hL hq hr hva hm hrb
  go_enter Tryz.func22, Tryz.ntmps22
  go_wp2_with (at_make; refine wpList_make_full _ rfl _ _ 22 rfl w.heap.size 23 i0 (.int .u32 0) 1 Tryz.underlying22 hi hz0 hz1 _ _ _ _ L rfl rfl (by omega) (by omega) (by rw [hz2]; omega) (by unfold maxLen; omega) (Nat.le_refl _) ?_; intro w1 hown hgrow)
  have ho0 : Own w1 w.heap.size (.slice (some ⟨w.heap.size, 0, none⟩) L L) (List.replicate L 0) := by
    have := Own.zeros hown
    rwa [List.length_replicate] at this
  have hE0 : Ext w w1 := (Ext.refl w).grown hgrow (Nat.le_refl _) (fun _ h => by cases h)
  rw [hB] at ho0
  clear hown hgrow hi hz0 hz1 hz2 i0
  go_wp2
  go_loopw [9, 8] (fun t s wr => ∃ (k : Nat) (z : Int) (o : List Nat) (rs : Nat), k ≤ L ∧ t = .int .i64 z ∧ z = (k : Int) - 1 ∧ s = .int .u64 (rs : Nat) ∧ Hid (SmI xs m k o rs) ∧ Own wr B (.slice (some ⟨B, 0, none⟩) L L) o ∧ Ext w wr) (fun t _ _ => (intOf t + 1).toNat)
  case atStart => exact ⟨L, _, _, 0, Nat.le_refl _, rfl, rfl, rfl, HS0, ho0, hE0⟩
  case round =>
    clear ho0 hE0 HS0
    obtain ⟨k, z, o, rs, hk, rfl, hz, rfl, HO, hown, hE⟩ := hrel
    cases k with
    | zero =>
      obtain rfl : z = -1 := by omega
      obtain ⟨d1, rfl⟩ := HDN.out o rs HO.out
      have hol := HO.out.len
      have hu := hown.toU HO.out.lt (by rw [hol, HL.out]; omega)
      have HMK := Lib.hid (make_B _ _ _ hu q d1)
      have hw1 := u32_fit HRB.out
      have hw2 := u32_mod HRB.out
      clear d1 hown HO hol hu HDN hz
      go_wp2_with (fail)
      refine HMK.out.mono ?_
      rintro e w2 ⟨u, rfl, hu, hB2⟩
      have HF : Hid (∃ u', Ending.returned (.tuple #[u, .int .u32 (rs : Nat), .int .i64 0]) = .returned (.tuple #[u', .int .u32 (rs : Nat), .int .i64 0]) ∧ Un w2 u' q) := ⟨_, rfl, hu⟩
      replace hE := hE.below hB2
      clear hu hB2 HMK
      go_wp2
      go_ret3
      exact ⟨HF.out, hE⟩
    | succ j =>
      obtain rfl : z = (j : Int) := by omega
      obtain ⟨ad, rfl, hb, hcell⟩ := hr0 (by omega)
      have hc0 := (hE.cell (p := ad.add j) (by rw [addr_add_block]; exact hb)).trans (hcell j (by omega))
      have hxb := lb_lt hx j
      obtain ⟨x, hx0⟩ : ∃ x, lb xs j = x := ⟨_, rfl⟩
      rw [hx0] at hc0 hxb
      have hrs := HO.out.small
      have hm2 := HM.out
      obtain ⟨y, hy⟩ : ∃ y, 4294967296 * rs + x = y := ⟨_, rfl⟩
      obtain ⟨p, hp⟩ : ∃ p, y / m = p := ⟨_, rfl⟩
      obtain ⟨s, hs⟩ : ∃ s, y % m = s := ⟨_, rfl⟩
      obtain ⟨hpb, hst⟩ := HO.out.step (by rw [HL.out]; omega) x y p s hx0 hy hxb hp hs
      have HST := Lib.hid hst
      have o1 := u64_or32' x rs y hxb (by omega) hy
      have o2 : (rs : Int) * 4294967296 = ((4294967296 * rs : Nat) : Int) := by omega
      have o3 := u64_fit (show 4294967296 * rs < 18446744073709551616 by omega)
      have o4 := u64_mod (show 4294967296 * rs < 18446744073709551616 by omega)
      have o5 := u64_fit (show x < 18446744073709551616 by omega)
      have o6 := u64_mod (show x < 18446744073709551616 by omega)
      have o7 : (y : Int).tdiv (m : Int) = (p : Int) := by rw [Int.tdiv_eq_ediv_of_nonneg (Int.natCast_nonneg _), ← hp, Int.natCast_ediv]
      have o8 : (y : Int).tmod (m : Int) = (s : Int) := by rw [Int.tmod_eq_emod_of_nonneg (Int.natCast_nonneg _), ← hs, Int.natCast_emod]
      have o7' : (y : Int) / (m : Int) = (p : Int) := by rw [← hp, Int.natCast_ediv]
      have o8' : (y : Int) % (m : Int) = (s : Int) := by rw [← hs, Int.natCast_emod]
      have o9 := u32_fit hpb
      have o10 := u32_mod hpb
      have o11 := u64_fit (show p < 18446744073709551616 by omega)
      have o12 := u64_mod (show p < 18446744073709551616 by omega)
      have hsb : s < 18446744073709551616 := by rw [← hs]; exact Nat.lt_trans (Nat.mod_lt _ (by omega)) (by omega)
      have o13 := u64_fit hsb
      have o14 := u64_mod hsb
      have hol := HO.out.len
      have hjl : j < o.length := by rw [hol, HL.out]; omega
      have hf := hown.frozen' j
      have hcz := hown.rd.2 j hjl
      have hown2 := hown.set' j p
      have hE2 := hE.setCell (p := ⟨B, j, none⟩) (by rw [hB]; exact Nat.le_refl _) (.int .u32 (p : Nat))
      have hbn : (ad.add j).block ≠ B := by rw [addr_add_block]; omega
      have hj2 : j < L := by omega
      generalize 4294967296 * rs = y2 at *
      clear hx0 hxb hrs hm2 hp hs hpb hst hy hsb hown HO hE hol hjl hz
      go_wp2
      go_roundw
      case rel => exact ⟨j, _, _, s, by omega, rfl, rfl, rfl, HST, hown2, hE2⟩
      case measure => simp [intOf]
theorem small_zero (w : World) (v : Value) :
    Calls Tryz.prog 22 #[v, .int .u32 0] w fun e w' => e = .returned (.tuple #[.slice none 0 0, .int .u32 0, .int .i64 3]) ∧ Ext w w' := by
  have hE := Ext.refl w
  go_enter Tryz.func22, Tryz.ntmps22
  go_wp2
  go_ret3
  exact ⟨rfl, hE⟩
end Go.Proofs.YtikajmmeglookaaGreatDoor
/- Numbers and their lengths, for the statements. -/
namespace Go.Proofs.YtikajmmeglookaaGreatDoor

theorem len_add {n m a b : Nat} (h1 : (limbs n).length ≤ a) (h2 : (limbs m).length ≤ b) : (limbs (n + m)).length ≤ max a b + 1 := by
  apply len_le_of_lt
  have g1 := Nat.lt_of_lt_of_le (lt_of_len_le h1) (Nat.pow_le_pow_right (show 0 < 4294967296 by decide) (Nat.le_max_left a b))
  have g2 := Nat.lt_of_lt_of_le (lt_of_len_le h2) (Nat.pow_le_pow_right (show 0 < 4294967296 by decide) (Nat.le_max_right a b))
  rw [Nat.pow_succ]
  omega
theorem blen_mono {n m : Nat} (h : n ≤ m) : blen n ≤ blen m := blen_le_of_lt (Nat.lt_of_le_of_lt h (lt_pow_blen m))
theorem le_blen_add (n m : Nat) : max (blen n) (blen m) ≤ blen (n + m) := by
  have h1 := blen_mono (Nat.le_add_right n m)
  have h2 := blen_mono (Nat.le_add_left m n)
  omega
theorem blen_add_le (n m : Nat) : blen (n + m) ≤ 1 + max (blen n) (blen m) := by
  apply blen_le_of_lt
  have h1 := Nat.lt_of_lt_of_le (lt_pow_blen n) (Nat.pow_le_pow_right (show 0 < 2 by decide) (Nat.le_max_left (blen n) (blen m)))
  have h2 := Nat.lt_of_lt_of_le (lt_pow_blen m) (Nat.pow_le_pow_right (show 0 < 2 by decide) (Nat.le_max_right (blen n) (blen m)))
  rw [Nat.add_comm 1, Nat.pow_succ]
  omega
theorem blen_len {n k : Nat} (h : (limbs n).length ≤ k) : blen n ≤ 32 * k := by
  apply blen_le_of_lt
  rw [← pow32]
  exact lt_of_len_le h
theorem rightB_limbs {n : Nat} (h : (limbs n).length ≤ 65536) : rightB (limbs n) = true := by
  unfold rightB
  by_cases h0 : n = 0
  · subst h0; rw [limbs_zero]; rfl
  · have := limbs_last h0
    rw [decide_eq_true h, Bool.true_and, Bool.or_eq_true]
    right
    rw [bne_iff_ne]
    exact this
theorem cmpI_le {x y : Nat} (h : cmpI x y ≤ 0) : x ≤ y := by
  rcases Nat.lt_or_ge y x with h1 | h1
  · rw [cmpI_gt (by omega)] at h; omega
  · exact h1
theorem le_cmpI {x y : Nat} (h : x ≤ y) : cmpI x y ≤ 0 := by
  rcases Nat.lt_or_eq_of_le h with h1 | rfl
  · rw [cmpI_lt (by omega)]; omega
  · rw [cmpI_eq]; omega
theorem cmpI_shl_lt {x y k : Nat} (h : x < y) : cmpI ((x * 2 ^ k : Nat) : Int) ((y * 2 ^ k : Nat) : Int) = -1 := cmpI_lt (Int.ofNat_lt.2 (Nat.mul_lt_mul_of_pos_right h (Nat.two_pow_pos k)))
theorem cmpI_shl_gt {x y k : Nat} (h : y < x) : cmpI ((x * 2 ^ k : Nat) : Int) ((y * 2 ^ k : Nat) : Int) = 1 := cmpI_gt (Int.ofNat_lt.2 (Nat.mul_lt_mul_of_pos_right h (Nat.two_pow_pos k)))
end Go.Proofs.YtikajmmeglookaaGreatDoor
/- Shifts and bits of numbers, for the statements. -/
namespace Go.Proofs.YtikajmmeglookaaGreatDoor

theorem len_shl_c (n a k c : Nat) (h : (limbs n).length ≤ a) (hk : k ≤ 32 * c) : (limbs (n * 2 ^ k)).length ≤ a + c := by
  apply len_le_of_lt
  have h1 := lt_of_len_le h
  have h2 : 2 ^ k ≤ 4294967296 ^ c := by rw [pow32]; exact Nat.pow_le_pow_right (by decide) hk
  rw [Nat.pow_add]
  exact Nat.lt_of_lt_of_le (Nat.mul_lt_mul_of_pos_right h1 (Nat.two_pow_pos k)) (Nat.mul_le_mul_left _ h2)
theorem len_shl (n a k : Nat) (h : (limbs n).length ≤ a) (hk : k ≤ 3200) : (limbs (n * 2 ^ k)).length ≤ a + 100 := len_shl_c n a k 100 h hk
theorem bitN_nat (n i : Nat) : bitN n (i : Int) = n / 2 ^ i % 2 := by
  unfold bitN
  rw [if_neg (by omega), Int.toNat_natCast]
theorem cut_blen (n N : Nat) : blen (n - n / 2 ^ N * 2 ^ N) ≤ N := by
  apply blen_le_of_lt
  have := Nat.mod_lt n (Nat.two_pow_pos N)
  have e := Nat.div_add_mod n (2 ^ N)
  rw [Nat.mul_comm] at e
  omega
theorem cut_bit (n N I : Nat) : bitN (n / 2 ^ N) (I : Int) = bitN n ((N : Int) + (I : Int)) := by
  have e : ((N : Int) + (I : Int)) = ((N + I : Nat) : Int) := by omega
  rw [e, bitN_nat, bitN_nat, Nat.div_div_eq_div_mul, ← Nat.pow_add]
theorem shl_bit (n N I : Nat) : bitN (n * 2 ^ N) ((N : Int) + (I : Int)) = bitN n (I : Int) := by
  have e : ((N : Int) + (I : Int)) = ((N + I : Nat) : Int) := by omega
  rw [e, bitN_nat, bitN_nat, Nat.pow_add, ← Nat.div_div_eq_div_mul, Nat.mul_div_cancel _ (Nat.two_pow_pos N)]
theorem cut_len (n N : Nat) : ((blen (n / 2 ^ N) : Nat) : Int) = max 0 (((blen n : Nat) : Int) - (N : Int)) := by
  by_cases h : n / 2 ^ N = 0
  · have h1 : n < 2 ^ N := by
      rcases Nat.lt_or_ge n (2 ^ N) with g | g
      · exact g
      · have := Nat.div_pos g (Nat.two_pow_pos N); omega
    have := blen_le_of_lt h1
    rw [h, blen_zero]; omega
  · have := blen_shift n N h
    omega
theorem back_bit (r N : Nat) (h : 0 < N) : bitN (r * 2 ^ N) ((N : Int) - 1) = 0 := by
  have e : ((N : Int) - 1) = ((N - 1 : Nat) : Int) := by omega
  rw [e, bitN_nat]
  have e2 : r * 2 ^ N = r * 2 * 2 ^ (N - 1) := by
    conv => lhs; rw [show N = (N - 1) + 1 by omega, Nat.pow_succ]
    rw [Nat.mul_assoc, Nat.mul_comm 2, Nat.mul_comm (2 ^ (N - 1)) 2, Nat.mul_comm 2]
  rw [e2, Nat.mul_div_cancel _ (Nat.two_pow_pos _), Nat.mul_mod_left]
/-- All bits of a power of 2 less 1 are 1. -/
theorem ones_bit (N I : Nat) (h : I < N) : bitN (2 ^ N - 1) (I : Int) = 1 := by
  rw [bitN_nat]
  have h1 : (2 ^ N - 1).testBit I = true := by rw [Nat.testBit_two_pow_sub_one]; exact decide_eq_true h
  rw [Nat.testBit_eq_decide_div_mod_eq] at h1
  exact of_decide_eq_true h1
theorem pow_bit (N I : Nat) (h : I < N) : bitN (2 ^ N) (I : Int) = 0 := by
  rw [bitN_nat, Nat.pow_div (by omega) (by decide)]
  obtain ⟨k, hk⟩ : ∃ k, N - I = k + 1 := ⟨N - I - 1, by omega⟩
  rw [hk, Nat.pow_succ, Nat.mul_mod_left]
theorem pow_bit_top (N : Nat) : bitN (2 ^ N) (N : Int) = 1 := by
  rw [bitN_nat, Nat.div_self (Nat.two_pow_pos N)]
theorem blen_ones (N : Nat) : blen (2 ^ N - 1) = N := by
  cases N with
  | zero => rfl
  | succ N =>
    have h := Nat.two_pow_pos N
    refine blen_eq ?_ ?_
    · rw [Nat.pow_succ]; omega
    · have := Nat.two_pow_pos (N + 1); omega
theorem wrap_fit (x : Nat) (h : x < 18446744073709551616) : IntKind.u64.wrap ((x : Nat) : Int) = ((x : Nat) : Int) := by rw [IntKind.wrap_u64]; omega
theorem wrap_over (n m : Nat) (hn : n < 18446744073709551616) (hm : m < 18446744073709551616) (h : 18446744073709551616 ≤ n + m) : IntKind.u64.wrap ((n : Int) + (m : Int)) < (n : Int) := by rw [IntKind.wrap_u64]; omega
theorem cast_mul_pow (n k : Nat) : ((n : Int) * 2 ^ k) = ((n * 2 ^ k : Nat) : Int) := by rw [Int.natCast_mul, Int.natCast_pow]; rfl
theorem shl_back_fit (n k : Nat) (h : n * 2 ^ k < 18446744073709551616) : IntKind.u64.wrap ((n : Int) * 2 ^ k) / 2 ^ k = (n : Int) := by
  rw [cast_mul_pow, wrap_fit _ h, show ((2 : Int) ^ k) = ((2 ^ k : Nat) : Int) by rw [Int.natCast_pow]; rfl, ← Int.natCast_ediv, Nat.mul_div_cancel _ (Nat.two_pow_pos k)]
theorem shl_back_over (n k : Nat) (h : 18446744073709551616 ≤ n * 2 ^ k) : IntKind.u64.wrap ((n : Int) * 2 ^ k) / 2 ^ k ≠ (n : Int) := by
  rw [cast_mul_pow, IntKind.wrap_u64, show ((2 : Int) ^ k) = ((2 ^ k : Nat) : Int) by rw [Int.natCast_pow]; rfl, show (((n * 2 ^ k : Nat) : Int) % 18446744073709551616) = ((n * 2 ^ k % 18446744073709551616 : Nat) : Int) by rw [Int.natCast_emod]; rfl, ← Int.natCast_ediv]
  have h1 : n * 2 ^ k % 18446744073709551616 < n * 2 ^ k := Nat.lt_of_lt_of_le (Nat.mod_lt _ (by decide)) h
  have h2 : n * 2 ^ k % 18446744073709551616 / 2 ^ k < n := by
    rw [Nat.div_lt_iff_lt_mul (Nat.two_pow_pos k)]; exact h1
  omega
theorem lowN_lt {n : Nat} (h : n < 18446744073709551616) : lowN n = n := if_pos h
theorem lowN_ge {n : Nat} (h : 18446744073709551616 ≤ n) : lowN n = 0 := if_neg (by omega)
theorem lowB_lt {n : Nat} (h : n < 18446744073709551616) : lowB n = true := decide_eq_true h
theorem lowB_ge {n : Nat} (h : 18446744073709551616 ≤ n) : lowB n = false := decide_eq_false (by omega)
theorem len_64 {n : Nat} (h : n < 18446744073709551616) : (limbs n).length ≤ 2 := len_le_of_lt (by simpa using h)
theorem blen_le_len (n : Nat) : blen n ≤ 32 * (limbs n).length := blen_len (Nat.le_refl _)
theorem blen_zero_iff (n : Nat) : blen n = 0 ↔ (limbs n).length = 0 := by
  by_cases h : n = 0
  · subst h; rw [limbs_zero]; exact ⟨fun _ => rfl, fun _ => rfl⟩
  · have h1 := blen_pos h
    have h2 : 0 < (limbs n).length := by rw [limbs_pos h]; simp
    omega
theorem top_one (n : Nat) (h : 0 < blen n) : bitN n (((blen n : Nat) : Int) - 1) = 1 := by
  have hn : n ≠ 0 := by intro e; subst e; rw [blen_zero] at h; omega
  have e : (((blen n : Nat) : Int) - 1) = ((blen n - 1 : Nat) : Int) := by omega
  rw [e, bitN_nat]
  have h1 := pow_blen_le hn
  have h2 := lt_pow_blen n
  have h3 : n / 2 ^ (blen n - 1) < 2 := by
    rw [Nat.div_lt_iff_lt_mul (Nat.two_pow_pos _), ← Nat.pow_succ', show (blen n - 1).succ = blen n by omega]; exact h2
  have h4 : 0 < n / 2 ^ (blen n - 1) := Nat.div_pos h1 (Nat.two_pow_pos _)
  omega
theorem beyond_zero (n k : Nat) : bitN n (((blen n : Nat) : Int) + (k : Int)) = 0 := by
  have e : (((blen n : Nat) : Int) + (k : Int)) = ((blen n + k : Nat) : Int) := by omega
  rw [e, bitN_nat]
  have h2 := Nat.lt_of_lt_of_le (lt_pow_blen n) (Nat.pow_le_pow_right (show 0 < 2 by decide) (Nat.le_add_right (blen n) k))
  rw [Nat.div_eq_of_lt h2]
theorem next_bit (n k : Nat) : n / 2 ^ k = n / 2 ^ (k + 1) + n / 2 ^ (k + 1) + bitN n (k : Int) := by
  rw [bitN_nat, Nat.pow_succ, ← Nat.div_div_eq_div_mul]
  omega
theorem bitN_le (n : Nat) (i : Int) : bitN n i ≤ 1 := by
  unfold bitN
  split <;> omega
end Go.Proofs.YtikajmmeglookaaGreatDoor
/- Noughts appended to a row of words. -/
namespace Go.Proofs.YtikajmmeglookaaGreatDoor
open Go.RowKit
set_option linter.unusedVariables false
set_option maxHeartbeats 400000

theorem wal_zeros_app (o : List Nat) (m : Nat) : wal (o ++ List.replicate m 0) = wal o := by rw [wal_append, wal_zeros, Nat.mul_zero, Nat.add_zero]
theorem zeroCells_one (m : Nat) : Builtin.zeroCells #[Value.int .u64 0] m = (L64 (List.replicate m 0)).toArray := by
  apply Array.ext'
  unfold Builtin.zeroCells
  rw [L64_zeros]
  simp
  apply List.ext_getElem
  · simp
  · intro i h1 h2
    simp at h1 ⊢
    rw [Nat.mod_one]; rfl

theorem run_append_z (w : World) (base g n c m : Nat) (o : List Nat) (hown : Ow w base (.slice (some ⟨g, 0, none⟩) n c) o) (h : n + m ≤ 1000000) (hb : base ≤ w.heap.size) :
    ∃ g' c' w', (Builtin.append_ #[69, 3] 69 #[.slice (some ⟨g, 0, none⟩) n c, .int .i64 (m : Nat)]).run Tryz.prog w = .ok (.slice (some ⟨g', 0, none⟩) (n + m) c') w' ∧
      Ow w' base (.slice (some ⟨g', 0, none⟩) (n + m) c') (o ++ List.replicate m 0) ∧ (g' = g ∨ g' = w.heap.size) ∧ w.grownBy w' (some g) := by
  have hcaps := hown.caps
  have hgb := hown.block
  obtain ⟨i0, hi, hz0, hz1, hz2⟩ := info_parts info64
  have hk : Tryz.prog.underlying 3 = some (.int .i64) := by kernel_rfl
  have hh0 : w.ownsRow base 56 1 (.slice (some ⟨g, 0, none⟩) n c) o.length (L64 o) := hown
  have hmw : IntKind.i64.wrap (m : Int) = (m : Int) := IntWalk.i64_in _ (by omega)
  have hneg : ¬ ((m : Int) < 0) := by omega
  have hmb : ¬ (281474976710656 < (m : Int) * 8) := by omega
  have hzc : (Value.int .u64 0).cells = #[Value.int .u64 0] := rfl
  have ha : ∀ (k : Int) W, Sem.run Tryz.prog (asInt (Value.int IntKind.i64 k)) W = Result.ok k W := fun _ _ => rfl
  have hw0 : IntKind.i64.wrap 0 = 0 := by decide
  rcases hh0.2 with ⟨h1, _⟩ | ⟨g', cap, cur, h1, hg, hh, h2, h3, h4, h5⟩
  · cases h1
  · injection h1 with e1 e2 e3
    injection e1 with e1
    injection e1 with e1
    subst e1 e3
    rw [← e2] at h2 h5
    by_cases hroom : n + m ≤ c
    · have hst := run_storeCells_at Tryz.prog g n 56 (L64 (List.replicate m 0)) 0 cur w hh (by rw [L64_length, List.length_replicate]; omega) (by intro u hu; obtain ⟨z, _, rfl⟩ := List.mem_map.1 hu; rfl)
      simp only [Nat.add_zero] at hst
      have hz1' : ∀ mm, ¬ mm = 0 → (Builtin.zeroCells #[Value.int .u64 0] mm).toList = L64 (List.replicate mm 0) := fun mm _ => by rw [zeroCells_one]
      refine ⟨g, c, w.setRow g (cur.toList.take n ++ L64 (List.replicate m 0) ++ cur.toList.drop (n + (L64 (List.replicate m 0)).length)).toArray, ?_, ?_, .inl rfl, ⟨rfl, rfl, rfl, by simp [World.setRow], fun k _ hk => setRow_other w g k _ (fun e => hk (by rw [e]))⟩⟩
      · rcases Nat.eq_zero_or_pos m with h0 | h0
        · subst h0
          have e : w.setRow g (cur.toList.take n ++ L64 (List.replicate 0 0) ++ cur.toList.drop (n + (L64 (List.replicate 0 0)).length)).toArray = w := by
            have : (cur.toList.take n ++ L64 (List.replicate 0 0) ++ cur.toList.drop (n + (L64 (List.replicate 0 0)).length)).toArray = cur := by simp [L64]
            rw [this, setRow_self w g cur _ _ hh]
          rw [e]
          have hroom' : n ≤ c := by omega
          simp [Builtin.append_, run_underlying Tryz.underlying69, run_underlying hk, sizeOf, typeInfo, hi, hz2, hroom', storeCells, ha, hw0]
        · have h0' : ¬ m = 0 := by omega
          simp [Builtin.append_, run_underlying Tryz.underlying69, run_underlying hk, sizeOf, typeInfo, zeroValue, hi, hz0, hz1, hz2, hroom, hmw, hneg, hmb, h0', hzc, Addr.add_lit, hz1' m h0', hst, ha]
      · have hl : (L64 (List.replicate m 0)).length = m := by rw [L64_length, List.length_replicate]
        refine ⟨by rw [L64_length, Nat.mul_one], .inr ⟨g, c, _, by rw [List.length_append, List.length_replicate, ← e2], hg, setRow_heap w g _ _ _ _ hh, by rw [List.length_append, List.length_replicate, ← e2]; exact hroom, h3, ?_, ?_⟩⟩
        · rw [hl]
          simp only [List.size_toArray, List.length_append, List.length_take, List.length_drop, Array.length_toList (xs := cur), hl]
          omega
        · rw [Nat.mul_one] at h5 ⊢
          rw [h5, List.length_append, List.length_replicate, hl, L64_append]
          rw [List.take_append_of_le_length (by rw [List.length_append, L64_length, hl]; exact Nat.le_refl _), List.take_of_length_le (by rw [List.length_append, L64_length, hl]; exact Nat.le_refl _)]
    · have hm0 : ¬ m = 0 := by omega
      have h63' : ¬ (9223372036854775807 < (n : Int) + (m : Int)) := by omega
      have h48' : ¬ (281474976710656 < Builtin.nextslicecap (n + m) c * 8) := by
        have := growslice_fits (need := n + m) (old := c) (bytes := 8) (by omega) (by omega)
        omega
      have hxl : (L64 o).length = n * 1 := by rw [L64_length, e2, Nat.mul_one]
      have holds : ∀ j u, (L64 o)[j]? = some u → w.cell? ((⟨g, 0, none⟩ : Addr).add j) = some u := hh0.cells (g := g) rfl
      have hfo := run_firstCells_some (P := Tryz.prog) w.drew 1 n ⟨g, 0, none⟩ n c (L64 o) hxl (by simpa using holds)
      have hge := grownCap_ge w (n + m) c 56
      have hcm : grownCap w (n + m) c 56 ≤ maxLen := grownCap_le_maxLen w (n + m) c 56 (by unfold maxLen; omega)
      have hz2' := zeroCells_one m
      refine ⟨w.heap.size, grownCap w (n + m) c 56, w.drew.alloc (.cells ((L64 o).toArray ++ (L64 (List.replicate m 0)).toArray ++ Builtin.zeroCells #[Value.int .u64 0] (grownCap w (n + m) c 56 - (n + m))) 56), ?_, ?_, .inr rfl, ⟨rfl, rfl, rfl, by simp, fun k hk _ => heap_alloc_old w.drew _ hk⟩⟩
      · simp [Builtin.append_, run_underlying Tryz.underlying69, run_underlying hk, sizeOf, typeInfo, zeroValue, hi, hz0, hz1, hz2, hroom, hmw, hneg, hmb, hm0, hzc, h63', h48', Question.forced, hfo, newRow, grownCap, hz2', ha]
        have e3 : ∀ Z : Array Value, (L64 o).toArray ++ ((L64 (List.replicate m 0)).toArray ++ Z) = (L64 o ++ L64 (List.replicate m 0)).toArray ++ Z := fun Z => by apply Array.ext'; simp
        rw [e3]
      · refine ⟨by rw [L64_length, Nat.mul_one], .inr ⟨w.heap.size, _, _, by rw [List.length_append, List.length_replicate, ← e2], hb, heap_alloc_new w.drew _, by rw [List.length_append, List.length_replicate, ← e2]; exact hge, hcm, ?_, ?_⟩⟩
        · simp only [Array.size_append, List.size_toArray, size_zeroCells, L64_length, List.length_replicate]
          rw [← e2]
          simp
          omega
        · simp only [Array.toList_append, Nat.mul_one]
          rw [← L64_append, ← L64_length (o ++ List.replicate m 0)]
          exact List.take_left

theorem wpList_appendZ {w : World} {ops : Array Oper} {rest : List Oper} {o : Oper} {a : Act} {Q : Exit → Act → World → Prop} (hgd : o.guard = none) (s x : Operand) (hty : o.type = 69)
    (ho : o.op = .call { callee := .builtin .append, args := #[s, x], argTypes := #[69, 3] }) (g n c m base : Nat) (os : List Nat) (hs : a.eval s = .slice (some ⟨g, 0, none⟩) n c) (hx : a.eval x = .int .i64 (m : Nat))
    (hown : Ow w base (.slice (some ⟨g, 0, none⟩) n c) os) (hnm : n + m ≤ 1000000) (hb : base ≤ w.heap.size)
    (h : ∀ g' c' w', Ow w' base (.slice (some ⟨g', 0, none⟩) (n + m) c') (os ++ List.replicate m 0) → (g' = g ∨ g' = w.heap.size) → w.grownBy w' (some g) → wpList Tryz.prog ops Q rest (a.put o.dst (.slice (some ⟨g', 0, none⟩) (n + m) c')) w') : wpList Tryz.prog ops Q (o :: rest) a w := by
  obtain ⟨g', c', w', hr, h1, h2, h3⟩ := run_append_z w base g n c m os hown hnm hb
  refine wpList_plain hgd fun K hK => ?_
  unfold Oper.wp execOp
  simp only [ho, resolve, invoke, builtin, Sem.run_bind, Sem.run_pure, Result.andThen_ok, List.map_toArray, List.map_cons, List.map_nil, hs, hx, hty, hr]
  exact hK _ _ (h g' c' w' h1 h2 h3)
end Go.Proofs.YtikajmmeglookaaGreatDoor
/- A product by three products of halves. -/
namespace Go.Proofs.YtikajmmeglookaaGreatDoor
open Go.RowKit
set_option linter.unusedVariables false
set_option maxHeartbeats 400000

/-- The way of halves, as the program has it. -/
abbrev Wh : Value := .agg #[.int .i64 40, .func (.func 91) #[] #[], .func (.func 72) #[] #[]]
/-- It is right for rows with less than N words together. -/
def TOk (N : Nat) : Prop := ∀ (w : World) (q1 q2 : Nat) (va vb : Value) (as_ bs : List Nat) (na nb : Nat), V q1 w va as_ → V q2 w vb bs → as_.length = na → bs.length = nb → na + nb < N →
  Calls Tryz.prog 76 #[Wh, va, vb] w fun e w' => Prod w w' e na nb as_ bs ∧ Ext w w'

/-- The words of a row of products. -/
theorem Prod.open {w w' : World} {e : Ending} {na nb : Nat} {as_ bs : List Nat} (h : Prod w w' e na nb as_ bs) (n : Nat) (hn : na + nb = n) :
  ∃ g c o, e = .returned (.slice (some ⟨g, 0, none⟩) n c) ∧ Ow w' w.heap.size (.slice (some ⟨g, 0, none⟩) n c) o ∧ wal o = wal as_ * wal bs ∧ (∀ x ∈ o, x < 18446744073709551616) ∧ o.length = n := by
  obtain ⟨g, c, o, he, ho, hv, hl⟩ := h
  subst hn
  exact ⟨g, c, o, he, ho, hv, hl, ho.caps.1.symm⟩
theorem AdI.done {n off A zl : Nat} {o : List Nat} {cy : Nat} (h : AdI n off A zl o cy) (hn : off + zl = n) (hA : A < BB ^ n) : wal o = A := by
  have hv := h.val
  rw [hn] at hv
  rcases Nat.eq_zero_or_pos cy with h0 | h0
  · rw [h0, Nat.mul_zero, Nat.add_zero] at hv; exact hv
  · have h1 : cy = 1 := by have := h.cy1; omega
    rw [h1, Nat.mul_one] at hv
    omega
theorem SbI.done {n off A T zl : Nat} {o : List Nat} {cy : Nat} (h : SbI n off A T zl o cy) (hn : off + zl = n) (hT : T ≤ A) : wal o = A - T := by
  have hv := h.val
  rw [hn] at hv
  have hlt := wal_lt o h.lt
  rw [h.len] at hlt
  rcases Nat.eq_zero_or_pos cy with h0 | h0
  · rw [h0, Nat.mul_zero, Nat.add_zero] at hv; omega
  · have h1 : cy = 1 := by have := h.cy1; omega
    rw [h1, Nat.mul_one] at hv
    omega

theorem halves_math (A0 A1 B0 B1 P : Nat) : (A0 + P * A1) * (B0 + P * B1) = A0 * B0 + P * P * (A1 * B1) + P * (A0 * B1 + A1 * B0) := by grind
theorem mid_math (A0 A1 B0 B1 : Nat) : (A0 + A1) * (B0 + B1) - A0 * B0 - A1 * B1 = A0 * B1 + A1 * B0 := by
  have : (A0 + A1) * (B0 + B1) = A0 * B0 + A1 * B1 + (A0 * B1 + A1 * B0) := by grind
  omega
theorem mid_le (A0 A1 B0 B1 : Nat) : A0 * B0 ≤ (A0 + A1) * (B0 + B1) ∧ A1 * B1 ≤ (A0 + A1) * (B0 + B1) - A0 * B0 := by
  have : (A0 + A1) * (B0 + B1) = A0 * B0 + A1 * B1 + (A0 * B1 + A1 * B0) := by grind
  omega
/-- Words that are not there: the number is below. -/
theorem wal_take_lt (o : List Nat) (k : Nat) (hk : k ≤ o.length) (h : wal o < BB ^ k) : wal (o.take k) = wal o := by
  have e := wal_cut o k hk
  rcases Nat.eq_zero_or_pos (wal (o.drop k)) with h0 | h0
  · rw [h0, Nat.mul_zero, Nat.add_zero] at e; exact e.symm
  · have : BB ^ k * 1 ≤ BB ^ k * wal (o.drop k) := Nat.mul_le_mul_left _ h0
    omega
theorem prod_lt {as_ bs : List Nat} (ha : ∀ x ∈ as_, x < 18446744073709551616) (hb : ∀ x ∈ bs, x < 18446744073709551616) : wal as_ * wal bs < BB ^ (as_.length + bs.length) := by
  rw [Nat.pow_add]
  exact Nat.mul_lt_mul'' (wal_lt as_ ha) (wal_lt bs hb)

theorem halves_val (zl n n2 m1 m2 r k : Nat) (o1 o2 o5 A0 A1 B0 B1 as_ bs : List Nat) (hlen1 : o1.length = n2) (hlen2 : o2.length = m1) (hlen5 : o5.length = m2)
    (hl1 : ∀ x ∈ o1, x < 18446744073709551616) (hl2 : ∀ x ∈ o2, x < 18446744073709551616) (hn2 : n + n = n2) (hz : n2 + m1 = zl) (hr : n + r = zl) (hk : min r m2 = k)
    (hv1 : wal o1 = wal A0 * wal B0) (hv2 : wal o2 = wal A1 * wal B1) (hmid : wal o5 = wal A0 * wal B1 + wal A1 * wal B0) (ea : wal as_ = wal A0 + BB ^ n * wal A1) (eb : wal bs = wal B0 + BB ^ n * wal B1)
    (hla : ∀ x ∈ as_, x < 18446744073709551616) (hlb : ∀ x ∈ bs, x < 18446744073709551616) (hlz : as_.length + bs.length = zl) :
    (∀ x ∈ splice (splice (List.replicate zl 0) 0 o1) n2 o2, x < 18446744073709551616) ∧ wal (splice (splice (List.replicate zl 0) 0 o1) n2 o2) + BB ^ n * wal (o5.take k) = wal as_ * wal bs ∧
    wal (splice (splice (List.replicate zl 0) 0 o1) n2 o2) + BB ^ n * wal (o5.take k) < BB ^ zl := by
  have hsp1 := wal_splice (List.replicate zl 0) o1 0 (by rw [List.length_replicate, hlen1]; omega) (fun j _ _ => lb_zeros zl j)
  have hlp1 := splice_len (List.replicate zl 0) o1 0 (by rw [List.length_replicate, hlen1]; omega)
  have hsp2 := wal_splice (splice (List.replicate zl 0) 0 o1) o2 n2 (by rw [hlp1, List.length_replicate, hlen2]; omega) (fun j hj _ => by rw [lb_splice_out _ _ _ _ (by rw [List.length_replicate, hlen1]; omega) (by rw [hlen1]; omega)]; exact lb_zeros zl j)
  rw [hsp1, wal_zeros, Nat.zero_add, Nat.pow_zero, Nat.one_mul] at hsp2
  have hlO := splice_lt (splice (List.replicate zl 0) 0 o1) o2 n2 (splice_lt (List.replicate zl 0) o1 0 (fun x hx => by simp at hx; omega) hl1) hl2
  have hab := prod_lt hla hlb
  rw [hlz] at hab
  have hm := halves_math (wal A0) (wal A1) (wal B0) (wal B1) (BB ^ n)
  rw [← ea, ← eb, ← hv1, ← hv2, ← hmid, ← Nat.pow_add, hn2] at hm
  have htk : wal (o5.take k) = wal o5 := by
    rcases Nat.le_total m2 r with h | h
    · rw [List.take_of_length_le (by omega)]
    · refine wal_take_lt o5 k (by omega) ?_
      rw [show k = r by omega]
      have h1 : BB ^ n * wal o5 < BB ^ n * BB ^ r := by rw [← Nat.pow_add, hr]; omega
      exact Nat.lt_of_mul_lt_mul_left h1
  rw [htk, hsp2]
  exact ⟨hlO, hm.symm, by omega⟩

set_option maxRecDepth 100000 in
set_option maxHeartbeats 8000000 in
theorem halves_calls (N : Nat) (IH : TOk N) (w : World) (q1 q2 : Nat) (va vb : Value) (as_ bs : List Nat) (ha : V q1 w va as_) (hb : V q2 w vb bs) (na nb : Nat) (hna : as_.length = na) (hnb : bs.length = nb)
    (h1 : nb ≤ na) (h2 : na < 2 * nb) (h3 : 40 ≤ nb) (h4 : na + nb ≤ N) (h5 : na + nb ≤ 20000) :
    Calls Tryz.prog 91 #[va, vb, .func (.func 76) #[Wh] #[]] w fun e w' => Prod w w' e na nb as_ bs ∧ Ext w w' := by
  obtain ⟨ad, ca, hva, hca, hbk, hne, hcell⟩ := ha.opened hna (by omega)
  obtain ⟨ad2, cb, hvb, hcb, hbk2, hne2, hcell2⟩ := hb.opened hnb (by omega)
  subst hva hvb
  clear hcell hcell2
  obtain ⟨n, hn⟩ : ∃ n, (na + 1) / 2 = n := ⟨_, rfl⟩
  have hni : ((na : Int) + 1) / 2 = (n : Int) := by omega
  have hn1 : 20 ≤ n := by omega
  have hn2 : n ≤ na := by omega
  have hn3 : 2 * n ≤ na + 1 := by omega
  have hn4 : na ≤ 2 * n := by omega
  obtain ⟨a1, ha1⟩ : ∃ a1, na - n = a1 := ⟨_, rfl⟩
  have ha1i : (na : Int) - (n : Int) = (a1 : Int) := by omega
  by_cases hc : nb ≤ n
  · have hd : decide ((nb : Int) ≤ (n : Int)) = true := by rw [decide_eq_true_iff]; omega
    have hE0 := Ext.refl w
    have IHH := Lib.hid IH
    have hA0 : V q1 w (.slice (some ad) n n) (as_.take n) := ha.take hn2 (Nat.le_refl _)
    have hA1 : V q1 w (.slice (some (ad.add n)) a1 (ca - n)) (as_.drop n) := ha.drop hn2 ha1 (by omega)
    have lA0 : (as_.take n).length = n := by rw [List.length_take]; omega
    have lA1 : (as_.drop n).length = a1 := by rw [List.length_drop]; omega
    have eA := wal_cut as_ n (by omega)
    have hab := prod_lt ha.lim hb.lim
    rw [hna, hnb] at hab
    have hHL := Lib.hid (And.intro lA0 (And.intro lA1 hnb))
    have hEA := Lib.hid (And.intro eA hab)
    obtain ⟨A0, hA0e⟩ : ∃ A0, as_.take n = A0 := ⟨_, rfl⟩
    obtain ⟨A1, hA1e⟩ : ∃ A1, as_.drop n = A1 := ⟨_, rfl⟩
    rw [hA0e] at hA0 hHL hEA
    rw [hA1e] at hA1 hHL hEA
    clear hA0e hA1e lA0 lA1 eA hab hna hnb IH ha
    obtain ⟨n2, hn2e⟩ : ∃ n2, n + nb = n2 := ⟨_, rfl⟩
    obtain ⟨m1, hm1e⟩ : ∃ m1, a1 + nb = m1 := ⟨_, rfl⟩
    obtain ⟨zl, hzl⟩ : ∃ zl, na + nb = zl := ⟨_, rfl⟩
    have hk1 : n2 + a1 = zl := by omega
    have hk2 : zl - n = m1 := by omega
    have hk3 : n < zl := by omega
    have hk4 : (n : Int) < (zl : Int) := by omega
    have hk5 : n < na := by omega
    have hk6 : (n : Int) < (na : Int) := by omega
    have hki : (n2 : Int) + (a1 : Int) = (zl : Int) := by omega
    go_enter Tryz.func91, Tryz.ntmps91
    go_wp2_with (fail)
    simp only [hni]
    refine (IHH.out _ q1 q2 _ _ A0 bs n nb hA0 hb hHL.out.1 hHL.out.2.2 (by omega)).mono ?_
    rintro e w1 ⟨hp, hB⟩
    obtain ⟨g1, c1, o1, rfl, ho1, hv1, hl1, hlen1⟩ := hp.open n2 hn2e
    have hg1 := ho1.block
    have hA1w := hA1
    have hbw := hb
    clear hp hE0 hA0
    go_wp2_with (first
      | (with_reducible show wpList _ _ _ (⟨some 36, _, _, _, _, _⟩ :: _) _ _; refine Classical.byContradiction fun hcontra => ?_)
      | fail)
    refine hcontra ?_
    refine wpList_appendZ (o := ⟨some 36, _, _, _, _, _⟩) rfl (.tmp 31) (.tmp 35) rfl rfl g1 n2 c1 a1 w.heap.size o1 rfl rfl ho1 (by omega) hB.size ?_
    intro g2 c2 w2 ho2 hg2 hgr
    clear hcontra
    rw [hk1] at ho2 ⊢
    have hg1' : w.heap.size ≤ g1 := hg1.1
    have hg2' : w.heap.size ≤ g2 := by have := hB.size; omega
    have hE2 : Ext w w2 := hB.grown hgr hB.size (fun k e => by have e' : k = g1 := (Option.some.inj e).symm; omega)
    have hs2 := hgr.size
    have hA1' : V q1 w2 (.slice (some (ad.add n)) a1 (ca - n)) A1 := hA1w.below hE2
    have hb' : V q2 w2 (.slice (some ad2) nb cb) bs := hbw.below hE2
    have hg2b := ho2.block.2
    have hzo : wal (o1 ++ List.replicate a1 0) = wal A0 * wal bs := by rw [wal_zeros_app, hv1]
    have hzl' : ∀ x ∈ o1 ++ List.replicate a1 0, x < 18446744073709551616 := by
      intro x hx
      rcases List.mem_append.1 hx with h | h
      · exact hl1 x h
      · simp at h; omega
    generalize o1 ++ List.replicate a1 0 = O at *
    have hT := Lib.hid (IHH.out w2.drew q1 q2 _ _ A1 bs a1 nb hA1' hb' hHL.out.2.1 hHL.out.2.2 (by omega))
    have ho2D : Ow w2.drew w.heap.size (.slice (some ⟨g2, 0, none⟩) zl c2) O := ho2
    clear hA1' hb' hA1w hbw hA1 hb hgr hB ho1 hl1 hlen1 hv1
    have hk7 : n + m1 = zl := by omega
    have hcz : m1 ≤ c2 - n := by have := ho2.caps; omega
    have hzn6 : zl ≤ 1000000 := by omega
    have hnc2 : n < c2 := by have := ho2.caps; omega
    have hnc2i : (n : Int) < (c2 : Int) := by omega
    have hz2c : zl ≤ c2 := by have := ho2.caps; omega
    have hz2ci : (zl : Int) ≤ (c2 : Int) := by omega
    have hnzl : (n : Int) ≤ (zl : Int) := by omega
    have hnc2j : (n : Int) ≤ (c2 : Int) := by omega
    have hn0i : (0 : Int) ≤ (n : Int) := by omega
    have hnai2 : (n : Int) ≤ (na : Int) := by omega
    have hcai : (na : Int) ≤ (ca : Int) := by omega
    have hncaj : (n : Int) ≤ (ca : Int) := by omega
    have hnca : n < ca := by omega
    have hcne : ¬ (ca = n) := by omega
    have hc2ne : ¬ (c2 = n) := by omega
    have hncai : (n : Int) < (ca : Int) := by omega
    clear ho2 hn hn3 hn4 hc hd hn2e h1 h2 h3 h4 h5 hbk hbk2 hne hne2 hca hcb hs2 hg2b
    go_wp2_with (fail)
    go_region_held3 (fun X => True)
      (first
        | exact trivial)
      (first
        | (go_at_call 76; ((with_reducible refine hT.out.mono ?_); rintro e w3 ⟨hp, hB3⟩; obtain ⟨g3, c3, o3, rfl, ho3, hv3, hl3, hlen3⟩ := hp.open m1 hm1e; have ho2E := ho2D.ext hB3; have hg3 := ho3.block.1; have hg2b := ho2D.block.2; have hV3 := ho3.toV hl3 g2 (by omega)))
        | (go_at_call 80; ((with_reducible refine (addTo_calls w3 g2 w.heap.size zl c2 n m1 (c2 - n) O o3 _ ho2E hzl' (Nat.le_of_eq hk7) hcz hzn6 hV3 (Nat.le_of_eq hlen3)).mono ?_); rintro e w4 ⟨⟨o6, cy6, rfl, hA6, ho6⟩, hB4⟩)))
    have hval : wal O + BB ^ n * wal o3 = wal as_ * wal bs := by
      rw [hzo, hv3, hEA.out.1, Nat.add_mul, Nat.mul_assoc]
    have hv6 := hA6.done hk7 (by rw [hval, ← hzl]; exact hEA.out.2)
    rw [hval] at hv6
    have HF : Hid (Prod w w4 (.returned (.slice (some ⟨g2, 0, none⟩) zl c2)) na nb as_ bs) := by
      refine ⟨g2, c2, o6, by rw [hzl], ?_, hv6, hA6.lt⟩
      rw [hzl]; exact ho6
    have hEF : Ext w w4 := (hE2.drew.below hB3).but hB4 hg2'
    clear hv6 hA6 ho6 hB4 hB3 hval hT hV3 ho2E ho3 hp
    go_wp2
    go_ret
    exact ⟨HF.out, hEF⟩
  · obtain ⟨b1, hb1⟩ : ∃ b1, nb - n = b1 := ⟨_, rfl⟩
    have hd : decide ((nb : Int) ≤ (n : Int)) = false := by rw [decide_eq_false_iff_not]; omega
    have hE0 := Ext.refl w
    have IHH := Lib.hid IH
    have hA0 : V q1 w (.slice (some ad) n n) (as_.take n) := ha.take hn2 (Nat.le_refl _)
    have hA1 : V q1 w (.slice (some (ad.add n)) a1 (ca - n)) (as_.drop n) := ha.drop hn2 ha1 (by omega)
    have hB0 : V q2 w (.slice (some ad2) n n) (bs.take n) := hb.take (by omega) (Nat.le_refl _)
    have hB1 : V q2 w (.slice (some (ad2.add n)) b1 (cb - n)) (bs.drop n) := hb.drop (by omega) hb1 (by omega)
    have lA0 : (as_.take n).length = n := by rw [List.length_take]; omega
    have lA1 : (as_.drop n).length = a1 := by rw [List.length_drop]; omega
    have lB0 : (bs.take n).length = n := by rw [List.length_take]; omega
    have lB1 : (bs.drop n).length = b1 := by rw [List.length_drop]; omega
    have eA := wal_cut as_ n (by omega)
    have eB := wal_cut bs n (by omega)
    have hH' : Hid (as_.length + bs.length = na + nb) := by rw [Hid, hna, hnb]
    have HLA := Lib.hid ha.lim
    have HLB := Lib.hid hb.lim
    have HE := Lib.hid (And.intro eA eB)
    have HL := Lib.hid (And.intro lA0 (And.intro lA1 (And.intro lB0 lB1)))
    have hnn : n ≤ nb := by omega
    clear ha hb IH hn hna hnb eA eB lA0 lA1 lB0 lB1
    obtain ⟨A0, hA0e⟩ : ∃ A0, as_.take n = A0 := ⟨_, rfl⟩
    obtain ⟨A1, hA1e⟩ : ∃ A1, as_.drop n = A1 := ⟨_, rfl⟩
    obtain ⟨B0, hB0e⟩ : ∃ B0, bs.take n = B0 := ⟨_, rfl⟩
    obtain ⟨B1, hB1e⟩ : ∃ B1, bs.drop n = B1 := ⟨_, rfl⟩
    rw [hA0e] at hA0 HL HE
    rw [hA1e] at hA1 HL HE
    rw [hB0e] at hB0 HL HE
    rw [hB1e] at hB1 HL HE
    clear hA0e hA1e hB0e hB1e
    obtain ⟨n2, hn2e⟩ : ∃ n2, n + n = n2 := ⟨_, rfl⟩
    obtain ⟨m1, hm1e⟩ : ∃ m1, a1 + b1 = m1 := ⟨_, rfl⟩
    obtain ⟨m2, hm2e⟩ : ∃ m2, (n + 1) + (n + 1) = m2 := ⟨_, rfl⟩
    go_enter Tryz.func91, Tryz.ntmps91
    go_wp2_with (fail)
    simp only [hni]
    go_quiet (fail)
    go_wp2_with (fail)
    have hE1 : Ext w (w.drewN nq) := ext_drewN w nq
    refine (IHH.out _ q1 q2 _ _ A0 B0 n n (hA0.below hE1) (hB0.below hE1) HL.out.1 HL.out.2.2.1 (by omega)).mono ?_
    rintro e w1 ⟨hp, hB⟩
    obtain ⟨g1, c1, o1, rfl, ho1, hv1, hl1, hlen1⟩ := hp.open n2 hn2e
    replace hE1 := hE1.below hB
    clear hp hB
    go_wp2_with (fail)
    refine (IHH.out _ q1 q2 _ _ A1 B1 a1 b1 (hA1.below hE1) (hB1.below hE1) HL.out.2.1 HL.out.2.2.2 (by omega)).mono ?_
    rintro e w2 ⟨hp, hB⟩
    obtain ⟨g2, c2, o2, rfl, ho2, hv2, hl2, hlen2⟩ := hp.open m1 hm1e
    replace hE1 := hE1.below hB
    have hg1 := ho1.block
    replace ho1 := ho1.ext hB
    have hs2 := hB.size
    clear hp hB
    go_wp2_with (fail)
    have hmx : max n a1 + 1 = n + 1 := by omega
    have hmx2 : max n b1 + 1 = n + 1 := by omega
    refine (sum_calls w2 q1 _ _ A0 A1 (hA0.below hE1) (hA1.below hE1) (n + 1) (by rw [HL.out.1, HL.out.2.1]; exact hmx) (by omega)).mono ?_
    rintro e w3 ⟨rfl, ⟨s1, hs1, hsv1, hsl1, hslen1⟩, hB⟩
    replace hE1 := hE1.below hB
    have hg2 := ho2.block
    replace ho1 := ho1.ext hB
    replace ho2 := ho2.ext hB
    have hs3 := hB.size
    have hb3 := hs1.block
    obtain ⟨g3, hg3⟩ : ∃ g3, w2.heap.size = g3 := ⟨_, rfl⟩
    rw [hg3] at hs1 hb3 ⊢
    clear hB
    go_wp2_with (fail)
    refine (sum_calls w3 q2 _ _ B0 B1 (hB0.below hE1) (hB1.below hE1) (n + 1) (by rw [HL.out.2.2.1, HL.out.2.2.2]; exact hmx2) (by omega)).mono ?_
    rintro e w4 ⟨rfl, ⟨s2, hs2', hsv2, hsl2, hslen2⟩, hB⟩
    replace hE1 := hE1.below hB
    replace ho1 := ho1.ext hB
    replace ho2 := ho2.ext hB
    replace hs1 := hs1.ext hB
    have hs4 := hB.size
    have hb4 := hs2'.block
    obtain ⟨g4, hg4⟩ : ∃ g4, w3.heap.size = g4 := ⟨_, rfl⟩
    rw [hg4] at hs2' hb4 ⊢
    clear hB
    go_wp2_with (fail)
    have hsw := hE1.size
    refine (IHH.out w4 (g3 + 1) (g4 + 1) _ _ s1 s2 (n + 1) (n + 1) (hs1.toV hsl1 (g3 + 1) (by omega)) (hs2'.toV hsl2 (g4 + 1) (by omega)) hslen1 hslen2 (by omega)).mono ?_
    rintro e w5 ⟨hp, hB⟩
    obtain ⟨g5, c5, o3, rfl, ho3, hv3, hl3, hlen3⟩ := hp.open m2 hm2e
    replace hE1 := hE1.below hB
    replace ho1 := ho1.ext hB
    replace ho2 := ho2.ext hB
    have hb5 := ho3.block
    have hc5 := ho3.caps.2.1
    obtain ⟨hmid1, hmid2⟩ := mid_le (wal A0) (wal A1) (wal B0) (wal B1)
    rw [hsv1, hsv2] at hv3
    rw [← hv1, ← hv3] at hmid1
    rw [← hv1, ← hv2, ← hv3] at hmid2
    have hmid := mid_math (wal A0) (wal A1) (wal B0) (wal B1)
    rw [← hv1, ← hv2, ← hv3] at hmid
    clear hp hB hs1 hs2' hsv1 hsv2 hsl1 hsl2 hslen1 hslen2
    go_wp2_with (fail)
    refine (takeFrom_calls w5 g5 w4.heap.size m2 c5 0 m2 c5 o3 o1 _ ho3 hl3 (by omega) hc5 (by omega) (ho1.toV hl1 g5 (by omega)) (by rw [hlen1]; omega)).mono ?_
    rintro e w6 ⟨rfl, ⟨o4, cy4, hS4, ho4⟩, hB6⟩
    rw [Nat.pow_zero, Nat.one_mul] at hS4
    have hv4 := hS4.done (Nat.zero_add _) hmid1
    have hl4 := hS4.lt
    rw [← hv4] at hmid2 hmid
    replace hE1 := hE1.but hB6 (by omega)
    replace ho1 := ho1.but hB6 (by omega)
    replace ho2 := ho2.but hB6 (by omega)
    have hs6 := hB6.size
    clear hB6 hS4 hv4 ho3 hl3 hlen3 hv3 hmid1
    go_wp2_with (fail)
    refine (takeFrom_calls w6 g5 w4.heap.size m2 c5 0 m2 c5 o4 o2 _ ho4 hl4 (by omega) hc5 (by omega) (ho2.toV hl2 g5 (by omega)) (by rw [hlen2]; omega)).mono ?_
    rintro e w7 ⟨rfl, ⟨o5, cy5, hS5, ho5⟩, hB7⟩
    rw [Nat.pow_zero, Nat.one_mul] at hS5
    have hv5 := hS5.done (Nat.zero_add _) hmid2
    have hl5 := hS5.lt
    have hlen5 := hS5.len
    rw [← hv5] at hmid
    replace hE1 := hE1.but hB7 (by omega)
    replace ho1 := ho1.but hB7 (by omega)
    replace ho2 := ho2.but hB7 (by omega)
    have hs7 := hB7.size
    clear hB7 hS5 hv5 ho4 hl4 hmid2
    obtain ⟨i0, hi, hz0, hz1, hz2⟩ := info_parts info64
    obtain ⟨zl, hzl⟩ : ∃ zl, na + nb = zl := ⟨_, rfl⟩
    have h5' : na + nb = zl → zl ≤ 20000 := fun h => by rw [← h]; exact h5
    have hzli : (na : Int) + (nb : Int) = (zl : Int) := by omega
    have h2n : (2 : Int) * (n : Int) = (n2 : Int) := by omega
    have hzn : zl - n2 = m1 := by omega
    obtain ⟨g8, hg8⟩ : ∃ g8, w7.heap.size = g8 := ⟨_, rfl⟩
    have HMID := Lib.hid hmid
    have HV12 := Lib.hid (And.intro hv1 hv2)
    have hV1 : V g8 w7 _ o1 := ho1.toV hl1 g8 (by omega)
    have hV2 : V g8 w7 _ o2 := ho2.toV hl2 g8 (by omega)
    have hV5 : V g8 w7 _ o5 := ho5.toV hl5 g8 (by have := ho5.block; omega)
    have hz1a : n2 ≤ zl := by omega
    have hz1b : zl ≤ 20000 := h5' hzl
    have hz1c : n ≤ zl := by omega
    have hn2i : (0 : Int) ≤ (n2 : Int) := by omega
    have hn2k : n2 < zl := by omega
    have hn2l : (n2 : Int) < (zl : Int) := by omega
    have hm1p : 0 < m1 := by omega
    have hn2j : (n2 : Int) ≤ (zl : Int) := by omega
    have hk5 : n2 + m1 = zl := by omega
    have hH : Hid (na + nb = zl ∧ n + n = n2 ∧ a1 + b1 = m1 ∧ (n + 1) + (n + 1) = m2 ∧ na - n = a1 ∧ nb - n = b1 ∧ n ≤ na ∧ n ≤ nb ∧ 20 ≤ n ∧ w.heap.size ≤ g8) := ⟨hzl, hn2e, hm1e, hm2e, ha1, hb1, hn2, hnn, hn1, by rw [← hg8]; exact hE1.size⟩
    clear hmid hv1 hv2 ho1 ho2 ho5 hs2 hs3 hs4 hs6 hs7 hb3 hb4 hb5 hg1 hg2 hg3 hg4 hE0 hA0 hA1 hB0 hB1 hmx hmx2 hca hcb hbk hbk2 hne hne2 hsw IHH h1 h2 h3 h4 h5 hn1 hn2 hn3 hn4 ha1 hb1 hnn hn2e hm1e hm2e hzl ha1i hc hd h5'
    go_wp2_with (first
      | (at_make; refine wpList_make_full _ rfl _ _ 69 rfl w7.heap.size 56 i0 (.int .u64 0) 1 Tryz.underlying69 hi hz0 hz1 _ _ _ _ zl rfl rfl (by omega) (by omega) (by rw [hz2]; omega) (by unfold maxLen; omega) (Nat.le_refl _) ?_; intro w8 hown hgrow; have hz := Ow.zeros hown; rw [hg8] at hz; have hE8 : Ext w7 w8 := (Ext.refl w7).grown hgrow (Nat.le_refl _) (fun _ h => by cases h); have hV18 := hV1.below hE8; have hV28 := hV2.below hE8; have hV58 := hV5.below hE8; have hE9 := hE1.below hE8; clear hown hgrow)
      | (with_reducible show wpList _ _ _ _ _ _; refine wpList_copyW (o := ⟨some 92, _, _, _, _, _⟩) rfl (.tmp 90) (.tmp 91) rfl g8 0 zl zl (some ⟨g1, 0, none⟩) n2 c1 rfl rfl g8 zl zl (List.replicate zl 0) hz o1 hV18 (by omega) (by omega) ?_; intro w9 hz9 hb9; have hV29 := hV28.but hb9; have hV59 := hV58.but hb9)
      | (with_reducible show wpList _ _ _ _ _ _; refine wpList_copyW (o := ⟨some 98, _, _, _, _, _⟩) rfl (.tmp 96) (.tmp 97) rfl g8 n2 m1 m1 (some ⟨g2, 0, none⟩) m1 c2 rfl rfl g8 zl zl _ hz9 o2 hV29 (Nat.le_refl _) (by omega) ?_; intro w10 hz10 hb10; have hV510 := hV59.but hb10)
      | fail)
    obtain ⟨r, hr⟩ : ∃ r, zl - n = r := ⟨_, rfl⟩
    obtain ⟨k, hk⟩ : ∃ k, min r m2 = k := ⟨_, rfl⟩
    have hri : (zl : Int) - (n : Int) = (r : Int) := by omega
    have hnz : n < zl := by omega
    have hrw : IntKind.i64.wrap (r : Int) = (r : Int) := IntWalk.i64_in _ (by omega)
    have hnzi : (n : Int) < (zl : Int) := by omega
    have hO := Lib.hid (halves_val zl n n2 m1 m2 r k o1 o2 o5 A0 A1 B0 B1 as_ bs hlen1 hlen2 hlen5 hl1 hl2 hH.out.2.1 hk5 (by omega) hk HV12.out.1 HV12.out.2 HMID.out HE.out.1 HE.out.2 HLA.out HLB.out (by rw [← hH.out.1]; exact hH'.out))
    generalize splice (splice (List.replicate zl 0) 0 o1) n2 o2 = O at *
    have hz11 : Ow w10.drew g8 (.slice (some ⟨g8, 0, none⟩) zl zl) O := hz10
    have hV6 : V g8 w10.drew (.slice (some ⟨g5, 0, none⟩) k c5) (o5.take k) := (hV510.take (by omega) (by omega)).below (Ext.refl w10).drew
    have hkl : (o5.take k).length ≤ r := by rw [List.length_take]; omega
    have hEE : Ext w w10 := by
      have h := hH.out.2.2.2.2.2.2.2.2.2
      exact (hE9.but hb9 h).but hb10 h
    have hFit := fun W => fit_calls W (some ⟨g5, 0, none⟩) m2 c5 r k hc5 hk (by omega)
    have hAdd := addTo_calls w10.drew g8 g8 zl zl n r r O (o5.take k) _ hz11 hO.out.1 (by omega) (Nat.le_refl _) (by omega) hV6 hkl
    have HFit := Lib.hid hFit
    have HAdd := Lib.hid hAdd
    clear hFit hAdd hz11 hV6 hkl hz10 hV510
    go_region_held3 (fun X => True)
      (first
        | exact trivial)
      (first
        | (go_at_call 105; ((with_reducible refine (HFit.out _).mono ?_); rintro e w' ⟨rfl, rfl⟩))
        | (go_at_call 80; ((with_reducible refine HAdd.out.mono ?_); rintro e w11 ⟨⟨o6, cy6, rfl, hA6, ho6⟩, hB11⟩)))
    have hv6 := hA6.done (by omega) hO.out.2.2
    rw [hO.out.2.1] at hv6
    have HF : Hid (Prod w w11 (.returned (.slice (some ⟨g8, 0, none⟩) zl zl)) na nb as_ bs) := by
      refine ⟨g8, zl, o6, by rw [hH.out.1], ?_, hv6, hA6.lt⟩
      rw [hH.out.1]
      exact ho6.base_mono hH.out.2.2.2.2.2.2.2.2.2
    have hEF : Ext w w11 := hEE.drew.but hB11 hH.out.2.2.2.2.2.2.2.2.2
    clear hv6 hA6 ho6 hB11 hEE hO HFit HAdd
    go_wp2
    go_ret
    exact ⟨HF.out, hEF⟩
end Go.Proofs.YtikajmmeglookaaGreatDoor
