/- Proved: the statement NttOnes: whatever row of at most 200 limbs and whatever place: with one limb that is 1 the sums are the limbs, with noughts ahead as many places on; of two rows of greatest limbs each sum is that product as often as there are pairs. No condition. -/
import Derived.Test.YtofhpfmgopmcmaaDoorSums
import Derived.Test.YtofhpfmgopmcmaaDoorO1
import Derived.Deep.OwnRows
namespace Go.Proofs.YtofhpfmgopmcmaaDoor
open Go.RowKit
set_option linter.unusedVariables false
set_option maxHeartbeats 400000

theorem Own.but {w w' : World} {base g q n c : Nat} {o : List Nat} (h : Own w base (.slice (some ⟨g, 0, none⟩) n c) o) (hb : But q w w') (hne : g ≠ q) : Own w' base (.slice (some ⟨g, 0, none⟩) n c) o := by
  have hlt := h.block.2
  refine ⟨h.1, ?_⟩
  rcases h.2 with hn | ⟨q', cap, cur, e, hbq, hgg, rest⟩
  · exact .inl hn
  · injection e with e1 e2 e3
    injection e1 with e1
    injection e1 with e1
    subst e1
    refine .inr ⟨g, cap, cur, by rw [e2, e3], hbq, ?_, rest⟩
    rw [hb.block g hlt (fun e => hne (by injection e))]
    exact hgg
theorem made32 (n : Nat) : madeCells #[Value.int .u32 0] n = (L32 (List.replicate n 0)).toArray := by
  rw [← Array.toArray_toList (xs := madeCells #[Value.int .u32 0] n)]
  congr 1
  have := toList_madeCells_one (Value.int .u32 0) n
  rw [L32_zeros]
  exact this
theorem make_run (w : World) (n : Nat) (hn : n ≤ 1000000) :
    (Instr.makeSlice 22 (.int .i64 (n : Int)) (.int .i64 (n : Int))).run Tryd.prog w = .ok (.slice (some ⟨w.heap.size, 0, none⟩) n n) (w.alloc (.cells (L32 (List.replicate n 0)).toArray 27)) := by
  rw [← made32]
  exact run_make_row' 22 27 (.int .u32 0) 4 Tryd.underlying22 info32 rfl .i64 .i64 n (by omega) (by omega) w
theorem own_made (w : World) (base n : Nat) (hb : base ≤ w.heap.size) (hn : n ≤ 1000000) : Own (w.alloc (.cells (L32 (List.replicate n 0)).toArray 27)) base (.slice (some ⟨w.heap.size, 0, none⟩) n n) (List.replicate n 0) := by
  have := World.ownsRow_lit (base := base) (e := 27) (size := 1) w (L32 (List.replicate n 0)).toArray n hb (by unfold maxLen; omega) (by simp [L32_length])
  simpa [Own] using this
theorem two_made (w : World) (N n : Nat) (hN : w.heap.size = N) (hn : n ≤ 1000000) :
    Own ((w.alloc (.cells (L32 (List.replicate n 0)).toArray 27)).alloc (.cells (L32 (List.replicate n 0)).toArray 27)) N (.slice (some ⟨N, 0, none⟩) n n) (List.replicate n 0) ∧
    Own ((w.alloc (.cells (L32 (List.replicate n 0)).toArray 27)).alloc (.cells (L32 (List.replicate n 0)).toArray 27)) N (.slice (some ⟨N + 1, 0, none⟩) n n) (List.replicate n 0) ∧
    Ext w ((w.alloc (.cells (L32 (List.replicate n 0)).toArray 27)).alloc (.cells (L32 (List.replicate n 0)).toArray 27)) := by
  subst hN
  refine ⟨(own_made w _ n (Nat.le_refl _) hn).alloc _, ?_, ((Ext.refl w).alloc _).alloc _⟩
  have := own_made (w.alloc (.cells (L32 (List.replicate n 0)).toArray 27)) w.heap.size n (by simp) hn
  rwa [show (w.alloc (.cells (L32 (List.replicate n 0)).toArray 27)).heap.size = w.heap.size + 1 by simp] at this
theorem U3.at_ {w : World} {A : Option Addr} {n c : Nat} {cs : List Nat} (h : U3 w (.slice A n c) cs) (h0 : 0 < n) : ∃ ad, A = some ad ∧ ad.block < w.heap.size ∧ ∀ k, k < n → w.cell? (ad.add (k * 3)) = some (.int .u32 (lb cs k % 4294967296 : Nat)) ∧ w.cell? ⟨(ad.add (k * 3)).block, (ad.add (k * 3)).off + 1, none⟩ = some (.int .u32 (lb cs k / 4294967296 % 4294967296 : Nat)) ∧ w.cell? ⟨(ad.add (k * 3)).block, (ad.add (k * 3)).off + 2, none⟩ = some (.int .u32 (lb cs k / 18446744073709551616 % 4294967296 : Nat)) := by
  obtain ⟨A', c', e, _, hr⟩ := h
  injection e with e1 e2 e3
  subst e1 e2 e3
  obtain ⟨ad, rfl, hb, hcell⟩ := hr h0
  refine ⟨ad, rfl, hb, fun k hk => ?_⟩
  have hl := lb_fl cs k hk
  have k0 := hcell (k * 3) (by omega)
  have k1 := hcell (k * 3 + 1) (by omega)
  have k2 := hcell (k * 3 + 2) (by omega)
  rw [hl.1] at k0
  rw [hl.2.1, ← addr_add_add, addr_at _ 1 (by decide)] at k1
  rw [hl.2.2, ← addr_add_add, addr_at _ 2 (by decide)] at k2
  exact ⟨k0, k1, k2⟩
theorem limbs200 (w : World) (v : Value) (xs a : List Nat) (n : Nat) (ha : xs.take 200 = a) (hn : a.length = n) (hu : U w v xs) :
    Calls Tryd.prog 13 #[v, .int .i64 200] w fun e w' => ∃ A c, e = .returned (.slice A n c) ∧ U w' (.slice A n c) a ∧ Ext w w' := by
  refine (limbs_B w v xs 200 (by omega) hu).mono ?_
  rintro e w' ⟨u, rfl, hz, hB⟩
  rw [ha] at hz
  obtain ⟨A3, c3, e3, _⟩ := id hz
  rw [hn] at e3
  subst e3
  exact ⟨A3, c3, rfl, hz, hB⟩

set_option maxRecDepth 100000 in
set_option maxHeartbeats 4000000 in
theorem NttOnes_walk (w : World) (hg : Gl w) (va : Value) (xa : List Nat) (hua : U w va xa) (by_ : Nat) (hby : by_ < 256) :
    Calls Tryd.prog 11 #[va, .int .u8 (by_ : Nat)] w fun e w' => e = .returned (.bool true) ∧ Ext w w' := by
  have HB := Ext.refl w
  obtain ⟨a, ha⟩ : ∃ a, xa.take 200 = a := ⟨_, rfl⟩
  obtain ⟨na, hna⟩ : ∃ na, a.length = na := ⟨_, rfl⟩
  have hla : na ≤ 200 := by rw [← hna, ← ha, List.length_take]; exact Nat.min_le_left _ _
  have hLa := Lib.hid (fun W h => limbs200 W va xa a na ha hna h)
  have hxa : ∀ x ∈ a, x < 4294967296 := fun x h => hua.lim x (by rw [← ha] at h; exact List.mem_of_mem_take h)
  obtain ⟨q, hq⟩ : ∃ q, by_ % 100 = q := ⟨_, rfl⟩
  have hqi : (by_ : Int) % 100 = (q : Int) := by omega
  have hq100 : q < 100 := by omega
  obtain ⟨n, hn⟩ : ∃ n, 1 + q = n := ⟨_, rfl⟩
  have hni : (1 : Int) + (q : Int) = (n : Int) := by omega
  have hn0 : 0 < n := by omega
  have hn1 : n ≤ 100 := by omega
  have hmk := fun w => make_run w n (by omega)
  obtain ⟨cs, hcs⟩ : ∃ cs, cvs a (oneL n) = cs := ⟨_, rfl⟩
  obtain ⟨m1, hm1⟩ : ∃ m1, cs.length = m1 := ⟨_, rfl⟩
  obtain ⟨ds, hds⟩ : ∃ ds, cvs (allL n) (allL n) = ds := ⟨_, rfl⟩
  obtain ⟨m2, hm2⟩ : ∃ m2, 2 * n - 1 = m2 := ⟨_, rfl⟩
  have hdl : ds.length = m2 := by rw [← hds, cvs_pos _ _ (by rw [allL_len]; exact hn0) (by rw [allL_len]; exact hn0), conv_len, allL_len]; omega
  have hcase : Hid (na = 0 ∧ m1 = 0 ∨ 0 < na ∧ na + n - 1 = m1) := by
    rcases Nat.eq_zero_or_pos na with h | h
    · exact .inl ⟨h, by rw [← hm1, ← hcs, cvs_nil _ _ (.inl (by omega))]; rfl⟩
    · exact .inr ⟨h, by rw [← hm1, ← hcs, cvs_pos _ _ (by omega) (by rw [oneL_len]; exact hn0), conv_len, oneL_len]; omega⟩
  have hcv : Hid (∀ k, k < m1 → lb cs k = if n - 1 ≤ k then lb a (k - (n - 1)) else 0) := by
    intro k hk
    rcases hcase.out with h | h
    · omega
    · rw [← hcs, cvs_pos _ _ (by omega) (by rw [oneL_len]; exact hn0), lb_conv _ _ _ (by rw [oneL_len]; omega), cv_one _ _ _ _ hn0]
      by_cases h2 : n - 1 ≤ k
      · rw [if_pos h2, if_pos (by omega)]
      · rw [if_neg h2, if_neg (by omega)]
  have hdv : Hid (∀ k, k < m2 → ∀ r, min (k + 1) (2 * n - 1 - k) = r → lb ds k = r * 18446744065119617025) := by
    intro k hk r hr
    rw [← hds, cvs_pos _ _ (by rw [allL_len]; exact hn0) (by rw [allL_len]; exact hn0), lb_conv _ _ _ (by rw [allL_len]; omega), cv_all_m n k (by omega) r hr]
  have hCv := Lib.hid (fun W hg A A2 ca cb h1 h2 => conv_N W hg A A2 na n ca cb a (oneL n) cs m1 h1 h2 (by omega) (by omega) hcs hm1)
  have hCv2 := Lib.hid (fun W hg A A2 ca cb h1 h2 => conv_N W hg A A2 n n ca cb (allL n) (allL n) ds m2 h1 h2 (by omega) (by omega) hds hdl)
  have HNA := Lib.hid hna
  have HM1 := Lib.hid hm1
  have HDL := Lib.hid hdl
  have hm2i : (2 : Int) * (n : Int) - 1 = (m2 : Int) := by omega
  have hm2b : m2 ≤ 200 := by omega
  have hm1b : m1 ≤ 400 := by have := hcase.out; omega
  have hn1i : (n : Int) - 1 = ((n - 1 : Nat) : Int) := by omega
  obtain ⟨n1, hn1n⟩ : ∃ n1, n - 1 = n1 := ⟨_, rfl⟩
  rw [hn1n] at hn1i
  have HN1 : Hid (n - 1 = n1 ∧ 2 * n - 1 = m2) := ⟨hn1n, hm2⟩
  have hn1l : n1 < n := by omega
  clear ha hna hq hn hcs hm1 hds hm2 hdl hn1n
  go_enter Tryd.func11, Tryd.ntmps11
  go_wp2_with (fail)
  refine (head_calls _ hg).mono ?_
  rintro e w1 ⟨rfl, hB⟩
  replace HB := HB.below hB
  replace hg := hg.ext hB
  replace hua := hua.below hB
  clear hB
  go_wp2_with (fail)
  refine (hLa.out _ hua).mono ?_
  rintro e w2 ⟨A, ca, rfl, hu1, hB⟩
  replace HB := HB.below hB
  replace hg := hg.ext hB
  clear hB hua hLa
  go_wp2_with (fail)
  go_cut [7, 8] from 24 to 27 (fun s7 s8 wx => ∃ (g1 g2 : Nat), s7 = .slice (some ⟨g1, 0, none⟩) n n ∧ s8 = .slice (some ⟨g2, 0, none⟩) n n ∧ g1 ≠ g2 ∧ Own wx w2.heap.size (.slice (some ⟨g1, 0, none⟩) n n) (List.replicate n 0) ∧ Own wx w2.heap.size (.slice (some ⟨g2, 0, none⟩) n n) (List.replicate n 0) ∧ Ext w2 wx)
  case first =>
    go_region
    all_goals
      go_wp2_with (fail)
      go_meet
      first
      | exact ⟨_, _, rfl, rfl, by omega, (two_made w2 _ n rfl (by omega)).1.drew, (two_made w2 _ n rfl (by omega)).2.1.drew, (two_made w2 _ n rfl (by omega)).2.2.drew⟩
      | exact ⟨_, _, rfl, rfl, by omega, (two_made w2 _ n rfl (by omega)).2.1.drew, (two_made w2 _ n rfl (by omega)).1.drew, (two_made w2 _ n rfl (by omega)).2.2.drew⟩
  case rest =>
    obtain ⟨g1, g2, rfl, rfl, hne, ho1, ho2, hE⟩ := hcut
    obtain ⟨B, hBs⟩ : ∃ B, w2.heap.size = B := ⟨_, rfl⟩
    have HBS := Lib.hid hBs
    rw [hBs] at ho1 ho2
    have hgb1 := ho1.block
    have hgb2 := ho2.block
    have hc2 := ho1.rd.2 n1 (by simp; omega)
    have hf2 := ho1.frozen' n1
    rw [lb_zeros] at hc2
    have ho1' := ho1.set' n1 1
    have ho2' := ho2.but ((But.refl g1 _).setCell n1 (.int .u32 1)) (fun h => hne h.symm)
    have hE' := hE.setCell (p := ⟨g1, n1, none⟩) (by rw [hBs]; exact hgb1.1) (.int .u32 (1 : Nat))
    have e1 : (List.replicate n 0).set n1 1 = oneL n := by unfold oneL; rw [HN1.out.1]
    rw [e1] at ho1'
    clear hBs e1 hE ho1 ho2 hmk
    go_wp2
    go_loopw [9] (fun t wr => ∃ (j : Nat) (o : List Nat), j ≤ n ∧ t = .int .i64 (j : Nat) ∧ Hid (AllI n j o) ∧ Own wr B (.slice (some ⟨g2, 0, none⟩) n n) o ∧ Own wr B (.slice (some ⟨g1, 0, none⟩) n n) (oneL n) ∧ Ext w2 wr) (fun t _ => n - (intOf t).toNat)
    case atStart => exact ⟨0, _, Nat.zero_le _, rfl, AllI.start n, ho2', ho1', hE'⟩
    case round =>
      clear ho1' ho2' hE' hc2 hf2
      obtain ⟨j, o, hj, rfl, HO, hown2, hown1, hE⟩ := hrel
      by_cases hlt : j < n
      · have hc2 := hown2.rd.2 j (by rw [HO.out.len]; exact hlt)
        have hf2 := hown2.frozen' j
        have HST := Lib.hid (HO.out.step hlt)
        have hs := hown2.set' j 4294967295
        have hs1 := hown1.but ((But.refl g2 wr).setCell j (.int .u32 4294967295)) hne
        have hE2 : Ext w2 (wr.setCell ⟨g2, j, none⟩ (.int .u32 4294967295)) := hE.setCell (p := ⟨g2, j, none⟩) (by rw [HBS.out]; exact hgb2.1) _
        have hj1 : (j : Int) < (n : Int) := by omega
        have hj0 : (0 : Int) ≤ (j : Int) := by omega
        clear hown1 hown2 HO hE
        go_wp2
        go_roundw
        case rel => exact ⟨j + 1, _, by omega, by go_num, HST, hs, hs1, hE2⟩
        case measure => simp [intOf]; omega
      · obtain rfl : j = n := by omega
        obtain rfl := HO.out.done
        have hu2 := hown1.toU (oneL_lt j) (by rw [oneL_len]; omega)
        have hu3 := hown2.toU (allL_lt j) (by rw [allL_len]; omega)
        replace HB := HB.below hE
        replace hg := hg.ext hE
        replace hu1 := hu1.below hE
        clear hown1 hown2 HO hE
        go_wp2_with (fail)
        refine (hCv.out _ hg _ _ _ _ hu1 hu2).mono ?_
        rintro e w4 ⟨A3, c3, rfl, hz1, hB⟩
        replace HB := HB.below hB
        replace hg := hg.ext hB
        replace hu1 := hu1.below hB
        replace hu3 := hu3.below hB
        clear hB hu2
        go_wp2_with (fail)
        refine (hCv2.out _ hg _ _ _ _ hu3 hu3).mono ?_
        rintro e w5 ⟨A4, c4, rfl, hz2, hB⟩
        replace HB := HB.below hB
        replace hu1 := hu1.below hB
        replace hz1 := hz1.below hB
        clear hB hu3 hg
        have hnn : ((m2 : Int) != (m2 : Int)) = false := by simp
        have hnn1 : ((m1 : Int) != (m1 : Int)) = false := by simp
        rcases hcase.out with ⟨h1, h2⟩ | ⟨h1, h2⟩
        case' inl =>
          have d1 : decide ((0 : Int) < (na : Int)) = false := by rw [decide_eq_false_iff_not]; omega
          have d2 : decide (0 < na) = false := by rw [decide_eq_false_iff_not]; omega
          have d3 : ((na : Int) == 0) = true := by rw [beq_iff_eq]; omega
          have d4 : decide ((0 : Int) < (m1 : Int)) = false := by rw [decide_eq_false_iff_not]; omega
          have d5 : decide (0 < m1) = false := by rw [decide_eq_false_iff_not]; omega
          clear h1 h2
          go_wp2
        case' inr =>
          have d1 : decide ((0 : Int) < (na : Int)) = true := by rw [decide_eq_true_iff]; omega
          have d2 : decide (0 < na) = true := by rw [decide_eq_true_iff]; omega
          have d3 : ((na : Int) == 0) = false := by rw [beq_eq_false_iff_ne]; omega
          have d4 : True := trivial
          have d5 : True := trivial
          have d6 : (na : Int) + (j : Int) - 1 = (m1 : Int) := by omega
          clear h1 h2
          go_wp2
          clear d6
        all_goals
          clear d1 d2 d3 d4 d5
          go_loopw [12] (fun t wr => ∃ k : Nat, k ≤ m1 ∧ t = .int .i64 (k : Nat) ∧ Ext w5 wr) (fun t _ => m1 - (intOf t).toNat)
          case atStart => exact ⟨0, Nat.zero_le _, rfl, Ext.refl _⟩
          case round =>
            obtain ⟨k, hk, rfl, hE⟩ := hrel
            by_cases hlt : k < m1
            · obtain ⟨hna0, hm1e⟩ : 0 < na ∧ na + j - 1 = m1 := by have := hcase.out; omega
              obtain ⟨ad, rfl, hb, hcell⟩ := hz1.at_ (by omega)
              obtain ⟨ada, ca', hva, hcca, hba, hcela⟩ := hu1.opened HNA.out hna0
              injection hva with q1 q2 q3
              subst q1 q3
              obtain ⟨k0, k1, k2⟩ := hcell k hlt
              have hv := hcv.out k hlt
              have hbe := hE.size
              obtain ⟨x, hx⟩ : ∃ x, lb cs k = x := ⟨_, rfl⟩
              rw [hx] at k0 k1 k2 hv
              have hxl : x < 4294967296 := by
                rw [hv]; split
                · exact lb_lt hxa _
                · decide
              rw [Nat.mod_eq_of_lt hxl] at k0
              rw [Nat.div_eq_of_lt hxl] at k1
              rw [Nat.div_eq_of_lt (Nat.lt_trans hxl (by decide))] at k2
              replace k0 := (hE.cell (p := ad.add (k * 3)) (by rw [addr_add_block]; exact hb)).trans k0
              replace k1 := (hE.cell (p := ⟨(ad.add (k * 3)).block, (ad.add (k * 3)).off + 1, none⟩) (by rw [addr_add_block]; exact hb)).trans k1
              replace k2 := (hE.cell (p := ⟨(ad.add (k * 3)).block, (ad.add (k * 3)).off + 2, none⟩) (by rw [addr_add_block]; exact hb)).trans k2
              have hbk : (ad.add (k * 3)).block < wr.heap.size := by rw [addr_add_block]; omega
              by_cases hk1 : n1 ≤ k
              · obtain ⟨r, hr⟩ : ∃ r, k - n1 = r := ⟨_, rfl⟩
                have hri : (k : Int) - (j : Int) + 1 = (r : Int) := by omega
                have hr1 : r < na := by omega
                have hca := (hE.cell (p := ada.add r) (by rw [addr_add_block]; exact hba)).trans (hcela r hr1)
                have hva2 : lb a r = x := by rw [hv, if_pos (by have := HN1.out; omega), ← hr]; congr 1; have := HN1.out; omega
                rw [hva2] at hca
                have hbk2 : (ada.add r).block < wr.heap.size := by rw [addr_add_block]; omega
                have hE2 := hE.alloc (.cells #[.int .u32 (x : Nat), .int .u32 0, .int .u32 0] 52)
                have hE3 := (Ext.refl wr).alloc (.cells #[.int .u32 (x : Nat), .int .u32 0, .int .u32 0] 52)
                have c0 := (hE3.cell (p := ad.add (k * 3)) hbk).trans k0
                have c1 := (hE3.cell (p := ⟨(ad.add (k * 3)).block, (ad.add (k * 3)).off + 1, none⟩) hbk).trans k1
                have c2 := (hE3.cell (p := ⟨(ad.add (k * 3)).block, (ad.add (k * 3)).off + 2, none⟩) hbk).trans k2
                have hq := fun w => eq3 (x : Int) 0 0 (x : Int) 0 0 w
                rw [show (((x : Nat) : Int) == ((x : Nat) : Int) && ((0 : Int) == 0 && (0 : Int) == 0)) = true by simp] at hq
                have hk0i : (0 : Int) ≤ (k : Int) := by omega
                have hk1i : (k : Int) < (m1 : Int) := by omega
                clear hr hva2 hv hx hcell hcela hE hE3
                go_wp2
                go_quiet (fail)
                go_wp2
                go_roundw
                case rel => exact ⟨k + 1, by omega, by go_num, hE2.below (ext_drewN _ _)⟩
                case measure => simp [intOf]; omega
              · rw [if_neg (by have := HN1.out; omega)] at hv
                have hE2 := hE.alloc (.cells #[.int .u32 0, .int .u32 0, .int .u32 0] 52)
                have hE3 := (Ext.refl wr).alloc (.cells #[.int .u32 0, .int .u32 0, .int .u32 0] 52)
                subst hv
                have c0 := (hE3.cell (p := ad.add (k * 3)) hbk).trans k0
                have c1 := (hE3.cell (p := ⟨(ad.add (k * 3)).block, (ad.add (k * 3)).off + 1, none⟩) hbk).trans k1
                have c2 := (hE3.cell (p := ⟨(ad.add (k * 3)).block, (ad.add (k * 3)).off + 2, none⟩) hbk).trans k2
                have hq := fun w => eq3 0 0 0 0 0 0 w
                rw [show (((0 : Int) == 0) && ((0 : Int) == 0 && (0 : Int) == 0)) = true by simp] at hq
                have hk0i : (0 : Int) ≤ (k : Int) := by omega
                have hk1i : (k : Int) < (m1 : Int) := by omega
                clear hx hcell hcela hE hE3
                go_wp2
                go_quiet (fail)
                go_wp2
                go_roundw
                case rel => exact ⟨k + 1, by omega, by go_num, hE2.below (ext_drewN _ _)⟩
                case measure => simp [intOf]; omega
            · replace HB := HB.below hE
              replace hz2 := hz2.below hE
              clear hE hz1 hu1 hCv hCv2
              go_wp2
              go_loopw [14] (fun t wx => ∃ k : Nat, k ≤ m2 ∧ t = .int .i64 (k : Nat) ∧ Ext wr wx) (fun t _ => m2 - (intOf t).toNat)
              case atStart => exact ⟨0, Nat.zero_le _, rfl, Ext.refl _⟩
              case round =>
                obtain ⟨k', hk', rfl, hE⟩ := hrel
                by_cases hlt2 : k' < m2
                · obtain ⟨ad, rfl, hb, hcell⟩ := hz2.at_ (by omega)
                  obtain ⟨k0, k1, k2⟩ := hcell k' hlt2
                  obtain ⟨r, hr⟩ : ∃ r, min (k' + 1) (2 * j - 1 - k') = r := ⟨_, rfl⟩
                  have hv := hdv.out k' hlt2 r hr
                  have hr100 : r ≤ 200 := by omega
                  obtain ⟨l0, l1, l2⟩ := many_limbs r (by omega)
                  obtain ⟨v, hvv⟩ : ∃ v, r * 18446744065119617025 = v := ⟨_, rfl⟩
                  rw [hvv] at hv l0 l1 l2
                  rw [hv] at k0 k1 k2
                  rw [l0] at k0
                  rw [l1] at k1
                  rw [l2] at k2
                  obtain ⟨u, hu⟩ : ∃ u, r * 4294967294 = u := ⟨_, rfl⟩
                  rw [hu] at k1 k2
                  have hui : (r : Int) * 4294967294 = (u : Int) := by omega
                  have hu64 : u < 4294967296 * 200 := by omega
                  obtain ⟨s1, hs1⟩ : ∃ s1, u % 4294967296 = s1 := ⟨_, rfl⟩
                  obtain ⟨s2, hs2⟩ : ∃ s2, u / 4294967296 = s2 := ⟨_, rfl⟩
                  rw [hs1] at k1
                  rw [hs2] at k2
                  have hs1b : s1 < 4294967296 := by rw [← hs1]; exact Nat.mod_lt _ (by decide)
                  have hs2b : s2 < 200 := by rw [← hs2]; omega
                  have hw1 : IntKind.u32.wrap (u : Int) = (s1 : Int) := by rw [IntKind.wrap_u32]; omega
                  have hw2 : IntKind.u32.wrap (s2 : Int) = (s2 : Int) := by rw [IntKind.wrap_u32]; omega
                  have hw3 : IntKind.u32.wrap (r : Int) = (r : Int) := by rw [IntKind.wrap_u32]; omega
                  have hw4 : IntKind.u64.wrap (r : Int) = (r : Int) := by rw [IntKind.wrap_u64]; omega
                  have hw5 : IntKind.u64.wrap (u : Int) = (u : Int) := by rw [IntKind.wrap_u64]; omega
                  have hdi : (u : Int) / 4294967296 = (s2 : Int) := by omega
                  have hif : (if (m2 : Int) - (k' : Int) < (k' : Int) + 1 then (m2 : Int) - (k' : Int) else (k' : Int) + 1) = (r : Int) := by
                    have := HN1.out
                    split <;> omega
                  have hmi : min ((k' : Int) + 1) ((m2 : Int) - (k' : Int)) = (r : Int) := by have := HN1.out; omega
                  replace k0 := (hE.cell (p := ad.add (k' * 3)) (by rw [addr_add_block]; exact hb)).trans k0
                  replace k1 := (hE.cell (p := ⟨(ad.add (k' * 3)).block, (ad.add (k' * 3)).off + 1, none⟩) (by rw [addr_add_block]; exact hb)).trans k1
                  replace k2 := (hE.cell (p := ⟨(ad.add (k' * 3)).block, (ad.add (k' * 3)).off + 2, none⟩) (by rw [addr_add_block]; exact hb)).trans k2
                  have hq := fun w => eq3 (r : Int) (s1 : Int) (s2 : Int) (r : Int) (s1 : Int) (s2 : Int) w
                  rw [show (((r : Nat) : Int) == ((r : Nat) : Int) && (((s1 : Nat) : Int) == ((s1 : Nat) : Int) && ((s2 : Nat) : Int) == ((s2 : Nat) : Int))) = true by simp] at hq
                  have hk0i : (0 : Int) ≤ (k' : Int) := by omega
                  have hk1i : (k' : Int) < (m2 : Int) := by omega
                  clear hr hv hvv hu hs1 hs2 hcell l0 l1 l2
                  go_wp2
                  go_roundw
                  case rel => exact ⟨k' + 1, by omega, by go_num, hE⟩
                  case measure => simp [intOf]; omega
                · replace HB := HB.below hE
                  go_wp2
                  go_ret
                  exact ⟨rfl, HB⟩
end Go.Proofs.YtofhpfmgopmcmaaDoor
