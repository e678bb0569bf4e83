/- A product by three products of halves. -/
import Derived.Test.YtigdflfhepelaaaGreatDoorPg
import Derived.Deep.RegionHeld3
import Derived.Deep.Cut

namespace Go.Proofs.YtigdflfhepelaaaGreatDoor
open Go.RowKit
set_option linter.unusedVariables false
set_option maxHeartbeats 400000

/-- The way of halves, as the program has it. -/
abbrev Wh : Value := .agg #[.int .i64 40, .func (.func 108) #[] #[], .func (.func 87) #[] #[]]
/-- It is right for rows with less than N words together. -/
def TOk (N : Nat) : Prop := ∀ (w : World) (q1 q2 : Nat) (va vb : Value) (as_ bs : List Nat) (na nb : Nat), V q1 w va as_ → V q2 w vb bs → as_.length = na → bs.length = nb → na + nb < N →
  Calls Tryz.prog 91 #[Wh, va, vb] w fun e w' => Prod w w' e na nb as_ bs ∧ Ext w w'

/-- The words of a row of products. -/
theorem Prod.open {w w' : World} {e : Ending} {na nb : Nat} {as_ bs : List Nat} (h : Prod w w' e na nb as_ bs) (n : Nat) (hn : na + nb = n) :
  ∃ g c o, e = .returned (.slice (some ⟨g, 0, none⟩) n c) ∧ Ow w' w.heap.size (.slice (some ⟨g, 0, none⟩) n c) o ∧ wal o = wal as_ * wal bs ∧ (∀ x ∈ o, x < 18446744073709551616) ∧ o.length = n := by
  obtain ⟨g, c, o, he, ho, hv, hl⟩ := h
  subst hn
  exact ⟨g, c, o, he, ho, hv, hl, ho.caps.1.symm⟩
theorem AdI.done {n off A zl : Nat} {o : List Nat} {cy : Nat} (h : AdI n off A zl o cy) (hn : off + zl = n) (hA : A < BB ^ n) : wal o = A := by
  have hv := h.val
  rw [hn] at hv
  rcases Nat.eq_zero_or_pos cy with h0 | h0
  · rw [h0, Nat.mul_zero, Nat.add_zero] at hv; exact hv
  · have h1 : cy = 1 := by have := h.cy1; omega
    rw [h1, Nat.mul_one] at hv
    omega
theorem SbI.done {n off A T zl : Nat} {o : List Nat} {cy : Nat} (h : SbI n off A T zl o cy) (hn : off + zl = n) (hT : T ≤ A) : wal o = A - T := by
  have hv := h.val
  rw [hn] at hv
  have hlt := wal_lt o h.lt
  rw [h.len] at hlt
  rcases Nat.eq_zero_or_pos cy with h0 | h0
  · rw [h0, Nat.mul_zero, Nat.add_zero] at hv; omega
  · have h1 : cy = 1 := by have := h.cy1; omega
    rw [h1, Nat.mul_one] at hv
    omega

theorem halves_math (A0 A1 B0 B1 P : Nat) : (A0 + P * A1) * (B0 + P * B1) = A0 * B0 + P * P * (A1 * B1) + P * (A0 * B1 + A1 * B0) := by grind
theorem mid_math (A0 A1 B0 B1 : Nat) : (A0 + A1) * (B0 + B1) - A0 * B0 - A1 * B1 = A0 * B1 + A1 * B0 := by
  have : (A0 + A1) * (B0 + B1) = A0 * B0 + A1 * B1 + (A0 * B1 + A1 * B0) := by grind
  omega
theorem mid_le (A0 A1 B0 B1 : Nat) : A0 * B0 ≤ (A0 + A1) * (B0 + B1) ∧ A1 * B1 ≤ (A0 + A1) * (B0 + B1) - A0 * B0 := by
  have : (A0 + A1) * (B0 + B1) = A0 * B0 + A1 * B1 + (A0 * B1 + A1 * B0) := by grind
  omega
/-- Words that are not there: the number is below. -/
theorem wal_take_lt (o : List Nat) (k : Nat) (hk : k ≤ o.length) (h : wal o < BB ^ k) : wal (o.take k) = wal o := by
  have e := wal_cut o k hk
  rcases Nat.eq_zero_or_pos (wal (o.drop k)) with h0 | h0
  · rw [h0, Nat.mul_zero, Nat.add_zero] at e; exact e.symm
  · have : BB ^ k * 1 ≤ BB ^ k * wal (o.drop k) := Nat.mul_le_mul_left _ h0
    omega
theorem prod_lt {as_ bs : List Nat} (ha : ∀ x ∈ as_, x < 18446744073709551616) (hb : ∀ x ∈ bs, x < 18446744073709551616) : wal as_ * wal bs < BB ^ (as_.length + bs.length) := by
  rw [Nat.pow_add]
  exact Nat.mul_lt_mul'' (wal_lt as_ ha) (wal_lt bs hb)

theorem halves_val (zl n n2 m1 m2 r k : Nat) (o1 o2 o5 A0 A1 B0 B1 as_ bs : List Nat) (hlen1 : o1.length = n2) (hlen2 : o2.length = m1) (hlen5 : o5.length = m2)
    (hl1 : ∀ x ∈ o1, x < 18446744073709551616) (hl2 : ∀ x ∈ o2, x < 18446744073709551616) (hn2 : n + n = n2) (hz : n2 + m1 = zl) (hr : n + r = zl) (hk : min r m2 = k)
    (hv1 : wal o1 = wal A0 * wal B0) (hv2 : wal o2 = wal A1 * wal B1) (hmid : wal o5 = wal A0 * wal B1 + wal A1 * wal B0) (ea : wal as_ = wal A0 + BB ^ n * wal A1) (eb : wal bs = wal B0 + BB ^ n * wal B1)
    (hla : ∀ x ∈ as_, x < 18446744073709551616) (hlb : ∀ x ∈ bs, x < 18446744073709551616) (hlz : as_.length + bs.length = zl) :
    (∀ x ∈ splice (splice (List.replicate zl 0) 0 o1) n2 o2, x < 18446744073709551616) ∧ wal (splice (splice (List.replicate zl 0) 0 o1) n2 o2) + BB ^ n * wal (o5.take k) = wal as_ * wal bs ∧
    wal (splice (splice (List.replicate zl 0) 0 o1) n2 o2) + BB ^ n * wal (o5.take k) < BB ^ zl := by
  have hsp1 := wal_splice (List.replicate zl 0) o1 0 (by rw [List.length_replicate, hlen1]; omega) (fun j _ _ => lb_zeros zl j)
  have hlp1 := splice_len (List.replicate zl 0) o1 0 (by rw [List.length_replicate, hlen1]; omega)
  have hsp2 := wal_splice (splice (List.replicate zl 0) 0 o1) o2 n2 (by rw [hlp1, List.length_replicate, hlen2]; omega) (fun j hj _ => by rw [lb_splice_out _ _ _ _ (by rw [List.length_replicate, hlen1]; omega) (by rw [hlen1]; omega)]; exact lb_zeros zl j)
  rw [hsp1, wal_zeros, Nat.zero_add, Nat.pow_zero, Nat.one_mul] at hsp2
  have hlO := splice_lt (splice (List.replicate zl 0) 0 o1) o2 n2 (splice_lt (List.replicate zl 0) o1 0 (fun x hx => by simp at hx; omega) hl1) hl2
  have hab := prod_lt hla hlb
  rw [hlz] at hab
  have hm := halves_math (wal A0) (wal A1) (wal B0) (wal B1) (BB ^ n)
  rw [← ea, ← eb, ← hv1, ← hv2, ← hmid, ← Nat.pow_add, hn2] at hm
  have htk : wal (o5.take k) = wal o5 := by
    rcases Nat.le_total m2 r with h | h
    · rw [List.take_of_length_le (by omega)]
    · refine wal_take_lt o5 k (by omega) ?_
      rw [show k = r by omega]
      have h1 : BB ^ n * wal o5 < BB ^ n * BB ^ r := by rw [← Nat.pow_add, hr]; omega
      exact Nat.lt_of_mul_lt_mul_left h1
  rw [htk, hsp2]
  exact ⟨hlO, hm.symm, by omega⟩

set_option maxRecDepth 100000 in
set_option maxHeartbeats 8000000 in
theorem halves_calls (N : Nat) (IH : TOk N) (w : World) (q1 q2 : Nat) (va vb : Value) (as_ bs : List Nat) (ha : V q1 w va as_) (hb : V q2 w vb bs) (na nb : Nat) (hna : as_.length = na) (hnb : bs.length = nb)
    (h1 : nb ≤ na) (h2 : na < 2 * nb) (h3 : 40 ≤ nb) (h4 : na + nb ≤ N) (h5 : na + nb ≤ 20000) :
    Calls Tryz.prog 108 #[va, vb, .func (.func 91) #[Wh] #[]] w fun e w' => Prod w w' e na nb as_ bs ∧ Ext w w' := by
  obtain ⟨ad, ca, hva, hca, hbk, hne, hcell⟩ := ha.opened hna (by omega)
  obtain ⟨ad2, cb, hvb, hcb, hbk2, hne2, hcell2⟩ := hb.opened hnb (by omega)
  subst hva hvb
  clear hcell hcell2
  obtain ⟨n, hn⟩ : ∃ n, (na + 1) / 2 = n := ⟨_, rfl⟩
  have hni : ((na : Int) + 1) / 2 = (n : Int) := by omega
  have hn1 : 20 ≤ n := by omega
  have hn2 : n ≤ na := by omega
  have hn3 : 2 * n ≤ na + 1 := by omega
  have hn4 : na ≤ 2 * n := by omega
  obtain ⟨a1, ha1⟩ : ∃ a1, na - n = a1 := ⟨_, rfl⟩
  have ha1i : (na : Int) - (n : Int) = (a1 : Int) := by omega
  by_cases hc : nb ≤ n
  · have hd : decide ((nb : Int) ≤ (n : Int)) = true := by rw [decide_eq_true_iff]; omega
    have hE0 := Ext.refl w
    have IHH := Lib.hid IH
    have hA0 : V q1 w (.slice (some ad) n n) (as_.take n) := ha.take hn2 (Nat.le_refl _)
    have hA1 : V q1 w (.slice (some (ad.add n)) a1 (ca - n)) (as_.drop n) := ha.drop hn2 ha1 (by omega)
    have lA0 : (as_.take n).length = n := by rw [List.length_take]; omega
    have lA1 : (as_.drop n).length = a1 := by rw [List.length_drop]; omega
    have eA := wal_cut as_ n (by omega)
    have hab := prod_lt ha.lim hb.lim
    rw [hna, hnb] at hab
    have hHL := Lib.hid (And.intro lA0 (And.intro lA1 hnb))
    have hEA := Lib.hid (And.intro eA hab)
    obtain ⟨A0, hA0e⟩ : ∃ A0, as_.take n = A0 := ⟨_, rfl⟩
    obtain ⟨A1, hA1e⟩ : ∃ A1, as_.drop n = A1 := ⟨_, rfl⟩
    rw [hA0e] at hA0 hHL hEA
    rw [hA1e] at hA1 hHL hEA
    clear hA0e hA1e lA0 lA1 eA hab hna hnb IH ha
    obtain ⟨n2, hn2e⟩ : ∃ n2, n + nb = n2 := ⟨_, rfl⟩
    obtain ⟨m1, hm1e⟩ : ∃ m1, a1 + nb = m1 := ⟨_, rfl⟩
    obtain ⟨zl, hzl⟩ : ∃ zl, na + nb = zl := ⟨_, rfl⟩
    have hk1 : n2 + a1 = zl := by omega
    have hk2 : zl - n = m1 := by omega
    have hk3 : n < zl := by omega
    have hk4 : (n : Int) < (zl : Int) := by omega
    have hk5 : n < na := by omega
    have hk6 : (n : Int) < (na : Int) := by omega
    have hki : (n2 : Int) + (a1 : Int) = (zl : Int) := by omega
    go_enter Tryz.func108, Tryz.ntmps108
    go_wp2_with (fail)
    simp only [hni]
    refine (IHH.out _ q1 q2 _ _ A0 bs n nb hA0 hb hHL.out.1 hHL.out.2.2 (by omega)).mono ?_
    rintro e w1 ⟨hp, hB⟩
    obtain ⟨g1, c1, o1, rfl, ho1, hv1, hl1, hlen1⟩ := hp.open n2 hn2e
    have hg1 := ho1.block
    have hA1w := hA1
    have hbw := hb
    clear hp hE0 hA0
    go_wp2_with (first
      | (with_reducible show wpList _ _ _ (⟨some 36, _, _, _, _, _⟩ :: _) _ _; refine Classical.byContradiction fun hcontra => ?_)
      | fail)
    refine hcontra ?_
    refine wpList_appendZ (o := ⟨some 36, _, _, _, _, _⟩) rfl (.tmp 31) (.tmp 35) rfl rfl g1 n2 c1 a1 w.heap.size o1 rfl rfl ho1 (by omega) hB.size ?_
    intro g2 c2 w2 ho2 hg2 hgr
    clear hcontra
    rw [hk1] at ho2 ⊢
    have hg1' : w.heap.size ≤ g1 := hg1.1
    have hg2' : w.heap.size ≤ g2 := by have := hB.size; omega
    have hE2 : Ext w w2 := hB.grown hgr hB.size (fun k e => by have e' : k = g1 := (Option.some.inj e).symm; omega)
    have hs2 := hgr.size
    have hA1' : V q1 w2 (.slice (some (ad.add n)) a1 (ca - n)) A1 := hA1w.below hE2
    have hb' : V q2 w2 (.slice (some ad2) nb cb) bs := hbw.below hE2
    have hg2b := ho2.block.2
    have hzo : wal (o1 ++ List.replicate a1 0) = wal A0 * wal bs := by rw [wal_zeros_app, hv1]
    have hzl' : ∀ x ∈ o1 ++ List.replicate a1 0, x < 18446744073709551616 := by
      intro x hx
      rcases List.mem_append.1 hx with h | h
      · exact hl1 x h
      · simp at h; omega
    generalize o1 ++ List.replicate a1 0 = O at *
    have hT := Lib.hid (IHH.out w2.drew q1 q2 _ _ A1 bs a1 nb hA1' hb' hHL.out.2.1 hHL.out.2.2 (by omega))
    have ho2D : Ow w2.drew w.heap.size (.slice (some ⟨g2, 0, none⟩) zl c2) O := ho2
    clear hA1' hb' hA1w hbw hA1 hb hgr hB ho1 hl1 hlen1 hv1
    have hk7 : n + m1 = zl := by omega
    have hcz : m1 ≤ c2 - n := by have := ho2.caps; omega
    have hzn6 : zl ≤ 1000000 := by omega
    have hnc2 : n < c2 := by have := ho2.caps; omega
    have hnc2i : (n : Int) < (c2 : Int) := by omega
    have hz2c : zl ≤ c2 := by have := ho2.caps; omega
    have hz2ci : (zl : Int) ≤ (c2 : Int) := by omega
    have hnzl : (n : Int) ≤ (zl : Int) := by omega
    have hnc2j : (n : Int) ≤ (c2 : Int) := by omega
    have hn0i : (0 : Int) ≤ (n : Int) := by omega
    have hnai2 : (n : Int) ≤ (na : Int) := by omega
    have hcai : (na : Int) ≤ (ca : Int) := by omega
    have hncaj : (n : Int) ≤ (ca : Int) := by omega
    have hnca : n < ca := by omega
    have hcne : ¬ (ca = n) := by omega
    have hc2ne : ¬ (c2 = n) := by omega
    have hncai : (n : Int) < (ca : Int) := by omega
    clear ho2 hn hn3 hn4 hc hd hn2e h1 h2 h3 h4 h5 hbk hbk2 hne hne2 hca hcb hs2 hg2b
    go_wp2_with (fail)
    go_region_held3 (fun X => True)
      (first
        | exact trivial)
      (first
        | (go_at_call 91; ((with_reducible refine hT.out.mono ?_); rintro e w3 ⟨hp, hB3⟩; obtain ⟨g3, c3, o3, rfl, ho3, hv3, hl3, hlen3⟩ := hp.open m1 hm1e; have ho2E := ho2D.ext hB3; have hg3 := ho3.block.1; have hg2b := ho2D.block.2; have hV3 := ho3.toV hl3 g2 (by omega)))
        | (go_at_call 94; ((with_reducible refine (addTo_calls w3 g2 w.heap.size zl c2 n m1 (c2 - n) O o3 _ ho2E hzl' (Nat.le_of_eq hk7) hcz hzn6 hV3 (Nat.le_of_eq hlen3)).mono ?_); rintro e w4 ⟨⟨o6, cy6, rfl, hA6, ho6⟩, hB4⟩)))
    have hval : wal O + BB ^ n * wal o3 = wal as_ * wal bs := by
      rw [hzo, hv3, hEA.out.1, Nat.add_mul, Nat.mul_assoc]
    have hv6 := hA6.done hk7 (by rw [hval, ← hzl]; exact hEA.out.2)
    rw [hval] at hv6
    have HF : Hid (Prod w w4 (.returned (.slice (some ⟨g2, 0, none⟩) zl c2)) na nb as_ bs) := by
      refine ⟨g2, c2, o6, by rw [hzl], ?_, hv6, hA6.lt⟩
      rw [hzl]; exact ho6
    have hEF : Ext w w4 := (hE2.drew.below hB3).but hB4 hg2'
    clear hv6 hA6 ho6 hB4 hB3 hval hT hV3 ho2E ho3 hp
    go_wp2
    go_ret
    exact ⟨HF.out, hEF⟩
  · obtain ⟨b1, hb1⟩ : ∃ b1, nb - n = b1 := ⟨_, rfl⟩
    have hd : decide ((nb : Int) ≤ (n : Int)) = false := by rw [decide_eq_false_iff_not]; omega
    have hE0 := Ext.refl w
    have IHH := Lib.hid IH
    have hA0 : V q1 w (.slice (some ad) n n) (as_.take n) := ha.take hn2 (Nat.le_refl _)
    have hA1 : V q1 w (.slice (some (ad.add n)) a1 (ca - n)) (as_.drop n) := ha.drop hn2 ha1 (by omega)
    have hB0 : V q2 w (.slice (some ad2) n n) (bs.take n) := hb.take (by omega) (Nat.le_refl _)
    have hB1 : V q2 w (.slice (some (ad2.add n)) b1 (cb - n)) (bs.drop n) := hb.drop (by omega) hb1 (by omega)
    have lA0 : (as_.take n).length = n := by rw [List.length_take]; omega
    have lA1 : (as_.drop n).length = a1 := by rw [List.length_drop]; omega
    have lB0 : (bs.take n).length = n := by rw [List.length_take]; omega
    have lB1 : (bs.drop n).length = b1 := by rw [List.length_drop]; omega
    have eA := wal_cut as_ n (by omega)
    have eB := wal_cut bs n (by omega)
    have hH' : Hid (as_.length + bs.length = na + nb) := by rw [Hid, hna, hnb]
    have HLA := Lib.hid ha.lim
    have HLB := Lib.hid hb.lim
    have HE := Lib.hid (And.intro eA eB)
    have HL := Lib.hid (And.intro lA0 (And.intro lA1 (And.intro lB0 lB1)))
    have hnn : n ≤ nb := by omega
    clear ha hb IH hn hna hnb eA eB lA0 lA1 lB0 lB1
    obtain ⟨A0, hA0e⟩ : ∃ A0, as_.take n = A0 := ⟨_, rfl⟩
    obtain ⟨A1, hA1e⟩ : ∃ A1, as_.drop n = A1 := ⟨_, rfl⟩
    obtain ⟨B0, hB0e⟩ : ∃ B0, bs.take n = B0 := ⟨_, rfl⟩
    obtain ⟨B1, hB1e⟩ : ∃ B1, bs.drop n = B1 := ⟨_, rfl⟩
    rw [hA0e] at hA0 HL HE
    rw [hA1e] at hA1 HL HE
    rw [hB0e] at hB0 HL HE
    rw [hB1e] at hB1 HL HE
    clear hA0e hA1e hB0e hB1e
    obtain ⟨n2, hn2e⟩ : ∃ n2, n + n = n2 := ⟨_, rfl⟩
    obtain ⟨m1, hm1e⟩ : ∃ m1, a1 + b1 = m1 := ⟨_, rfl⟩
    obtain ⟨m2, hm2e⟩ : ∃ m2, (n + 1) + (n + 1) = m2 := ⟨_, rfl⟩
    go_enter Tryz.func108, Tryz.ntmps108
    go_wp2_with (fail)
    simp only [hni]
    go_quiet (fail)
    go_wp2_with (fail)
    have hE1 : Ext w (w.drewN nq) := ext_drewN w nq
    refine (IHH.out _ q1 q2 _ _ A0 B0 n n (hA0.below hE1) (hB0.below hE1) HL.out.1 HL.out.2.2.1 (by omega)).mono ?_
    rintro e w1 ⟨hp, hB⟩
    obtain ⟨g1, c1, o1, rfl, ho1, hv1, hl1, hlen1⟩ := hp.open n2 hn2e
    replace hE1 := hE1.below hB
    clear hp hB
    go_wp2_with (fail)
    refine (IHH.out _ q1 q2 _ _ A1 B1 a1 b1 (hA1.below hE1) (hB1.below hE1) HL.out.2.1 HL.out.2.2.2 (by omega)).mono ?_
    rintro e w2 ⟨hp, hB⟩
    obtain ⟨g2, c2, o2, rfl, ho2, hv2, hl2, hlen2⟩ := hp.open m1 hm1e
    replace hE1 := hE1.below hB
    have hg1 := ho1.block
    replace ho1 := ho1.ext hB
    have hs2 := hB.size
    clear hp hB
    go_wp2_with (fail)
    have hmx : max n a1 + 1 = n + 1 := by omega
    have hmx2 : max n b1 + 1 = n + 1 := by omega
    refine (sum_calls w2 q1 _ _ A0 A1 (hA0.below hE1) (hA1.below hE1) (n + 1) (by rw [HL.out.1, HL.out.2.1]; exact hmx) (by omega)).mono ?_
    rintro e w3 ⟨rfl, ⟨s1, hs1, hsv1, hsl1, hslen1⟩, hB⟩
    replace hE1 := hE1.below hB
    have hg2 := ho2.block
    replace ho1 := ho1.ext hB
    replace ho2 := ho2.ext hB
    have hs3 := hB.size
    have hb3 := hs1.block
    obtain ⟨g3, hg3⟩ : ∃ g3, w2.heap.size = g3 := ⟨_, rfl⟩
    rw [hg3] at hs1 hb3 ⊢
    clear hB
    go_wp2_with (fail)
    refine (sum_calls w3 q2 _ _ B0 B1 (hB0.below hE1) (hB1.below hE1) (n + 1) (by rw [HL.out.2.2.1, HL.out.2.2.2]; exact hmx2) (by omega)).mono ?_
    rintro e w4 ⟨rfl, ⟨s2, hs2', hsv2, hsl2, hslen2⟩, hB⟩
    replace hE1 := hE1.below hB
    replace ho1 := ho1.ext hB
    replace ho2 := ho2.ext hB
    replace hs1 := hs1.ext hB
    have hs4 := hB.size
    have hb4 := hs2'.block
    obtain ⟨g4, hg4⟩ : ∃ g4, w3.heap.size = g4 := ⟨_, rfl⟩
    rw [hg4] at hs2' hb4 ⊢
    clear hB
    go_wp2_with (fail)
    have hsw := hE1.size
    refine (IHH.out w4 (g3 + 1) (g4 + 1) _ _ s1 s2 (n + 1) (n + 1) (hs1.toV hsl1 (g3 + 1) (by omega)) (hs2'.toV hsl2 (g4 + 1) (by omega)) hslen1 hslen2 (by omega)).mono ?_
    rintro e w5 ⟨hp, hB⟩
    obtain ⟨g5, c5, o3, rfl, ho3, hv3, hl3, hlen3⟩ := hp.open m2 hm2e
    replace hE1 := hE1.below hB
    replace ho1 := ho1.ext hB
    replace ho2 := ho2.ext hB
    have hb5 := ho3.block
    have hc5 := ho3.caps.2.1
    obtain ⟨hmid1, hmid2⟩ := mid_le (wal A0) (wal A1) (wal B0) (wal B1)
    rw [hsv1, hsv2] at hv3
    rw [← hv1, ← hv3] at hmid1
    rw [← hv1, ← hv2, ← hv3] at hmid2
    have hmid := mid_math (wal A0) (wal A1) (wal B0) (wal B1)
    rw [← hv1, ← hv2, ← hv3] at hmid
    clear hp hB hs1 hs2' hsv1 hsv2 hsl1 hsl2 hslen1 hslen2
    go_wp2_with (fail)
    refine (takeFrom_calls w5 g5 w4.heap.size m2 c5 0 m2 c5 o3 o1 _ ho3 hl3 (by omega) hc5 (by omega) (ho1.toV hl1 g5 (by omega)) (by rw [hlen1]; omega)).mono ?_
    rintro e w6 ⟨rfl, ⟨o4, cy4, hS4, ho4⟩, hB6⟩
    rw [Nat.pow_zero, Nat.one_mul] at hS4
    have hv4 := hS4.done (Nat.zero_add _) hmid1
    have hl4 := hS4.lt
    rw [← hv4] at hmid2 hmid
    replace hE1 := hE1.but hB6 (by omega)
    replace ho1 := ho1.but hB6 (by omega)
    replace ho2 := ho2.but hB6 (by omega)
    have hs6 := hB6.size
    clear hB6 hS4 hv4 ho3 hl3 hlen3 hv3 hmid1
    go_wp2_with (fail)
    refine (takeFrom_calls w6 g5 w4.heap.size m2 c5 0 m2 c5 o4 o2 _ ho4 hl4 (by omega) hc5 (by omega) (ho2.toV hl2 g5 (by omega)) (by rw [hlen2]; omega)).mono ?_
    rintro e w7 ⟨rfl, ⟨o5, cy5, hS5, ho5⟩, hB7⟩
    rw [Nat.pow_zero, Nat.one_mul] at hS5
    have hv5 := hS5.done (Nat.zero_add _) hmid2
    have hl5 := hS5.lt
    have hlen5 := hS5.len
    rw [← hv5] at hmid
    replace hE1 := hE1.but hB7 (by omega)
    replace ho1 := ho1.but hB7 (by omega)
    replace ho2 := ho2.but hB7 (by omega)
    have hs7 := hB7.size
    clear hB7 hS5 hv5 ho4 hl4 hmid2
    obtain ⟨i0, hi, hz0, hz1, hz2⟩ := info_parts info64
    obtain ⟨zl, hzl⟩ : ∃ zl, na + nb = zl := ⟨_, rfl⟩
    have h5' : na + nb = zl → zl ≤ 20000 := fun h => by rw [← h]; exact h5
    have hzli : (na : Int) + (nb : Int) = (zl : Int) := by omega
    have h2n : (2 : Int) * (n : Int) = (n2 : Int) := by omega
    have hzn : zl - n2 = m1 := by omega
    obtain ⟨g8, hg8⟩ : ∃ g8, w7.heap.size = g8 := ⟨_, rfl⟩
    have HMID := Lib.hid hmid
    have HV12 := Lib.hid (And.intro hv1 hv2)
    have hV1 : V g8 w7 _ o1 := ho1.toV hl1 g8 (by omega)
    have hV2 : V g8 w7 _ o2 := ho2.toV hl2 g8 (by omega)
    have hV5 : V g8 w7 _ o5 := ho5.toV hl5 g8 (by have := ho5.block; omega)
    have hz1a : n2 ≤ zl := by omega
    have hz1b : zl ≤ 20000 := h5' hzl
    have hz1c : n ≤ zl := by omega
    have hn2i : (0 : Int) ≤ (n2 : Int) := by omega
    have hn2k : n2 < zl := by omega
    have hn2l : (n2 : Int) < (zl : Int) := by omega
    have hm1p : 0 < m1 := by omega
    have hn2j : (n2 : Int) ≤ (zl : Int) := by omega
    have hk5 : n2 + m1 = zl := by omega
    have hH : Hid (na + nb = zl ∧ n + n = n2 ∧ a1 + b1 = m1 ∧ (n + 1) + (n + 1) = m2 ∧ na - n = a1 ∧ nb - n = b1 ∧ n ≤ na ∧ n ≤ nb ∧ 20 ≤ n ∧ w.heap.size ≤ g8) := ⟨hzl, hn2e, hm1e, hm2e, ha1, hb1, hn2, hnn, hn1, by rw [← hg8]; exact hE1.size⟩
    clear hmid hv1 hv2 ho1 ho2 ho5 hs2 hs3 hs4 hs6 hs7 hb3 hb4 hb5 hg1 hg2 hg3 hg4 hE0 hA0 hA1 hB0 hB1 hmx hmx2 hca hcb hbk hbk2 hne hne2 hsw IHH h1 h2 h3 h4 h5 hn1 hn2 hn3 hn4 ha1 hb1 hnn hn2e hm1e hm2e hzl ha1i hc hd h5'
    go_wp2_with (first
      | (at_make; refine wpList_make_full _ rfl _ _ 114 rfl w7.heap.size 39 i0 (.int .u64 0) 1 Tryz.underlying114 hi hz0 hz1 _ _ _ _ zl rfl rfl (by omega) (by omega) (by rw [hz2]; omega) (by unfold maxLen; omega) (Nat.le_refl _) ?_; intro w8 hown hgrow; have hz := Ow.zeros hown; rw [hg8] at hz; have hE8 : Ext w7 w8 := (Ext.refl w7).grown hgrow (Nat.le_refl _) (fun _ h => by cases h); have hV18 := hV1.below hE8; have hV28 := hV2.below hE8; have hV58 := hV5.below hE8; have hE9 := hE1.below hE8; clear hown hgrow)
      | (with_reducible show wpList _ _ _ _ _ _; refine wpList_copyW (o := ⟨some 92, _, _, _, _, _⟩) rfl (.tmp 90) (.tmp 91) rfl g8 0 zl zl (some ⟨g1, 0, none⟩) n2 c1 rfl rfl g8 zl zl (List.replicate zl 0) hz o1 hV18 (by omega) (by omega) ?_; intro w9 hz9 hb9; have hV29 := hV28.but hb9; have hV59 := hV58.but hb9)
      | (with_reducible show wpList _ _ _ _ _ _; refine wpList_copyW (o := ⟨some 98, _, _, _, _, _⟩) rfl (.tmp 96) (.tmp 97) rfl g8 n2 m1 m1 (some ⟨g2, 0, none⟩) m1 c2 rfl rfl g8 zl zl _ hz9 o2 hV29 (Nat.le_refl _) (by omega) ?_; intro w10 hz10 hb10; have hV510 := hV59.but hb10)
      | fail)
    obtain ⟨r, hr⟩ : ∃ r, zl - n = r := ⟨_, rfl⟩
    obtain ⟨k, hk⟩ : ∃ k, min r m2 = k := ⟨_, rfl⟩
    have hri : (zl : Int) - (n : Int) = (r : Int) := by omega
    have hnz : n < zl := by omega
    have hrw : IntKind.i64.wrap (r : Int) = (r : Int) := IntWalk.i64_in _ (by omega)
    have hnzi : (n : Int) < (zl : Int) := by omega
    have hO := Lib.hid (halves_val zl n n2 m1 m2 r k o1 o2 o5 A0 A1 B0 B1 as_ bs hlen1 hlen2 hlen5 hl1 hl2 hH.out.2.1 hk5 (by omega) hk HV12.out.1 HV12.out.2 HMID.out HE.out.1 HE.out.2 HLA.out HLB.out (by rw [← hH.out.1]; exact hH'.out))
    generalize splice (splice (List.replicate zl 0) 0 o1) n2 o2 = O at *
    have hz11 : Ow w10.drew g8 (.slice (some ⟨g8, 0, none⟩) zl zl) O := hz10
    have hV6 : V g8 w10.drew (.slice (some ⟨g5, 0, none⟩) k c5) (o5.take k) := (hV510.take (by omega) (by omega)).below (Ext.refl w10).drew
    have hkl : (o5.take k).length ≤ r := by rw [List.length_take]; omega
    have hEE : Ext w w10 := by
      have h := hH.out.2.2.2.2.2.2.2.2.2
      exact (hE9.but hb9 h).but hb10 h
    have hFit := fun W => fit_calls W (some ⟨g5, 0, none⟩) m2 c5 r k hc5 hk (by omega)
    have hAdd := addTo_calls w10.drew g8 g8 zl zl n r r O (o5.take k) _ hz11 hO.out.1 (by omega) (Nat.le_refl _) (by omega) hV6 hkl
    have HFit := Lib.hid hFit
    have HAdd := Lib.hid hAdd
    clear hFit hAdd hz11 hV6 hkl hz10 hV510
    go_region_held3 (fun X => True)
      (first
        | exact trivial)
      (first
        | (go_at_call 124; ((with_reducible refine (HFit.out _).mono ?_); rintro e w' ⟨rfl, rfl⟩))
        | (go_at_call 94; ((with_reducible refine HAdd.out.mono ?_); rintro e w11 ⟨⟨o6, cy6, rfl, hA6, ho6⟩, hB11⟩)))
    have hv6 := hA6.done (by omega) hO.out.2.2
    rw [hO.out.2.1] at hv6
    have HF : Hid (Prod w w11 (.returned (.slice (some ⟨g8, 0, none⟩) zl zl)) na nb as_ bs) := by
      refine ⟨g8, zl, o6, by rw [hH.out.1], ?_, hv6, hA6.lt⟩
      rw [hH.out.1]
      exact ho6.base_mono hH.out.2.2.2.2.2.2.2.2.2
    have hEF : Ext w w11 := hEE.drew.but hB11 hH.out.2.2.2.2.2.2.2.2.2
    clear hv6 hA6 ho6 hB11 hEE hO HFit HAdd
    go_wp2
    go_ret
    exact ⟨HF.out, hEF⟩
end Go.Proofs.YtigdflfhepelaaaGreatDoor
/- The way of halves is right, for rows of any lengths. -/
namespace Go.Proofs.YtigdflfhepelaaaGreatDoor
open Go.RowKit
set_option linter.unusedVariables false
set_option maxHeartbeats 400000

theorem Prod.turn {w w' : World} {e : Ending} {na nb nx ny : Nat} {as_ bs xs ys : List Nat} (h : Prod w w' e nx ny xs ys) (hn : nx + ny = na + nb) (hv : wal xs * wal ys = wal as_ * wal bs) : Prod w w' e na nb as_ bs := by
  obtain ⟨g, c, o, he, ho, hv', hl⟩ := h
  rw [hn] at he ho
  exact ⟨g, c, o, he, ho, by rw [hv', hv], hl⟩
theorem Prod.base {w0 w w' : World} {e : Ending} {na nb : Nat} {as_ bs : List Nat} (h : Prod w w' e na nb as_ bs) (hB : Ext w0 w) : Prod w0 w' e na nb as_ bs := by
  obtain ⟨g, c, o, he, ho, hv', hl⟩ := h
  exact ⟨g, c, o, he, ho.base_mono hB.size, hv', hl⟩

theorem keepW {x y : World} {B : Nat} {v0 v1 v2 : Value} (h : B < x.heap.size ∧ x.cell? ⟨B, 0, none⟩ = some v0 ∧ x.cell? ⟨B, 1, none⟩ = some v1 ∧ x.cell? ⟨B, 2, none⟩ = some v2) (hB : Ext x y) :
    B < y.heap.size ∧ y.cell? ⟨B, 0, none⟩ = some v0 ∧ y.cell? ⟨B, 1, none⟩ = some v1 ∧ y.cell? ⟨B, 2, none⟩ = some v2 := by
  obtain ⟨h0, h1, h2, h3⟩ := h
  have hc := fun o => hB.cell (p := ⟨B, o, none⟩) h0
  exact ⟨Nat.lt_of_lt_of_le h0 hB.size, by rw [hc]; exact h1, by rw [hc]; exact h2, by rw [hc]; exact h3⟩
theorem keepWB {x y : World} {B g : Nat} {v0 v1 v2 : Value} (h : B < x.heap.size ∧ x.cell? ⟨B, 0, none⟩ = some v0 ∧ x.cell? ⟨B, 1, none⟩ = some v1 ∧ x.cell? ⟨B, 2, none⟩ = some v2) (hB : But g x y) (hne : B ≠ g) :
    B < y.heap.size ∧ y.cell? ⟨B, 0, none⟩ = some v0 ∧ y.cell? ⟨B, 1, none⟩ = some v1 ∧ y.cell? ⟨B, 2, none⟩ = some v2 := by
  obtain ⟨h0, h1, h2, h3⟩ := h
  have hc := fun o => hB.cell (p := ⟨B, o, none⟩) h0 hne
  exact ⟨Nat.lt_of_lt_of_le h0 hB.size, by rw [hc]; exact h1, by rw [hc]; exact h2, by rw [hc]; exact h3⟩
/-- The product of the first a words is there. -/
structure TmI (xs ys : List Nat) (n a : Nat) (o : List Nat) : Prop where
  len : o.length = n
  lt : ∀ x ∈ o, x < 18446744073709551616
  val : wal o = wal (xs.take a) * wal ys

set_option maxRecDepth 100000 in
set_option maxHeartbeats 8000000 in
theorem times_core (N : Nat) (hN : N ≤ 20000) (IH : TOk N) (b : Bool) (w : World) (q1 q2 : Nat) (vx vy : Value) (xs ys : List Nat) (nx ny : Nat) (hx : V q1 w vx xs) (hy : V q2 w vy ys) (hnx : xs.length = nx) (hny : ys.length = ny) (hle : ny ≤ nx) (hb : b = true → ny < nx) (hsum : nx + ny ≤ N) :
    Calls Tryz.prog 91 #[Wh, (if b then vy else vx), (if b then vx else vy)] w fun e w' => Prod w w' e nx ny xs ys ∧ Ext w w' := by
  have IHH := Lib.hid IH
  have hle' := hle
  obtain ⟨A, ca, rfl, hca⟩ := hx.shape
  obtain ⟨A2, cb, rfl, hcb⟩ := hy.shape
  rw [hnx] at hx hca ⊢
  rw [hny] at hy hcb ⊢
  have hE0 : Ext w (w.alloc (.cells #[.int .i64 40, .func (.func 108) #[] #[], .func (.func 87) #[] #[]] 120)) := (Ext.refl w).alloc _
  replace hx := hx.below hE0
  replace hy := hy.below hE0
  have HL : Hid (xs.length = nx ∧ ys.length = ny) := ⟨hnx, hny⟩
  clear IH hnx hny
  have hb0 : w.heap.size < (w.alloc (.cells #[.int .i64 40, .func (.func 108) #[] #[], .func (.func 87) #[] #[]] 120)).heap.size := by simp
  have hc0 : (w.alloc (.cells #[.int .i64 40, .func (.func 108) #[] #[], .func (.func 87) #[] #[]] 120)).cell? ⟨w.heap.size, 0, none⟩ = some (.int .i64 40) := by go_simp
  have hc1 : (w.alloc (.cells #[.int .i64 40, .func (.func 108) #[] #[], .func (.func 87) #[] #[]] 120)).cell? ⟨w.heap.size, 1, none⟩ = some (.func (.func 108) #[] #[]) := by go_simp
  have hc2 : (w.alloc (.cells #[.int .i64 40, .func (.func 108) #[] #[], .func (.func 87) #[] #[]] 120)).cell? ⟨w.heap.size, 2, none⟩ = some (.func (.func 87) #[] #[]) := by go_simp
  obtain ⟨B, hB⟩ : ∃ B, w.heap.size = B := ⟨_, rfl⟩
  rw [hB] at hc0 hc1 hc2 hb0
  have HBS := Lib.hid hB
  cases b
  case' false =>
    show Calls Tryz.prog 91 #[Wh, .slice A nx ca, .slice A2 ny cb] w _
    have hd : decide ((nx : Int) < (ny : Int)) = false := by rw [decide_eq_false_iff_not]; omega
    go_enter Tryz.func91, Tryz.ntmps91
    go_upto_region 3 with (fail)
  case' true =>
    show Calls Tryz.prog 91 #[Wh, .slice A2 ny cb, .slice A nx ca] w _
    have hlt := hb rfl
    have hd : decide ((ny : Int) < (nx : Int)) = true := by rw [decide_eq_true_iff]; omega
    go_enter Tryz.func91, Tryz.ntmps91
    go_upto_region 3 with (fail)
  all_goals
    clear hb hd hle
    generalize (w.alloc (.cells #[.int .i64 40, .func (.func 108) #[] #[], .func (.func 87) #[] #[]] 120)) = W1 at *
    by_cases h1 : ny < 40
    · have hd1 : decide ((ny : Int) < 40) = true := by rw [decide_eq_true_iff]; omega
      go_wp2_with (fail)
      refine (rows_calls _ q1 q2 _ _ xs ys hx hy nx ny HL.out.1 HL.out.2 (by omega)).mono ?_
      rintro e w2 ⟨hp, hB2⟩
      replace hp := hp.base hE0
      have hE2 := hE0.below hB2
      have HP := Lib.hid hp
      obtain ⟨g, c, o, rfl, _⟩ := hp
      go_wp2
      go_ret
      exact ⟨HP.out, hE2⟩
    · have hd1 : decide ((ny : Int) < 40) = false := by rw [decide_eq_false_iff_not]; omega
      by_cases h2 : nx < 2 * ny
      · have hd2 : decide ((nx : Int) < 2 * (ny : Int)) = true := by rw [decide_eq_true_iff]; omega
        go_wp2_with (fail)
        refine (halves_calls N IHH.out _ q1 q2 _ _ xs ys hx hy nx ny HL.out.1 HL.out.2 hle' h2 (by omega) hsum (by omega)).mono ?_
        rintro e w2 ⟨hp, hB2⟩
        replace hp := hp.base hE0
        have hE2 := hE0.below hB2
        have HP := Lib.hid hp
        obtain ⟨g, c, o, rfl, _⟩ := hp
        go_wp2
        go_ret
        exact ⟨HP.out, hE2⟩
      · have hd2 : decide ((nx : Int) < 2 * (ny : Int)) = false := by rw [decide_eq_false_iff_not]; omega
        have hny0 : 0 < ny := by omega
        obtain ⟨ad, cx, hvx, hcx, hbx, hnex, hcellx⟩ := hx.opened HL.out.1 (by omega)
        injection hvx with w1 w2 w3
        subst w1 w3
        clear w2 hcellx hnex hbx hcx
        obtain ⟨n, hn⟩ : ∃ n, nx + ny = n := ⟨_, rfl⟩
        have hni : (nx : Int) + (ny : Int) = (n : Int) := by omega
        obtain ⟨i0, hi, hz0, hz1, hz2⟩ := info_parts info64
        obtain ⟨Bz, hBz⟩ : ∃ Bz, W1.heap.size = Bz := ⟨_, rfl⟩
        have HBZ := Lib.hid hBz
        go_wp2_with (at_make; refine wpList_make_full _ rfl _ _ 114 rfl W1.heap.size 39 i0 (.int .u64 0) 1 Tryz.underlying114 hi hz0 hz1 _ _ _ _ n rfl rfl (by omega) (by omega) (by rw [hz2]; omega) (by unfold maxLen; omega) (Nat.le_refl _) ?_; intro w2 hown hgrow)
        have ho0 := Ow.zeros hown
        have hE2 : Ext W1 w2 := (Ext.refl W1).grown hgrow (Nat.le_refl _) (fun _ h => by cases h)
        rw [hBz] at ho0 hb0
        clear hown hgrow hi hz0 hz1 hz2 i0
        go_wp2_with (fail)
        have hTM0 : Hid (TmI xs ys n 0 (List.replicate n 0)) := ⟨by simp, fun x hx => by simp at hx; omega, by simp [wal_zeros, wal]⟩
        have hlimx := Lib.hid hx.lim
        have hlimy := Lib.hid hy.lim
        have hny2 : 2 * ny ≤ nx := by omega
        clear hd1 hd2 h1 h2 hni hBz
        go_loopw [8] (fun t wr => ∃ (a : Nat) (o : List Nat), a ≤ n ∧ t = .int .i64 (a : Nat) ∧ Hid (TmI xs ys n a o) ∧ Ow wr Bz (.slice (some ⟨Bz, 0, none⟩) n n) o ∧ Ext W1 wr) (fun t _ => nx - (intOf t).toNat)
        case atStart => exact ⟨0, _, Nat.zero_le _, rfl, hTM0, ho0, hE2⟩
        case round =>
          clear hTM0 ho0 hE2
          obtain ⟨a, o, han, rfl, HO, hown, hE⟩ := hrel
          by_cases hlt : a < nx
          · obtain ⟨e, he⟩ : ∃ e, min (a + ny) nx = e := ⟨_, rfl⟩
            obtain ⟨p, hpe⟩ : ∃ p, e - a = p := ⟨_, rfl⟩
            obtain ⟨r, hrn⟩ : ∃ r, n - a = r := ⟨_, rfl⟩
            have hmin1 : (if (nx : Int) < (a : Int) + (ny : Int) then (nx : Int) else (a : Int) + (ny : Int)) = (e : Int) := by split <;> omega
            have hmin2 : min ((a : Int) + (ny : Int)) (nx : Int) = (e : Int) := by omega
            have hmin3 : (if nx < a + ny then (nx : Int) else (a : Int) + (ny : Int)) = (e : Int) := by split <;> omega
            have f1 : a < e := by omega
            have f2 : (a : Int) < (e : Int) := by omega
            have f3 : e ≤ ca := by omega
            have f4 : (e : Int) ≤ (ca : Int) := by omega
            have f5 : (a : Int) ≤ (e : Int) := by omega
            have f6 : ¬ (e = a) := by omega
            have f7 : (0 : Int) ≤ (a : Int) := by omega
            have f8 : a < n := by omega
            have f9 : (a : Int) < (n : Int) := by omega
            have f10 : (a : Int) ≤ (n : Int) := by omega
            have f11 : ¬ (n = a) := by omega
            have f12 : e ≤ nx := by omega
            have f13 : (0 : Int) ≤ (e : Int) := by omega
            have f14 : (e : Int) ≤ (nx : Int) := by omega
            have f15 : p + ny ≤ r := by omega
            have f16 : a + r = n := by omega
            have hn6 : n ≤ 1000000 := by omega
            have hxp : V q1 wr.drew (.slice (some (ad.add a)) p p) ((xs.take e).drop a) := (((hx.below hE).take f12 (Nat.le_refl e)).drop (Nat.le_of_lt f1) hpe (Nat.le_refl _)).below (Ext.refl wr).drew
            have hyd : V q2 wr.drew (.slice A2 ny cb) ys := (hy.below hE).below (Ext.refl wr).drew
            have hlp : ((xs.take e).drop a).length = p := by rw [List.length_drop, List.length_take, HL.out.1]; omega
            have hT := Lib.hid (IHH.out wr.drew q1 q2 _ _ _ ys p ny hxp hyd hlp HL.out.2 (by omega))
            have hcut := wal_cut (xs.take e) a (by rw [List.length_take, HL.out.1]; omega)
            rw [List.take_take, Nat.min_eq_left (by omega)] at hcut
            have hHC := Lib.hid hcut
            have hTE : Hid (xs.take (a + ny) = xs.take e) := by
              rcases Nat.le_total (a + ny) nx with h | h
              · rw [Hid, ← he, Nat.min_eq_left h]
              · rw [Hid, ← he, Nat.min_eq_right h, List.take_of_length_le (by rw [HL.out.1]; exact h), List.take_of_length_le (by rw [HL.out.1]; exact Nat.le_refl _)]
            have hprod : Hid (wal (xs.take e) * wal ys < BB ^ n) := by
              have h1 := prod_lt (as_ := xs.take e) (bs := ys) (fun x h => hlimx.out x (List.mem_of_mem_take h)) hlimy.out
              refine Nat.lt_of_lt_of_le h1 (Nat.pow_le_pow_right (by decide) ?_)
              rw [List.length_take, HL.out.1, HL.out.2]; omega
            have hS0 : B < wr.drew.heap.size ∧ wr.drew.cell? ⟨B, 0, none⟩ = some (.int .i64 40) ∧ wr.drew.cell? ⟨B, 1, none⟩ = some (.func (.func 108) #[] #[]) ∧ wr.drew.cell? ⟨B, 2, none⟩ = some (.func (.func 87) #[] #[]) := by
              have hq : B < W1.heap.size := by rw [HBZ.out]; exact hb0
              have hc := fun o => hE.cell (p := ⟨B, o, none⟩) hq
              exact ⟨Nat.lt_of_lt_of_le hq hE.size, (hc 0).trans hc0, (hc 1).trans hc1, (hc 2).trans hc2⟩
            have hownD : Ow wr.drew Bz (.slice (some ⟨Bz, 0, none⟩) n n) o := hown
            generalize (xs.take e).drop a = P at *
            clear hxp hyd hcut he hown hx hy hlp f8
            go_wp2_with (fail)
            have hS0' := hS0
            go_region_held3 (fun X => B < X.heap.size ∧ X.cell? ⟨B, 0, none⟩ = some (.int .i64 40) ∧ X.cell? ⟨B, 1, none⟩ = some (.func (.func 108) #[] #[]) ∧ X.cell? ⟨B, 2, none⟩ = some (.func (.func 87) #[] #[]))
              (first
                | exact hS0
                | assumption
                | exact keepW (by assumption) (by assumption)
                | exact keepWB (by assumption) (by assumption) (by assumption))
              (first
                | (go_at_call 91; ((with_reducible refine hT.out.mono ?_); rintro e3 w3 ⟨hp, hB3⟩; obtain ⟨g3, c3, o3, rfl, ho3, hv3, hl3, hlen3⟩ := hp.open (p + ny) rfl; have hownE := hownD.ext hB3; have hg3 := ho3.block.1; have hg2b := hownD.block.2; have hV3 := ho3.toV hl3 Bz (by omega)))
                | (go_at_call 94; ((with_reducible refine (addTo_calls w3 Bz Bz n n a r r o o3 _ hownE HO.out.lt (Nat.le_of_eq f16) (Nat.le_refl _) hn6 hV3 (by rw [hlen3]; exact f15)).mono ?_); rintro e4 w4 ⟨⟨o6, cy6, rfl, hA6, ho6⟩, hB4⟩; have hBne : B ≠ Bz := Nat.ne_of_lt hb0)))
            have hval : wal o + BB ^ a * wal o3 = wal (xs.take e) * wal ys := by
              rw [HO.out.val, hv3, hHC.out, Nat.add_mul, Nat.mul_assoc]
            have hv6 := hA6.done f16 (by rw [hval]; exact hprod.out)
            rw [hval] at hv6
            have HST : Hid (TmI xs ys n (a + ny) o6) := ⟨hA6.len, hA6.lt, by rw [hTE.out]; exact hv6⟩
            have hE5 : Ext W1 w4 := (hE.drew.below hB3).but hB4 (by rw [HBZ.out]; exact Nat.le_refl _)
            clear hv6 hA6 hB4 hB3 hval hT hV3 hownE ho3 hp hHC hTE hprod hownD HO hS0 hS0'
            go_wp2
            go_roundw
            case rel => exact ⟨a + ny, _, by omega, by go_num, HST, ho6, hE5⟩
            case measure => simp [intOf]; omega
          · have hta : xs.take a = xs := List.take_of_length_le (by rw [HL.out.1]; omega)
            have HF : Hid (Prod w wr (.returned (.slice (some ⟨Bz, 0, none⟩) n n)) nx ny xs ys) := by
              refine ⟨Bz, n, o, by rw [hn], ?_, by rw [HO.out.val, hta], HO.out.lt⟩
              rw [hn]
              exact hown.base_mono (by rw [← HBZ.out]; exact hE0.size)
            have hEF := hE0.below hE
            clear hown HO hE
            go_wp2
            go_ret
            exact ⟨HF.out, hEF⟩
end Go.Proofs.YtigdflfhepelaaaGreatDoor
/- Products by halves and by thirds, of limbs. -/
namespace Go.Proofs.YtigdflfhepelaaaGreatDoor
open Go.RowKit
set_option linter.unusedVariables false
set_option maxHeartbeats 400000

theorem times_step (N : Nat) (hN : N ≤ 20000) (IH : TOk N) : TOk (N + 1) := by
  intro w q1 q2 va vb as_ bs na nb ha hb hna hnb hsum
  by_cases h : na < nb
  · refine (times_core N hN IH true w q2 q1 vb va bs as_ nb na hb ha hnb hna (by omega) (fun _ => h) (by omega)).mono ?_
    rintro e w' ⟨hp, hB⟩
    exact ⟨hp.turn (Nat.add_comm _ _) (Nat.mul_comm _ _), hB⟩
  · exact times_core N hN IH false w q1 q2 va vb as_ bs na nb ha hb hna hnb (by omega) (fun h => by cases h) (by omega)
theorem tok : ∀ N, N ≤ 20001 → TOk N
  | 0, _ => fun w q1 q2 va vb as_ bs na nb _ _ _ _ h => by omega
  | N + 1, h => times_step N (by omega) (tok N (by omega))
theorem times_B (w : World) (q1 q2 : Nat) (va vb : Value) (as_ bs : List Nat) (na nb : Nat) (ha : V q1 w va as_) (hb : V q2 w vb bs) (hna : as_.length = na) (hnb : bs.length = nb) (h : na + nb ≤ 20000) :
    Calls Tryz.prog 91 #[Wh, va, vb] w fun e w' => Prod w w' e na nb as_ bs ∧ Ext w w' := tok 20001 (Nat.le_refl _) w q1 q2 va vb as_ bs na nb ha hb hna hnb (by omega)

theorem byHalves_calls (w : World) : Calls Tryz.prog 90 #[] w fun e w' => e = .returned Wh ∧ Ext w w' := by
  have hE := (Ext.refl w).alloc (.cells #[.int .i64 40, .func (.func 108) #[] #[], .func (.func 87) #[] #[]] 120)
  go_enter Tryz.func90, Tryz.ntmps90
  go_wp2
  refine bodyPost_ret (v := Wh) ?_ rfl ⟨rfl, hE⟩
  simp [results, Tryz.results90, go_sem, *]

/-- The way of thirds, as the program has it. -/
abbrev Wt : Value := .agg #[.int .i64 200, .func (.func 109) #[] #[], .func (.func 91) #[Wh] #[]]
theorem byThirds_calls (w : World) : Calls Tryz.prog 92 #[] w fun e w' => e = .returned Wt ∧ Ext w w' := by
  go_enter Tryz.func92, Tryz.ntmps92
  go_wp2_with (fail)
  refine (byHalves_calls _).mono ?_
  rintro e w1 ⟨rfl, hB⟩
  have hlt : w.heap.size < (w.alloc (.cells #[.int .i64 0, .nilFunc, .nilFunc] 120)).heap.size := by simp
  have hc0 : w1.cell? ⟨w.heap.size, 0, none⟩ = some (.int .i64 0) := (hB.cell (p := ⟨w.heap.size, 0, none⟩) hlt).trans (by go_simp)
  have hc1 : w1.cell? ⟨w.heap.size, 1, none⟩ = some .nilFunc := (hB.cell (p := ⟨w.heap.size, 1, none⟩) hlt).trans (by go_simp)
  have hc2 : w1.cell? ⟨w.heap.size, 2, none⟩ = some .nilFunc := (hB.cell (p := ⟨w.heap.size, 2, none⟩) hlt).trans (by go_simp)
  have hf0 : w1.frozen? ⟨w.heap.size, 0, none⟩ = false := (hB.frozen (p := ⟨w.heap.size, 0, none⟩) hlt).trans (by go_simp)
  have hf1 : w1.frozen? ⟨w.heap.size, 1, none⟩ = false := (hB.frozen (p := ⟨w.heap.size, 1, none⟩) hlt).trans (by go_simp)
  have hf2 : w1.frozen? ⟨w.heap.size, 2, none⟩ = false := (hB.frozen (p := ⟨w.heap.size, 2, none⟩) hlt).trans (by go_simp)
  have hE := ((((Ext.refl w).alloc (.cells #[.int .i64 0, .nilFunc, .nilFunc] 120)).below hB).setCell (p := ⟨w.heap.size, 0, none⟩) (Nat.le_refl _) (.int .i64 200)).setCell (p := ⟨w.heap.size, 1, none⟩) (Nat.le_refl _) (.func (.func 109) #[] #[])
  have hE2 := hE.setCell (p := ⟨w.heap.size, 2, none⟩) (Nat.le_refl _) (.func (.func 91) #[Wh] #[])
  clear hE hB
  go_wp2
  refine bodyPost_ret (v := Wt) ?_ rfl ⟨rfl, hE2⟩
  simp [results, Tryz.results92, go_sem, *]

set_option maxRecDepth 100000 in
set_option maxHeartbeats 8000000 in
/-- The way of thirds, where the shorter row has less than 200 words. -/
theorem timesT_core (b : Bool) (w : World) (q1 q2 : Nat) (vx vy : Value) (xs ys : List Nat) (nx ny : Nat) (hx : V q1 w vx xs) (hy : V q2 w vy ys) (hnx : xs.length = nx) (hny : ys.length = ny) (hle : ny ≤ nx) (hb : b = true → ny < nx) (hsum : nx + ny ≤ 20000) (h200 : ny < 200) :
    Calls Tryz.prog 91 #[Wt, (if b then vy else vx), (if b then vx else vy)] w fun e w' => Prod w w' e nx ny xs ys ∧ Ext w w' := by
  obtain ⟨A, ca, rfl, hca⟩ := hx.shape
  obtain ⟨A2, cb, rfl, hcb⟩ := hy.shape
  rw [hnx] at hx hca ⊢
  rw [hny] at hy hcb ⊢
  have hE0 : Ext w (w.alloc (.cells #[.int .i64 200, .func (.func 109) #[] #[], .func (.func 91) #[Wh] #[]] 120)) := (Ext.refl w).alloc _
  replace hx := hx.below hE0
  replace hy := hy.below hE0
  have HL : Hid (xs.length = nx ∧ ys.length = ny) := ⟨hnx, hny⟩
  clear hnx hny
  have hd1 : decide ((ny : Int) < 200) = true := by rw [decide_eq_true_iff]; omega
  have hT := Lib.hid (times_B _ q1 q2 _ _ xs ys nx ny hx hy HL.out.1 HL.out.2 hsum)
  cases b
  case' false =>
    show Calls Tryz.prog 91 #[Wt, .slice A nx ca, .slice A2 ny cb] w _
    have hd : decide ((nx : Int) < (ny : Int)) = false := by rw [decide_eq_false_iff_not]; omega
    go_enter Tryz.func91, Tryz.ntmps91
  case' true =>
    show Calls Tryz.prog 91 #[Wt, .slice A2 ny cb, .slice A nx ca] w _
    have hlt := hb rfl
    have hd : decide ((ny : Int) < (nx : Int)) = true := by rw [decide_eq_true_iff]; omega
    go_enter Tryz.func91, Tryz.ntmps91
  all_goals
    go_wp2_with (fail)
    refine hT.out.mono ?_
    rintro e w2 ⟨hp, hB2⟩
    replace hp := hp.base hE0
    have hE2 := hE0.below hB2
    have HP := Lib.hid hp
    obtain ⟨g, c, o, rfl, _⟩ := hp
    clear hT
    go_wp2
    go_ret
    exact ⟨HP.out, hE2⟩
theorem timesT_B (w : World) (q1 q2 : Nat) (va vb : Value) (as_ bs : List Nat) (na nb : Nat) (ha : V q1 w va as_) (hb : V q2 w vb bs) (hna : as_.length = na) (hnb : bs.length = nb) (h : na + nb ≤ 20000) (h200 : min na nb < 200) :
    Calls Tryz.prog 91 #[Wt, va, vb] w fun e w' => Prod w w' e na nb as_ bs ∧ Ext w w' := by
  by_cases hlt : na < nb
  · refine (timesT_core true w q2 q1 vb va bs as_ nb na hb ha hnb hna (by omega) (fun _ => hlt) (by omega) (by omega)).mono ?_
    rintro e w' ⟨hp, hB⟩
    exact ⟨hp.turn (Nat.add_comm _ _) (Nat.mul_comm _ _), hB⟩
  · exact timesT_core false w q1 q2 va vb as_ bs na nb ha hb hna hnb (by omega) (fun h => by cases h) (by omega) (by omega)

set_option maxRecDepth 100000 in
set_option maxHeartbeats 2000000 in
theorem karat_calls (w : World) (va vb : Value) (xs ys : List Nat) (ha : U w va xs) (hb : U w vb ys) (hla : xs.length ≤ 1000) (hlb : ys.length ≤ 1000) :
    Calls Tryz.prog 65 #[va, vb] w fun e w' => (∃ u, e = .returned u ∧ Un w' u (val xs * val ys)) ∧ Ext w w' := by
  obtain ⟨na, hna⟩ : ∃ na, (xs.length + 1) / 2 = na := ⟨_, rfl⟩
  obtain ⟨nb, hnb⟩ : ∃ nb, (ys.length + 1) / 2 = nb := ⟨_, rfl⟩
  have hHW := Lib.hid (And.intro (wal_packL xs) (wal_packL ys))
  have hHP := Lib.hid (And.intro (packL_lt xs ha.lim) (packL_lt ys hb.lim))
  have hHL : Hid ((packL xs).length = na ∧ (packL ys).length = nb) := ⟨by rw [packL_len, hna], by rw [packL_len, hnb]⟩
  have hPa := Lib.hid (fun W h => pack_calls W va xs h (by omega) na hna)
  have hPb := Lib.hid (fun W h => pack_calls W vb ys h (by omega) nb hnb)
  have hna1 : na ≤ 501 := by omega
  have hnb1 : nb ≤ 501 := by omega
  have hE := Ext.refl w
  clear hna hnb
  go_enter Tryz.func65, Tryz.ntmps65
  go_wp2_with (fail)
  refine (byHalves_calls _).mono ?_
  rintro e w1 ⟨rfl, hB⟩
  replace hE := hE.below hB
  replace ha := ha.below hB
  replace hb := hb.below hB
  clear hB
  go_wp2_with (fail)
  refine (hPa.out _ ha).mono ?_
  rintro e w2 ⟨rfl, ho1, hB⟩
  replace hE := hE.below hB
  replace hb := hb.below hB
  clear hB ha
  go_wp2_with (fail)
  refine (hPb.out _ hb).mono ?_
  rintro e w3 ⟨rfl, ho2, hB⟩
  replace hE := hE.below hB
  replace ho1 := ho1.ext hB
  clear hB hb
  go_wp2_with (fail)
  refine (times_B w3 (w1.heap.size + 1) (w2.heap.size + 1) _ _ _ _ na nb (ho1.toV hHP.out.1 _ (by omega)) (ho2.toV hHP.out.2 _ (by omega)) hHL.out.1 hHL.out.2 (by omega)).mono ?_
  rintro e w4 ⟨hp, hB⟩
  obtain ⟨g, c, o, rfl, ho, hv, hl, hlen⟩ := hp.open (na + nb) rfl
  replace hE := hE.below hB
  clear hB ho1 ho2 hp
  go_wp2_with (fail)
  refine (unpack_calls w4 (g + 1) _ o (ho.toV hl _ (by omega)) (by omega)).mono ?_
  rintro e w5 ⟨⟨u, rfl, hu⟩, hB⟩
  rw [hv, hHW.out.1, hHW.out.2] at hu
  replace hE := hE.below hB
  have HF : Hid (∃ u', Ending.returned u = .returned u' ∧ Un w5 u' (val xs * val ys)) := ⟨_, rfl, hu⟩
  clear hB ho hu hv hl hlen
  go_wp2
  go_ret
  exact ⟨HF.out, hE⟩

set_option maxRecDepth 100000 in
set_option maxHeartbeats 2000000 in
theorem toom_calls (w : World) (va vb : Value) (xs ys : List Nat) (ha : U w va xs) (hb : U w vb ys) (hla : xs.length ≤ 1000) (hlb : ys.length ≤ 1000) (h398 : min xs.length ys.length ≤ 398) :
    Calls Tryz.prog 66 #[va, vb] w fun e w' => (∃ u, e = .returned u ∧ Un w' u (val xs * val ys)) ∧ Ext w w' := by
  obtain ⟨na, hna⟩ : ∃ na, (xs.length + 1) / 2 = na := ⟨_, rfl⟩
  obtain ⟨nb, hnb⟩ : ∃ nb, (ys.length + 1) / 2 = nb := ⟨_, rfl⟩
  have hHW := Lib.hid (And.intro (wal_packL xs) (wal_packL ys))
  have hHP := Lib.hid (And.intro (packL_lt xs ha.lim) (packL_lt ys hb.lim))
  have hHL : Hid ((packL xs).length = na ∧ (packL ys).length = nb) := ⟨by rw [packL_len, hna], by rw [packL_len, hnb]⟩
  have hPa := Lib.hid (fun W h => pack_calls W va xs h (by omega) na hna)
  have hPb := Lib.hid (fun W h => pack_calls W vb ys h (by omega) nb hnb)
  have hna1 : na ≤ 501 := by omega
  have hnb1 : nb ≤ 501 := by omega
  have hmin : min na nb < 200 := by omega
  have hE := Ext.refl w
  clear hna hnb
  go_enter Tryz.func66, Tryz.ntmps66
  go_wp2_with (fail)
  refine (byThirds_calls _).mono ?_
  rintro e w1 ⟨rfl, hB⟩
  replace hE := hE.below hB
  replace ha := ha.below hB
  replace hb := hb.below hB
  clear hB
  go_wp2_with (fail)
  refine (hPa.out _ ha).mono ?_
  rintro e w2 ⟨rfl, ho1, hB⟩
  replace hE := hE.below hB
  replace hb := hb.below hB
  clear hB ha
  go_wp2_with (fail)
  refine (hPb.out _ hb).mono ?_
  rintro e w3 ⟨rfl, ho2, hB⟩
  replace hE := hE.below hB
  replace ho1 := ho1.ext hB
  clear hB hb
  go_wp2_with (fail)
  refine (timesT_B w3 (w1.heap.size + 1) (w2.heap.size + 1) _ _ _ _ na nb (ho1.toV hHP.out.1 _ (by omega)) (ho2.toV hHP.out.2 _ (by omega)) hHL.out.1 hHL.out.2 (by omega) (by omega)).mono ?_
  rintro e w4 ⟨hp, hB⟩
  obtain ⟨g, c, o, rfl, ho, hv, hl, hlen⟩ := hp.open (na + nb) rfl
  replace hE := hE.below hB
  clear hB ho1 ho2 hp
  go_wp2_with (fail)
  refine (unpack_calls w4 (g + 1) _ o (ho.toV hl _ (by omega)) (by omega)).mono ?_
  rintro e w5 ⟨⟨u, rfl, hu⟩, hB⟩
  rw [hv, hHW.out.1, hHW.out.2] at hu
  replace hE := hE.below hB
  have HF : Hid (∃ u', Ending.returned u = .returned u' ∧ Un w5 u' (val xs * val ys)) := ⟨_, rfl, hu⟩
  clear hB ho hu hv hl hlen
  go_wp2
  go_ret
  exact ⟨HF.out, hE⟩
end Go.Proofs.YtigdflfhepelaaaGreatDoor
/- Products of limbs by school. -/
namespace Go.Proofs.YtigdflfhepelaaaGreatDoor
open Go.RowKit
set_option linter.unusedVariables false
set_option maxHeartbeats 400000

def LB : Nat := 4294967296
theorem lval_set (o : List Nat) (j x : Nat) (h : j < o.length) : val (o.set j x) + LB ^ j * lb o j = val o + LB ^ j * x := by
  rw [Nat.mul_comm (LB ^ j), Nat.mul_comm (LB ^ j)]; exact val_set o j x h
theorem lval_take_succ (xs : List Nat) (i : Nat) (h : i < xs.length) : val (xs.take (i + 1)) = val (xs.take i) + LB ^ i * lb xs i := by
  rw [Nat.mul_comm]; exact val_take_succ xs i h
theorem ladd_step (P S S' x y c d A v : Nat) (hset : S' + P * x = S + P * v) (hinv : S + P * c = A) (hd : x + y + c = v + LB * d) : S' + P * LB * d = A + P * y := by
  have h1 : P * (x + y + c) = P * (v + LB * d) := by rw [hd]
  rw [Nat.mul_add, Nat.mul_add, Nat.mul_add, ← Nat.mul_assoc] at h1
  omega
/-- The first i limbs, times y, are added. -/
structure LwI (o0 : List Nat) (n off : Nat) (A : Nat) (i : Nat) (o : List Nat) (cy : Nat) : Prop where
  len : o.length = n
  lt : ∀ x ∈ o, x < 4294967296
  cy1 : cy < 4294967296
  val : val o + LB ^ (off + i) * cy = A
  out : ∀ m, off + i ≤ m → lb o m = lb o0 m
theorem LwI.step {o0 : List Nat} {n off A i : Nat} {o : List Nat} {cy : Nat} (h : LwI o0 n off A i o cy) (hi : off + i < n) (t s d : Nat)
    (hs : lb o (off + i) + t + cy = s + LB * d) (hsb : s < 4294967296) (hd : d < 4294967296) : LwI o0 n off (A + LB ^ (off + i) * t) (i + 1) (o.set (off + i) s) d := by
  refine ⟨by simp [h.len], set_lt h.lt hsb, hd, ?_, fun m hm => ?_⟩
  · rw [← Nat.add_assoc, Nat.pow_succ]
    exact ladd_step _ _ _ _ _ _ _ _ _ (lval_set o (off + i) s (by rw [h.len]; exact hi)) h.val hs
  · rw [lb_set_other _ (by omega)]; exact h.out m (by omega)
/-- The product of the first i limbs is there, and nothing behind it. -/
structure LsI (as_ bs : List Nat) (n : Nat) (i : Nat) (o : List Nat) : Prop where
  len : o.length = n
  lt : ∀ x ∈ o, x < 4294967296
  val : val o = val as_ * val (bs.take i)
  out : ∀ m, i + as_.length ≤ m → lb o m = 0
theorem limb_math (t z cr s d u : Nat) (ht : t ≤ 18446744065119617025) (hz : z < 4294967296) (hc : cr < 4294967296) (hu : cr + (t + z) = u) (hs : u % 4294967296 = s) (hd : u / 4294967296 = d) :
    z + t + cr = s + LB * d ∧ s < 4294967296 ∧ d < 4294967296 ∧ u < 18446744073709551616 ∧ t + z < 18446744073709551616 := by
  unfold LB
  refine ⟨by omega, by omega, by omega, by omega, by omega⟩

set_option maxRecDepth 100000 in
set_option maxHeartbeats 8000000 in
theorem school_core (b : Bool) (w : World) (vx vy : Value) (xs ys : List Nat) (nx ny : Nat) (hx : U w vx xs) (hy : U w vy ys) (hnx : xs.length = nx) (hny : ys.length = ny) (hle : ny ≤ nx) (hb : b = true → ny < nx) (h12 : ny < 12) (hn : nx ≤ 1000) :
    Calls Tryz.prog 64 #[(if b then vy else vx), (if b then vx else vy)] w fun e w' => (∃ u, e = .returned u ∧ Un w' u (val xs * val ys)) ∧ Ext w w' := by
  obtain ⟨A, ca, rfl, ⟨hca, hma⟩, hxl, hxr⟩ := id hx
  obtain ⟨A2, cb, rfl, ⟨hcb, hmb⟩, hyl, hyr⟩ := id hy
  have HL : Hid (xs.length = nx ∧ ys.length = ny) := ⟨hnx, hny⟩
  have HTX := Lib.hid (fun k => lval_take_succ xs k)
  have HTY := Lib.hid (fun k => lval_take_succ ys k)
  have HT2 : Hid (xs.take nx = xs ∧ ys.take ny = ys) := ⟨by rw [← hnx]; exact List.take_length, by rw [← hny]; exact List.take_length⟩
  rw [hnx] at hca hma hxr ⊢
  rw [hny] at hcb hmb hyr ⊢
  obtain ⟨n, hnn⟩ : ∃ n, nx + ny = n := ⟨_, rfl⟩
  have hni : (nx : Int) + (ny : Int) = (n : Int) := by omega
  have hm1 : (if (ny : Int) < (nx : Int) then (ny : Int) else (nx : Int)) = (ny : Int) := by split <;> omega
  have hm2 : (if (nx : Int) < (ny : Int) then (nx : Int) else (ny : Int)) = (ny : Int) := by split <;> omega
  have hm3 : (if ny < nx then (ny : Int) else (nx : Int)) = (ny : Int) := by split <;> omega
  have hm4 : (if nx < ny then (nx : Int) else (ny : Int)) = (ny : Int) := by split <;> omega
  have hd12 : decide ((12 : Int) ≤ (ny : Int)) = false := by rw [decide_eq_false_iff_not]; omega
  obtain ⟨i0, hi, hz0, hz1, hz2⟩ := info_parts info32
  obtain ⟨B, hB⟩ : ∃ B, w.heap.size = B := ⟨_, rfl⟩
  have HBS := Lib.hid hB
  have hlt : b = true → ny < nx := hb
  clear hx hy hnx hny hb
  cases b
  case' false =>
    show Calls Tryz.prog 64 #[.slice A nx ca, .slice A2 ny cb] w _
    have hd : decide ((nx : Int) < (ny : Int)) = false := by rw [decide_eq_false_iff_not]; omega
    go_enter Tryz.func64, Tryz.ntmps64
    go_upto_region 5 with (fail)
  case' true =>
    show Calls Tryz.prog 64 #[.slice A2 ny cb, .slice A nx ca] w _
    have hlt' := hlt rfl
    have hd : decide ((ny : Int) < (nx : Int)) = true := by rw [decide_eq_true_iff]; omega
    go_enter Tryz.func64, Tryz.ntmps64
    go_upto_region 5 with (fail)
  all_goals
    clear hd hm1 hm2 hm3 hm4 hd12 hlt
    go_wp2_with (at_make; refine wpList_make_full _ rfl _ _ 22 rfl w.heap.size 46 i0 (.int .u32 0) 1 Tryz.underlying22 hi hz0 hz1 _ _ _ _ n rfl rfl (by omega) (by omega) (by rw [hz2]; omega) (by unfold maxLen; omega) (Nat.le_refl _) ?_; intro w1 hown hgrow)
    have ho0 : Own w1 w.heap.size (.slice (some ⟨w.heap.size, 0, none⟩) n n) (List.replicate n 0) := by
      have := Own.zeros hown
      rwa [List.length_replicate] at this
    have hE0 : Ext w w1 := (Ext.refl w).grown hgrow (Nat.le_refl _) (fun _ h => by cases h)
    rw [hB] at ho0
    clear hown hgrow hi hz0 hz1 hz2 i0
    have hS0 : Hid (LsI xs ys n 0 (List.replicate n 0)) := ⟨by simp, fun x hx => by simp at hx; omega, by simp [val_replicate_zero, val], fun m _ => lb_zeros _ _⟩
    go_wp2
    go_loopw [39] (fun t wr => ∃ (i : Nat) (o : List Nat), i ≤ ny ∧ t = .int .i64 (i : Nat) ∧ Hid (LsI xs ys n i o) ∧ Own wr B (.slice (some ⟨B, 0, none⟩) n n) o ∧ Ext w wr) (fun t _ => ny - (intOf t).toNat)
    case atStart => exact ⟨0, _, Nat.zero_le _, rfl, hS0, ho0, hE0⟩
    case round =>
      clear hS0 ho0 hE0
      obtain ⟨i, o, hib, rfl, HO, hown, hE⟩ := hrel
      by_cases hlt : i < ny
      · obtain ⟨ad2, rfl, hb2, hcell2⟩ := hyr (by omega)
        obtain ⟨ad, rfl, hb1, hcell1⟩ := hxr (by omega)
        have hc0 := (hE.cell (p := ad2.add i) (by rw [addr_add_block]; exact hb2)).trans (hcell2 i hlt)
        have hyb := lb_lt hyl i
        have hty := HTY.out i (by rw [HL.out.2]; exact hlt)
        obtain ⟨y, hyy⟩ : ∃ y, lb ys i = y := ⟨_, rfl⟩
        rw [hyy] at hc0 hyb hty
        have g1 : i < n := by omega
        have g2 : (i : Int) < (n : Int) := by omega
        have g3 : (i : Int) ≤ (i : Int) + (nx : Int) := by omega
        have g4 : (i : Int) + (nx : Int) ≤ (n : Int) := by omega
        have g5 : (0 : Int) ≤ (i : Int) := by omega
        have g6 : ((i : Int) + (nx : Int)).toNat = i + nx := by omega
        have g7 : i + nx - i = nx := by omega
        have g8 : ¬ (n = i) := by omega
        have g9 : IntKind.i64.wrap ((i : Int) + (nx : Int)) = (i : Int) + (nx : Int) := IntWalk.i64_in _ (by omega)
        have g10 : (0 : Int) ≤ (i : Int) + (nx : Int) := by omega
        go_wp2_with (fail)
        go_quiet (fail)
        go_wp2_with (fail)
        have HS1 : Hid (LwI o n i (val o + LB ^ i * (val (xs.take 0) * y)) 0 o 0) := ⟨HO.out.len, HO.out.lt, by decide, by simp [val], fun m _ => rfl⟩
        have hEd : Ext w (wr.drewN nq) := hE.below (ext_drewN _ _)
        have hownd : Own (wr.drewN nq) B (.slice (some ⟨B, 0, none⟩) n n) o := hown.ext (ext_drewN _ _)
        have HTYI : Hid (val (ys.take (i + 1)) = val (ys.take i) + LB ^ i * y) := hty
        have hno : Hid (lb o (i + nx) = 0) := HO.out.out _ (by rw [HL.out.1]; exact Nat.le_refl _)
        clear hyy hc0 hown hE hty
        go_loopw [53, 8] (fun t s wx => ∃ (j : Nat) (o2 : List Nat) (cy : Nat), j ≤ nx ∧ t = .int .i64 (j : Nat) ∧ s = .int .u64 (cy : Nat) ∧ Hid (LwI o n i (val o + LB ^ i * (val (xs.take j) * y)) j o2 cy) ∧ Own wx B (.slice (some ⟨B, 0, none⟩) n n) o2 ∧ Ext w wx) (fun t _ _ => nx - (intOf t).toNat)
        case atStart => exact ⟨0, o, 0, Nat.zero_le _, rfl, rfl, HS1, hownd, hEd⟩
        case round =>
          clear HS1 hownd hEd
          obtain ⟨j, o2, cy, hj, rfl, rfl, HW, hown, hE⟩ := hrel
          by_cases hjt : j < nx
          · have hc1 := (hE.cell (p := ad.add j) (by rw [addr_add_block]; exact hb1)).trans (hcell1 j hjt)
            have hxb := lb_lt hxl j
            have htk := HTX.out j (by rw [HL.out.1]; exact hjt)
            have hcz := hown.rd.2 (i + j) (by rw [HW.out.len]; omega)
            have hf := hown.frozen' (i + j)
            have hzb := lb_lt HW.out.lt (i + j)
            have hcy := HW.out.cy1
            obtain ⟨x, hxx⟩ : ∃ x, lb xs j = x := ⟨_, rfl⟩
            rw [hxx] at hc1 hxb htk
            obtain ⟨z, hzz⟩ : ∃ z, lb o2 (i + j) = z := ⟨_, rfl⟩
            rw [hzz] at hcz hzb
            obtain ⟨t, ht⟩ : ∃ t, x * y = t := ⟨_, rfl⟩
            have ht1 : t ≤ 18446744065119617025 := by rw [← ht]; exact sq_lt hxb hyb
            have hti : (x : Int) * (y : Int) = (t : Int) := by rw [← ht, Int.natCast_mul]
            obtain ⟨u, hu⟩ : ∃ u, cy + (t + z) = u := ⟨_, rfl⟩
            obtain ⟨s, hs⟩ : ∃ s, u % 4294967296 = s := ⟨_, rfl⟩
            obtain ⟨d, hd⟩ : ∃ d, u / 4294967296 = d := ⟨_, rfl⟩
            obtain ⟨hm, hsb, hdb, hub, htz⟩ := limb_math t z cy s d u ht1 hzb hcy hu hs hd
            have hst := HW.out.step (by omega) t s d (by rw [hzz]; exact hm) hsb hdb
            rw [Nat.add_assoc (val o), Nat.pow_add, Nat.mul_assoc, ← Nat.mul_add, ← ht, ← Nat.mul_assoc, ← Nat.add_mul, ← htk] at hst
            have HST := Lib.hid hst
            have hown2 := hown.set' (i + j) s
            have hE2 := hE.setCell (p := ⟨B, i + j, none⟩) (by rw [HBS.out]; exact Nat.le_refl _) (.int .u32 (s : Nat))
            have q1 : IntKind.u64.wrap (t : Int) = (t : Int) := by rw [IntKind.wrap_u64]; omega
            have q2 : IntKind.u64.wrap ((t : Int) + (z : Int)) = (t : Int) + (z : Int) := by rw [IntKind.wrap_u64]; omega
            have q3 : (cy : Int) + ((t : Int) + (z : Int)) = (u : Int) := by omega
            have q4 : IntKind.u64.wrap (u : Int) = (u : Int) := by rw [IntKind.wrap_u64]; omega
            have q5 : IntKind.u32.wrap (u : Int) = (s : Int) := by rw [IntKind.wrap_u32]; omega
            have q6 : (u : Int) % 4294967296 = (s : Int) := by omega
            have q7 : (u : Int) / 4294967296 = (d : Int) := by omega
            have q8 : IntKind.u64.wrap (x : Int) = (x : Int) := by rw [IntKind.wrap_u64]; omega
            have q9 : IntKind.u64.wrap (y : Int) = (y : Int) := by rw [IntKind.wrap_u64]; omega
            have q10 : IntKind.u64.wrap (z : Int) = (z : Int) := by rw [IntKind.wrap_u64]; omega
            have q11 : (u : Int) % 18446744073709551616 = (u : Int) := by omega
            have q12 : (t : Int) % 18446744073709551616 = (t : Int) := by omega
            have q13 : ((t : Int) + (z : Int)) % 18446744073709551616 = (t : Int) + (z : Int) := by omega
            have hbn : (ad.add j).block ≠ B := by rw [addr_add_block]; have := HBS.out; omega
            clear hst htk hxx hzz ht hu hs hd hm hown hE HW hxb hzb ht1 hcy
            go_wp2
            go_roundw
            case rel => exact ⟨j + 1, _, d, by omega, by go_num, rfl, HST, hown2, hE2⟩
            case measure => simp [intOf]; omega
          · obtain rfl : j = nx := by omega
            have hcz := hown.rd.2 (i + j) (by rw [HW.out.len]; omega)
            have hf := hown.frozen' (i + j)
            have hl0 : lb o2 (i + j) = 0 := by rw [HW.out.out _ (Nat.le_refl _)]; exact hno.out
            have hws := lval_set o2 (i + j) cy (by rw [HW.out.len]; omega)
            rw [hl0, Nat.mul_zero, Nat.add_zero, HW.out.val, HT2.out.1] at hws
            have hcz' : (Value.int .u32 (lb o2 (i + j) : Nat)) = .int .u32 0 := by rw [hl0]; rfl
            rw [hcz'] at hcz
            have hcyb := HW.out.cy1
            have q5 : IntKind.u32.wrap (cy : Int) = (cy : Int) := by rw [IntKind.wrap_u32]; omega
            have q6 : (cy : Int) % 4294967296 = (cy : Int) := by omega
            have hown2 := hown.set' (i + j) cy
            have hE2 := hE.setCell (p := ⟨B, i + j, none⟩) (by rw [HBS.out]; exact Nat.le_refl _) (.int .u32 (cy : Nat))
            have HST : Hid (LsI xs ys n (i + 1) (o2.set (i + j) cy)) := by
              refine ⟨by rw [List.length_set]; exact HW.out.len, set_lt HW.out.lt hcyb, ?_, fun m hm => ?_⟩
              · rw [hws, HTYI.out, Nat.mul_add, ← HO.out.val, Nat.mul_left_comm]
              · rw [HL.out.1] at hm
                rw [lb_set_other _ (by omega), HW.out.out _ (by omega)]
                exact HO.out.out m (by rw [HL.out.1]; omega)
            have g12 : (i : Int) + (j : Int) < (n : Int) := by omega
            have g13 : i + j < n := by omega
            clear hl0 hws hcz' hown hE HW hcyb HTYI hno
            go_wp2
            go_roundw
            case rel => exact ⟨i + 1, _, by omega, by go_num, HST, hown2, hE2⟩
            case measure => simp [intOf]; omega
      · obtain rfl : i = ny := by omega
        have hu := hown.toU HO.out.lt (by rw [HO.out.len]; omega)
        have hvv := HO.out.val
        rw [HT2.out.2] at hvv
        have HV := Lib.hid hvv
        clear hown HO hvv
        go_wp2_with (fail)
        refine (trim32_calls _ _ _ hu).mono ?_
        rintro e w2 ⟨⟨u, rfl, hu2⟩, rfl⟩
        rw [HV.out] at hu2
        have HF : Hid (∃ u', Ending.returned u = .returned u' ∧ Un wr u' (val xs * val ys)) := ⟨_, rfl, hu2⟩
        clear hu2 hu
        go_wp2
        go_ret
        exact ⟨HF.out, hE⟩
end Go.Proofs.YtigdflfhepelaaaGreatDoor
/- Products by school; sums of products, carried. -/
namespace Go.Proofs.YtigdflfhepelaaaGreatDoor
open Go.RowKit
set_option linter.unusedVariables false
set_option maxHeartbeats 400000

set_option maxRecDepth 100000 in
set_option maxHeartbeats 2000000 in
theorem school_big (w : World) (va vb : Value) (xs ys : List Nat) (ha : U w va xs) (hb : U w vb ys) (hla : xs.length ≤ 1000) (hlb : ys.length ≤ 1000) (h12 : 12 ≤ min xs.length ys.length) :
    Calls Tryz.prog 64 #[va, vb] w fun e w' => (∃ u, e = .returned u ∧ Un w' u (val xs * val ys)) ∧ Ext w w' := by
  obtain ⟨A, ca, rfl, hca⟩ := ha.shape
  obtain ⟨A2, cb, rfl, hcb⟩ := hb.shape
  obtain ⟨na, hna⟩ : ∃ na, (xs.length + 1) / 2 = na := ⟨_, rfl⟩
  obtain ⟨nb, hnb⟩ : ∃ nb, (ys.length + 1) / 2 = nb := ⟨_, rfl⟩
  have hHW := Lib.hid (And.intro (wal_packL xs) (wal_packL ys))
  have hHP := Lib.hid (And.intro (packL_lt xs ha.lim) (packL_lt ys hb.lim))
  have hHL : Hid ((packL xs).length = na ∧ (packL ys).length = nb) := ⟨by rw [packL_len, hna], by rw [packL_len, hnb]⟩
  have hPa := Lib.hid (fun W h => pack_calls W (.slice A xs.length ca) xs h (by omega) na hna)
  have hPb := Lib.hid (fun W h => pack_calls W (.slice A2 ys.length cb) ys h (by omega) nb hnb)
  have hna1 : na ≤ 501 := by omega
  have hnb1 : nb ≤ 501 := by omega
  generalize xs.length = lx at *
  generalize ys.length = ly at *
  obtain ⟨m, hm⟩ : ∃ m, min lx ly = m := ⟨_, rfl⟩
  have hm1 : (if (ly : Int) < (lx : Int) then (ly : Int) else (lx : Int)) = (m : Int) := by split <;> omega
  have hm3 : (if ly < lx then (ly : Int) else (lx : Int)) = (m : Int) := by split <;> omega
  have hd12 : decide ((12 : Int) ≤ (m : Int)) = true := by rw [decide_eq_true_iff]; omega
  have hE := Ext.refl w
  clear hna hnb h12 hm
  go_enter Tryz.func64, Tryz.ntmps64
  go_wp2_with (fail)
  refine (hPa.out _ ha).mono ?_
  rintro e w2 ⟨rfl, ho1, hB⟩
  replace hE := hE.below hB
  replace hb := hb.below hB
  clear hB ha
  go_wp2_with (fail)
  refine (hPb.out _ hb).mono ?_
  rintro e w3 ⟨rfl, ho2, hB⟩
  replace hE := hE.below hB
  replace ho1 := ho1.ext hB
  clear hB hb
  go_wp2_with (fail)
  refine (rows_calls w3 (w.heap.size + 1) (w2.heap.size + 1) _ _ _ _ (ho1.toV hHP.out.1 _ (by omega)) (ho2.toV hHP.out.2 _ (by omega)) na nb hHL.out.1 hHL.out.2 (by omega)).mono ?_
  rintro e w4 ⟨hp, hB⟩
  obtain ⟨g, c, o, rfl, ho, hv, hl, hlen⟩ := hp.open (na + nb) rfl
  replace hE := hE.below hB
  clear hB ho1 ho2 hp
  go_wp2_with (fail)
  refine (unpack_calls w4 (g + 1) _ o (ho.toV hl _ (by omega)) (by omega)).mono ?_
  rintro e w5 ⟨⟨u, rfl, hu⟩, hB⟩
  rw [hv, hHW.out.1, hHW.out.2] at hu
  replace hE := hE.below hB
  have HF : Hid (∃ u', Ending.returned u = .returned u' ∧ Un w5 u' (val xs * val ys)) := ⟨_, rfl, hu⟩
  clear hB ho hu hv hl hlen
  go_wp2
  go_ret
  exact ⟨HF.out, hE⟩
theorem school_calls (w : World) (va vb : Value) (xs ys : List Nat) (ha : U w va xs) (hb : U w vb ys) (hla : xs.length ≤ 1000) (hlb : ys.length ≤ 1000) :
    Calls Tryz.prog 64 #[va, vb] w fun e w' => (∃ u, e = .returned u ∧ Un w' u (val xs * val ys)) ∧ Ext w w' := by
  by_cases h : 12 ≤ min xs.length ys.length
  · exact school_big w va vb xs ys ha hb hla hlb h
  · by_cases hlt : xs.length < ys.length
    · have := school_core true w vb va ys xs _ _ hb ha rfl rfl (by omega) (fun _ => hlt) (by omega) hlb
      rw [Nat.mul_comm (val ys)] at this
      exact this
    · exact school_core false w va vb xs ys _ _ ha hb rfl rfl (by omega) (fun h => by cases h) (by omega) hla
end Go.Proofs.YtigdflfhepelaaaGreatDoor
/- Sums of products, carried. -/
namespace Go.Proofs.YtigdflfhepelaaaGreatDoor
open Go.RowKit
set_option linter.unusedVariables false
set_option maxHeartbeats 400000

theorem val_cut (xs : List Nat) (k : Nat) (h : k ≤ xs.length) : val xs = val (xs.take k) + LB ^ k * val (xs.drop k) := by
  conv => lhs; rw [← List.take_append_drop k xs]
  rw [val_append, List.length_take, Nat.min_eq_left h]; rfl
theorem lval_append (xs ys : List Nat) : val (xs ++ ys) = val xs + LB ^ xs.length * val ys := val_append xs ys
theorem val_splice (o xs : List Nat) (off : Nat) (h : off + xs.length ≤ o.length) (hz : ∀ j, off ≤ j → j < off + xs.length → lb o j = 0) : val (splice o off xs) = val o + LB ^ off * val xs := by
  have e1 := val_cut o off (by omega)
  have e2 := val_cut (o.drop off) xs.length (by rw [List.length_drop]; omega)
  have e3 : val ((o.drop off).take xs.length) = 0 := by
    have : (o.drop off).take xs.length = List.replicate xs.length 0 := by
      refine ext_lb (by simp; omega) fun j hj => ?_
      have hj' : j < xs.length := by simp at hj; omega
      rw [lb_take hj', lb_drop, lb_zeros, hz _ (by omega) (by omega)]
    rw [this, val_replicate_zero]
  rw [e3, Nat.zero_add, List.drop_drop] at e2
  unfold splice
  rw [lval_append, lval_append, List.length_take, Nat.min_eq_left (by omega), e1, e2, Nat.mul_add]
  omega
theorem splice_lenL (o xs : List Nat) (off : Nat) (h : off + xs.length ≤ o.length) : (splice o off xs).length = o.length := length_splice o off xs h
theorem splice_ltL (o xs : List Nat) (off : Nat) (ho : ∀ x ∈ o, x < 4294967296) (hx : ∀ x ∈ xs, x < 4294967296) : ∀ x ∈ splice o off xs, x < 4294967296 := by
  intro x h
  unfold splice at h
  rcases List.mem_append.1 h with h | h
  · exact ho x (List.mem_of_mem_take h)
  · rcases List.mem_append.1 h with h | h
    · exact hx x h
    · exact ho x (List.mem_of_mem_drop h)
theorem L32_splice (o xs : List Nat) (off : Nat) (t : List Value) (h : off + xs.length ≤ o.length) : splice (L32 o ++ t) off (L32 xs) = L32 (splice o off xs) ++ t := by
  unfold splice
  rw [L32_length, List.take_append_of_le_length (by rw [L32_length]; omega), List.drop_append_of_le_length (by rw [L32_length]; omega)]
  simp [L32, List.map_take, List.map_drop]

theorem wpList_copyL {w : World} {ops : Array Oper} {rest : List Oper} {o : Oper} {a : Act} {Q : Exit → Act → World → Prop} (hgd : o.guard = none) (d s : Operand)
    (ho : o.op = .call { callee := .builtin .copy, args := #[d, s], argTypes := #[22, 22] }) (g off dLen dCap : Nat) (sp : Option Addr) (sLen sCap : Nat)
    (hd : a.eval d = .slice (some ⟨g, off, none⟩) dLen dCap) (hs : a.eval s = .slice sp sLen sCap) (base n c : Nat) (os : List Nat) (hown : Own w base (.slice (some ⟨g, 0, none⟩) n c) os)
    (xs : List Nat) (hx : U w (.slice sp sLen sCap) xs) (hle : sLen ≤ dLen) (hfit : off + dLen ≤ n)
    (h : ∀ w', Own w' base (.slice (some ⟨g, 0, none⟩) n c) (splice os off xs) → But g w w' → wpList Tryz.prog ops Q rest (a.put o.dst (goInt xs.length)) w') : wpList Tryz.prog ops Q (o :: rest) a w := by
  obtain ⟨A, c', hv, hcc, hlim, hr⟩ := hx
  injection hv with q1 q2 q3
  have hi : (Tryz.prog.info? 46).map (·.size) = some 1 := by kernel_rfl
  have hlen : (L32 xs).length = xs.length := L32_length xs
  have hcaps := hown.caps
  rcases Nat.eq_zero_or_pos xs.length with h0 | h0
  · obtain rfl := List.eq_nil_of_length_eq_zero h0
    have q2' : sLen = 0 := q2
    rw [q2'] at hs
    refine wpList_copy_nothing hgd d s 22 22 ho 46 Tryz.underlying22 hi _ _ dLen dCap 0 sCap hd hs (Nat.zero_min _) ?_
    refine h w ?_ (But.refl g w)
    have e : splice os off ([] : List Nat) = os := by simp [splice]
    rw [e]; exact hown
  · obtain ⟨ad, hA, hb, hcell⟩ := hr h0
    have hh0 : w.ownsRow base 46 1 (.slice (some ⟨g, 0, none⟩) n c) os.length (L32 os) := hown
    rcases hh0.2 with ⟨h1, _⟩ | ⟨g', cap, cur, h1, hg, hh, h2, h3, h4, h5⟩
    · cases h1
    · injection h1 with e1 e2 e3
      injection e1 with e1
      injection e1 with e1
      subst e1
      have hcur : cur.toList = L32 os ++ cur.toList.drop os.length := by
        conv => lhs; rw [← List.take_append_drop os.length cur.toList]
        rw [← h5, Nat.mul_one]
      have hsz : os.length ≤ cur.size := by omega
      refine wpList_copy_own hgd d s 22 22 ho 46 Tryz.underlying22 hi g off dLen dCap ad sLen sCap hd (by rw [hs, q1, hA]) cur 46 hh (L32 xs) (by rw [hlen, ← q2]; exact (Nat.min_eq_left hle).symm) ?_ (by rw [hlen]; omega) (by intro u hu; obtain ⟨z, _, rfl⟩ := List.mem_map.1 hu; rfl) ?_
      · intro j u hj
        have hjl : j < xs.length := by
          rcases Nat.lt_or_ge j xs.length with h | h
          · exact h
          · rw [List.getElem?_eq_none (by rw [L32_length]; exact h)] at hj; cases hj
        rw [hcell j hjl, ← L32_get xs hjl, hj]
      · rw [hlen]
        have e : cur.toList.take off ++ (L32 xs ++ cur.toList.drop (off + xs.length)) = L32 (splice os off xs) ++ cur.toList.drop os.length := by
          rw [← L32_splice os xs off _ (by omega), ← hcur]
          unfold splice
          rw [hlen]
        have hsl := splice_lenL os xs off (by omega)
        refine h _ ?_ ⟨rfl, rfl, rfl, by simp [World.setRow], fun k hk hne => setRow_other w g k _ (fun e => hne (by rw [e]))⟩
        refine ⟨by rw [L32_length, Nat.mul_one], .inr ⟨g, cap, _, by rw [e2, e3, hsl], hg, setRow_heap w g _ _ _ _ hh, by rw [hsl]; exact h2, h3, ?_, ?_⟩⟩
        · rw [e, List.size_toArray, List.length_append, L32_length, hsl, List.length_drop, Array.length_toList (xs := cur)]
          omega
        · rw [e, Nat.mul_one, List.take_append_of_le_length (by rw [L32_length]; exact Nat.le_refl _), ← L32_length (splice os off xs), List.take_length]


/-- The number that sums of products are, the lowest first. -/
def cval : List Nat → Nat
  | [] => 0
  | x :: xs => x + LB * cval xs
theorem cval_append (xs ys : List Nat) : cval (xs ++ ys) = cval xs + LB ^ xs.length * cval ys := by
  induction xs with
  | nil => simp [cval]
  | cons x xs ih =>
    simp only [List.cons_append, cval, ih, List.length_cons, Nat.pow_succ]
    rw [Nat.mul_add, Nat.add_assoc]
    congr 2
    rw [← Nat.mul_assoc, Nat.mul_comm LB]
theorem cval_take_succ (xs : List Nat) (k : Nat) (h : k < xs.length) : cval (xs.take (k + 1)) = cval (xs.take k) + LB ^ k * lb xs k := by
  have e : xs.take (k + 1) = xs.take k ++ [lb xs k] := by
    rw [List.take_add_one, List.getElem?_eq_getElem h]
    unfold lb
    rw [List.getElem?_eq_getElem h]; rfl
  rw [e, cval_append, List.length_take, Nat.min_eq_left (by omega)]
  simp [cval]
structure CaI (cs : List Nat) (n k : Nat) (o : List Nat) (T : Nat) : Prop where
  len : o.length = n
  lt : ∀ x ∈ o, x < 4294967296
  val : val o + LB ^ k * T = cval (cs.take k)
  out : ∀ m, k ≤ m → lb o m = 0
  tb : T < 36893488147419103232
theorem CaI.step {cs : List Nat} {n k : Nat} {o : List Nat} {T : Nat} (h : CaI cs n k o T) (hk : k < n) (hkc : k < cs.length) (S : Nat) (hS : lb cs k = S) (hSb : S < 79228162514264337593543950336) (z T' : Nat) (hz : (T + S) % 4294967296 = z) (hT : (T + S) / 4294967296 = T') :
    CaI cs n (k + 1) (o.set k z) T' := by
  have hb := h.tb
  refine ⟨by simp [h.len], set_lt h.lt (by omega), ?_, fun m hm => by rw [lb_set_other _ (by omega)]; exact h.out m (by omega), by omega⟩
  have hset := lval_set o k z (by rw [h.len]; exact hk)
  rw [h.out k (Nat.le_refl _), Nat.mul_zero, Nat.add_zero] at hset
  rw [cval_take_succ _ _ hkc, hS, hset, ← h.val, Nat.pow_succ, Nat.mul_assoc, Nat.add_assoc, ← Nat.mul_add, Nat.add_assoc, ← Nat.mul_add]
  congr 2
  unfold LB
  omega
theorem carry_math (T S low high mlo c2 s up h : Nat) (hT : T < 36893488147419103232) (hS : S < 79228162514264337593543950336) (h1 : T % 18446744073709551616 = low) (h2 : T / 18446744073709551616 = high) (h3 : S % 18446744073709551616 = mlo) (h4 : S / 18446744073709551616 = c2)
    (h5 : (low + mlo) % 18446744073709551616 = s) (h6 : (low + mlo) / 18446744073709551616 = up) (h7 : high + (c2 + up) = h) :
    s % 4294967296 = (T + S) % 4294967296 ∧ s / 4294967296 + 4294967296 * (h % 4294967296) = (T + S) / 4294967296 % 18446744073709551616 ∧ h / 4294967296 = (T + S) / 4294967296 / 18446744073709551616 ∧ h < 8589934592 ∧ c2 < 4294967296 ∧ up ≤ 1 ∧ high ≤ 1 := by
  have e1 : T = 18446744073709551616 * high + low := by omega
  have e2 : S = 18446744073709551616 * c2 + mlo := by omega
  have e3 : low + mlo = 18446744073709551616 * up + s := by omega
  have b1 : low < 18446744073709551616 := by omega
  have b2 : mlo < 18446744073709551616 := by omega
  have b3 : s < 18446744073709551616 := by omega
  clear h1 h2 h3 h4 h5 h6
  have e4 : T + S = 18446744073709551616 * h + s := by omega
  have b4 : c2 < 4294967296 := by omega
  have b5 : up ≤ 1 := by omega
  have b6 : high ≤ 1 := by omega
  have b7 : h < 8589934592 := by omega
  rw [e4]
  clear e1 e2 e3 e4 hT hS h7
  refine ⟨by omega, by omega, by omega, b7, b4, b5, b6⟩
theorem limbs3' (S : Nat) (hS : S < 79228162514264337593543950336) (s0 s1 s2 : Nat) (h0 : S % 4294967296 = s0) (h1 : S / 4294967296 % 4294967296 = s1) (h2 : S / 18446744073709551616 % 4294967296 = s2) : S % 18446744073709551616 = s1 * 4294967296 + s0 ∧ S / 18446744073709551616 = s2 := ⟨by omega, by omega⟩
theorem U3.cells3 {w : World} {A : Option Addr} {n c : Nat} {cs : List Nat} (h : U3 w (.slice A n c) cs) (h0 : 0 < n) : ∃ ad, A = some ad ∧ ad.block < w.heap.size ∧ ∀ k, k < n → w.cell? (ad.add (k * 3)) = some (.int .u32 (lb cs k % 4294967296 : Nat)) ∧ w.cell? ⟨(ad.add (k * 3)).block, (ad.add (k * 3)).off + 1, none⟩ = some (.int .u32 (lb cs k / 4294967296 % 4294967296 : Nat)) ∧ w.cell? ⟨(ad.add (k * 3)).block, (ad.add (k * 3)).off + 2, none⟩ = some (.int .u32 (lb cs k / 18446744073709551616 % 4294967296 : Nat)) := by
  obtain ⟨A', c', e, _, hr⟩ := h
  injection e with e1 e2 e3
  subst e1 e2 e3
  obtain ⟨ad, rfl, hb, hcell⟩ := hr h0
  refine ⟨ad, rfl, hb, fun k hk => ?_⟩
  have hl := lb_fl cs k hk
  have k0 := hcell (k * 3) (by omega)
  have k1 := hcell (k * 3 + 1) (by omega)
  have k2 := hcell (k * 3 + 2) (by omega)
  rw [hl.1] at k0
  rw [hl.2.1, ← addr_add_add, addr_at _ 1 (by decide)] at k1
  rw [hl.2.2, ← addr_add_add, addr_at _ 2 (by decide)] at k2
  exact ⟨k0, k1, k2⟩

set_option maxRecDepth 100000 in
set_option maxHeartbeats 8000000 in
theorem carry_calls (w : World) (v : Value) (cs : List Nat) (hu : U3 w v cs) (hcs : ∀ x ∈ cs, x < 79228162514264337593543950336) (hl : cs.length ≤ 100000) :
    Calls Tryz.prog 95 #[v] w fun e w' => (∃ u, e = .returned u ∧ Un w' u (cval cs)) ∧ Ext w w' := by
  obtain ⟨A, c, hv, hc, hr⟩ := id hu
  subst hv
  obtain ⟨n, hn⟩ : ∃ n, cs.length = n := ⟨_, rfl⟩
  have HN := Lib.hid hn
  have HTK := Lib.hid (fun k => cval_take_succ cs k)
  have HT2 : Hid (cs.take n = cs) := by rw [Hid, ← hn]; exact List.take_length
  have HCS := Lib.hid (lb_lt_of (xs := cs) (by decide) hcs)
  rw [hn] at hu hc hl ⊢
  clear hr hn
  obtain ⟨m, hm⟩ : ∃ m, n + 3 = m := ⟨_, rfl⟩
  have hmi : (n : Int) + 3 = (m : Int) := by omega
  obtain ⟨i0, hi, hz0, hz1, hz2⟩ := info_parts info32
  obtain ⟨B, hB⟩ : ∃ B, w.heap.size = B := ⟨_, rfl⟩
  have HBS := Lib.hid hB
  go_enter Tryz.func95, Tryz.ntmps95
  go_wp2_with (at_make; refine wpList_make_full _ rfl _ _ 22 rfl w.heap.size 46 i0 (.int .u32 0) 1 Tryz.underlying22 hi hz0 hz1 _ _ _ _ m rfl rfl (by omega) (by omega) (by rw [hz2]; omega) (by unfold maxLen; omega) (Nat.le_refl _) ?_; intro w1 hown hgrow)
  have ho0 : Own w1 w.heap.size (.slice (some ⟨w.heap.size, 0, none⟩) m m) (List.replicate m 0) := by
    have := Own.zeros hown
    rwa [List.length_replicate] at this
  have hE0 : Ext w w1 := (Ext.refl w).grown hgrow (Nat.le_refl _) (fun _ h => by cases h)
  rw [hB] at ho0
  clear hown hgrow hi hz0 hz1 hz2 i0
  have hS0 : Hid (CaI cs m 0 (List.replicate m 0) 0) := ⟨by simp, fun x hx => by simp at hx; omega, by simp [val_replicate_zero, cval], fun m _ => lb_zeros _ _, by decide⟩
  go_wp2
  go_loopw [15, 4, 5] (fun t l h wr => ∃ (k : Nat) (o : List Nat) (T low high : Nat), k ≤ n ∧ t = .int .i64 (k : Nat) ∧ l = .int .u64 (low : Nat) ∧ h = .int .u64 (high : Nat) ∧ Hid (T % 18446744073709551616 = low ∧ T / 18446744073709551616 = high) ∧ Hid (CaI cs m k o T) ∧ Own wr B (.slice (some ⟨B, 0, none⟩) m m) o ∧ Ext w wr) (fun t _ _ _ => n - (intOf t).toNat)
  case atStart => exact ⟨0, _, 0, 0, 0, Nat.zero_le _, rfl, rfl, rfl, ⟨rfl, rfl⟩, hS0, ho0, hE0⟩
  case round =>
    clear hS0 ho0 hE0
    obtain ⟨k, o, T, low, high, hkn, rfl, rfl, rfl, HT, HO, hown, hE⟩ := hrel
    by_cases hlt : k < n
    · obtain ⟨ad, rfl, hb, hcell⟩ := hu.cells3 (by omega)
      obtain ⟨k0, k1, k2⟩ := hcell k hlt
      have hSb := HCS.out k
      obtain ⟨S, hS⟩ : ∃ S, lb cs k = S := ⟨_, rfl⟩
      rw [hS] at k0 k1 k2 hSb
      obtain ⟨s0, hs0⟩ : ∃ s0, S % 4294967296 = s0 := ⟨_, rfl⟩
      obtain ⟨s1, hs1⟩ : ∃ s1, S / 4294967296 % 4294967296 = s1 := ⟨_, rfl⟩
      obtain ⟨c2, hs2⟩ : ∃ c2, S / 18446744073709551616 % 4294967296 = c2 := ⟨_, rfl⟩
      obtain ⟨hlo3, hhi3⟩ := limbs3' S hSb s0 s1 c2 hs0 hs1 hs2
      rw [hs0] at k0
      rw [hs1] at k1
      rw [hs2] at k2
      have b0 : s0 < 4294967296 := by rw [← hs0]; exact Nat.mod_lt _ (by decide)
      have b1 : s1 < 4294967296 := by rw [← hs1]; exact Nat.mod_lt _ (by decide)
      obtain ⟨m1, hm1⟩ : ∃ m1, s1 * 4294967296 = m1 := ⟨_, rfl⟩
      obtain ⟨mlo, hmlo⟩ : ∃ mlo, m1 + s0 = mlo := ⟨_, rfl⟩
      rw [hm1, hmlo] at hlo3
      have hor : bits .or .u64 (m1 : Int) (s0 : Int) = (mlo : Int) := by
        rw [u64_or_nat _ _ (by omega) (by omega), nat_join 32 m1 s0 (by rw [← hm1]; exact Nat.mul_mod_left _ _) b0, hmlo]
      obtain ⟨s, hss⟩ : ∃ s, (low + mlo) % 18446744073709551616 = s := ⟨_, rfl⟩
      obtain ⟨up, hup⟩ : ∃ up, (low + mlo) / 18446744073709551616 = up := ⟨_, rfl⟩
      obtain ⟨h, hh⟩ : ∃ h, high + (c2 + up) = h := ⟨_, rfl⟩
      obtain ⟨r1, r2, r3, r4, r5, r6, r7⟩ := carry_math T S low high mlo c2 s up h HO.out.tb hSb HT.out.1 HT.out.2 hlo3 hhi3 hss hup hh
      obtain ⟨z, hz⟩ : ∃ z, (T + S) % 4294967296 = z := ⟨_, rfl⟩
      obtain ⟨T', hT'⟩ : ∃ T', (T + S) / 4294967296 = T' := ⟨_, rfl⟩
      have hst := Lib.hid (HO.out.step (by omega) (by rw [HN.out]; exact hlt) S hS hSb z T' hz hT')
      rw [hz] at r1
      rw [hT'] at r2 r3
      obtain ⟨low', hlow'⟩ : ∃ low', T' % 18446744073709551616 = low' := ⟨_, rfl⟩
      obtain ⟨high', hhigh'⟩ : ∃ high', T' / 18446744073709551616 = high' := ⟨_, rfl⟩
      rw [hlow'] at r2
      rw [hhigh'] at r3
      have HT2 : Hid (T' % 18446744073709551616 = low' ∧ T' / 18446744073709551616 = high') := ⟨hlow', hhigh'⟩
      obtain ⟨sq, hsq⟩ : ∃ sq, s / 4294967296 = sq := ⟨_, rfl⟩
      obtain ⟨hh2, hhh⟩ : ∃ hh2, 4294967296 * (h % 4294967296) = hh2 := ⟨_, rfl⟩
      rw [hsq, hhh] at r2
      have hsb : s < 18446744073709551616 := by rw [← hss]; exact Nat.mod_lt _ (by decide)
      have hsqb : sq < 4294967296 := by omega
      have hhb : hh2 < 18446744073709551616 := by omega
      have hor2 : bits .or .u64 (sq : Int) (hh2 : Int) = (low' : Int) := by
        rw [u64_or_nat _ _ (by omega) hhb, Nat.or_comm, nat_join 32 hh2 sq (by rw [← hhh]; exact Nat.mul_mod_right _ _) hsqb, ← r2]
        congr 1; omega
      have hadd : ∀ w, (callFunc 110 #[.int .u64 (low : Nat), .int .u64 (mlo : Nat), .int .u64 0]).run Tryz.prog w = .ok (.value (.tuple #[.int .u64 (s : Nat), .int .u64 (up : Nat)])) w := run_addc low mlo 0 s up (Nat.zero_le _) hss hup
      have f1 : (s1 : Int) * 4294967296 = (m1 : Int) := by omega
      have f2 : IntKind.u64.wrap (m1 : Int) = (m1 : Int) := by rw [IntKind.wrap_u64]; omega
      have f2' : (m1 : Int) % 18446744073709551616 = (m1 : Int) := by omega
      have f3 : IntKind.u64.wrap (s0 : Int) = (s0 : Int) := by rw [IntKind.wrap_u64]; omega
      have f4 : IntKind.u64.wrap (s1 : Int) = (s1 : Int) := by rw [IntKind.wrap_u64]; omega
      have f5 : IntKind.u64.wrap (c2 : Int) = (c2 : Int) := by rw [IntKind.wrap_u64]; omega
      have f6 : IntKind.u64.wrap ((c2 : Int) + (up : Int)) = (c2 : Int) + (up : Int) := by rw [IntKind.wrap_u64]; omega
      have f7 : (high : Int) + ((c2 : Int) + (up : Int)) = (h : Int) := by omega
      have f8 : IntKind.u64.wrap (h : Int) = (h : Int) := by rw [IntKind.wrap_u64]; omega
      have f9 : IntKind.u32.wrap (s : Int) = (z : Int) := by rw [IntKind.wrap_u32]; omega
      have f9' : (s : Int) % 4294967296 = (z : Int) := by omega
      have f10 : (s : Int) / 4294967296 = (sq : Int) := by omega
      have f11 : IntKind.u64.wrap ((h : Int) * 4294967296) = (hh2 : Int) := by rw [IntKind.wrap_u64]; omega
      have f11' : ((h : Int) * 4294967296) % 18446744073709551616 = (hh2 : Int) := by omega
      have f12 : (h : Int) / 4294967296 = (high' : Int) := by omega
      have hlow1 : low < 18446744073709551616 := by have := HT.out.1; omega
      have hf := hown.frozen' k
      have hcz := hown.rd.2 k (by rw [HO.out.len]; omega)
      have hcz0 : lb o k = 0 := HO.out.out k (Nat.le_refl _)
      have hown2 := hown.set' k z
      have hE2 := hE.setCell (p := ⟨B, k, none⟩) (by rw [hB]; exact Nat.le_refl _) (.int .u32 (z : Nat))
      replace k0 := (hE.cell (p := ad.add (k * 3)) (by rw [addr_add_block]; exact hb)).trans k0
      replace k1 := (hE.cell (p := ⟨(ad.add (k * 3)).block, (ad.add (k * 3)).off + 1, none⟩) (by rw [addr_add_block]; exact hb)).trans k1
      replace k2 := (hE.cell (p := ⟨(ad.add (k * 3)).block, (ad.add (k * 3)).off + 2, none⟩) (by rw [addr_add_block]; exact hb)).trans k2
      have hkb : (k : Int) < (n : Int) := by omega
      have hk0 : (0 : Int) ≤ (k : Int) := by omega
      have hkm : (k : Int) < (m : Int) := by omega
      clear hcell hS hs0 hs1 hs2 hlo3 hhi3 hm1 hmlo hss hup hh r1 r2 r3 hz hT' hlow' hhigh' hsq hhh hown hE HO HT hcz0
      go_wp2
      go_region
      go_wp2
      go_roundw
      case rel => exact ⟨k + 1, _, T', low', high', by omega, by go_num, rfl, rfl, HT2, hst, hown2.drew, hE2.drew⟩
      case measure => simp [intOf]; omega
    · obtain rfl : k = n := by omega
      have hTb := HO.out.tb
      have hlow := HT.out.1
      have hhigh := HT.out.2
      obtain ⟨t0, ht0⟩ : ∃ t0, low % 4294967296 = t0 := ⟨_, rfl⟩
      obtain ⟨t1, ht1⟩ : ∃ t1, low / 4294967296 = t1 := ⟨_, rfl⟩
      have hl64 : low < 18446744073709551616 := by omega
      have hh2 : high < 4294967296 := by omega
      have p1 : IntKind.u32.wrap (low : Int) = (t0 : Int) := by rw [IntKind.wrap_u32]; omega
      have p1' : (low : Int) % 4294967296 = (t0 : Int) := by omega
      have p2 : (low : Int) / 4294967296 = (t1 : Int) := by omega
      have ht1b : t1 < 4294967296 := by omega
      have ht0b : t0 < 4294967296 := by omega
      have p3 : IntKind.u32.wrap (t1 : Int) = (t1 : Int) := by rw [IntKind.wrap_u32]; omega
      have p4 : IntKind.u32.wrap (high : Int) = (high : Int) := by rw [IntKind.wrap_u32]; omega
      have p3' : (t1 : Int) % 4294967296 = (t1 : Int) := by omega
      have p4' : (high : Int) % 4294967296 = (high : Int) := by omega
      have hTv : Hid (T = t0 + LB * (t1 + LB * high)) := by unfold LB; rw [Hid]; omega
      have q1 : k < m := by omega
      have q2 : (k : Int) < (m : Int) := by omega
      have q3 : m - k = 3 := by omega
      have q4 : ¬ (m = k) := by omega
      have hcv := HO.out.val
      rw [HT2.out] at hcv
      have hu3 : U (wr.alloc (.cells #[.int .u32 (t0 : Nat), .int .u32 (t1 : Nat), .int .u32 (high : Nat)] 46)) (.slice (some ⟨wr.heap.size, 0, none⟩) 3 3) [t0, t1, high] := U_lit wr [t0, t1, high] (by simp; exact ⟨ht0b, ht1b, hh2⟩) (by simp)
      have hownA := hown.alloc (.cells #[.int .u32 (t0 : Nat), .int .u32 (t1 : Nat), .int .u32 (high : Nat)] 46)
      have hEA := hE.alloc (.cells #[.int .u32 (t0 : Nat), .int .u32 (t1 : Nat), .int .u32 (high : Nat)] 46)
      have hsp := val_splice o [t0, t1, high] k (by rw [HO.out.len]; simp; omega) (fun j hj _ => HO.out.out j hj)
      have hsl := splice_lenL o [t0, t1, high] k (by rw [HO.out.len]; simp; omega)
      have hslt := splice_ltL o [t0, t1, high] k HO.out.lt hu3.lim
      have HV : Hid (val (splice o k [t0, t1, high]) = cval cs) := by
        rw [Hid, hsp, ← hcv, hTv.out]
        simp [val, LB]
      have HSL : Hid ((splice o k [t0, t1, high]).length = m) := by rw [Hid, hsl]; exact HO.out.len
      clear hsp hsl hcv hlow hhigh HT HO hTb hown hE ht0 ht1
      go_wp2_with (first
        | (with_reducible show wpList _ _ _ (⟨some 72, _, _, _, _, _⟩ :: _) _ _; refine Classical.byContradiction fun hcontra => ?_)
        | fail)
      refine hcontra ?_
      refine wpList_copyL (o := ⟨some 72, _, _, _, _, _⟩) rfl (.tmp 63) (.tmp 71) rfl B k 3 3 (some ⟨wr.heap.size, 0, none⟩) 3 3 rfl rfl B m m o hownA [t0, t1, high] hu3 (by omega) (by omega) ?_
      intro w2 hown2 hb2
      clear hcontra
      have hE2 := Ext.but hEA hb2 (by rw [HBS.out]; exact Nat.le_refl _)
      have hu := hown2.toU hslt (by rw [HSL.out]; omega)
      clear hown2 hownA hu3 hb2 hEA hslt
      go_wp2_with (fail)
      refine (trim32_calls _ _ _ hu).mono ?_
      rintro e w3 ⟨⟨u, rfl, hu2⟩, rfl⟩
      rw [HV.out] at hu2
      have HF : Hid (∃ u', Ending.returned u = .returned u' ∧ Un w2 u' (cval cs)) := ⟨_, rfl, hu2⟩
      clear hu2 hu
      go_wp2
      go_ret
      exact ⟨HF.out, hE2⟩
end Go.Proofs.YtigdflfhepelaaaGreatDoor
/- Sums of products, carried, are the product; the last bit taken away. -/
namespace Go.Proofs.YtigdflfhepelaaaGreatDoor
open Go.RowKit
set_option linter.unusedVariables false
set_option maxHeartbeats 400000

theorem cval_nsum (cs : List Nat) : cval cs = nsum cs.length (fun k => LB ^ k * lb cs k) := by
  have h : ∀ n, n ≤ cs.length → cval (cs.take n) = nsum n (fun k => LB ^ k * lb cs k) := by
    intro n
    induction n with
    | zero => intro _; simp [cval, nsum]
    | succ n ih => intro hn; rw [cval_take_succ _ _ (by omega), ih (by omega), nsum]
  have := h cs.length (Nat.le_refl _)
  rwa [List.take_length] at this
theorem val_nsum (b : List Nat) (n : Nat) (hn : b.length ≤ n) : nsum n (fun j => LB ^ j * lb b j) = val b := by
  have h : ∀ n, n ≤ b.length → val (b.take n) = nsum n (fun k => LB ^ k * lb b k) := by
    intro n
    induction n with
    | zero => intro _; simp [val, nsum]
    | succ n ih => intro hn; rw [lval_take_succ _ _ (by omega), ih (by omega), nsum]
  induction n with
  | zero =>
    have := h 0 (Nat.zero_le _)
    rw [List.length_eq_zero_iff.1 (by omega : b.length = 0)]; rfl
  | succ n ih =>
    rcases Nat.lt_or_ge n b.length with hlt | hge
    · have e : b.length = n + 1 := by omega
      rw [← h (n + 1) (by omega), ← e, List.take_length]
    · rw [nsum, ih hge, lb_out hge, Nat.mul_zero, Nat.add_zero]
theorem nsum_shift (b : List Nat) (x i n : Nat) : nsum n (fun k => LB ^ k * (if i ≤ k then x * lb b (k - i) else 0)) = x * (LB ^ i * nsum (n - i) (fun j => LB ^ j * lb b j)) := by
  induction n with
  | zero => simp [nsum]
  | succ n ih =>
    rw [nsum, ih]
    by_cases h : i ≤ n
    · rw [if_pos h, show n + 1 - i = (n - i) + 1 by omega, nsum, Nat.mul_add, Nat.mul_add]
      congr 1
      have : LB ^ n = LB ^ i * LB ^ (n - i) := by rw [← Nat.pow_add]; congr 1; omega
      rw [this]
      grind
    · rw [if_neg h, show n + 1 - i = 0 by omega, show n - i = 0 by omega, Nat.mul_zero, Nat.add_zero]
theorem nsum_add (n : Nat) (f g : Nat → Nat) : nsum n (fun k => f k + g k) = nsum n f + nsum n g := by
  induction n with
  | zero => rfl
  | succ n ih => rw [nsum, nsum, nsum, ih]; omega
theorem nsum_cv (a b : List Nat) (n i : Nat) (hi : i ≤ a.length) (hn : a.length + b.length ≤ n + 1) : nsum n (fun k => LB ^ k * cv a b i k) = val (a.take i) * val b := by
  induction i with
  | zero =>
    have : ∀ m, nsum m (fun k => LB ^ k * cv a b 0 k) = 0 := fun m => by
      induction m with
      | zero => rfl
      | succ m ih => rw [nsum, ih]; simp [cv]
    rw [this]; simp [val]
  | succ i ih =>
    have e : (fun k => LB ^ k * cv a b (i + 1) k) = fun k => LB ^ k * cv a b i k + LB ^ k * (if i ≤ k then lb a i * lb b (k - i) else 0) := by
      funext k; rw [cv, Nat.mul_add]
    rw [e, nsum_add, ih (by omega), nsum_shift, val_nsum b _ (by omega), lval_take_succ _ _ (by omega), Nat.add_mul]
    congr 1
    rw [← Nat.mul_assoc, Nat.mul_comm (lb a i)]
theorem cval_cvs (a b : List Nat) : cval (cvs a b) = val a * val b := by
  by_cases h : a.length = 0 ∨ b.length = 0
  · rw [cvs_nil a b h]
    rcases h with h | h
    · rw [List.length_eq_zero_iff.1 h]; simp [val, cval]
    · rw [List.length_eq_zero_iff.1 h]; simp [val, cval]
  · rw [cvs_pos a b (by omega) (by omega), cval_nsum, conv_len]
    have e := nsum_cv a b (a.length + b.length - 1) a.length (Nat.le_refl _) (by omega)
    rw [List.take_length] at e
    rw [← e]
    exact nsum_congr fun k hk => by rw [lb_conv _ _ _ hk]

theorem i64_andNot1 (v : Nat) (h : v < 9223372036854775808) : bits .andNot .i64 (v : Int) 1 = ((v - v % 2 : Nat) : Int) := by
  have hv : (BitVec.ofInt 64 (v : Int)).toNat = v := by rw [BitVec.toNat_ofInt]; omega
  have h1 : (BitVec.ofInt 64 (v : Int) &&& BitVec.ofInt 64 1) ||| (BitVec.ofInt 64 (v : Int) &&& ~~~ BitVec.ofInt 64 1) = BitVec.ofInt 64 (v : Int) := by
    ext i hi
    simp only [BitVec.getElem_or, BitVec.getElem_and, BitVec.getElem_not]
    cases (BitVec.ofInt 64 (v : Int))[i] <;> cases (BitVec.ofInt 64 1)[i] <;> rfl
  have h2 : (BitVec.ofInt 64 (v : Int) &&& BitVec.ofInt 64 1) &&& (BitVec.ofInt 64 (v : Int) &&& ~~~ BitVec.ofInt 64 1) = 0 := by
    ext i hi
    simp only [BitVec.getElem_and, BitVec.getElem_not, BitVec.ofNat_eq_ofNat, BitVec.getElem_zero]
    cases (BitVec.ofInt 64 (v : Int))[i] <;> cases (BitVec.ofInt 64 1)[i] <;> rfl
  have h3 := BitVec.add_eq_or_of_and_eq_zero _ _ h2
  rw [h1] at h3
  have h4 := congrArg BitVec.toNat h3
  rw [BitVec.toNat_add, hv] at h4
  have h5 : (BitVec.ofInt 64 (v : Int) &&& BitVec.ofInt 64 1).toNat = v % 2 := by
    have e1 : (BitVec.ofInt 64 1).toNat = 2 ^ 1 - 1 := by decide
    rw [BitVec.toNat_and, e1, Nat.and_two_pow_sub_one_eq_mod, hv]
  have h6 : (BitVec.ofInt 64 (v : Int) &&& ~~~ BitVec.ofInt 64 1).toNat ≤ v := by
    rw [BitVec.toNat_and, hv]; exact Nat.and_le_left
  rw [h5] at h4
  show IntKind.i64.wrap ((BitVec.ofInt 64 (v : Int) &&& ~~~ BitVec.ofInt 64 1).toNat : Nat) = _
  generalize (BitVec.ofInt 64 (v : Int) &&& ~~~ BitVec.ofInt 64 1).toNat = r at *
  rw [IntKind.wrap_i64]
  omega
end Go.Proofs.YtigdflfhepelaaaGreatDoor
