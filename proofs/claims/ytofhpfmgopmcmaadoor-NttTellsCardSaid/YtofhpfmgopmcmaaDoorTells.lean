/- Proved: the statement NttTells: whatever question and whatever rows: the primes, the roots, the transforms (or that there is none) and the sums of products are the document's. No condition. -/
import Derived.Test.YtofhpfmgopmcmaaDoorP5
namespace Go.Proofs.YtofhpfmgopmcmaaDoor
open Go.RowKit
set_option linter.unusedVariables false
set_option maxHeartbeats 400000

theorem keepA1 {x y : World} {B : Nat} {v0 v1 v2 v3 : Value} (h : B < x.heap.size ∧ x.cell? ⟨B, 0, none⟩ = some v0 ∧ x.cell? ⟨B, 1, none⟩ = some v1 ∧ x.cell? ⟨B, 2, none⟩ = some v2 ∧ x.cell? ⟨B, 3, none⟩ = some v3) (hB : Ext x y) :
    B < y.heap.size ∧ y.cell? ⟨B, 0, none⟩ = some v0 ∧ y.cell? ⟨B, 1, none⟩ = some v1 ∧ y.cell? ⟨B, 2, none⟩ = some v2 ∧ y.cell? ⟨B, 3, none⟩ = some v3 := by
  obtain ⟨h0, h1, h2, h3, h4⟩ := h
  have hc := fun o => hB.cell (p := ⟨B, o, none⟩) h0
  exact ⟨Nat.lt_of_lt_of_le h0 hB.size, by rw [hc]; exact h1, by rw [hc]; exact h2, by rw [hc]; exact h3, by rw [hc]; exact h4⟩

set_option maxRecDepth 100000 in
set_option maxHeartbeats 8000000 in
theorem NttTells_walk (w : World) (hg : Gl w) (I K : Int) (sl : Value) (bk : Bool) (xs : List Nat) (hI : (Lit.int .i64 I).wf = true) (hK : (Lit.int .i64 K).wf = true) (hu : U w sl xs) (va : Value) (xa : List Nat) (hua : U w va xa) (vb : Value) (xb : List Nat) (hub : U w vb xb) :
    Calls Tryd.prog 3 #[.agg #[.int .i64 I, .int .i64 K, sl, .bool bk], va, vb] w fun e w' => e = .returned (.bool true) ∧ Ext w w' := by
  obtain ⟨A, c, hsl, hc⟩ := hu.shape
  subst hsl
  obtain ⟨i, hi⟩ : ∃ i, ri I = i := ⟨_, rfl⟩
  obtain ⟨k, hk⟩ : ∃ k, rk K 6 = k := ⟨_, rfl⟩
  have hi3 : i < 3 := by rw [← hi]; exact ri_lt I
  have hk6 : k ≤ 6 := by rw [← hk]; exact rk_le K 6
  obtain ⟨a, ha⟩ : ∃ a, xa.take 40 = a := ⟨_, rfl⟩
  obtain ⟨b, hb⟩ : ∃ b, xb.take 40 = b := ⟨_, rfl⟩
  obtain ⟨l, hl⟩ : ∃ l, xs.take 70 = l := ⟨_, rfl⟩
  obtain ⟨m, hm⟩ : ∃ m, rowv (fd i).p k xs = m := ⟨_, rfl⟩
  obtain ⟨na, hna⟩ : ∃ na, a.length = na := ⟨_, rfl⟩
  obtain ⟨nb, hnb⟩ : ∃ nb, b.length = nb := ⟨_, rfl⟩
  obtain ⟨nl, hnl⟩ : ∃ nl, l.length = nl := ⟨_, rfl⟩
  obtain ⟨nm, hnm⟩ : ∃ nm, m.length = nm := ⟨_, rfl⟩
  have hla : na ≤ 40 := by rw [← hna, ← ha, List.length_take]; exact Nat.min_le_left _ _
  have hlb : nb ≤ 40 := by rw [← hnb, ← hb, List.length_take]; exact Nat.min_le_left _ _
  have hll : nl ≤ 70 := by rw [← hnl, ← hl, List.length_take]; exact Nat.min_le_left _ _
  have hlm : nm ≤ 64 := by rw [← hnm, ← hm, rowv_len]; exact Nat.pow_le_pow_right (n := 2) (by decide) hk6
  obtain ⟨cs, hcs⟩ : ∃ cs, cvs a b = cs := ⟨_, rfl⟩
  obtain ⟨nc, hnc⟩ : ∃ nc, cs.length = nc := ⟨_, rfl⟩
  have hxa : ∀ x ∈ a, x < 4294967296 := fun x h => hua.lim x (by rw [← ha] at h; exact List.mem_of_mem_take h)
  have hxb : ∀ x ∈ b, x < 4294967296 := fun x h => hub.lim x (by rw [← hb] at h; exact List.mem_of_mem_take h)
  have hcl := cvs_lt a b hxa hxb (by omega)
  rw [hcs] at hcl
  obtain ⟨p, hP1, hP2⟩ := prime_any I
  obtain ⟨r, hR1, hR2⟩ := root_any I K
  obtain ⟨o1, e1, hT1, hT2⟩ := trans_any I l (by omega) bk
  obtain ⟨o2, e2, hT3, hT4⟩ := trans_any (i : Int) m (by omega) bk
  obtain ⟨n1, hn1⟩ : ∃ n1, o1.length = n1 := ⟨_, rfl⟩
  obtain ⟨n2, hn2⟩ : ∃ n2, o2.length = n2 := ⟨_, rfl⟩
  rw [hn1] at hT1 hT2
  rw [hn2] at hT3 hT4
  have HLa := Lib.hid (fun W h => limbs_L 40 (by decide) W va xa a na ha hna h)
  have HLb := Lib.hid (fun W h => limbs_L 40 (by decide) W vb xb b nb hb hnb h)
  have HLl := Lib.hid (fun W v h => limbs_L 70 (by decide) W v xs l nl hl hnl h)
  have HRw := Lib.hid (fun W v h => rrow_N W i k nm hi3 (by omega) v xs h m hm hnm)
  have HC1 := Lib.hid (fun W hg A A2 ca cb h1 h2 => conv_N W hg A A2 na nb ca cb a b cs nc h1 h2 (by omega) (by omega) hcs hnc)
  have HC2 := Lib.hid (fun W A A2 ca cb h1 h2 => rconv_N W A A2 na nb ca cb a b cs nc h1 h2 (by omega) (by omega) hcs hnc)
  have HSm := Lib.hid (fun W zz z1 h1 h2 => sums_B W zz z1 cs cs h1 h2 hcl hcl true (decide_eq_true rfl))
  have HP1 := Lib.hid hP1
  have HP2 := Lib.hid hP2
  have HR1 := Lib.hid hR1
  have HR2 := Lib.hid hR2
  have HT1 := Lib.hid hT1
  have HT2 := Lib.hid hT2
  have HT3 := Lib.hid hT3
  have HT4 := Lib.hid hT4
  have HS1 := Lib.hid (fun W v u h1 h2 => same_B W v u o1 o1 h1 h2 true (decide_eq_true rfl))
  have HS2 := Lib.hid (fun W v u h1 h2 => same_B W v u o2 o2 h1 h2 true (decide_eq_true rfl))
  have hI1 : 0 ≤ I % 256 ∧ I % 256 < 256 := by omega
  have hK1 : 0 ≤ K % 256 ∧ K % 256 < 256 := by omega
  have hri : (I % 256) % 3 = ((i : Nat) : Int) := by rw [← hi]; unfold ri; omega
  have hrk : (K % 256) % 7 = ((k : Nat) : Int) := by rw [← hk]; unfold rk; omega
  have hrt : (I % 256).tmod 3 = ((i : Nat) : Int) := by rw [Int.tmod_eq_emod_of_nonneg (by omega)]; exact hri
  have hkt : (K % 256).tmod 7 = ((k : Nat) : Int) := by rw [Int.tmod_eq_emod_of_nonneg (by omega)]; exact hrk
  have hia := i64_and255 I
  have hka := i64_and255 K
  have hpp : ((p : Int) != (p : Int)) = false := by simp
  have hrr : ((r : Int) != (r : Int)) = false := by simp
  have hE0 := (Ext.refl w).alloc (.cells #[.int .i64 I, .int .i64 K, .slice A xs.length c, .bool bk] 24)
  have HX := Ax.new w I K A xs.length c bk
  have HB := hE0
  replace hu := hu.below hE0
  replace hg := hg.ext hE0
  replace hua := hua.below hE0
  replace hub := hub.below hE0
  clear hi hk hE0 ha hb hl hm hna hnb hnl hnm hcs hnc hxa hxb hcl hP1 hP2 hR1 hR2 hT1 hT2 hT3 hT4 hn1 hn2 hI hK
  generalize xs.length = L at *
  obtain ⟨x, hx⟩ : ∃ x, I % 256 = x := ⟨_, rfl⟩
  obtain ⟨y, hy⟩ : ∃ y, K % 256 = y := ⟨_, rfl⟩
  rw [hx] at hI1 hri hia hrt
  rw [hy] at hK1 hrk hkt hka
  have hyw : IntKind.i64.wrap y = y := IntWalk.i64_in _ (by omega)
  have hxw : IntKind.i64.wrap x = x := IntWalk.i64_in _ (by omega)
  have hkw : IntKind.i64.wrap (k : Int) = (k : Int) := IntWalk.i64_in _ (by omega)
  have hiw : IntKind.i64.wrap (i : Int) = (i : Int) := IntWalk.i64_in _ (by omega)
  clear hx hy
  go_enter Tryd.func3, Tryd.ntmps3
  go_wp2_with (fail)
  refine (head_calls _ hg).mono ?_
  rintro e w1 ⟨rfl, hB⟩
  replace HB := HB.below hB
  replace hg := hg.ext hB
  replace hua := hua.below hB
  replace hub := hub.below hB
  replace hu := hu.below hB
  replace HX := HX.ext hB
  clear hB
  go_wp2_with (fail)
  refine (HLa.out _ hua).mono ?_
  rintro e w2 ⟨A1, c1, rfl, hu1, hB⟩
  replace HB := HB.below hB
  replace hg := hg.ext hB
  replace hub := hub.below hB
  replace hu := hu.below hB
  replace HX := HX.ext hB
  clear hB hua
  go_wp2_with (fail)
  refine (HLb.out _ hub).mono ?_
  rintro e w3 ⟨A2, c2, rfl, hu2, hB⟩
  replace HB := HB.below hB
  replace hg := hg.ext hB
  replace hu1 := hu1.below hB
  replace hu := hu.below hB
  replace HX := HX.ext hB
  clear hB hub
  have HX0 := Lib.hid HX
  have HU0 := Lib.hid hu
  have HBB := Lib.hid HB
  have hgD : Gl w3.drew := hg.ext (drawn (Ext.refl _))
  have huD1 : U w3.drew (.slice A1 na c1) a := hu1
  have huD2 : U w3.drew (.slice A2 nb c2) b := hu2
  obtain ⟨b0, b1, b2, b3, b4⟩ := id HX
  have hS0 : w.heap.size < w3.drew.heap.size ∧ w3.drew.cell? ⟨w.heap.size, 0, none⟩ = some (.int .i64 I) ∧ w3.drew.cell? ⟨w.heap.size, 1, none⟩ = some (.int .i64 K) ∧ w3.drew.cell? ⟨w.heap.size, 2, none⟩ = some (.slice A L c) ∧ w3.drew.cell? ⟨w.heap.size, 3, none⟩ = some (.bool bk) := ⟨b0, b1, b2, b3, b4⟩
  clear b0 b1 b2 b3 b4 HX hu HB hg hu1 hu2 HLa HLb
  go_wp2_with (fail)
  go_region_held3 (fun X => w.heap.size < X.heap.size ∧ X.cell? ⟨w.heap.size, 0, none⟩ = some (.int .i64 I) ∧ X.cell? ⟨w.heap.size, 1, none⟩ = some (.int .i64 K) ∧ X.cell? ⟨w.heap.size, 2, none⟩ = some (.slice A L c) ∧ X.cell? ⟨w.heap.size, 3, none⟩ = some (.bool bk))
    (first
      | exact hS0
      | assumption
      | exact keepA1 (by assumption) (by assumption))
    (first
      | (go_at_call 14; ((with_reducible refine (HP1.out _ hgD).mono ?_); rintro e w4 ⟨rfl, hB4⟩; have hg4 := hgD.ext hB4; have hp4 := huD1.below hB4; have hq4 := huD2.below hB4))
      | (go_at_call 15; ((with_reducible refine (HP2.out _).mono ?_); rintro e w5 ⟨rfl, hB5⟩; have hg5 := hg4.ext hB5; have hp5 := hp4.below hB5; have hq5 := hq4.below hB5))
      | (go_at_call 16; ((with_reducible refine (HR1.out _ hg5).mono ?_); rintro e w6 ⟨rfl, hB6⟩; have hg6 := hg5.ext hB6; have hp6 := hp5.below hB6; have hq6 := hq5.below hB6))
      | (go_at_call 17; ((with_reducible refine (HR2.out _).mono ?_); rintro e w7 ⟨rfl, hB7⟩; have hg7 := hg6.ext hB7; have hp7 := hp6.below hB7; have hq7 := hq6.below hB7))
      | (go_at_call 19; ((with_reducible refine (HC1.out _ hg7 _ _ _ _ hp7 hq7).mono ?_); rintro e w8 ⟨A3, c3, rfl, hz8, hB8⟩; have hg8 := hg7.ext hB8; have hp8 := hp7.below hB8; have hq8 := hq7.below hB8))
      | (go_at_call 20; ((with_reducible refine (HC2.out _ _ _ _ _ hp8 hq8).mono ?_); rintro e w9 ⟨A4, c4, rfl, hy9, hB9⟩; have hg9 := hg8.ext hB9; have hz9 := hz8.below hB9))
      | (go_at_call 18; ((with_reducible refine (HSm.out _ _ _ hz9 hy9).mono ?_); rintro e w10 ⟨rfl, hB10⟩)))
  have hE10 : Ext w3 w10 := ((((((drawn hB4).below hB5).below hB6).below hB7).below hB8).below hB9).below hB10
  have hg := hg9.ext hB10
  have HB := HBB.out.below hE10
  have hu := HU0.out.below hE10
  have HX := HX0.out.ext hE10
  clear hB4 hB5 hB6 hB7 hB8 hB9 hB10 hE10 hg4 hg5 hg6 hg7 hg8 hg9 hp4 hp5 hp6 hp7 hp8 hq4 hq5 hq6 hq7 hq8 hz8 hz9 hy9 hS0 HX0 HU0 HBB hgD huD1 huD2
  obtain ⟨b0, b1, b2, b3, b4⟩ := id HX
  go_wp2_with (fail)
  refine (HLl.out _ _ hu).mono ?_
  rintro e w11 ⟨A5, c5, rfl, hl1, hB⟩
  replace HB := HB.below hB
  replace hg := hg.ext hB
  replace hu := hu.below hB
  replace HX := HX.ext hB
  clear hB b0 b1 b2 b3 b4
  obtain ⟨b0, b1, b2, b3, b4⟩ := id HX
  go_wp2_with (fail)
  refine (HT1.out _ _ hg hl1).mono ?_
  rintro e w12 ⟨A6, c6, rfl, ho1, hB⟩
  replace HB := HB.below hB
  replace hg := hg.ext hB
  replace hu := hu.below hB
  replace hl1 := hl1.below hB
  replace HX := HX.ext hB
  clear hB b0 b1 b2 b3 b4
  obtain ⟨b0, b1, b2, b3, b4⟩ := id HX
  go_wp2_with (fail)
  refine (HT2.out _ _ hl1).mono ?_
  rintro e w13 ⟨A7, c7, rfl, ho2, hB⟩
  replace HB := HB.below hB
  replace hg := hg.ext hB
  replace hu := hu.below hB
  replace ho1 := ho1.below hB
  replace HX := HX.ext hB
  clear hB b0 b1 b2 b3 b4 hl1
  obtain ⟨b0, b1, b2, b3, b4⟩ := id HX
  go_wp2_with (fail)
  refine (HRw.out _ _ hu).mono ?_
  rintro e w14 ⟨A8, c8, rfl, hm1, hB⟩
  replace HB := HB.below hB
  replace hg := hg.ext hB
  replace ho1 := ho1.below hB
  replace ho2 := ho2.below hB
  replace HX := HX.ext hB
  clear hB b0 b1 b2 b3 b4 hu
  obtain ⟨b0, b1, b2, b3, b4⟩ := id HX
  go_wp2_with (fail)
  refine (HT3.out _ _ hg hm1).mono ?_
  rintro e w15 ⟨A9, c9, rfl, ho3, hB⟩
  replace HB := HB.below hB
  replace ho1 := ho1.below hB
  replace ho2 := ho2.below hB
  replace hm1 := hm1.below hB
  replace HX := HX.ext hB
  clear hB b0 b1 b2 b3 b4 hg
  obtain ⟨b0, b1, b2, b3, b4⟩ := id HX
  go_wp2_with (fail)
  refine (HT4.out _ _ hm1).mono ?_
  rintro e w16 ⟨A10, c10, rfl, ho4, hB⟩
  replace HB := HB.below hB
  replace ho1 := ho1.below hB
  replace ho2 := ho2.below hB
  replace ho3 := ho3.below hB
  clear hB b0 b1 b2 b3 b4 HX hm1
  go_wp2_with (fail)
  refine (HS1.out _ _ _ ho1 ho2).mono ?_
  rintro e w17 ⟨rfl, hB⟩
  replace HB := HB.below hB
  replace ho3 := ho3.below hB
  replace ho4 := ho4.below hB
  clear hB ho1 ho2
  go_wp2_with (fail)
  refine (HS2.out _ _ _ ho3 ho4).mono ?_
  rintro e w18 ⟨rfl, hB⟩
  replace HB := HB.below hB
  clear hB ho3 ho4
  go_wp2
  go_ret
  exact ⟨rfl, HB⟩
end Go.Proofs.YtofhpfmgopmcmaaDoor
