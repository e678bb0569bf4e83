/- Sums of products of two rows that are both long. -/
import Derived.Test.YtofhpfmgopmcmaaDoorM5
namespace Go.Proofs.YtofhpfmgopmcmaaDoor
open Go.RowKit
set_option linter.unusedVariables false
set_option maxHeartbeats 400000

theorem keepG {x y : World} {f g h : Fd} (hS : (0 < x.heap.size ∧ x.cell? ⟨0, 0, none⟩ = some (.int .u32 (f.p : Int)) ∧ x.cell? ⟨0, 1, none⟩ = some (.int .u32 (f.root : Int)) ∧ x.cell? ⟨0, 2, none⟩ = some (.int .u32 (f.neg : Int)) ∧ x.cell? ⟨0, 3, none⟩ = some (.int .u32 (f.square : Int)) ∧ x.cell? ⟨0, 4, none⟩ = some (.int .u32 (f.ahead : Int)) ∧ x.cell? ⟨0, 5, none⟩ = some (.int .u32 (g.p : Int)) ∧ x.cell? ⟨0, 6, none⟩ = some (.int .u32 (g.root : Int)) ∧ x.cell? ⟨0, 7, none⟩ = some (.int .u32 (g.neg : Int)) ∧ x.cell? ⟨0, 8, none⟩ = some (.int .u32 (g.square : Int)) ∧ x.cell? ⟨0, 9, none⟩ = some (.int .u32 (g.ahead : Int)) ∧ x.cell? ⟨0, 10, none⟩ = some (.int .u32 (h.p : Int)) ∧ x.cell? ⟨0, 11, none⟩ = some (.int .u32 (h.root : Int)) ∧ x.cell? ⟨0, 12, none⟩ = some (.int .u32 (h.neg : Int)) ∧ x.cell? ⟨0, 13, none⟩ = some (.int .u32 (h.square : Int)) ∧ x.cell? ⟨0, 14, none⟩ = some (.int .u32 (h.ahead : Int)))) (hB : Ext x y) : (0 < y.heap.size ∧ y.cell? ⟨0, 0, none⟩ = some (.int .u32 (f.p : Int)) ∧ y.cell? ⟨0, 1, none⟩ = some (.int .u32 (f.root : Int)) ∧ y.cell? ⟨0, 2, none⟩ = some (.int .u32 (f.neg : Int)) ∧ y.cell? ⟨0, 3, none⟩ = some (.int .u32 (f.square : Int)) ∧ y.cell? ⟨0, 4, none⟩ = some (.int .u32 (f.ahead : Int)) ∧ y.cell? ⟨0, 5, none⟩ = some (.int .u32 (g.p : Int)) ∧ y.cell? ⟨0, 6, none⟩ = some (.int .u32 (g.root : Int)) ∧ y.cell? ⟨0, 7, none⟩ = some (.int .u32 (g.neg : Int)) ∧ y.cell? ⟨0, 8, none⟩ = some (.int .u32 (g.square : Int)) ∧ y.cell? ⟨0, 9, none⟩ = some (.int .u32 (g.ahead : Int)) ∧ y.cell? ⟨0, 10, none⟩ = some (.int .u32 (h.p : Int)) ∧ y.cell? ⟨0, 11, none⟩ = some (.int .u32 (h.root : Int)) ∧ y.cell? ⟨0, 12, none⟩ = some (.int .u32 (h.neg : Int)) ∧ y.cell? ⟨0, 13, none⟩ = some (.int .u32 (h.square : Int)) ∧ y.cell? ⟨0, 14, none⟩ = some (.int .u32 (h.ahead : Int))) := by
  obtain ⟨h0, a0, a1, a2, a3, a4, b0, b1, b2, b3, b4, c0, c1, c2, c3, c4⟩ := hS
  have hs := hB.size
  have hc := fun o => hB.cell (p := ⟨0, o, none⟩) h0
  exact ⟨by omega, (hc _).trans a0, (hc _).trans a1, (hc _).trans a2, (hc _).trans a3, (hc _).trans a4, (hc _).trans b0, (hc _).trans b1, (hc _).trans b2, (hc _).trans b3, (hc _).trans b4, (hc _).trans c0, (hc _).trans c1, (hc _).trans c2, (hc _).trans c3, (hc _).trans c4⟩

theorem keep3 {x y : World} {p q r : Addr} {u v s : Value} (h : x.cell? p = some u ∧ x.cell? q = some v ∧ x.cell? r = some s) (hB : Ext x y) : y.cell? p = some u ∧ y.cell? q = some v ∧ y.cell? r = some s :=
  ⟨kept_cell hB h.1, kept_cell hB h.2.1, kept_cell hB h.2.2⟩
theorem keep3S {x : World} {p q r : Addr} {u v s : Value} {g o1 o2 o3 : Nat} {v1 v2 v3 : Value} (h : x.cell? p = some u ∧ x.cell? q = some v ∧ x.cell? r = some s) (hp : p.block ≠ g) (hq : q.block ≠ g) (hr : r.block ≠ g) :
    (((x.setCell ⟨g, o1, none⟩ v1).setCell ⟨g, o2, none⟩ v2).setCell ⟨g, o3, none⟩ v3).cell? p = some u ∧ (((x.setCell ⟨g, o1, none⟩ v1).setCell ⟨g, o2, none⟩ v2).setCell ⟨g, o3, none⟩ v3).cell? q = some v ∧ (((x.setCell ⟨g, o1, none⟩ v1).setCell ⟨g, o2, none⟩ v2).setCell ⟨g, o3, none⟩ v3).cell? r = some s := by
  have k := (((But.refl g x).setCell o1 v1).setCell o2 v2).setCell o3 v3
  exact ⟨(k.cell (World.block_lt_of_cell? x _ h.1) hp).trans h.1, (k.cell (World.block_lt_of_cell? x _ h.2.1) hq).trans h.2.1, (k.cell (World.block_lt_of_cell? x _ h.2.2) hr).trans h.2.2⟩
/-- What the rests tell. -/
theorem rest_at {f : Fd} (N r : Nat) (hr : r < f.p) (h : Eqm (f.p : Int) (r : Int) (N : Int)) : N % f.p = r := by
  have := h.nat_eq
  rw [Nat.mod_eq_of_lt hr] at this
  exact this.symm

set_option maxRecDepth 100000 in
set_option maxHeartbeats 8000000 in
theorem conv_big (w : World) (hg : Gl w) (v u : Value) (a b : List Nat) (hua : U w v a) (hub : U w u b) (hal : a.length ≤ 30000) (hbl : b.length ≤ 30000) (hs : 24 < min a.length b.length) :
    Calls Tryd.prog 19 #[v, u] w fun e w' => (∃ z, e = .returned z ∧ U3 w' z (cvs a b)) ∧ Ext w w' := by
  have ha0 : 0 < a.length := by omega
  have hb0 : 0 < b.length := by omega
  rw [cvs_pos a b ha0 hb0]
  obtain ⟨hw0, ⟨a0, a1, a2, a3, a4⟩, ⟨b0, b1, b2, b3, b4⟩, ⟨c0, c1, c2, c3, c4⟩⟩ := id hg
  obtain ⟨A, ca, rfl, _, hxa, _⟩ := id hua
  obtain ⟨A2, cb, rfl, _, hxb, _⟩ := id hub
  obtain ⟨n, hn⟩ : ∃ n, a.length + b.length - 1 = n := ⟨_, rfl⟩
  obtain ⟨k, hk⟩ : ∃ k, blen (n - 1) = k := ⟨_, rfl⟩
  have hk16 : k ≤ 16 := by rw [← hk]; exact blen_le_of_lt (by omega)
  obtain ⟨m, hm⟩ : ∃ m, 2 ^ k = m := ⟨_, rfl⟩
  have hnm : n ≤ m := by have := lt_pow_blen (n - 1); rw [hk, hm] at this; omega
  have hm1 : m ≤ 65536 := by rw [← hm]; exact Nat.pow_le_pow_right (by decide) hk16
  have hN : ∀ j, cv a b a.length j < F0.p * F1.p * F2.p := fun j => Nat.lt_of_le_of_lt (Nat.le_trans (cv_le a b hxa hxb a.length j) (Nat.mul_le_mul_right _ hal)) (by decide)
  have hR0 := Lib.hid (fun W h1 h2 => rests_calls W F0 F0_fld k m hm hk16 (.slice A a.length ca) (.slice A2 b.length cb) a b h1 h2 (by omega) (by omega) (by omega))
  have hR1 := Lib.hid (fun W h1 h2 => rests_calls W F1 F1_fld k m hm hk16 (.slice A a.length ca) (.slice A2 b.length cb) a b h1 h2 (by omega) (by omega) (by omega))
  have hR2 := Lib.hid (fun W h1 h2 => rests_calls W F2 F2_fld k m hm hk16 (.slice A a.length ca) (.slice A2 b.length cb) a b h1 h2 (by omega) (by omega) (by omega))
  have hJ := Lib.hid (fun W hg j x y z hx hy hz => join_calls W hg (cv a b a.length j) x y z hx hy hz (hN j))
  have HG := Lib.hid hg
  have hcl : (conv a b).length = n := by rw [conv_len, hn]
  have hca : Hid (∀ j, j < n → lb (conv a b) j = cv a b a.length j) := fun j hj => lb_conv a b j (by omega)
  have HCL := Lib.hid hcl
  have HU0 := Lib.hid hua
  have HU1 := Lib.hid hub
  have Fp0 : 1 < F0.p := by decide
  have Fp1 : 1 < F1.p := by decide
  have Fp2 : 1 < F2.p := by decide
  have HLn := Lib.hid (fun W => len_calls W (n - 1) (by omega))
  rw [hk] at HLn
  simp only [Nat.zero_add] at a0 a1 a2 a3 a4
  have hS0 : (0 < w.heap.size ∧ w.cell? ⟨0, 0, none⟩ = some (.int .u32 (F0.p : Int)) ∧ w.cell? ⟨0, 1, none⟩ = some (.int .u32 (F0.root : Int)) ∧ w.cell? ⟨0, 2, none⟩ = some (.int .u32 (F0.neg : Int)) ∧ w.cell? ⟨0, 3, none⟩ = some (.int .u32 (F0.square : Int)) ∧ w.cell? ⟨0, 4, none⟩ = some (.int .u32 (F0.ahead : Int)) ∧ w.cell? ⟨0, 5, none⟩ = some (.int .u32 (F1.p : Int)) ∧ w.cell? ⟨0, 6, none⟩ = some (.int .u32 (F1.root : Int)) ∧ w.cell? ⟨0, 7, none⟩ = some (.int .u32 (F1.neg : Int)) ∧ w.cell? ⟨0, 8, none⟩ = some (.int .u32 (F1.square : Int)) ∧ w.cell? ⟨0, 9, none⟩ = some (.int .u32 (F1.ahead : Int)) ∧ w.cell? ⟨0, 10, none⟩ = some (.int .u32 (F2.p : Int)) ∧ w.cell? ⟨0, 11, none⟩ = some (.int .u32 (F2.root : Int)) ∧ w.cell? ⟨0, 12, none⟩ = some (.int .u32 (F2.neg : Int)) ∧ w.cell? ⟨0, 13, none⟩ = some (.int .u32 (F2.square : Int)) ∧ w.cell? ⟨0, 14, none⟩ = some (.int .u32 (F2.ahead : Int))) := ⟨hw0, a0, a1, a2, a3, a4, b0, b1, b2, b3, b4, c0, c1, c2, c3, c4⟩
  clear a0 a1 a2 a3 a4 b0 b1 b2 b3 b4 c0 c1 c2 c3 c4 hcl hxa hxb hN hg hk hm
  generalize F0 = f at *
  generalize F1 = g at *
  generalize F2 = fc at *
  obtain ⟨na, hna⟩ : ∃ na, a.length = na := ⟨_, rfl⟩
  obtain ⟨nb, hnb⟩ : ∃ nb, b.length = nb := ⟨_, rfl⟩
  rw [hna] at hn hal hs ha0 HU0 hR0 hR1 hR2 hJ hca hua ⊢
  rw [hnb] at hn hbl hs hb0 HU1 hR0 hR1 hR2 hub ⊢
  clear hna hnb
  have hz : (((na : Nat) : Int) == 0) = false := by rw [beq_eq_false_iff_ne]; omega
  have hz2 : (((nb : Nat) : Int) == 0) = false := by rw [beq_eq_false_iff_ne]; omega
  obtain ⟨q, hq⟩ : ∃ q, min na nb = q := ⟨_, rfl⟩
  have hmi : min ((na : Nat) : Int) ((nb : Nat) : Int) = (q : Int) := by omega
  have hmd : decide ((q : Int) ≤ 24) = false := by rw [decide_eq_false_iff_not]; omega
  have hmd1 : decide ((na : Int) ≤ 24) = false := by rw [decide_eq_false_iff_not]; omega
  have hmd2 : decide ((nb : Int) ≤ 24) = false := by rw [decide_eq_false_iff_not]; omega
  have hif : (if nb < na then (nb : Int) else (na : Int)) = (q : Int) := by split <;> omega
  have hnn : (na : Int) + (nb : Int) - 1 = (n : Int) := by omega
  have hn1 : (n : Int) - 1 = ((n - 1 : Nat) : Int) := by omega
  have hnw : IntKind.u64.wrap ((n - 1 : Nat) : Int) = ((n - 1 : Nat) : Int) := by rw [IntKind.wrap_u64]; omega
  have hn30 : n ≤ 60000 := by omega
  have hn2 : 0 < n := by omega
  obtain ⟨n1, hn1n⟩ : ∃ n1, n - 1 = n1 := ⟨_, rfl⟩
  rw [hn1n] at hn1 hnw HLn
  clear hq hs hn hn1n
  go_enter Tryd.func19, Tryd.ntmps19
  go_wp2_with (fail)
  refine (HLn.out _).mono ?_
  rintro e w1 ⟨rfl, rfl⟩
  go_wp2_with (fail)
  have hS1 : (0 < w.drew.heap.size ∧ w.drew.cell? ⟨0, 0, none⟩ = some (.int .u32 (f.p : Int)) ∧ w.drew.cell? ⟨0, 1, none⟩ = some (.int .u32 (f.root : Int)) ∧ w.drew.cell? ⟨0, 2, none⟩ = some (.int .u32 (f.neg : Int)) ∧ w.drew.cell? ⟨0, 3, none⟩ = some (.int .u32 (f.square : Int)) ∧ w.drew.cell? ⟨0, 4, none⟩ = some (.int .u32 (f.ahead : Int)) ∧ w.drew.cell? ⟨0, 5, none⟩ = some (.int .u32 (g.p : Int)) ∧ w.drew.cell? ⟨0, 6, none⟩ = some (.int .u32 (g.root : Int)) ∧ w.drew.cell? ⟨0, 7, none⟩ = some (.int .u32 (g.neg : Int)) ∧ w.drew.cell? ⟨0, 8, none⟩ = some (.int .u32 (g.square : Int)) ∧ w.drew.cell? ⟨0, 9, none⟩ = some (.int .u32 (g.ahead : Int)) ∧ w.drew.cell? ⟨0, 10, none⟩ = some (.int .u32 (fc.p : Int)) ∧ w.drew.cell? ⟨0, 11, none⟩ = some (.int .u32 (fc.root : Int)) ∧ w.drew.cell? ⟨0, 12, none⟩ = some (.int .u32 (fc.neg : Int)) ∧ w.drew.cell? ⟨0, 13, none⟩ = some (.int .u32 (fc.square : Int)) ∧ w.drew.cell? ⟨0, 14, none⟩ = some (.int .u32 (fc.ahead : Int))) := hS0
  have hA0 : U w.drew (.slice A na ca) a := hua
  have hB0 : U w.drew (.slice A2 nb cb) b := hub
  go_region_held3 (fun X => (0 < X.heap.size ∧ X.cell? ⟨0, 0, none⟩ = some (.int .u32 (f.p : Int)) ∧ X.cell? ⟨0, 1, none⟩ = some (.int .u32 (f.root : Int)) ∧ X.cell? ⟨0, 2, none⟩ = some (.int .u32 (f.neg : Int)) ∧ X.cell? ⟨0, 3, none⟩ = some (.int .u32 (f.square : Int)) ∧ X.cell? ⟨0, 4, none⟩ = some (.int .u32 (f.ahead : Int)) ∧ X.cell? ⟨0, 5, none⟩ = some (.int .u32 (g.p : Int)) ∧ X.cell? ⟨0, 6, none⟩ = some (.int .u32 (g.root : Int)) ∧ X.cell? ⟨0, 7, none⟩ = some (.int .u32 (g.neg : Int)) ∧ X.cell? ⟨0, 8, none⟩ = some (.int .u32 (g.square : Int)) ∧ X.cell? ⟨0, 9, none⟩ = some (.int .u32 (g.ahead : Int)) ∧ X.cell? ⟨0, 10, none⟩ = some (.int .u32 (fc.p : Int)) ∧ X.cell? ⟨0, 11, none⟩ = some (.int .u32 (fc.root : Int)) ∧ X.cell? ⟨0, 12, none⟩ = some (.int .u32 (fc.neg : Int)) ∧ X.cell? ⟨0, 13, none⟩ = some (.int .u32 (fc.square : Int)) ∧ X.cell? ⟨0, 14, none⟩ = some (.int .u32 (fc.ahead : Int))))
    (first
      | exact hS1
      | assumption
      | exact keepG (by assumption) (by assumption))
    (first
      | (go_at_call 34; ((with_reducible refine (hR0.out _ hA0 hB0).mono ?_); rintro e w3 ⟨⟨u3, r3, rfl, hU3, hl3, hlt3, hm3⟩, hB3⟩; have hA3 := hA0.below hB3; have hB3' := hB0.below hB3))
      | (go_at_call 34; ((with_reducible refine (hR1.out _ hA3 hB3').mono ?_); rintro e w4 ⟨⟨u4, r4, rfl, hU4, hl4, hlt4, hm4⟩, hB4⟩; have hA4 := hA3.below hB4; have hB4' := hB3'.below hB4))
      | (go_at_call 34; ((with_reducible refine (hR2.out _ hA4 hB4').mono ?_); rintro e w5 ⟨⟨u5, r5, rfl, hU5, hl5, hlt5, hm5⟩, hB5⟩)))
  have hE5 : Ext w w5 := ((drawn hB3).below hB4).below hB5
  replace hU3 := (hU3.below hB4).below hB5
  replace hU4 := hU4.below hB5
  obtain ⟨ad3, c3, hv3, _, hb3, hc3⟩ := hU3.opened hl3 (by omega)
  obtain ⟨ad4, c4, hv4, _, hb4, hc4⟩ := hU4.opened hl4 (by omega)
  obtain ⟨ad5, c5, hv5, _, hb5, hc5⟩ := hU5.opened hl5 (by omega)
  subst hv3 hv4 hv5
  have H3 := Lib.hid (fun j (hj : j < m) => rest_at (f := f) (cv a b na j) (lb r3 j) (lb_lt_of (by omega) hlt3 _) (hm3 j hj))
  have H4 := Lib.hid (fun j (hj : j < m) => rest_at (f := g) (cv a b na j) (lb r4 j) (lb_lt_of (by omega) hlt4 _) (hm4 j hj))
  have H5 := Lib.hid (fun j (hj : j < m) => rest_at (f := fc) (cv a b na j) (lb r5 j) (lb_lt_of (by omega) hlt5 _) (hm5 j hj))
  obtain ⟨i0, hi, hz0, hz1, hz2⟩ := info_parts info3
  clear hS0 hS1 hA0 hB0 hA3 hB3' hA4 hB4' hB3 hB4 hB5 hU3 hU4 hU5 hm3 hm4 hm5 hlt3 hlt4 hlt5 hua hub hR0 hR1 hR2
  go_wp2_with (at_make; refine wpList_make_full _ rfl _ _ 31 rfl (w5.heap.size) 52 i0 (.agg #[.int .u32 0, .int .u32 0, .int .u32 0]) 3 Tryd.underlying31 hi hz0 hz1 _ _ _ _ n rfl rfl (by omega) (by omega) (by rw [hz2]; omega) (by unfold maxLen; omega) (Nat.le_refl _) ?_; intro w6 hown hgrow)
  have ho0 : Own3 w6 w5.heap.size (.slice (some ⟨w5.heap.size, 0, none⟩) n n) (List.replicate n 0) := by
    have := hown
    rw [madeCells3] at this
    unfold Own3
    rw [List.length_replicate]
    exact this
  have hB6 : Ext w5 w6 := (Ext.refl w5).grown hgrow (Nat.le_refl _) (fun _ h => by cases h)
  clear hown hgrow hi hz0 hz1 hz2 i0
  obtain ⟨B, hB⟩ : ∃ B, w5.heap.size = B := ⟨_, rfl⟩
  have HBB := Lib.hid hB
  rw [hB] at hb3 hb4 hb5 ho0 ⊢
  clear hB
  go_loopw [61] (fun t wr => ∃ (j : Nat) (o : List Nat), j ≤ n ∧ t = .int .i64 (j : Nat) ∧ Hid (o.length = n ∧ ∀ q, q < j → lb o q = cv a b na q) ∧ Own3 wr B (.slice (some ⟨B, 0, none⟩) n n) o ∧ Ext w5 wr) (fun t _ => n - (intOf t).toNat)
  case atStart => exact ⟨0, _, Nat.zero_le _, rfl, ⟨by simp, fun q hq => by omega⟩, ho0, hB6⟩
  case round =>
    clear ho0 hB6
    obtain ⟨j, o, hj, rfl, HO, hown, hE⟩ := hrel
    by_cases hlt : j < n
    · have hx1 := (hE.cell (p := ad3.add j) (by rw [addr_add_block, HBB.out]; exact hb3)).trans (hc3 j (by omega))
      have hx2 := (hE.cell (p := ad4.add j) (by rw [addr_add_block, HBB.out]; exact hb4)).trans (hc4 j (by omega))
      have hx3 := (hE.cell (p := ad5.add j) (by rw [addr_add_block, HBB.out]; exact hb5)).trans (hc5 j (by omega))
      have hGj : Gl wr.drew := HG.out.ext (hE5.below hE).drew
      have hJJ := hJ.out wr.drew hGj j _ _ _ (H3.out j (by omega)) (H4.out j (by omega)) (H5.out j (by omega))
      have HST : Hid ((o.set j (cv a b na j)).length = n ∧ ∀ q, q < j + 1 → lb (o.set j (cv a b na j)) q = cv a b na q) := by
        refine ⟨by rw [List.length_set]; exact HO.out.1, fun q hq => ?_⟩
        rw [lb_set _ _ _ _ (by rw [HO.out.1]; exact hlt)]
        by_cases e : j = q
        · rw [if_pos e, e]
        · rw [if_neg e]; exact HO.out.2 q (by omega)
      generalize lb r3 j = x at *
      generalize lb r4 j = y at *
      generalize lb r5 j = z at *
      obtain ⟨N, hN⟩ : ∃ N, cv a b na j = N := ⟨_, rfl⟩
      rw [hN] at hJJ HST
      obtain ⟨z0, hz0⟩ : ∃ z0, N % 4294967296 = z0 := ⟨_, rfl⟩
      obtain ⟨z1, hz1⟩ : ∃ z1, N / 4294967296 % 4294967296 = z1 := ⟨_, rfl⟩
      obtain ⟨z2, hz2⟩ : ∃ z2, N / 18446744073709551616 % 4294967296 = z2 := ⟨_, rfl⟩
      rw [hz0, hz1, hz2] at hJJ
      have hol := HO.out.1
      have hj0 : (0 : Int) ≤ (j : Int) := by omega
      have hj1 : (j : Int) < (n : Int) := by omega
      have hj2 : (j : Int) < (m : Int) := by omega
      have hSS : wr.drew.cell? (ad3.add j) = some (.int .u32 (x : Nat)) ∧ wr.drew.cell? (ad4.add j) = some (.int .u32 (y : Nat)) ∧ wr.drew.cell? (ad5.add j) = some (.int .u32 (z : Nat)) := ⟨hx1, hx2, hx3⟩
      have hn3 : (ad3.add j).block ≠ B := by rw [addr_add_block]; omega
      have hn4 : (ad4.add j).block ≠ B := by rw [addr_add_block]; omega
      have hn5 : (ad5.add j).block ≠ B := by rw [addr_add_block]; omega
      have hown' : Own3 wr.drew B (.slice (some ⟨B, 0, none⟩) n n) o := hown
      clear hc3 hc4 hc5 HO hN hx1 hx2 hx3
      go_wp2_with (fail)
      go_region_held3 (fun X => X.cell? (ad3.add j) = some (.int .u32 (x : Nat)) ∧ X.cell? (ad4.add j) = some (.int .u32 (y : Nat)) ∧ X.cell? (ad5.add j) = some (.int .u32 (z : Nat)))
        (first
          | exact hSS
          | assumption
          | exact keep3 (by assumption) (by assumption)
          | exact keep3S (keep3 hSS hB7) hn3 hn4 hn5)
        (first
          | (go_at_call 35; ((with_reducible refine hJJ.mono ?_); rintro e w7 ⟨rfl, hB7⟩; have ho7 := hown'.ext hB7; have k0 := ho7.cell (j := j * 3) (by omega); have k1 := ho7.cell (j := j * 3 + 1) (by omega); have k2 := ho7.cell (j := j * 3 + 2) (by omega); have f0 := ho7.frozen (j * 3); have f1 := ho7.frozen (j * 3 + 1); have f2 := ho7.frozen (j * 3 + 2))))
      have ho8 := ho7.set_ j N (by omega)
      rw [hz0, hz1, hz2] at ho8
      have hsz : w5.heap.size ≤ B := by rw [HBB.out]; exact Nat.le_refl _
      have hE8 : Ext w5 (((w7.setCell ⟨B, j * 3, none⟩ (.int .u32 (z0 : Nat))).setCell ⟨B, j * 3 + 1, none⟩ (.int .u32 (z1 : Nat))).setCell ⟨B, j * 3 + 2, none⟩ (.int .u32 (z2 : Nat))) :=
        (((hE.drew.below hB7).setCell (p := ⟨B, j * 3, none⟩) hsz _).setCell (p := ⟨B, j * 3 + 1, none⟩) hsz _).setCell (p := ⟨B, j * 3 + 2, none⟩) hsz _
      clear ho7 hown hown' hE hB7 hJJ hSS
      go_wp2
      go_roundw
      case rel => exact ⟨j + 1, _, by omega, by go_num, HST, ho8, hE8⟩
      case measure => simp [intOf]; omega
    · obtain rfl : j = n := by omega
      have hcv : o = conv a b := by
        refine ext_lb (by rw [HO.out.1, HCL.out]) fun q hq => ?_
        rw [HO.out.1] at hq
        rw [HO.out.2 q hq, hca.out q hq]
      have hU := hown.toU
      rw [hcv] at hU
      have HF : Hid (∃ z, Ending.returned (.slice (some ⟨B, 0, none⟩) j j) = .returned z ∧ U3 wr z (conv a b)) := ⟨_, rfl, hU⟩
      have hE9 := hE5.below hE
      clear hU hown HO hE hc3 hc4 hc5
      go_wp2
      go_ret
      exact ⟨HF.out, hE9⟩
/-- Sums of products of any two rows. -/
theorem conv_all (w : World) (hg : Gl w) (v u : Value) (a b : List Nat) (hua : U w v a) (hub : U w u b) (hal : a.length ≤ 30000) (hbl : b.length ≤ 30000) (cs : List Nat) (hc : cvs a b = cs) :
    Calls Tryd.prog 19 #[v, u] w fun e w' => ∃ z, e = .returned z ∧ U3 w' z cs ∧ Ext w w' := by
  subst hc
  rcases Nat.lt_or_ge 24 (min a.length b.length) with h | h
  · exact (conv_big w hg v u a b hua hub hal hbl h).mono fun e w' ⟨⟨z, he, hz⟩, hB⟩ => ⟨z, he, hz, hB⟩
  · exact conv_B w v u a b hua hub (by omega) (by omega) h _ rfl
end Go.Proofs.YtofhpfmgopmcmaaDoor
