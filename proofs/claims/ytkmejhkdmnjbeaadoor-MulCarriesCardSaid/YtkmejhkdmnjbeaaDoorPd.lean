/- Sums of products of two rows that are both long. -/
import Derived.Test.YtkmejhkdmnjbeaaDoorPc
import Derived.Below
import Derived.Laws.OwnMore
import Derived.Deep.AppendLies
import Derived.Deep.Draws
import Derived.Lib.Hide
import Derived.Test.YtkmejhkdmnjbeaaDoorProg
import Derived.WalkKit
import Derived.ProofKit
import Derived.OpenShut
import Derived.JoinedCond
import Derived.RegionTactic
import Derived.LoopTactic
import Derived.BigQuiet
import Derived.Deep.QuietTactic
import Derived.Outline
import Derived.Laws.AppendOwn
import Derived.Laws.BitsAllLaws
import Derived.Laws.Bits64
import Derived.OwnWalk
import Derived.RangeFuncNested
import Derived.RangeFuncBound
import Derived.RangeFuncCalls
import Derived.RangeFuncLeaves
import Derived.RangeFuncBox
import Derived.Shelf.Abstract
import Derived.Shelf.RegionOpen
import Derived.OwnWalkIn
import Derived.TacticsInMore
import Derived.LoopNIn
import Derived.LoopIn
import Derived.Maps.AppendAt
import Derived.Laws.EntriesVeiled

namespace Go.Proofs.YtkmejhkdmnjbeaaDoor
open Go.RowKit
set_option linter.unusedVariables false
set_option maxHeartbeats 400000

theorem keepG {x y : World} {f g h : Fd} (hS : (0 < x.heap.size ∧ x.cell? ⟨0, 0, none⟩ = some (.int .u32 (f.p : Int)) ∧ x.cell? ⟨0, 1, none⟩ = some (.int .u32 (f.root : Int)) ∧ x.cell? ⟨0, 2, none⟩ = some (.int .u32 (f.neg : Int)) ∧ x.cell? ⟨0, 3, none⟩ = some (.int .u32 (f.square : Int)) ∧ x.cell? ⟨0, 4, none⟩ = some (.int .u32 (f.ahead : Int)) ∧ x.cell? ⟨0, 5, none⟩ = some (.int .u32 (g.p : Int)) ∧ x.cell? ⟨0, 6, none⟩ = some (.int .u32 (g.root : Int)) ∧ x.cell? ⟨0, 7, none⟩ = some (.int .u32 (g.neg : Int)) ∧ x.cell? ⟨0, 8, none⟩ = some (.int .u32 (g.square : Int)) ∧ x.cell? ⟨0, 9, none⟩ = some (.int .u32 (g.ahead : Int)) ∧ x.cell? ⟨0, 10, none⟩ = some (.int .u32 (h.p : Int)) ∧ x.cell? ⟨0, 11, none⟩ = some (.int .u32 (h.root : Int)) ∧ x.cell? ⟨0, 12, none⟩ = some (.int .u32 (h.neg : Int)) ∧ x.cell? ⟨0, 13, none⟩ = some (.int .u32 (h.square : Int)) ∧ x.cell? ⟨0, 14, none⟩ = some (.int .u32 (h.ahead : Int)))) (hB : Ext x y) : (0 < y.heap.size ∧ y.cell? ⟨0, 0, none⟩ = some (.int .u32 (f.p : Int)) ∧ y.cell? ⟨0, 1, none⟩ = some (.int .u32 (f.root : Int)) ∧ y.cell? ⟨0, 2, none⟩ = some (.int .u32 (f.neg : Int)) ∧ y.cell? ⟨0, 3, none⟩ = some (.int .u32 (f.square : Int)) ∧ y.cell? ⟨0, 4, none⟩ = some (.int .u32 (f.ahead : Int)) ∧ y.cell? ⟨0, 5, none⟩ = some (.int .u32 (g.p : Int)) ∧ y.cell? ⟨0, 6, none⟩ = some (.int .u32 (g.root : Int)) ∧ y.cell? ⟨0, 7, none⟩ = some (.int .u32 (g.neg : Int)) ∧ y.cell? ⟨0, 8, none⟩ = some (.int .u32 (g.square : Int)) ∧ y.cell? ⟨0, 9, none⟩ = some (.int .u32 (g.ahead : Int)) ∧ y.cell? ⟨0, 10, none⟩ = some (.int .u32 (h.p : Int)) ∧ y.cell? ⟨0, 11, none⟩ = some (.int .u32 (h.root : Int)) ∧ y.cell? ⟨0, 12, none⟩ = some (.int .u32 (h.neg : Int)) ∧ y.cell? ⟨0, 13, none⟩ = some (.int .u32 (h.square : Int)) ∧ y.cell? ⟨0, 14, none⟩ = some (.int .u32 (h.ahead : Int))) := by
  obtain ⟨h0, a0, a1, a2, a3, a4, b0, b1, b2, b3, b4, c0, c1, c2, c3, c4⟩ := hS
  have hs := hB.size
  have hc := fun o => hB.cell (p := ⟨0, o, none⟩) h0
  exact ⟨by omega, (hc _).trans a0, (hc _).trans a1, (hc _).trans a2, (hc _).trans a3, (hc _).trans a4, (hc _).trans b0, (hc _).trans b1, (hc _).trans b2, (hc _).trans b3, (hc _).trans b4, (hc _).trans c0, (hc _).trans c1, (hc _).trans c2, (hc _).trans c3, (hc _).trans c4⟩

theorem keep3 {x y : World} {p q r : Addr} {u v s : Value} (h : x.cell? p = some u ∧ x.cell? q = some v ∧ x.cell? r = some s) (hB : Ext x y) : y.cell? p = some u ∧ y.cell? q = some v ∧ y.cell? r = some s :=
  ⟨kept_cell hB h.1, kept_cell hB h.2.1, kept_cell hB h.2.2⟩
theorem keep3S {x : World} {p q r : Addr} {u v s : Value} {g o1 o2 o3 : Nat} {v1 v2 v3 : Value} (h : x.cell? p = some u ∧ x.cell? q = some v ∧ x.cell? r = some s) (hp : p.block ≠ g) (hq : q.block ≠ g) (hr : r.block ≠ g) :
    (((x.setCell ⟨g, o1, none⟩ v1).setCell ⟨g, o2, none⟩ v2).setCell ⟨g, o3, none⟩ v3).cell? p = some u ∧ (((x.setCell ⟨g, o1, none⟩ v1).setCell ⟨g, o2, none⟩ v2).setCell ⟨g, o3, none⟩ v3).cell? q = some v ∧ (((x.setCell ⟨g, o1, none⟩ v1).setCell ⟨g, o2, none⟩ v2).setCell ⟨g, o3, none⟩ v3).cell? r = some s := by
  have k := (((But.refl g x).setCell o1 v1).setCell o2 v2).setCell o3 v3
  exact ⟨(k.cell (World.block_lt_of_cell? x _ h.1) hp).trans h.1, (k.cell (World.block_lt_of_cell? x _ h.2.1) hq).trans h.2.1, (k.cell (World.block_lt_of_cell? x _ h.2.2) hr).trans h.2.2⟩
/-- What the rests tell. -/
theorem rest_at {f : Fd} (N r : Nat) (hr : r < f.p) (h : Eqm (f.p : Int) (r : Int) (N : Int)) : N % f.p = r := by
  have := h.nat_eq
  rw [Nat.mod_eq_of_lt hr] at this
  exact this.symm

set_option maxRecDepth 100000 in
set_option maxHeartbeats 8000000 in
theorem conv_big (w : World) (hg : Gl w) (v u : Value) (a b : List Nat) (hua : U w v a) (hub : U w u b) (hal : a.length ≤ 30000) (hbl : b.length ≤ 30000) (hs : 24 < min a.length b.length) :
    Calls Tryd.prog 35 #[v, u] w fun e w' => (∃ z, e = .returned z ∧ U3 w' z (cvs a b)) ∧ Ext w w' := by
  have ha0 : 0 < a.length := by omega
  have hb0 : 0 < b.length := by omega
  rw [cvs_pos a b ha0 hb0]
  obtain ⟨hw0, ⟨a0, a1, a2, a3, a4⟩, ⟨b0, b1, b2, b3, b4⟩, ⟨c0, c1, c2, c3, c4⟩⟩ := id hg
  obtain ⟨A, ca, rfl, _, hxa, _⟩ := id hua
  obtain ⟨A2, cb, rfl, _, hxb, _⟩ := id hub
  obtain ⟨n, hn⟩ : ∃ n, a.length + b.length - 1 = n := ⟨_, rfl⟩
  obtain ⟨k, hk⟩ : ∃ k, blen (n - 1) = k := ⟨_, rfl⟩
  have hk16 : k ≤ 16 := by rw [← hk]; exact blen_le_of_lt (by omega)
  obtain ⟨m, hm⟩ : ∃ m, 2 ^ k = m := ⟨_, rfl⟩
  have hnm : n ≤ m := by have := lt_pow_blen (n - 1); rw [hk, hm] at this; omega
  have hm1 : m ≤ 65536 := by rw [← hm]; exact Nat.pow_le_pow_right (by decide) hk16
  have hN : ∀ j, cv a b a.length j < F0.p * F1.p * F2.p := fun j => Nat.lt_of_le_of_lt (Nat.le_trans (cv_le a b hxa hxb a.length j) (Nat.mul_le_mul_right _ hal)) (by decide)
  have hR0 := Lib.hid (fun W h1 h2 => rests_calls W F0 F0_fld k m hm hk16 (.slice A a.length ca) (.slice A2 b.length cb) a b h1 h2 (by omega) (by omega) (by omega))
  have hR1 := Lib.hid (fun W h1 h2 => rests_calls W F1 F1_fld k m hm hk16 (.slice A a.length ca) (.slice A2 b.length cb) a b h1 h2 (by omega) (by omega) (by omega))
  have hR2 := Lib.hid (fun W h1 h2 => rests_calls W F2 F2_fld k m hm hk16 (.slice A a.length ca) (.slice A2 b.length cb) a b h1 h2 (by omega) (by omega) (by omega))
  have hJ := Lib.hid (fun W hg j x y z hx hy hz => join_calls W hg (cv a b a.length j) x y z hx hy hz (hN j))
  have HG := Lib.hid hg
  have hcl : (conv a b).length = n := by rw [conv_len, hn]
  have hca : Hid (∀ j, j < n → lb (conv a b) j = cv a b a.length j) := fun j hj => lb_conv a b j (by omega)
  have HCL := Lib.hid hcl
  have HU0 := Lib.hid hua
  have HU1 := Lib.hid hub
  have Fp0 : 1 < F0.p := by decide
  have Fp1 : 1 < F1.p := by decide
  have Fp2 : 1 < F2.p := by decide
  have HLn := Lib.hid (fun W => len_calls W (n - 1) (by omega))
  rw [hk] at HLn
  simp only [Nat.zero_add] at a0 a1 a2 a3 a4
  have hS0 : (0 < w.heap.size ∧ w.cell? ⟨0, 0, none⟩ = some (.int .u32 (F0.p : Int)) ∧ w.cell? ⟨0, 1, none⟩ = some (.int .u32 (F0.root : Int)) ∧ w.cell? ⟨0, 2, none⟩ = some (.int .u32 (F0.neg : Int)) ∧ w.cell? ⟨0, 3, none⟩ = some (.int .u32 (F0.square : Int)) ∧ w.cell? ⟨0, 4, none⟩ = some (.int .u32 (F0.ahead : Int)) ∧ w.cell? ⟨0, 5, none⟩ = some (.int .u32 (F1.p : Int)) ∧ w.cell? ⟨0, 6, none⟩ = some (.int .u32 (F1.root : Int)) ∧ w.cell? ⟨0, 7, none⟩ = some (.int .u32 (F1.neg : Int)) ∧ w.cell? ⟨0, 8, none⟩ = some (.int .u32 (F1.square : Int)) ∧ w.cell? ⟨0, 9, none⟩ = some (.int .u32 (F1.ahead : Int)) ∧ w.cell? ⟨0, 10, none⟩ = some (.int .u32 (F2.p : Int)) ∧ w.cell? ⟨0, 11, none⟩ = some (.int .u32 (F2.root : Int)) ∧ w.cell? ⟨0, 12, none⟩ = some (.int .u32 (F2.neg : Int)) ∧ w.cell? ⟨0, 13, none⟩ = some (.int .u32 (F2.square : Int)) ∧ w.cell? ⟨0, 14, none⟩ = some (.int .u32 (F2.ahead : Int))) := ⟨hw0, a0, a1, a2, a3, a4, b0, b1, b2, b3, b4, c0, c1, c2, c3, c4⟩
  clear a0 a1 a2 a3 a4 b0 b1 b2 b3 b4 c0 c1 c2 c3 c4 hcl hxa hxb hN hg hk hm
  generalize F0 = f at *
  generalize F1 = g at *
  generalize F2 = fc at *
  obtain ⟨na, hna⟩ : ∃ na, a.length = na := ⟨_, rfl⟩
  obtain ⟨nb, hnb⟩ : ∃ nb, b.length = nb := ⟨_, rfl⟩
  rw [hna] at hn hal hs ha0 HU0 hR0 hR1 hR2 hJ hca hua ⊢
  rw [hnb] at hn hbl hs hb0 HU1 hR0 hR1 hR2 hub ⊢
  clear hna hnb
  have hz : (((na : Nat) : Int) == 0) = false := by rw [beq_eq_false_iff_ne]; omega
  have hz2 : (((nb : Nat) : Int) == 0) = false := by rw [beq_eq_false_iff_ne]; omega
  obtain ⟨q, hq⟩ : ∃ q, min na nb = q := ⟨_, rfl⟩
  have hmi : min ((na : Nat) : Int) ((nb : Nat) : Int) = (q : Int) := by omega
  have hmd : decide ((q : Int) ≤ 24) = false := by rw [decide_eq_false_iff_not]; omega
  have hmd1 : decide ((na : Int) ≤ 24) = false := by rw [decide_eq_false_iff_not]; omega
  have hmd2 : decide ((nb : Int) ≤ 24) = false := by rw [decide_eq_false_iff_not]; omega
  have hif : (if nb < na then (nb : Int) else (na : Int)) = (q : Int) := by split <;> omega
  have hnn : (na : Int) + (nb : Int) - 1 = (n : Int) := by omega
  have hn1 : (n : Int) - 1 = ((n - 1 : Nat) : Int) := by omega
  have hnw : IntKind.u64.wrap ((n - 1 : Nat) : Int) = ((n - 1 : Nat) : Int) := by rw [IntKind.wrap_u64]; omega
  have hn30 : n ≤ 60000 := by omega
  have hn2 : 0 < n := by omega
  obtain ⟨n1, hn1n⟩ : ∃ n1, n - 1 = n1 := ⟨_, rfl⟩
  rw [hn1n] at hn1 hnw HLn
  clear hq hs hn hn1n
  go_enter Tryd.func35, Tryd.ntmps35
  go_wp2_with (fail)
  refine (HLn.out _).mono ?_
  rintro e w1 ⟨rfl, rfl⟩
  go_wp2_with (fail)
  have hS1 : (0 < w.drew.heap.size ∧ w.drew.cell? ⟨0, 0, none⟩ = some (.int .u32 (f.p : Int)) ∧ w.drew.cell? ⟨0, 1, none⟩ = some (.int .u32 (f.root : Int)) ∧ w.drew.cell? ⟨0, 2, none⟩ = some (.int .u32 (f.neg : Int)) ∧ w.drew.cell? ⟨0, 3, none⟩ = some (.int .u32 (f.square : Int)) ∧ w.drew.cell? ⟨0, 4, none⟩ = some (.int .u32 (f.ahead : Int)) ∧ w.drew.cell? ⟨0, 5, none⟩ = some (.int .u32 (g.p : Int)) ∧ w.drew.cell? ⟨0, 6, none⟩ = some (.int .u32 (g.root : Int)) ∧ w.drew.cell? ⟨0, 7, none⟩ = some (.int .u32 (g.neg : Int)) ∧ w.drew.cell? ⟨0, 8, none⟩ = some (.int .u32 (g.square : Int)) ∧ w.drew.cell? ⟨0, 9, none⟩ = some (.int .u32 (g.ahead : Int)) ∧ w.drew.cell? ⟨0, 10, none⟩ = some (.int .u32 (fc.p : Int)) ∧ w.drew.cell? ⟨0, 11, none⟩ = some (.int .u32 (fc.root : Int)) ∧ w.drew.cell? ⟨0, 12, none⟩ = some (.int .u32 (fc.neg : Int)) ∧ w.drew.cell? ⟨0, 13, none⟩ = some (.int .u32 (fc.square : Int)) ∧ w.drew.cell? ⟨0, 14, none⟩ = some (.int .u32 (fc.ahead : Int))) := hS0
  have hA0 : U w.drew (.slice A na ca) a := hua
  have hB0 : U w.drew (.slice A2 nb cb) b := hub
  go_region_held3 (fun X => (0 < X.heap.size ∧ X.cell? ⟨0, 0, none⟩ = some (.int .u32 (f.p : Int)) ∧ X.cell? ⟨0, 1, none⟩ = some (.int .u32 (f.root : Int)) ∧ X.cell? ⟨0, 2, none⟩ = some (.int .u32 (f.neg : Int)) ∧ X.cell? ⟨0, 3, none⟩ = some (.int .u32 (f.square : Int)) ∧ X.cell? ⟨0, 4, none⟩ = some (.int .u32 (f.ahead : Int)) ∧ X.cell? ⟨0, 5, none⟩ = some (.int .u32 (g.p : Int)) ∧ X.cell? ⟨0, 6, none⟩ = some (.int .u32 (g.root : Int)) ∧ X.cell? ⟨0, 7, none⟩ = some (.int .u32 (g.neg : Int)) ∧ X.cell? ⟨0, 8, none⟩ = some (.int .u32 (g.square : Int)) ∧ X.cell? ⟨0, 9, none⟩ = some (.int .u32 (g.ahead : Int)) ∧ X.cell? ⟨0, 10, none⟩ = some (.int .u32 (fc.p : Int)) ∧ X.cell? ⟨0, 11, none⟩ = some (.int .u32 (fc.root : Int)) ∧ X.cell? ⟨0, 12, none⟩ = some (.int .u32 (fc.neg : Int)) ∧ X.cell? ⟨0, 13, none⟩ = some (.int .u32 (fc.square : Int)) ∧ X.cell? ⟨0, 14, none⟩ = some (.int .u32 (fc.ahead : Int))))
    (first
      | exact hS1
      | assumption
      | exact keepG (by assumption) (by assumption))
    (first
      | (go_at_call 56; ((with_reducible refine (hR0.out _ hA0 hB0).mono ?_); rintro e w3 ⟨⟨u3, r3, rfl, hU3, hl3, hlt3, hm3⟩, hB3⟩; have hA3 := hA0.below hB3; have hB3' := hB0.below hB3))
      | (go_at_call 56; ((with_reducible refine (hR1.out _ hA3 hB3').mono ?_); rintro e w4 ⟨⟨u4, r4, rfl, hU4, hl4, hlt4, hm4⟩, hB4⟩; have hA4 := hA3.below hB4; have hB4' := hB3'.below hB4))
      | (go_at_call 56; ((with_reducible refine (hR2.out _ hA4 hB4').mono ?_); rintro e w5 ⟨⟨u5, r5, rfl, hU5, hl5, hlt5, hm5⟩, hB5⟩)))
  have hE5 : Ext w w5 := ((drawn hB3).below hB4).below hB5
  replace hU3 := (hU3.below hB4).below hB5
  replace hU4 := hU4.below hB5
  obtain ⟨ad3, c3, hv3, _, hb3, hc3⟩ := hU3.opened hl3 (by omega)
  obtain ⟨ad4, c4, hv4, _, hb4, hc4⟩ := hU4.opened hl4 (by omega)
  obtain ⟨ad5, c5, hv5, _, hb5, hc5⟩ := hU5.opened hl5 (by omega)
  subst hv3 hv4 hv5
  have H3 := Lib.hid (fun j (hj : j < m) => rest_at (f := f) (cv a b na j) (lb r3 j) (lb_lt_of (by omega) hlt3 _) (hm3 j hj))
  have H4 := Lib.hid (fun j (hj : j < m) => rest_at (f := g) (cv a b na j) (lb r4 j) (lb_lt_of (by omega) hlt4 _) (hm4 j hj))
  have H5 := Lib.hid (fun j (hj : j < m) => rest_at (f := fc) (cv a b na j) (lb r5 j) (lb_lt_of (by omega) hlt5 _) (hm5 j hj))
  obtain ⟨i0, hi, hz0, hz1, hz2⟩ := info_parts info3
  clear hS0 hS1 hA0 hB0 hA3 hB3' hA4 hB4' hB3 hB4 hB5 hU3 hU4 hU5 hm3 hm4 hm5 hlt3 hlt4 hlt5 hua hub hR0 hR1 hR2
  go_wp2_with (at_make; refine wpList_make_full _ rfl _ _ 27 rfl (w5.heap.size) 50 i0 (.agg #[.int .u32 0, .int .u32 0, .int .u32 0]) 3 Tryd.underlying27 hi hz0 hz1 _ _ _ _ n rfl rfl (by omega) (by omega) (by rw [hz2]; omega) (by unfold maxLen; omega) (Nat.le_refl _) ?_; intro w6 hown hgrow)
  have ho0 : Own3 w6 w5.heap.size (.slice (some ⟨w5.heap.size, 0, none⟩) n n) (List.replicate n 0) := by
    have := hown
    rw [madeCells3] at this
    unfold Own3
    rw [List.length_replicate]
    exact this
  have hB6 : Ext w5 w6 := (Ext.refl w5).grown hgrow (Nat.le_refl _) (fun _ h => by cases h)
  clear hown hgrow hi hz0 hz1 hz2 i0
  obtain ⟨B, hB⟩ : ∃ B, w5.heap.size = B := ⟨_, rfl⟩
  have HBB := Lib.hid hB
  rw [hB] at hb3 hb4 hb5 ho0 ⊢
  clear hB
  go_loopw [61] (fun t wr => ∃ (j : Nat) (o : List Nat), j ≤ n ∧ t = .int .i64 (j : Nat) ∧ Hid (o.length = n ∧ ∀ q, q < j → lb o q = cv a b na q) ∧ Own3 wr B (.slice (some ⟨B, 0, none⟩) n n) o ∧ Ext w5 wr) (fun t _ => n - (intOf t).toNat)
  case atStart => exact ⟨0, _, Nat.zero_le _, rfl, ⟨by simp, fun q hq => by omega⟩, ho0, hB6⟩
  case round =>
    clear ho0 hB6
    obtain ⟨j, o, hj, rfl, HO, hown, hE⟩ := hrel
    by_cases hlt : j < n
    · have hx1 := (hE.cell (p := ad3.add j) (by rw [addr_add_block, HBB.out]; exact hb3)).trans (hc3 j (by omega))
      have hx2 := (hE.cell (p := ad4.add j) (by rw [addr_add_block, HBB.out]; exact hb4)).trans (hc4 j (by omega))
      have hx3 := (hE.cell (p := ad5.add j) (by rw [addr_add_block, HBB.out]; exact hb5)).trans (hc5 j (by omega))
      have hGj : Gl wr.drew := HG.out.ext (hE5.below hE).drew
      have hJJ := hJ.out wr.drew hGj j _ _ _ (H3.out j (by omega)) (H4.out j (by omega)) (H5.out j (by omega))
      have HST : Hid ((o.set j (cv a b na j)).length = n ∧ ∀ q, q < j + 1 → lb (o.set j (cv a b na j)) q = cv a b na q) := by
        refine ⟨by rw [List.length_set]; exact HO.out.1, fun q hq => ?_⟩
        rw [lb_set _ _ _ _ (by rw [HO.out.1]; exact hlt)]
        by_cases e : j = q
        · rw [if_pos e, e]
        · rw [if_neg e]; exact HO.out.2 q (by omega)
      generalize lb r3 j = x at *
      generalize lb r4 j = y at *
      generalize lb r5 j = z at *
      obtain ⟨N, hN⟩ : ∃ N, cv a b na j = N := ⟨_, rfl⟩
      rw [hN] at hJJ HST
      obtain ⟨z0, hz0⟩ : ∃ z0, N % 4294967296 = z0 := ⟨_, rfl⟩
      obtain ⟨z1, hz1⟩ : ∃ z1, N / 4294967296 % 4294967296 = z1 := ⟨_, rfl⟩
      obtain ⟨z2, hz2⟩ : ∃ z2, N / 18446744073709551616 % 4294967296 = z2 := ⟨_, rfl⟩
      rw [hz0, hz1, hz2] at hJJ
      have hol := HO.out.1
      have hj0 : (0 : Int) ≤ (j : Int) := by omega
      have hj1 : (j : Int) < (n : Int) := by omega
      have hj2 : (j : Int) < (m : Int) := by omega
      have hSS : wr.drew.cell? (ad3.add j) = some (.int .u32 (x : Nat)) ∧ wr.drew.cell? (ad4.add j) = some (.int .u32 (y : Nat)) ∧ wr.drew.cell? (ad5.add j) = some (.int .u32 (z : Nat)) := ⟨hx1, hx2, hx3⟩
      have hn3 : (ad3.add j).block ≠ B := by rw [addr_add_block]; omega
      have hn4 : (ad4.add j).block ≠ B := by rw [addr_add_block]; omega
      have hn5 : (ad5.add j).block ≠ B := by rw [addr_add_block]; omega
      have hown' : Own3 wr.drew B (.slice (some ⟨B, 0, none⟩) n n) o := hown
      clear hc3 hc4 hc5 HO hN hx1 hx2 hx3
      go_wp2_with (fail)
      go_region_held3 (fun X => X.cell? (ad3.add j) = some (.int .u32 (x : Nat)) ∧ X.cell? (ad4.add j) = some (.int .u32 (y : Nat)) ∧ X.cell? (ad5.add j) = some (.int .u32 (z : Nat)))
        (first
          | exact hSS
          | assumption
          | exact keep3 (by assumption) (by assumption)
          | exact keep3S (keep3 hSS hB7) hn3 hn4 hn5)
        (first
          | (go_at_call 57; ((with_reducible refine hJJ.mono ?_); rintro e w7 ⟨rfl, hB7⟩; have ho7 := hown'.ext hB7; have k0 := ho7.cell (j := j * 3) (by omega); have k1 := ho7.cell (j := j * 3 + 1) (by omega); have k2 := ho7.cell (j := j * 3 + 2) (by omega); have f0 := ho7.frozen (j * 3); have f1 := ho7.frozen (j * 3 + 1); have f2 := ho7.frozen (j * 3 + 2))))
      have ho8 := ho7.set_ j N (by omega)
      rw [hz0, hz1, hz2] at ho8
      have hsz : w5.heap.size ≤ B := by rw [HBB.out]; exact Nat.le_refl _
      have hE8 : Ext w5 (((w7.setCell ⟨B, j * 3, none⟩ (.int .u32 (z0 : Nat))).setCell ⟨B, j * 3 + 1, none⟩ (.int .u32 (z1 : Nat))).setCell ⟨B, j * 3 + 2, none⟩ (.int .u32 (z2 : Nat))) :=
        (((hE.drew.below hB7).setCell (p := ⟨B, j * 3, none⟩) hsz _).setCell (p := ⟨B, j * 3 + 1, none⟩) hsz _).setCell (p := ⟨B, j * 3 + 2, none⟩) hsz _
      clear ho7 hown hown' hE hB7 hJJ hSS
      go_wp2
      go_roundw
      case rel => exact ⟨j + 1, _, by omega, by go_num, HST, ho8, hE8⟩
      case measure => simp [intOf]; omega
    · obtain rfl : j = n := by omega
      have hcv : o = conv a b := by
        refine ext_lb (by rw [HO.out.1, HCL.out]) fun q hq => ?_
        rw [HO.out.1] at hq
        rw [HO.out.2 q hq, hca.out q hq]
      have hU := hown.toU
      rw [hcv] at hU
      have HF : Hid (∃ z, Ending.returned (.slice (some ⟨B, 0, none⟩) j j) = .returned z ∧ U3 wr z (conv a b)) := ⟨_, rfl, hU⟩
      have hE9 := hE5.below hE
      clear hU hown HO hE hc3 hc4 hc5
      go_wp2
      go_ret
      exact ⟨HF.out, hE9⟩
/-- Sums of products of any two rows. -/
theorem conv_all (w : World) (hg : Gl w) (v u : Value) (a b : List Nat) (hua : U w v a) (hub : U w u b) (hal : a.length ≤ 30000) (hbl : b.length ≤ 30000) (cs : List Nat) (hc : cvs a b = cs) :
    Calls Tryd.prog 35 #[v, u] w fun e w' => ∃ z, e = .returned z ∧ U3 w' z cs ∧ Ext w w' := by
  subst hc
  rcases Nat.lt_or_ge 24 (min a.length b.length) with h | h
  · exact (conv_big w hg v u a b hua hub hal hbl h).mono fun e w' ⟨⟨z, he, hz⟩, hB⟩ => ⟨z, he, hz, hB⟩
  · exact conv_B w v u a b hua hub (by omega) (by omega) h _ rfl
end Go.Proofs.YtkmejhkdmnjbeaaDoor
/- A slice of 32-bit limbs that reads as a list of naturals; kept while what lay in memory is kept. -/
namespace Go.Proofs.YtkmejhkdmnjbeaaDoor
open Go.RowKit

/-- The number n as a slice of its limbs. -/
def Un (w : World) (v : Value) (n : Nat) : Prop := U w v (limbs n)
theorem Un.below {w w' : World} {v : Value} {n : Nat} (h : Un w v n) (hb : Below w.heap.size w w') : Un w' v n := U.below h hb
end Go.Proofs.YtkmejhkdmnjbeaaDoor
/- walks -/
namespace Go.Proofs.YtkmejhkdmnjbeaaDoor
open Go.RowKit
set_option linter.unusedVariables false
set_option maxHeartbeats 400000

def rightB (xs : List Nat) : Bool := decide (xs.length ≤ 65536) && (xs.isEmpty || lb xs (xs.length - 1) != 0)

theorem bne_cast (a : Nat) : (((a : Nat) : Int) != 0) = (a != 0) := by
  rw [Bool.eq_iff_iff, bne_iff_ne, bne_iff_ne]; omega

theorem right_calls (w : World) (v : Value) (xs : List Nat) (h : U w v xs) :
    Calls Tryd.prog 29 #[v] w fun e w' => e = .returned (.bool (rightB xs)) ∧ w = w' := by
  obtain ⟨A, c, rfl, ⟨hc, hm⟩, hx, hr⟩ := h
  by_cases hlen : xs.length ≤ 65536
  · rcases Nat.eq_zero_or_pos xs.length with h0 | h0
    · obtain rfl := List.eq_nil_of_length_eq_zero h0
      go_enter Tryd.func29, Tryd.ntmps29
      go_wp2
      go_ret
      exact ⟨rfl, rfl⟩
    · obtain ⟨ad, rfl, hb, hcell⟩ := hr h0
      have hc1 := hcell (xs.length - 1) (by omega)
      have hne : (((xs.length : Nat) : Int) == 0) = false := by rw [beq_eq_false_iff_ne]; omega
      have hres : rightB xs = (lb xs (xs.length - 1) != 0) := by
        unfold rightB
        have : xs.isEmpty = false := by cases xs <;> simp_all
        simp [hlen, this]
      have HR := Lib.hid hres
      clear hres
      go_enter Tryd.func29, Tryd.ntmps29
      go_wp2
      go_ret
      exact ⟨by rw [HR.out, ← bne_cast]; rfl, rfl⟩
  · have hres : rightB xs = false := by unfold rightB; simp [hlen]
    have HR := Lib.hid hres
    clear hres
    go_enter Tryd.func29, Tryd.ntmps29
    go_wp2
    go_ret
    exact ⟨by rw [HR.out]; rfl, rfl⟩

theorem make_calls (w : World) (v : Value) (xs : List Nat) (h : U w v xs) :
    Calls Tryd.prog 32 #[v] w fun e w' => (∃ u, e = .returned u ∧ U w u (limbs (val xs))) ∧ w = w' := by
  have h' := h
  obtain ⟨A, c, rfl, ⟨hc, hm⟩, hx, hr⟩ := h
  go_enter Tryd.func32, Tryd.ntmps32
  go_wp2
  go_loop [3] (fun n => ∃ k : Nat, k ≤ xs.length ∧ n = .int .i64 k ∧ Hid (∀ j, k ≤ j → j < xs.length → lb xs j = 0)) (fun n => (intOf n).toNat)
  case atStart => exact ⟨xs.length, Nat.le_refl _, rfl, fun j h1 h2 => by omega⟩
  case round =>
    obtain ⟨k, hk, rfl, hz⟩ := hrel
    have hfin : ∀ c', k ≤ c' → (0 < k → lb xs (k - 1) ≠ 0) → U w (.slice A k c') (limbs (val xs)) := fun c' h1 h2 => by
      rw [strip_eq xs k hx hk hz.out h2]; exact h'.take hk h1
    rcases Nat.eq_zero_or_pos k with rfl | h0
    · have HF := Lib.hid (hfin 0 (Nat.le_refl _) (fun h => absurd h (by omega)))
      clear hfin
      go_wp2
      go_ways
      go_ret
      exact ⟨⟨_, rfl, HF.out⟩, rfl⟩
    · obtain ⟨ad, rfl, hb, hcell⟩ := hr (by omega)
      have hc1 := hcell (k - 1) (by omega)
      by_cases hx0 : lb xs (k - 1) = 0
      · have ht : ((((lb xs (k - 1) : Nat)) : Int) == 0) = true := by rw [hx0]; rfl
        have HX := Lib.hid hx0
        clear hx0
        go_wp2
        go_round
        case rel => exact ⟨k - 1, by omega, by go_num, fun j h1 h2 => by
          rcases Nat.lt_or_ge j k with h3 | h3
          · have : j = k - 1 := by omega
            subst this; exact HX.out
          · exact hz.out j h3 h2⟩
        case measure => simp [intOf]; omega
      · have ht : ((((lb xs (k - 1) : Nat)) : Int) == 0) = false := by rw [beq_eq_false_iff_ne]; omega
        have HF := Lib.hid (hfin k (Nat.le_refl _) (fun _ => hx0))
        clear hfin hx0
        go_wp2
        go_ret
        exact ⟨⟨_, rfl, HF.out⟩, rfl⟩
end Go.Proofs.YtkmejhkdmnjbeaaDoor
/- walks -/
namespace Go.Proofs.YtkmejhkdmnjbeaaDoor
open Go.RowKit
set_option linter.unusedVariables false
set_option maxHeartbeats 400000

theorem same_calls (w : World) (v u : Value) (xs ys : List Nat) (h : U w v xs) (g : U w u ys) :
    Calls Tryd.prog 15 #[v, u] w fun e w' => e = .returned (.bool (decide (xs = ys))) ∧ ∃ n, w' = w.drewN n := by
  obtain ⟨A, c, rfl, ⟨hc, hm⟩, hx, hr⟩ := h
  obtain ⟨A2, c2, rfl, ⟨hc2, hm2⟩, hx2, hr2⟩ := g
  by_cases hl : xs.length = ys.length
  · have hl1 : (((xs.length : Nat) : Int) != ((ys.length : Nat) : Int)) = false := by rw [bne_eq_false_iff_eq, hl]
    have HL := Lib.hid hl
    clear hl
    go_enter Tryd.func15, Tryd.ntmps15
    go_wp2
    go_loopw [5] (fun n wr => ∃ k : Nat, k ≤ xs.length ∧ n = .int .i64 k ∧ Hid (∀ j, j < k → lb xs j = lb ys j) ∧ ∃ m, wr = w.drewN m) (fun n _ => xs.length - (intOf n).toNat)
    case atStart => exact ⟨0, Nat.zero_le _, rfl, fun j h => by omega, 0, rfl⟩
    case round =>
      obtain ⟨k, hk, rfl, hz, m, rfl⟩ := hrel
      by_cases hlt : k < xs.length
      · obtain ⟨ad, rfl, hb, hcell⟩ := hr (by omega)
        obtain ⟨ad2, rfl, hb2, hcell2⟩ := hr2 (by have := HL.out; omega)
        have hc1 := hcell k hlt
        have hc3 := hcell2 k (by have := HL.out; omega)
        have hk2 : ((k : Nat) : Int) < ys.length := by have := HL.out; omega
        by_cases he : lb xs k = lb ys k
        · have ht : ((((lb xs k : Nat)) : Int) != ((lb ys k : Nat) : Int)) = false := by rw [bne_eq_false_iff_eq, he]
          have HX := Lib.hid he
          clear he
          go_wp2
          go_quiet (fail)
          go_wp2
          go_roundw
          case rel => exact ⟨k + 1, by omega, by go_num, fun j h1 => by
            rcases Nat.lt_or_ge j k with h3 | h3
            · exact hz.out j h3
            · have : j = k := by omega
              subst this; exact HX.out, _, rfl⟩
          case measure => simp [intOf]; omega
        · have ht : ((((lb xs k : Nat)) : Int) != ((lb ys k : Nat) : Int)) = true := by rw [bne_iff_ne]; omega
          have HX := Lib.hid he
          clear he
          have hf : decide (xs = ys) = false := decide_eq_false fun h => HX.out (by rw [h])
          have HF := Lib.hid hf
          clear hf
          go_wp2
          go_quiet (fail)
          go_wp2
          go_ret
          exact ⟨by rw [HF.out]; rfl, _, World.drewN_drewN _ _ _⟩
      · have hf : decide (xs = ys) = true := decide_eq_true (ext_lb HL.out fun j hj => hz.out j (by omega))
        have HF := Lib.hid hf
        clear hf
        go_wp2
        go_ret
        exact ⟨by rw [HF.out]; rfl, _, rfl⟩
  · have hl1 : (((xs.length : Nat) : Int) != ((ys.length : Nat) : Int)) = true := by rw [bne_iff_ne]; omega
    have hf : decide (xs = ys) = false := decide_eq_false fun h => hl (by rw [h])
    have HF := Lib.hid hf
    clear hl hf
    go_enter Tryd.func15, Tryd.ntmps15
    go_wp2
    go_ret
    exact ⟨by rw [HF.out]; rfl, 0, rfl⟩
end Go.Proofs.YtkmejhkdmnjbeaaDoor
/- Rows of limbs that a call has made itself. -/
namespace Go.Proofs.YtkmejhkdmnjbeaaDoor
open Go.RowKit
set_option linter.unusedVariables false

theorem cast_shl (x s : Nat) : ((x : Nat) : Int) * 2 ^ s % 4294967296 = ((x * 2 ^ s % 4294967296 : Nat) : Int) := by
  rw [Int.natCast_emod, Int.natCast_mul, Int.natCast_pow]; rfl
theorem cast_shr (x s : Nat) : ((x : Nat) : Int) / 2 ^ s = ((x / 2 ^ s : Nat) : Int) := by
  rw [Int.natCast_ediv, Int.natCast_pow]; rfl
theorem u32_or_cast (a b : Nat) (ha : a < 4294967296) (c : Int) (hc : c = (b : Nat)) (hb : b < 4294967296) : bits .or .u32 (a : Int) c = ((a ||| b : Nat) : Int) := by
  subst hc; exact u32_or_nat a b ha hb
theorem low_step (xs : List Nat) (k : Nat) (hx : ∀ x ∈ xs, x < 4294967296) (hk : k < xs.length) (h2 : xs.length ≤ 2) :
    bits .or .u64 ((val (xs.take k) : Nat) : Int) (IntKind.u64.wrap (IntKind.u64.wrap ((lb xs k : Nat) : Int) * 2 ^ (32 * k))) = ((val (xs.take (k + 1)) : Nat) : Int) := by
  have hl := lb_lt hx k
  have hv := val_lt (xs.take k) (fun x h => hx x (List.mem_of_mem_take h))
  rw [List.length_take, Nat.min_eq_left (by omega)] at hv
  have e0 : IntKind.u64.wrap ((lb xs k : Nat) : Int) = ((lb xs k : Nat) : Int) := by rw [IntKind.wrap_u64]; omega
  have hk1 : k = 0 ∨ k = 1 := by omega
  have hb : lb xs k * 2 ^ (32 * k) < 18446744073709551616 := by
    rcases hk1 with rfl | rfl
    · simp only [Nat.mul_zero, Nat.pow_zero]; omega
    · simp only [Nat.mul_one, Nat.reducePow]; omega
  have e1 : IntKind.u64.wrap (((lb xs k : Nat) : Int) * 2 ^ (32 * k)) = ((lb xs k * 2 ^ (32 * k) : Nat) : Int) := by
    have e : ((lb xs k : Nat) : Int) * 2 ^ (32 * k) = ((lb xs k * 2 ^ (32 * k) : Nat) : Int) := by rw [Int.natCast_mul, Int.natCast_pow]; rfl
    rw [IntKind.wrap_u64, e]
    omega
  have hv2 : val (xs.take k) < 18446744073709551616 := by
    rcases hk1 with rfl | rfl
    · simp only [Nat.pow_zero] at hv; omega
    · simp only [Nat.reducePow] at hv; omega
  rw [e0, e1, u64_or_nat _ _ hv2 hb, or_eq_add _ _ _ (by rw [← pow32]; exact hv), val_take_succ xs k hk, pow32]
end Go.Proofs.YtkmejhkdmnjbeaaDoor
/- walks -/
namespace Go.Proofs.YtkmejhkdmnjbeaaDoor
open Go.RowKit
set_option linter.unusedVariables false
set_option maxHeartbeats 400000
theorem ret_int' {k : IntKind} {a b : Int} (h : a = b) : Ending.returned (.int k a) = .returned (.int k b) := by rw [h]

theorem info35 : (Tryd.prog.info? 35).map (fun i => (i.zero, i.size, i.bytes)) = some (some (.int .u32 0), 1, 4) := by kernel_rfl

theorem shl_calls (w : World) (v : Value) (n : Nat) (k : Int) (hk0 : 0 ≤ k) (hk1 : k ≤ 1000000000) (h : Un w v n) (hl : (limbs n).length ≤ 1000000000) :
    Calls Tryd.prog 31 #[v, .int .i64 k] w fun e w' => (∃ u, e = .returned u ∧ Un w' u (n * 2 ^ k.toNat)) ∧ Below w.heap.size w w' := by
  obtain ⟨A, c, rfl, ⟨hc, hm⟩, hx, hr⟩ := h
  obtain ⟨k, rfl⟩ := Int.eq_ofNat_of_zero_le hk0
  rcases Nat.eq_zero_or_pos n with h0 | h0
  · obtain rfl : n = 0 := h0
    have hz : limbs 0 = [] := limbs_zero
    have hu : Un w (.slice none 0 0) (0 * 2 ^ k) := by rw [Nat.zero_mul, Un, limbs_zero]; exact U.nil_ _ _ _
    have HU := Lib.hid hu
    rw [hz]
    clear hu hz hr hx hm hl hc
    go_enter Tryd.func31, Tryd.ntmps31
    go_wp2
    go_ret
    exact ⟨⟨_, rfl, HU.out⟩, Below.refl _ _⟩
  · have hlen : 0 < (limbs n).length := by rw [limbs_pos (by omega)]; simp
    obtain ⟨ad, rfl, hb, hcell⟩ := hr hlen
    have hne : (((limbs n).length : Int) == 0) = false := by rw [beq_eq_false_iff_ne]; omega
    obtain ⟨i0, hi, hz0, hz1, hz2⟩ := info_parts info35
    have hq : Hid (((k : Nat) : Int) / 32 = ((k / 32 : Nat) : Int)) := by rw [Hid]; omega
    generalize hxs : limbs n = xs at *
    have HX := Lib.hid hxs
    clear hxs hr
    have hkn : decide (((k : Nat) : Int) < 0) = false := by rw [decide_eq_false_iff_not]; omega
    go_enter Tryd.func31, Tryd.ntmps31
    go_wp2_with (at_make; refine wpList_make_full _ rfl _ _ 22 rfl w.heap.size 35 i0 (.int .u32 0) 1 Tryd.underlying22 hi hz0 hz1 _ _ _ _ (k / 32 + xs.length + 1) rfl rfl (by omega) (by omega) (by rw [hz2]; omega) (by unfold maxLen; omega) (Nat.le_refl _) ?_; intro w1 hown hgrow)
    have ho0 := Own.zeros hown
    have hB0 : Below w.heap.size w w1 := (Below.refl _ _).grown hgrow (Nat.le_refl _) (fun _ h => by cases h)
    clear hown hgrow
    go_loopw [29] (fun m wr => ∃ (i : Nat) (o : List Nat), i ≤ xs.length ∧ m = .int .i64 i ∧ Hid (ShlInv xs (k / 32) (k % 32) (k / 32 + xs.length + 1) i o) ∧ Own wr w.heap.size (.slice (some ⟨w.heap.size, 0, none⟩) o.length (k / 32 + xs.length + 1)) o ∧ Below w.heap.size w wr) (fun m _ => xs.length - (intOf m).toNat)
    case atStart => exact ⟨0, _, Nat.zero_le _, rfl, ShlInv.start _ _ _ _, ho0, hB0⟩
    case round =>
      obtain ⟨i, o, hik, rfl, HO, hown, hB⟩ := hrel
      have hoL := HO.out.len
      by_cases hlt : i < xs.length
      · have hc1 := (hB.cell (p := ad.add i) (by rw [addr_add_block]; exact hb)).trans (hcell i hlt)
        have hc2 := hown.cell (j := k / 32 + i) (by omega)
        have hc3 := hown.cell (j := k / 32 + i + 1) (by omega)
        have hf2 := hown.frozen (k / 32 + i)
        have hf3 := hown.frozen (k / 32 + i + 1)
        rw [hoL] at hown
        clear hoL
        have HF : Hid (bits .or .u32 (lb o (k / 32 + i) : Int) (((lb xs i : Nat) : Int) * 2 ^ (k % 32) % 4294967296) = ((lb o (k / 32 + i) ||| lb xs i * 2 ^ (k % 32) % 4294967296 : Nat) : Int)) :=
          u32_or_cast _ _ (lb_lt HO.out.lt _) _ (cast_shl _ _) (Nat.mod_lt _ (by decide))
        have HG : Hid (((lb xs i : Nat) : Int) / 2 ^ (32 - k % 32) = ((lb xs i / 2 ^ (32 - k % 32) : Nat) : Int)) := cast_shr _ _
        go_wp2
        go_region
        go_wp2
        rw [HF.out, HG.out]
        go_roundw
        case rel =>
          have hst := HO.out.step (Nat.mod_lt _ (by decide)) hx hlt rfl
          refine ⟨i + 1, _, by omega, by go_num, hst, ?_, ((hB.setCell (by simp) _).setCell (by simp) _).drew⟩
          have h1 := (Own.set_ (o := o) (by rw [HO.out.len]; exact hown) (k / 32 + i) (lb o (k / 32 + i) ||| lb xs i * 2 ^ (k % 32) % 4294967296))
          exact (Own.set_ h1 (k / 32 + i + 1) (lb xs i / 2 ^ (32 - k % 32))).drew
        case measure => simp [intOf]; omega
      · obtain rfl : i = xs.length := by omega
        have hu := hown.toU HO.out.lt (by omega)
        have hv := HO.out.done
        rw [← HX.out, val_limbs] at hv
        have HV := Lib.hid hv
        rw [hoL] at hu
        clear hv hoL hlt
        go_wp2_with fail
        refine (make_calls _ _ _ hu).mono ?_
        rintro e w2 ⟨⟨u, rfl, hu2⟩, rfl⟩
        have hu3 : Un wr u (n * 2 ^ ((k : Int)).toNat) := by rw [Un, Int.toNat_natCast, ← HV.out]; exact hu2
        clear hu2
        go_wp2
        go_ret
        exact ⟨⟨_, rfl, hu3⟩, hB⟩
end Go.Proofs.YtkmejhkdmnjbeaaDoor
/- walks -/
namespace Go.Proofs.YtkmejhkdmnjbeaaDoor
open Go.RowKit
set_option linter.unusedVariables false
set_option maxHeartbeats 400000

theorem bits_calls (w : World) (v : Value) (n : Nat) (h : Un w v n) (hl : (limbs n).length ≤ 1000000000) :
    Calls Tryd.prog 30 #[v] w fun e w' => e = .returned (.int .i64 (blen n : Nat)) ∧ w = w' := by
  obtain ⟨A, c, rfl, ⟨hc, hm⟩, hx, hr⟩ := h
  by_cases h0 : n = 0
  · subst h0
    have hz : limbs 0 = [] := limbs_zero
    rw [hz]
    clear hz hr hx hm hl hc
    have HF : Hid (blen 0 = 0) := rfl
    go_enter Tryd.func30, Tryd.ntmps30
    go_wp2
    go_ret
    exact ⟨by rw [HF.out]; rfl, rfl⟩
  · have HF := Lib.hid (blen_limbs n h0)
    have hlen : 0 < (limbs n).length := by rw [limbs_pos h0]; simp
    obtain ⟨ad, rfl, hb, hcell⟩ := hr hlen
    have hc1 := hcell ((limbs n).length - 1) (by omega)
    have hne : (((limbs n).length : Int) == 0) = false := by rw [beq_eq_false_iff_ne]; omega
    have hL := lb_lt hx ((limbs n).length - 1)
    have hB := blen_le_of_lt (k := 32) hL
    have HL := Lib.hid hL
    clear hL
    go_enter Tryd.func30, Tryd.ntmps30
    go_wp2_with (go_at_call 50; refine (len32_calls _ _ HL.out).mono ?_; rintro e w' ⟨rfl, rfl⟩)
    go_ret
    exact ⟨by rw [HF.out]; exact ret_int (by omega), rfl⟩

end Go.Proofs.YtkmejhkdmnjbeaaDoor
/- walks -/
namespace Go.Proofs.YtkmejhkdmnjbeaaDoor
open Go.RowKit
set_option linter.unusedVariables false
set_option maxHeartbeats 400000

end Go.Proofs.YtkmejhkdmnjbeaaDoor
/- slices.Backward over limbs, and nat.Cmp. -/
namespace Go.Proofs.YtkmejhkdmnjbeaaDoor
open Go.RowKit Go.Shelf
set_option linter.unusedVariables false
attribute [local go_sem] Oper.semAt_some

abbrev Ix (L : Nat) := { k : Nat // k < L }
abbrev encB (xs : List Nat) (p : Ix xs.length) : Array Value := #[.int .i64 (p.1 : Int), .int .u32 ((lb xs p.1 : Nat) : Int)]

set_option maxRecDepth 100000 in
set_option maxHeartbeats 2000000 in
theorem back1_in (l Bs : Nat) (ad : Addr) (c : Nat) (xs : List Nat) (hm : xs.length ≤ 9223372036854775807) (n₀ : Nat) (hb : ad.block < n₀) (J Jx : List (Ix xs.length) → World → Prop)
    (hY : ∀ pre x W, J pre W → pre.length < xs.length → YieldAt Fence.wide 2 Tryd.prog l (encB xs x) W fun e W' =>
      (e = .returned (.bool true) ∧ J (pre ++ [x]) W' ∧ Below n₀ W W') ∨ (e = .returned (.bool false) ∧ Jx (pre ++ [x]) W'))
    (W : World) (hBn : Bs < n₀) (hBs : W.cell? ⟨Bs, 0, none⟩ = some (.slice (some ad) xs.length c)) (hc : ∀ j, j < xs.length → W.cell? (ad.add j) = some (.int .u32 ((lb xs j : Nat) : Int))) (h0 : J [] W) :
    CallsIn Fence.wide 3 Tryd.prog 66 #[.func (.yield l) #[] #[], .pointer (some ⟨Bs, 0, none⟩)] W fun e W' => (∃ v, e = .returned v) ∧
      ((∃ ys, ys.map (·.1) = downs xs.length xs.length ∧ J ys W') ∨ (∃ pre, (∃ k, k ≤ xs.length ∧ pre.map (·.1) = downs xs.length k) ∧ Jx pre W')) := by
  refine callsIn_of_wp Tryd.func66 rfl trivial ?_ rfl
  simp only [Tryd.ntmps66, List.size_toArray, List.length_cons, List.length_nil, Nat.reduceAdd, Nat.reduceSub, Array.replicate_succ, Array.replicate_zero, List.push_toArray, List.append_toArray, List.nil_append, List.cons_append]
  gi_wp2
  gi_loopw [3] (fun i wr => ∃ (k : Nat) (pre : List (Ix xs.length)), k ≤ xs.length ∧ i = .int .i64 ((xs.length : Int) - 1 - k) ∧ Hid (pre.map (·.1) = downs xs.length k) ∧ J pre wr ∧ Below n₀ W wr)
    (fun i _ => (intOf i + 1).toNat)
  case atStart => exact ⟨0, [], Nat.zero_le _, by simp, rfl, h0, Below.refl _ _⟩
  case round =>
    obtain ⟨k, pre, hk, rfl, hp, hJs, hnx⟩ := hrel
    by_cases hlt : k < xs.length
    · have hcx := (hnx.cell (p := ad.add (xs.length - 1 - k)) (by rw [addr_add_block]; exact hb)).trans (hc (xs.length - 1 - k) (by omega))
      have hcb := (hnx.cell (p := ⟨Bs, 0, none⟩) hBn).trans hBs
      obtain ⟨fn, tmps, assign, body, hy, hR⟩ := hY pre ⟨xs.length - 1 - k, by omega⟩ wr hJs (by have := congrArg List.length hp.out; simp [downs] at this; omega)
      dsimp only [encB] at hy
      rw [show ((xs.length - 1 - k : Nat) : Int) = (xs.length : Int) - 1 - k by omega] at hy
      gi_wp2
      refine hR.mono ?_
      rintro e W3 (⟨rfl, hJ3, hk3⟩ | ⟨rfl, hJx3⟩)
      · gi_wp2
        go_roundw
        case rel => exact ⟨k + 1, _, by omega, by congr 1; push_cast; omega, by rw [Hid, List.map_append, hp.out, downs_succ]; rfl, hJ3, hnx.trans hk3⟩
        case measure => simp [intOf]; omega
      · gi_wp2
        refine bodyPost_ret (results_none rfl _ _ _) rfl ?_
        exact ⟨⟨_, rfl⟩, .inr ⟨_, ⟨k + 1, by omega, by rw [List.map_append, hp.out, downs_succ]; rfl⟩, hJx3⟩⟩
    · obtain rfl : k = xs.length := by omega
      gi_wp2
      go_end0
      exact ⟨⟨_, rfl⟩, .inl ⟨_, hp.out, hJs⟩⟩

set_option maxRecDepth 100000 in
set_option maxHeartbeats 1000000 in
theorem back1_nil_in (l Bs : Nat) (A : Option Addr) (c : Nat) {α : Type} (J : List α → World → Prop) (W : World) (hBs : W.cell? ⟨Bs, 0, none⟩ = some (.slice A 0 c)) (h0 : J [] W) :
    CallsIn Fence.wide 3 Tryd.prog 66 #[.func (.yield l) #[] #[], .pointer (some ⟨Bs, 0, none⟩)] W fun e W' => (∃ v, e = .returned v) ∧ J [] W' := by
  refine callsIn_of_wp Tryd.func66 rfl trivial ?_ rfl
  simp only [Tryd.ntmps66, List.size_toArray, List.length_cons, List.length_nil, Nat.reduceAdd, Nat.reduceSub, Array.replicate_succ, Array.replicate_zero, List.push_toArray, List.append_toArray, List.nil_append, List.cons_append]
  gi_wp2
  gi_loopw [3] (fun i wr => i = .int .i64 (-1) ∧ J [] wr) (fun _ _ => 0)
  case atStart => exact ⟨rfl, h0⟩
  case round =>
    obtain ⟨rfl, hJs⟩ := hrel
    gi_wp2
    go_end0
    exact ⟨⟨_, rfl⟩, hJs⟩

set_option maxHeartbeats 1000000 in
/-- slices.Backward: the slice is boxed; the function value has captured the box. -/
theorem back_in (a : Option Addr) (len cap : Nat) (w : World) :
    CallsIn Fence.wide 3 Tryd.prog 52 #[.slice a len cap] w fun e w' => e = .returned (.func (.func 66) #[] #[.pointer (some ⟨w.heap.size, 0, none⟩)]) ∧ w' = w.alloc (.cells #[.slice a len cap] 22) := by
  refine callsIn_of_wp Tryd.func52 rfl trivial ?_ rfl
  simp only [Tryd.ntmps52, List.size_toArray, List.length_cons, List.length_nil, Nat.reduceAdd, Nat.reduceSub, Array.replicate_succ, Array.replicate_zero, List.push_toArray, List.append_toArray, List.nil_append, List.cons_append]
  gi_wp2
  go_ret
  exact ⟨rfl, rfl⟩

/-- Its contract: all of the limbs, the last one first; or the first few of these. -/
theorem back_stops (Bs : Nat) (v : Value) (xs : List Nat) (w : World) (hBs : Bs < w.heap.size) (hc : w.cell? ⟨Bs, 0, none⟩ = some v) (hU : U w v xs) :
    SeqStopsK Fence.wide 3 Tryd.prog 66 #[.pointer (some ⟨Bs, 0, none⟩)] (encB xs) (Below w.heap.size) (fun ys => ys.map (·.1) = downs xs.length xs.length)
      (fun pre => ∃ k, k ≤ xs.length ∧ pre.map (·.1) = downs xs.length k) xs.length w := fun l J Jx W hW _ _ hY h0 => by
  have hc' := (hW.cell (p := ⟨Bs, 0, none⟩) hBs).trans hc
  obtain ⟨A, c, rfl, ⟨h1, h2⟩, hx, hr⟩ := hU
  rcases Nat.eq_zero_or_pos xs.length with h3 | h3
  · rw [h3] at hc'
    refine (back1_nil_in l Bs A c J W hc' h0).mono fun e W' ⟨he, hj⟩ => ⟨he, .inl ⟨[], by rw [h3]; rfl, hj⟩⟩
  · obtain ⟨ad, rfl, hb, hcell⟩ := hr h3
    exact back1_in l Bs ad c xs h2 w.heap.size hb J Jx hY W hBs hc' (fun j hj => (hW.cell (p := ad.add j) (by rw [addr_add_block]; exact hb)).trans (hcell j hj)) h0
end Go.Proofs.YtkmejhkdmnjbeaaDoor
/- walks -/
namespace Go.Proofs.YtkmejhkdmnjbeaaDoor
open Go.RowKit
set_option linter.unusedVariables false
set_option maxHeartbeats 400000

theorem cmpInt_calls (w : World) (x y : Int) :
    Calls Tryd.prog 51 #[.int .i64 x, .int .i64 y] w fun e w' => e = .returned (.int .i64 (cmpI x y)) ∧ w = w' := by
  by_cases h1 : x < y
  · have HF : Hid (cmpI x y = -1) := if_pos h1
    go_enter Tryd.func51, Tryd.ntmps51
    go_wp2
    go_ret
    exact ⟨by rw [HF.out]; rfl, rfl⟩
  · by_cases h2 : y < x
    · have HF : Hid (cmpI x y = 1) := by rw [Hid, cmpI, if_neg h1, if_pos h2]
      clear h1
      go_enter Tryd.func51, Tryd.ntmps51
      go_wp2
      go_ret
      exact ⟨by rw [HF.out]; rfl, rfl⟩
    · have HF : Hid (cmpI x y = 0) := by rw [Hid, cmpI, if_neg h1, if_neg h2]
      go_enter Tryd.func51, Tryd.ntmps51
      go_wp2
      go_ret
      exact ⟨by rw [HF.out]; rfl, rfl⟩

theorem cmpU32_calls (w : World) (x y : Int) :
    Calls Tryd.prog 53 #[.int .u32 x, .int .u32 y] w fun e w' => e = .returned (.int .i64 (cmpI x y)) ∧ w = w' := by
  by_cases h1 : x < y
  · have HF : Hid (cmpI x y = -1) := if_pos h1
    go_enter Tryd.func53, Tryd.ntmps53
    go_wp2
    go_ret
    exact ⟨by rw [HF.out]; rfl, rfl⟩
  · by_cases h2 : y < x
    · have HF : Hid (cmpI x y = 1) := by rw [Hid, cmpI, if_neg h1, if_pos h2]
      clear h1
      go_enter Tryd.func53, Tryd.ntmps53
      go_wp2
      go_ret
      exact ⟨by rw [HF.out]; rfl, rfl⟩
    · have HF : Hid (cmpI x y = 0) := by rw [Hid, cmpI, if_neg h1, if_neg h2]
      go_enter Tryd.func53, Tryd.ntmps53
      go_wp2
      go_ret
      exact ⟨by rw [HF.out]; rfl, rfl⟩

end Go.Proofs.YtkmejhkdmnjbeaaDoor
/- nat.Cmp. -/
namespace Go.Proofs.YtkmejhkdmnjbeaaDoor
open Go.RowKit Go.Shelf
set_option linter.unusedVariables false
attribute [local go_sem] Oper.semAt_some

set_option maxRecDepth 100000 in
set_option maxHeartbeats 2000000 in
theorem cmp_same (w : World) (v u : Value) (n m : Nat) (h : Un w v n) (g : Un w u m) (hl : (limbs n).length = (limbs m).length) :
    CallsIn Fence.wide 4 Tryd.prog 33 #[v, u] w fun e w' => e = .returned (.int .i64 (cmpI n m)) ∧ Below w.heap.size w w' := by
  obtain ⟨A, c, rfl, ⟨hc, hm⟩, hx, hr⟩ := id h
  obtain ⟨A2, c2, rfl, ⟨hc2, hm2⟩, hx2, hr2⟩ := id g
  have hl1 : ((((limbs n).length : Nat) : Int) != (((limbs m).length : Nat) : Int)) = false := by rw [bne_eq_false_iff_eq, hl]
  have HL := Lib.hid hl
  clear hl
  refine callsIn_of_wp_marks Tryd.func33 rfl trivial ?_ rfl
  simp only [Tryd.ntmps33, List.size_toArray, List.length_cons, List.length_nil, Nat.reduceAdd, Nat.reduceSub, Array.replicate_succ, Array.replicate_zero, List.push_toArray, List.append_toArray, List.nil_append, List.cons_append]
  gi_wp2_with (refine ⟨trivial, ?_⟩; gi_at_call 52; refine (back_in _ _ _ _).mono ?_; rintro e w' ⟨rfl, rfl⟩)
  obtain ⟨W0, hW0⟩ : ∃ W0, ((w.alloc (.cells #[.slice A2 (limbs m).length c2] 22)).alloc (.cells #[.int .i64 0] 3)).alloc (.cells #[.slice A (limbs n).length c] 22) = W0 := ⟨_, rfl⟩
  have hB0 : Below w.heap.size w W0 := by rw [← hW0]; exact (((Below.refl _ w).alloc (Nat.le_refl _) _).alloc (by simp) _).alloc (by simp; omega) _
  have hsz : W0.heap.size = w.heap.size + 1 + 1 + 1 := by rw [← hW0]; simp
  have bB : Boxed W0 w.heap.size 22 (.slice A2 (limbs m).length c2) := by rw [← hW0]; exact ((Boxed.new w 22 _).alloc _).alloc _
  have bR : Boxed W0 (w.heap.size + 1) 3 (.int .i64 0) := by
    rw [← hW0]
    have := (Boxed.new (w.alloc (.cells #[.slice A2 (limbs m).length c2] 22)) 3 (.int .i64 0)).alloc (.cells #[.slice A (limbs n).length c] 22)
    rwa [World.size_alloc] at this
  have bA : W0.cell? ⟨w.heap.size + 1 + 1, 0, none⟩ = some (.slice A (limbs n).length c) := by
    rw [← hW0]
    have := (Boxed.new ((w.alloc (.cells #[.slice A2 (limbs m).length c2] 22)).alloc (.cells #[.int .i64 0] 3)) 22 (.slice A (limbs n).length c)).cell
    rwa [World.size_alloc, World.size_alloc] at this
  rw [hW0]
  clear hW0
  refine wpIn_rangeFunc_ownG rfl (by omega) (gf := 66) (lb := #[.pointer (some ⟨w.heap.size + 1 + 1, 0, none⟩)]) rfl trivial (enters_of Tryd.func66 (by kernel_rfl) rfl)
    (back_stops (w.heap.size + 1 + 1) _ (limbs n) W0 (by omega) bA (h.below hB0)) belowK_t (belowK_b (Nat.le_refl _)) (Below.refl _ _) (fun _ => rfl)
    (fun pre W => ((∀ p ∈ pre, lb (limbs n) p.1 = lb (limbs m) p.1) ∧ W.cell? ⟨w.heap.size, 0, none⟩ = some (.slice A2 (limbs m).length c2) ∧ W.cell? ⟨w.heap.size + 1, 0, none⟩ = some (.int .i64 0) ∧ W.frozen? ⟨w.heap.size + 1, 0, none⟩ = false) ∧ Below w.heap.size w W)
    (fun c pre W => (c = .ret ∧ ∃ ini last, pre = ini ++ [last] ∧ (∀ p ∈ ini, lb (limbs n) p.1 = lb (limbs m) p.1) ∧ lb (limbs n) last.1 ≠ lb (limbs m) last.1 ∧ W.cell? ⟨w.heap.size + 1, 0, none⟩ = some (.int .i64 (cmpI (lb (limbs n) last.1) (lb (limbs m) last.1)))) ∧ Below w.heap.size w W)
    (OwnFrom.and (Own.from (fun s A B row hs hg hr => ⟨hs.1, cell_kept hs.2.1 hg hr, cell_kept hs.2.2.1 hg hr, (frozen_kept hs.2.2.1 hg hr).trans hs.2.2.2⟩) _) (ownFrom_below (Nat.le_refl _) (by omega)))
    (fun c => OwnFrom.and (Own.from (fun s A B row hs hg hr => by obtain ⟨hc, ini, last, e1, e2, e3, e4⟩ := hs; exact ⟨hc, ini, last, e1, e2, e3, cell_kept e4 hg hr⟩) _) (ownFrom_below (Nat.le_refl _) (by omega)))
    ⟨⟨by simp, bB.cell, bR.cell, bR.frozen⟩, hB0⟩
    (fun x => { tmps := #[.slice A (limbs n).length c, .slice A2 (limbs m).length c2, undef, .pointer (some ⟨w.heap.size, 0, none⟩), .pointer (some ⟨w.heap.size + 1, 0, none⟩), .int .i64 (x.1 : Int), .int .u32 ((lb (limbs n) x.1 : Nat) : Int), .slice A (limbs n).length c, .int .i64 ((limbs n).length : Nat), .slice A2 (limbs m).length c2, .int .i64 ((limbs m).length : Nat), .bool false, undef, undef, undef, undef, undef, .slice A (limbs n).length c, .func (.func 66) #[] #[.pointer (some ⟨w.heap.size + 1 + 1, 0, none⟩)], .int .i64 (x.1 : Int), .int .u32 ((lb (limbs n) x.1 : Nat) : Int), undef, undef, undef, undef, undef, undef, undef, undef, undef, undef, undef, undef], defers := [] }) ?assign ?body ?done ?stop
  case assign =>
    intro l x W K hK
    gi_wp2
    exact hK
  case body =>
    rintro l pre x W ⟨⟨hp, hcb, hcr, hfr⟩, hB⟩ _
    obtain ⟨ad2, rfl, hb2, hcell2⟩ := hr2 (by have := x.2; have := HL.out; omega)
    have hlt2 : ((x.1 : Nat) : Int) < (limbs m).length := by have := x.2; have := HL.out; omega
    have hc2 := (hB.cell (p := ad2.add x.1) (by rw [addr_add_block]; exact hb2)).trans (hcell2 x.1 (by have := x.2; have := HL.out; omega))
    by_cases he : lb (limbs n) x.1 = lb (limbs m) x.1
    · have ht : ((((lb (limbs n) x.1 : Nat)) : Int) != ((lb (limbs m) x.1 : Nat) : Int)) = false := by rw [bne_eq_false_iff_eq, he]
      have HX := Lib.hid he
      clear he
      gi_wp2
      exact ⟨KeepsFrom.refl _ _, Below.refl _ _, ⟨fun p hp' => (List.mem_append.1 hp').elim (hp p) (fun e => by simp at e; subst e; exact HX.out), hcb, hcr, hfr⟩, hB⟩
    · have ht : ((((lb (limbs n) x.1 : Nat)) : Int) != ((lb (limbs m) x.1 : Nat) : Int)) = true := by rw [bne_iff_ne]; omega
      have HX := Lib.hid he
      clear he
      gi_wp2_with (refine ⟨trivial, ?_⟩; gi_at_call 53; refine (CallsIn.inRound l (callsIn_wide.2 (cmpU32_calls _ _ _))).mono ?_; rintro e w' ⟨rfl, rfl⟩)
      exact ⟨(KeepsOthers.setCell _ _ _).from _, ⟨rfl, pre, x, rfl, hp, HX.out, World.cell?_setCell_same' _ _ _ (by rw [hcr]; rfl)⟩, hB.setCell (p := ⟨w.heap.size + 1, 0, none⟩) (by simp) _⟩
  case done =>
    rintro D ys W hD hS ⟨⟨hne, hcb, hcr, hfr⟩, hB⟩ hK
    have hnm : n = m := limbs_inj (ext_lb HL.out fun j hj => by
      have : j ∈ ys.map (·.1) := by rw [hS, mem_downs (Nat.le_refl _)]; omega
      obtain ⟨p, hp, rfl⟩ := List.mem_map.1 this
      exact hne p hp)
    have HF : Hid (cmpI n m = 0) := by rw [Hid, hnm]; exact cmpI_eq _
    clear hnm hS
    gi_wp2
    have hK' := (KeepsOthers.setCell W ⟨w.heap.size + 1, 0, none⟩ (.int .i64 0)).same D _ hK rfl
    refine ⟨by simp, .inl ⟨_, _, rfl, run_takeDeferred hK', ?_⟩⟩
    have hc5 := cell_kept (World.cell?_setCell_same' W ⟨w.heap.size + 1, 0, none⟩ (.int .i64 0) (by rw [hcr]; rfl)) (grownBy_putObj' _ D (.deferred none)) (fun r e => by cases e; exact ⟨_, hK', rfl⟩)
    refine ⟨.int .i64 0, ?_, by rw [HF.out], (hB.setCell (p := ⟨w.heap.size + 1, 0, none⟩) (by simp) _).trans (belowK_b (w := w) (Nat.le_refl _) _ D _ _ (by omega) hK' rfl rfl)⟩
    simp [results, Tryd.f33, go_sem, hc5]
  case stop =>
    rintro D cc pre W hD ⟨k, hk, hpre⟩ ⟨⟨rfl, ini, last, e1, e2, e3, hcr⟩, hB⟩ hK
    have HF : Hid (cmpI (lb (limbs n) last.1) (lb (limbs m) last.1) = cmpI n m) := cmpI_top HL.out last.2 (fun j h1 h2 => by
      subst e1
      rw [List.map_append] at hpre
      have hl3 := congrArg List.length hpre
      rw [downs_length] at hl3
      simp at hl3
      have hk1 : k = (k - 1) + 1 := by omega
      rw [hk1, downs_succ] at hpre
      obtain ⟨q1, q2⟩ := List.append_inj' hpre rfl
      simp at q2
      have : j ∈ ini.map (·.1) := by rw [q1, mem_downs (by omega)]; omega
      obtain ⟨p, hp, rfl⟩ := List.mem_map.1 this
      exact e2 p hp) e3
    clear e1 e2 e3 hpre
    gi_wp2
    refine ⟨by simp, .inl ⟨_, _, rfl, run_takeDeferred hK, ?_⟩⟩
    have hc5 := cell_kept hcr (grownBy_putObj' _ D (.deferred none)) (fun r e => by cases e; exact ⟨_, hK, rfl⟩)
    refine ⟨.int .i64 (cmpI n m), ?_, rfl, hB.trans (belowK_b (w := w) (Nat.le_refl _) W D _ _ (by omega) hK rfl rfl)⟩
    rw [HF.out] at hc5
    simp [results, Tryd.f33, go_sem, hc5]

set_option maxRecDepth 100000 in
set_option maxHeartbeats 1000000 in
theorem cmp_calls (w : World) (v u : Value) (n m : Nat) (h : Un w v n) (g : Un w u m) :
    Calls Tryd.prog 33 #[v, u] w fun e w' => e = .returned (.int .i64 (cmpI n m)) ∧ Below w.heap.size w w' := by
  by_cases hl : (limbs n).length = (limbs m).length
  · exact callsIn_wide.1 (cmp_same w v u n m h g hl)
  · obtain ⟨A, c, rfl, ⟨hc, hm⟩, hx, hr⟩ := h
    obtain ⟨A2, c2, rfl, ⟨hc2, hm2⟩, hx2, hr2⟩ := g
    clear hr hr2
    have hl1 : ((((limbs n).length : Nat) : Int) != (((limbs m).length : Nat) : Int)) = true := by rw [bne_iff_ne]; omega
    have HF := Lib.hid (cmpI_len hl)
    clear hl
    go_enter Tryd.func33, Tryd.ntmps33
    go_wp2_with (go_at_call 51; refine (cmpInt_calls _ _ _).mono ?_; rintro e w' ⟨rfl, rfl⟩)
    refine bodyPost_ret (v := .int .i64 (cmpI (limbs n).length (limbs m).length)) (by simp [results, Tryd.f33, go_sem]) rfl ⟨by rw [HF.out], ((Below.refl _ w).alloc (Nat.le_refl _) _).alloc (by simp) _⟩
end Go.Proofs.YtkmejhkdmnjbeaaDoor
/- Sums and differences, limb by limb: plain lists and naturals. -/
namespace Go.Proofs.YtkmejhkdmnjbeaaDoor

/-- Two limbs. -/
abbrev P32 := { p : Nat × Nat // p.1 < 4294967296 ∧ p.2 < 4294967296 }

/-- The limbs of two rows, place by place, as many as the first one has. -/
def pairsL (xs ys : List Nat) (k : Nat) : List (Nat × Nat) := (List.range k).map fun j => (lb xs j, lb ys j)
theorem pairsL_succ (xs ys : List Nat) (k : Nat) : pairsL xs ys (k + 1) = pairsL xs ys k ++ [(lb xs k, lb ys k)] := by simp [pairsL, List.range_succ]
theorem pairsL_length (xs ys : List Nat) (k : Nat) : (pairsL xs ys k).length = k := by simp [pairsL]

def firsts (l : List P32) : List Nat := l.map (·.1.1)
def seconds (l : List P32) : List Nat := l.map (·.1.2)

theorem range_lb (xs : List Nat) (L : Nat) (h : xs.length ≤ L) : val ((List.range L).map fun j => lb xs j) = val xs := by
  rw [← val_take ((List.range L).map fun j => lb xs j) xs.length]
  · congr 1
    apply ext_lb
    · simp; omega
    · intro j hj
      simp at hj
      rw [lb_take (by omega)]
      simp [lb, show j < L by omega]
  · intro j h1 h2
    simp at h2
    simp [h2, lb_out h1]

theorem firsts_all {l : List P32} {xs ys : List Nat} (h : l.map (·.1) = pairsL xs ys xs.length) : val (firsts l) = val xs := by
  have : firsts l = (List.range xs.length).map fun j => lb xs j := by
    have := congrArg (List.map Prod.fst) h
    simpa [firsts, pairsL, List.map_map, Function.comp_def] using this
  rw [this, range_lb _ _ (Nat.le_refl _)]
theorem seconds_all {l : List P32} {xs ys : List Nat} (h : l.map (·.1) = pairsL xs ys xs.length) (hl : ys.length ≤ xs.length) : val (seconds l) = val ys := by
  have : seconds l = (List.range xs.length).map fun j => lb ys j := by
    have := congrArg (List.map Prod.snd) h
    simpa [seconds, pairsL, List.map_map, Function.comp_def] using this
  rw [this, range_lb _ _ hl]

/-- The limbs of a sum so far, and what is carried. -/
structure AddInv (pre : List P32) (o : List Nat) (c : Nat) : Prop where
  len : o.length = pre.length
  lt : ∀ x ∈ o, x < 4294967296
  carry : c ≤ 1
  val_eq : val o + c * 4294967296 ^ pre.length = val (firsts pre) + val (seconds pre)

theorem AddInv.start : AddInv [] [] 0 := ⟨rfl, by simp, by omega, by simp [firsts, seconds, val]⟩

theorem AddInv.step {pre : List P32} {o : List Nat} {c : Nat} (h : AddInv pre o c) (p : P32) :
    AddInv (pre ++ [p]) (o ++ [(p.1.1 + p.1.2 + c) % 4294967296]) ((p.1.1 + p.1.2 + c) / 4294967296) := by
  have h1 := p.2.1
  have h2 := p.2.2
  have h3 := h.carry
  refine ⟨by simp [h.len], snoc_lt h.lt (Nat.mod_lt _ (by decide)), by omega, ?_⟩
  have e1 : firsts (pre ++ [p]) = firsts pre ++ [p.1.1] := by simp [firsts]
  have e2 : seconds (pre ++ [p]) = seconds pre ++ [p.1.2] := by simp [seconds]
  have l1 : (firsts pre).length = pre.length := by simp [firsts]
  have l2 : (seconds pre).length = pre.length := by simp [seconds]
  rw [e1, e2, val_append, val_append, val_append, l1, l2, h.len]
  simp only [val, Nat.mul_zero, Nat.add_zero, List.length_append, List.length_singleton, Nat.pow_succ]
  have e := h.val_eq
  generalize 4294967296 ^ pre.length = B at *
  have e3 : (p.1.1 + p.1.2 + c) = (p.1.1 + p.1.2 + c) % 4294967296 + (p.1.1 + p.1.2 + c) / 4294967296 * 4294967296 := by omega
  have e4 : (p.1.1 + p.1.2 + c) * B = (p.1.1 + p.1.2 + c) % 4294967296 * B + (p.1.1 + p.1.2 + c) / 4294967296 * 4294967296 * B := by
    conv => lhs; rw [e3]
    rw [Nat.add_mul]
  rw [Nat.add_mul, Nat.add_mul] at e4
  have e5 : (p.1.1 + p.1.2 + c) / 4294967296 * (B * 4294967296) = (p.1.1 + p.1.2 + c) / 4294967296 * 4294967296 * B := by
    rw [Nat.mul_comm B 4294967296, ← Nat.mul_assoc]
  rw [e5, Nat.mul_comm B, Nat.mul_comm B, Nat.mul_comm B]
  omega

theorem AddInv.done {pre : List P32} {o : List Nat} {c : Nat} (h : AddInv pre o c) {xs ys : List Nat} (hp : pre.map (·.1) = pairsL xs ys xs.length) (hl : ys.length ≤ xs.length) :
    val (o ++ [c]) = val xs + val ys := by
  rw [val_append, ← firsts_all hp, ← seconds_all hp hl, ← h.val_eq, h.len]
  simp only [val, Nat.mul_zero, Nat.add_zero]
  rw [Nat.mul_comm c]

/-- The limbs of a difference so far, and what is borrowed. -/
structure SubInv (pre : List P32) (o : List Nat) (c : Nat) : Prop where
  len : o.length = pre.length
  lt : ∀ x ∈ o, x < 4294967296
  carry : c ≤ 1
  val_eq : val o + val (seconds pre) = val (firsts pre) + c * 4294967296 ^ pre.length

theorem SubInv.start : SubInv [] [] 0 := ⟨rfl, by simp, by omega, by simp [firsts, seconds, val]⟩

def subD (x y c : Nat) : Nat := (x + 4294967296 + 4294967296 - y - c) % 4294967296
def subC (x y c : Nat) : Nat := if x < y + c then 1 else 0

theorem sub_step (x y c : Nat) (h1 : x < 4294967296) (h2 : y < 4294967296) (h3 : c ≤ 1) : subD x y c + y + c = x + subC x y c * 4294967296 := by
  unfold subD subC
  split
  · rename_i h
    have e : (x + 4294967296 + 4294967296 - y - c) % 4294967296 = x + 4294967296 - y - c := by
      rw [show x + 4294967296 + 4294967296 - y - c = (x + 4294967296 - y - c) + 4294967296 by omega, Nat.add_mod_right, Nat.mod_eq_of_lt (by omega)]
    rw [e]; omega
  · rename_i h
    have e : (x + 4294967296 + 4294967296 - y - c) % 4294967296 = x - y - c := by
      rw [show x + 4294967296 + 4294967296 - y - c = (x - y - c) + 4294967296 + 4294967296 by omega, Nat.add_mod_right, Nat.add_mod_right, Nat.mod_eq_of_lt (by omega)]
    rw [e]; omega

theorem subD_lt (x y c : Nat) : subD x y c < 4294967296 := by
  unfold subD
  exact Nat.mod_lt _ (by decide)
theorem subC_le (x y c : Nat) : subC x y c ≤ 1 := by unfold subC; split <;> omega

theorem val_one (x : Nat) : val [x] = x := rfl
theorem SubInv.step {pre : List P32} {o : List Nat} {c : Nat} (h : SubInv pre o c) (p : P32) :
    SubInv (pre ++ [p]) (o ++ [subD p.1.1 p.1.2 c]) (subC p.1.1 p.1.2 c) := by
  have h1 := p.2.1
  have h2 := p.2.2
  have h3 := h.carry
  have hs := sub_step p.1.1 p.1.2 c h1 h2 h3
  have k1 := subD_lt p.1.1 p.1.2 c
  have k2 := subC_le p.1.1 p.1.2 c
  generalize subD p.1.1 p.1.2 c = d at *
  generalize subC p.1.1 p.1.2 c = f at *
  refine ⟨by simp [h.len], snoc_lt h.lt k1, k2, ?_⟩
  have e1 : firsts (pre ++ [p]) = firsts pre ++ [p.1.1] := by simp [firsts]
  have e2 : seconds (pre ++ [p]) = seconds pre ++ [p.1.2] := by simp [seconds]
  have l1 : (firsts pre).length = pre.length := by simp [firsts]
  have l2 : (seconds pre).length = pre.length := by simp [seconds]
  rw [e1, e2, val_append, val_append, val_append, l1, l2, h.len, val_one, val_one, val_one, List.length_append, List.length_singleton, Nat.pow_succ]
  have e := h.val_eq
  generalize 4294967296 ^ pre.length = B at *
  have e4 : (d + p.1.2 + c) * B = (p.1.1 + f * 4294967296) * B := by rw [hs]
  rw [Nat.add_mul, Nat.add_mul, Nat.add_mul] at e4
  have e5 : f * (B * 4294967296) = f * 4294967296 * B := by
    rw [Nat.mul_comm B 4294967296, ← Nat.mul_assoc]
  rw [e5, Nat.mul_comm B, Nat.mul_comm B, Nat.mul_comm B]
  omega

theorem SubInv.done {pre : List P32} {o : List Nat} {c : Nat} (h : SubInv pre o c) {xs ys : List Nat} (hp : pre.map (·.1) = pairsL xs ys xs.length) (hl : ys.length ≤ xs.length) (hge : val ys ≤ val xs) :
    val o = val xs - val ys := by
  have e := h.val_eq
  rw [firsts_all hp, seconds_all hp hl] at e
  have hlt := val_lt o h.lt
  rw [h.len] at hlt
  have hc := h.carry
  generalize 4294967296 ^ pre.length = B at *
  have : c = 0 ∨ c = 1 := by omega
  rcases this with rfl | rfl <;> omega
end Go.Proofs.YtkmejhkdmnjbeaaDoor
/- The closures of nat.Add and nat.Sub. -/
namespace Go.Proofs.YtkmejhkdmnjbeaaDoor
open Go.RowKit Go.Shelf
set_option linter.unusedVariables false
set_option maxHeartbeats 400000

theorem add32_calls (w : World) (x y c : Nat) (hx : x < 4294967296) (hy : y < 4294967296) (hc : c ≤ 1) :
    Calls Tryd.prog 63 #[.int .u32 x, .int .u32 y, .int .u32 c] w fun e w' => e = .returned (.tuple #[.int .u32 ((x + y + c) % 4294967296 : Nat), .int .u32 ((x + y + c) / 4294967296 : Nat)]) ∧ w = w' := by
  have h1 : ((x : Nat) : Int) < 4294967296 := by omega
  have h2 : ((y : Nat) : Int) < 4294967296 := by omega
  have h3 : ((c : Nat) : Int) ≤ 1 := by omega
  clear hx hy hc
  go_enter Tryd.func63, Tryd.ntmps63
  go_wp2
  go_ret2
  exact ⟨by rw [Int.natCast_emod, Int.natCast_ediv, Int.natCast_add, Int.natCast_add]; rfl, rfl⟩

theorem top_bit (n : Nat) (h : n < 4294967296) : n / 2147483648 = if n.testBit 31 then 1 else 0 := by
  have e : n.testBit 31 = decide (2147483648 ≤ n) := by
    rw [Nat.testBit_eq_decide_div_mod_eq]
    have h2 : n / 2 ^ 31 < 2 := by rw [Nat.div_lt_iff_lt_mul (by decide)]; exact h
    rw [Nat.mod_eq_of_lt h2, Bool.eq_iff_iff, decide_eq_true_iff, decide_eq_true_iff]
    simp only [Nat.reducePow]
    constructor <;> intro g <;> omega
  rw [e]
  by_cases hn : 2147483648 ≤ n
  · rw [decide_eq_true hn, if_pos rfl]; omega
  · rw [decide_eq_false hn, if_neg (by decide)]; omega

theorem test31 (n : Nat) (h : n < 4294967296) : n.testBit 31 = decide (2147483648 ≤ n) := by
  rw [Nat.testBit_eq_decide_div_mod_eq]
  have h2 : n / 2 ^ 31 < 2 := by rw [Nat.div_lt_iff_lt_mul (by decide)]; exact h
  rw [Nat.mod_eq_of_lt h2, Bool.eq_iff_iff, decide_eq_true_iff, decide_eq_true_iff]
  simp only [Nat.reducePow]
  constructor <;> intro g <;> omega

theorem borrow_nat (x y c : Nat) (hx : x < 4294967296) (hy : y < 4294967296) (hc : c ≤ 1) :
    (((4294967295 ^^^ x) &&& y) ||| ((4294967295 ^^^ (x ^^^ y)) &&& subD x y c)) / 2147483648 = subC x y c := by
  have hd := subD_lt x y c
  have hs := sub_step x y c hx hy hc
  have p32 : (4294967296 : Nat) = 2 ^ 32 := rfl
  have b1 : ((4294967295 ^^^ x) &&& y) < 4294967296 := Nat.lt_of_le_of_lt Nat.and_le_right hy
  have b2 : ((4294967295 ^^^ (x ^^^ y)) &&& subD x y c) < 4294967296 := Nat.lt_of_le_of_lt Nat.and_le_right hd
  have b3 : (((4294967295 ^^^ x) &&& y) ||| ((4294967295 ^^^ (x ^^^ y)) &&& subD x y c)) < 4294967296 := by
    rw [p32] at b1 b2 ⊢; exact Nat.or_lt_two_pow b1 b2
  rw [top_bit _ b3]
  have hc2 := subC_le x y c
  have t : (4294967295 : Nat).testBit 31 = true := by decide
  rw [Nat.testBit_or, Nat.testBit_and, Nat.testBit_and, Nat.testBit_xor, Nat.testBit_xor, Nat.testBit_xor, t, test31 x hx, test31 y hy, test31 _ hd]
  generalize subD x y c = d at *
  have hC : subC x y c = 0 ∧ y + c ≤ x ∨ subC x y c = 1 ∧ x < y + c := by
    unfold subC
    split
    · right; omega
    · left; omega
  generalize subC x y c = f at *
  by_cases g1 : 2147483648 ≤ x <;> by_cases g2 : 2147483648 ≤ y <;> by_cases g3 : 2147483648 ≤ d <;> simp [g1, g2, g3] <;> omega

theorem sub_cast (x y c : Nat) (hx : x < 4294967296) (hy : y < 4294967296) (hc : c ≤ 1) : (((x : Nat) : Int) - (y : Nat) - (c : Nat)) % 4294967296 = ((subD x y c : Nat) : Int) := by
  have hs := sub_step x y c hx hy hc
  have hd := subD_lt x y c
  have hc2 := subC_le x y c
  generalize subD x y c = d at *
  generalize subC x y c = f at *
  omega

theorem borrow_cast (x y c : Nat) (hx : x < 4294967296) (hy : y < 4294967296) (hc : c ≤ 1) :
    bits .or .u32 (bits .and .u32 (bits .xor .u32 IntKind.u32.max ((x : Nat) : Int)) ((y : Nat) : Int)) (bits .and .u32 (bits .xor .u32 IntKind.u32.max (bits .xor .u32 ((x : Nat) : Int) ((y : Nat) : Int))) ((((x : Nat) : Int) - (y : Nat) - (c : Nat)) % 4294967296)) / 2147483648 = ((subC x y c : Nat) : Int) := by
  have hd := subD_lt x y c
  have p32 : (4294967296 : Nat) = 2 ^ 32 := rfl
  have b0 : (x ^^^ y) < 4294967296 := by rw [p32] at hx hy ⊢; exact Nat.xor_lt_two_pow hx hy
  have b4 : (4294967295 ^^^ x) < 4294967296 := by rw [p32] at hx ⊢; exact Nat.xor_lt_two_pow (by decide) hx
  have b5 : (4294967295 ^^^ (x ^^^ y)) < 4294967296 := by rw [p32] at b0 ⊢; exact Nat.xor_lt_two_pow (by decide) b0
  have b1 : ((4294967295 ^^^ x) &&& y) < 4294967296 := Nat.lt_of_le_of_lt Nat.and_le_right hy
  have b2 : ((4294967295 ^^^ (x ^^^ y)) &&& subD x y c) < 4294967296 := Nat.lt_of_le_of_lt Nat.and_le_right hd
  have em : IntKind.u32.max = ((4294967295 : Nat) : Int) := by decide
  rw [sub_cast x y c hx hy hc, em, u32_xor_nat _ _ (by decide) hx, u32_and_nat _ _ b4 hy, u32_xor_nat _ _ hx hy, u32_xor_nat _ _ (by decide) b0, u32_and_nat _ _ b5 hd, u32_or_nat _ _ b1 b2, ← borrow_nat x y c hx hy hc, Int.natCast_ediv]
  rfl

theorem sub32_calls (w : World) (x y c : Nat) (hx : x < 4294967296) (hy : y < 4294967296) (hc : c ≤ 1) :
    Calls Tryd.prog 69 #[.int .u32 x, .int .u32 y, .int .u32 c] w fun e w' => e = .returned (.tuple #[.int .u32 (subD x y c : Nat), .int .u32 (subC x y c : Nat)]) ∧ w = w' := by
  have H1 := Lib.hid (sub_cast x y c hx hy hc)
  have H2 := Lib.hid (borrow_cast x y c hx hy hc)
  clear hx hy hc
  go_enter Tryd.func69, Tryd.ntmps69
  go_wp2
  go_ret2
  exact ⟨by rw [← H1.out, ← H2.out]; rfl, rfl⟩

theorem adder1_calls (w : World) (x y c b : Nat) (hx : x < 4294967296) (hy : y < 4294967296) (hc : c ≤ 1) (hcell : w.cell? ⟨b, 0, none⟩ = some (.int .u32 c)) (hf : w.frozen? ⟨b, 0, none⟩ = false) :
    Calls Tryd.prog 62 #[.int .u32 x, .int .u32 y, .pointer (some ⟨b, 0, none⟩)] w fun e w' => e = .returned (.int .u32 ((x + y + c) % 4294967296 : Nat)) ∧ w' = w.setCell ⟨b, 0, none⟩ (.int .u32 ((x + y + c) / 4294967296 : Nat)) := by
  have H1 := Lib.hid hx
  have H2 := Lib.hid hy
  have H3 := Lib.hid hc
  clear hx hy hc
  go_enter Tryd.func62, Tryd.ntmps62
  go_wp2_with (go_at_call 63; refine (add32_calls _ x y c H1.out H2.out H3.out).mono ?_; rintro e w' ⟨rfl, rfl⟩)
  go_ret
  exact ⟨by rw [Int.natCast_emod, Int.natCast_add, Int.natCast_add]; rfl, by rw [Int.natCast_ediv, Int.natCast_add, Int.natCast_add]; rfl⟩

theorem taker1_calls (w : World) (x y c b : Nat) (hx : x < 4294967296) (hy : y < 4294967296) (hc : c ≤ 1) (hcell : w.cell? ⟨b, 0, none⟩ = some (.int .u32 c)) (hf : w.frozen? ⟨b, 0, none⟩ = false) :
    Calls Tryd.prog 68 #[.int .u32 x, .int .u32 y, .pointer (some ⟨b, 0, none⟩)] w fun e w' => e = .returned (.int .u32 (subD x y c : Nat)) ∧ w' = w.setCell ⟨b, 0, none⟩ (.int .u32 (subC x y c : Nat)) := by
  have H1 := Lib.hid hx
  have H2 := Lib.hid hy
  have H3 := Lib.hid hc
  clear hx hy hc
  go_enter Tryd.func68, Tryd.ntmps68
  go_wp2_with (go_at_call 69; refine (sub32_calls _ x y c H1.out H2.out H3.out).mono ?_; rintro e w' ⟨rfl, rfl⟩)
  go_ret
  exact ⟨rfl, rfl⟩

theorem adder_calls (w : World) : Calls Tryd.prog 48 #[] w fun e w' => e = .returned (.func (.func 62) #[] #[.pointer (some ⟨w.heap.size, 0, none⟩)]) ∧ w' = w.alloc (.cells #[.int .u32 0] 35) := by
  go_enter Tryd.func48, Tryd.ntmps48
  go_wp2
  go_ret
  exact ⟨rfl, rfl⟩
theorem taker_calls (w : World) : Calls Tryd.prog 54 #[] w fun e w' => e = .returned (.func (.func 68) #[] #[.pointer (some ⟨w.heap.size, 0, none⟩)]) ∧ w' = w.alloc (.cells #[.int .u32 0] 35) := by
  go_enter Tryd.func54, Tryd.ntmps54
  go_wp2
  go_ret
  exact ⟨rfl, rfl⟩
theorem pairs_calls (w : World) (a b : Option Addr) (l l' c c' : Nat) :
    Calls Tryd.prog 49 #[.slice a l c, .slice b l' c'] w fun e w' => e = .returned (.func (.func 64) #[] #[.pointer (some ⟨w.heap.size + 1, 0, none⟩), .pointer (some ⟨w.heap.size, 0, none⟩)]) ∧ w' = (w.alloc (.cells #[.slice a l c] 22)).alloc (.cells #[.slice b l' c'] 22) := by
  go_enter Tryd.func49, Tryd.ntmps49
  go_wp2
  go_ret
  exact ⟨rfl, rfl⟩
end Go.Proofs.YtkmejhkdmnjbeaaDoor
/- The iterator of nat.Add and nat.Sub: limbs place by place. -/
namespace Go.Proofs.YtkmejhkdmnjbeaaDoor
open Go.RowKit Go.Shelf
set_option linter.unusedVariables false
attribute [local go_sem] Oper.semAt_some

abbrev encP (p : P32) : Array Value := #[.int .u32 (p.1.1 : Int), .int .u32 (p.1.2 : Int)]

def mkP {xs ys : List Nat} (hx : ∀ x ∈ xs, x < 4294967296) (hy : ∀ x ∈ ys, x < 4294967296) (j : Nat) : P32 := ⟨(lb xs j, lb ys j), lb_lt hx j, lb_lt hy j⟩

/-- What a round keeps: whatever lay below n₀, and two boxes. -/
structure KpP (n₀ Ba Bb : Nat) (W W' : World) : Prop where
  bel : Below n₀ W W'
  ba : W'.heap[Ba]? = W.heap[Ba]?
  bb : W'.heap[Bb]? = W.heap[Bb]?
theorem KpP.refl (n₀ Ba Bb : Nat) (W : World) : KpP n₀ Ba Bb W W := ⟨Below.refl _ _, rfl, rfl⟩
theorem KpP.trans {n₀ Ba Bb : Nat} {A B C : World} (h : KpP n₀ Ba Bb A B) (k : KpP n₀ Ba Bb B C) : KpP n₀ Ba Bb A C := ⟨h.bel.trans k.bel, k.ba.trans h.ba, k.bb.trans h.bb⟩
theorem kpP_b {n₀ Ba Bb : Nat} {w : World} (hn : n₀ ≤ w.heap.size) (ha : Ba < w.heap.size) (hb : Bb < w.heap.size) (W : World) (l : Nat) (o o' : Obj) (hl : w.heap.size ≤ l) (h : W.heap[l]? = some o) (h1 : o.isCells = false) (h2 : o.isWalk = false) : KpP n₀ Ba Bb W (W.putObj l o') := by
  have hg := grownBy_putObj' W l o'
  have hlt := (Array.getElem?_eq_some_iff.1 h).1
  exact ⟨belowK_b hn W l o o' hl h h1 h2, hg.block Ba (by omega) (fun e => by injection e with e; omega), hg.block Bb (by omega) (fun e => by injection e with e; omega)⟩

set_option maxRecDepth 100000 in
set_option maxHeartbeats 4000000 in
theorem pairs1_in (l Ba Bb : Nat) (A A2 : Option Addr) (c c2 : Nat) (xs ys : List Nat) (hle : ys.length ≤ xs.length) (n₀ : Nat) (W : World)
    (hUa : U W (.slice A xs.length c) xs) (hUb : U W (.slice A2 ys.length c2) ys) (hba : ∀ ad, A = some ad → 0 < xs.length → ad.block < n₀) (hbb : ∀ ad, A2 = some ad → 0 < ys.length → ad.block < n₀) (J Jx : List P32 → World → Prop)
    (hY : ∀ pre x W, J pre W → pre.length < xs.length → YieldAt Fence.wide 2 Tryd.prog l (encP x) W fun e W' =>
      (e = .returned (.bool true) ∧ J (pre ++ [x]) W' ∧ KpP n₀ Ba Bb W W') ∨ (e = .returned (.bool false) ∧ Jx (pre ++ [x]) W'))
    (hca : W.cell? ⟨Ba, 0, none⟩ = some (.slice A xs.length c)) (hcb : W.cell? ⟨Bb, 0, none⟩ = some (.slice A2 ys.length c2)) (h0 : J [] W) :
    CallsIn Fence.wide 3 Tryd.prog 64 #[.func (.yield l) #[] #[], .pointer (some ⟨Bb, 0, none⟩), .pointer (some ⟨Ba, 0, none⟩)] W fun e W' => (∃ v, e = .returned v) ∧
      ((∃ l, l.map (·.1) = pairsL xs ys xs.length ∧ J l W') ∨ (∃ pre, True ∧ Jx pre W')) := by
  obtain ⟨_, _, hva, ⟨h1, h2⟩, hx, hr⟩ := hUa
  injection hva with e1 _ e3
  subst e1 e3
  obtain ⟨_, _, hvb, ⟨h3, h4⟩, hy, hr2⟩ := hUb
  injection hvb with e1 _ e3
  subst e1 e3
  refine callsIn_of_wp Tryd.func64 rfl trivial ?_ rfl
  simp only [Tryd.ntmps64, List.size_toArray, List.length_cons, List.length_nil, Nat.reduceAdd, Nat.reduceSub, Array.replicate_succ, Array.replicate_zero, List.push_toArray, List.append_toArray, List.nil_append, List.cons_append]
  gi_wp2
  gi_loopw [10] (fun i wr => ∃ (k : Nat) (pre : List P32), k ≤ ys.length ∧ i = .int .i64 (k : Int) ∧ Hid (pre.map (·.1) = pairsL xs ys k) ∧ J pre wr ∧ KpP n₀ Ba Bb W wr)
    (fun i _ => ys.length - (intOf i).toNat)
  case atStart => exact ⟨0, [], Nat.zero_le _, rfl, rfl, h0, KpP.refl _ _ _ _⟩
  case round =>
    obtain ⟨k, pre, hk, rfl, hp, hJs, hnx⟩ := hrel
    have hca' := (World.cell?_of_block (w := W) (a := ⟨Ba, 0, none⟩) hnx.ba).trans hca
    have hcb' := (World.cell?_of_block (w := W) (a := ⟨Bb, 0, none⟩) hnx.bb).trans hcb
    by_cases hlt : k < ys.length
    · obtain ⟨ad, rfl, hb, hcell⟩ := hr (by omega)
      obtain ⟨ad2, rfl, hb2, hcell2⟩ := hr2 (by omega)
      have hc1 := (hnx.bel.cell (p := ad.add k) (by rw [addr_add_block]; exact hba ad rfl (by omega))).trans (hcell k (by omega))
      have hc2 := (hnx.bel.cell (p := ad2.add k) (by rw [addr_add_block]; exact hbb ad2 rfl (by omega))).trans (hcell2 k hlt)
      have hpl : pre.length = k := by have := congrArg List.length hp.out; simpa [pairsL] using this
      obtain ⟨fn, tmps, assign, body, hy1, hR⟩ := hY pre (mkP hx hy k) wr hJs (by omega)
      dsimp only [encP, mkP] at hy1
      have HP := Lib.hid hpl
      have hkx : ((k : Nat) : Int) < xs.length := by omega
      clear hpl
      gi_wp2
      refine hR.mono ?_
      rintro e W3 (⟨rfl, hJ3, hk3⟩ | ⟨rfl, hJx3⟩)
      · gi_wp2
        go_roundw
        case rel => exact ⟨k + 1, _, by omega, by go_num, by rw [Hid, List.map_append, hp.out, pairsL_succ]; rfl, hJ3, hnx.trans hk3⟩
        case measure => simp [intOf]; omega
      · gi_wp2
        refine bodyPost_ret (results_none rfl _ _ _) rfl ?_
        exact ⟨⟨_, rfl⟩, .inr ⟨_, trivial, hJx3⟩⟩
    · obtain rfl : k = ys.length := by omega
      rcases Nat.lt_or_ge ys.length xs.length with hl2 | hl2
      · obtain ⟨ad, rfl, hb, hcell⟩ := hr (by omega)
        have hcne : ¬ c = ys.length := by omega
        gi_wp2
        gi_loopw [29] (fun i wr => ∃ (k : Nat) (pre : List P32), k ≤ xs.length - ys.length ∧ i = .int .i64 (k : Int) ∧ Hid (pre.map (·.1) = pairsL xs ys (ys.length + k)) ∧ J pre wr ∧ KpP n₀ Ba Bb W wr)
          (fun i _ => xs.length - ys.length - (intOf i).toNat)
        case atStart => exact ⟨0, pre, Nat.zero_le _, rfl, hp, hJs, hnx⟩
        case round =>
          clear hp hJs hnx hca' hcb' pre
          obtain ⟨k, pre, hk, rfl, hp, hJs, hnx⟩ := hrel
          by_cases hlt : k < xs.length - ys.length
          · have hc1 : wr.cell? ((ad.add ys.length).add k) = some (.int .u32 ((lb xs (ys.length + k) : Nat) : Int)) := by
              rw [addr_add_add]
              exact (hnx.bel.cell (p := ad.add (ys.length + k)) (by rw [addr_add_block]; exact hba ad rfl (by omega))).trans (hcell _ (by omega))
            have hpl : pre.length = ys.length + k := by have := congrArg List.length hp.out; simpa [pairsL] using this
            obtain ⟨fn, tmps, assign, body, hy1, hR⟩ := hY pre (mkP hx hy (ys.length + k)) wr hJs (by omega)
            dsimp only [encP, mkP] at hy1
            rw [lb_out (show ys.length ≤ ys.length + k by omega), show (((0 : Nat)) : Int) = 0 from rfl] at hy1
            have HP := Lib.hid hpl
            clear hpl
            by_cases hk0 : k = 0
            · subst hk0
              rw [addr_add_zero, Nat.add_zero] at hc1
              rw [Nat.add_zero] at hy1
              gi_wp2
              refine hR.mono ?_
              rintro e W3 (⟨rfl, hJ3, hk3⟩ | ⟨rfl, hJx3⟩)
              · gi_wp2
                go_roundw
                case rel => exact ⟨1, _, by omega, by go_num, by rw [Hid, List.map_append, hp.out, pairsL_succ]; rfl, hJ3, hnx.trans hk3⟩
                case measure => simp [intOf]; omega
              · gi_wp2
                refine bodyPost_ret (results_none rfl _ _ _) rfl ?_
                exact ⟨⟨_, rfl⟩, .inr ⟨_, trivial, hJx3⟩⟩
            · gi_wp2
              refine hR.mono ?_
              rintro e W3 (⟨rfl, hJ3, hk3⟩ | ⟨rfl, hJx3⟩)
              · gi_wp2
                go_roundw
                case rel => exact ⟨k + 1, _, by omega, by go_num, by rw [Hid, List.map_append, hp.out, ← Nat.add_assoc, pairsL_succ]; rfl, hJ3, hnx.trans hk3⟩
                case measure => simp [intOf]; omega
              · gi_wp2
                refine bodyPost_ret (results_none rfl _ _ _) rfl ?_
                exact ⟨⟨_, rfl⟩, .inr ⟨_, trivial, hJx3⟩⟩
          · have HP : Hid (pre.map (·.1) = pairsL xs ys xs.length) := by rw [Hid, hp.out, show ys.length + k = xs.length by omega]
            gi_wp2
            go_end0
            exact ⟨⟨_, rfl⟩, .inl ⟨_, HP.out, hJs⟩⟩
      · have HP : Hid (pre.map (·.1) = pairsL xs ys xs.length) := by rw [Hid, hp.out, show ys.length = xs.length by omega]
        have hz : xs.length - ys.length = 0 := by omega
        have hxy : xs.length = ys.length := by omega
        have HJ := Lib.hid hJs
        clear hJs hp
        rw [hxy] at hca'
        clear hxy hz
        gi_wp2
        all_goals
          gi_loopw [29] (fun i wr => i = .int .i64 0 ∧ J pre wr) (fun _ _ => 0)
          case atStart => exact ⟨rfl, HJ.out⟩
          case round =>
            obtain ⟨rfl, hJs⟩ := hrel
            gi_wp2
            go_end0
            exact ⟨⟨_, rfl⟩, .inl ⟨_, HP.out, hJs⟩⟩

/-- Its contract: the limbs of both rows, place by place, as many as the first one has. -/
theorem pairs_stops (Ba Bb : Nat) (v u : Value) (xs ys : List Nat) (w0 w : World) (hB : Below w0.heap.size w0 w) (hle : ys.length ≤ xs.length) (hBa : Ba < w.heap.size) (hBb : Bb < w.heap.size)
    (hca : Boxed w Ba 22 v) (hcb : Boxed w Bb 22 u) (hU : U w0 v xs) (hV : U w0 u ys) :
    SeqStopsK Fence.wide 3 Tryd.prog 64 #[.pointer (some ⟨Bb, 0, none⟩), .pointer (some ⟨Ba, 0, none⟩)] encP (KpP w0.heap.size Ba Bb) (fun l => l.map (·.1) = pairsL xs ys xs.length)
      (fun pre => True) xs.length w := fun l J Jx W hW _ _ hY h0 => by
  obtain ⟨A, c, rfl, h1, hx, hr⟩ := id hU
  obtain ⟨A2, c2, rfl, h2, hy, hr2⟩ := id hV
  have hW' := hB.trans (hW.mono hB.size)
  exact pairs1_in l Ba Bb A A2 c c2 xs ys hle w0.heap.size W (hU.below hW') (hV.below hW')
    (fun ad e h0 => by obtain ⟨ad', e', hb, _⟩ := hr h0; rw [e] at e'; injection e' with e'; subst e'; exact hb)
    (fun ad e h0 => by obtain ⟨ad', e', hb, _⟩ := hr2 h0; rw [e] at e'; injection e' with e'; subst e'; exact hb) J Jx hY
    ((hW.cell (p := ⟨Ba, 0, none⟩) hBa).trans hca.cell) ((hW.cell (p := ⟨Bb, 0, none⟩) hBb).trans hcb.cell) h0
end Go.Proofs.YtkmejhkdmnjbeaaDoor
/- nat.Add. -/
namespace Go.Proofs.YtkmejhkdmnjbeaaDoor
open Go.RowKit Go.Shelf
set_option linter.unusedVariables false
attribute [local go_sem] Oper.semAt_some
attribute [local go_sem ↓] app_shut
attribute [local go_sem] run_append_tok

/-- What is kept between two rounds: the limbs so far, in a box; what is carried, in a box; the closure, in a box. -/
structure SumAt (w : World) (B g cap fn : Nat) (o : List Nat) (cy : Nat) (W : World) : Prop where
  box : Boxed W B 22 (.slice (some ⟨g, 0, none⟩) o.length cap)
  own : Own W g (.slice (some ⟨g, 0, none⟩) o.length cap) o
  car : Boxed W (B + 1) 35 (.int .u32 (cy : Nat))
  fnc : Boxed W (B + 2) 65 (.func (.func fn) #[] #[.pointer (some ⟨B + 1, 0, none⟩)])
  bel : Below w.heap.size w W
  siz : B + 5 ≤ W.heap.size

theorem boxed_row {X : World} {B : Nat} {t : TypeId} {v : Value} {row : Option Nat} (h : Boxed X B t v) (hr : ∀ r, row = some r → ∃ o : Obj, X.heap[r]? = some o ∧ o.isCells = false) : some B ≠ row := fun e => by
  obtain ⟨o, ho, hc⟩ := hr B e.symm
  rw [show X.heap[B]? = _ from h] at ho; cases ho; cases hc

theorem own_row {X : World} {base g c n : Nat} {e : TypeId} {xs : List Value} {row : Option Nat} (h : X.ownsRow base e 1 (.slice (some ⟨g, 0, none⟩) n c) n xs) (hr : ∀ r, row = some r → ∃ o : Obj, X.heap[r]? = some o ∧ o.isCells = false) : some g ≠ row := fun e' => by
  obtain ⟨o, ho, hc⟩ := hr g e'.symm
  rcases h.2 with ⟨h', _⟩ | ⟨g', cap', cur, h', _, hg, _⟩
  · cases h'
  · cases h'; rw [hg] at ho; cases ho; cases hc

theorem SumAt.grown {w X Y : World} {B g cap fn : Nat} {o : List Nat} {cy : Nat} {row : Option Nat} {B0 : Nat} (h : SumAt w B g cap fn o cy X) (hg : X.grownBy Y row)
    (hB0 : w.heap.size ≤ B0) (hr : ∀ r, row = some r → B0 ≤ r ∧ ∃ o : Obj, X.heap[r]? = some o ∧ o.isCells = false) : SumAt w B g cap fn o cy Y :=
  ⟨h.box.kept hg (boxed_row h.box fun r e => (hr r e).2), World.ownsRow.kept h.own hg (.inr (own_row h.own fun r e => (hr r e).2)),
   h.car.kept hg (boxed_row h.car fun r e => (hr r e).2), h.fnc.kept hg (boxed_row h.fnc fun r e => (hr r e).2),
   h.bel.grown hg h.bel.size (fun k e => Nat.le_trans hB0 (hr k e).1), Nat.le_trans h.siz hg.size⟩

/-- Nothing but the ordinary end. -/
def NormalOnly (K : Act → World → Prop) : Exit → Act → World → Prop
  | .normal, a, w => K a w
  | _, _, _ => False
theorem wpIn_normal {F : Fence} {n : Nat} {P : Program} {c : Code} {K : Act → World → Prop} {Q : Exit → Act → World → Prop} {a : Act} {w : World} (h : c.wpIn F n P (NormalOnly K) a w) : c.wpIn F n P (Exit.then K Q) a w :=
  wpIn_mono h fun e a w hq => by
    cases e with
    | normal => exact hq
    | _ => exact hq.elim

theorem U.put {W : World} {v : Value} {xs : List Nat} {l : Nat} {o : Obj} (h : U W v xs) (hl : W.heap[l]? = some o) (ho : o.isCells = false) (o' : Obj) : U (W.putObj l o') v xs := by
  have hg := grownBy_putObj' W l o'
  obtain ⟨A, c, rfl, hc, hx, hr⟩ := h
  refine ⟨A, c, rfl, hc, hx, fun h0 => ?_⟩
  obtain ⟨ad, hA, hb, hcell⟩ := hr h0
  exact ⟨ad, hA, Nat.lt_of_lt_of_le hb hg.size, fun j hj => cell_kept (hcell j hj) hg (fun r e => by cases e; exact ⟨_, hl, ho⟩)⟩

set_option maxRecDepth 100000 in
set_option maxHeartbeats 4000000 in
theorem add_ge (w : World) (v u : Value) (xs ys : List Nat) (h : U w v xs) (g : U w u ys) (hl : ys.length ≤ xs.length) (hm : xs.length ≤ 1000000000) :
    CallsIn Fence.wide 4 Tryd.prog 27 #[v, u] w fun e w' => (∃ z, e = .returned z ∧ Un w' z (val xs + val ys)) ∧ Below w.heap.size w w' := by
  obtain ⟨A, c, rfl, ⟨hc, _⟩, hx, hr⟩ := id h
  obtain ⟨A2, c2, rfl, ⟨hc2, _⟩, hx2, hr2⟩ := id g
  clear hr hr2
  have hl1 : decide (xs.length < ys.length) = false := by rw [decide_eq_false_iff_not]; omega
  have HL := Lib.hid hl
  clear hl
  obtain ⟨i0, hi, hz0, hz1, hz2⟩ := info_parts info35
  refine callsIn_of_wp_marks Tryd.func27 rfl trivial ?_ rfl
  simp only [Tryd.ntmps27, List.size_toArray, List.length_cons, List.length_nil, Nat.reduceAdd, Nat.reduceSub, Array.replicate_succ, Array.replicate_zero, List.push_toArray, List.append_toArray, List.nil_append, List.cons_append]
  gi_wp2_with (first | (gi_at_make; refine wpListIn_make_own _ rfl _ _ 22 rfl w.heap.size 35 i0 (.int .u32 0) 1 Tryd.underlying22 hi hz0 hz1 _ _ _ (xs.length + 1) rfl rfl (by omega) (by rw [hz2]; omega) (by unfold maxLen; omega) (Nat.le_refl _) ?_; intro w1 hown hgrow) | (refine ⟨trivial, ?_⟩; gi_at_call 48; refine (callsIn_wide.2 (adder_calls _)).mono ?_; rintro e w' ⟨rfl, rfl⟩) | (refine ⟨trivial, ?_⟩; gi_at_call 49; refine (callsIn_wide.2 (pairs_calls _ _ _ _ _ _ _)).mono ?_; rintro e w' ⟨rfl, rfl⟩))
  obtain ⟨B, hB⟩ : ∃ B, w1.heap.size = B := ⟨_, rfl⟩
  obtain ⟨W0, hW0⟩ : ∃ W0, (((((w1.alloc (.cells #[.slice (some ⟨w.heap.size, 0, none⟩) 0 (xs.length + 1)] 22)).alloc (.cells #[.int .u32 0] 35)).alloc (.cells #[.func (.func 62) #[] #[.pointer (some ⟨w1.heap.size + 1, 0, none⟩)]] 65)).alloc (.cells #[.slice A xs.length c] 22)).alloc (.cells #[.slice A2 ys.length c2] 22)) = W0 := ⟨_, rfl⟩
  have hB1 : Below w.heap.size w w1 := (Below.refl _ _).grown hgrow (Nat.le_refl _) (fun _ h => by cases h)
  have hB1s := hB1.size
  have hB0 : Below w.heap.size w W0 := by
    rw [← hW0]
    exact ((((hB1.alloc (by omega) _).alloc (by simp; omega) _).alloc (by simp; omega) _).alloc (by simp; omega) _).alloc (by simp; omega) _
  have hsz : W0.heap.size = B + 5 := by rw [← hW0, ← hB]; simp
  have b0 : Boxed W0 B 22 (.slice (some ⟨w.heap.size, 0, none⟩) 0 (xs.length + 1)) := by
    rw [← hW0, ← hB]; exact ((((Boxed.new w1 22 _).alloc _).alloc _).alloc _).alloc _
  have b1 : Boxed W0 (B + 1) 35 (.int .u32 0) := by
    rw [← hW0, ← hB]
    have := ((((Boxed.new (w1.alloc (.cells #[.slice (some ⟨w.heap.size, 0, none⟩) 0 (xs.length + 1)] 22)) 35 (.int .u32 0)).alloc (.cells #[.func (.func 62) #[] #[.pointer (some ⟨w1.heap.size + 1, 0, none⟩)]] 65)).alloc (.cells #[.slice A xs.length c] 22)).alloc (.cells #[.slice A2 ys.length c2] 22))
    simpa using this
  have b2 : Boxed W0 (B + 2) 65 (.func (.func 62) #[] #[.pointer (some ⟨B + 1, 0, none⟩)]) := by
    rw [← hW0, ← hB]
    have := (((Boxed.new ((w1.alloc (.cells #[.slice (some ⟨w.heap.size, 0, none⟩) 0 (xs.length + 1)] 22)).alloc (.cells #[.int .u32 0] 35)) 65 (.func (.func 62) #[] #[.pointer (some ⟨w1.heap.size + 1, 0, none⟩)])).alloc (.cells #[.slice A xs.length c] 22)).alloc (.cells #[.slice A2 ys.length c2] 22))
    simpa using this
  have b3 : Boxed W0 (B + 3) 22 (.slice A xs.length c) := by
    rw [← hW0, ← hB]
    have := ((Boxed.new (((w1.alloc (.cells #[.slice (some ⟨w.heap.size, 0, none⟩) 0 (xs.length + 1)] 22)).alloc (.cells #[.int .u32 0] 35)).alloc (.cells #[.func (.func 62) #[] #[.pointer (some ⟨w1.heap.size + 1, 0, none⟩)]] 65)) 22 (.slice A xs.length c)).alloc (.cells #[.slice A2 ys.length c2] 22))
    simpa using this
  have b4 : Boxed W0 (B + 4) 22 (.slice A2 ys.length c2) := by
    rw [← hW0, ← hB]
    have := (Boxed.new ((((w1.alloc (.cells #[.slice (some ⟨w.heap.size, 0, none⟩) 0 (xs.length + 1)] 22)).alloc (.cells #[.int .u32 0] 35)).alloc (.cells #[.func (.func 62) #[] #[.pointer (some ⟨w1.heap.size + 1, 0, none⟩)]] 65)).alloc (.cells #[.slice A xs.length c] 22)) 22 (.slice A2 ys.length c2))
    simpa using this
  have hown0 : Own W0 w.heap.size (.slice (some ⟨w.heap.size, 0, none⟩) ([] : List Nat).length (xs.length + 1)) [] := by
    rw [← hW0]; exact ((((World.ownsRow.alloc hown _).alloc _).alloc _).alloc _).alloc _
  have hS0 : SumAt w B w.heap.size (xs.length + 1) 62 [] 0 W0 := ⟨b0, hown0, b1, b2, hB0, by omega⟩
  have hBw : w.heap.size < B := by have := (World.ownsRow.lt hown w.heap.size rfl).2; omega
  have hWr : Boxed W0 B 22 (.slice (some ⟨w.heap.size, 0, none⟩) 0 (xs.length + 1)) := b0
  rw [hW0]
  rw [hB]
  clear hW0 b0 b1 b2 hown0 hown hgrow hB1 hB1s hWr hB
  refine wpIn_rangeFunc_ownG rfl (by omega) (gf := 64) (lb := #[.pointer (some ⟨B + 4, 0, none⟩), .pointer (some ⟨B + 3, 0, none⟩)]) rfl trivial (enters_of Tryd.func64 (by kernel_rfl) rfl)
    (pairs_stops (B + 3) (B + 4) _ _ xs ys w W0 hB0 HL.out (by omega) (by omega) b3 b4 h g) KpP.trans (kpP_b (by omega) (by omega) (by omega)) (Below.refl _ _) (fun _ => rfl)
    (fun pre W => ∃ o cy, Hid (AddInv pre o cy) ∧ SumAt w B w.heap.size (xs.length + 1) 62 o cy W)
    (fun c pre W => False)
    (fun s X Y row hs hg hr => by obtain ⟨o, cy, ha, hs⟩ := hs; exact ⟨o, cy, ha, hs.grown hg (by omega) hr⟩)
    (fun c s X Y row hs hg hr => hs)
    ⟨[], 0, AddInv.start, hS0⟩
    (fun x => { tmps := #[.slice A xs.length c, .slice A2 ys.length c2, undef, undef, .slice none 0 0, .pointer (some ⟨B, 0, none⟩), .pointer (some ⟨B + 1 + 1, 0, none⟩), .int .u32 (x.1.1 : Int), .int .u32 (x.1.2 : Int), .slice A xs.length c, .int .i64 (xs.length : Int), .slice A2 ys.length c2, .int .i64 (ys.length : Int), .bool false, undef, undef, .slice A xs.length c, .int .i64 (xs.length : Int), .int .i64 ((xs.length : Int) + 1), .slice (some ⟨w.heap.size, 0, none⟩) 0 (xs.length + 1), .func (.func 62) #[] #[.pointer (some ⟨B + 1, 0, none⟩)], .slice A xs.length c, .slice A2 ys.length c2, .func (.func 64) #[] #[.pointer (some ⟨B + 1 + 1 + 1 + 1, 0, none⟩), .pointer (some ⟨B + 1 + 1 + 1, 0, none⟩)], .int .u32 (x.1.1 : Int), .int .u32 (x.1.2 : Int), undef, undef, undef, undef, undef, undef, undef, undef, undef, undef, undef, undef, undef], defers := [] }) ?assign ?body ?done ?stop
  case assign =>
    intro l x W K hK
    gi_wp2
    exact hK
  case body =>
    rintro l pre x W ⟨o, cy, HA, hS⟩ hpl
    have hb0 := hS.box.cell
    have hf0 := hS.box.frozen
    have hb1 := hS.car.cell
    have hf1 := hS.car.frozen
    have hb2 := hS.fnc.cell
    have hmx : Tryd.prog.follows .mixedOrders = true := by kernel_rfl
    have hcy := HA.out.carry
    have hlen := HA.out.len
    have hol : o.length + 1 ≤ xs.length + 1 := by omega
    have HA2 := Lib.hid (HA.out.step x)
    obtain ⟨d, hd⟩ : ∃ d, (x.1.1 + x.1.2 + cy) % 4294967296 = d := ⟨_, rfl⟩
    obtain ⟨cz, hcz⟩ : ∃ d, (x.1.1 + x.1.2 + cy) / 4294967296 = d := ⟨_, rfl⟩
    have hcall := adder1_calls W.drew x.1.1 x.1.2 cy (B + 1) x.2.1 x.2.2 hcy hb1 hf1
    rw [hd, hcz] at hcall HA2
    obtain ⟨W1, hW1⟩ : ∃ W1, W.drew.setCell ⟨B + 1, 0, none⟩ (.int .u32 (cz : Nat)) = W1 := ⟨_, rfl⟩
    rw [hW1] at hcall
    have hsz1 : W1.heap.size = W.heap.size := by rw [← hW1]; simp [World.setCell]
    have hg1 : W.grownBy W1 (some (B + 1)) := by rw [← hW1]; have hq := grownBy_setCell' W.drew (B + 1) (.int .u32 (cz : Nat)); exact ⟨hq.os, hq.tape, hq.output, hq.size, hq.block⟩
    have hown1 : (W1.alloc (.cells #[.int .u32 (d : Nat)] 35)).ownsRow w.heap.size 35 1 (.slice (some ⟨w.heap.size, 0, none⟩) o.length (xs.length + 1)) o.length (L32 o) :=
      World.ownsRow.alloc (World.ownsRow.kept hS.own hg1 (.inr (by simp [Value.ownBlock]; omega))) _
    have hx0 := hS.box.kept hg1 (by intro e; injection e with e; omega)
    have hx2 := hS.fnc.kept hg1 (by intro e; injection e with e; omega)
    have hx1 : Boxed W1 (B + 1) 35 (.int .u32 (cz : Nat)) := by rw [← hW1]; exact Boxed.set (W := W.drew) _ hS.car
    have hxb : Below w.heap.size w W1 := hS.bel.grown hg1 hS.bel.size (fun k e => by injection e with e; omega)
    have hxW : Below w.heap.size W W1 := (Below.refl _ W).grown hg1 hS.bel.size (fun k e => by injection e with e; omega)
    have hko : KeepsOthers W W1 := by rw [← hW1]; exact (KeepsOthers.drew W).trans (KeepsOthers.setCell _ _ _)
    obtain ⟨W2, hrun, hown2, hgrow2⟩ := run_append_fits (P := Tryd.prog) (W1.alloc (.cells #[.int .u32 (d : Nat)] 35)) w.heap.size 22 22 35 i0 1 Tryd.underlying22 hi hz1 w.heap.size o.length (xs.length + 1) (L32 o) hown1
      ⟨W1.heap.size, 0, none⟩ 1 1 [.int .u32 (d : Nat)] rfl (by intro j u hj; cases j with | zero => simp at hj; subst hj; simp [Addr.add] | succ j => simp at hj) (by simp [Value.oneCell']) hol
    have hy0 := (hx0.alloc (.cells #[.int .u32 (d : Nat)] 35)).kept hgrow2 (by intro e; injection e with e; omega)
    have hy1 := (hx1.alloc (.cells #[.int .u32 (d : Nat)] 35)).kept hgrow2 (by intro e; injection e with e; omega)
    have hy2 := (hx2.alloc (.cells #[.int .u32 (d : Nat)] 35)).kept hgrow2 (by intro e; injection e with e; omega)
    have hyb : Below w.heap.size w W2 := (hxb.alloc hxb.size _).grown hgrow2 (by have := hxb.size; rw [World.size_alloc]; omega) (fun k e => by injection e with e; omega)
    have hyW : Below w.heap.size W W2 := (hxW.alloc hxb.size _).grown hgrow2 (by have := hxb.size; rw [World.size_alloc]; omega) (fun k e => by injection e with e; omega)
    have hkeep : ∀ k, k < W.heap.size → k ≠ B + 1 → k ≠ w.heap.size → W2.heap[k]? = W.heap[k]? := fun k h1 h2 h3 =>
      ((hgrow2.block k (by rw [World.size_alloc]; omega) (fun e => h3 (by injection e))).trans (Below.heap_alloc _ _ k (by omega))).trans (hg1.block k h1 (fun e => h2 (by injection e)))
    have hko2 : KeepsOthers W W2 := (hko.trans (KeepsOthers.alloc _ _)).trans (KeepsOthers.of_grownBy hgrow2 fun j ob ej hj => by
      cases ej
      rcases hown1.2 with ⟨h', _⟩ | ⟨g', cap', cur, h', _, hg, _⟩
      · cases h'
      · cases h'; rw [hg] at hj; cases hj; rfl)
    have hyc0 := hy0.cell
    have hxc0 := hx0.cell
    have hxc1 := (hx0.alloc (.cells #[.int .u32 (d : Nat)] 35)).cell
    have hyf0 := hy0.frozen
    have HW1 := Lib.hid hsz1
    obtain ⟨ht1, ht2, ht3⟩ := app_tok hrun
    clear hrun hW1 hsz1 hd hcz hg1 hlen
    gi_wp2
    gi_region_with_o ((refine ⟨trivial, ?_⟩; gi_at_call 62; refine (CallsIn.inRound l (callsIn_wide.2 hcall)).mono ?_; rintro e w' ⟨rfl, rfl⟩))
    all_goals gi_wp2
    all_goals
      have hsiz := hS.siz
      have hW2s := hko2.size
      have hset := grownBy_setCell' W2 B (.slice (some ⟨w.heap.size, 0, none⟩) (o.length + 1) (xs.length + 1))
      have hrow : (W2.setCell ⟨B, 0, none⟩ (.slice (some ⟨w.heap.size, 0, none⟩) (o.length + 1) (xs.length + 1))).ownsRow w.heap.size 35 1 (.slice (some ⟨w.heap.size, 0, none⟩) (o.length + 1) (xs.length + 1)) (o.length + 1) (L32 o ++ [.int .u32 (d : Nat)]) :=
        World.ownsRow.kept hown2 hset (.inr (by simp only [Value.ownBlock]; intro e; injection e with e; omega))
      refine ⟨(hko2.trans (KeepsOthers.setCell _ _ _)).from _, ⟨hyW.setCell (p := ⟨B, 0, none⟩) (Nat.le_of_lt hBw) _, ?_, ?_⟩, o ++ [d], cz, HA2.out, ?_, ?_, hy1.other (by omega) _, hy2.other (by omega) _, hyb.setCell (p := ⟨B, 0, none⟩) (Nat.le_of_lt hBw) _, ?_⟩
      · exact (hset.block (B + 3) (by omega) (fun e => by injection e with e; omega)).trans (hkeep (B + 3) (by omega) (by omega) (by omega))
      · exact (hset.block (B + 4) (by omega) (fun e => by injection e with e; omega)).trans (hkeep (B + 4) (by omega) (by omega) (by omega))
      · rw [List.length_append]; exact hy0.set _
      · unfold Own; rw [L32_append, List.length_append]; exact hrow
      · have := hset.size; omega
  case done =>
    rintro D l W hD hl ⟨o, cy, HA, hS⟩ hK
    have hb0 := hS.box.cell
    have hb1 := hS.car.cell
    have hf1 := hS.car.frozen
    have hb2 := hS.fnc.cell
    have hsiz := hS.siz
    have hmx : Tryd.prog.follows .mixedOrders = true := by kernel_rfl
    have hcy := HA.out.carry
    have hlen := HA.out.len
    have hdone := HA.out.done hl HL.out
    have hltl := snoc_lt HA.out.lt (show cy < 4294967296 by omega)
    have hol : o.length = xs.length := by rw [hlen]; have := congrArg List.length hl; simpa [pairsL] using this
    have hcall := adder1_calls W.drew 0 0 cy (B + 1) (by decide) (by decide) hcy hb1 hf1
    rw [show (0 + 0 + cy) % 4294967296 = cy by omega, show (0 + 0 + cy) / 4294967296 = 0 by omega, show (((0 : Nat)) : Int) = 0 from rfl] at hcall
    obtain ⟨W1, hW1⟩ : ∃ W1, W.drew.setCell ⟨B + 1, 0, none⟩ (.int .u32 0) = W1 := ⟨_, rfl⟩
    rw [hW1] at hcall
    have hsz1 : W1.heap.size = W.heap.size := by rw [← hW1]; simp [World.setCell]
    have hg1 : W.grownBy W1 (some (B + 1)) := by rw [← hW1]; have hq := grownBy_setCell' W.drew (B + 1) (.int .u32 0); exact ⟨hq.os, hq.tape, hq.output, hq.size, hq.block⟩
    have hown1 : (W1.alloc (.cells #[.int .u32 (cy : Nat)] 35)).ownsRow w.heap.size 35 1 (.slice (some ⟨w.heap.size, 0, none⟩) o.length (xs.length + 1)) o.length (L32 o) :=
      World.ownsRow.alloc (World.ownsRow.kept hS.own hg1 (.inr (by simp [Value.ownBlock]; omega))) _
    have hx0 := hS.box.kept hg1 (by intro e; injection e with e; omega)
    have hxb : Below w.heap.size w W1 := hS.bel.grown hg1 hS.bel.size (fun k e => by injection e with e; omega)
    have hko : KeepsOthers W W1 := by rw [← hW1]; exact (KeepsOthers.drew W).trans (KeepsOthers.setCell _ _ _)
    obtain ⟨W2, hrun, hown2, hgrow2⟩ := run_append_fits (P := Tryd.prog) (W1.alloc (.cells #[.int .u32 (cy : Nat)] 35)) w.heap.size 22 22 35 i0 1 Tryd.underlying22 hi hz1 w.heap.size o.length (xs.length + 1) (L32 o) hown1
      ⟨W1.heap.size, 0, none⟩ 1 1 [.int .u32 (cy : Nat)] rfl (by intro j u hj; cases j with | zero => simp at hj; subst hj; simp [Addr.add] | succ j => simp at hj) (by simp [Value.oneCell']) (by omega)
    have hyb : Below w.heap.size w W2 := (hxb.alloc hxb.size _).grown hgrow2 (by have := hxb.size; rw [World.size_alloc]; omega) (fun k e => by injection e with e; omega)
    have hko2 : KeepsOthers W W2 := (hko.trans (KeepsOthers.alloc _ _)).trans (KeepsOthers.of_grownBy hgrow2 fun j ob ej hj => by
      cases ej
      rcases hown1.2 with ⟨h', _⟩ | ⟨g', cap', cur, h', _, hg, _⟩
      · cases h'
      · cases h'; rw [hg] at hj; cases hj; rfl)
    have hK2 := hko2.same D _ hK rfl
    have hu : U W2 (.slice (some ⟨w.heap.size, 0, none⟩) (o.length + 1) (xs.length + 1)) (o ++ [cy]) := by
      refine Own.toU (base := w.heap.size) ?_ hltl (by rw [List.length_append, List.length_singleton]; omega)
      unfold Own; rw [L32_append, List.length_append]; exact hown2
    have hxc0 := hx0.cell
    have hxc1 := (hx0.alloc (.cells #[.int .u32 (cy : Nat)] 35)).cell
    obtain ⟨ht1, ht2, ht3⟩ := app_tok hrun
    have HD := Lib.hid hdone
    clear hrun hW1 hsz1 hg1 hlen hdone hol hl
    gi_wp2
    refine wpIn_normal ?_
    gi_region_with_o (first | (refine ⟨trivial, ?_⟩; gi_at_call 62; refine (callsIn_wide.2 hcall).mono ?_; rintro e w' ⟨rfl, rfl⟩) | (refine ⟨trivial, ?_⟩; gi_at_call 32; refine (callsIn_wide.2 (make_calls _ _ _ hu)).mono ?_; rintro e w' ⟨⟨z, rfl, hz⟩, rfl⟩))
    all_goals unfold NormalOnly
    all_goals gi_wp2
    all_goals
      refine ⟨by simp, .inl ⟨_, _, rfl, run_takeDeferred hK2, ?_⟩⟩
      refine ⟨_, results_tmp rfl _ _ _, ⟨_, rfl, ?_⟩, hyb.trans (belowK_b (w := w) (Nat.le_refl _) _ D _ _ (by omega) hK2 rfl rfl)⟩
      rw [HD.out] at hz
      exact hz.put hK2 rfl _
  case stop =>
    rintro D cc pre W hD _ h _
    exact h.elim
end Go.Proofs.YtkmejhkdmnjbeaaDoor
